import PyProof.Rows.All
import Wide.All
import OpenK.AllK
import Wide.FinOn
import Lean
import PyProof.EqAt
import PyProof.EqKinds
import PyProof.TupleCall
import PyProof.Rows.EqDataRows
import PyProof.DictList
import PyProof.FactsAll.dict_1
import PyProof.FactsAll.subtypes_4
import KE.KTryMore
import PyProof.WalksEnum
import PyProof.EnumMake
import PyProof.ListStr
import PyProof.TupleOfStr
import PyProof.Dict
import PyProof.ToksMono
import PyProof.StrCalls6
import PyProof.StrWalks
import PyProof.ConsumeWalk
import PyProof.CallStr
import PyProof.MeetsStr
import KE.KIntText
import PyProof.StrLawsIn
import PySem.Challenge.RW_inkloom_k15_papers_beside_texts
set_option Elab.async false
set_option linter.all false
set_option maxRecDepth 100000
set_option compiler.extract_closed false
noncomputable section
open PySem.W (callWith_K callWith_K0 cellsFrom_some codeIn emptyDict findIn fnOf handedIn hasDictIn hideAll hideAll_get instObj isFn keepIn kia_one kitOne kitx_dict kitx_list lookIn makesIn methodObj mg_none_of mroIn of_hideAll plainGet plainGet_of plainOver specialIn takerIn takesIn)
namespace L2
open PySem PySem.Spec PyProof.Rows
abbrev Key:=Sum Int Str
def lR:Key→Value→Bool
 | .inl k,v=>Value.isInt k v
 | .inr x,v=>Value.isStrOf x v
def Mo(w:World):Key→Int
 | .inl k=>hashInt k
 | .inr x=>hashStr w x
theorem gp: ∀{k:Key} {v:Value},lR k v=true→(∃i t,k=Sum.inl i∧v=Value.int i t)∨(∃x t,k=Sum.inr x∧v=Value.str x t)
 | .inl i,v,h=>by
  obtain⟨t,e⟩:=Value.isInt_shape (k:=i) (v:=v) h
  exact .inl ⟨i,t,rfl,e⟩
 | .inr x,v,h=>by
  obtain⟨t,e⟩:=Value.isStrOf_shape (x:=x) (v:=v) h
  exact .inr ⟨x,t,rfl,e⟩
theorem Mp(i:Int)(t:Tok):lR (.inl i) (.int i t)=true:=by simp[lR,Value.isInt]
theorem Mq(x:Str)(t:Tok):lR (.inr x) (.str x t)=true:=by simp[lR,Value.isStrOf]
theorem Mr(a b:Int):decide ((Sum.inl a:Key)=Sum.inl b)=(a==b):=by
 by_cases e:a=b
 ·subst e;simp
 ·have h: ¬(Sum.inl a:Key)=Sum.inl b:=fun q=>e (Sum.inl.inj q)
  rw[decide_eq_false h]
  exact(beq_eq_false_iff_ne.mpr e).symm
theorem Ms(a b:Str):decide ((Sum.inr a:Key)=Sum.inr b)=decide (a=b):=by
 by_cases e:a=b
 ·subst e;simp
 ·have h: ¬(Sum.inr a:Key)=Sum.inr b:=fun q=>e (Sum.inr.inj q)
  rw[decide_eq_false h,decide_eq_false e]
theorem Mt(a:Int)(b:Str):decide ((Sum.inl a:Key)=Sum.inr b)=false:=decide_eq_false (fun q=>nomatch q)
theorem Mu(a:Str)(b:Int):decide ((Sum.inr a:Key)=Sum.inl b)=false:=decide_eq_false (fun q=>nomatch q)
def fA(prog:Program)(w:World):PySem.KeyKind prog w Key where
 is:=lR
 hash:=Mo w
 inj:=fun v a b ha hb=>by
  rcases gp ha with⟨i,t,rfl,rfl⟩ | ⟨x,t,rfl,rfl⟩
  ·rcases gp hb with⟨j,u,rfl,e⟩ | ⟨y,u,rfl,e⟩
   ·injection e with e1 _;rw[e1]
   ·exact nomatch e
  ·rcases gp hb with⟨j,u,rfl,e⟩ | ⟨y,u,rfl,e⟩
   ·exact nomatch e
   ·injection e with e1 _;rw[e1]
 byValue:=fun k v h=>by
  rcases gp h with⟨i,t,rfl,rfl⟩ | ⟨x,t,rfl,rfl⟩ <;>rfl
 pyHash:=fun hv h=>by
  rcases gp hv with⟨i,t,rfl,rfl⟩ | ⟨x,t,rfl,rfl⟩
  ·exact wpAny_pyHash_int h
  ·exact wpAny_pyHash_str h
 eqBool:=fun hu hv h=>by
  rcases gp hu with⟨i,t,rfl,rfl⟩ | ⟨x,t,rfl,rfl⟩
  ·rcases gp hv with⟨j,u,rfl,rfl⟩ | ⟨y,u,rfl,rfl⟩
   ·rw[Mr] at h;exact wpAny_eqBool_int h
   ·rw[Mt] at h;exact SeqAt.EqAt.int_str i t y u _ _ _ _ h
  ·rcases gp hv with⟨j,u,rfl,rfl⟩ | ⟨y,u,rfl,rfl⟩
   ·rw[Mu] at h;exact SeqAt.EqAt.str_int x t j u _ _ _ _ h
   ·rw[Ms] at h;exact wpAny_eqBool_str h
 «strs»:=fun k x t v h=>by
  rcases gp h with⟨i,u,rfl,e⟩ | ⟨y,u,rfl,e⟩
  ·exact nomatch e
  ·injection e with e1 _
   subst e1
   cases v<;>rfl
theorem Mv(prog:Program)(w:World)(i:Int)(t:Tok):(fA prog w).is (.inl i) (.int i t)=true:=Mp i t
theorem Mw(prog:Program)(w:World)(x:Str)(t:Tok):(fA prog w).is (.inr x) (.str x t)=true:=Mq x t
inductive V where
 | av | bl (b:Bool) | int (i:Int) | str (x:Str) | di (b:Array UInt8) | hJ (b:UInt64) | ref (a:Addr) | ty (n:String)
 deriving DecidableEq
def RelV:V→Value→Prop
 | .av,u=>u=Value.none
 | .bl b,u=>u=Value.bool b
 | .int i,u=> ∃t,u=Value.int i t
 | .str x,u=> ∃t,u=Value.str x t
 | .di b,u=> ∃t,u=Value.bytes b t
 | .hJ b,u=> ∃t,u=Value.float b t
 | .ref a,u=>u=Value.ref a
 | .ty n,u=>u=Value.type n
abbrev Vals:List V→List Value→Prop:=Paired RelV
theorem Vals.length{xs:List V}{us:List Value}(r:Vals xs us):xs.length=us.length:=Paired.length r
theorem Vals.get: ∀{xs:List V} {us:List Value} {i:Nat} {x:V},Vals xs us→xs[i]?=some x→ ∃u,us[i]?=some u∧RelV x u
 | _,_,_,_, .nil,e=>by simp at e
 | _,_,0,_, .cons r _,e=>by simp at e;subst e;exact⟨_,rfl,r⟩
 | _,_,i+1,x, .cons _ t,e=>by
  obtain⟨u,h1,h2⟩:=Vals.get (i:=i) (x:=x) t (by simpa using e)
  exact⟨u,by simpa using h1,h2⟩
theorem Vals.set{x:V}{u:Value}(r:RelV x u): ∀{xs:List V} {us:List Value} (i:Nat),Vals xs us→Vals (xs.set i x) (us.set i u)
 | _,_,_, .nil=> .nil
 | _,_,0, .cons _ t=> .cons r t
 | _,_,i+1, .cons q t=> .cons q (Vals.set r i t)
theorem Vals.append: ∀{xs ys:List V} {us ws:List Value},Vals xs us→Vals ys ws→Vals (xs++ys) (us++ws)
 | _,_,_,_, .nil,s=>s
 | _,_,_,_, .cons r t,s=> .cons r (Vals.append t s)
theorem Vals.take: ∀{xs:List V} {us:List Value} (n:Nat),Vals xs us→Vals (xs.take n) (us.take n)
 | _,_,0,_=> .nil
 | _,_,_+1, .nil=> .nil
 | _,_,n+1, .cons r t=> .cons r (Vals.take n t)
theorem Vals.drop: ∀{xs:List V} {us:List Value} (n:Nat),Vals xs us→Vals (xs.drop n) (us.drop n)
 | _,_,0,r=>r
 | _,_,_+1, .nil=> .nil
 | _,_,n+1, .cons _ t=>Vals.drop n t
def fB:Option V→Option Value→Prop
 | some v,some u=>RelV v u
 | none,none=>True
 | _,_=>False
def KV{κ:Type}:List (κ×V)→List (κ×Value)→Prop:=Paired fun(p:κ×V) (q:κ×Value)=>p.1=q.1∧RelV p.2 q.2
def kV:Key→V
 | .inl i=> .int i
 | .inr x=> .str x
inductive HO where
 | lst (xs:List V)
 | tup (xs:List V)
 | dK (aJ:List (Key×V)) | dT (aJ:List (List Key×V))
 | set (S:Int→Bool) (n:Nat)
 | ins (C dx:Addr) (fs:List (Str×V))
 | own (x:Addr)
 | xd (fs:List (Str×V))
 | met (f x:Addr)
 | eG (lo hi:Int)
 | bM (o:Obj) (u:HO)
 | fD (ps:Array Value)
 | ext (φ:Heap→Prop)
abbrev Hp:=Addr→Option HO
def upd(H:Hp)(a:Addr)(o:HO):Hp:=fun b=>if b=a then some o else H b
theorem aN{H:Hp}{a:Addr}{o:HO}:upd H a o a=some o:=by unfold upd;rw[if_pos rfl]
theorem aK{H:Hp}{a b:Addr}{o:HO}(h:b≠a):upd H a o b=H b:=by unfold upd;rw[if_neg h]
theorem tN{H:Hp}{a b:Addr}{o u:HO}(h:H a=some o)(h':H b=some u)(d:o≠u):a≠b:=by
 intro e;subst e;rw[h] at h';exact d (Option.some.inj h')
theorem bW{H:Hp}{a b:Addr}{o:HO}(h:H a=some o)(h':H b=none):a≠b:=by
 intro e;subst e;rw[h] at h';cases h'
section
variable (P:Program) (w:World)
def cq(H:Hp)(h:Heap)(a:Addr):HO→Prop
 | .lst xs=>xs.length≤sizeLine∧ ∃(its:List Value) (n:Nat),Vals xs its∧h.get? a=some {cls:= .type "list",data:= .seq its.toArray n}
 | .tup xs=>xs.length≤sizeLine∧ ∃its:List Value,Vals xs its∧IsTup h a its.toArray
 | .dK aJ=>aJ.length≤sizeLine∧(a==sysModules)=false∧ ∃vs,KV aJ vs∧h.DictOf (fA P w) a vs
 | .dT aJ=>aJ.length≤sizeLine∧(a==sysModules)=false∧ ∃xs:List (List Key×Addr×Value),
   Paired (fun(p:List Key×V) (q:List Key×Addr×Value)=>p.1=q.1∧H q.2.1=some (.tup (p.1.map kV))∧RelV p.2 q.2.2) aJ xs∧
   ∃o es ep,h.get? a=some o∧o.ExactDict∧o.data= .dict es ep∧es.toList=xs.map (entryOfKey (tupleKind (fA P w)))∧(xs.map (·.1)).Nodup
 | .set S n=>h.SetOf (intKind P w) a S n
 | .ins C dx fs=>H dx=some (.own a)∧fs.length≤1000∧dx≠a∧h.get? a=some (instObj C dx)∧
   ∃mA,h.Ns1 dx mA∧(∀f,fB (fs.lookup f) (mA f))∧PySem.Within mA (fs.map (·.1))
 | .own _=> ∃o,h.get? a=some o
 | .xd fs=> ∃mA,h.Ns1 a mA∧ ∀f,fB (fs.lookup f) (mA f)
 | .eG lo hi=> ∃t u v,h.get? a=some {cls:= .type "range",data:= .fields #[.int lo t, .int hi u, .int 1 v]}
 | .bM o u=>h.get? a=some o∧cq H h a u
 | .fD ps=>h.get? a=some {cls:= .none,data:= .fields ps}
 | .met f x=>h.get? a=some (methodObj (.ref f) (.ref x))
 | .ext φ=>φ h∧(∃o,h.get? a=some o)∧ ∀h1 h2:Heap,φ h1→(∀o,h1.get? a=some o→h2.get? a=some o)→φ h2
def b8(H:Hp)(h:Heap):Prop:= ∀a o,H a=some o→cq P w H h a o
end
section
variable {P:Program} {w:World} {H H':Hp} {h h':Heap} {a:Addr} {o:HO}
theorem cq.lt(x:cq P w H h a o):a<h.objs.size:=by
 cases o with
 | lst xs=>obtain⟨_,_,_,_,e⟩:=x;exact Heap.lt_size e
 | tup xs=>obtain⟨_,_,_,p⟩:=x;exact p.lt
 | dK aJ=>obtain⟨_,_,_,_,o,_,_,e,_⟩:=x;exact Heap.lt_size e
 | dT aJ=>obtain⟨_,_,_,_,o,_,_,e,_⟩:=x;exact Heap.lt_size e
 | set S n=>obtain⟨o,_,_,_,e,_⟩:=x;exact Heap.lt_size e
 | ins C dx fs=>obtain⟨_,_,_,e,_⟩:=x;exact Heap.lt_size e
 | own y=>obtain⟨_,e⟩:=x;exact Heap.lt_size e
 | xd fs=>obtain⟨_,⟨_,_,_,e,_⟩,_⟩:=x;exact Heap.lt_size e
 | eG lo hi=>obtain⟨_,_,_,e⟩:=x;exact Heap.lt_size e
 | bM ob u=>obtain⟨e,_⟩:=x;exact Heap.lt_size e
 | fD ps=>exact Heap.lt_size (show h.get? a=some _ from x)
 | met f y=>exact Heap.lt_size (show h.get? a=some _ from x)
 | ext φ=>obtain⟨_,⟨_,e⟩,_⟩:=x;exact Heap.lt_size e
theorem Paired.DQ{α β:Type}{F G:α→β→Prop}: ∀{l₁:List α} {l₂:List β},Paired F l₁ l₂→(∀a b,F a b→G a b)→Paired G l₁ l₂
 | _,_, .nil,_=> .nil
 | _,_, .cons r t,f=> .cons (f _ _ r) (Paired.DQ t f)
theorem cq.gu(x:cq P w H h a o)(k: ∀b u,(b=a∨H b=some (.own a))→h.get? b=some u→h'.get? b=some u)
  (ho: ∀b,H b=some (.own a)→H' b=some (.own a)) (ht: ∀b xs,H b=some (.tup xs)→H' b=some (.tup xs)):cq P w H' h' a o:=by
 induction o with
 | lst xs=>obtain⟨z,its,n,r,e⟩:=x;exact⟨z,its,n,r,k _ _ (.inl rfl) e⟩
 | tup xs=>obtain⟨z,its,r,ob,e,c⟩:=x;exact⟨z,its,r,ob,k _ _ (.inl rfl) e,c⟩
 | dK aJ=>obtain⟨z,y,vs,r,ob,es,ep,e,c⟩:=x;exact⟨z,y,vs,r,ob,es,ep,k _ _ (.inl rfl) e,c⟩
 | dT aJ=>
  obtain⟨z,y,xs,r,ob,es,ep,e,c⟩:=x
  exact⟨z,y,xs,Paired.DQ r fun p q z=> ⟨z.1,ht _ _ z.2.1,z.2.2⟩,ob,es,ep,k _ _ (.inl rfl) e,c⟩
 | set S n=>obtain⟨ob,es,ep,t,e,c⟩:=x;exact⟨ob,es,ep,t,k _ _ (.inl rfl) e,c⟩
 | ins C dx fs=>
  obtain⟨d,z,ne,e,mA,⟨od,es,ep,e2,c⟩,r⟩:=x
  exact⟨ho _ d,z,ne,k _ _ (.inl rfl) e,mA,⟨od,es,ep,k _ _ (.inr d) e2,c⟩,r⟩
 | own y=>obtain⟨ob,e⟩:=x;exact⟨ob,k _ _ (.inl rfl) e⟩
 | xd fs=>obtain⟨mA,⟨od,es,ep,e,c⟩,r⟩:=x;exact⟨mA,⟨od,es,ep,k _ _ (.inl rfl) e,c⟩,r⟩
 | eG lo hi=>obtain⟨t,u,v,e⟩:=x;exact⟨t,u,v,k _ _ (.inl rfl) e⟩
 | bM ob u ih=>obtain⟨e,q⟩:=x;exact⟨k _ _ (.inl rfl) e,ih q⟩
 | fD ps=>
  have e:h.get? a=some {cls:= .none,data:= .fields ps}:=x
  show h'.get? a=some {cls:= .none,data:= .fields ps}
  exact k a _ (.inl rfl) e
 | met f y=>
  have e:h.get? a=some (methodObj (.ref f) (.ref y)):=x
  show h'.get? a=some (methodObj (.ref f) (.ref y))
  exact k a _ (.inl rfl) e
 | ext φ=>obtain⟨p,⟨o,e⟩,st⟩:=x;exact⟨st _ _ p fun o q=>k _ _ (.inl rfl) q,⟨o,k _ _ (.inl rfl) e⟩,st⟩
theorem b8.lt(x:b8 P w H h)(e:H a=some o):a<h.objs.size:=(x a o e).lt
theorem b8.fresh(x:b8 P w H h)(e:h.objs.size≤a):H a=none:=by
 cases q:H a with
 | none=>rfl
 | some u=>exact absurd (Nat.lt_of_lt_of_le (x.lt q) e) (Nat.lt_irrefl _)
theorem b8.kept(x:b8 P w H h)(k: ∀b u,h.get? b=some u→h'.get? b=some u):b8 P w H h':=fun a o e=>
 (x a o e).gu (fun b u _ q=>k b u q) (fun _ q=>q) fun _ _ q=>q
theorem b8.laid(x:b8 P w H h)(k: ∀b u,h.get? b=some u→h'.get? b=some u)(hp:h.objs.size≤a)(new:cq P w (upd H a o) h' a o):b8 P w (upd H a o) h':=fun b u e=>by
 have hn:=x.fresh hp
 by_cases hb:b=a
 ·subst hb;rw[aN] at e;cases e;exact new
 ·rw[aK hb] at e
  exact(x b u e).gu (fun c v _ q=>k c v q) (fun c q=>by rw[aK (bW q hn)];exact q) fun c xs q=>by rw[aK (bW q hn)];exact q
end
def Rd(H:Hp)(a:Addr)(u:HO):Prop:=H a=some u∨ ∃o,H a=some (.bM o u)
theorem Rd.ok{P:Program}{w:World}{H:Hp}{h:Heap}{a:Addr}{u:HO}(r:Rd H a u)(x:b8 P w H h):cq P w H h a u:=by
 rcases r with r | ⟨o,r⟩
 ·exact x a u r
 ·obtain⟨_,q⟩:=x a _ r
  exact q
def pB:Option HO→Prop
 | some (.lst _)=>True
 | some (.dK _)=>True
 | some (.dT _)=>True
 | some (.set _ _)=>True
 | some (.ins _ _ _)=>True
 | some (.ext _)=>True
 | _=>False
section
variable {P:Program} {w:World} {H:Hp} {h h':Heap} {x e:Addr} {o':HO}
theorem b8.write(ok:b8 P w H h)(mu:pB (H x))(he:e=x∨H e=some (.own x))(k: ∀b u,b≠e→h.get? b=some u→h'.get? b=some u)(lS: ∃u,h'.get? e=some u)
  (new:cq P w (upd H x o') h' x o'):b8 P w (upd H x o') h':=fun b u q=>by
 have DR: ∀c y,H c=some (.own y)→c≠x:=fun c y r z=>by subst z;rw[r] at mu;exact mu
 have Mx: ∀c xs,H c=some (.tup xs)→c≠x:=fun c xs r z=>by subst z;rw[r] at mu;exact mu
 by_cases hb:b=x
 ·subst hb;rw[aN] at q;cases q;exact new
 ·rw[aK hb] at q
  by_cases i6:b=e
  ·have q':H b=some (.own x):=by
    rcases he with z | z
    ·exact absurd (i6.trans z) hb
    ·rw[i6];exact z
   rw[q] at q';cases q'
   obtain⟨v,hv⟩:=lS
   exact⟨v,by rw[i6];exact hv⟩
  ·refine(ok b u q).gu (fun c v hc r=>k c v ?_ r) (fun c r=>by rw[aK (DR c b r)];exact r) fun c xs r=>by rw[aK (Mx c xs r)];exact r
   rcases hc with rfl | hc
   ·exact i6
   ·rintro rfl
    rcases he with z | z
    ·exact DR c b hc z
    ·rw[hc] at z;cases z;exact hb rfl
end
structure Un (fs ex:List Addr) (H H':Hp) (h h':Heap):Prop where
 keep: ∀b o,h.get? b=some o→H b=none→b∉fs→b∉ex→h'.get? b=some o
 slot: ∀b o,h.get? b=some o→H b=none→b∈fs→b∉ex→ ∃sl,h'.get? b=some {o with slots:=sl}
 free: ∀b o,h.get? b=some o→H b=none→b∉ex→H' b=none
 there: ∀b o,h.get? b=some o→b∉ex→ ∃o',h'.get? b=some o'
 b6: ∀b xs,H b=some (.tup xs)→H' b=some (.tup xs)
 dO: ∀b o u,H b=some (.bM o u)→H' b=some (.bM o u)
 d6: ∀b ps,H b=some (.fD ps)→ ∃more,H' b=some (.fD (ps++more))
section
variable {fs My ex ex':List Addr} {H H1 H2:Hp} {h h1 h2 h':Heap} {a x e:Addr} {o:HO}
theorem Un.any(u:Un fs ex H H1 h h1){b:Addr}{ob:Obj}(q:h.get? b=some ob)(n:H b=none)(hx:b∉ex): ∃sl,h1.get? b=some {ob with slots:=sl}:=by
 by_cases hb:b∈fs
 ·exact u.slot b ob q n hb hx
 ·exact⟨ob.slots,u.keep b ob q n hb hx⟩
theorem Un.kept(k: ∀b u,h.get? b=some u→h'.get? b=some u):Un fs ex H H h h':=
 ⟨fun b ob q _ _ _=>k b ob q,fun b ob q _ _ _=> ⟨ob.slots,k b ob q⟩,fun _ _ _ n _=>n,fun b ob q _=> ⟨ob,k b ob q⟩,fun _ _ q=>q,fun _ _ _ q=>q,fun _ ps q=> ⟨#[],by rw[q];simp⟩⟩
theorem Un.refl:Un fs ex H H h h:=Un.kept fun _ _ q=>q
theorem Un.laid(k: ∀b u,h.get? b=some u→h'.get? b=some u)(hp:h.objs.size≤a)(hn:H a=none):Un fs ex H (upd H a o) h h' where
 keep:=fun b u q _ _ _=>k b u q
 slot:=fun b u q _ _ _=> ⟨u.slots,k b u q⟩
 free:=fun b u q n _=>by rw[aK (Nat.ne_of_lt (Nat.lt_of_lt_of_le (Heap.lt_size q) hp))];exact n
 there:=fun b u q _=> ⟨u,k b u q⟩
 b6:=fun b xs q=>by rw[aK (bW q hn)];exact q
 dO:=fun b u xs q=>by rw[aK (bW q hn)];exact q
 d6:=fun b ps q=> ⟨#[],by rw[aK (bW q hn),q];simp⟩
theorem Un.write(mu:pB (H x))(he:e=x∨H e=some (.own x))(k: ∀b u,b≠e→h.get? b=some u→h'.get? b=some u)(lS: ∃u,h'.get? e=some u):Un fs ex H (upd H x o) h h':=by
 have hx: ∀b,H b=none→b≠x:=fun b n z=>by subst z;rw[n] at mu;exact mu
 have hb: ∀b,H b=none→b≠e:=fun b n z=>by
  subst z
  rcases he with r | r
  ·exact hx b n r
  ·rw[n] at r;cases r
 have hm: ∀b u,H b=some u→ ¬pB (some u)→b≠x:=fun b u q nm z=>by subst z;rw[q] at mu;exact nm mu
 refine⟨fun b u q n _ _=>k b u (hb b n) q,fun b u q n _ _=> ⟨u.slots,k b u (hb b n) q⟩,fun b u q n _=>by rw[aK (hx b n)];exact n,fun b u q _=> ?_,
  fun b xs q=>by rw[aK (hm b _ q fun z=>z)];exact q,fun b u xs q=>by rw[aK (hm b _ q fun z=>z)];exact q,fun b ps q=> ⟨#[],by rw[aK (hm b _ q fun z=>z),q];simp⟩⟩
 by_cases i6:b=e
 ·subst i6;exact lS
 ·exact⟨u,k b u i6 q⟩
end
def i7(h:Heap)(H:Hp):List Addr:=(List.range h.objs.size).filter fun a=> (H a).isSome
def gw(h:Heap)(H:Hp):Heap:=hideAll h (i7 h H)
theorem Mz(h:Heap)(H:Hp):(gw h H).objs.size=h.objs.size:=PySem.W.hideAll_size _ _
theorem MA{h:Heap}{H:Hp}{b:Addr}{o:Obj}(e:h.get? b=some o)(n:H b=none):(gw h H).get? b=some o:=
 hideAll_get _ e fun hm=>by
  have q:(H b).isSome=true:=(List.mem_filter.mp hm).2
  rw[n] at q;simp at q
theorem MB{h:Heap}{H:Hp}{b:Addr}{o:Obj}(e:(gw h H).get? b=some o):h.get? b=some o∧H b=none:=by
 have e':h.get? b=some o:=of_hideAll (i7 h H) e
 refine⟨e', ?_⟩
 cases q:H b with
 | none=>rfl
 | some x=>
  have hm:b∈i7 h H:=List.mem_filter.mpr ⟨List.mem_range.mpr (Heap.lt_size e'),by simp[q]⟩
  have z:(gw h H).get? b=none:=PySem.W.hideAll_none (i7 h H) hm
  rw[z] at e;cases e
structure Mod (K:PySem.W.Frag) (mg:Str→Option Value) (base:Heap):Prop where
 m9:K.In base
 glob:base.Ns mainGlobals mg
 blt: ∃mb,base.Ns builtinsNs mb∧ ∀x:Str,x≠"__name__"→mb x=bootBuiltins x
 nolimit:base.NoLimit
structure Cx where
 prog:Program
 w:World
 K:PySem.W.Frag
 mg:Str→Option Value
 base:Heap
 A:Around
 N:List Str
 s₀:Shared
 H₀:Hp
 env:Env
 outer:List Env
 stack:List Env
 ex:List Addr
 fn:Str→Bool
 calm:Bool
 pn:List (Addr×Obj)
 xe:Value→Shared→Prop
def bS(l:List Env):List Addr:=l.filterMap (·.frame)
abbrev Cx.fs(X:Cx):List Addr:=bS X.outer
def pE(sc:Scope)(x:Str):Prop:=sc.names.lookup x=some .local∨sc.names.lookup x=some .cell∨sc.names.lookup x=some .free
def Loc(sc:Scope)(x:Str):Prop:=sc.names.lookup x=some .local∨sc.names.lookup x=some .cell
def Look(env:Env)(h:Heap)(m:Str→Option Value)(x:Str)(u:Value):Prop:=
 (env.kindOf x=some .local∧m x=some u)∨((env.kindOf x=some .cell∨env.kindOf x=some .free)∧ ∃c,env.cells.lookup x=some c∧h.IsCell c (some u))
structure Cx.Ok (X:Cx):Prop where
 mod:Mod X.K X.mg X.base
 kind:X.env.scope.kind= .function
 glob:X.env.globals=mainGlobals
 blt:X.env.builtins=builtinsNs
 above:X.s₀.heap.objs.size≤X.env.locals
 inj: ∀x y c,X.env.cells.lookup x=some c→X.env.cells.lookup y=some c→x=y
 has: ∀x,(X.env.kindOf x=some .cell∨X.env.kindOf x=some .free)→ ∃c,X.env.cells.lookup x=some c
 tO: ∀x c,X.fn x=true→X.env.cells.lookup x=some c→X.s₀.heap.objs.size≤c
 hd:X.calm=true→X.A.handled=none
 frames:X.A.frames=some X.stack
 m_:X.stack=X.outer∨(X.stack=X.env::X.outer∧X.env.frame=some X.env.locals)
 exf: ∀b∈X.ex,b≠X.env.locals∧ ∀x c,X.env.cells.lookup x=some c→c≠b
 bs: ∀b o,X.base.get? b=some o→X.s₀.heap.get? b=some o∧X.H₀ b=none
 lT:X.base.objs.size≤X.s₀.heap.objs.size
 tP: ∀b o,X.base.get? b=some o→b∉X.ex
 tQ: ∀b∈X.ex,b∉X.fs
 fE:X.s₀.heap.FunFrames X.base X.outer
 nc: ∀b∈X.fs,X.H₀ b=none
structure Inv (X:Cx) (pins:List (Addr×Obj)) (σ:List (Option V)) (H:Hp) (s:Shared):Prop where
 ok:X.Ok
 os:s.os=X.s₀.os
 bare:AllBare s.gens
 base:Un X.fs X.ex X.H₀ H X.s₀.heap s.heap
 loc: ∃m,s.heap.Ns X.env.locals m∧ ∀(i:Nat) (x:Str) (v:V),X.N[i]?=some x→σ[i]?=some (some v)→pE X.env.scope x→ ∃u,RelV v u∧Look X.env s.heap m x u
 cell: ∀x c,X.env.cells.lookup x=some c→ ∃v,s.heap.IsCell c v
 free:H X.env.locals=none
 gy: ∀x c,X.env.cells.lookup x=some c→H c=none
 pin: ∀p∈X.pn++pins,s.heap.get? p.1=some p.2∧H p.1=none∧p.1≠X.env.locals∧p.1∉X.fs∧ ∀v,p.2.data≠ .cell v
 aG:b8 X.prog X.w H s.heap
 len:σ.length=X.N.length
section
variable {X:Cx} {pins:List (Addr×Obj)} {σ:List (Option V)} {H H':Hp} {s:Shared} {h':Heap}
theorem Cx.Ok.MC(ok:X.Ok){b:Addr}{o:Obj}(e:X.base.get? b=some o):b∉X.fs:=fun hb=>by
 have:=(ok.fE.mem hb).1
 rw[e] at this;cases this
theorem Inv.bs(I:Inv X pins σ H s): ∀b o,X.base.get? b=some o→s.heap.get? b=some o∧H b=none:=fun b o e=>
 ⟨I.base.keep b o (I.ok.bs b o e).1 (I.ok.bs b o e).2 (I.ok.MC e) (I.ok.tP b o e),I.base.free b o (I.ok.bs b o e).1 (I.ok.bs b o e).2 (I.ok.tP b o e)⟩
theorem Inv.bk(I:Inv X pins σ H s): ∀b o,X.base.get? b=some o→s.heap.get? b=some o:=fun b o e=> (I.bs b o e).1
theorem Inv.mod(I:Inv X pins σ H s):Mod X.K X.mg X.base:=I.ok.mod
theorem Inv.ck(I:Inv X pins σ H s):X.K.In s.heap:=I.ok.mod.m9.keeps I.bk
theorem Inv.lt(I:Inv X pins σ H s):X.env.locals<s.heap.objs.size:=let ⟨_,hn,_⟩:=I.loc;hn.lt
theorem Inv.sz(I:Inv X pins σ H s):X.s₀.heap.objs.size≤s.heap.objs.size:=Nat.le_trans I.ok.above (Nat.le_of_lt I.lt)
theorem Inv.DS(I:Inv X pins σ H s){a:Addr}(h:s.heap.objs.size≤a):a∉X.fs:=fun hb=>by
 obtain⟨_,o,ho,_⟩:=I.ok.fE.mem hb
 exact absurd (Nat.lt_of_lt_of_le (Heap.lt_size ho) (Nat.le_trans I.sz h)) (Nat.lt_irrefl _)
theorem Inv.i8(I:Inv X pins σ H s): ∀x c,X.env.cells.lookup x=some c→c≠X.env.locals:=fun x c e z=>by
 obtain⟨v,o,ho,hd⟩:=I.cell x c e
 obtain⟨m,⟨o',es,ep,dF,nh,_⟩,_⟩:=I.loc
 rw[z,dF] at ho;cases ho;rw[nh] at hd;cases hd
theorem Inv.fE(I:Inv X pins σ H s):s.heap.FunFrames X.base X.outer:=by
 have all: ∀(l:List Env),(∀b∈bS l,b∈X.fs)→X.s₀.heap.FunFrames X.base l→s.heap.FunFrames X.base l:=by
  intro l
  induction l with
  | nil=>intro _ _;trivial
  | cons env r ih=>
   intro hs hl
   obtain⟨hk,⟨L,o,hf,hn,ho,hd⟩,hr⟩:=hl
   have hL:L∈X.fs:=hs L (by unfold bS;rw[List.filterMap_cons,hf];exact List.mem_cons_self)
   obtain⟨sl,e⟩:=I.base.slot L o ho (I.ok.nc L hL) hL fun z=>I.ok.tQ L z hL
   exact⟨hk,⟨L,_,hf,hn,e,hd⟩,ih (fun b hb=>hs b (by unfold bS;rw[List.filterMap_cons,hf];exact List.mem_cons_of_mem _ hb)) hr⟩
 exact all X.outer (fun _ hb=>hb) I.ok.fE
theorem Inv.stack(I:Inv X pins σ H s):s.heap.FunFrames X.base X.stack:=by
 rcases I.ok.m_ with e | ⟨e,hf⟩
 ·rw[e];exact I.fE
 ·rw[e]
  obtain⟨m,hn,_⟩:=I.loc
  refine .cons (by rw[I.ok.kind];decide) hf hn ?_ I.fE
  exact Heap.get?_none_of_le (Nat.le_trans I.ok.lT I.ok.above)
theorem Inv.pF(I:Inv X pins σ H s): ∀b∈bS X.stack,b∈X.env.locals::X.fs:=fun b hb=>by
 rcases I.ok.m_ with e | ⟨e,hf⟩
 ·rw[e] at hb;exact List.mem_cons_of_mem _ hb
 ·rw[e] at hb
  unfold bS at hb
  rw[List.filterMap_cons,hf] at hb
  exact hb
theorem Inv.pG(I:Inv X pins σ H s): ∀b∈bS X.stack,H b=none:=fun b hb=>by
 rcases List.mem_cons.mp (I.pF b hb) with e | hb
 ·rw[e];exact I.free
 ·obtain⟨_,o,ho,_⟩:=I.ok.fE.mem hb
  exact I.base.free b o ho (I.ok.nc b hb) fun z=>I.ok.tQ b z hb
theorem Inv.step{g':Array GenState}{t':Nat}{d':Drawn}{ch:List Addr}(I:Inv X pins σ H s)
  (de: ∀b∈ch,(b∈X.ex∨X.s₀.heap.objs.size≤b)∧b≠X.env.locals∧(∀x c,X.env.cells.lookup x=some c→c≠b)∧ ∀p∈X.pn++pins,p.1≠b)
  (keep: ∀b o,b≠X.env.locals→b∉X.fs→b∉ch→s.heap.get? b=some o→H b=none→h'.get? b=some o)
  (slot: ∀b o,b≠X.env.locals→b∈X.fs→b∉ch→s.heap.get? b=some o→H b=none→ ∃sl,h'.get? b=some {o with slots:=sl}) (free: ∀b o,b∉ch→s.heap.get? b=some o→H b=none→H' b=none)
  (there: ∀b o,b∉ch→s.heap.get? b=some o→ ∃o',h'.get? b=some o')
  (b6: ∀b xs,H b=some (.tup xs)→H' b=some (.tup xs)) (dO: ∀b o u,H b=some (.bM o u)→H' b=some (.bM o u)) (d6: ∀b ps,H b=some (.fD ps)→ ∃more,H' b=some (.fD (ps++more)))
  (ns: ∀m,s.heap.Ns X.env.locals m→h'.Ns X.env.locals m) (aG:b8 X.prog X.w H' h') (hg:AllBare g'):
  Inv X pins σ H' {s with heap:=h',gens:=g',drawn:=d',toks:=t'}:=by
 have DT: ∀b o,X.s₀.heap.get? b=some o→b≠X.env.locals:=fun b o e=>Nat.ne_of_lt (Nat.lt_of_lt_of_le (Heap.lt_size e) I.ok.above)
 have pH: ∀b o,X.s₀.heap.get? b=some o→b∉X.ex→b∉ch:=fun b o e hx hb=>by
  rcases (de b hb).1 with z | z
  ·exact hx z
  ·exact absurd (Nat.lt_of_lt_of_le (Heap.lt_size e) z) (Nat.lt_irrefl _)
 have cellK: ∀x c,X.env.cells.lookup x=some c→ ∀v,s.heap.IsCell c v→h'.IsCell c v:=fun x c e v ⟨o,ho,hd⟩=>by
  have nj:c∉ch:=fun z=> (de c z).2.2.1 x c e rfl
  by_cases hc:c∈X.fs
  ·obtain⟨sl,q⟩:=slot c o (I.i8 x c e) hc nj ho (I.gy x c e)
   exact⟨_,q,hd⟩
  ·exact⟨o,keep c o (I.i8 x c e) hc nj ho (I.gy x c e),hd⟩
 refine⟨I.ok,I.os,hg,⟨fun b o e n hb hx=> ?_,fun b o e n hb hx=> ?_,fun b o e n hx=> ?_,fun b o e hx=> ?_,fun b xs e=>b6 b xs (I.base.b6 b xs e),fun b o xs e=>dO b o xs (I.base.dO b o xs e),fun b ps e=> ?_⟩, ?_,fun x c e=> ?_, ?_,fun x c e=> ?_,fun p hp=> ?_,aG,I.len⟩
 ·exact keep b o (DT b o e) hb (pH b o e hx) (I.base.keep b o e n hb hx) (I.base.free b o e n hx)
 ·obtain⟨sl,e1⟩:=I.base.slot b o e n hb hx
  obtain⟨MD,e2⟩:=slot b _ (DT b o e) hb (pH b o e hx) e1 (I.base.free b o e n hx)
  exact⟨MD,e2⟩
 ·obtain⟨o',e1⟩:=I.base.there b o e hx
  exact free b o' (pH b o e hx) e1 (I.base.free b o e n hx)
 ·obtain⟨o',e1⟩:=I.base.there b o e hx
  exact there b o' (pH b o e hx) e1
 ·obtain⟨m1,e1⟩:=I.base.d6 b ps e
  obtain⟨m2,e2⟩:=d6 b _ e1
  exact⟨m1++m2,by rw[e2,Array.append_assoc]⟩
 ·obtain⟨m,hn,hl⟩:=I.loc
  refine⟨m,ns m hn,fun i x v e1 e2 e3=> ?_⟩
  obtain⟨u,r,l⟩:=hl i x v e1 e2 e3
  refine⟨u,r, ?_⟩
  rcases l with l | ⟨k,c,e,z⟩
  ·exact .inl l
  ·exact .inr ⟨k,c,e,cellK x c e _ z⟩
 ·obtain⟨v,z⟩:=I.cell x c e
  exact⟨v,cellK x c e v z⟩
 ·obtain⟨m,⟨o,_,_,ho,_⟩,_⟩:=I.loc
  exact free _ o (fun z=> (de _ z).2.1 rfl) ho I.free
 ·obtain⟨v,o,ho,hd⟩:=I.cell x c e
  exact free c o (fun z=> (de c z).2.2.1 x c e rfl) ho (I.gy x c e)
 ·obtain⟨e,n,ne,nf,d⟩:=I.pin p hp
  have nj:p.1∉ch:=fun z=> (de p.1 z).2.2.2 p hp rfl
  exact⟨keep p.1 p.2 ne nf nj e n,free p.1 p.2 nj e n,ne,nf,d⟩
theorem Inv.un{t':Nat}(I:Inv X pins σ H s)(u:Un X.fs [] H H' s.heap h')(aG:b8 X.prog X.w H' h'):Inv X pins σ H' {s with heap:=h',toks:=t'}:=by
 obtain⟨m,⟨o,es,ep,ho,r⟩,_⟩:=id I.loc
 obtain⟨sl,hL⟩:=u.any ho I.free (by simp)
 exact I.step (g':=s.gens) (d':=s.drawn) (ch:=[]) (fun _ z=>nomatch z) (fun b o _ hb _ e n=>u.keep b o e n hb (by simp)) (fun b o _ hb _ e n=>u.slot b o e n hb (by simp)) (fun b o _ e n=>u.free b o e n (by simp)) (fun b o _ e=>u.there b o e (by simp)) u.b6 u.dO u.d6 (fun m' hm=>by
  obtain⟨o',hU,tR,dF,r'⟩:=hm
  rw[ho] at dF;cases dF
  exact⟨_,hU,tR,hL,r'⟩) aG I.bare
theorem Inv.call{g':Array GenState}{t':Nat}{d':Drawn}{ch:List Addr}(I:Inv X pins σ H s)(u:Un (bS X.stack) ch H H' s.heap h')(aG:b8 X.prog X.w H' h')(hg:AllBare g')
  (de: ∀b∈ch,(b∈X.ex∨X.s₀.heap.objs.size≤b)∧b≠X.env.locals∧(∀x c,X.env.cells.lookup x=some c→c≠b)∧ ∀p∈X.pn++pins,p.1≠b):
  Inv X pins σ H' {s with heap:=h',gens:=g',drawn:=d',toks:=t'}:=by
 obtain⟨m,⟨o,es,ep,ho,r⟩,_⟩:=id I.loc
 obtain⟨sl,hL⟩:=u.any ho I.free fun z=> (de _ z).2.1 rfl
 exact I.step (ch:=ch) de (fun b o hL hb hc e n=>u.keep b o e n (fun z=> (List.mem_cons.mp (I.pF b z)).elim hL hb) hc) (fun b o _ _ hc e n=>u.any e n hc) (fun b o hc e n=>u.free b o e n hc) (fun b o hc e=>u.there b o e hc) u.b6 u.dO u.d6 (fun m' hm=>by
  obtain⟨o',hU,tR,dF,r'⟩:=hm
  rw[ho] at dF;cases dF
  exact⟨_,hU,tR,hL,r'⟩) aG hg
theorem Inv.turned{t':Nat}{it:Addr}(I:Inv X pins σ H s)(k: ∀b o,b≠it→s.heap.get? b=some o→h'.get? b=some o)(hn:H it=none)(hL:it≠X.env.locals)
  (h1:it∈X.ex∨X.s₀.heap.objs.size≤it) (h2: ∀x c,X.env.cells.lookup x=some c→c≠it) (h3: ∀p∈X.pn++pins,p.1≠it):Inv X pins σ H {s with heap:=h',toks:=t'}:=by
 have DU: ∀b u,H b=some u→b≠it:=fun b u e z=>by rw[z,hn] at e;cases e
 refine I.step (g':=s.gens) (d':=s.drawn) (ch:=[it]) (fun b hb=> ?_) (fun b o _ _ hc e _=>k b o (fun z=>hc (by simp[z])) e) (fun b o _ _ hc e _=> ⟨o.slots,k b o (fun z=>hc (by simp[z])) e⟩) (fun _ _ _ _ n=>n)
  (fun b o hc e=> ⟨o,k b o (fun z=>hc (by simp[z])) e⟩) (fun _ _ e=>e) (fun _ _ _ e=>e) (fun b ps e=> ⟨#[],by rw[e];simp⟩) (fun m hm=> ?_) (fun b u e=> ?_) I.bare
 ·have e:b=it:=by simpa using hb
  subst e
  exact⟨h1,hL,h2,h3⟩
 ·obtain⟨o,es,ep,ho,r⟩:=hm
  exact⟨o,es,ep,k _ o (Ne.symm hL) ho,r⟩
 ·refine(I.aG b u e).gu (fun c v hc q=>k c v ?_ q) (fun _ q=>q) fun _ _ q=>q
  rcases hc with z | z
  ·rw[z];exact DU b u e
  ·exact DU c _ z
theorem Inv.tok(I:Inv X pins σ H s)(t:Nat):Inv X pins σ H {s with toks:=t}:=I.un (h':=s.heap) (t':=t) Un.refl I.aG
theorem Inv.kept{t':Nat}(I:Inv X pins σ H s)(k: ∀b u,s.heap.get? b=some u→h'.get? b=some u):Inv X pins σ H {s with heap:=h',toks:=t'}:=I.un (Un.kept k) (I.aG.kept k)
theorem Inv.laid{a:Addr}{o:HO}{t':Nat}(I:Inv X pins σ H s)(k: ∀b u,s.heap.get? b=some u→h'.get? b=some u)(hp:s.heap.objs.size≤a)(new:cq X.prog X.w (upd H a o) h' a o):
  Inv X pins σ (upd H a o) {s with heap:=h',toks:=t'}:=I.un (Un.laid k hp (I.aG.fresh hp)) (I.aG.laid k hp new)
theorem Inv.write{x e:Addr}{o:HO}{t':Nat}(I:Inv X pins σ H s)(mu:pB (H x))(he:e=x∨H e=some (.own x))(k: ∀b u,b≠e→s.heap.get? b=some u→h'.get? b=some u)(lS: ∃u,h'.get? e=some u)
  (new:cq X.prog X.w (upd H x o) h' x o):Inv X pins σ (upd H x o) {s with heap:=h',toks:=t'}:=I.un (Un.write mu he k lS) (I.aG.write mu he k lS new)
theorem Inv.lU{tS:List (Addr×Obj)}(I:Inv X pins σ H s)(h: ∀p∈tS,s.heap.get? p.1=some p.2∧H p.1=none∧p.1≠X.env.locals∧p.1∉X.fs∧ ∀v,p.2.data≠ .cell v):Inv X tS σ H s:=
 ⟨I.ok,I.os,I.bare,I.base,I.loc,I.cell,I.free,I.gy,fun p hp=> (List.mem_append.mp hp).elim (fun z=>I.pin p (List.mem_append_left _ z)) (h p),I.aG,I.len⟩
theorem DV{N:List Str}(hN:N.Nodup){i j:Nat}{x:Str}(a:N[i]?=some x)(b:N[j]?=some x):i=j:=by
 obtain⟨h1,e1⟩:=List.getElem?_eq_some_iff.mp a
 obtain⟨h2,e2⟩:=List.getElem?_eq_some_iff.mp b
 exact(List.getElem_inj hN).mp (e1.trans e2.symm)
theorem ME{M:Model}{A:Around}{E:Value→Shared→Prop}{i:Nat}{x:Str}{v:V}{u:Value}{Q:Unit→Shared→Prop}(I:Inv X pins σ H s)(hN:X.N.Nodup)(hi:X.N[i]?=some x)(hx:Loc X.env.scope x)(r:RelV v u)
  (h: ∀s',Inv X pins (σ.set i (some v)) H s'→(∃a,Heap.SameBut a s.heap s'.heap∧(a=X.env.locals∨X.env.cells.lookup x=some a))→Q () s') (hf:X.fn x=true∨X.env.scope.names.lookup x=some .local:=by first | exact .inl rfl | exact .inr rfl | assumption):wpAny M A (storeName X.env x u) Q E s:=by
 obtain⟨m,hn,hl⟩:=id I.loc
 have MF:(X.env.scope.kind== .class || (X.env.scope.kind== .module && X.env.locals !=X.env.globals))=false:=by rw[I.ok.kind];rfl
 have DW:i<σ.length:=by rw[I.len];exact(List.getElem?_eq_some_iff.mp hi).1
 have i8:=I.i8
 have tracked: ∀{a:Addr} {h':Heap},(∃o,s.heap.get? a=some o∧H a=none)→Heap.SameBut a s.heap h'→b8 X.prog X.w H h':=fun {a h'} ha hs b ob e=>by
  obtain⟨_,_,DX⟩:=ha
  refine(I.aG b ob e).gu (fun c w' hc q=> (hs.2 c ?_).trans q) (fun _ q=>q) fun _ _ q=>q
  rintro rfl
  rcases hc with rfl | hc
  ·rw[DX] at e;cases e
  ·rw[DX] at hc;cases hc
 rcases hx with hk | hk
 ·refine wpAny_storeName_local hk hn (fun h' MG hs=> ?_) MF
  obtain⟨oL,_,_,MH,_⟩:=id hn
  refine h _ ⟨I.ok,I.os,I.bare,⟨fun b o e n hb hx=> ?_,fun b o e n hb hx=> ?_,I.base.free,fun b o e hx=> ?_,I.base.b6,I.base.dO,I.base.d6⟩,⟨_,MG,fun j y v' e1 e2 e3=> ?_⟩,fun y c e=> ?_,I.free,I.gy,fun p hp=> ?_,tracked ⟨oL,MH,I.free⟩ hs,by simpa using I.len⟩ ⟨_,hs, .inl rfl⟩
  ·exact(hs.2 b (Nat.ne_of_lt (Nat.lt_of_lt_of_le (Heap.lt_size e) I.ok.above))).trans (I.base.keep b o e n hb hx)
  ·obtain⟨sl,e1⟩:=I.base.slot b o e n hb hx
   exact⟨sl,(hs.2 b (Nat.ne_of_lt (Nat.lt_of_lt_of_le (Heap.lt_size e) I.ok.above))).trans e1⟩
  ·obtain⟨o',e1⟩:=I.base.there b o e hx
   exact⟨o',(hs.2 b (Nat.ne_of_lt (Nat.lt_of_lt_of_le (Heap.lt_size e) I.ok.above))).trans e1⟩
  ·by_cases hj:j=i
   ·subst hj
    rw[hi] at e1;cases e1
    rw[List.getElem?_set_self DW] at e2
    cases e2
    exact⟨u,r, .inl ⟨hk,by simp⟩⟩
   ·rw[List.getElem?_set_ne (Ne.symm hj)] at e2
    obtain⟨u',r',q⟩:=hl j y v' e1 e2 e3
    refine⟨u',r', ?_⟩
    rcases q with⟨k,e⟩ | ⟨k,c,e,z⟩
    ·refine .inl ⟨k, ?_⟩
     have:y≠x:=fun e=>hj (DV hN e1 (e ▸ hi))
     simp[this,e]
    ·exact .inr ⟨k,c,e,z.sameBut hs (i8 y c e)⟩
  ·obtain⟨w',z⟩:=I.cell y c e
   exact⟨w',z.sameBut hs (i8 y c e)⟩
  ·obtain⟨e,n,ne,nf,d⟩:=I.pin p hp
   exact⟨(hs.2 p.1 ne).trans e,n,ne,nf,d⟩
 ·have tU:X.fn x=true:=by
   rcases hf with z | z
   ·exact z
   ·rw[z] at hk;cases hk
  obtain⟨c,hc⟩:=I.ok.has x (.inl hk)
  obtain⟨w',z⟩:=I.cell x c hc
  refine wpAny_storeName_cell I.ok.kind hk hc z (fun h' dP hs=> ?_)
  obtain⟨oc,DY,MI⟩:=id z
  refine h {s with heap:=h'} ⟨I.ok,I.os,I.bare,⟨fun b o e n hb hx=> ?_,fun b o e n hb hx=> ?_,I.base.free,fun b o e hx=> ?_,I.base.b6,I.base.dO,I.base.d6⟩,⟨m,hn.sameBut hs (Ne.symm (i8 x c hc)),fun j y v' e1 e2 e3=> ?_⟩,fun y c' e=> ?_,I.free,I.gy,fun p hp=> ?_,tracked ⟨oc,DY,I.gy x c hc⟩ hs,by simpa using I.len⟩ ⟨c,hs, .inr hc⟩
  ·exact(hs.2 b (Nat.ne_of_lt (Nat.lt_of_lt_of_le (Heap.lt_size e) (I.ok.tO x c tU hc)))).trans (I.base.keep b o e n hb hx)
  ·obtain⟨sl,e1⟩:=I.base.slot b o e n hb hx
   exact⟨sl,(hs.2 b (Nat.ne_of_lt (Nat.lt_of_lt_of_le (Heap.lt_size e) (I.ok.tO x c tU hc)))).trans e1⟩
  ·obtain⟨o',e1⟩:=I.base.there b o e hx
   exact⟨o',(hs.2 b (Nat.ne_of_lt (Nat.lt_of_lt_of_le (Heap.lt_size e) (I.ok.tO x c tU hc)))).trans e1⟩
  ·by_cases hj:j=i
   ·subst hj
    rw[hi] at e1;cases e1
    rw[List.getElem?_set_self DW] at e2
    cases e2
    exact⟨u,r, .inr ⟨.inl hk,c,hc,dP⟩⟩
   ·rw[List.getElem?_set_ne (Ne.symm hj)] at e2
    obtain⟨u',r',q⟩:=hl j y v' e1 e2 e3
    refine⟨u',r', ?_⟩
    rcases q with q | ⟨k,c',e,z'⟩
    ·exact .inl q
    ·refine .inr ⟨k,c',e,z'.sameBut hs ?_⟩
     rintro rfl
     exact hj (DV hN e1 (I.ok.inj _ _ _ e hc ▸ hi))
  ·by_cases DZ:c'=c
   ·subst DZ;exact⟨_,dP⟩
   ·obtain⟨w2,z2⟩:=I.cell y c' e
    exact⟨w2,z2.sameBut hs DZ⟩
  ·obtain⟨e,n,ne,nf,d⟩:=I.pin p hp
   refine⟨(hs.2 p.1 ?_).trans e,n,ne,nf,d⟩
   intro q
   rw[q,DY] at e
   have q':oc=p.2:=Option.some.inj e
   exact d w' (by rw[←q'];exact MI)
theorem D0{M:Model}{A:Around}{E:Value→Shared→Prop}{i:Nat}{x:Str}{v:V}{u:Value}{Q:Unit→Shared→Prop}(I:Inv X pins σ H s)(hN:X.N.Nodup)(hi:X.N[i]?=some x)(hx:Loc X.env.scope x)(r:RelV v u)
  (h: ∀s',Inv X pins (σ.set i (some v)) H s'→Q () s') (hf:X.fn x=true∨X.env.scope.names.lookup x=some .local:=by first | exact .inl rfl | exact .inr rfl | assumption):wpAny M A (storeName X.env x u) Q E s:=
 ME I hN hi hx r (fun s' I' _=>h s' I') hf
theorem Inv.MJ{s':Shared}{ch:List Addr}(I:Inv X pins σ H s)(ho:s'.os=s.os)(u:Un (bS X.stack) ch H H' s.heap s'.heap)(aG:b8 X.prog X.w H' s'.heap)(hg:AllBare s'.gens)
  (de: ∀b∈ch,(b∈X.ex∨X.s₀.heap.objs.size≤b)∧b≠X.env.locals∧(∀x c,X.env.cells.lookup x=some c→c≠b)∧ ∀p∈X.pn++pins,p.1≠b):Inv X pins σ H' s':=by
 obtain⟨h',g',d',t',o'⟩:=s'
 have e:o'=s.os:=ho
 subst e
 exact I.call (g':=g') (t':=t') (d':=d') u aG hg de
end
abbrev XK:=Value→Option Addr→Hp→Prop
abbrev St:=List (Option V)
abbrev VK:=V→Hp→Prop
abbrev TE:=St→Hp→VK→Prop
abbrev TT:=St→Hp→(Bool→Hp→Prop)→Prop
abbrev TA:=St→Hp→(List V→Hp→Prop)→Prop
structure Ends where
 nx:St→Hp→Prop
 rt:VK
 bk:St→Hp→Prop:=fun _ _=>False
 ct:St→Hp→Prop:=fun _ _=>False
abbrev TS:=Ends→St→Hp→Prop
def EP(X:Cx)(pins:List (Addr×Obj))(σ:St)(Q:VK)(u:Value)(s':Shared):Prop:= ∃v H',Inv X pins σ H' s'∧RelV v u∧Q v H'
def TP(X:Cx)(pins:List (Addr×Obj))(σ:St)(Q:Bool→Hp→Prop)(b:Bool)(s':Shared):Prop:= ∃H',Inv X pins σ H' s'∧Q b H'
def AP(X:Cx)(pins:List (Addr×Obj))(σ:St)(Q:List V→Hp→Prop)(us:List Value)(s':Shared):Prop:= ∃vs H',Inv X pins σ H' s'∧Vals vs us∧Q vs H'
def SP(X:Cx)(pins:List (Addr×Obj))(D:Ends)(f:Flow)(s':Shared):Prop:=
 match f with
 | .next=> ∃σ' H',Inv X pins σ' H' s'∧D.nx σ' H'
 | .brk=> ∃σ' H',Inv X pins σ' H' s'∧D.bk σ' H'
 | .cont=> ∃σ' H',Inv X pins σ' H' s'∧D.ct σ' H'
 | .ret u=> ∃v σ' H',Inv X pins σ' H' s'∧RelV v u∧D.rt v H'
def PE(X:Cx)(e:Expr)(t:TE):Prop:=
 ∀(pins:List (Addr×Obj)) (s:Shared) (σ:St) (H:Hp) (Q:VK),Inv X pins σ H s→t σ H Q→wpAny (model X.prog X.w) X.A (eval e X.env) (EP X pins σ Q) X.xe s
def PT(X:Cx)(e:Expr)(t:TT):Prop:=
 ∀(pins:List (Addr×Obj)) (s:Shared) (σ:St) (H:Hp) (Q:Bool→Hp→Prop),Inv X pins σ H s→t σ H Q→wpAny (model X.prog X.w) X.A (isTrue e X.env (eval e X.env)) (TP X pins σ Q) X.xe s
def PW(X:Cx)(e:Expr)(t:TT):Prop:=
 ∀(whole:Sem Value) (pins:List (Addr×Obj)) (s:Shared) (σ:St) (H:Hp) (Q:Bool→Hp→Prop),Inv X pins σ H s→t σ H Q→wpAny (model X.prog X.w) X.A (isTrue e X.env whole) (TP X pins σ Q) X.xe s
theorem PW.pt{X:Cx}{e:Expr}{t:TT}(h:PW X e t):PT X e t:=h _
def PA(X:Cx)(es:List Expr)(t:TA):Prop:=
 ∀(pos:Pos) (pins:List (Addr×Obj)) (s:Shared) (σ:St) (H:Hp) (Q:List V→Hp→Prop),Inv X pins σ H s→t σ H Q→wpAny (model X.prog X.w) X.A (spliced (backTo pos (starEach es X.env))) (AP X pins σ Q) X.xe s
def PS(X:Cx)(st:Stmt)(t:TS):Prop:=
 ∀(pins:List (Addr×Obj)) (s:Shared) (σ:St) (H:Hp) (D:Ends),Inv X pins σ H s→t D σ H→wpAny (model X.prog X.w) X.A (exec st X.env) (SP X pins D) X.xe s
def aW(X:Cx)(st:List Stmt)(t:TS):Prop:=
 ∀(pins:List (Addr×Obj)) (s:Shared) (σ:St) (H:Hp) (D:Ends),Inv X pins σ H s→t D σ H→wpAny (model X.prog X.w) X.A (execs st X.env) (SP X pins D) X.xe s
theorem aO{α:Type}{t:Sem α}{Q Q':α→Shared→Prop}{M:Model}{A:Around}{E:Value→Shared→Prop}{s:Shared}(h:wpAny M A t Q E s)(hQ: ∀a s,Q a s→Q' a s):wpAny M A t Q' E s:=wpAny_mono h hQ fun _ _ x=>x
section
variable {X:Cx}
def tV(i:Nat):TE:=fun σ H Q=> ∃v,σ[i]?=some (some v)∧Q v H
def tC(v:V):TE:=fun _ H Q=>Q v H
theorem MK{i:Nat}{x:Str}{pos:Pos}(hN:X.N[i]?=some x)(hv:pE X.env.scope x)(hd:(x==("__debug__":Str))=false:=by decide)(eW:(x==("__classdict__":Str))=false:=by decide):PE X (.Name x pos) (tV i):=by
 intro pins s σ H Q I h
 obtain⟨v,e,h⟩:=h
 obtain⟨m,hn,hl⟩:=I.loc
 obtain⟨u,r,l⟩:=hl i x v hN e hv
 have fin:EP X pins σ Q u s:=⟨v,H,I,r,h⟩
 rcases l with⟨hk,hm⟩ | ⟨hk,c,hc,D1⟩
 ·exact wpAny_Name (wpAny_loadName_local I.ok.kind hk hn hm fin) hd
 ·rcases hk with hk | hk
  ·exact wpAny_Name (wpAny_loadName_cell I.ok.kind hk hc D1 fin) hd
  ·exact wpAny_Name (wpAny_loadName_free I.ok.kind hk hc D1 fin eW) hd
theorem ML{i j pos}:PE X (.Constant (.int i) j pos) (tC (.int i)):=fun _ _ _ H _ I h=>wpAny_Constant_int ⟨.int i,H,I.tok _,⟨_,rfl⟩,h⟩
theorem MM{b j pos}:PE X (.Constant (.bool b) j pos) (tC (.bl b)):=fun _ _ _ H _ I h=>Constant_bool ⟨.bl b,H,I,rfl,h⟩
theorem MN{j pos}:PE X (.Constant .none j pos) (tC .av):=fun _ _ _ H _ I h=>Constant_none ⟨.av,H,I,rfl,h⟩
theorem MO{x j pos}:PE X (.Constant (.str x) j pos) (tC (.str x)):=fun _ _ _ H _ I h=>Calls.Constant_str ⟨.str x,H,I.tok _,⟨_,rfl⟩,h⟩
def Gl(X:Cx)(x:Str):Prop:=X.env.kindOf x=some .globalImplicit
theorem pI{E:Value→Shared→Prop}{pins:List (Addr×Obj)}{s:Shared}{σ:St}{H:Hp}{x:Str}{u:Value}{pos:Pos}{Q:Value→Shared→Prop}(I:Inv X pins σ H s)(hg:Gl X x)(hm:X.mg x=some u)(h:Q u s)
  (hd:(x==("__debug__":Str))=false:=by decide):wpAny (model X.prog X.w) X.A (eval (.Name x pos) X.env) Q E s:=
 Calls.Name_function_global I.ok.kind hg (Calls.loadGlobal_global (by rw[I.ok.glob];exact I.mod.glob.keeps I.bk) hm h) hd
theorem nk{E:Value→Shared→Prop}{pins:List (Addr×Obj)}{s:Shared}{σ:St}{H:Hp}{x:Str}{u:Value}{pos:Pos}{Q:Value→Shared→Prop}(I:Inv X pins σ H s)(hg:Gl X x)(hm:X.mg x=none)(hv:bootBuiltins x=some u)(h:Q u s)
  (hn:x≠"__name__":=by decide) (hd:(x==("__debug__":Str))=false:=by decide):wpAny (model X.prog X.w) X.A (eval (.Name x pos) X.env) Q E s:=by
 obtain⟨mb,h1,h2⟩:=I.mod.blt
 exact Calls.Name_function_global I.ok.kind hg (Calls.loadGlobal_builtin (by rw[I.ok.glob];exact I.mod.glob.keeps I.bk) hm (by rw[I.ok.blt];exact h1.keeps I.bk) ((h2 x hn).trans hv) h) hd
theorem D2{x:Str}{v:V}{u:Value}{pos:Pos}(hg:Gl X x)(hm:X.mg x=some u)(r:RelV v u)(hd:(x==("__debug__":Str))=false:=by decide):PE X (.Name x pos) (tC v):=
 fun _ _ _ H _ I h=>pI I hg hm ⟨v,H,I,r,h⟩ hd
theorem MP{x:Str}{v:V}{u:Value}{pos:Pos}(hg:Gl X x)(hm:X.mg x=none)(hv:bootBuiltins x=some u)(r:RelV v u)(hn:x≠"__name__":=by decide)(hd:(x==("__debug__":Str))=false:=by decide):PE X (.Name x pos) (tC v):=
 fun _ _ _ H _ I h=>nk I hg hm hv ⟨v,H,I,r,h⟩ hn hd
variable {a b:Expr} {ta tb:TE} {pos:Pos}
def tB(t:TE):TT:=fun σ H Q=>t σ H fun x H1=> ∃c,x= .bl c∧Q c H1
variable {tA pJ:TT} {rest:List Expr}
def D3(t u:TT):TT:=fun σ H Q=>t σ H fun c H1=>if c=true then u σ H1 Q else Q false H1
def D4(t u:TT):TT:=fun σ H Q=>t σ H fun c H1=>if c=true then Q true H1 else u σ H1 Q
def D5(t:TT):TT:=fun σ H Q=>t σ H fun c H1=>Q (!c) H1
theorem pw_and1(ha:PT X a tA):PW X (.BoolOp .And [a] pos) tA:=by
 intro wh pins s σ H Q I h
 refine isTrue_and (aO (ha pins s σ H Q I h) fun c s1 e=> ?_)
 cases c with
 | true=>exact isTrue_and_nil e
 | false=>exact e
theorem pw_or1(ha:PT X a tA):PW X (.BoolOp .Or [a] pos) tA:=by
 intro wh pins s σ H Q I h
 refine isTrue_or (aO (ha pins s σ H Q I h) fun c s1 e=> ?_)
 cases c with
 | false=>exact isTrue_or_nil e
 | true=>exact e
theorem pw_and(ha:PT X a tA)(hb:PW X (.BoolOp .And (b::rest) pos) pJ):PW X (.BoolOp .And (a::b::rest) pos) (D3 tA pJ):=by
 intro wh pins s σ H Q I h
 refine isTrue_and (aO (ha pins s σ H _ I h) fun c s1 ⟨H1,I1,q1⟩=> ?_)
 cases c with
 | true=>exact hb wh pins s1 σ H1 Q I1 q1
 | false=>exact⟨H1,I1,q1⟩
theorem pw_or(ha:PT X a tA)(hb:PW X (.BoolOp .Or (b::rest) pos) pJ):PW X (.BoolOp .Or (a::b::rest) pos) (D4 tA pJ):=by
 intro wh pins s σ H Q I h
 refine isTrue_or (aO (ha pins s σ H _ I h) fun c s1 ⟨H1,I1,q1⟩=> ?_)
 cases c with
 | true=>exact⟨H1,I1,q1⟩
 | false=>exact hb wh pins s1 σ H1 Q I1 q1
theorem MQ(ha:PT X a tA):PT X (.UnaryOp .Not a pos) (D5 tA):=by
 intro pins s σ H Q I h
 exact isTrue_not (ha pins s σ H (fun c H1=>Q (!c) H1) I h)
def D6(ta tb:TE):TE:=fun σ H Q=>ta σ H fun x H1=> ∃c,x= .bl c∧if c=true then tb σ H1 Q else Q (.bl false) H1
def MR(ta tb:TE):TE:=fun σ H Q=>ta σ H fun x H1=> ∃c,x= .bl c∧if c=true then Q (.bl true) H1 else tb σ H1 Q
theorem MS{op}{t:TE}(h:PE X a t):PE X (.BoolOp op [a] pos) t:=fun pins s σ H Q I hw=>BoolOp_one (h pins s σ H Q I hw)
theorem MT(ha:PE X a ta)(hb:PE X (.BoolOp .And (b::rest) pos) tb):PE X (.BoolOp .And (a::b::rest) pos) (D6 ta tb):=by
 intro pins s σ H Q I h
 refine BoolOp_and (aO (ha pins s σ H _ I h) fun v s1 ⟨x,H1,I1,r1,q1⟩=> ?_)
 obtain⟨c,rfl,q1⟩:=q1
 cases r1
 refine wpAny_truthy_bool ?_
 cases c with
 | true=>exact hb pins s1 σ H1 Q I1 q1
 | false=>exact⟨.bl false,H1,I1,rfl,q1⟩
def D7(t:TT)(ta tb:TE):TE:=fun σ H Q=>t σ H fun c H1=>if c=true then ta σ H1 Q else tb σ H1 Q
theorem MU{c:Expr}(hc:PT X c tA)(ha:PE X a ta)(hb:PE X b tb):PE X (.IfExp c a b pos) (D7 tA ta tb):=by
 intro pins s σ H Q I h
 refine wpAny_IfExp (aO (hc pins s σ H _ I h) fun d s1 ⟨H1,I1,q1⟩=> ?_)
 cases d with
 | true=>exact ha pins s1 σ H1 Q I1 q1
 | false=>exact hb pins s1 σ H1 Q I1 q1
end
def aC(K:PySem.W.Frag)(H:Hp)(a:Addr)(xs:List V):Prop:=
 Rd H a (.lst xs)∨
  ∃(o:Obj) (its:Array Value) (n:Nat),K.lookup a=some o∧o.cls= .type "list"∧o.dict=none∧o.data= .seq its n∧its.size≤sizeLine∧Vals xs its.toList
def aX(K:PySem.W.Frag)(H:Hp)(a:Addr)(xs:List V):Prop:=
 Rd H a (.tup xs)∨
  ∃(o:Obj) (its:Array Value) (n:Nat),K.lookup a=some o∧o.cls= .type "tuple"∧o.data= .seq its n∧its.size≤sizeLine∧Vals xs its.toList
def MV:Value→Option V
 | .none=>some .av
 | .bool b=>some (.bl b)
 | .int i _=>some (.int i)
 | .str x _=>some (.str x)
 | .bytes b _=>some (.di b)
 | .float b _=>some (.hJ b)
 | .ref a=>some (.ref a)
 | .type n=>some (.ty n)
 | _=>none
theorem RelV.abs{x:V}{u:Value}(r:RelV x u):MV u=some x:=by
 cases x with
 | av=>cases r;rfl
 | bl _=>cases r;rfl
 | int _=>obtain⟨t,rfl⟩:=r;rfl
 | str _=>obtain⟨t,rfl⟩:=r;rfl
 | di _=>obtain⟨t,rfl⟩:=r;rfl
 | hJ _=>obtain⟨t,rfl⟩:=r;rfl
 | ref _=>cases r;rfl
 | ty _=>cases r;rfl
theorem RelV.inj{x y:V}{u:Value}(r:RelV x u)(q:RelV y u):x=y:=Option.some.inj (r.abs.symm.trans q.abs)
theorem Vals.inj: ∀{xs ys:List V} {us:List Value},Vals xs us→Vals ys us→xs=ys
 | _,_,_, .nil, .nil=>rfl
 | _,_,_, .cons r t, .cons r' t'=>by rw[r.inj r',Vals.inj t t']
section
variable {X:Cx} {pins:List (Addr×Obj)} {σ:St} {H:Hp} {s:Shared} {a:Addr} {xs ys:List V}
theorem aC.of{K:PySem.W.Frag}(h:H a=some (.lst xs)):aC K H a xs:= .inl (.inl h)
theorem aX.of{K:PySem.W.Frag}(h:H a=some (.tup xs)):aX K H a xs:= .inl (.inl h)
theorem Inv.list(I:Inv X pins σ H s)(h:aC X.K H a xs): ∃its:List Value,Vals xs its∧PlainL s.heap a its.toArray∧xs.length≤sizeLine:=by
 rcases h with h | ⟨o,its,n,hk,hc,hd,hs,hz,r⟩
 ·obtain⟨z,its,n,r,e⟩:=h.ok I.aG
  exact⟨its,r,⟨_,n,e,rfl,rfl,rfl⟩,z⟩
 ·refine⟨its.toList,r,⟨o,n,I.ck a o hk,hc,hd,by simpa using hs⟩, ?_⟩
  have e:=r.length
  simp only[Array.length_toList] at e
  omega
theorem Inv.tuple(I:Inv X pins σ H s)(h:aX X.K H a xs): ∃its:List Value,Vals xs its∧IsTup s.heap a its.toArray∧xs.length≤sizeLine:=by
 rcases h with h | ⟨o,its,n,hk,hc,hs,hz,r⟩
 ·obtain⟨z,its,r,p⟩:=h.ok I.aG
  exact⟨its,r,p,z⟩
 ·refine⟨its.toList,r,⟨o,I.ck a o hk,hc,n,by simpa using hs⟩, ?_⟩
  have e:=r.length
  simp only[Array.length_toList] at e
  omega
theorem Inv.D8(I:Inv X pins σ H s)(h:aC X.K H a xs)(h':aC X.K H a ys):xs=ys:=by
 obtain⟨its,r,⟨o,n,e,_,_,d⟩,_⟩:=I.list h
 obtain⟨dG,r',⟨o',n',e',_,_,d'⟩,_⟩:=I.list h'
 rw[e] at e';cases e'
 rw[d] at d'
 injection d' with d1 _
 have:its=dG:=by simpa using congrArg Array.toList d1
 subst this
 exact r.inj r'
end
section
variable {X:Cx} {pins:List (Addr×Obj)} {σ:St} {H:Hp} {s:Shared} {E:Value→Shared→Prop}
end
section
variable {X:Cx} {st:Stmt} {rest:List Stmt} {t u:TS} {e:Expr} {te:TE} {pos:Pos}
def tW:TS:=fun D σ H=>D.nx σ H
def D9(t u:TS):TS:=fun D σ H=>t {D with nx:=u D} σ H
theorem MW:aW X [] tW:=fun _ _ σ H _ I h=>wpAny_execs_nil ⟨σ,H,I,h⟩
theorem MX(h1:PS X st t)(h2:aW X rest u):aW X (st::rest) (D9 t u):=by
 intro pins s σ H D I h
 refine wpAny_execs_cons (aO (h1 pins s σ H {D with nx:=u D} I h) fun f s1 q=> ?_)
 cases f with
 | next=>
  obtain⟨σ',H',I',q⟩:=q
  exact h2 pins s1 σ' H' D I' q
 | ret v=>exact q
 | brk=>exact q
 | cont=>exact q
def MY:TS:=fun D σ H=>D.bk σ H
def D_:TS:=fun D σ H=>D.ct σ H
theorem MZ:PS X (.Continue pos) D_:=fun _ _ σ H _ I h=>wpAny_Continue ⟨σ,H,I,h⟩
theorem Inv.quiet{pins:List (Addr×Obj)}{σ:St}{H:Hp}{s:Shared}(I:Inv X pins σ H s):interactive X.env=false:=by simp[interactive,I.ok.kind]
def Ea(te:TE):TS:=fun D σ H=>te σ H fun _ H1=>D.nx σ H1
theorem M0(he:PE X e te)(hs:swapsWith e none pos.line X.env=pure false:=by rfl):PS X (.Expr e pos) (Ea te):=by
 intro pins s σ H D I h
 exact wpAny_Expr_any (aO (he pins s σ H _ I h) fun v s1 ⟨x,H1,I1,r1,q1⟩=> ⟨σ,H1,I1,q1⟩) I.quiet hs
def Eb(te:TE):TS:=fun D σ H=>te σ H D.rt
theorem M1(he:PE X e te):PS X (.Return (some e) pos) (Eb te):=by
 intro pins s σ H D I h
 exact wpAny_Return_some (aO (he pins s σ H _ I h) fun v s1 ⟨x,H1,I1,r1,q1⟩=> ⟨x,σ,H1,I1,r1,q1⟩)
def M3:TS:=fun D _ H=>D.rt .av H
def Ec(c:TT)(t u:TS):TS:=fun D σ H=>c σ H fun b H1=>if b=true then t D σ H1 else u D σ H1
theorem M4{c:Expr}{a b:List Stmt}{tc:TT}(hc:PT X c tc)(ha:aW X a t)(hb:aW X b u):PS X (.If c a b pos) (Ec tc t u):=by
 intro pins s σ H D I h
 refine wpAny_If (aO (hc pins s σ H _ I h) fun d s1 ⟨H1,I1,q1⟩=> ?_)
 cases d with
 | true=>exact ha pins s1 σ H1 D I1 q1
 | false=>exact hb pins s1 σ H1 D I1 q1
def M5:TS:=fun _ _ _=>False
end
abbrev TG:=V→St→Hp→(St→Hp→Prop)→Prop
abbrev fF:=List V→St→Hp→(St→Hp→Prop)→Prop
def PG(X:Cx)(target:Expr)(t:TG):Prop:=
 ∀(pins:List (Addr×Obj)) (s:Shared) (σ:St) (H:Hp) (v:V) (u:Value) (Q:St→Hp→Prop),Inv X pins σ H s→RelV v u→t v σ H Q→
  wpAny (model X.prog X.w) X.A (assign target X.env u) (fun _ s'=> ∃σ' H',Inv X pins σ' H' s'∧Q σ' H') X.xe s
def lV(X:Cx)(ts:List Expr)(t:fF):Prop:=
 ∀(pins:List (Addr×Obj)) (s:Shared) (σ:St) (H:Hp) (vs:List V) (us:List Value) (Q:St→Hp→Prop),Inv X pins σ H s→Vals vs us→t vs σ H Q→
  wpAny (model X.prog X.w) X.A (assignInOrder ((assignEach ts X.env).map (·.2)) us) (fun _ s'=> ∃σ' H',Inv X pins σ' H' s'∧Q σ' H') X.xe s
abbrev tX:=V→V→V→Hp→(Hp→Prop)→Prop
def Ed(X:Cx)(t:tX):Prop:=
 ∀(pins:List (Addr×Obj)) (s:Shared) (σ:St) (H:Hp) (o i v:V) (ov iv u:Value) (Q:Hp→Prop),Inv X pins σ H s→RelV o ov→RelV i iv→RelV v u→t o i v H Q→
  wpAny (model X.prog X.w) X.A (setItem ov iv u) (fun _ s'=> ∃H',Inv X pins σ H' s'∧Q H') X.xe s
section
variable {X:Cx} {pos:Pos}
def dQ(i:Nat):TG:=fun v σ H Q=>Q (σ.set i (some v)) H
theorem pK{i:Nat}{x:Str}(hN:X.N.Nodup)(hi:X.N[i]?=some x)(hx:Loc X.env.scope x)(hf:X.fn x=true∨X.env.scope.names.lookup x=some .local:=by first | exact .inl rfl | exact .inr rfl | assumption):PG X (.Name x pos) (dQ i):=by
 intro pins s σ H v u Q I r h
 exact wpAny_assign_Name (D0 I hN hi hx r (fun s' I'=> ⟨_,H,I',h⟩) hf)
def tY:fF:=fun vs σ H Q=>vs=[]∧Q σ H
def pL(t:TG)(u:fF):fF:=fun vs σ H Q=> ∃v r,vs=v::r∧t v σ H fun σ' H'=>u r σ' H' Q
theorem Ee:lV X [] tY:=by
 intro pins s σ H vs us Q I r h
 obtain⟨e,h⟩:=h
 subst e
 cases r
 exact assignInOrder_nil ⟨σ,H,I,h⟩
theorem tZ{e:Expr}{es:List Expr}{t:TG}{u:fF}(h1:PG X e t)(h2:lV X es u)
  (hs:(assignEach (e::es) X.env).map (·.2)=assign e X.env::(assignEach es X.env).map (·.2):=by rfl):lV X (e::es) (pL t u):=by
 intro pins s σ H vs us Q I r h
 obtain⟨v,vr,e1,h⟩:=h
 subst e1
 cases r with
 | cons r rr=>
  rw[hs]
  refine assignInOrder_cons (aO (h1 pins s σ H _ _ _ I r h) fun _ s1 ⟨σ1,H1,I1,q1⟩=> ?_)
  exact h2 pins s1 σ1 H1 _ _ Q I1 rr q1
def Ef(K:PySem.W.Frag)(n:Nat)(t:fF):TG:=fun v σ H Q=> ∃a xs,v= .ref a∧aX K H a xs∧xs.length=n∧t xs σ H Q
theorem Eg{es:List Expr}{k:Nat}{t:fF}{n:Nat}(hc:X.calm=true)(h:lV X es t)
  (hn:(assignEach es X.env).length=n:=by rfl) (pM:(assignEach es X.env).findIdx? (·.1)=none:=by rfl):PG X (.Tuple es k pos) (Ef X.K n t):=by
 intro pins s σ H v u Q I r hw
 obtain⟨a,xs,e1,hq,hl,hw⟩:=hw
 subst e1
 cases r
 obtain⟨its,rv,ht,hz⟩:=I.tuple hq
 refine assign_Tuple_tuple (I.ok.hd hc) ht (by simp[hn,←hl,rv.length]) pM fun h' hx=> ?_
 have I1:Inv X pins σ H {s with heap:=h'}:=I.kept (t':=s.toks) fun b o e=>hx b o (Nat.ne_of_lt (Heap.lt_size e)) e
 exact h pins _ σ H xs _ Q I1 (by simpa using rv) hw
def Eh(to ti:TE)(t:tX):TG:=fun v σ H Q=>to σ H fun o H1=>ti σ H1 fun i H2=>t o i v H2 fun H3=>Q σ H3
theorem M6{o i:Expr}{to ti:TE}{t:tX}(ho:PE X o to)(hi:PE X i ti)(hs:Ed X t)
  (ha: ∀v,assign (.Subscript o i pos) X.env v=(do
   let ov ←holding [v] (eval o X.env)
   let iv ←holding [v,ov] (eval i X.env)
   standAt pos
   holding [v,ov,iv] (setItem ov iv v)
   release [v,ov,iv] []):=by intro _;rfl):PG X (.Subscript o i pos) (Eh to ti t):=by
 intro pins s σ H v u Q I r h
 rw[ha]
 refine wpAny_bind (wpAny_holding (aO (ho pins s σ H _ I h) fun ov s1 ⟨x,H1,I1,r1,q1⟩=> ?_))
 refine wpAny_bind (wpAny_holding (aO (hi pins s1 σ H1 _ I1 q1) fun iv s2 ⟨y,H2,I2,r2,q2⟩=> ?_))
 refine wpAny_bind (wpAny_standAt (wpAny_bind (wpAny_holding (aO (hs pins s2 σ H2 x y v ov iv u _ I2 r1 r2 r q2) fun _ s3 ⟨H3,I3,q3⟩=> ?_))))
 exact wpAny_release ⟨σ,H3,I3,q3⟩
def i9(te:TE)(g:TG):TS:=fun D σ H=>te σ H fun x H1=>g x σ H1 D.nx
theorem M7{tg e:Expr}{te:TE}{g:TG}(he:PE X e te)(hg:PG X tg g)(hs:swapsWithSole [tg] e pos.line X.env=pure false:=by rfl)(hw:swappedStores [tg] e X.env=pure none:=by rfl)
  (h1:(assignEach [tg] X.env).map (·.2)=[assign tg X.env]:=by rfl):PS X (.Assign [tg] e pos) (i9 te g):=by
 intro pins s σ H D I h
 refine wpAny_Assign_stores (aO (he pins s σ H _ I h) fun v s1 ⟨x,H1,I1,r1,q1⟩=> ?_) hs hw
 rw[h1]
 exact aO (hg pins s1 σ H1 x v _ I1 r1 q1) fun _ s2 q=>q
theorem M8{i:Nat}{x:Str}{e:Expr}{te:TE}{pos':Pos}(hN:X.N.Nodup)(hi:X.N[i]?=some x)(hx:Loc X.env.scope x)(he:PE X e te)(hs:swapsWith e (some (.Name x pos')) pos.line X.env=pure false:=by rfl)(hf:X.fn x=true∨X.env.scope.names.lookup x=some .local:=by first | exact .inl rfl | exact .inr rfl | assumption):
  PS X (.Assign [.Name x pos'] e pos) (i9 te (dQ i)):=by
 intro pins s σ H D I h
 refine wpAny_Assign_Name (aO (he pins s σ H _ I h) fun v s1 ⟨y,H1,I1,r1,q1⟩=> ?_) hs
 exact D0 I1 hN hi hx r1 (fun s2 I2=> ⟨_,H1,I2,q1⟩) hf
end
section
variable {X:Cx} {pos:Pos}
def Ei(c:TT)(tb:TS):TS:=fun D σ H=> ∃W:Nat→St→Hp→Prop,(∃m,W m σ H)∧ ∀m σ H,W m σ H→
 c σ H fun b H1=>if b=true then ∃N:St→Hp→Prop,(∀σ' H',N σ' H'→ ∃m',m'<m∧W m' σ' H')∧tb {D with nx:=N,ct:=N,bk:=D.nx} σ H1 else D.nx σ H1
theorem M9{c:Expr}{body:List Stmt}{tc:TT}{tb:TS}(hp:PassesOwn (model X.prog X.w) X.A X.env X.xe)(hc:PT X c tc)(hb:aW X body tb):PS X (.While c body [] pos) (Ei tc tb):=by
 intro pins s σ H D I h
 obtain⟨W,⟨m0,w0⟩,turn⟩:=h
 refine wpAny_While (codeAny_whileLoop (fun n s'=> ∃σ' H',Inv X pins σ' H' s'∧W n σ' H') ?_ m0 ⟨σ,H,I,w0⟩)
 rintro n s1 ⟨σ1,H1,I1,w1⟩
 refine wpAny_passesOwn hp (aO (hc pins s1 σ1 H1 _ I1 (turn n σ1 H1 w1)) fun b s2 ⟨H2,I2,q2⟩=> ?_)
 cases b with
 | true=>
  obtain⟨N,hN,q2⟩:=q2
  rw[if_pos rfl]
  refine wpAny_passesOwn hp (aO (hb pins s2 σ1 H2 _ I2 q2) fun f s3 q3=> ?_)
  cases f with
  | next=>
   obtain⟨σ3,H3,I3,n3⟩:=q3
   obtain⟨m',hm,w3⟩:=hN σ3 H3 n3
   exact⟨m',hm,σ3,H3,I3,w3⟩
  | cont=>
   obtain⟨σ3,H3,I3,n3⟩:=q3
   obtain⟨m',hm,w3⟩:=hN σ3 H3 n3
   exact⟨m',hm,σ3,H3,I3,w3⟩
  | brk=>exact q3
  | ret v=>exact q3
 | false=>
  rw[if_neg Bool.false_ne_true]
  exact wpAny_execs_nil ⟨σ1,H2,I2,q2⟩
end
structure It where
 go:Nat→Hp→Prop
 d9:Nat→Hp→V→Hp→Prop
 stop:Nat→Hp→Prop
def eI(X:Cx)(pins:List (Addr×Obj))(H:Hp)(b:Addr):Prop:=
 H b=none∧b≠X.env.locals∧b∉X.fs∧(b∈X.ex∨X.s₀.heap.objs.size≤b)∧(∀x c,X.env.cells.lookup x=some c→c≠b)∧ ∀p∈X.pn++pins,p.1≠b
theorem Inv.t5{X:Cx}{pins:List (Addr×Obj)}{σ:St}{H H':Hp}{s:Shared}{b:Addr}(I:Inv X pins σ H s)(hb:s.heap.objs.size≤b)(hn:H' b=none):eI X pins H' b:=by
 refine⟨hn,Nat.ne_of_gt (Nat.lt_of_lt_of_le I.lt hb),I.DS hb, .inr (Nat.le_trans I.sz hb),fun x c e z=> ?_,fun p hp z=> ?_⟩
 ·obtain⟨v,q⟩:=I.cell x c e
  exact absurd (Nat.lt_of_lt_of_le q.lt (by rw[z];exact hb)) (Nat.lt_irrefl _)
 ·exact absurd (Nat.lt_of_lt_of_le (Heap.lt_size (I.pin p hp).1) (by rw[z];exact hb)) (Nat.lt_irrefl _)
structure Turn (P:Program) (w:World) (K:PySem.W.Frag) (tg:Expr) (J:It) (fp:List Addr) (it:Addr) (tn:Nat→Heap→Prop):Prop where
 mem:it∈fp
 obj: ∀i h,tn i h→ ∀b∈fp,∃o,h.get? b=some o∧ ∀v,o.data≠ .cell v
 keep: ∀i h h',tn i h→(∀b∈fp,∀o,h.get? b=some o→h'.get? b=some o)→tn i h'
 item: ∀(X:Cx),X.prog=P→X.w=w→X.K=K→X.calm=true→ ∀(i:Nat) (pins:List (Addr×Obj)) (s:Shared) (σ:St) (H:Hp) (E:Value→Shared→Prop),Inv X pins σ H s→(∀b∈fp,eI X pins H b)→tn i s.heap→J.go i H→
  wpAny (model P w) X.A (pyNext (.ref it)) (fun r s1=> ∃u,r=some u∧
   wpAny (model P w) X.A (letOwnedTupleGo tg (.ref it) u) (fun _ s2=> ∃x H',Inv X pins σ H' s2∧RelV x u∧J.d9 i H x H'∧tn (i+1) s2.heap∧ ∀b∈fp,H' b=none) E s1) E s
 done: ∀(X:Cx),X.prog=P→X.w=w→X.K=K→X.calm=true→ ∀(i:Nat) (pins:List (Addr×Obj)) (s:Shared) (σ:St) (H:Hp) (E:Value→Shared→Prop),Inv X pins σ H s→(∀b∈fp,eI X pins H b)→tn i s.heap→J.stop i H→
  wpAny (model P w) X.A (pyNext (.ref it)) (fun r s1=>r=none∧Inv X pins σ H s1) E s
 self: ∀(A:Around) (i:Nat) (s:Shared) (Q:Value→Shared→Prop) (E:Value→Shared→Prop),tn i s.heap→Q (.ref it) s→wpAny (model P w) A (pyIter (.ref it)) Q E s
abbrev TI:=St→Hp→(It→Hp→Prop)→Prop
def Ej(X:Cx)(pins:List (Addr×Obj))(σ:St)(tg:Expr)(R:It→Hp→Prop)(lW:Value)(s2:Shared):Prop:=
 ∃(it:Addr) (fp:List Addr) (tn:Nat→Heap→Prop) (J:It) (H':Hp),lW= .ref it∧Inv X pins σ H' s2∧Turn X.prog X.w X.K tg J fp it tn∧tn 0 s2.heap∧(∀b∈fp,eI X pins H' b)∧R J H'
def PI(X:Cx)(tg iter:Expr)(wi:TI):Prop:=
 ∀(pins:List (Addr×Obj)) (s:Shared) (σ:St) (H:Hp) (R:It→Hp→Prop),Inv X pins σ H s→wi σ H R→
  wpAny (model X.prog X.w) X.A (eval iter X.env) (fun v s1=>wpAny (model X.prog X.w) X.A (pyIter v) (Ej X pins σ tg R) X.xe s1) X.xe s
theorem Ek{M:Model}{A:Around}{E:Value→Shared→Prop}{s:Shared}{tg:Expr}{it:Addr}{u:Value}{o:Obj}{n:String}{vs:Array Value}{Q:Unit→Shared→Prop}(ho:s.heap.get? it=some o)(hc:o.cls= .type n)(hd:o.data= .fields vs)
    (hn:["enumerate","zip","dict_itemiterator","dict_reverseitemiterator","odict_iterator","itertools.zip_longest","itertools.pairwise"].contains n=false) (hQ:Q () s):wpAny M A (letOwnedTupleGo tg (.ref it) u) Q E s:=by
  unfold letOwnedTupleGo
  cases tg<;>first
    | exact wpAny_pure hQ
    | (cases u<;>first
        | exact wpAny_pure hQ
        | (refine wpAny_bind (wpAny_load ho ?_)
           rw[hc,hd]
           show wpAny M A (if (["enumerate","zip","dict_itemiterator","dict_reverseitemiterator","odict_iterator","itertools.zip_longest","itertools.pairwise"].contains n && vs[0]?==some (rawInt _))=true then _ else _) Q E s
           rw[if_neg (by intro h;rw[hn,Bool.false_and] at h;cases h)]
           exact wpAny_pure hQ))
def dj(K:PySem.W.Frag)(a:Addr):It:=
 ⟨fun i H=> ∃xs x,aC K H a xs∧xs[i]?=some x,fun i H x H'=>H'=H∧ ∀xs,aC K H a xs→xs[i]?=some x,fun i H=> ∃xs,aC K H a xs∧xs.length≤i⟩
def M_(K:PySem.W.Frag)(a:Addr):It:=
 ⟨fun i H=> ∃xs x,aX K H a xs∧xs[i]?=some x,fun i H x H'=>H'=H∧ ∀xs,aX K H a xs→xs[i]?=some x,fun i H=> ∃xs,aX K H a xs∧xs.length≤i⟩
def fG(lo:Int)(n:Nat):It:=⟨fun i _=>i<n,fun i H x H'=>H'=H∧x= .int (lo+i),fun i _=>n≤i⟩
theorem Na{P:Program}{w:World}{K:PySem.W.Frag}{tg:Expr}(a it:Addr):Turn P w K tg (dj K a) [it] it (fun i h=>h.IsListIter it a i) where
 mem:=by simp
 obj:=fun i h st b hb=>by
  have e:b=it:=by simpa using hb
  subst e
  obtain⟨o,e,c,d⟩:=st
  exact⟨o,e,fun v z=>by rw[d] at z;cases z⟩
 keep:=fun i h h' st k=>st.at fun o e=>k it (by simp) o e
 item:=by
  intro X hP hw hK hc i pins s σ H E I hf st hg
  subst hP hw hK
  obtain⟨xs,x,hq,hx⟩:=hg
  obtain⟨its,rv,p,hz⟩:=I.list hq
  obtain⟨u,hu,ru⟩:=rv.get hx
  obtain⟨f0,f1,f2,f3,f4,f5⟩:=hf it (by simp)
  refine wpAny_pyNext_list_item st p.isList (x:=u) (by simpa using hu) fun h' hV sb=> ?_
  have I1:Inv X pins σ H {s with heap:=h'}:=I.turned (t':=s.toks) (fun b o hb e=> (sb.2 b hb).trans e) f0 f1 f3 f4 f5
  obtain⟨o,e,c,d⟩:=id hV
  exact⟨u,rfl,Ek (s:={s with heap:=h'}) e c d (by decide) ⟨x,H,I1,ru,⟨rfl,fun ys hy=>by rw[I.D8 hy hq];exact hx⟩,hV,fun b hb=> (hf b hb).1⟩⟩
 done:=by
  intro X hP hw hK hc i pins s σ H E I hf st hg
  subst hP hw hK
  obtain⟨xs,hq,hx⟩:=hg
  obtain⟨its,rv,p,hz⟩:=I.list hq
  obtain⟨f0,f1,f2,f3,f4,f5⟩:=hf it (by simp)
  have hl:=rv.length
  exact wpAny_pyNext_list_end (I.ok.hd hc) st p.isList (by simp;omega) fun h' eb=> ⟨rfl,I.turned (t':=s.toks) (fun b o hb e=>eb b o hb e) f0 f1 f3 f4 f5⟩
 self:=fun _ _ _ _ _ st h=>wpAny_pyIter_listiter st h
theorem Nb{P:Program}{w:World}{K:PySem.W.Frag}{tg:Expr}(it:Addr)(lo:Int)(n:Nat):Turn P w K tg (fG lo n) [it] it (fun i h=>IsRangeIter h it (lo+ (i:Nat)*1) ((n:Int) - (i:Nat)) 1) where
 mem:=by simp
 obj:=fun i h st b hb=>by
  have e:b=it:=by simpa using hb
  subst e
  exact⟨_,st,fun v z=>by
   have z':Data.fields _=Data.cell v:=z
   cases z'⟩
 keep:=fun i h h' st k=>k it (by simp) _ st
 item:=by
  intro X hP hw hK hc i pins s σ H E I hf st hg
  subst hP hw hK
  obtain⟨f0,f1,f2,f3,f4,f5⟩:=hf it (by simp)
  have W:=Walks.range (prog:=X.prog) (w:=X.w) (I.ok.hd hc) it lo 1 n
  refine W.item i s _ _ hg st fun v h' tk hv hV kk=> ?_
  obtain⟨t,rfl⟩:=hv
  have I1:Inv X pins σ H {s with heap:=h',toks:=tk}:=I.turned (fun b o hb e=>kk b o (by simpa using hb) e) f0 f1 f3 f4 f5
  refine⟨_,rfl,Ek (s:={s with heap:=h',toks:=tk}) (n:="range_iterator") hV rfl rfl (by decide) ⟨.int (lo+i),H,I1,⟨t, ?_⟩,⟨rfl,rfl⟩,hV,fun b hb=> (hf b hb).1⟩⟩
  rw[Int.mul_one]
 done:=by
  intro X hP hw hK hc i pins s σ H E I hf st hg
  subst hP hw hK
  obtain⟨f0,f1,f2,f3,f4,f5⟩:=hf it (by simp)
  exact wpAny_pyNext_range_end (I.ok.hd hc) st (by have:n≤i:=hg;omega) fun h' eb=> ⟨rfl,I.turned (t':=s.toks) (fun b o hb e=>eb b o hb e) f0 f1 f3 f4 f5⟩
 self:=fun _ _ _ _ _ st h=>wpAny_pyIter_rangeiter st h
section
variable {X:Cx} {tg:Expr}
def t6(K:PySem.W.Frag)(tl:TE):TI:=fun σ H R=>tl σ H fun x H1=> ∃a,x= .ref a∧(∃xs,aC K H1 a xs)∧R (dj K a) H1
def Nc(K:PySem.W.Frag)(tl:TE):TI:=fun σ H R=>tl σ H fun x H1=> ∃a,x= .ref a∧(∃xs,aX K H1 a xs)∧R (M_ K a) H1
theorem Nf{l:Expr}{tl:TE}(hl:PE X l tl):PI X tg l (t6 X.K tl):=by
 intro pins s σ H R I h
 refine aO (hl pins s σ H _ I h) fun v s1 ⟨x,H1,I1,r1,q1⟩=> ?_
 obtain⟨a,e,⟨xs,hq⟩,q⟩:=q1
 subst e
 cases r1
 obtain⟨its,rv,p,hz⟩:=I1.list hq
 refine wpAny_pyIter_list p.isList ?_
 refine⟨s1.heap.objs.size,[s1.heap.objs.size],_,_,H1,rfl,I1.kept (t':=s1.toks) fun b o e=>Heap.get?_push_of_some _ e,Na a _,⟨_,Heap.get?_push_size _ rfl,rfl,rfl⟩,fun b hb=> ?_,q⟩
 have e:b=s1.heap.objs.size:=by simpa using hb
 subst e
 exact I1.t5 (Nat.le_refl _) (I1.aG.fresh (Nat.le_refl _))
theorem Ng{pins:List (Addr×Obj)}{σ:St}{H:Hp}{s:Shared}{R:It→Hp→Prop}{E:Value→Shared→Prop}{lo hi:Int}{t u v:Tok}{tk:Nat}(I:Inv X pins σ H s)(h1: -(2 ^ 62)≤lo)(h2:lo<2 ^ 62)(h3: -(2 ^ 62)≤hi)(h4:hi<2 ^ 62)
  (q:R (fG lo (hi - lo).toNat) H):wpAny (model X.prog X.w) X.A (pyIter (.ref s.heap.objs.size)) (Ej X pins σ tg R) E {s with heap:=s.heap.push {cls:= .type "range",data:= .fields #[.int lo t, .int hi u, .int 1 v]},toks:=tk}:=by
 refine wpAny_pyIter_range (IsRange.new ..) (small_one h1 h2 h3 h4) ?_
 have I1:Inv X pins σ H {s with heap:=s.heap.push {cls:= .type "range",data:= .fields #[.int lo t, .int hi u, .int 1 v]},toks:=tk}:=I.kept fun b o e=>Heap.get?_push_of_some _ e
 refine⟨(s.heap.push {cls:= .type "range",data:= .fields #[.int lo t, .int hi u, .int 1 v]}).objs.size,[(s.heap.push {cls:= .type "range",data:= .fields #[.int lo t, .int hi u, .int 1 v]}).objs.size],_,_,H,rfl,
  I1.kept (t':=tk) fun b o e=>Heap.get?_push_of_some _ e,Nb _ lo (hi - lo).toNat, ?_,fun b hb=> ?_,q⟩
 ·have e1:lo+ ((0:Nat):Int)*1=lo:=by simp
  have e2:(((hi - lo).toNat:Nat):Int) - ((0:Nat):Int)=Builtin.Range.rangeSize lo hi 1:=by rw[rangeSize_one];split<;>omega
  show IsRangeIter _ _ (lo+ ((0:Nat):Int)*1) ((((hi - lo).toNat:Nat):Int) - ((0:Nat):Int)) 1
  rw[e1,e2]
  exact Heap.get?_push_size _ rfl
 ·have e:b=(s.heap.push {cls:= .type "range",data:= .fields #[.int lo t, .int hi u, .int 1 v]}).objs.size:=by simpa using hb
  subst e
  exact I1.t5 (Nat.le_refl _) (I1.aG.fresh (Nat.le_refl _))
def El(ta:TA):TI:=fun σ H R=>ta σ H fun vs H1=> ∃j:Int,vs=[.int j]∧ -(2 ^ 62)≤j∧j<2 ^ 62∧R (fG 0 j.toNat) H1
def Nh(ta:TA):TI:=fun σ H R=>ta σ H fun vs H1=> ∃i j:Int,vs=[.int i, .int j]∧(-(2 ^ 62)≤i∧i<2 ^ 62∧ -(2 ^ 62)≤j∧j<2 ^ 62)∧R (fG i (j - i).toNat) H1
theorem Ni{a:Expr}{ta:TA}{p pos:Pos}(hg:Gl X "range")(hm:X.mg "range"=none)(ha:PA X [a] ta)(hs:starEach [a] X.env=[(false,eval a X.env)]:=by rfl):PI X tg (.Call (.Name "range" p) [a] [] pos) (El ta):=by
 intro pins s σ H R I h
 refine Call_ (nk I hg hm boot_range (PyProof.Rows.callWith_type1 (aO (ha pos pins s σ H _ I h) fun us s1 ⟨vs,H1,I1,r1,q1⟩=> ?_) hs rfl))
 obtain⟨j,e,q1,q2,q⟩:=q1
 subst e
 cases r1 with
 | cons r rr=>
  cases rr
  obtain⟨t,rfl⟩:=r
  exact call_range_1 (Ng I1 (by omega) (by omega) q1 q2 (by simpa using q))
def pN(wi:TI)(g:TG)(tb:TS):TS:=fun D σ H=>wi σ H fun J H1=> ∃W:Nat→Nat→St→Hp→Prop,(∃m,W 0 m σ H1)∧ ∀i m σ H,W i m σ H→
 (J.stop i H∧D.nx σ H)∨(J.go i H∧ ∃N:St→Hp→Prop,(∀σ' H',N σ' H'→ ∃m',m'<m∧W (i+1) m' σ' H')∧ ∀x H',J.d9 i H x H'→g x σ H' fun σ2 H2=>tb {D with nx:=N,ct:=N,bk:=D.nx} σ2 H2)
def lX(fp:List Addr)(h:Heap):List (Addr×Obj):=fp.filterMap fun b=> (h.get? b).map fun o=> (b,o)
theorem pO{fp:List Addr}{h:Heap}{b:Addr}{o:Obj}(hb:b∈fp)(e:h.get? b=some o):(b,o)∈lX fp h:=List.mem_filterMap.mpr ⟨b,hb,by rw[e];rfl⟩
theorem Nj{fp:List Addr}{h:Heap}{p:Addr×Obj}(hp:p∈lX fp h):p.1∈fp∧h.get? p.1=some p.2:=by
 obtain⟨b,hb,e⟩:=List.mem_filterMap.mp hp
 cases q:h.get? b with
 | none=>rw[q] at e;cases e
 | some o=>
  rw[q] at e
  have e':(b,o)=p:=Option.some.inj e
  subst e'
  exact⟨hb,q⟩
theorem Inv.pinned{pins:List (Addr×Obj)}{σ:St}{H:Hp}{s:Shared}{fp:List Addr}(I:Inv X pins σ H s)(hf: ∀b∈fp,eI X pins H b)(ho: ∀b∈fp,∃o,s.heap.get? b=some o∧ ∀v,o.data≠ .cell v):Inv X (pins++lX fp s.heap) σ H s:=
 I.lU fun p hp=> (List.mem_append.mp hp).elim (fun z=>I.pin p (List.mem_append_right _ z)) fun z=>by
  obtain⟨hb,e⟩:=Nj z
  obtain⟨f0,f1,f2,_⟩:=hf p.1 hb
  obtain⟨o,e',d⟩:=ho p.1 hb
  rw[e] at e';cases e'
  exact⟨e,f0,f1,f2,d⟩
theorem Inv.t9{pins pl:List (Addr×Obj)}{σ:St}{H:Hp}{s:Shared}(I:Inv X (pins++pl) σ H s):Inv X pins σ H s:=I.lU fun p hp=>I.pin p (List.mem_append_right _ (List.mem_append_left _ hp))
theorem Em{iter:Expr}{body:List Stmt}{wi:TI}{g:TG}{tb:TS}{pos:Pos}(hp:PassesOwn (model X.prog X.w) X.A X.env X.xe)(hc:X.calm=true)(hi:PI X tg iter wi)(hg:PG X tg g)(hb:aW X body tb)
  (hs: ∀x,foldedSetIterable iter X.env x=pure x:=by intro _;rfl):PS X (.For tg iter body [] pos) (pN wi g tb):=by
 intro pins s σ H D I h
 refine wpAny_For (aO (hi pins s σ H _ I h) fun v s1 h1=>aO h1 fun lW s2 h2=> ?_) hs
 obtain⟨it,fp,tn,J,H2,e,I2,T,t_,f2,W,⟨m0,w0⟩,turn⟩:=h2
 subst e
 have i_: ∀{H':Hp},(∀b∈fp,H' b=none)→ ∀b∈fp,eI X pins H' b:=fun hn b hb=> ⟨hn b hb,(f2 b hb).2⟩
 refine codeAny_forLoop_any (fun n s'=> ∃i σ' H',Inv X pins σ' H' s'∧tn i s'.heap∧(∀b∈fp,H' b=none)∧W i n σ' H') ?_ m0 ⟨0,σ,H2,I2,t_,fun b hb=> (f2 b hb).1,w0⟩
 rintro n s3 ⟨i,σ3,H3,I3,En,Eo,w3⟩
 rcases turn i n σ3 H3 w3 with⟨stop,qn⟩ | ⟨go,N,hN,step⟩
 ·refine wpAny_passesOwn hp (aO (T.done X rfl rfl rfl hc i pins s3 σ3 H3 X.xe I3 (i_ Eo) En stop) fun r s4 ⟨hr,I4⟩=> ?_)
  subst hr
  exact wpAny_execs_nil ⟨σ3,H3,I4,qn⟩
 ·refine wpAny_passesOwn hp (aO (T.item X rfl rfl rfl hc i pins s3 σ3 H3 X.xe I3 (i_ Eo) En go) fun r s4 ⟨u,hr,h4⟩=> ?_)
  subst hr
  refine wpAny_passesOwn hp (aO h4 fun _ s5 ⟨x,H5,I5,r5,y5,ja,ua⟩=> ?_)
  have ub:=I5.pinned (i_ ua) (T.obj _ _ ja)
  refine wpAny_passesOwn hp (aO (hg _ s5 σ3 H5 x u _ ub r5 (step x H5 y5)) fun _ s6 ⟨σ6,H6,I6,q6⟩=> ?_)
  refine wpAny_passesOwn hp (aO (hb _ s6 σ6 H6 _ I6 q6) fun f s7 q7=> ?_)
  have again: ∀{σ7:St} {H7:Hp},Inv X (pins++lX fp s5.heap) σ7 H7 s7→N σ7 H7→ ∃m,m<n∧ ∃i σ' H',Inv X pins σ' H' s7∧tn i s7.heap∧(∀b∈fp,H' b=none)∧W i m σ' H':=fun {σ7 H7} I7 n7=>by
   obtain⟨m',hm,w7⟩:=hN σ7 H7 n7
   refine⟨m',hm,i+1,σ7,H7,I7.t9,T.keep _ _ _ ja fun b hb o e=> (I7.pin (b,o) (List.mem_append_right _ (List.mem_append_right _ (pO hb e)))).1,fun b hb=> ?_,w7⟩
   obtain⟨o,e,d⟩:=T.obj _ _ ja b hb
   exact(I7.pin (b,o) (List.mem_append_right _ (List.mem_append_right _ (pO hb e)))).2.1
  cases f with
  | next=>obtain⟨σ7,H7,I7,n7⟩:=q7;exact again I7 n7
  | cont=>obtain⟨σ7,H7,I7,n7⟩:=q7;exact again I7 n7
  | brk=>obtain⟨σ7,H7,I7,q7⟩:=q7;exact⟨σ7,H7,I7.t9,q7⟩
  | ret v=>obtain⟨x7,σ7,H7,I7,r7,q7⟩:=q7;exact⟨x7,σ7,H7,I7.t9,r7,q7⟩
end
theorem nq{K:PySem.W.Frag}{a:Addr}{xs:List V}{g:TG}{tb:TS}{D:Ends}{σ:St}{H:Hp}(Pv:Nat→St→Hp→Prop)(h0:Pv 0 σ H)(hl: ∀i σ H,i≤xs.length→Pv i σ H→aC K H a xs)
  (hs: ∀i x σ H,xs[i]?=some x→Pv i σ H→g x σ H fun σ2 H2=>tb {D with nx:=Pv (i+1),ct:=Pv (i+1),bk:=D.nx} σ2 H2) (hd: ∀σ H,Pv xs.length σ H→D.nx σ H):
  ∃W:Nat→Nat→St→Hp→Prop,(∃m,W 0 m σ H)∧ ∀i m σ H,W i m σ H→
   ((dj K a).stop i H∧D.nx σ H)∨((dj K a).go i H∧ ∃N:St→Hp→Prop,(∀σ' H',N σ' H'→ ∃m',m'<m∧W (i+1) m' σ' H')∧ ∀x H',(dj K a).d9 i H x H'→g x σ H' fun σ2 H2=>tb {D with nx:=N,ct:=N,bk:=D.nx} σ2 H2):=by
 refine⟨fun i m σ H=>m=xs.length - i∧i≤xs.length∧Pv i σ H,⟨xs.length,by simp,Nat.zero_le _,h0⟩, ?_⟩
 rintro i m σ H ⟨rfl,hi,p⟩
 have q:=hl i σ H hi p
 by_cases bc:i<xs.length
 ·refine .inr ⟨⟨xs,xs[i],q,by simp[bc]⟩,Pv (i+1),fun σ' H' p'=> ⟨xs.length - (i+1),by omega,rfl,bc,p'⟩,fun x H' y=> ?_⟩
  obtain⟨e,y⟩:=y
  subst e
  exact hs i x σ _ (y xs q) p
 ·have e:i=xs.length:=by omega
  subst e
  exact .inl ⟨⟨xs,q,Nat.le_refl _⟩,hd σ H p⟩
theorem Ep{lo:Int}{n:Nat}{g:TG}{tb:TS}{D:Ends}{σ:St}{H:Hp}(Pv:Nat→St→Hp→Prop)(h0:Pv 0 σ H)
  (hs: ∀i σ H,i<n→Pv i σ H→g (.int (lo+i)) σ H fun σ2 H2=>tb {D with nx:=Pv (i+1),ct:=Pv (i+1),bk:=D.nx} σ2 H2) (hd: ∀σ H,Pv n σ H→D.nx σ H):
  ∃W:Nat→Nat→St→Hp→Prop,(∃m,W 0 m σ H)∧ ∀i m σ H,W i m σ H→
   ((fG lo n).stop i H∧D.nx σ H)∨((fG lo n).go i H∧ ∃N:St→Hp→Prop,(∀σ' H',N σ' H'→ ∃m',m'<m∧W (i+1) m' σ' H')∧ ∀x H',(fG lo n).d9 i H x H'→g x σ H' fun σ2 H2=>tb {D with nx:=N,ct:=N,bk:=D.nx} σ2 H2):=by
 refine⟨fun i m σ H=>m=n - i∧i≤n∧Pv i σ H,⟨n,by simp,Nat.zero_le _,h0⟩, ?_⟩
 rintro i m σ H ⟨rfl,hi,p⟩
 by_cases bc:i<n
 ·refine .inr ⟨bc,Pv (i+1),fun σ' H' p'=> ⟨n - (i+1),by omega,rfl,bc,p'⟩,fun x H' y=> ?_⟩
  obtain⟨e,y⟩:=y
  subst e y
  exact hs i σ _ bc p
 ·have e:i=n:=by omega
  subst e
  exact .inl ⟨Nat.le_refl _,hd σ H p⟩
abbrev R2:=V→V→Hp→VK→Prop
def bf(X:Cx)(f:Value→Value→Sem Value)(r:R2):Prop:=
 ∀(pins:List (Addr×Obj)) (s:Shared) (σ:St) (H:Hp) (x y:V) (v u:Value) (Q:VK),Inv X pins σ H s→RelV x v→RelV y u→r x y H Q→
  wpAny (model X.prog X.w) X.A (f v u) (EP X pins σ Q) X.xe s
def pP(X:Cx)(f:Value→Sem Value)(r:V→Hp→VK→Prop):Prop:=
 ∀(pins:List (Addr×Obj)) (s:Shared) (σ:St) (H:Hp) (x:V) (v:Value) (Q:VK),Inv X pins σ H s→RelV x v→r x H Q→
  wpAny (model X.prog X.w) X.A (f v) (EP X pins σ Q) X.xe s
def bT(X:Cx)(f:Value)(r:List V→Hp→VK→Prop):Prop:=
 ∀(pins:List (Addr×Obj)) (s:Shared) (σ:St) (H:Hp) (xs:List V) (us:List Value) (Q:VK),Inv X pins σ H s→Vals xs us→r xs H Q→
  wpAny (model X.prog X.w) X.A (call f us) (EP X pins σ Q) X.xe s
def Nk(X:Cx)(r:V→Hp→(Bool→Hp→Prop)→Prop):Prop:=
 ∀(pins:List (Addr×Obj)) (s:Shared) (σ:St) (H:Hp) (x:V) (v:Value) (Q:Bool→Hp→Prop),Inv X pins σ H s→RelV x v→r x H Q→
  wpAny (model X.prog X.w) X.A (truthy v) (TP X pins σ Q) X.xe s
def cT(r:R2)(ta tb:TE):TE:=fun σ H Q=>ta σ H fun x H1=>tb σ H1 fun y H2=>r x y H2 Q
def Er(r:V→Hp→VK→Prop)(ta:TE):TE:=fun σ H Q=>ta σ H fun x H1=>r x H1 Q
def rI(C:Int→Int→Prop)(g:Int→Int→V):R2:=fun x y H Q=> ∃i j,x= .int i∧y= .int j∧C i j∧Q (g i j) H
def gA(g:Int→Int→V):R2:=fun x y H Q=> ∃i j,x= .int i∧y= .int j∧Q (g i j) H
def rU(g:Int→V):V→Hp→VK→Prop:=fun x H Q=> ∃i,x= .int i∧Q (g i) H
section
variable {X:Cx} {a b c:Expr} {ta tb tc:TE} {pos:Pos}
theorem uc(ha:PE X a ta)(hb:PE X b tb){pins:List (Addr×Obj)}{s:Shared}{σ:St}{H:Hp}{R:V→V→Hp→Prop}(I:Inv X pins σ H s)
  (h:ta σ H fun x H1=>tb σ H1 fun y H2=>R x y H2) {Q:Value→Shared→Prop} {f:Value→Value→Sem Value}
  (hf: ∀v u s2 x y H2,Inv X pins σ H2 s2→RelV x v→RelV y u→R x y H2→wpAny (model X.prog X.w) X.A (f v u) Q X.xe s2):
  wpAny (model X.prog X.w) X.A (eval a X.env) (fun v s₁=>wpAny (model X.prog X.w) X.A (eval b X.env) (fun u s₂=>wpAny (model X.prog X.w) X.A (f v u) Q X.xe s₂) X.xe s₁) X.xe s:=by
 refine aO (ha pins s σ H _ I h) fun v s1 ⟨x,H1,I1,r1,q1⟩=> ?_
 refine aO (hb pins s1 σ H1 _ I1 q1) fun u s2 ⟨y,H2,I2,r2,q2⟩=> ?_
 exact hf v u s2 x y H2 I2 r1 r2 q2
theorem Nl{op:Operator}{r:R2}(ho:bf X (binaryOp op) r)(ha:PE X a ta)(hb:PE X b tb):PE X (.BinOp a op b pos) (cT r ta tb):=by
 intro pins s σ H Q I h
 exact wpAny_BinOp (uc ha hb I h fun v u s2 x y H2 I2 rx ry q=>ho pins s2 σ H2 x y v u Q I2 rx ry q)
theorem Nm{op:UnaryOp}{r:V→Hp→VK→Prop}(ho:pP X (unaryOp op) r)(ha:PE X a ta):PE X (.UnaryOp op a pos) (Er r ta):=by
 intro pins s σ H Q I h
 exact UnaryOp_ (aO (ha pins s σ H _ I h) fun v s1 ⟨x,H1,I1,r1,q1⟩=>ho pins s1 σ H1 x v Q I1 r1 q1)
theorem pQ{f:Value→Value→Sem Value}{C:Int→Int→Prop}{g:Int→Int→Int}
  (rule: ∀(i j:Int) (t u:Tok) (s:Shared) (Q:Value→Shared→Prop) (E:Value→Shared→Prop),C i j→Q (.int (g i j) s.toks) {s with toks:=s.toks+1}→wpAny (model X.prog X.w) X.A (f (.int i t) (.int j u)) Q E s):
  bf X f (rI C fun i j=> .int (g i j)):=by
 intro pins s σ H x y v u Q I rx ry h
 obtain⟨i,j,rfl,rfl,hc,q⟩:=h
 obtain⟨t,rfl⟩:=rx
 obtain⟨t',rfl⟩:=ry
 exact rule i j t t' s _ _ hc ⟨.int (g i j),H,I.tok _,⟨_,rfl⟩,q⟩
theorem Es{f:Value→Value→Sem Value}{g:Int→Int→Int}
  (rule: ∀(i j:Int) (t u:Tok) (s:Shared) (Q:Value→Shared→Prop) (E:Value→Shared→Prop),Q (.int (g i j) s.toks) {s with toks:=s.toks+1}→wpAny (model X.prog X.w) X.A (f (.int i t) (.int j u)) Q E s):
  bf X f (gA fun i j=> .int (g i j)):=by
 intro pins s σ H x y v u Q I rx ry h
 obtain⟨i,j,rfl,rfl,q⟩:=h
 obtain⟨t,rfl⟩:=rx
 obtain⟨t',rfl⟩:=ry
 exact rule i j t t' s _ _ ⟨.int (g i j),H,I.tok _,⟨_,rfl⟩,q⟩
theorem pR{f:Value→Value→Sem Value}{g:Int→Int→Bool}
  (rule: ∀(i j:Int) (t u:Tok) (s:Shared) (Q:Value→Shared→Prop) (E:Value→Shared→Prop),Q (.bool (g i j)) s→wpAny (model X.prog X.w) X.A (f (.int i t) (.int j u)) Q E s):
  bf X f (gA fun i j=> .bl (g i j)):=by
 intro pins s σ H x y v u Q I rx ry h
 obtain⟨i,j,rfl,rfl,q⟩:=h
 obtain⟨t,rfl⟩:=rx
 obtain⟨t',rfl⟩:=ry
 exact rule i j t t' s _ _ ⟨.bl (g i j),H,I,rfl,q⟩
def ud(i j:Int):Prop:=0<j∧j<1073741824
def Et(i j:Int):Prop:=0≤j∧j≤1000000∧i.natAbs<2 ^ 64
def pS(i j:Int):Prop:=(-(2 ^ 64) <i∧i<2 ^ 64)∨(-(2 ^ 64) <j∧j<2 ^ 64)
theorem pS.ok{i j:Int}(h:pS i j):IntMulOk i j:=by
 rcases h with⟨h1,h2⟩ | ⟨h1,h2⟩
 ·exact .of_left (intBits_le_64 h1 h2)
 ·exact .of_right (intBits_le_64 h1 h2)
theorem Nn:bf X (binaryOp .Add) (gA fun i j=> .int (i+j)):=Es fun _ _ _ _ _ _ _ q=>add_int q
theorem Np:bf X (binaryOp .Sub) (gA fun i j=> .int (i - j)):=Es fun _ _ _ _ _ _ _ q=>sub_int q
theorem Nq:bf X (binaryOp .Mult) (rI pS fun i j=> .int (i*j)):=pQ fun _ _ _ _ _ _ _ hc q=>mul_int q hc.ok
theorem Nr:bf X (binaryOp .FloorDiv) (rI ud fun i j=> .int (i / j)):=pQ fun i j _ _ _ _ _ hc q=>by
 have h1:(0:Int) <j:=hc.1
 have h2:j<1073741824:=hc.2
 exact floordiv_int (by omega) (by rw[Int.fdiv_eq_ediv_of_nonneg i (by omega)];exact q) (.inl (PyProof.noPylong_small (by omega)))
theorem Nt:bf X (binaryOp .Mod) (rI (fun _ j=>0<j) fun i j=> .int (i % j)):=pQ fun i j _ _ _ _ _ hc q=>by
 have h1:(0:Int) <j:=hc
 exact mod_int' (by omega) (by rw[Int.fmod_eq_emod_of_nonneg i (by omega)];exact q)
theorem Nu:bf X (binaryOp .Pow) (rI Et fun i j=> .int (i ^ j.toNat)):=pQ fun _ _ _ _ _ _ _ hc q=>pow_int_small hc.1 hc.2.1 hc.2.2 q
theorem Nv{f:Value→Sem Value}{g:Int→Int}
  (rule: ∀(i:Int) (t:Tok) (s:Shared) (Q:Value→Shared→Prop) (E:Value→Shared→Prop),Q (.int (g i) s.toks) {s with toks:=s.toks+1}→wpAny (model X.prog X.w) X.A (f (.int i t)) Q E s):
  pP X f (rU fun i=> .int (g i)):=by
 intro pins s σ H x v Q I rx h
 obtain⟨i,rfl,q⟩:=h
 obtain⟨t,rfl⟩:=rx
 exact rule i t s _ _ ⟨.int (g i),H,I.tok _,⟨_,rfl⟩,q⟩
theorem Nw:pP X (unaryOp .USub) (rU fun i=> .int (-i)):=Nv fun _ _ _ _ _ q=>neg_int q
end
def jb:V→V→Bool
 | .av, .av=>true | .av, .int _=>true | .int _, .av=>true | .av, .bl _=>true | .bl _, .av=>true | .av, .str _=>true | .str _, .av=>true
 | .int _, .int _=>true | .bl _, .bl _=>true | .str _, .str _=>true | .di _, .di _=>true
 | .int _, .str _=>true | .str _, .int _=>true | .bl _, .str _=>true | .str _, .bl _=>true
 | _,_=>false
def Nx:R2:=fun x y H Q=>jb x y=true∧Q (.bl (decide (x=y))) H
def Ny:R2:=fun x y H Q=>jb x y=true∧Q (.bl (!decide (x=y))) H
theorem Eu{i j:Int}:decide (V.int i=V.int j)=(i==j):=by
 rw[Bool.eq_iff_iff]
 simp
theorem Ew{i j:Bool}:decide (V.bl i=V.bl j)=(i==j):=by
 rw[Bool.eq_iff_iff]
 simp
theorem eY{i j:Str}:decide (V.str i=V.str j)=(i==j):=by
 rw[Bool.eq_iff_iff]
 simp
theorem Ex{i j:Array UInt8}:decide (V.di i=V.di j)=(i.toList==j.toList):=by
 rw[Bool.eq_iff_iff]
 cases i
 cases j
 simp
section
variable {X:Cx} {a b c:Expr} {ta tb tc:TE} {pos:Pos}
theorem bK{pins:List (Addr×Obj)}{σ:St}{H:Hp}{s:Shared}{Q:VK}{k k':Bool}(I:Inv X pins σ H s)(q:Q (.bl k) H)(e:k=k'):EP X pins σ Q (.bool k') s:=by
 subst e
 exact⟨.bl k,H,I,rfl,q⟩
theorem Nz:bf X (compareOp .Eq) Nx:=by
 intro pins s σ H x y v u Q I rx ry h
 obtain⟨hs,q⟩:=h
 cases x with
 | av=>
  cases rx
  cases y with
  | av=>cases ry;exact PySem.EqNone.eq_none_none (bK I q (by simp))
  | bl j=>cases ry;exact PySem.EqNone.eq_none_bool (bK I q (by simp))
  | int j=>obtain⟨t',rfl⟩:=ry;exact PySem.EqNone.eq_none_int (bK I q (by simp))
  | str j=>obtain⟨t',rfl⟩:=ry;exact PySem.EqNone.eq_none_str (bK I q (by simp))
  | _=>exact absurd (show false=true from hs) Bool.false_ne_true
 | bl i=>
  cases rx
  cases y with
  | av=>cases ry;exact PySem.EqNone.eq_bool_none (bK I q (by simp))
  | bl j=>cases ry;exact eq_bool (bK I q Ew)
  | str j=>obtain⟨t',rfl⟩:=ry;exact PySem.EqMixed.eq_bool_str (bK I q (by simp))
  | _=>exact absurd (show false=true from hs) Bool.false_ne_true
 | int i=>
  obtain⟨t,rfl⟩:=rx
  cases y with
  | av=>cases ry;exact PySem.EqNone.eq_int_none (bK I q (by simp))
  | int j=>obtain⟨t',rfl⟩:=ry;exact eq_int (bK I q Eu)
  | str j=>obtain⟨t',rfl⟩:=ry;exact PySem.EqMixed.eq_int_str (bK I q (by simp))
  | _=>exact absurd (show false=true from hs) Bool.false_ne_true
 | str i=>
  obtain⟨t,rfl⟩:=rx
  cases y with
  | av=>cases ry;exact PySem.EqNone.eq_str_none (bK I q (by simp))
  | bl j=>cases ry;exact PySem.EqMixed.eq_str_bool (bK I q (by simp))
  | int j=>obtain⟨t',rfl⟩:=ry;exact PySem.EqMixed.eq_str_int (bK I q (by simp))
  | str j=>obtain⟨t',rfl⟩:=ry;exact eq_str (bK I q eY)
  | _=>exact absurd (show false=true from hs) Bool.false_ne_true
 | di i=>
  obtain⟨t,rfl⟩:=rx
  cases y with
  | di j=>obtain⟨t',rfl⟩:=ry;exact PySem.W.eq_bytes (bK I q Ex)
  | _=>exact absurd (show false=true from hs) Bool.false_ne_true
 | _=>cases y<;>exact absurd (show false=true from hs) Bool.false_ne_true
theorem NA:bf X (compareOp .NotEq) Ny:=by
 intro pins s σ H x y v u Q I rx ry h
 obtain⟨hs,q⟩:=h
 cases x with
 | av=>
  cases rx
  cases y with
  | av=>cases ry;exact PySem.EqNone.ne_none_none (bK I q (by simp))
  | bl j=>cases ry;exact PySem.EqNone.ne_none_bool (bK I q (by simp))
  | int j=>obtain⟨t',rfl⟩:=ry;exact PySem.EqNone.ne_none_int (bK I q (by simp))
  | str j=>obtain⟨t',rfl⟩:=ry;exact PySem.EqNone.ne_none_str (bK I q (by simp))
  | _=>exact absurd (show false=true from hs) Bool.false_ne_true
 | bl i=>
  cases rx
  cases y with
  | av=>cases ry;exact PySem.EqNone.ne_bool_none (bK I q (by simp))
  | bl j=>cases ry;exact ne_bool (bK I q (congrArg not Ew))
  | str j=>obtain⟨t',rfl⟩:=ry;exact PySem.EqMixed.ne_bool_str (bK I q (by simp))
  | _=>exact absurd (show false=true from hs) Bool.false_ne_true
 | int i=>
  obtain⟨t,rfl⟩:=rx
  cases y with
  | av=>cases ry;exact PySem.EqNone.ne_int_none (bK I q (by simp))
  | int j=>obtain⟨t',rfl⟩:=ry;exact ne_int (bK I q (congrArg not Eu))
  | str j=>obtain⟨t',rfl⟩:=ry;exact PySem.EqMixed.ne_int_str (bK I q (by simp))
  | _=>exact absurd (show false=true from hs) Bool.false_ne_true
 | str i=>
  obtain⟨t,rfl⟩:=rx
  cases y with
  | av=>cases ry;exact PySem.EqNone.ne_str_none (bK I q (by simp))
  | bl j=>cases ry;exact PySem.EqMixed.ne_str_bool (bK I q (by simp))
  | int j=>obtain⟨t',rfl⟩:=ry;exact PySem.EqMixed.ne_str_int (bK I q (by simp))
  | str j=>obtain⟨t',rfl⟩:=ry;exact ne_str (bK I q (congrArg not eY))
  | _=>exact absurd (show false=true from hs) Bool.false_ne_true
 | di i=>
  obtain⟨t,rfl⟩:=rx
  cases y with
  | di j=>obtain⟨t',rfl⟩:=ry;exact PySem.W.ne_bytes (bK I q (congrArg not Ex))
  | _=>exact absurd (show false=true from hs) Bool.false_ne_true
 | _=>cases y<;>exact absurd (show false=true from hs) Bool.false_ne_true
theorem NB:bf X (compareOp .Lt) (gA fun i j=> .bl (decide (i<j))):=pR fun _ _ _ _ _ _ _ q=>lt_int q
theorem NC:bf X (compareOp .LtE) (gA fun i j=> .bl (decide (i≤j))):=pR fun _ _ _ _ _ _ _ q=>le_int q
theorem ND:bf X (compareOp .Gt) (gA fun i j=> .bl (decide (j<i))):=pR fun _ _ _ _ _ _ _ q=>gt_int q
theorem NG:bf X (compareOp .GtE) (gA fun i j=> .bl (decide (j≤i))):=pR fun _ _ _ _ _ _ _ q=>ge_int q
theorem NH:bf X (compareOp .In) (fun x y H Q=> ∃i j,x= .str i∧y= .str j∧Q (.bl (!(Builtin.Str.occurrences j i 0 j.length 1).isEmpty)) H):=by
 intro pins s σ H x y v u Q I rx ry h
 obtain⟨i,j,rfl,rfl,q⟩:=h
 obtain⟨t,rfl⟩:=rx
 obtain⟨t',rfl⟩:=ry
 exact in_str (bK I q rfl)
theorem NJ:bf X (compareOp .Is) (fun x y H Q=>y= .av∧Q (.bl (decide (x= .av))) H):=by
 intro pins s σ H x y v u Q I rx ry h
 obtain⟨rfl,q⟩:=h
 cases ry
 refine is_none_gen (bK I q ?_)
 cases x<;>first
  | (cases rx;rfl)
  | (obtain⟨t,rfl⟩:=rx;rfl)
theorem NK:bf X (compareOp .IsNot) (fun x y H Q=>y= .av∧Q (.bl (!decide (x= .av))) H):=by
 intro pins s σ H x y v u Q I rx ry h
 obtain⟨rfl,q⟩:=h
 cases ry
 refine isnot_none_gen (bK I q ?_)
 cases x<;>first
  | (cases rx;rfl)
  | (obtain⟨t,rfl⟩:=rx;rfl)
theorem NL:bf X (compareOp .NotIn) (fun x y H Q=> ∃i j,x= .str i∧y= .str j∧Q (.bl (!(!(Builtin.Str.occurrences j i 0 j.length 1).isEmpty))) H):=by
 intro pins s σ H x y v u Q I rx ry h
 obtain⟨i,j,rfl,rfl,q⟩:=h
 obtain⟨t,rfl⟩:=rx
 obtain⟨t',rfl⟩:=ry
 exact notIn_str (bK I q rfl)
theorem bf.or{f:Value→Value→Sem Value}{r r':R2}(h:bf X f r)(h':bf X f r'):bf X f (fun x y H Q=>r x y H Q∨r' x y H Q):=by
 intro pins s σ H x y v u Q I rx ry q
 rcases q with q | q
 ·exact h pins s σ H x y v u Q I rx ry q
 ·exact h' pins s σ H x y v u Q I rx ry q
theorem NM{op:CmpOp}{r:R2}(ho:bf X (compareOp op) r)(ha:PE X a ta)(hb:PE X b tb)(hm:behindInMarks op b=false):PE X (.Compare a [op] [b] pos) (cT r ta tb):=by
 intro pins s σ H Q I h
 exact wpAny_Compare1 (uc ha hb I h fun v u s2 x y H2 I2 rx ry q=>ho pins s2 σ H2 x y v u Q I2 rx ry q) hm
def lY(t:TE):TT:=fun σ H Q=>t σ H fun x H'=> ∃k,x= .bl k∧Q k H'
theorem NN{op:CmpOp}{r:R2}(ho:bf X (compareOp op) r)(ha:PE X a ta)(hb:PE X b tb)(hm:behindInMarks op b=false):PT X (.Compare a [op] [b] pos) (lY (cT r ta tb)):=by
 intro pins s σ H Q I h
 refine wpAny_isTrue_Compare1 (aO (ha pins s σ H _ I h) fun v s1 ⟨x,H1,I1,r1,q1⟩=>aO (hb pins s1 σ H1 _ I1 q1) fun u s2 ⟨y,H2,I2,r2,q2⟩=>
  aO (ho pins s2 σ H2 x y v u _ I2 r1 r2 q2) fun c s3 ⟨z,H3,I3,r3,k,e,q3⟩=> ?_) hm
 subst e
 cases r3
 exact wpAny_truthy_bool ⟨H3,I3,q3⟩
def pT(r r':R2)(ta tb tc:TE):TE:=fun σ H Q=>ta σ H fun x H1=>tb σ H1 fun y H2=>r x y H2 fun z H3=> ∃k,z= .bl k∧
 (if k=true then tc σ H3 fun w' H4=>r' y w' H4 Q else Q (.bl false) H3)
theorem NO{op dm:CmpOp}{r r':R2}(ho:bf X (compareOp op) r)(dF:bf X (compareOp dm) r')(ha:PE X a ta)(hb:PE X b tb)(hc:PE X c tc)
  (hm:lastMarks [op,dm] [b,c]=false:=by with_unfolding_all rfl):PE X (.Compare a [op,dm] [b,c] pos) (pT r r' ta tb tc):=by
 intro pins s σ H Q I h
 refine Compare_chain (aO (ha pins s σ H _ I h) fun v s1 ⟨x,H1,I1,r1,q1⟩=>chain_link (aO (hb pins s1 σ H1 _ I1 q1) fun u s2 ⟨y,H2,I2,r2,q2⟩=>
  aO (ho pins s2 σ H2 x y v u _ I2 r1 r2 q2) fun d s3 ⟨z,H3,I3,r3,k,e,q3⟩=> ?_)) hm
 subst e
 cases r3
 refine wpAny_truthy_bool ?_
 cases k with
 | false=>exact ite_ff ⟨.bl false,H3,I3,rfl,q3⟩
 | true=>exact ite_tt (chain_last (aO (hc pins s3 σ H3 _ I3 q3) fun w' s4 ⟨z',H4,I4,r4,q4⟩=>dF pins s4 σ H4 y z' u w' Q I4 r2 r4 q4))
def Ey(K:PySem.W.Frag)(x:V)(H:Hp)(k:Bool):Prop:=
 match x with
 | .av=>k=false
 | .bl b=>k=b
 | .int i=>k=(i !=0)
 | .str y=>y.length≤sizeLine∧k=((y.length:Int) !=0)
 | .di y=>y.size≤sizeLine∧k=((y.size:Int) !=0)
 | .ref p=> (∃xs,aC K H p xs∧k= !xs.isEmpty)∨(∃xs,aX K H p xs∧k= !xs.isEmpty)∨ ∃aJ,H p=some (.dK aJ)∧k= !aJ.isEmpty
 | _=>False
theorem NP{κ:Type}{aJ:List (κ×V)}{vs:List (κ×Value)}(r:KV aJ vs):(!vs.isEmpty)= !aJ.isEmpty:=by
 cases r<;>rfl
theorem Ez{xs:List V}{its:List Value}(r:Vals xs its):(!its.toArray.isEmpty)= !xs.isEmpty:=by
 cases r<;>simp
theorem hX:(sizeLine:Nat) <2 ^ 63:=by rw[sizeLine_eq];decide
theorem EA:Nk X (fun x H Q=> ∃k,Ey X.K x H k∧Q k H):=by
 intro pins s σ H x v Q I rx h
 obtain⟨k,e,q⟩:=h
 have hl:=hX
 have hs:sizeLine=16777216:=sizeLine_eq
 cases x with
 | av=>
  cases rx
  have e':k=false:=e
  subst e'
  exact truthy_none ⟨H,I,q⟩
 | bl b=>
  cases rx
  have e':k=b:=e
  subst e'
  exact wpAny_truthy_bool ⟨H,I,q⟩
 | int i=>
  obtain⟨t,rfl⟩:=rx
  have e':k=(i !=0):=e
  subst e'
  exact PySem.P.truthy_int ⟨H,I,q⟩
 | str y=>
  obtain⟨t,rfl⟩:=rx
  obtain⟨hy,e'⟩:y.length≤sizeLine∧k=((y.length:Int) !=0):=e
  subst e'
  exact PySem.P.truthy_str (by omega) ⟨H,I.tok _,q⟩
 | di y=>
  obtain⟨t,rfl⟩:=rx
  obtain⟨hy,e'⟩:y.size≤sizeLine∧k=((y.size:Int) !=0):=e
  subst e'
  exact PySem.W.truthy_bytes (by omega) ⟨H,I.tok _,q⟩
 | ref p=>
  cases rx
  have e':(∃xs,aC X.K H p xs∧k= !xs.isEmpty)∨(∃xs,aX X.K H p xs∧k= !xs.isEmpty)∨ ∃aJ,H p=some (.dK aJ)∧k= !aJ.isEmpty:=e
  rcases e' with⟨xs,hx,e'⟩ | ⟨xs,hx,e'⟩ | ⟨aJ,hx,e'⟩
  ·subst e'
   obtain⟨its,r,pl,hz⟩:=I.list hx
   have hlen:=r.length
   exact wpAny_truthy_list pl.isList (by simp only[List.size_toArray];omega) ⟨H,I.tok _,by rw[Ez r];exact q⟩
  ·subst e'
   obtain⟨its,r,pl,hz⟩:=I.tuple hx
   have hlen:=r.length
   exact truthy_tuple pl (by simp only[List.size_toArray];omega) ⟨H,I.tok _,by rw[Ez r];exact q⟩
  ·subst e'
   obtain⟨hz,hS,vs,r,m⟩:aJ.length≤sizeLine∧(p==sysModules)=false∧ ∃vs,KV aJ vs∧s.heap.DictOf (fA X.prog X.w) p vs:=I.aG p _ hx
   have hlen:aJ.length=vs.length:=Paired.length r
   exact wpAny_truthy_dict hS m (by omega) ⟨H,I.tok _,by rw[NP r];exact q⟩
 | _=>exact(show False from e).elim
theorem NQ:bf X (binaryOp .Add) (fun x y H Q=> ∃i j,x= .str i∧y= .str j∧i.length+j.length≤sizeLine∧Q (.str (i++j)) H):=by
 intro pins s σ H x y v u Q I rx ry h
 obtain⟨i,j,rfl,rfl,hz,q⟩:=h
 obtain⟨t,rfl⟩:=rx
 obtain⟨t',rfl⟩:=ry
 exact add_str (fun t' tk=> ⟨.str (i++j),H,I.tok _,⟨_,rfl⟩,q⟩) hz
theorem vals1{x:V}{us:List Value}(r:Vals [x] us): ∃u,us=[u]∧RelV x u:=by
 cases r with
 | cons r1 r2=>cases r2;exact⟨_,rfl,r1⟩
theorem vals2{x y:V}{us:List Value}(r:Vals [x,y] us): ∃u w',us=[u,w']∧RelV x u∧RelV y w':=by
 cases r with
 | cons r1 r2=>
  cases r2 with
  | cons r3 r4=>cases r4;exact⟨_,_,rfl,r1,r3⟩
theorem NR:bT X (.builtin "abs") (fun xs H Q=> ∃i,xs=[.int i]∧Q (.int (if i<0 then -i else i)) H):=by
 intro pins s σ H xs us Q I r h
 obtain⟨i,rfl,q⟩:=h
 obtain⟨u,rfl,t,rfl⟩:=vals1 r
 exact call_abs_int fun u tk=> ⟨.int (if i<0 then -i else i),H,I.tok _,⟨_,rfl⟩,q⟩
theorem NS(hc:X.calm=true):bT X (.builtin "max") (fun xs H Q=> ∃i j,xs=[.int i, .int j]∧Q (.int (if j>i then j else i)) H):=by
 intro pins s σ H xs us Q I r h
 obtain⟨i,j,rfl,q⟩:=h
 obtain⟨u,w',rfl,⟨t,rfl⟩,⟨t',rfl⟩⟩:=vals2 r
 refine max_two_ints (I.ok.hd hc) fun h' tk k=> ⟨_,H,I.kept k, ?_,q⟩
 by_cases hj:j>i
 ·rw[if_pos hj,if_pos hj];exact⟨_,rfl⟩
 ·rw[if_neg hj,if_neg hj];exact⟨_,rfl⟩
theorem NT(hc:X.calm=true):bT X (.builtin "min") (fun xs H Q=> ∃i j,xs=[.int i, .int j]∧Q (.int (if j<i then j else i)) H):=by
 intro pins s σ H xs us Q I r h
 obtain⟨i,j,rfl,q⟩:=h
 obtain⟨u,w',rfl,⟨t,rfl⟩,⟨t',rfl⟩⟩:=vals2 r
 refine min_two_ints (I.ok.hd hc) fun h' tk k=> ⟨_,H,I.kept k, ?_,q⟩
 by_cases hj:j<i
 ·rw[if_pos hj,if_pos hj];exact⟨_,rfl⟩
 ·rw[if_neg hj,if_neg hj];exact⟨_,rfl⟩
theorem NU:bT X (.type "int") (fun xs H Q=> (∃i,xs=[.int i]∧Q (.int i) H)∨ ∃k,xs=[.bl k]∧Q (.int (if k then 1 else 0)) H):=by
 intro pins s σ H xs us Q I r h
 rcases h with⟨i,rfl,q⟩ | ⟨k,rfl,q⟩
 ·obtain⟨u,rfl,t,rfl⟩:=vals1 r
  exact call_int_int ⟨.int i,H,I,⟨_,rfl⟩,q⟩
 ·obtain⟨u,rfl,r1⟩:=vals1 r
  cases r1
  exact call_int_bool ⟨.int (if k then 1 else 0),H,I.tok _,⟨_,rfl⟩,q⟩
def EB(K:PySem.W.Frag)(x:V)(H:Hp)(n:Nat):Prop:=
 match x with
 | .str y=>y.length≤sizeLine∧n=y.length
 | .di y=>y.size≤sizeLine∧n=y.size
 | .ref p=> (∃xs,aC K H p xs∧n=xs.length)∨ ∃xs,aX K H p xs∧n=xs.length
 | _=>False
theorem NV:bT X (.builtin "len") (fun xs H Q=> ∃x n,xs=[x]∧EB X.K x H n∧Q (.int n) H):=by
 intro pins s σ H xs us Q I r h
 obtain⟨x,n,rfl,e,q⟩:=h
 obtain⟨u,rfl,rx⟩:=vals1 r
 have hl:=hX
 have hs:sizeLine=16777216:=sizeLine_eq
 cases x with
 | str y=>
  obtain⟨t,rfl⟩:=rx
  obtain⟨hy,e'⟩:y.length≤sizeLine∧n=y.length:=e
  subst e'
  exact len_str (by omega) ⟨.int _,H,I.tok _,⟨_,rfl⟩,q⟩
 | di y=>
  obtain⟨t,rfl⟩:=rx
  obtain⟨hy,e'⟩:y.size≤sizeLine∧n=y.size:=e
  subst e'
  exact PySem.W.len_bytes (by omega) ⟨.int _,H,I.tok _,⟨_,rfl⟩,q⟩
 | ref p=>
  cases rx
  have e':(∃xs,aC X.K H p xs∧n=xs.length)∨ ∃xs,aX X.K H p xs∧n=xs.length:=e
  rcases e' with⟨xs,hx,e'⟩ | ⟨xs,hx,e'⟩
  ·subst e'
   obtain⟨its,r',pl,hz⟩:=I.list hx
   have hlen:=r'.length
   exact Calls.call_len_list pl.isList (by simp only[List.size_toArray];omega) ⟨.int xs.length,H,I.tok _,⟨_,by simp only[List.size_toArray];rw[hlen]⟩,q⟩
  ·subst e'
   obtain⟨its,r',pl,hz⟩:=I.tuple hx
   have hlen:=r'.length
   exact len_tuple pl (by simp only[List.size_toArray];omega) ⟨.int xs.length,H,I.tok _,⟨_,by simp only[List.size_toArray];rw[hlen]⟩,q⟩
 | _=>exact(show False from e).elim
end
structure jc (h:Heap) (x dx C:Addr) (mA:Str→Option Value):Prop where
 obj:h.get? x=some (instObj C dx)
 ns:h.Ns1 dx mA
 ne:dx≠x
theorem NW{h:Heap}{dx:Addr}{mA:Str→Option Value}(n:h.Ns1 dx mA): ∃od,h.get? dx=some od∧ ∀name,lookIn name od=some (mA name):=by
 obtain⟨o,es,ep,ho,hd,hk,_,hm⟩:=n
 refine⟨o,ho,fun name=> ?_⟩
 have e:=hm name
 unfold nsFind findBy at e
 rw[←Array.find?_toList] at e
 unfold lookIn
 rw[hd]
 dsimp only
 split
 ·rename_i y q
  rw[q] at e
  exact congrArg some e
 ·rename_i q
  rw[q] at e
  have a:es.toList.any (·.refKey)=false:=by
   rw[List.any_eq_false]
   intro y hy
   obtain⟨z,t,NY⟩:=hk y (Array.mem_toList_iff.mp hy)
   simp[DictEntry.refKey,NY]
  have a': ¬es.toList.any (·.refKey)=true:=by rw[a];exact Bool.false_ne_true
  rw[if_neg a']
  exact congrArg some e
theorem jc.look{h:Heap}{x dx C:Addr}{mA:Str→Option Value}(I:jc h x dx C mA): ∃od,PySem.W.InstAt h x (instObj C dx) C (some od)∧ ∀name,lookIn name od=some (mA name):=
 let ⟨od,ho,hl⟩:=NW I.ns
 ⟨od,⟨I.obj,rfl,rfl,ho⟩,hl⟩
section
variable {prog:Program} {w:World} {A:Around} {E:Value→Shared→Prop} {s:Shared} {K:PySem.W.Frag} {x dx C f:Addr} {mA:Str→Option Value} {name:Str} {v:Value}
theorem get_map{expr:Bool}{Q:Value→Shared→Prop}(X:K.In s.heap)(I:jc s.heap x dx C mA)(hg:plainGet K C name=true)(hh:hasDictIn K C=true)
  (ha:findIn K (.ref C) name=some none) (hv:mA name=some v) (ue:handedIn v=true) (h:Q v {s with toks:=s.toks+1}):
  wpAny (model prog w) A (getAttr (.ref x) name expr) Q E s:=by
 obtain⟨od,J,hl⟩:=I.look
 exact PySem.W.get_value X J (plainGet_of hg).1 (PySem.W.findObj_own hh ha rfl (by rw[hl,hv])) ue h
theorem NZ{pl:Sem Bool}{Q:Value×List Value→Shared→Prop}(X:K.In s.heap)(I:jc s.heap x dx C mA)(hg:plainGet K C name=true)
  (hf:findIn K (.ref C) name=some (some (.ref f))) (ht:isFn K (.ref f)=true) (hv:mA name=none) (h:Q (.ref f,[.ref x]) s):
  wpAny (model prog w) A (getMethod (.ref x) name pl) Q E s:=by
 obtain⟨od,J,hl⟩:=I.look
 exact PySem.W.method_fn X J (plainGet_of hg).1 (plainGet_of hg).2 hf (beq_iff_eq.mp ht) (by show(lookIn name od).map (·.isSome)=some false;rw[hl,hv];rfl) h
theorem N0{ns:List Str}{Q:Unit→Shared→Prop}(X:K.In s.heap)(I:jc s.heap x dx C mA)
  (hs:findIn K (.ref C) "__setattr__"=some (some (.builtin "object.__setattr__"))) (hp:plainOver K C=true) (ht:takerIn K C name=some none) (hh:hasDictIn K C=true)
  (hw:PySem.Within mA ns) (hZ:ns.length≤sizeLine)
  (h: ∀h',jc h' x dx C (fun y=>if y=name then some v else mA y)→Heap.SameBut dx s.heap h'→Q () {s with heap:=h',toks:=s.toks+2}):
  wpAny (model prog w) A (setAttr (.ref x) name v) Q E s:=by
 obtain⟨od,J,hl⟩:=I.look
 refine PySem.W.set_plain X J hs (PySem.W.osa_open (s:={s with toks:=s.toks+1}) (r:=none) X J hp ht fun b=> ?_)
 obtain⟨cd,hc,nh⟩:=PySem.W.any_some hh
 have hx:s.heap.get? x=some ⟨.ref C,some dx, .plain,#[]⟩:=I.obj
 refine wpAny_bind (wpAny_pure (wpAny_bind (wpAny_bind (wpAny_loadPart hx (wpAny_bind (PySem.W.Looks.here (s:={s with toks:=s.toks+1}) (PySem.W.looks_clsIn X hc) ?_))))))
 rw[nh]
 refine wpAny_pure (a:=some dx) (wpAny_bind (wpAny_pure (wpAny_bind ?_)))
 refine wpAny_nsSet1 (s:={s with toks:=s.toks+1}) I.ns fun h' h9 EC=> ?_
 obtain⟨oD,esD,epD,N1,N2,N3⟩:=h9.count (PySem.Within.cons name v hw)
 refine wpAny_bind (wpAny_lookBehind N1 (by rw[N2];exact pastItsLine_dict (Nat.le_trans N3 (by rw[List.length_cons];omega))) ?_)
 exact wpAny_pure (h _ ⟨(EC.2 _ (Ne.symm I.ne)).trans I.obj,h9,I.ne⟩ EC)
theorem N4{R:Result→Shared→Prop}{vs:List Value}{kw:List (Str×Value)}(X:K.In s.heap)(hm:makesIn K C=true)
  (hi:findIn K (.ref C) "__init__"=some (some (.ref f))) (hf:PySem.W.typeIn K (.ref f)=some (.type "function"))
  (h:codeAny (model prog w) (A.under (.builtin "type.__call__" ⟨.ref C::vs,kw⟩)) (.call (.ref f) ⟨.ref (s.heap.objs.size+1)::vs,kw⟩) (PySem.W.InitBack (s.heap.objs.size+1) R)
   {s with heap:=(s.heap.push emptyDict).push (instObj C s.heap.objs.size)}):
  codeAny (model prog w) A (.call (.ref C) ⟨vs,kw⟩) R s:=by
 obtain⟨hh,g,d,t,os⟩:=s
 exact PySem.W.make_core (PySem.W.makes_of X hm) (PySem.W.looks_findIn X hi) (fun self=>PySem.W.bind_fn X self hf) (.inl rfl) h
end
def bQ(f:Str)(v:V):List (Str×V)→List (Str×V)
 | []=> [(f,v)]
 | (g,x)::r=>if g=f then (g,v)::r else (g,x)::bQ f v r
theorem ED(f g:Str)(v:V): ∀fs:List (Str×V),(bQ f v fs).lookup g=if g=f then some v else fs.lookup g
 | []=>by
  show List.lookup g [(f,v)]=_
  by_cases h:g=f
  ·have hb:(g==f)=true:=beq_iff_eq.mpr h
   simp only[List.lookup,hb,if_pos h]
  ·have hb:(g==f)=false:=beq_eq_false_iff_ne.mpr h
   simp only[List.lookup,hb,if_neg h]
 | (k,x)::r=>by
  have ih:=ED f g v r
  rw[show bQ f v ((k,x)::r)=(if k=f then (k,v)::r else (k,x)::bQ f v r) from rfl]
  by_cases hk:k=f
  ·rw[if_pos hk]
   by_cases h:g=k
   ·have hb:(g==k)=true:=beq_iff_eq.mpr h
    simp only[List.lookup,hb,if_pos (h.trans hk)]
   ·have hb:(g==k)=false:=beq_eq_false_iff_ne.mpr h
    simp only[List.lookup,hb,if_neg (fun e:g=f=>h (e.trans hk.symm))]
  ·rw[if_neg hk]
   by_cases h:g=k
   ·have hb:(g==k)=true:=beq_iff_eq.mpr h
    simp only[List.lookup,hb,if_neg (fun e:g=f=>hk (h.symm.trans e))]
   ·have hb:(g==k)=false:=beq_eq_false_iff_ne.mpr h
    simp only[List.lookup,hb]
    exact ih
theorem uf(f:Str)(v:V): ∀fs:List (Str×V),f∈ (bQ f v fs).map (·.1)∧ ∀g,g∈fs.map (·.1)→g∈ (bQ f v fs).map (·.1)
 | []=> ⟨by simp[bQ],fun g h=>by simp at h⟩
 | (k,x)::r=>by
  obtain⟨i1,i2⟩:=uf f v r
  rw[show bQ f v ((k,x)::r)=(if k=f then (k,v)::r else (k,x)::bQ f v r) from rfl]
  by_cases hk:k=f
  ·rw[if_pos hk]
   subst hk
   exact⟨by simp,fun g h=>by simpa using h⟩
  ·rw[if_neg hk]
   refine⟨?_,fun g h=> ?_⟩
   ·rw[List.map_cons]
    exact List.mem_cons_of_mem _ i1
   ·rw[List.map_cons] at h⊢
    rcases List.mem_cons.mp h with e | e
    ·exact List.mem_cons.mpr (.inl e)
    ·exact List.mem_cons_of_mem _ (i2 g e)
theorem EE(f:Str)(v:V): ∀fs:List (Str×V),(bQ f v fs).length≤fs.length+1
 | []=>by simp[bQ]
 | (k,x)::r=>by
  have ih:=EE f v r
  rw[show bQ f v ((k,x)::r)=(if k=f then (k,v)::r else (k,x)::bQ f v r) from rfl]
  by_cases hk:k=f
  ·rw[if_pos hk,List.length_cons,List.length_cons];omega
  ·rw[if_neg hk,List.length_cons,List.length_cons];omega
theorem fB.some_of{v:V}{o:Option Value}(r:fB (some v) o): ∃u,o=some u∧RelV v u:=by
 cases o with
 | none=>exact(show False from r).elim
 | some u=>exact⟨u,rfl,r⟩
theorem fB.none_of{o:Option Value}(r:fB none o):o=none:=by
 cases o with
 | none=>rfl
 | some u=>exact(show False from r).elim
theorem N5{v:V}{u:Value}(r:RelV v u):handedIn u=true:=by
 cases v with
 | av=>cases (show u=Value.none from r);rfl
 | bl b=>cases (show u=Value.bool b from r);rfl
 | int i=>obtain⟨t,e⟩:=(show ∃t,u=Value.int i t from r);cases e;rfl
 | str x=>obtain⟨t,e⟩:=(show ∃t,u=Value.str x t from r);cases e;rfl
 | di b=>obtain⟨t,e⟩:=(show ∃t,u=Value.bytes b t from r);cases e;rfl
 | hJ b=>obtain⟨t,e⟩:=(show ∃t,u=Value.float b t from r);cases e;rfl
 | ref a=>cases (show u=Value.ref a from r);rfl
 | ty n=>cases (show u=Value.type n from r);rfl
section
variable {P:Program} {w:World} {H H':Hp} {h h':Heap} {a C dx:Addr} {fs My:List (Str×V)}
theorem pU(aG:b8 P w H h)(e:H a=some (.ins C dx fs)): ∃mA,jc h a dx C mA∧(∀f,fB (fs.lookup f) (mA f))∧PySem.Within mA (fs.map (·.1))∧fs.length≤1000∧H dx=some (.own a):=by
 obtain⟨d,z,ne,ob,mA,n,r,q⟩:=(show cq P w H h a (.ins C dx fs) from aG a _ e)
 exact⟨mA,⟨ob,n,ne⟩,r,q,z,d⟩
end
structure dH (K:PySem.W.Frag) (C:Addr):Prop where
 pg:plainGet K C Str.empty=true
 hd:hasDictIn K C=true
 po:plainOver K C=true
 sa:findIn K (.ref C) "__setattr__"=some (some (.builtin "object.__setattr__"))
theorem dH.get{K:PySem.W.Frag}{C:Addr}(c:dH K C)(f:Str):plainGet K C f=true:=c.pg
def dR(K:PySem.W.Frag)(C:Addr)(f:Str):Prop:=findIn K (.ref C) f=some none
theorem dR.N6{K:PySem.W.Frag}{C:Addr}{f:Str}(n:dR K C f):takerIn K C f=some none:=by
 unfold takerIn
 rw[show findIn K (.ref C) f=some none from n]
 rfl
structure Meth (K:PySem.W.Frag) (C:Addr) (m:Str) (f:Addr):Prop where
 at_:findIn K (.ref C) m=some (some (.ref f))
 fn:isFn K (.ref f)=true
 kp:keepIn K (.ref f)=true
section
variable {X:Cx} {pins:List (Addr×Obj)} {σ:St} {H:Hp} {s:Shared} {a C dx:Addr} {fs:List (Str×V)} {f:Str} {v:V} {A:Around} {E:Value→Shared→Prop}
theorem N7{b:Bool}{Q:Value→Shared→Prop}(I:Inv X pins σ H s)(e:H a=some (.ins C dx fs))(c:dH X.K C)(n:dR X.K C f)(l:fs.lookup f=some v)
  (h: ∀u s',Inv X pins σ H s'→RelV v u→Q u s'):wpAny (model X.prog X.w) A (getAttr (.ref a) f b) Q E s:=by
 obtain⟨mA,O,r,_,_,_⟩:=pU I.aG e
 obtain⟨u,hu,ru⟩:=fB.some_of (v:=v) (o:=mA f) (by rw[←l];exact r f)
 exact get_map I.ck O (c.get f) c.hd n hu (N5 ru) (h u _ (I.tok _) ru)
theorem EF{m:Str}{g:Addr}{pl:Sem Bool}{Q:Value×List Value→Shared→Prop}(I:Inv X pins σ H s)(e:H a=some (.ins C dx fs))(c:dH X.K C)(k:Meth X.K C m g)(l:fs.lookup m=none)
  (h:Q (.ref g,[.ref a]) s):wpAny (model X.prog X.w) A (getMethod (.ref a) m pl) Q E s:=by
 obtain⟨mA,O,r,_,_,_⟩:=pU I.aG e
 have hn:mA m=none:=fB.none_of (by rw[←l];exact r m)
 exact NZ I.ck O (c.get m) k.at_ k.fn hn h
theorem N8{y:V}{u:Value}{Q:Unit→Shared→Prop}(I:Inv X pins σ H s)(e:H a=some (.ins C dx fs))(c:dH X.K C)(n:dR X.K C f)(hl:fs.length<1000)(ry:RelV y u)
  (h: ∀s',Inv X pins σ (upd H a (.ins C dx (bQ f y fs))) s'→Q () s'):wpAny (model X.prog X.w) A (setAttr (.ref a) f u) Q E s:=by
 obtain⟨mA,O,r,wi,_,ho⟩:=pU I.aG e
 have hz:(fs.map (·.1)).length≤sizeLine:=by rw[List.length_map,sizeLine_eq];omega
 refine N0 I.ck O c.sa c.po n.N6 c.hd wi hz fun h' O' sb=>h _ ?_
 have hd: ∃o,h'.get? dx=some o:=let ⟨o,_,_,e',_⟩:=O'.ns;⟨o,e'⟩
 refine I.write (x:=a) (e:=dx) (by rw[e];exact True.intro) (.inr ho) (fun b q hb z=> (sb.2 b hb).trans z) hd ?_
 refine⟨by rw[aK O.ne];exact ho, ?_,O.ne,O'.obj,_,O'.ns,fun g=> ?_,fun g hg=> ?_⟩
 ·have:=EE f y fs;omega
 ·show fB ((bQ f y fs).lookup g) (if g=f then some u else mA g)
  rw[ED]
  by_cases q:g=f
  ·rw[if_pos q,if_pos q];exact ry
  ·rw[if_neg q,if_neg q];exact r g
 ·by_cases q:g=f
  ·rw[q];exact(uf f y fs).1
  ·refine(uf f y fs).2 g (wi g fun z=>hg ?_)
   show(if g=f then some u else mA g)=none
   rw[if_neg q];exact z
theorem Inv.made(I:Inv X pins σ H s):Inv X pins σ (upd (upd H s.heap.objs.size (.own (s.heap.objs.size+1))) (s.heap.objs.size+1) (.ins C s.heap.objs.size []))
  {s with heap:=(s.heap.push emptyDict).push (instObj C s.heap.objs.size)}:=by
 have e1:(s.heap.push emptyDict).get? s.heap.objs.size=some emptyDict:=Heap.get?_push_size s.heap rfl
 have e2:((s.heap.push emptyDict).push (instObj C s.heap.objs.size)).get? (s.heap.objs.size+1)=some (instObj C s.heap.objs.size):=by
  have:=Heap.get?_push_size (s.heap.push emptyDict) (o:=instObj C s.heap.objs.size) rfl
  rwa [Heap.size_push] at this
 have e3:(s.heap.push emptyDict).Ns s.heap.objs.size (fun _=>none):=⟨emptyDict,#[],_,e1,rfl,(fun e he=>absurd he (by simp)),fun _=>rfl⟩
 have I1:=I.laid (a:=s.heap.objs.size) (o:= .own (s.heap.objs.size+1)) (h':=s.heap.push emptyDict) (t':=s.toks) (fun b u q=>Heap.get?_push_of_some _ q) (Nat.le_refl _) ⟨_,e1⟩
 refine I1.laid (a:=s.heap.objs.size+1) (o:= .ins C s.heap.objs.size []) (t':=s.toks) (fun b u q=>Heap.get?_push_of_some _ q) (Nat.le_of_eq (Heap.size_push _ _)) ?_
 have ne:s.heap.objs.size≠s.heap.objs.size+1:=Nat.ne_of_lt (Nat.lt_succ_self _)
 refine⟨by rw[aK ne,aN],Nat.zero_le _,ne,e2,fun _=>none,(Heap.Ns1.of_empty e3).at fun o q=>Heap.get?_push_of_some _ q,fun _=>True.intro,fun y hy=>absurd rfl hy⟩
theorem N9{prog:Program}{w:World}{env:Env}{e:Expr}{f:Str}{pos:Pos}{s:Shared}{Q:Value→Shared→Prop}(hb:attributeBase e f env (eval e env)=eval e env)
  (h:wpAny (model prog w) A (eval e env) (fun o s₁=>wpAny (model prog w) A (getAttr o f true) Q E s₁) E s):wpAny (model prog w) A (eval (.Attribute e f pos) env) Q E s:=
 Attribute_any_ h (by rw[arm_eval_Attribute,hb])
end
def pV(K:PySem.W.Frag)(ta:TE)(f:Str):TE:=fun σ H Q=>ta σ H fun x H1=> ∃a C dx fs v,x= .ref a∧H1 a=some (.ins C dx fs)∧dH K C∧dR K C f∧fs.lookup f=some v∧Q v H1
def ug(K:PySem.W.Frag)(ta tv:TE)(f:Str):TS:=fun D σ H=>tv σ H fun y H1=>ta σ H1 fun x H2=> ∃a C dx fs,x= .ref a∧H2 a=some (.ins C dx fs)∧dH K C∧dR K C f∧fs.length<1000∧
 D.nx σ (upd H2 a (.ins C dx (bQ f y fs)))
section
variable {X:Cx} {o e value:Expr} {f:Str} {pos pos' ui:Pos} {ta tv:TE}
theorem N_(he:PE X e ta)(hb:attributeBase e f X.env (eval e X.env)=eval e X.env):PE X (.Attribute e f pos) (pV X.K ta f):=by
 intro pins s σ H Q I h
 refine N9 hb (aO (he pins s σ H _ I h) fun u s1 ⟨x,H1,I1,rx,a,C,dx,fs,v,ex,ea,c,n,l,q⟩=> ?_)
 subst ex
 obtain rfl:u=Value.ref a:=rx
 exact N7 I1 ea c n l fun u' s2 I2 ru=> ⟨v,H1,I2,ru,q⟩
theorem Oa(ha:PE X o ta)(hv:PE X value tv)(hs:swapsWith value (some (.Attribute o f pos')) pos.line X.env=pure false):PS X (.Assign [.Attribute o f pos'] value pos) (ug X.K ta tv f):=by
 intro pins s σ H D I h
 refine plainObj_wpAny_Assign_Attribute (aO (hv pins s σ H _ I h) fun u s1 ⟨y,H1,I1,ry,q⟩=>aO (ha pins s1 σ H1 _ I1 q) fun ov s2 ⟨x,H2,I2,rx,a,C,dx,fs,ex,ea,c,n,l,q2⟩=> ?_) hs
 subst ex
 obtain rfl:ov=Value.ref a:=rx
 exact N8 I2 ea c n l ry fun s3 I3=> ⟨σ,_,I3,q2⟩
end
section
variable {X:Cx} {pins:List (Addr×Obj)} {σ:St} {H:Hp} {s:Shared} {A:Around} {E:Value→Shared→Prop} {Q:Value→Shared→Prop} {c:Value} {b:Bool}
inductive d_ (K:PySem.W.Frag) (H:Hp):V→Value→Prop where
 | av:d_ K H .av (.type "NoneType")
 | bl (x:Bool):d_ K H (.bl x) (.type "bool")
 | int (i:Int):d_ K H (.int i) (.type "int")
 | str (x:Str):d_ K H (.str x) (.type "str")
 | hJ (x:UInt64):d_ K H (.hJ x) (.type "float")
 | lst {a:Addr} {xs:List V} (e:H a=some (.lst xs)):d_ K H (.ref a) (.type "list")
 | bM {a:Addr} {o:Obj} {xs:List V} (e:H a=some (.bM o (.lst xs))):d_ K H (.ref a) (.type "list")
 | tup {a:Addr} {xs:List V} (e:H a=some (.tup xs)):d_ K H (.ref a) (.type "tuple")
 | dK {a:Addr} {aJ:List (Key×V)} (e:H a=some (.dK aJ)):d_ K H (.ref a) (.type "dict")
 | dT {a:Addr} {aJ:List (List Key×V)} (e:H a=some (.dT aJ)):d_ K H (.ref a) (.type "dict")
 | ins {a C dx:Addr} {fs:List (Str×V)} (e:H a=some (.ins C dx fs)) (cl:dH K C) (ha:findIn K (.ref C) "__class__"=some (some (.builtin "object.__class__")))
   (hn:specialIn K (.builtin "object.__class__") "__get__"=some (some (.builtin "getset_descriptor.__get__"))) (nu:takesIn K (.builtin "object.__class__")=some true)
   (hm:mroIn K C (.type "object")=some true):d_ K H (.ref a) (.ref C)
theorem fI{x:V}{u t:Value}(I:Inv X pins σ H s)(rx:RelV x u)(ty:d_ X.K H x t)(e:kitOne X.K t c=some b)(h: ∀tk,Q (.bool b) {s with toks:=tk}):
  wpAny (model X.prog X.w) A (call (.builtin "isinstance") [u,c]) Q E s:=by
 cases ty with
 | av=>cases (show u=Value.none from rx);exact kia_one PySem.W.kitx_none I.ck True.intro e (fun z=>nomatch z) h
 | bl y=>cases (show u=Value.bool y from rx);exact kia_one PySem.W.kitx_bool I.ck True.intro e (fun z=>nomatch z) h
 | int i=>obtain⟨t,q⟩:=(show ∃t,u=Value.int i t from rx);cases q;exact kia_one PySem.W.kitx_int I.ck True.intro e (fun z=>nomatch z) h
 | str y=>obtain⟨t,q⟩:=(show ∃t,u=Value.str y t from rx);cases q;exact kia_one PySem.W.kitx_str I.ck True.intro e (fun z=>nomatch z) h
 | hJ y=>obtain⟨t,q⟩:=(show ∃t,u=Value.float y t from rx);cases q;exact kia_one PySem.W.kitx_float I.ck True.intro e (fun z=>nomatch z) h
 | @lst a xs ea=>
  cases (show u=Value.ref a from rx)
  obtain⟨_,_,n,_,h1⟩:=(show cq X.prog X.w H s.heap a (.lst xs) from I.aG a _ ea)
  exact kia_one kitx_list I.ck ⟨_,h1,rfl⟩ e (fun z=>nomatch z) h
 | @bM a ob xs ea=>
  cases (show u=Value.ref a from rx)
  obtain⟨_,_,_,n,_,h1⟩:=(show cq X.prog X.w H s.heap a (.bM ob (.lst xs)) from I.aG a _ ea)
  exact kia_one kitx_list I.ck ⟨_,h1,rfl⟩ e (fun z=>nomatch z) h
 | @tup a xs ea=>
  cases (show u=Value.ref a from rx)
  obtain⟨_,_,_,p⟩:=(show cq X.prog X.w H s.heap a (.tup xs) from I.aG a _ ea)
  obtain⟨o,h1,h2,_⟩:=p
  exact kia_one PySem.W.kitx_tuple I.ck ⟨o,h1,h2⟩ e (fun z=>nomatch z) h
 | @dK a aJ ea=>
  cases (show u=Value.ref a from rx)
  obtain⟨_,_,vs,_,p⟩:=(show cq X.prog X.w H s.heap a (.dK aJ) from I.aG a _ ea)
  obtain⟨o,es,ep,h1,h2,_⟩:=p
  exact kia_one kitx_dict I.ck ⟨o,h1,h2.1⟩ e (fun z=>nomatch z) h
 | @dT a aJ ea=>
  cases (show u=Value.ref a from rx)
  obtain⟨_,_,xs,_,o,es,ep,h1,h2,_⟩:=(show cq X.prog X.w H s.heap a (.dT aJ) from I.aG a _ ea)
  exact kia_one kitx_dict I.ck ⟨o,h1,h2.1⟩ e (fun z=>nomatch z) h
 | @ins a C dx fs ea cl ha hn nu hm=>
  cases (show u=Value.ref a from rx)
  obtain⟨mA,O,_⟩:=pU I.aG ea
  obtain⟨od,J,_⟩:=O.look
  exact kia_one (PySem.W.kitx_own (cl.get _) cl.hd ha hn nu hm) I.ck J e (fun z=>nomatch z) h
end
structure cm (k:Nat) (A:Around):Prop where
 hd:A.handled=none
 dp:A.depth+3*k+5<recursionLimit
 un:A.units+16*k+200<cLine
theorem cm.mono{j k:Nat}{A:Around}(r:cm k A)(h:j≤k):cm j A:=⟨r.hd,by have:=r.dp;omega,by have:=r.un;omega⟩
theorem cm.deeper{k:Nat}{A:Around}(r:cm (k+1) A)(env:Env):cm k (A.deeper env):=
 ⟨r.hd,by have:=r.dp;show A.depth+1+3*k+5<_;omega,by have:=r.un;show A.units+3+16*k+200<_;omega⟩
theorem Ob{A:Around}{C:Addr}{us:List Value}{kw:List (Str×Value)}:(A.under (.builtin "type.__call__" ⟨.ref C::us,kw⟩)).depth=A.depth+1:=by
 first | rfl | simp[Around.under,Code.weight,Code.isCreation,Code.isGuard,Code.isCaller,Code.frames,Code.isFrame,guardIds]
theorem Oc{A:Around}{C:Addr}{us:List Value}{kw:List (Str×Value)}:(A.under (.builtin "type.__call__" ⟨.ref C::us,kw⟩)).units=A.units+1:=by
 first | rfl | simp[Around.under,Code.cUnits,Code.frames,Code.isFrame]
theorem cm.make{k:Nat}{A:Around}(r:cm (k+1) A)(C:Addr)(us:List Value)(kw:List (Str×Value)):cm k (A.under (.builtin "type.__call__" ⟨.ref C::us,kw⟩)):=
 ⟨r.hd,by have:=r.dp;rw[Ob];omega,by have:=r.un;rw[Oc];omega⟩
theorem cm.depth{k:Nat}{A:Around}(r:cm k A):A.depth<recursionLimit:=by have:=r.dp;omega
theorem cm.units{k:Nat}{A:Around}(r:cm k A):A.units+64<cLine:=by have:=r.un;omega
def ee:TA:=fun _ H Q=>Q [] H
def cM(ta:TE)(tr:TA):TA:=fun σ H Q=>ta σ H fun x H1=>tr σ H1 fun xs H2=>Q (x::xs) H2
section
variable {X:Cx} {e:Expr} {es:List Expr} {te:TE} {t:TA} {pos:Pos}
theorem pW:PA X [] ee:=fun _ _ _ _ H Q I h=>Calls.spliced_nil ⟨[],H,I, .nil,h⟩
theorem nv(ha:PE X e te)(hr:PA X es t)(hs:starEach (e::es) X.env=(false,eval e X.env)::starEach es X.env:=by rfl):PA X (e::es) (cM te t):=by
 intro pos pins s σ H Q I h
 rw[hs]
 show wpAny _ _ (spliced ((false,eval e X.env)::backTo pos (starEach es X.env))) _ _ s
 refine Calls.spliced_cons (aO (ha pins s σ H _ I h) fun u s1 ⟨x,H1,I1,r1,q1⟩=> ?_)
 exact aO (hr pos pins s1 σ H1 _ I1 q1) fun us s2 ⟨xs,H2,I2,r2,q2⟩=> ⟨x::xs,H2,I2, .cons r1 r2,q2⟩
def EG(t:TA):TE:=fun σ H Q=>t σ H fun xs H1=>xs.length≤sizeLine∧ ∀p,H1 p=none→Q (.ref p) (upd H1 p (.tup xs))
def EH(t:TA):TE:=fun σ H Q=>t σ H fun xs H1=>xs.length≤sizeLine∧ ∀p,H1 p=none→Q (.ref p) (upd H1 p (.lst xs))
theorem Od{x1}(h:PA X es t):PE X (.Tuple es x1 pos) (EG t):=by
 intro pins s σ H Q I hq
 refine wpAny_Tuple_spliced (aO (h pos pins s σ H _ I hq) fun us s1 ⟨xs,H1,I1,r,z,q⟩=> ⟨by rw[←r.length];exact z, ?_⟩)
 have hf:H1 s1.heap.objs.size=none:=I1.aG.fresh (Nat.le_refl _)
 refine⟨.ref s1.heap.objs.size,upd H1 s1.heap.objs.size (.tup xs),I1.laid (t':=s1.toks) (fun b u e=>Heap.get?_push_of_some _ e) (Nat.le_refl _) ?_,rfl,q _ hf⟩
 exact⟨z,us,r,⟨_,Heap.get?_push_size _ rfl,rfl,_,rfl⟩⟩
theorem Oe(h:PA X es t):PE X (.List es pos) (EH t):=by
 intro pins s σ H Q I hq
 refine wpAny_List_spliced (aO (h pos pins s σ H _ I hq) fun us s1 ⟨xs,H1,I1,r,z,q⟩=> ⟨by rw[←r.length];exact z, ?_⟩)
 have hf:H1 s1.heap.objs.size=none:=I1.aG.fresh (Nat.le_refl _)
 refine⟨.ref s1.heap.objs.size,upd H1 s1.heap.objs.size (.lst xs),I1.laid (t':=s1.toks) (fun b u e=>Heap.get?_push_of_some _ e) (Nat.le_refl _) ?_,rfl,q _ hf⟩
 exact⟨z,us,0,r,Heap.get?_push_size _ rfl⟩
end
abbrev Sp:=List V→Hp→VK→XK→Prop
abbrev aL:=List Env→Hp→Shared→XK→Value→Shared→Prop
structure h_ (P:Program) (w:World) (K:PySem.W.Frag) (mg:Str→Option Value) (base:Heap) (A:Around) (outer:List Env) (s:Shared) (H:Hp):Prop where
 frames:A.frames=some outer
 mod:Mod K mg base
 bs: ∀b o,base.get? b=some o→s.heap.get? b=some o∧H b=none
 lT:base.objs.size≤s.heap.objs.size
 fE:s.heap.FunFrames base outer
 nc: ∀b∈bS outer,H b=none
 aG:b8 P w H s.heap
 bare:AllBare s.gens
def CE(outer:List Env)(P:Program)(w:World)(H:Hp)(s:Shared)(Q:VK)(u:Value)(s':Shared):Prop:=
 ∃v H',s'.os=s.os∧AllBare s'.gens∧Un (bS outer) [] H H' s.heap s'.heap∧b8 P w H' s'.heap∧RelV v u∧Q v H'
def CR(CX:aL)(outer:List Env)(P:Program)(w:World)(H:Hp)(s:Shared)(Q:VK)(E:XK)(r:Result)(s':Shared):Prop:=
 match r with
 | .ok (.ret u)=>CE outer P w H s Q u s'
 | .ok _=>False
 | .error e=>CX outer H s E e s'
structure cn (P:Program) (w:World) (K:PySem.W.Frag) (mg:Str→Option Value) (base:Heap) (CX:aL) (k:Nat) (f:Addr) (fd:FuncData) (ps:List Str) (sp:Sp):Prop where
 len: ∀vs H Q E,sp vs H Q E→vs.length=ps.length
 run: ∀(A:Around) (outer:List Env) (s:Shared) (H:Hp) (args:Args) (us:List Value) (vs:List V) (Q:VK) (E:XK),cm k A→h_ P w K mg base A outer s H→BindsTo s fd args (ps.zip us)→Vals vs us→sp vs H Q E→
  codeAny (model P w) A (.call (.ref f) args) (CR CX outer P w H s Q E) s
theorem cn.mono{P:Program}{w:World}{K:PySem.W.Frag}{mg:Str→Option Value}{base:Heap}{CX:aL}{j k:Nat}{f:Addr}{fd:FuncData}{ps:List Str}{sp:Sp}(F:cn P w K mg base CX j f fd ps sp)(h:j≤k):
  cn P w K mg base CX k f fd ps sp:=⟨F.len,fun A outer s H args us vs Q E hr=>F.run A outer s H args us vs Q E (hr.mono h)⟩
theorem h_.make{P:Program}{w:World}{K:PySem.W.Frag}{mg:Str→Option Value}{base:Heap}{A:Around}{outer:List Env}{s:Shared}{H:Hp}(e:h_ P w K mg base A outer s H)(C:Addr)(us:List Value)(kw:List (Str×Value)):
  h_ P w K mg base (A.under (.builtin "type.__call__" ⟨.ref C::us,kw⟩)) outer s H:=⟨by first | exact e.frames | (simpa[Around.under,Code.envs,Code.isFrame,pushEnvs] using e.frames),e.mod,e.bs,e.lT,e.fE,e.nc,e.aG,e.bare⟩
section
variable {X:Cx} {pins:List (Addr×Obj)} {σ:St} {H:Hp} {s s':Shared}
theorem Inv.EI(I:Inv X pins σ H s):h_ X.prog X.w X.K X.mg X.base X.A X.stack s H:=
 ⟨I.ok.frames,I.ok.mod,I.bs,Nat.le_trans I.ok.lT I.sz,I.stack,I.pG,I.aG,I.bare⟩
theorem Inv.after{Q:VK}{u:Value}(I:Inv X pins σ H s)(h:CE X.stack X.prog X.w H s Q u s'):EP X pins σ Q u s':=by
 obtain⟨v,H',os,bare,un,aG,r,q⟩:=h
 obtain⟨hh,g,d,t,Of⟩:=s'
 obtain rfl:Of=s.os:=os
 exact⟨v,H',I.call (h':=hh) (g':=g) (d':=d) (t':=t) (ch:=[]) un aG bare (fun b z=>absurd z (by simp)),r,q⟩
end
def uj(sp:Sp)(cU:List V)(E:XK)(t:TA):TE:=fun σ H Q=>t σ H fun vs H1=>sp (vs++cU) H1 Q E
def jd(C:Addr)(m:Str)(sp:Sp)(cU:List V)(E:XK)(ta:TE)(t:TA):TE:=fun σ H Q=>ta σ H fun x H1=> ∃a dx fs,x= .ref a∧H1 a=some (.ins C dx fs)∧fs.lookup m=none∧
 t σ H1 fun vs H2=>sp (x::(vs++cU)) H2 Q E
def ny(C:Addr)(sp:Sp)(cU:List V)(E:XK)(t:TA):TE:=fun σ H Q=>t σ H fun vs H1=> ∀x dx,H1 x=none→H1 dx=none→dx≠x→
 sp (.ref x::(vs++cU)) (upd (upd H1 dx (.own x)) x (.ins C dx [])) (fun v H2=>v= .av∧Q (.ref x) H2) E
def Binds(K:PySem.W.Frag)(fd:FuncData)(ps:List Str)(ds:List Value):Prop:=
 ∀(s:Shared) (us:List Value),K.In s.heap→(us++ds).length=ps.length→BindsTo s fd ⟨us,[]⟩ (ps.zip (us++ds))
theorem Binds.all{K:PySem.W.Frag}{fd:FuncData}{ps:List Str}(h: ∀us:List Value,us.length=ps.length→bindArgs fd ⟨us,[]⟩=pure (ps.zip us)):Binds K fd ps []:=fun s us _ hl=>by
 rw[List.append_nil] at hl⊢
 exact .of_eq (h us hl)
def Passes(CX:aL)(X:Cx)(E:XK):Prop:= ∀(pins:List (Addr×Obj)) (σ:St) (H:Hp) (s:Shared) (e:Value) (s':Shared),Inv X pins σ H s→CX X.stack H s E e s'→X.xe e s'
section
variable {X:Cx} {CX:aL} {k:Nat} {f C:Addr} {fd:FuncData} {ps:List Str} {sp:Sp} {cU:List V} {ds:List Value} {E:XK} {x m:Str} {p pos apos:Pos} {e o:Expr} {es:List Expr} {ta:TE} {t:TA}
theorem uk{pins:List (Addr×Obj)}{σ:St}{H:Hp}{s:Shared}{Q:VK}{us:List Value}{vs:List V}(F:cn X.prog X.w X.K X.mg X.base CX k f fd ps sp)(hr:cm k X.A)(hb:Binds X.K fd ps ds)(hd:Vals cU ds)(hx:Passes CX X E)
  (I:Inv X pins σ H s) (r:Vals vs us) (h:sp (vs++cU) H Q E):wpAny (model X.prog X.w) X.A (call (.ref f) us) (EP X pins σ Q) X.xe s:=by
 have r2:Vals (vs++cU) (us++ds):=r.append hd
 have hl:(us++ds).length=ps.length:=by rw[←r2.length];exact F.len _ _ _ _ h
 refine wpAny_call (codeAny_mono (F.run X.A X.stack s H ⟨us,[]⟩ (us++ds) (vs++cU) Q E hr I.EI (hb s us I.ck hl) r2 h) fun r s' hq=> ?_)
 cases r with
 | error e=>exact hx pins σ H s e s' I hq
 | ok fl=>
  cases fl with
  | ret u=>exact I.after hq
  | next=>exact False.elim hq
  | brk=>exact False.elim hq
  | cont=>exact False.elim hq
theorem Og(F:cn X.prog X.w X.K X.mg X.base CX k f fd ps sp)(hr:cm k X.A)(hg:Gl X x)(hm:X.mg x=some (.ref f))(hk:keepIn X.K (.ref f)=true)(hb:Binds X.K fd ps ds)(hd:Vals cU ds)(hx:Passes CX X E)
  (ha:PA X (e::es) t) (gB:(x==("__debug__":Str))=false:=by decide) (he:starEach (e::es) X.env=(false,eval e X.env)::starEach es X.env:=by rfl) (gC:(backTo pos (starEach es X.env)).any (·.1)=false:=by rfl):
  PE X (.Call (.Name x p) (e::es) [] pos) (uj sp cU E t):=by
 intro pins s σ H Q I h
 refine wpAny_Call_Name_kw (pI I hg hm ?_ gB)
 refine callWith_K (h₀:=X.base) I.ok.mod.m9 hk (aO (ha pos pins s σ H _ I h) fun us s1 ⟨vs,H1,I1,r,q⟩=> ⟨I1.ck, ?_⟩) he gC
 exact uk F hr hb hd hx I1 r q
structure Mk (K:PySem.W.Frag) (C f:Addr):Prop where
 makes:makesIn K C=true
 init:findIn K (.ref C) "__init__"=some (some (.ref f))
 fn:isFn K (.ref f)=true
 kp:keepIn K (.ref C)=true
theorem EJ{pins:List (Addr×Obj)}{σ:St}{H:Hp}{s:Shared}{Q:VK}{us:List Value}{vs:List V}(M:Mk X.K C f)(F:cn X.prog X.w X.K X.mg X.base CX k f fd ps sp)(hr:cm (k+1) X.A)(hb:Binds X.K fd ps ds)(hd:Vals cU ds)
  (hx:Passes CX X E) (I:Inv X pins σ H s) (r:Vals vs us)
  (h: ∀x dx,H x=none→H dx=none→dx≠x→sp (.ref x::(vs++cU)) (upd (upd H dx (.own x)) x (.ins C dx [])) (fun v H2=>v= .av∧Q (.ref x) H2) E):
  wpAny (model X.prog X.w) X.A (call (.ref C) us) (EP X pins σ Q) X.xe s:=by
 have hq:=h (s.heap.objs.size+1) s.heap.objs.size (I.aG.fresh (Nat.le_succ _)) (I.aG.fresh (Nat.le_refl _)) (Nat.ne_of_lt (Nat.lt_succ_self _))
 have I2:=Inv.made (C:=C) I
 have r2:Vals (V.ref (s.heap.objs.size+1)::(vs++cU)) (Value.ref (s.heap.objs.size+1)::(us++ds)):= .cons rfl (r.append hd)
 have hl:(Value.ref (s.heap.objs.size+1)::us++ds).length=ps.length:=by
  have e:=r2.length
  rw[F.len _ _ _ _ hq] at e
  exact e.symm
 refine wpAny_call (N4 (f:=f) I.ck M.makes M.init (beq_iff_eq.mp M.fn) (codeAny_mono (F.run _ X.stack _ _ ⟨Value.ref (s.heap.objs.size+1)::us,[]⟩ (Value.ref (s.heap.objs.size+1)::(us++ds)) _ _ E (hr.make C us [])
  (I2.EI.make C us []) (hb _ (Value.ref (s.heap.objs.size+1)::us) I2.ck hl) r2 hq) fun r s' nz=> ?_))
 cases r with
 | error e=>exact hx pins σ _ _ e s' I2 nz
 | ok fl=>
  cases fl with
  | ret u=>
   obtain⟨v,H',I3,rv,ev,q3⟩:=I2.after nz
   subst ev
   exact⟨rv,⟨V.ref (s.heap.objs.size+1),H',I3,rfl,q3⟩⟩
  | next=>exact False.elim nz
  | brk=>exact False.elim nz
  | cont=>exact False.elim nz
theorem Oh(M:Mk X.K C f)(F:cn X.prog X.w X.K X.mg X.base CX k f fd ps sp)(hr:cm (k+1) X.A)(hg:Gl X x)(hm:X.mg x=some (.ref C))(hb:Binds X.K fd ps ds)(hd:Vals cU ds)(hx:Passes CX X E)
  (ha:PA X (e::es) t) (gB:(x==("__debug__":Str))=false:=by decide) (he:starEach (e::es) X.env=(false,eval e X.env)::starEach es X.env:=by rfl) (gC:(backTo pos (starEach es X.env)).any (·.1)=false:=by rfl):
  PE X (.Call (.Name x p) (e::es) [] pos) (ny C sp cU E t):=by
 intro pins s σ H Q I h
 refine wpAny_Call_Name_kw (pI I hg hm ?_ gB)
 refine callWith_K (h₀:=X.base) I.ok.mod.m9 M.kp (aO (ha pos pins s σ H _ I h) fun us s1 ⟨vs,H1,I1,r,q⟩=> ⟨I1.ck, ?_⟩) he gC
 exact EJ M F hr hb hd hx I1 r q
theorem Oi(M:Mk X.K C f)(F:cn X.prog X.w X.K X.mg X.base CX k f fd ps sp)(hr:cm (k+1) X.A)(hg:Gl X x)(hm:X.mg x=some (.ref C))(hb:Binds X.K fd ps ds)(hd:Vals cU ds)(hx:Passes CX X E)
  (gB:(x==("__debug__":Str))=false:=by decide):PE X (.Call (.Name x p) [] [] pos) (ny C sp cU E ee):=by
 intro pins s σ H Q I h
 refine wpAny_Call_Name_kw (pI I hg hm ?_ gB)
 exact callWith_K0 I.ck M.kp (EJ (us:=[]) M F hr hb hd hx I .nil h)
end
section
variable {X:Cx} {CX:aL} {k:Nat} {f C:Addr} {fd:FuncData} {ps ks:List Str} {sp:Sp} {E:XK} {x m:Str} {p pos apos alv:Pos} {e o:Expr} {es:List Expr} {kws:List Keyword} {te ta:TE} {t tk:TA} {nm:Option Str}
variable {g:List Value→List Value→List Value} {gV:List V→List V→List V}
end
structure bo (N P:List Str) (sc:Scope):Prop where
 kind:sc.kind= .function
 co:sc.isCoroutine=false
 gen:sc.isGenerator=false
 nd:N.Nodup
 pre:N.take P.length=P
 par: ∀x∈P,sc.names.lookup x=some .local∨sc.names.lookup x=some .cell
 Oj: ∀y∈sc.names,y.2≠ .free
theorem bx{N P:List Str}{sc:Scope}(a:sc.kind= .function:=by kernel_rfl)(b:sc.isCoroutine=false:=by kernel_rfl)(c:sc.isGenerator=false:=by kernel_rfl)(d:N.Nodup:=by decide+kernel)(e:N.take P.length=P:=by kernel_rfl)(f: ∀x∈P,sc.names.lookup x=some .local∨sc.names.lookup x=some .cell:=by decide+kernel)(g: ∀y∈sc.names,y.2≠ .free:=by decide+kernel):bo N P sc:=⟨a,b,c,d,e,f,g⟩
theorem EK{kindOf:Str→Option NameKind}{x:Str}: ∀{binds:List (Str×Value)} {m:Str→Option Value},(∀v,(x,v)∉binds)→bindL kindOf binds m x=m x
 | [],_,_=>rfl
 | (n,v)::r,m,h=>by
  unfold bindL
  rw[EK fun w hw=>h w (List.mem_cons_of_mem _ hw)]
  split
  ·have:x≠n:=by rintro rfl;exact h v List.mem_cons_self
   simp[this]
  ·rfl
theorem EL{kindOf:Str→Option NameKind}{x:Str}: ∀{binds:List (Str×Value)} {m:Str→Option Value},(∀v,(x,v)∉binds)→bindC kindOf binds m x=m x
 | [],_,_=>rfl
 | (n,v)::r,m,h=>by
  unfold bindC
  rw[EL fun w hw=>h w (List.mem_cons_of_mem _ hw)]
  split
  ·rfl
  ·have:x≠n:=by rintro rfl;exact h v List.mem_cons_self
   simp[this]
theorem EM{kindOf:Str→Option NameKind}{x:Str}{v:Value}: ∀{P:List Str} {vs:List Value} {i:Nat} {m:Str→Option Value},P.Nodup→P[i]?=some x→vs[i]?=some v→kindOf x=some .local→
  bindL kindOf (P.zip vs) m x=some v
 | [],_,_,_,_,h,_,_=>by simp at h
 | _::_,[],_,_,_,_,h,_=>by simp at h
 | p::P,w::vs,0,m,nd,h1,h2,hk=>by
  simp at h1 h2;subst h1;subst h2
  show bindL kindOf ((p,w)::P.zip vs) m p=_
  unfold bindL
  rw[EK fun v hv=> (List.nodup_cons.mp nd).1 (List.of_mem_zip hv).1,if_pos hk]
  simp
 | p::P,w::vs,i+1,m,nd,h1,h2,hk=>by
  show bindL kindOf ((p,w)::P.zip vs) m x=_
  unfold bindL
  exact EM (i:=i) (List.nodup_cons.mp nd).2 (by simpa using h1) (by simpa using h2) hk
theorem EN{kindOf:Str→Option NameKind}{x:Str}{v:Value}: ∀{P:List Str} {vs:List Value} {i:Nat} {m:Str→Option Value},P.Nodup→P[i]?=some x→vs[i]?=some v→kindOf x≠some .local→
  bindC kindOf (P.zip vs) m x=some v
 | [],_,_,_,_,h,_,_=>by simp at h
 | _::_,[],_,_,_,_,h,_=>by simp at h
 | p::P,w::vs,0,m,nd,h1,h2,hk=>by
  simp at h1 h2;subst h1;subst h2
  show bindC kindOf ((p,w)::P.zip vs) m p=_
  unfold bindC
  rw[EL fun v hv=> (List.nodup_cons.mp nd).1 (List.of_mem_zip hv).1,if_neg hk]
  simp
 | p::P,w::vs,i+1,m,nd,h1,h2,hk=>by
  show bindC kindOf ((p,w)::P.zip vs) m x=_
  unfold bindC
  exact EN (i:=i) (List.nodup_cons.mp nd).2 (by simpa using h1) (by simpa using h2) hk
def start(N:List Str)(vs:List V):St:=vs.map some++List.replicate (N.length - vs.length) none
def je(CX:aL)(P:Program)(w:World)(K:PySem.W.Frag)(mg:Str→Option Value)(base:Heap)(N:List Str)(qual:Str)(scope:Scope)(f:Addr)(cd:Value)(A:Around)(outer:List Env)(s:Shared)(H:Hp)(E:XK):Cx where
 prog:=P
 w:=w
 K:=K
 mg:=mg
 base:=base
 A:=A.deeper (envOfC qual scope s.heap.objs.size f cd)
 N:=N
 s₀:=s
 H₀:=H
 env:=envOfC qual scope s.heap.objs.size f cd
 outer:=outer
 stack:=envOfC qual scope s.heap.objs.size f cd::outer
 ex:=[]
 calm:=true
 fn:=fun _=>true
 pn:=[]
 xe:=fun e s'=>wpAny (model P w) (A.deeper (envOfC qual scope s.heap.objs.size f cd)) (leaving (envOfC qual scope s.heap.objs.size f cd) e) (fun _ gE=>CX outer H s E e gE) (fun e' gE=>CX outer H s E e' gE) s'
theorem EO{sc:Scope}{n:Nat}{x:Str}(h:sc.names.lookup x=some .cell): ∃c,(cellsFrom n sc.names []).lookup x=some c:=by
 have q:=cellsFrom_some sc.names n [] (.inl h)
 exact Option.isSome_iff_exists.mp q
theorem Ol{CX:aL}{P:Program}{w:World}{K:PySem.W.Frag}{mg:Str→Option Value}{base:Heap}{N ps:List Str}{qual:Str}{scope:Scope}{f:Addr}{cd:Value}{A:Around}{outer:List Env}{s s1:Shared}{H:Hp}{E:XK}{us:List Value}{vs:List V}
  (S:bo N ps scope) (hd:A.handled=none) (e0:h_ P w K mg base A outer s H) (hl:vs.length=ps.length) (r:Vals vs us)
  (x:InCallC s s.heap.objs.size (bindL (envOfC qual scope s.heap.objs.size f cd).kindOf (ps.zip us) fun _=>none) (cellsFrom (s.heap.objs.size+1) scope.names []) (bindC (envOfC qual scope s.heap.objs.size f cd).kindOf (ps.zip us) fun _=>none) s1):
  Inv (je CX P w K mg base N qual scope f cd A outer s H E) [] (start N vs) H s1:=by
 have gC:ps.length≤N.length:=by have:=congrArg List.length S.pre;rw[List.length_take] at this;omega
 obtain⟨h1,tk,rfl,hk⟩:=x.done
 have nA: ∀b:Addr,b∉ (je CX P w K mg base N qual scope f cd A outer s H E).ex:=fun b z=>absurd (show b∈ ([]:List Addr) from z) (by simp)
 refine⟨⟨e0.mod,S.kind,rfl,rfl,Nat.le_refl _,fun y z c h1 h2=> ?_,fun y hy=> ?_,fun y c _ h=> ?_,fun _=>hd,Around.frames_deeper e0.frames, .inr ⟨rfl,rfl⟩,fun b z=>absurd z (nA b),e0.bs,e0.lT,fun b _ _=>nA b,fun b z=>absurd z (nA b),e0.fE,e0.nc⟩,
  rfl,e0.bare,Un.kept hk,⟨_,x.toInCall.ns,fun i y v h1 h2 h3=> ?_⟩,fun y c h=> ⟨_,x.cell y c h⟩,e0.aG.fresh (Nat.le_refl _),fun y c h=> ?_,fun p hp=>absurd (show p∈ ([]:List (Addr×Obj)) from hp) (by simp),e0.aG.kept hk, ?_⟩
 ·exact name_of_addr x.apart (PySem.mem_of_lookup h1) (PySem.mem_of_lookup h2)
 ·have hy:scope.names.lookup y=some .cell∨scope.names.lookup y=some .free:=hy
  rcases hy with hy | hy
  ·exact EO hy
  ·exact absurd rfl (S.Oj _ (PySem.mem_of_lookup hy))
 ·exact Nat.le_of_lt (x.above y c (PySem.mem_of_lookup h))
 ·have hi:i<vs.length:=by
   unfold start at h2
   by_cases hi:i<vs.length
   ·exact hi
   ·rw[List.getElem?_append_right (by simpa using hi)] at h2
    rw[List.getElem?_replicate] at h2
    split at h2<;>cases h2
  have ha:vs[i]?=some v:=by
   unfold start at h2
   rw[List.getElem?_append_left (by simpa using hi),List.getElem?_map] at h2
   cases e:vs[i]? with
   | none=>rw[e] at h2;cases h2
   | some a=>rw[e] at h2;cases h2;rfl
  obtain⟨u,hu,rv⟩:=r.get ha
  have hp:ps[i]?=some y:=by
   rw[←S.pre,List.getElem?_take_of_lt (by omega)];exact h1
  have ER:ps.Nodup:=by rw[←S.pre];exact S.nd.sublist (List.take_sublist _ _)
  refine⟨u,rv, ?_⟩
  rcases S.par y (List.mem_of_getElem? hp) with k | k
  ·exact .inl ⟨k,EM ER hp hu k⟩
  ·obtain⟨c,e⟩:=EO (n:=s.heap.objs.size+1) k
   refine .inr ⟨.inl k,c,e, ?_⟩
   have q:=x.cell y c e
   rw[EN ER hp hu (by show scope.names.lookup y≠_;rw[k];decide)] at q
   exact q
 ·exact e0.aG.fresh (Nat.le_of_lt (x.above y c (PySem.mem_of_lookup h)))
 ·unfold start
  show _=N.length
  rw[List.length_append,List.length_map,List.length_replicate]
  omega
theorem ES{CX:aL}{P:Program}{w:World}{K:PySem.W.Frag}{mg:Str→Option Value}{base:Heap}{k:Nat}{f:Addr}{name qual:Str}{params:Arguments}{body:List Stmt}{scope:Scope}{dV kV doc pm cN ct oc:Value}{an od:Option Addr}
  {gF:Array (Option Value)} {N ps:List Str} {sp:Sp} (lk:K.lookup f=some ⟨oc,od, .func (fnOf name qual params body scope dV kV doc pm an cN ct),gF⟩) (eW:codeIn K cN qual=true) (S:bo N ps scope)
  (len: ∀vs H Q E,sp vs H Q E→vs.length=ps.length)
  (Om: ∀(A:Around) (outer:List Env) (s:Shared) (H:Hp) (vs:List V) (Q:VK) (E:XK),cm k (A.deeper (envOfC qual scope s.heap.objs.size f cN))→sp vs H Q E→
   ∃t,aW (je CX P w K mg base N qual scope f cN A outer s H E) body t∧t {nx:=fun _ H'=>Q .av H',rt:=Q} (start N vs) H):
  cn P w K mg base CX (k+1) f (fnOf name qual params body scope dV kV doc pm an cN ct) ps sp:=by
 refine⟨len,fun A outer s H args us vs Q E hr e0 hb r ia=> ?_⟩
 have hl:=len _ _ _ _ ia
 have KX:K.In s.heap:=e0.mod.m9.keeps fun b o e=> (e0.bs b o e).1
 have lim:s.heap.NoLimit:=e0.mod.nolimit.keeps fun b o e=> (e0.bs b o e).1
 have Oo: ∀y∈ps.zip us,scope.names.lookup y.1=some .local∨(scope.names.lookup y.1=some .cell∧((cellsFrom (s.heap.objs.size+1) scope.names []).lookup y.1).isSome=true):=fun⟨n,v⟩ hy=>by
  rcases S.par n (List.of_mem_zip hy).1 with q | q
  ·exact .inl q
  ·exact .inr ⟨q,cellsFrom_some _ _ _ (.inl q)⟩
 refine codeAny_call_function hr.depth (KX _ _ lk) rfl S.co S.gen rfl (PySem.W.codeRec_of KX eW) (hb _ _ _ _ ?_)
 refine wpAny_newFunctionEnv_cells S.kind Oo fun env he s1 x=> ?_
 subst he
 refine⟨lim.keeps x.toInCall.keep,codeAny_func ?_⟩
 obtain⟨t,ht,hq⟩:=Om A outer s H vs Q E (hr.deeper _) ia
 have I:Inv (je CX P w K mg base N qual scope f cN A outer s H E) [] (start N vs) H s1:=Ol S hr.hd e0 hl r x
 refine wpAny_mono (ht [] s1 (start N vs) H _ I hq) (fun fl s' hs=> ?_) fun e s' hs=>hs
 have fin: ∀{σ':St} {H':Hp} {v:V} {u:Value},Inv (je CX P w K mg base N qual scope f cN A outer s H E) [] σ' H' s'→RelV v u→Q v H'→CE outer P w H s Q u s':=
  fun {σ' H' v u} J rv q=> ⟨v,H',J.os,J.bare,J.base,J.aG,rv,q⟩
 cases fl with
 | ret u=>
  obtain⟨v,σ',H',J,rv,q⟩:=hs
  exact fin J rv q
 | next=>
  obtain⟨σ',H',J,q⟩:=hs
  exact fin (v:=V.av) (u:=Value.none) J rfl q
 | brk=>
  obtain⟨_,_,_,q⟩:=hs
  exact False.elim q
 | cont=>
  obtain⟨_,_,_,q⟩:=hs
  exact False.elim q
section
variable {X:Cx} {x:Str} {p pos:Pos} {e:Expr} {es:List Expr} {t:TA} {id T:String} {r:List V→Hp→VK→Prop}
def cQ(r:List V→Hp→VK→Prop)(t:TA):TE:=fun σ H Q=>t σ H fun vs H1=>r vs H1 Q
theorem um(hc:bT X (.builtin id) r)(hg:Gl X x)(hm:X.mg x=none)(hv:bootBuiltins x=some (.builtin id))(ha:PA X (e::es) t)(hn:x≠"__name__":=by decide)(gB:(x==("__debug__":Str))=false:=by decide)
  (he:starEach (e::es) X.env=(false,eval e X.env)::starEach es X.env:=by rfl) (gC:(backTo pos (starEach es X.env)).any (·.1)=false:=by rfl):PE X (.Call (.Name x p) (e::es) [] pos) (cQ r t):=by
 intro pins s σ H Q I h
 refine wpAny_Call_Name_kw (nk I hg hm hv ?_ hn gB)
 exact PyProof.Rows.callWith_builtin1 (aO (ha pos pins s σ H _ I h) fun us s1 ⟨vs,H1,I1,r1,q1⟩=>hc pins s1 σ H1 vs us Q I1 r1 q1) he gC
theorem Oq(hc:bT X (.type T) r)(hg:Gl X x)(hm:X.mg x=none)(hv:bootBuiltins x=some (.type T))(ha:PA X (e::es) t)(hn:x≠"__name__":=by decide)(gB:(x==("__debug__":Str))=false:=by decide)
  (he:starEach (e::es) X.env=(false,eval e X.env)::starEach es X.env:=by rfl) (gC:(backTo pos (starEach es X.env)).any (·.1)=false:=by rfl):PE X (.Call (.Name x p) (e::es) [] pos) (cQ r t):=by
 intro pins s σ H Q I h
 refine wpAny_Call_Name_kw (nk I hg hm hv ?_ hn gB)
 exact PyProof.Rows.callWith_type1 (aO (ha pos pins s σ H _ I h) fun us s1 ⟨vs,H1,I1,r1,q1⟩=>hc pins s1 σ H1 vs us Q I1 r1 q1) he gC
end
end L2
namespace HT
open PySem PyProof.Rows
section
open PySem.SeqAt
open PySem.AutoSeq1 (wpAny_loadPart')
open PySem.MeetsSeq PySem.MeetsSeq2 PySem.MeetsSeq3
end
section
variable {prog:Program} {w:World} {A:Around} {E:Value→Shared→Prop} {s:Shared}
theorem Ot{t b:Addr}{vs ws:List Value}{Q:Value→Shared→Prop}(ht:IsTup s.heap t vs.toArray)(hb:IsTup s.heap b ws.toArray)(hv:vs≠ [])
  (h1:ws=[]→Q (.ref t) s) (h2:ws≠ []→Q (.ref s.heap.objs.size) {s with heap:=s.heap.push {cls:= .type "tuple",data:= .seq (vs++ws).toArray}})
  (hZ:vs.length+ws.length≤sizeLine):wpAny (model prog w) A (binaryOp .Add (.ref t) (.ref b)) Q E s:=by
 obtain⟨⟨cls,dd,data,sl⟩,ho,hc,n,hd⟩:=id ht
 obtain⟨⟨alx,ET,data2,nB⟩,ib,EU,n2,hd2⟩:=id hb
 simp only at hc hd EU hd2
 subst hc hd EU hd2
 have e:vs.toArray++ws.toArray=(vs++ws).toArray:=by simp
 by_cases hw:ws=[]
 ·exact concat_meets ⟨_,ho,rfl⟩ ⟨_,ib,rfl⟩ noFill_tuple_add seq_tuple_add PySem.F.slot_tuple_add PySem.F.entry_tuple_add (PySem.F.args_tuple_add_2 _ _)
   (tuple_addW1 t b vs.toArray ws.toArray n n2 dd ET sl nB (by simpa using hv) (by simp[hw])) ⟨ho,ib,h1 hw⟩
 ·refine concat_meets ⟨_,ho,rfl⟩ ⟨_,ib,rfl⟩ noFill_tuple_add seq_tuple_add PySem.F.slot_tuple_add PySem.F.entry_tuple_add (PySem.F.args_tuple_add_2 _ _)
   (tuple_addW2 t b vs.toArray ws.toArray n n2 dd ET sl nB (by simpa using hv) (by simpa using hw) (by rw[List.size_toArray,List.size_toArray];exact hZ)) ⟨ho,ib, ?_⟩
  rw[e]
  exact h2 hw
def ba(n d:Nat):Option Int→Nat
 | none=>d
 | some v=>if v<0 then (v+ (n:Int)).toNat else min v.toNat n
theorem lZ(n d k:Nat):ba n d (some (k:Int))=min k n:=by
 show(if (k:Int) <0 then ((k:Int)+ (n:Int)).toNat else min (k:Int).toNat n)=min k n
 rw[if_neg (by omega),Int.toNat_natCast]
theorem uq(n d:Nat)(hd:d≤n)(o:Option Int):ba n d o≤n:=by
 cases o with
 | none=>exact hd
 | some v=>
  show(if v<0 then (v+ (n:Int)).toNat else min v.toNat n)≤n
  by_cases hv:v<0
  ·rw[if_pos hv];omega
  ·rw[if_neg hv];exact Nat.min_le_right _ _
theorem EV(v:Int)(n d:Nat):(if v<0 then max (v+ (n:Int)) 0 else min v (n:Int))=((ba n d (some v):Nat):Int):=by
 show(if v<0 then max (v+ (n:Int)) 0 else min v (n:Int))=(((if v<0 then (v+ (n:Int)).toNat else min v.toNat n):Nat):Int)
 by_cases hv:v<0
 ·simp only[if_pos hv];omega
 ·simp only[if_neg hv];omega
theorem Ou(lo hi:Option Int)(n:Nat):Builtin.Slice.sliceAdjust lo hi 1 (n:Int)=(((ba n 0 lo:Nat):Int),((ba n n hi:Nat):Int)):=by
 have h1: ¬((1:Int) <0):=by omega
 unfold Builtin.Slice.sliceAdjust
 simp only[h1,if_false]
 refine Prod.ext ?_ ?_
 ·cases lo with
  | none=>rfl
  | some v=>exact EV v n 0
 ·cases hi with
  | none=>rfl
  | some v=>exact EV v n n
theorem Ov(i j:Nat):Builtin.Slice.slicePlaces (i:Int) (j:Int) 1=j - i:=by
 unfold Builtin.Slice.slicePlaces
 have h1:(1:Int) >0:=by omega
 simp only[h1,if_true,Int.ediv_one]
 split<;>omega
theorem EW{v:Value}{o:Option Int}{Q:Option Int→Shared→Prop}(p:IsPart v o)(h:Q o s):wpAny (model prog w) A (Builtin.Slice.slicePartIndex v) Q E s:=by
 cases p with
 | none=>exact slicePart_none h
 | int i t=>exact slicePart_int h
theorem Ow{sl:Addr}{vl vu:Value}{lo hi:Option Int}{n:Nat}{Q:Int×Int×Nat→Shared→Prop}(hs:s.heap.IsSliceOf sl vl vu .none)(pl:IsPart vl lo)(pu:IsPart vu hi)
  (h:Q (((ba n 0 lo:Nat):Int),1,ba n n hi - ba n 0 lo) s):wpAny (model prog w) A (Builtin.Slice.sliceApplied (.ref sl) (pure (n:Int))) Q E s:=by
 obtain⟨os,nC,EX,pX⟩:=id hs
 unfold Builtin.Slice.sliceApplied Builtin.Slice.sliceFields
 refine wpAny_bind (wpAny_bind (wpAny_field nC pX (x:=vl) rfl (wpAny_bind (wpAny_field nC pX (x:=vu) rfl (wpAny_bind (wpAny_field nC pX (x:= .none) rfl (wpAny_pure ?_)))))))
 refine wpAny_bind (slicePart_none ?_)
 show wpAny _ _ (if ((1:Int)==0)=true then _ else _) _ _ s
 rw[if_neg (by decide)]
 refine wpAny_bind (EW pl (wpAny_bind (EW pu (wpAny_bind (wpAny_pure ?_)))))
 show wpAny _ _ (match Builtin.Slice.sliceAdjust lo hi 1 (n:Int) with | (lo,hi)=>pure (lo,(1:Int),Builtin.Slice.slicePlaces lo hi 1)) _ _ s
 rw[Ou lo hi n]
 show wpAny _ _ (pure (((ba n 0 lo:Nat):Int),(1:Int),Builtin.Slice.slicePlaces ((ba n 0 lo:Nat):Int) ((ba n n hi:Nat):Int) 1)) _ _ s
 rw[Ov]
 exact wpAny_pure h
theorem Ox(xs:Array Value)(i k:Nat):((List.range k).filterMap fun(m:Nat)=>xs[((i:Int)+ (m:Int)*1).toNat]?).toArray=((xs.toList.drop i).take k).toArray:=by
 have e:(fun(m:Nat)=>xs[((i:Int)+ (m:Int)*1).toNat]?)=fun m=>xs[i+m]?:=by
  funext m
  have:((i:Int)+ (m:Int)*1).toNat=i+m:=by omega
  rw[this]
 rw[e]
 have:=pick_run xs i k
 rw[List.filterMap_map] at this
 have e2:((fun x=>xs[x]?)∘fun x=>i+x)=fun m=>xs[i+m]?:=rfl
 rw[e2] at this
 rw[this]
theorem Oy{t sl:Addr}{items:Array Value}{vl vu:Value}{lo hi:Option Int}{Q:Value→Shared→Prop}(ht:IsTup s.heap t items)(hs:s.heap.IsSliceOf sl vl vu .none)(pl:IsPart vl lo)(pu:IsPart vu hi)
  (hw: ¬(ba items.size 0 lo=0∧ba items.size items.size hi=items.size))
  (h:Q (.ref s.heap.objs.size) {s with heap:=s.heap.push {cls:= .type "tuple",data:= .seq ((items.toList.drop (ba items.size 0 lo)).take (ba items.size items.size hi - ba items.size 0 lo)).toArray}})
  (hZ:items.size≤sizeLine):wpAny (model prog w) A (getItem (.ref t) (.ref sl)) Q E s:=by
 have pY:sizeOk (.seq ((items.toList.drop (ba items.size 0 lo)).take (ba items.size items.size hi - ba items.size 0 lo)).toArray):=by
  show((items.toList.drop (ba items.size 0 lo)).take (ba items.size items.size hi - ba items.size 0 lo)).toArray.size≤sizeLine
  rw[List.size_toArray,List.length_take,List.length_drop,Array.length_toList]
  omega
 have hj:ba items.size items.size hi≤items.size:=uq _ _ (Nat.le_refl _) hi
 obtain⟨os,nC,EX,pX⟩:=id hs
 have Oz:s.TypeIs (.ref sl) "slice":=⟨os,nC,EX⟩
 unfold getItem
 try with_reducible refine wpAny_holding ?_
 first | refine wpAny_bind (wpAny_pure ?_) | skip
 refine wpAny_bind (wpAny_sequenceKey ht.typeIs (by decide) ?_)
 refine wpAny_bind (wpAny_callSpecial?_slot (name:=Str.ofString "__getitem__") ht.typeIs PyProof.Rows.slot_tuple_getitem
  (wpAny_call_entry PyProof.Rows.slot_tuple_getitem ht.typeIs entry_tuple_getitem ?_ (args_tuple_getitem _ _)))
 show wpAny _ _ (Builtin.Tuple.tupleItemsOf (.ref t) >>=_) _ _ s
 refine wpAny_bind (tupleItemsOf_ ht ?_)
 refine wpAny_bind (wpAny_typeOf Oz ?_)
 rw[if_pos (by decide)]
 refine wpAny_bind (Ow hs pl pu ?_)
 have OA: ¬((((ba items.size 0 lo:Nat):Int)==0 && (1:Int)==1 && (ba items.size items.size hi - ba items.size 0 lo)==items.size)=true):=by
  intro q
  rw[Bool.and_eq_true,Bool.and_eq_true] at q
  have q1:((ba items.size 0 lo:Nat):Int)=0:=eq_of_beq q.1.1
  have q2:ba items.size items.size hi - ba items.size 0 lo=items.size:=eq_of_beq q.2
  exact hw ⟨by omega,by omega⟩
 show wpAny _ _ (if (((ba items.size 0 lo:Nat):Int)==0 && (1:Int)==1 && (ba items.size items.size hi - ba items.size 0 lo)==items.size)=true then _ else _) _ _ s
 rw[if_neg OA,Ox]
 first
  | exact wpAny_bind (m:=Builtin.Tuple.tupleExact _) (wpAny_newObj_type (wpAny_pure ⟨_,rfl,wpAny_pure h⟩) pY)
  | exact wpAny_bind (m:=Builtin.Tuple.tupleExact _) (wpAny_newObj_type (wpAny_bind (wpAny_pure (wpAny_pure ⟨_,rfl,wpAny_pure h⟩))) pY)
  | exact wpAny_bind (wpAny_bind (m:=Builtin.Tuple.tupleExact _) (wpAny_newObj_type (wpAny_pure (wpAny_pure ⟨_,rfl,wpAny_pure h⟩)) pY))
  | exact wpAny_bind (wpAny_bind (m:=Builtin.Tuple.tupleExact _) (wpAny_newObj_type (wpAny_pure ⟨_,rfl,wpAny_pure h⟩) pY))
end
end HT
namespace L2
open PySem PySem.Spec PyProof.Rows
abbrev TO:=St→Hp→(Option Int→Hp→Prop)→Prop
def PO(X:Cx)(e:Option Expr)(t:TO):Prop:=
 ∀(pins:List (Addr×Obj)) (s:Shared) (σ:St) (H:Hp) (Q:Option Int→Hp→Prop),Inv X pins σ H s→t σ H Q→
  wpAny (model X.prog X.w) X.A (evalPart e X.env) (fun u s'=> ∃o H',Inv X pins σ H' s'∧IsPart u o∧Q o H') X.xe s
def EY:TO:=fun _ H Q=>Q none H
def pZ(t:TE):TO:=fun σ H Q=>t σ H fun x H1=> ∃i,x= .int i∧Q (some i) H1
theorem intsAre_of{ns:List Int}: ∀{us:List Value},Vals (ns.map V.int) us→IntsAre us ns:=by
 induction ns with
 | nil=>intro us r;rw[List.map_nil] at r;cases r;exact .nil
 | cons n ns ih=>
  intro us r
  rw[List.map_cons] at r
  cases r with
  | cons r1 r2=>
   obtain⟨t,e⟩:=r1
   subst e
   exact .cons n t (ih r2)
section
variable {X:Cx} {e:Expr} {te:TE} {lo hi:Option Expr} {tl th:TO} {pos p2:Pos}
theorem OB:PO X none EY:=by
 intro pins s σ H Q I h
 rw[evalPart_none]
 exact wpAny_pure ⟨none,H,I, .none,h⟩
theorem OC(h:PE X e te):PO X (some e) (pZ te):=by
 intro pins s σ H Q I hw
 rw[evalPart_some]
 refine aO (h pins s σ H _ I hw) fun u s1 ⟨x,H1,I1,r1,q1⟩=> ?_
 obtain⟨i,rfl,q⟩:=q1
 obtain⟨t,rfl⟩:=r1
 exact⟨some i,H1,I1, .int i t,q⟩
def p9(X:Cx)(r:V→Option Int→Option Int→Hp→VK→Prop):Prop:=
 ∀(pins:List (Addr×Obj)) (s:Shared) (σ:St) (H:Hp) (x:V) (v vl vu:Value) (lo hi:Option Int) (sl:Addr) (Q:VK),Inv X pins σ H s→RelV x v→s.heap.IsSliceOf sl vl vu .none→IsPart vl lo→IsPart vu hi→r x lo hi H Q→
  ∃T id,typeLookup (.type T) "__getitem__"=pure (some (.builtin id))∧s.TypeIs v T∧wpAny (model X.prog X.w) X.A (getItem v (.ref sl)) (EP X pins σ Q) X.xe s
def ur(r:V→Option Int→Option Int→Hp→VK→Prop)(te:TE)(tl th:TO):TE:=fun σ H Q=>te σ H fun x H1=>tl σ H1 fun l H2=>th σ H2 fun u H3=>r x l u H3 Q
theorem OD{r:V→Option Int→Option Int→Hp→VK→Prop}(hr:p9 X r)(he:PE X e te)(hl:PO X lo tl)(hu:PO X hi th):PE X (.Subscript e (.Slice lo hi none p2) pos) (ur r te tl th):=by
 intro pins s σ H Q I h
 refine Subscript_ (aO (he pins s σ H _ I h) fun v s1 ⟨x,H1,I1,r1,q1⟩=> ?_)
 refine wpAny_Slice (aO (hl pins s1 σ H1 _ I1 q1) fun vl s2 ⟨l,H2,I2,pl,q2⟩=>aO (hu pins s2 σ H2 _ I2 q2) fun vu s3 ⟨u,H3,I3,pu,q3⟩=> ?_)
 rw[evalPart_none]
 refine wpAny_pure ?_
 have I4:Inv X pins σ H3 {s3 with heap:=s3.heap.push {cls:= .type "slice",data:= .fields #[vl,vu, .none]}}:=I3.kept (t':=s3.toks) fun b ob q=>Heap.get?_push_of_some _ q
 obtain⟨T,id,hT,ht,hg⟩:=hr pins {s3 with heap:=s3.heap.push {cls:= .type "slice",data:= .fields #[vl,vu, .none]}} σ H3 x v vl vu l u s3.heap.objs.size Q I4 r1 (Heap.IsSliceOf.new ..) pl pu q3
 show wpAny (model X.prog X.w) X.A (subscriptTail e (.Slice lo hi none p2) v (.ref s3.heap.objs.size)) (EP X pins σ Q) X.xe {s3 with heap:=s3.heap.push {cls:= .type "slice",data:= .fields #[vl,vu, .none]}}
 exact tail_any (ops:=[.ref s3.heap.objs.size,v]) ht hT hg (by with_unfolding_all rfl)
def dI(xs:List V)(lo hi:Option Int):List V:=(xs.drop (HT.ba xs.length 0 lo)).take (HT.ba xs.length xs.length hi - HT.ba xs.length 0 lo)
theorem EZ(xs:List V)(lo hi:Option Int):(dI xs lo hi).length≤xs.length:=by
 unfold dI
 rw[List.length_take,List.length_drop]
 omega
def OE(K:PySem.W.Frag):V→Option Int→Option Int→Hp→VK→Prop:=fun x lo hi H Q=> ∃a xs,x= .ref a∧aX K H a xs∧
 ¬(HT.ba xs.length 0 lo=0∧HT.ba xs.length xs.length hi=xs.length)∧ ∀p,H p=none→Q (.ref p) (upd H p (.tup (dI xs lo hi)))
theorem OF:p9 X (OE X.K):=by
 intro pins s σ H x v vl vu lo hi sl Q I rx hs pl pu h
 obtain⟨a,xs,rfl,hx,hw,q⟩:=h
 cases rx
 obtain⟨its,r,ht,hz⟩:=I.tuple hx
 have hlen:its.toArray.size=xs.length:=by rw[List.size_toArray];exact r.length.symm
 refine⟨"tuple",_,PyProof.Rows.slot_tuple_getitem.lookup,ht.typeIs, ?_⟩
 refine HT.Oy ht hs pl pu (by rw[hlen];exact hw) ?_ (by rw[hlen];exact hz)
 rw[hlen]
 refine⟨.ref s.heap.objs.size,_,I.laid (t':=s.toks) (o:= .tup (dI xs lo hi)) (fun b ob q=>Heap.get?_push_of_some _ q) (Nat.le_refl _) ?_,rfl,q _ (I.aG.fresh (Nat.le_refl _))⟩
 exact⟨Nat.le_trans (EZ xs lo hi) hz,_,(r.drop (HT.ba xs.length 0 lo)).take (HT.ba xs.length xs.length hi - HT.ba xs.length 0 lo),IsTup.new _ _⟩
def E1(K:PySem.W.Frag):R2:=fun x y H Q=> ∃a b xs ys,x= .ref a∧y= .ref b∧aX K H a xs∧aX K H b ys∧xs≠ []∧xs.length+ys.length≤sizeLine∧
 (ys=[]→Q (.ref a) H)∧(ys≠ []→ ∀p,H p=none→Q (.ref p) (upd H p (.tup (xs++ys))))
theorem Vals.uu{xs:List V}{us:List Value}(r:Vals xs us):us=[]↔xs=[]:=by
 cases r with
 | nil=>simp
 | cons _ _=>simp
theorem OG:bf X (binaryOp .Add) (E1 X.K):=by
 intro pins s σ H x y v u Q I rx ry h
 obtain⟨a,b,xs,ys,rfl,rfl,ha,hb,hx,hz,q1,q2⟩:=h
 cases rx
 cases ry
 obtain⟨its,r1,p1,_⟩:=I.tuple ha
 obtain⟨ic,r2,p2,_⟩:=I.tuple hb
 refine HT.Ot p1 p2 (fun z=>hx (r1.uu.mp z)) (fun z=> ⟨.ref a,H,I,rfl,q1 (r2.uu.mp z)⟩) (fun z=> ?_) (by rw[←r1.length,←r2.length];exact hz)
 refine⟨.ref s.heap.objs.size,_,I.laid (t':=s.toks) (o:= .tup (xs++ys)) (fun b ob q=>Heap.get?_push_of_some _ q) (Nat.le_refl _) ?_,rfl,q2 (fun w=>z (r2.uu.mpr w)) _ (I.aG.fresh (Nat.le_refl _))⟩
 exact⟨by rw[List.length_append];exact hz,_,r1.append r2,IsTup.new _ _⟩
end
def eZ(n:Nat)(i:Int):Option Nat:=if 0≤i then (if i<n then some i.toNat else none) else if -(n:Int)≤i then some (i+n).toNat else none
def dJ{α:Type}(xs:List α)(i:Int):Option α:=(eZ xs.length i).bind fun j=>xs[j]?
theorem E2{n:Nat}{i:Int}{j:Nat}(h:eZ n i=some j):seqIndex? i n=some j∧j<n∧ -(n:Int)≤i∧i<n:=by
 unfold eZ at h
 by_cases h0:0≤i
 ·rw[if_pos h0] at h
  by_cases h1:i<n
  ·rw[if_pos h1] at h
   have e:i.toNat=j:=Option.some.inj h
   exact⟨by rw[seqIndex_of h0 h1,e],by omega,by omega,h1⟩
  ·rw[if_neg h1] at h;cases h
 ·rw[if_neg h0] at h
  by_cases h1: -(n:Int)≤i
  ·rw[if_pos h1] at h
   have e:(i+n).toNat=j:=Option.some.inj h
   exact⟨by rw[seqIndex_neg (by omega) h1,e],by omega,h1,by omega⟩
  ·rw[if_neg h1] at h;cases h
theorem uv{α:Type}{xs:List α}{i:Int}{v:α}(h:dJ xs i=some v): ∃j,seqIndex? i xs.length=some j∧xs[j]?=some v∧j<xs.length∧ -(xs.length:Int)≤i∧i<xs.length:=by
 unfold dJ at h
 cases e:eZ xs.length i with
 | none=>rw[e] at h;cases h
 | some j=>
  rw[e] at h
  obtain⟨h1,h2,h3,h4⟩:=E2 e
  exact⟨j,h1,h,h2,h3,h4⟩
theorem l_{α:Type}{xs:List α}{j:Nat}{v:α}(h:xs[j]?=some v):dJ xs (j:Int)=some v:=by
 have hj:j<xs.length:=(List.getElem?_eq_some_iff.mp h).1
 have e:eZ xs.length (j:Int)=some j:=by
  unfold eZ
  rw[if_pos (by omega),if_pos (by omega)];simp
 unfold dJ;rw[e];exact h
theorem E3{α:Type}(xs:List α)(v:α):dJ (xs++ [v]) (-1)=some v:=by
 have hl:(xs++ [v]).length=xs.length+1:=by simp
 have e:eZ (xs++ [v]).length (-1)=some xs.length:=by
  unfold eZ
  rw[hl,if_neg (by decide),if_pos (by omega)]
  congr 1
  omega
 unfold dJ
 rw[e]
 show(xs++ [v])[xs.length]?=some v
 simp
def E4(b:Expr):Prop:= ∀o i,subscripted b false o i=operate [o,i] (getItem o i)
def fJ(X:Cx)(r:R2):Prop:=
 ∀(value slice:Expr) (pins:List (Addr×Obj)) (s:Shared) (σ:St) (H:Hp) (x y:V) (v u:Value) (Q:VK),Inv X pins σ H s→RelV x v→RelV y u→r x y H Q→
  subscripted slice false v u=operate [v,u] (getItem v u)→wpAny (model X.prog X.w) X.A (subscriptTail value slice v u) (EP X pins σ Q) X.xe s
def gG(X:Cx)(id:String)(r:V→List V→Hp→VK→Prop):Prop:=
 ∀(pins:List (Addr×Obj)) (s:Shared) (σ:St) (H:Hp) (x:V) (xs:List V) (v:Value) (us:List Value) (Q:VK),Inv X pins σ H s→RelV x v→Vals xs us→r x xs H Q→
  wpAny (model X.prog X.w) X.A (call (.builtin id) (v::us)) (EP X pins σ Q) X.xe s
section
variable {X:Cx} {a b:Expr} {ta tb:TE} {pos:Pos}
theorem fJ.or{r r':R2}(h:fJ X r)(h':fJ X r'):fJ X (fun x y H Q=>r x y H Q∨r' x y H Q):=by
 intro value slice pins s σ H x y v u Q I rx ry q hs
 rcases q with q | q
 ·exact h value slice pins s σ H x y v u Q I rx ry q hs
 ·exact h' value slice pins s σ H x y v u Q I rx ry q hs
theorem OH{r:R2}(hr:fJ X r)(ha:PE X a ta)(hb:PE X b tb)(hs:E4 b):PE X (.Subscript a b pos) (cT r ta tb):=by
 intro pins s σ H Q I h
 exact Subscript_ (uc ha hb I h fun v u s2 x y H2 I2 rx ry q=>hr a b pins s2 σ H2 x y v u Q I2 rx ry q (hs _ _))
def E5(K:PySem.W.Frag):R2:=fun x y H Q=> ∃p xs i v,x= .ref p∧y= .int i∧aC K H p xs∧dJ xs i=some v∧Q v H
def E6(K:PySem.W.Frag):R2:=fun x y H Q=> ∃p xs i v,x= .ref p∧y= .int i∧aX K H p xs∧dJ xs i=some v∧Q v H
def E7:R2:=fun x y H Q=> ∃z i c,x= .str z∧y= .int i∧z.length≤sizeLine∧dJ z.cps.toList i=some c∧Q (.str ⟨#[c]⟩) H
theorem OI:fJ X (E5 X.K):=by
 intro value slice pins s σ H x y v u Q I rx ry h hs
 obtain⟨p,xs,i,z,rfl,rfl,hq,he,q⟩:=h
 cases rx
 obtain⟨t,rfl⟩:=ry
 obtain⟨its,r,pl,hz⟩:=I.list hq
 obtain⟨j,h1,h2,h3,h4,h5⟩:=uv he
 obtain⟨w,ew,jf⟩:=r.get h2
 have hl:=r.length
 have hn:=hX
 have fin:EP X pins σ Q w s:=⟨z,H,I,jf,q⟩
 by_cases h0:0≤i
 ·have hj:i.toNat=j:=by
   rw[seqIndex_of h0 h5] at h1
   exact Option.some.inj h1
  exact item_listR pl.isList h0 (by omega) (by rw[hj];simpa using ew) fin hs
 ·have hj:(i+ (its.toArray.size:Int)).toNat=j:=by
   rw[seqIndex_neg (by omega) h4] at h1
   rw[List.size_toArray,←hl]
   exact Option.some.inj h1
  exact subscriptTail_builtinR (x:=w) pl.isList.typeIs slot_list_getitem.lookup
   (wpAny_getItem_list_neg (Q:=fun r s'=>r=w∧EP X pins σ Q r s') pl.isList (by omega) (by rw[List.size_toArray] <;>omega) (by omega) (by rw[hj];simpa using ew) ⟨rfl,fin⟩) hs
theorem OJ:fJ X (E6 X.K):=by
 intro value slice pins s σ H x y v u Q I rx ry h hs
 obtain⟨p,xs,i,z,rfl,rfl,hq,he,q⟩:=h
 cases rx
 obtain⟨t,rfl⟩:=ry
 obtain⟨its,r,pl,hz⟩:=I.tuple hq
 obtain⟨j,h1,h2,h3,h4,h5⟩:=uv he
 obtain⟨w,ew,jf⟩:=r.get h2
 have hl:=r.length
 have hn:=hX
 have fin:EP X pins σ Q w s:=⟨z,H,I,jf,q⟩
 exact subscriptTail_builtinR (x:=w) pl.typeIs slot_tuple_getitem.lookup
  (getItem_tuple (j:=j) (Q:=fun r s'=>r=w∧EP X pins σ Q r s') pl (by omega) (by omega) (by rw[List.size_toArray,←hl];exact h1) (by simpa using ew) ⟨rfl,fin⟩) hs
theorem OK:fJ X E7:=by
 intro value slice pins s σ H x y v u Q I rx ry h hs
 obtain⟨z,i,c,rfl,rfl,hz,he,q⟩:=h
 obtain⟨t,rfl⟩:=rx
 obtain⟨t',rfl⟩:=ry
 obtain⟨j,h1,h2,h3,h4,h5⟩:=uv he
 have hl:z.cps.toList.length=z.length:=by simp[Str.length]
 rw[hl] at h1 h4 h5
 have hn:=hX
 exact tail_any (typeIs_str s z t) slot_str_getitem.lookup (getItem_str (c:=c) (by
  have e1:decide (i< -(2 ^ 63:Int))=false:=decide_eq_false (by omega)
  have e2:decide (i≥2 ^ 63)=false:=decide_eq_false (by omega)
  rw[e1,e2,Bool.or_false]) (by rw[h1];simpa using h2) ⟨.str ⟨#[c]⟩,H,I.tok _,⟨_,rfl⟩,q⟩) hs
theorem OL(its:List Value)(n j:Nat)(u:Value):Obj.mapSeq (·.setIfInBounds j u) {cls:= .type "list",data:= .seq its.toArray n}={cls:= .type "list",data:= .seq (its.set j u).toArray n}:=by
 simp[Obj.mapSeq]
theorem Inv.lst{pins:List (Addr×Obj)}{σ:St}{H:Hp}{s:Shared}{p:Addr}{xs:List V}(I:Inv X pins σ H s)(h:H p=some (.lst xs)):
  ∃(its:List Value) (n:Nat),Vals xs its∧s.heap.get? p=some {cls:= .type "list",data:= .seq its.toArray n}∧xs.length≤sizeLine:=by
 obtain⟨z,its,n,r,e⟩:=I.aG p _ h
 exact⟨its,n,r,e,z⟩
theorem Inv.OM{pins:List (Addr×Obj)}{σ:St}{H:Hp}{s:Shared}{p:Addr}{xs ys:List V}{its dG:List Value}{n n':Nat}{f:Obj→Obj}(I:Inv X pins σ H s)(h:H p=some (.lst xs))
  (ho:s.heap.get? p=some {cls:= .type "list",data:= .seq its.toArray n}) (hf:f {cls:= .type "list",data:= .seq its.toArray n}={cls:= .type "list",data:= .seq dG.toArray n'}) (r:Vals ys dG) (hz:ys.length≤sizeLine) (t:Nat):
  Inv X pins σ (upd H p (.lst ys)) {s with heap:=s.heap.update p f,toks:=t}:=by
 have e:(s.heap.update p f).get? p=some {cls:= .type "list",data:= .seq dG.toArray n'}:=by
  rw[Heap.get?_update_self f ho (by rw[hf] <;>rfl),hf]
 refine I.write (x:=p) (e:=p) (by rw[h];trivial) (.inl rfl) (fun b u hb q=> (Heap.get?_update_other _ _ (Ne.symm hb)).trans q) ⟨_,e⟩ ?_
 exact⟨hz,dG,n',r,e⟩
def uw:V→V→V→Hp→(Hp→Prop)→Prop:=fun o i v H Q=> ∃p xs k j,o= .ref p∧i= .int k∧H p=some (.lst xs)∧eZ xs.length k=some j∧Q (upd H p (.lst (xs.set j v)))
theorem set_list:Ed X uw:=by
 intro pins s σ H o i v ov iv u Q I ro ri rv h
 obtain⟨p,xs,k,j,rfl,rfl,hp,hj,q⟩:=h
 cases ro
 obtain⟨t,rfl⟩:=ri
 obtain⟨its,n,r,ho,hz⟩:=I.lst hp
 obtain⟨h1,h2,h3,h4⟩:=E2 hj
 have hl:=r.length
 have hn:=hX
 have I':Inv X pins σ (upd H p (.lst (xs.set j v))) {s with heap:=s.heap.update p (Obj.mapSeq (·.setIfInBounds j u))}:=
  I.OM hp ho (OL its n j u) (r.set rv j) (by rw[List.length_set];exact hz) s.toks
 by_cases h0:0≤k
 ·have hk:k.toNat=j:=by
   rw[seqIndex_of h0 h4] at h1
   exact Option.some.inj h1
  exact PySem.W.ki_setAt ho h0 (by omega) (by rw[List.size_toArray,←hl];exact h4) (by rw[hk];exact⟨_,I',q⟩)
 ·have hk:(k+ (its.toArray.size:Int)).toNat=j:=by
   rw[seqIndex_neg (by omega) h3] at h1
   rw[List.size_toArray,←hl]
   exact Option.some.inj h1
  exact PySem.W.ki_setBack ho (by omega) (by rw[List.size_toArray,←hl];exact h3) (by omega) (by rw[hk];exact⟨_,I',q⟩)
theorem ux(lo hi:Option Int)(n:Nat):(sliceBounds lo hi none n).1=((HT.ba n 0 lo:Nat):Int)∧(sliceBounds lo hi none n).2.1=((HT.ba n n hi:Nat):Int)∧(sliceBounds lo hi none n).2.2=1:=by
 refine⟨?_, ?_,rfl⟩
 ·cases lo with
  | none=>simp[sliceBounds,HT.ba]
  | some i=>
   simp only[sliceBounds,HT.ba,Option.getD_none,show(1:Int) >0 by decide,if_true]
   by_cases h:i<0
   ·simp only[h,if_true] <;>omega
   ·simp only[h,if_false] <;>omega
 ·cases hi with
  | none=>simp[sliceBounds,HT.ba]
  | some i=>
   simp only[sliceBounds,HT.ba,Option.getD_none,show(1:Int) >0 by decide,if_true]
   by_cases h:i<0
   ·simp only[h,if_true] <;>omega
   ·simp only[h,if_false] <;>omega
theorem ON(its:List Value)(lo hi:Option Int):slicePick its.toArray lo hi none=((its.drop (HT.ba its.length 0 lo)).take (HT.ba its.length its.length hi - HT.ba its.length 0 lo)).toArray:=by
 obtain⟨h1,h2,h3⟩:=ux lo hi its.toArray.size
 unfold slicePick
 rw[h1,h2,h3]
 simp only[sliceRange_one,pick_run,List.size_toArray] <;>rfl
def OO(K:PySem.W.Frag):V→Option Int→Option Int→Hp→VK→Prop:=fun x lo hi H Q=> ∃a xs,x= .ref a∧aC K H a xs∧ ∀p,H p=none→Q (.ref p) (upd H p (.lst (dI xs lo hi)))
theorem OP:p9 X (OO X.K):=by
 intro pins s σ H x v vl vu lo hi sl Q I rx hs pl pu h
 obtain⟨a,xs,rfl,hx,q⟩:=h
 cases rx
 obtain⟨its,r,ht,hz⟩:=I.list hx
 have hlen:=r.length
 refine⟨"list",_,slot_list_getitem.lookup,ht.isList.typeIs, ?_⟩
 refine wpAny_getItem_list_slice ht.isList hs pl pu .none (by simp) ?_ (by rw[List.size_toArray] <;>omega)
 rw[ON,←hlen]
 refine⟨.ref s.heap.objs.size,_,I.laid (t':=s.toks) (o:= .lst (dI xs lo hi)) (fun b ob q=>Heap.get?_push_of_some _ q) (Nat.le_refl _) ?_,rfl,q _ (I.aG.fresh (Nat.le_refl _))⟩
 exact⟨Nat.le_trans (EZ xs lo hi) hz,_,0,(r.drop (HT.ba xs.length 0 lo)).take (HT.ba xs.length xs.length hi - HT.ba xs.length 0 lo),Heap.get?_push_size _ rfl⟩
def cR:V→Bool
 | .av=>true
 | .bl _=>true
 | .int _=>true
 | .str _=>true
 | _=>false
def df:V→V→Bool
 | .av, .av=>true
 | .bl a, .bl b=>a==b
 | .bl a, .int b=> (if a then 1 else 0)==b
 | .int a, .bl b=>a==(if b then 1 else 0)
 | .int a, .int b=>a==b
 | .str a, .str b=>a==b
 | _,_=>false
theorem OQ{A:Around}{s:Shared}{y x:V}{u v:Value}(ry:RelV y u)(rx:RelV x v)(fy:cR y=true)(fx:cR x=true):SeqAt.EqAt A s u v (df y x):=by
 cases y with
 | av=>
  cases ry
  cases x with
  | av=>cases rx;exact SeqAt.EqAt.same _
  | bl b=>cases rx;exact SeqAt.EqAt.none_bool b
  | int b=>obtain⟨t,rfl⟩:=rx;exact SeqAt.EqAt.none_int b t
  | str b=>obtain⟨t,rfl⟩:=rx;exact SeqAt.EqAt.none_str b t
  | _=>exact absurd (show false=true from fx) Bool.false_ne_true
 | bl a=>
  cases ry
  cases x with
  | av=>cases rx;exact SeqAt.EqAt.bool_none a
  | bl b=>cases rx;exact SeqAt.EqAt.bool_bool a b
  | int b=>obtain⟨t,rfl⟩:=rx;exact SeqAt.EqAt.bool_int a b t
  | str b=>obtain⟨t,rfl⟩:=rx;exact SeqAt.EqAt.bool_str a b t
  | _=>exact absurd (show false=true from fx) Bool.false_ne_true
 | int a=>
  obtain⟨t',rfl⟩:=ry
  cases x with
  | av=>cases rx;exact SeqAt.EqAt.int_none a t'
  | bl b=>cases rx;exact SeqAt.EqAt.int_bool a t' b
  | int b=>obtain⟨t,rfl⟩:=rx;exact SeqAt.EqAt.int_int a t' b t
  | str b=>obtain⟨t,rfl⟩:=rx;exact SeqAt.EqAt.int_str a t' b t
  | _=>exact absurd (show false=true from fx) Bool.false_ne_true
 | str a=>
  obtain⟨t',rfl⟩:=ry
  cases x with
  | av=>cases rx;exact SeqAt.EqAt.str_none a t'
  | bl b=>cases rx;exact SeqAt.EqAt.str_bool a t' b
  | int b=>obtain⟨t,rfl⟩:=rx;exact SeqAt.EqAt.str_int a t' b t
  | str b=>obtain⟨t,rfl⟩:=rx;exact SeqAt.EqAt.str_str a t' b t
  | _=>exact absurd (show false=true from fx) Bool.false_ne_true
 | _=>exact absurd (show false=true from fy) Bool.false_ne_true
def cO(x:V)(u:Value):Bool:=match u with
 | .none=>df .av x
 | .bool b=>df (.bl b) x
 | .int i _=>df (.int i) x
 | .str z _=>df (.str z) x
 | _=>false
theorem p_{x y:V}{u:Value}(r:RelV y u)(f:cR y=true):cO x u=df y x:=by
 cases y with
 | av=>cases r;rfl
 | bl b=>cases r;rfl
 | int i=>obtain⟨t,rfl⟩:=r;rfl
 | str z=>obtain⟨t,rfl⟩:=r;rfl
 | _=>exact absurd (show false=true from f) Bool.false_ne_true
theorem nE{x:V}: ∀{xs:List V} {us:List Value},Vals xs us→xs.all cR=true→us.any (cO x)=xs.any fun y=>df y x
 | _,_, .nil,_=>rfl
 | y::xs,u::us, .cons r t,f=>by
  rw[List.all_cons,Bool.and_eq_true] at f
  rw[List.any_cons,List.any_cons,p_ r f.1,nE t f.2]
theorem jg{A:Around}{s:Shared}{x:V}{v:Value}(rx:RelV x v)(fx:cR x=true): ∀{xs:List V} {us:List Value},Vals xs us→xs.all cR=true→ ∀u∈us,SeqAt.EqAt A s u v (cO x u)
 | _,_, .nil,_=>fun u hu=>by cases hu
 | y::xs,u::us, .cons r t,f=>fun u' hu=>by
  rw[List.all_cons,Bool.and_eq_true] at f
  rcases List.mem_cons.mp hu with rfl | hu
  ·rw[p_ r f.1];exact OQ r rx f.1 fx
  ·exact jg rx fx t f.2 u' hu
def dg(x:V)(xs:List V):Bool:=xs.any fun y=>df y x
def uz(K:PySem.W.Frag)(neg:Bool):R2:=fun x y H Q=> ∃p xs,y= .ref p∧(aC K H p xs∨aX K H p xs)∧cR x=true∧xs.all cR=true∧Q (.bl (if neg then !dg x xs else dg x xs)) H
theorem OR:bf X (compareOp .In) (uz X.K false):=by
 intro pins s σ H x y v u Q I rx ry h
 obtain⟨p,xs,rfl,hq,fx,fs,q⟩:=h
 cases ry
 rcases hq with hq | hq
 ·obtain⟨its,r,pl,hz⟩:=I.list hq
  refine SeqAt.in_listAt (cO x) pl.isList (fun w hw=>jg rx fx r fs w (by simpa using hw)) ⟨.bl _,H,I,rfl, ?_⟩
  rw[show its.toArray.any (cO x)=its.any (cO x) by simp,nE r fs]
  exact q
 ·obtain⟨its,r,pl,hz⟩:=I.tuple hq
  refine SeqAt.in_tupleAt (cO x) pl (fun w hw=>jg rx fx r fs w (by simpa using hw)) ⟨.bl _,H,I,rfl, ?_⟩
  rw[show its.toArray.any (cO x)=its.any (cO x) by simp,nE r fs]
  exact q
theorem OS:bf X (compareOp .NotIn) (uz X.K true):=by
 intro pins s σ H x y v u Q I rx ry h
 obtain⟨p,xs,rfl,hq,fx,fs,q⟩:=h
 cases ry
 rcases hq with hq | hq
 ·obtain⟨its,r,pl,hz⟩:=I.list hq
  refine SeqAt.notIn_listAt (cO x) pl.isList (fun w hw=>jg rx fx r fs w (by simpa using hw)) ⟨.bl _,H,I,rfl, ?_⟩
  rw[show its.toArray.any (cO x)=its.any (cO x) by simp,nE r fs]
  exact q
 ·obtain⟨its,r,pl,hz⟩:=I.tuple hq
  refine SeqAt.notIn_tupleAt (cO x) pl (fun w hw=>jg rx fx r fs w (by simpa using hw)) ⟨.bl _,H,I,rfl, ?_⟩
  rw[show its.toArray.any (cO x)=its.any (cO x) by simp,nE r fs]
  exact q
theorem bT.or{f:Value}{r r':List V→Hp→VK→Prop}(h:bT X f r)(h':bT X f r'):bT X f (fun xs H Q=>r xs H Q∨r' xs H Q):=by
 intro pins s σ H xs us Q I rs q
 rcases q with q | q
 ·exact h pins s σ H xs us Q I rs q
 ·exact h' pins s σ H xs us Q I rs q
theorem OT:bT X (.type "list") (fun xs H Q=> ∃p ys,xs=[.ref p]∧(aC X.K H p ys∨aX X.K H p ys)∧ ∀l,H l=none→Q (.ref l) (upd H l (.lst ys))):=by
 intro pins s σ H xs us Q I r h
 obtain⟨p,ys,rfl,hq,q⟩:=h
 obtain⟨u,rfl,rx⟩:=vals1 r
 cases rx
 have fin: ∀(its:List Value),Vals ys its→ys.length≤sizeLine→ ∀(h':Heap) (c':Nat),(∀b o',s.heap.get? b=some o'→h'.get? b=some o')→
   h'.get? s.heap.objs.size=some {cls:= .type "list",dict:=none,data:= .seq its.toArray c',slots:= #[]}→EP X pins σ Q (.ref s.heap.objs.size) {s with heap:=h'}:=fun its r' hz h' c' kp e=>
  ⟨.ref s.heap.objs.size,_,I.laid (t':=s.toks) kp (Nat.le_refl _) (show cq X.prog X.w _ h' _ (.lst ys) from⟨hz,its,c',r',e⟩),rfl,q _ (I.aG.fresh (Nat.le_refl _))⟩
 rcases hq with hq | hq
 ·obtain⟨its,r',pl,hz⟩:=I.list hq
  have hlen:=r'.length
  obtain⟨o,ho,hc,n,hd⟩:=pl.isList
  exact call_list_seq p (.inl rfl) ho hc hd (fun h' c' kp e=>fin its r' hz h' c' kp e) (by simp only[List.size_toArray] <;>omega)
 ·obtain⟨its,r',pl,hz⟩:=I.tuple hq
  have hlen:=r'.length
  obtain⟨o,ho,hc,n,hd⟩:=pl
  exact call_list_seq p (.inr rfl) ho hc hd (fun h' c' kp e=>fin its r' hz h' c' kp e) (by simp only[List.size_toArray] <;>omega)
theorem OU:bT X (.type "tuple") (fun xs H Q=> ∃p ys,xs=[.ref p]∧((aC X.K H p ys∧ ∀l,H l=none→Q (.ref l) (upd H l (.tup ys)))∨(aX X.K H p ys∧Q (.ref p) H))):=by
 intro pins s σ H xs us Q I r h
 obtain⟨p,ys,rfl,h⟩:=h
 obtain⟨u,rfl,rx⟩:=vals1 r
 cases rx
 rcases h with⟨hq,q⟩ | ⟨hq,q⟩
 ·obtain⟨its,r',pl,hz⟩:=I.list hq
  have hlen:=r'.length
  refine call_tuple_list pl.isList (fun h' kp=> ?_) (by simp only[List.size_toArray] <;>omega)
  have I1:Inv X pins σ H {s with heap:=h'}:=I.kept (t':=s.toks) kp
  have I2:Inv X pins σ (upd H h'.objs.size (.tup ys)) {s with heap:=h'.push {cls:= .type "tuple",data:= .seq its.toArray}}:=
   I1.laid (t':=s.toks) (fun b o e=>Heap.get?_push_of_some _ e) (Nat.le_refl _) (show cq X.prog X.w _ _ _ (.tup ys) from⟨hz,its,r',IsTup.new _ _⟩)
  exact⟨.ref h'.objs.size,_,I2,rfl,q _ (I1.aG.fresh (Nat.le_refl _))⟩
 ·obtain⟨its,r',pl,hz⟩:=I.tuple hq
  exact call_tuple_same pl ⟨.ref p,H,I,rfl,q⟩
def nF(K:PySem.W.Frag)(T:String)(x:V)(H:Hp):Prop:=match x with
 | .str _=>T="str"
 | .int _=>T="int"
 | .ref p=> (T="list"∧ ∃xs,aC K H p xs)∨(T="tuple"∧ ∃o,K.lookup p=some o∧o.cls= .type "tuple"∧o.dict=none)∨
   (T="dict"∧((∃aJ,H p=some (.dK aJ))∨ ∃aJ,H p=some (.dT aJ)))∨(T="set"∧ ∃S n,H p=some (.set S n))
 | _=>False
theorem E8{pins:List (Addr×Obj)}{σ:St}{H:Hp}{s:Shared}{T:String}{x:V}{v:Value}(I:Inv X pins σ H s)(r:RelV x v)(ty:nF X.K T x H):
  s.TypeIs v T∧ ∀a,v= .ref a→ ∃ob,s.heap.get? a=some ob∧ob.dict=none:=by
 cases x with
 | str z=>
  obtain⟨t,rfl⟩:=r
  cases (show T="str" from ty)
  exact⟨typeIs_str s z t,fun _ e=>nomatch e⟩
 | int i=>
  obtain⟨t,rfl⟩:=r
  cases (show T="int" from ty)
  exact⟨typeIs_int s i t,fun _ e=>nomatch e⟩
 | ref p=>
  cases r
  rcases ty with⟨rfl,xs,hq⟩ | ⟨rfl,o,hk,hc,hd⟩ | ⟨rfl,hk⟩ | ⟨rfl,S,n,hk⟩
  ·obtain⟨its,_,pl,_⟩:=I.list hq
   refine⟨pl.isList.typeIs,fun a e=> ?_⟩
   cases e
   obtain⟨o,n,e,c,hd,_⟩:=pl
   exact⟨o,e,hd⟩
  ·refine⟨⟨o,I.ck p o hk,hc⟩,fun a e=> ?_⟩
   cases e
   exact⟨o,I.ck _ o hk,hd⟩
  ·have z: ∃o,s.heap.get? p=some o∧o.ExactDict:=by
    rcases hk with⟨aJ,hk⟩ | ⟨aJ,hk⟩
    ·obtain⟨_,_,_,_,o,_,_,e,ex,_⟩:=I.aG p _ hk
     exact⟨o,e,ex⟩
    ·obtain⟨_,_,_,_,o,_,_,e,ex,_⟩:=I.aG p _ hk
     exact⟨o,e,ex⟩
   obtain⟨o,e,ex⟩:=z
   refine⟨⟨o,e,ex.1⟩,fun a e2=> ?_⟩
   cases e2
   exact⟨o,e,ex.2.1⟩
  ·obtain⟨o,_,_,_,e,ex,_⟩:=I.aG p _ hk
   refine⟨⟨o,e,ex.1⟩,fun a e2=> ?_⟩
   cases e2
   exact⟨o,e,ex.2.1⟩
 | _=>exact False.elim ty
def OV(K:PySem.W.Frag)(T:String)(r:V→List V→Hp→VK→Prop)(to:TE):TE:=fun σ H Q=>to σ H fun x H1=>nF K T x H1∧r x [] H1 Q
def OW(K:PySem.W.Frag)(T:String)(r:V→List V→Hp→VK→Prop)(to:TE)(t:TA):TE:=fun σ H Q=>to σ H fun x H1=>nF K T x H1∧t σ H1 fun xs H2=>r x xs H2 Q
variable {o e:Expr} {es:List Expr} {to:TE} {t:TA} {name:Str} {apos cz:Pos} {T id:String} {r:V→List V→Hp→VK→Prop}
theorem OX(pa:PlainAttrs T)(slot:Slot T name id)(uA:typeOf (.builtin id)=pure (.type "method_descriptor"))(hm:gG X id r)(ho:PE X o to)
  (uB:attributeBase o name X.env (eval o X.env)=eval o X.env:=by rfl) (uC:(apos.endLine==cz.line)=true:=by rfl):PE X (.Call (.Attribute o name apos) [] [] cz) (OV X.K T r to):=by
 intro pins s σ H Q I h
 refine wpAny_Call_method0_late uB uC (aO (ho pins s σ H _ I h) fun v s1 ⟨x,H1,I1,r1,ty,q1⟩=> ?_)
 obtain⟨h1,h2⟩:=E8 I1 r1 ty
 exact⟨T,id,pa,slot,uA,h1,h2,Calls.callWith_builtin rfl (PySem.evalArgs_none (hm pins s1 σ H1 x [] v [] Q I1 r1 .nil q1))⟩
theorem OY(pa:PlainAttrs T)(slot:Slot T name id)(uA:typeOf (.builtin id)=pure (.type "method_descriptor"))(hm:gG X id r)(ho:PE X o to)(ha:PA X (e::es) t)
  (uB:attributeBase o name X.env (eval o X.env)=eval o X.env:=by rfl)
  (OZ:((backTo cz (starEach (e::es) X.env)).all (fun x=> !x.1) && (backToKw cz (keywordEach [] X.env)).all (fun x=>x.1.isSome)
   && decide ((e::es).length+ ([]:List Keyword).length+ (if ([]:List Keyword).isEmpty then 0 else 1) <30))=true:=by rfl)
  (uC:(apos.endLine==cz.line)=true:=by rfl) (hs:starEach (e::es) X.env=(false,eval e X.env)::starEach es X.env:=by rfl) (O0:(backTo cz (starEach es X.env)).any (·.1)=false:=by rfl):
  PE X (.Call (.Attribute o name apos) (e::es) [] cz) (OW X.K T r to t):=by
 intro pins s σ H Q I h
 refine wpAny_Call_method_late uB OZ uC rfl (aO (ho pins s σ H _ I h) fun v s1 ⟨x,H1,I1,r1,ty,q1⟩=> ?_)
 obtain⟨h1,h2⟩:=E8 I1 r1 ty
 refine⟨T,id,pa,slot,uA,h1,h2, ?_⟩
 have hA:=ha cz pins s1 σ H1 _ I1 q1
 rw[hs] at hA⊢
 refine Calls.callWith_builtin (by show(false || (backTo cz (starEach es X.env)).any (·.1))=false;rw[O0] <;>rfl) (Calls.evalArgs_plain ?_)
 exact aO hA fun us s2 ⟨vs,H2,I2,r2,q2⟩=>hm pins s2 σ H2 x vs v us Q I2 r1 r2 q2
end
def nG(X:Cx)(id:String)(r:V→List V→Hp→VK→Prop):Prop:=
 ∀(pins:List (Addr×Obj)) (s:Shared) (σ:St) (H:Hp) (x:V) (xs:List V) (v:Value) (us:List Value) (Q:VK),Inv X pins σ H s→RelV x v→Vals xs us→r x xs H Q→
  wpAny (model X.prog X.w) X.A (call (.builtin id) (v::us)) (EP X pins σ Q) X.xe s
theorem Vals.one: ∀{x:V} {us:List Value},Vals [x] us→ ∃u,us=[u]∧RelV x u
 | _,_, .cons r .nil=> ⟨_,rfl,r⟩
theorem Vals.zero: ∀{us:List Value},Vals [] us→us=[]
 | _, .nil=>rfl
theorem Vals.dropLast{xs:List V}{us:List Value}(h:Vals xs us):Vals xs.dropLast us.dropLast:=by
 induction h with
 | nil=>exact .nil
 | cons r t ih=>
  cases t with
  | nil=>exact .nil
  | cons q t'=>exact .cons r ih
theorem Vals.reverse{xs:List V}{us:List Value}(h:Vals xs us):Vals xs.reverse us.reverse:=by
 induction h with
 | nil=>exact .nil
 | cons r t ih=>rw[List.reverse_cons,List.reverse_cons];exact Vals.append ih (.cons r .nil)
theorem Vals.rep{xs:List V}{us:List Value}(h:Vals xs us): ∀k:Nat,Vals (List.replicate k xs).flatten (List.replicate k us).flatten
 | 0=> .nil
 | k+1=>by
  rw[List.replicate_succ,List.replicate_succ,List.flatten_cons,List.flatten_cons]
  exact Vals.append h (Vals.rep h k)
theorem O1{α:Type}(l:List α):l.eraseIdx (l.length - 1)=l.dropLast:=by
 induction l with
 | nil=>rfl
 | cons a r ih=>
  cases r with
  | nil=>rfl
  | cons b r=>
   have e:(a::b::r).length - 1=((b::r).length - 1)+1:=by
    have h1:(a::b::r).length=r.length+2:=rfl
    have h2:(b::r).length=r.length+1:=rfl
    omega
   rw[e,List.eraseIdx_cons_succ,ih]
   all_goals rfl
theorem foldl_rep(its:List Value): ∀(k:Nat) (acc:List Value),
  List.foldl (fun x1 x2=>x1++x2) acc.toArray (List.replicate k its.toArray)=(acc++ (List.replicate k its).flatten).toArray
 | 0,acc=>by simp
 | k+1,acc=>by
  have e:acc.toArray++its.toArray=(acc++its).toArray:=by simp
  have e2:(acc++its)++ (List.replicate k its).flatten=acc++ (List.replicate (k+1) its).flatten:=by
   rw[List.replicate_succ,List.flatten_cons,List.append_assoc]
  rw[←e2,←foldl_rep its k (acc++its),←e,List.replicate_succ,List.foldl_cons]
section
variable {X:Cx} {pins:List (Addr×Obj)} {σ:St} {H:Hp} {s:Shared} {l b:Addr} {xs ys zs:List V}
theorem Inv.nH{its dG:List Value}{n:Nat}{f:Array Value→Array Value}{t':Nat}(I:Inv X pins σ H s)(hH:H l=some (.lst xs))
  (e:s.heap.get? l=some {cls:= .type "list",data:= .seq its.toArray n}) (hf:f its.toArray=dG.toArray) (hv:Vals ys dG) (hz:ys.length≤sizeLine):
  Inv X pins σ (upd H l (.lst ys)) {s with heap:=s.heap.update l (Obj.mapSeq f),toks:=t'}:=by
 have q:=PySem.IsL.update e f
 rw[hf] at q
 refine I.write (x:=l) (e:=l) (by rw[hH];exact trivial) (.inl rfl) (fun b' u hb hu=> (Heap.get?_update_other s.heap (Obj.mapSeq f) (Ne.symm hb)).trans hu) ⟨_,q⟩ ?_
 exact⟨hz,dG,_,hv,q⟩
theorem Inv.E9{its:List Value}{t':Nat}(I:Inv X pins σ H s)(hv:Vals ys its)(hz:ys.length≤sizeLine):
  Inv X pins σ (upd H s.heap.objs.size (.lst ys)) {s with heap:=s.heap.push {cls:= .type "list",data:= .seq its.toArray},toks:=t'}:=
 I.laid (fun _ _ q=>Heap.get?_push_of_some _ q) (Nat.le_refl _) ⟨hz,its,0,hv,Heap.get?_push_size _ rfl⟩
theorem Inv.fresh(I:Inv X pins σ H s):H s.heap.objs.size=none:=I.aG.fresh (Nat.le_refl _)
theorem Inv.gH(I:Inv X pins σ H s)(hH:H l=some (.lst xs)):xs.length≤sizeLine∧ ∃(its:List Value) (n:Nat),Vals xs its∧xs.length=its.length∧s.heap.get? l=some {cls:= .type "list",data:= .seq its.toArray n}:=by
 obtain⟨z,its,n,r,e⟩:=I.aG l _ hH
 exact⟨z,its,n,r,r.length,e⟩
theorem E_{n:Nat}(h:n≤sizeLine):Builtin.List.listTooLong n=false:=by
 unfold Builtin.List.listTooLong
 exact decide_eq_false (by omega)
end
section
variable {X:Cx}
def O2:V→List V→Hp→VK→Prop:=fun x vs H Q=> ∃l xs y,x= .ref l∧vs=[y]∧H l=some (.lst xs)∧xs.length<sizeLine∧Q .av (upd H l (.lst (xs++ [y])))
theorem O3:nG X "list.append" O2:=by
 intro pins s σ H x vs v us Q I rx rv h
 obtain⟨l,xs,y,rfl,rfl,hH,hz,q⟩:=h
 cases rx
 obtain⟨u,rfl,ru⟩:=rv.one
 obtain⟨z,its,n,r,hl,e⟩:=I.gH hH
 refine call_meets F.slot_list_append ⟨_,e,rfl⟩ F.entry_list_append (F.args_list_append_2 _ _) (PySem.list_append l its.toArray n u (by rw[List.size_toArray];omega)) ⟨e, ?_⟩
 refine⟨.av,_,I.nH (dG:=its++ [u]) hH e (by simp) (r.append (.cons ru .nil)) ?_,rfl,q⟩
 rw[List.length_append,List.length_singleton]
 omega
def O4:V→List V→Hp→VK→Prop:=fun x vs H Q=> ∃l b xs zs,x= .ref l∧vs=[.ref b]∧H l=some (.lst xs)∧H b=some (.lst zs)∧xs.length+zs.length≤sizeLine∧Q .av (upd H l (.lst (xs++zs)))
theorem O5:nG X "list.extend" O4:=by
 intro pins s σ H x vs v us Q I rx rv h
 obtain⟨l,b,xs,zs,rfl,rfl,hH,hB,hz,q⟩:=h
 cases rx
 obtain⟨u,rfl,ru⟩:=rv.one
 cases ru
 obtain⟨z,its,n,r,hl,e⟩:=I.gH hH
 obtain⟨z2,ic,n2,r2,ma,e2⟩:=I.gH hB
 have hZ:its.toArray.size+ic.toArray.size≤sizeLine:=by rw[List.size_toArray,List.size_toArray];omega
 have uD: ¬(!its.toArray.isEmpty && Builtin.List.listTooLong (its.toArray.size+ic.toArray.size))=true:=by
  rw[E_ hZ,Bool.and_false]
  exact Bool.false_ne_true
 refine call_meets F.slot_list_extend ⟨_,e,rfl⟩ F.entry_list_extend (F.args_list_extend_2 _ _)
  (AutoSeq1.list_extend_list_list_0 l its.toArray n b ic.toArray n2 uD (by rw[List.size_toArray];omega) (by omega)) ⟨e,e2, ?_⟩
 refine⟨.av,_,I.nH (dG:=its++ic) hH e (by simp) (r.append r2) ?_,rfl,q⟩
 rw[List.length_append]
 omega
def O6:V→List V→Hp→VK→Prop:=fun x vs H Q=> ∃l xs y,x= .ref l∧vs=[]∧H l=some (.lst xs)∧xs[xs.length - 1]?=some y∧Q y (upd H l (.lst xs.dropLast))
theorem O7:nG X "list.pop" O6:=by
 intro pins s σ H x vs v us Q I rx rv h
 obtain⟨l,xs,y,rfl,rfl,hH,hy,q⟩:=h
 cases rx
 have nI:=rv.zero
 subst nI
 obtain⟨z,its,n,r,hl,e⟩:=I.gH hH
 obtain⟨u,hu,ru⟩:=r.get hy
 have nJ:its.toArray[its.toArray.size - 1]?=some u:=by
  show its.toArray[its.length - 1]?=some u
  rw[←Array.getElem?_toList,←hl]
  exact hu
 refine call_meets F.slot_list_pop ⟨_,e,rfl⟩ F.entry_list_pop (F.args_list_pop_1 _) (MeetsSeq.list_pop_last l its.toArray n u nJ (by rw[List.size_toArray];omega)) ⟨e, ?_⟩
 refine⟨y,_,I.nH (dG:=its.dropLast) hH e ?_ r.dropLast ?_,ru,q⟩
 ·show its.toArray.eraseIdxIfInBounds (its.toArray.size - 1)=its.dropLast.toArray
  rw[List.size_toArray,List.eraseIdxIfInBounds_toArray,O1]
 ·rw[List.length_dropLast]
  omega
def O8:V→List V→Hp→VK→Prop:=fun x vs H Q=> ∃l xs,x= .ref l∧vs=[]∧H l=some (.lst xs)∧Q .av (upd H l (.lst xs.reverse))
theorem O9:nG X "list.reverse" O8:=by
 intro pins s σ H x vs v us Q I rx rv h
 obtain⟨l,xs,rfl,rfl,hH,q⟩:=h
 cases rx
 have nI:=rv.zero
 subst nI
 obtain⟨z,its,n,r,hl,e⟩:=I.gH hH
 refine call_meets F.slot_list_reverse ⟨_,e,rfl⟩ F.entry_list_reverse (F.args_list_reverse_1 _) (AutoSeq1.list_reverse_list_0 l its.toArray n (by rw[List.size_toArray];omega)) ⟨e, ?_⟩
 refine⟨.av,_,I.nH (dG:=its.reverse) hH e (by simp) r.reverse ?_,rfl,q⟩
 rw[List.length_reverse]
 omega
def O_:V→List V→Hp→VK→Prop:=fun x vs H Q=> ∃l xs,x= .ref l∧vs=[]∧H l=some (.lst xs)∧Q .av (upd H l (.lst []))
theorem Pa:nG X "list.clear" O_:=by
 intro pins s σ H x vs v us Q I rx rv h
 obtain⟨l,xs,rfl,rfl,hH,q⟩:=h
 cases rx
 have nI:=rv.zero
 subst nI
 obtain⟨z,its,n,r,hl,e⟩:=I.gH hH
 refine call_meets F.slot_list_clear ⟨_,e,rfl⟩ F.entry_list_clear (F.args_list_clear_1 _) (AutoSeq1.list_clear_list_0 l its.toArray n (by rw[List.size_toArray];omega)) ⟨e, ?_⟩
 exact⟨.av,_,I.nH (dG:=[]) (ys:=[]) hH e rfl .nil (Nat.zero_le _),rfl,q⟩
def Fb:R2:=fun x y H Q=> ∃l b xs zs,x= .ref l∧y= .ref b∧H l=some (.lst xs)∧H b=some (.lst zs)∧xs.length+zs.length≤sizeLine∧ ∀p,H p=none→Q (.ref p) (upd H p (.lst (xs++zs)))
theorem Pb:bf X (binaryOp .Add) Fb:=by
 intro pins s σ H x y v u Q I rx ry h
 obtain⟨l,b,xs,zs,rfl,rfl,hH,hB,hz,q⟩:=h
 cases rx
 cases ry
 obtain⟨z,its,n,r,hl,e⟩:=I.gH hH
 obtain⟨z2,ic,n2,r2,ma,e2⟩:=I.gH hB
 refine PySem.P.add_list e e2 ?_ (by rw[List.size_toArray,List.size_toArray];omega)
 have ea:its.toArray++ic.toArray=(its++ic).toArray:=by simp
 rw[ea]
 exact⟨.ref _,_,I.E9 (t':=s.toks) (r.append r2) (by rw[List.length_append];omega),rfl,q _ I.fresh⟩
def Fc:R2:=fun x y H Q=> ∃l k xs,x= .ref l∧y= .int k∧H l=some (.lst xs)∧ -(2 ^ 63)≤k∧k<2 ^ 63∧xs.length*k.toNat≤sizeLine∧
 ∀p,H p=none→Q (.ref p) (upd H p (.lst (List.replicate k.toNat xs).flatten))
theorem len_rep{α:Type}(xs:List α)(k:Nat):(List.replicate k xs).flatten.length=k*xs.length:=by
 induction k with
 | zero=>simp
 | succ k ih=>rw[List.replicate_succ,List.flatten_cons,List.length_append,ih,Nat.succ_mul,Nat.add_comm]
theorem Pd:bf X (binaryOp .Mult) Fc:=by
 intro pins s σ H x y v u Q I rx ry h
 obtain⟨l,k,xs,rfl,rfl,hH,h1,h2,hz,q⟩:=h
 cases rx
 obtain⟨t,rfl⟩:=ry
 obtain⟨z,its,n,r,hl,e⟩:=I.gH hH
 have hlen:its.toArray.size*k.toNat≤sizeLine:=by rw[List.size_toArray,←hl];exact hz
 have Pe: ¬its.toArray.size*k.toNat> (2 ^ 63 - 1) / 8:=by
  have:(sizeLine:Nat)≤ (2 ^ 63 - 1) / 8:=by decide
  omega
 have Pf: ¬(!Builtin.List.listFitsIndex k)=true:=by
  rw[fitsIndex_both h1 h2]
  exact Bool.false_ne_true
 have uD: ¬Builtin.List.listTooLong (its.toArray.size*k.toNat)=true:=by
  rw[E_ hlen]
  exact Bool.false_ne_true
 have Pg:List.foldl (fun x1 x2=>x1++x2) #[] (List.replicate (if its.toArray.isEmpty=true then 0 else k.toNat) its.toArray)=(List.replicate k.toNat its).flatten.toArray:=by
  have f0: ∀m:Nat,List.foldl (fun x1 x2=>x1++x2) #[] (List.replicate m its.toArray)=(List.replicate m its).flatten.toArray:=fun m=>by
   have:=foldl_rep its m []
   rw[List.nil_append] at this
   exact this
  rw[f0]
  cases its with
  | nil=>simp
  | cons a r'=>rw[if_neg (by simp)]
 refine wpAny_binaryOp_repeat_ref (T:="list") (U:="int") (by decide) ⟨_,e,rfl⟩ (fun s'=>typeIs_int s' k t) noFill_list_mul F.fills_int_mul F.slot_int_rmul repeat_list F.slot_int_index.lookup
  (call_meets F.slot_int_rmul (typeIs_int s k t) F.entry_int_rmul (F.args_int_rmul_2 _ _) (int___rmul___int_list k t l its.toArray n)
   ⟨e,rfl,⟨_,e,rfl⟩,call_meets F.slot_list_mul ⟨_,e,rfl⟩ F.entry_list_mul (F.args_list_mul_2 _ _) (AutoListH.list___mul___list_int_3 l its.toArray n k t Pf Pe uD) ⟨e, ?_⟩⟩)
 rw[Pg]
 exact⟨.ref _,_,I.E9 (t':=s.toks) (r.rep k.toNat) (by rw[len_rep,Nat.mul_comm];exact hz),rfl,q _ I.fresh⟩
end
section
variable {prog:Program} {w:World} {A:Around} {E:Value→Shared→Prop} {s:Shared}
end
section
variable {X:Cx}
end
end L2
namespace Fd
open PySem PySem.W PySem.Calls PyProof.Rows
theorem Ph{P:Params}{h:Heap}: ∀(ns:List Int) (vs:List Value),WellAll P h vs (ns.map WData.int)→IntsAre vs ns:=by
 intro ns
 induction ns with
 | nil=>
  intro vs w
  rw[List.map_nil] at w
  cases w
  exact .nil
 | cons n ns ih=>
  intro vs w
  rw[List.map_cons] at w
  cases w with
  | cons a b=>
   cases a
   exact .cons _ _ (ih _ b)
theorem Pj{l:OpenLaw}{n:Nat}(hn:l.most=some n){P:Params}{h:Heap}{args:List WData}{vals:List Value}
  (me:l.row.toRowW.claim.pre args=true) (uE:WellAll P h vals args):
  ∃a vs ns,vals=[Value.ref a]∧args=[WData.list (ns.map WData.int)]∧h.get? a=some {cls:= .type "list",data:= .seq vs.toArray}∧IntsAre vs ns∧ns.length≤n:=by
 have Pk:WShape.hasAll [] args [.list .int]=true:=(pre_splitW me).1
 have hc:l.pre.holds [] {args:=args}=true:=(pre_splitW me).2
 obtain⟨d,r,rfl,h1,h2⟩:=hasAllW_cons Pk
 obtain rfl:=hasAllW_nil h2
 obtain⟨xs,rfl,h3⟩:=hasW_list h1
 obtain⟨ns,rfl⟩:=items_int h3
 have hlen:ns.length≤n:=by
  unfold OpenLaw.pre at hc
  have h4:(WTm.not (.lt (.lit (.int (n:Int))) (.len (.arg 0)))).holds [] {args:=[.list (ns.map .int)]}=true:=by
   have h4:=(holds_andW hc).1
   rw[hn] at h4
   exact h4
  have h5:=condW_of h4 (w_not (w_lt w_lit (w_len_list (w_arg rfl))))
  rw[List.length_map] at h5
  refine Nat.le_of_not_lt fun q=> ?_
  have q':(n:Int) < ((ns.length:Nat):Int):=by omega
  first
   | (rw[decide_eq_true q'] at h5;exact absurd h5 (by decide))
   | (simp at h5;omega)
 cases uE with
 | cons w1 w2=>
  cases w2
  cases w1 with
  | list ho uF=>exact⟨_,_,ns,rfl,rfl,ho,Ph ns _ uF,hlen⟩
theorem Pl(l:OpenLaw)(args:List WData):l.row.toRowW.claim.post args (.bool true) args=true:=
 postW_of (r:=l.row.toRowW) (X:=(true==true))
  (show WShape.has [] (.bool true) .bool=true by first | rfl | decide | simp[WShape.has,WShape.arms,WShape.armsAll])
  (show(WTm.eq .res (.lit (.bool true))).value [] {args:=args,res:=some (.bool true),after:=args}=some (.bool (true==true)) from w_eq_bool (w_res rfl) w_lit) rfl
theorem Pm{l:OpenLaw}{n:Nat}{q:Program}{loose:List Str}{XP:(Str→Option Value)→Heap→Prop}{YP:World→Heap→Prop}{d:DefRec}
  (hn:l.most=some n) (nK:d.params.defaults=[])
  (call: ∀(w:World) (s₀ s₁:Shared) (mg mb:Str→Option Value) (fa:Addr) (o:Obj) (pm cd doc:Value) (a:Addr) (vs:List Value) (ns:List Int),
   Ground q loose [] XP w s₀ mg mb s₁.heap→YP w s₁.heap→
   s₁.heap.get? fa=some o→o.data= .func (docDef d.name d.params d.body d.scope pm cd doc)→s₁.heap.CodeRec cd d.name→mg d.name=some (.ref fa)→
   s₁.heap.get? a=some {cls:= .type "list",data:= .seq vs.toArray}→IntsAre vs ns→ns.length≤n→s₁.gens= #[]→
   codeAny (model l.prog w) callerA (.call (.ref fa) ⟨[.ref a],[]⟩) (fun r s'=>r= .ok (.ret (.bool true))∧OldK s₁.heap s'.heap∧s'.os=s₁.os∧AllBare s'.gens) s₁):
  WalkO q loose XP YP l.row.toRowW d [] (fun f vs=>PySem.call f vs):=by
 intro w s₀ s₁ mg mb G Y fa o pm cd doc dV kV ho hd eW hD ji hg args vals as me aly hrd uE hlo
 obtain rfl:dV= .none:=Dflts.none hD nK
 obtain rfl:kV= .none:=Dflts.noKw hD
 obtain⟨a,vs,ns,rfl,rfl,uG,hints,hlen⟩:=Pj hn me uE
 refine enter_call (codeAny_mono (call w s₀ s₁ mg mb fa o pm cd doc a vs ns G Y ho (fd_plain hd) eW ji uG hints hlen hg) fun r s' hq=> ?_)
 obtain⟨rfl,h2,h3,h4⟩:=hq
 exact⟨.inl ⟨.bool true, .bool true,[],rfl,fun _=>rfl, .bool true,Pl l _,fun _=> ⟨List.Pairwise.nil,fun _ hm=> (nomatch hm)⟩⟩,h2,h3,h4⟩
section
variable {prog:Program} {w:World} {A:Around} {E:Value→Shared→Prop} {s:Shared} {K:Frag}
end
end Fd
namespace L2
open PySem PySem.Spec PyProof.Rows
theorem Fe: ∀{vs:List Value} {ns:List Int},IntsAre vs ns→Vals (ns.map V.int) vs
 | _,_, .nil=> .nil
 | _,_, .cons n t h=> .cons ⟨t,rfl⟩ (Fe h)
def uH(H:Hp):Prop:= ∀b,H b=none∨ ∃o xs,H b=some (.bM o (.lst xs))
theorem Pn{P:Program}{w:World}{K:PySem.W.Frag}{mg mb:Str→Option Value}{CX:aL}{k:Nat}{fa a:Addr}{fd:FuncData}{x:Str}{sp:Sp}{s₁:Shared}{vs:List Value}{ns:List Int}
  (KX:K.In s₁.heap) (qc:s₁.heap.Ns mainGlobals mg) (hb:s₁.heap.Ns builtinsNs mb) (Po: ∀x:Str,x≠"__name__"→mb x=bootBuiltins x) (Pp:s₁.heap.NoLimit) (hg:s₁.gens= #[])
  (ha:s₁.heap.get? a=some {cls:= .type "list",data:= .seq vs.toArray}) (hi:IntsAre vs ns) (hl:ns.length≤sizeLine) (hr:cm k callerA)
  (F: ∀base:Heap,K.In base→base.Ns mainGlobals mg→cn P w K mg base CX k fa fd [x] sp) (Pq: ∀(s:Shared) (u:Value),BindsTo s fd ⟨[u],[]⟩ [(x,u)])
  (ia: ∀H:Hp,uH H→aC K H a (ns.map V.int)→sp [.ref a] H (fun v _=>v= .bl true) fun _ _ _=>False)
  (uI: ∀H e s',CX [] H s₁ (fun _ _ _=>False) e s'→False):
  codeAny (model P w) callerA (.call (.ref fa) ⟨[.ref a],[]⟩) (fun r s'=>r= .ok (.ret (.bool true))∧OldK s₁.heap s'.heap∧s'.os=s₁.os∧AllBare s'.gens) s₁:=by
 have rv:=Fe hi
 have nM:=hi.length
 have core: ∀H:Hp,uH H→aC K H a (ns.map V.int)→b8 P w H s₁.heap→(∀b,H b≠none→b=a)→(H a≠none→K.lookup a=none)→
   codeAny (model P w) callerA (.call (.ref fa) ⟨[.ref a],[]⟩) (fun r s'=>r= .ok (.ret (.bool true))∧OldK s₁.heap s'.heap∧s'.os=s₁.os∧AllBare s'.gens) s₁:=by
  intro H hO hS aG hA hK
  have jj: ∀{b:Addr} {o:Obj},s₁.heap.get? b=some o→H b=none→(gw s₁.heap H).get? b=some o:=fun e n=>MA e n
  have nA: ∀{b:Addr} {o:Obj} {es:Array DictEntry} {ep:Nat},s₁.heap.get? b=some o→o.data= .dict es ep→H b=none:=fun {b o es ep} e d=>by
   cases q:H b with
   | none=>rfl
   | some u=>
    have e':b=a:=hA b (by rw[q];simp)
    subst e'
    rw[ha] at e;cases e
    have d':Data.seq vs.toArray _=Data.dict es ep:=d
    cases d'
  have qd: ∀{b:Addr} {m:Str→Option Value},s₁.heap.Ns b m→(gw s₁.heap H).Ns b m:=fun {b m} ⟨o,es,ep,e,d,r⟩=> ⟨o,es,ep,jj e (nA e d),d,r⟩
  have Ff:K.In (gw s₁.heap H):=fun b o e=>jj (KX b o e) (by
   cases q:H b with
   | none=>rfl
   | some u=>
    have e':b=a:=hA b (by rw[q];simp)
    subst e'
    rw[hK (by rw[q];simp)] at e;cases e)
  have hM:Mod K mg (gw s₁.heap H):=⟨Ff,qd qc,⟨mb,qd hb,Po⟩,let ⟨mc,h1,h2⟩:=Pp;⟨mc,qd h1,h2⟩⟩
  have e0:h_ P w K mg (gw s₁.heap H) callerA [] s₁ H:=⟨rfl,hM,fun b o e=>MB e,Nat.le_of_eq (Mz _ _),trivial,fun b hb=>absurd (show b∈ ([]:List Addr) from hb) (by simp),aG, .of_eq hg⟩
  refine codeAny_mono ((F _ Ff (qd qc)).run callerA [] s₁ H ⟨[.ref a],[]⟩ [.ref a] [.ref a] _ _ hr e0 (Pq s₁ (.ref a)) (.cons rfl .nil) (ia H hO hS)) fun r s' h=> ?_
  cases r with
  | error e=>exact(uI H e s' h).elim
  | ok fl=>
   cases fl with
   | next=>exact False.elim h
   | brk=>exact False.elim h
   | cont=>exact False.elim h
   | ret u=>
    obtain⟨v,H',os,bare,un,Pr,r',q⟩:=h
    have q':v= .bl true:=q
    subst q'
    obtain rfl:u=Value.bool true:=r'
    refine⟨rfl,OldK.of_keep fun b o e=> ?_,os,bare⟩
    cases q:H b with
    | none=>exact un.keep b o e q (by intro z;exact absurd (show b∈ ([]:List Addr) from z) (by simp)) (by simp)
    | some u=>
     rcases hO b with z | ⟨ob,xs,z⟩
     ·rw[q] at z;cases z
     ·have z2:=un.dO b ob _ z
      obtain⟨e1,_⟩:=aG b _ z
      obtain⟨e2,_⟩:=Pr b _ z2
      rw[e] at e1;cases e1
      exact e2
 cases hk:K.lookup a with
 | some o=>
  have e:=KX a o hk
  rw[ha] at e
  cases e
  refine core (fun _=>none) (fun _=> .inl rfl) (.inr ⟨_,vs.toArray,_,hk,rfl,rfl,rfl,by rw[List.size_toArray,nM];exact hl,by simpa using rv⟩) (fun b u z=>by have z':(none:Option HO)=some u:=z;cases z') (fun b z=>absurd rfl z) fun z=>absurd rfl z
 | none=>
  refine core (fun b=>if b=a then some (.bM {cls:= .type "list",data:= .seq vs.toArray} (.lst (ns.map V.int))) else none) (fun b=> ?_) (.inl (.inr ⟨{cls:= .type "list",data:= .seq vs.toArray},if_pos rfl⟩)) (fun b u z=> ?_) (fun b z=> ?_) fun _=>hk
  ·by_cases hb:b=a
   ·exact .inr ⟨_,_,if_pos hb⟩
   ·exact .inl (if_neg hb)
  ·by_cases hb:b=a
   ·have z':=(if_pos hb).symm.trans z
    cases z'
    subst hb
    exact⟨ha,by rw[List.length_map];exact hl,vs,_,rv,ha⟩
   ·have z':=(if_neg hb).symm.trans z
    cases z'
  ·by_cases hb:b=a
   ·exact hb
   ·exact absurd (if_neg hb) z
theorem Pu{l:PySem.W.OpenLaw}{n k:Nat}{q:Program}{loose:List Str}{XP:(Str→Option Value)→Heap→Prop}{YP:World→Heap→Prop}{d:DefRec}{K:Params→PySem.W.Frag}{CX:World→aL}{sp:World→Sp}{x:Str}
  (hn:l.most=some n) (h9:n≤sizeLine) (nK:d.params.defaults=[]) (hr:cm k callerA)
  (hY: ∀(w:World) (h:Heap),YP w h→(K w.params).In h)
  (F: ∀(w:World) (mg:Str→Option Value) (fa:Addr) (h:Heap),(K w.params).In h→h.Ns mainGlobals mg→mg d.name=some (.ref fa)→
   ∃fd:FuncData,(∀(s:Shared) (u:Value),BindsTo s fd ⟨[u],[]⟩ [(x,u)])∧
    ∀base:Heap,(K w.params).In base→base.Ns mainGlobals mg→cn l.prog w (K w.params) mg base (CX w) k fa fd [x] (sp w))
  (ia: ∀(w:World) (H:Hp) (a:Addr) (ns:List Int),ns.length≤n→uH H→aC (K w.params) H a (ns.map V.int)→sp w [.ref a] H (fun v _=>v= .bl true) fun _ _ _=>False)
  (uI: ∀(w:World) (H:Hp) (s:Shared) (e:Value) (s':Shared),CX w [] H s (fun _ _ _=>False) e s'→False):
  PySem.W.WalkO q loose XP YP l.row.toRowW d [] (fun f vs=>PySem.call f vs):=by
 refine Fd.Pm hn nK fun w s₀ s₁ mg mb fa o pm cd doc a vs ns G Y ho hd eW ji uG hints hlen hg=> ?_
 have KX:=hY w _ Y
 obtain⟨fd,hb,hF⟩:=F w mg fa _ KX G.T.g ji
 exact Pn KX G.T.g G.T.b G.T.builtins G.T.nolimit hg uG hints (Nat.le_trans hlen h9) hr hF hb (fun H hO hS=>ia w H a ns hlen hO hS) fun H e s'=>uI w H s₁ e s'
end L2
namespace L2
open PySem PySem.Spec PyProof.Rows
def inClass(s:Stmt)(j:Nat):Stmt:=match s with
 | .ClassDef _ _ _ body _ _ _ _ _ _ _=>body.getD j (.Pass ⟨0,0,0,0⟩)
 | _=> .Pass ⟨0,0,0,0⟩
def bp(s:Stmt):Arguments:=match s with
 | .FunctionDef _ a _ _ _ _ _ _ _ _=>a
 | _=> {posonlyargs:=[],args:=[],vararg:=none,kwonlyargs:=[],kw_defaults:=[],kwarg:=none,defaults:=[]}
def az(s:Stmt):List Stmt:=match s with
 | .FunctionDef _ _ b _ _ _ _ _ _ _=>b
 | _=> []
def au(s:Stmt):Scope:=match s with
 | .FunctionDef _ _ _ _ _ _ sc _ _ _=>sc
 | _=> {kind:= .function,names:=[],isGenerator:=false,isCoroutine:=false}
abbrev qe:aL:=fun _ _ _ _ _ _=>False
abbrev E0:XK:=fun _ _ _=>False
structure nN (K:PySem.W.Frag) (x qual:Str) (st:Stmt) (f:Addr) (fd:FuncData):Prop where
 ex: ∃(oc:Value) (od:Option Addr) (kV doc pm:Value) (an:Option Addr) (cN ct:Value) (gF:Array (Option Value)),
  fd=fnOf x qual (bp st) (az st) (au st) .none kV doc pm an cN ct∧K.lookup f=some ⟨oc,od, .func fd,gF⟩∧codeIn K cN qual=true
 kp:keepIn K (.ref f)=true
section
variable {P:Program} {w:World} {K:PySem.W.Frag} {mg:Str→Option Value} {base:Heap}
theorem nN.binds{x qual:Str}{st:Stmt}{f:Addr}{fd:FuncData}{ps:List Str}(F:nN K x qual st f fd)
  (h: ∀(kV doc pm:Value) (an:Option Addr) (cN ct:Value) (us:List Value),us.length=ps.length→bindArgs (fnOf x qual (bp st) (az st) (au st) .none kV doc pm an cN ct) ⟨us,[]⟩=pure (ps.zip us)):Binds K fd ps []:=by
 obtain⟨oc,od,kV,doc,pm,an,cN,ct,gF,rfl,lk,eW⟩:=F.ex
 exact .all (h kV doc pm an cN ct)
theorem bz{x qual:Str}{st:Stmt}{f:Addr}{oc:Value}{od an:Option Addr}{gF:Array (Option Value)}{kV doc pm cN ct:Value}(l:K.lookup f=some ⟨oc,od, .func (fnOf x qual (bp st) (az st) (au st) .none kV doc pm an cN ct),gF⟩)
  (c:codeIn K cN qual=true) (k:keepIn K (.ref f)=true):nN K x qual st f (fnOf x qual (bp st) (az st) (au st) .none kV doc pm an cN ct):=⟨⟨oc,od,kV,doc,pm,an,cN,ct,gF,rfl,l,c⟩,k⟩
end
section
variable {X:Cx}
end
theorem fK{A B:Prop}(h:B):if false=true then A else B:=by
 rw[if_neg Bool.false_ne_true]
 exact h
theorem du{A B:Prop}(h:A):if true=true then A else B:=by
 rw[if_pos rfl]
 exact h
theorem dv{c A B:Prop}[Decidable c](h1:c→A)(h2: ¬c→B):if c then A else B:=by
 by_cases h:c
 ·rw[if_pos h]
  exact h1 h
 ·rw[if_neg h]
  exact h2 h
def aI(H H':Hp):Prop:= ∀b o,H b=some o→H' b=some o
theorem aI.refl(H:Hp):aI H H:=fun _ _ h=>h
theorem aI.trans{H H1 H2:Hp}(a:aI H H1)(b:aI H1 H2):aI H H2:=fun c o h=>b c o (a c o h)
theorem aI.free{H H':Hp}(e:aI H H'){l:Addr}(h:H' l=Option.none):H l=Option.none:=by
 cases q:H l with
 | none=>rfl
 | some o=>
  rw[e l o q] at h
  cases h
theorem aI.seq{K:PySem.W.Frag}{H H':Hp}{a:Addr}{xs:List V}(e:aI H H')(h:aC K H a xs):aC K H' a xs:=by
 rcases h with(h | ⟨o,h⟩) | h
 ·exact .inl (.inl (e _ _ h))
 ·exact .inl (.inr ⟨o,e _ _ h⟩)
 ·exact .inr h
section
variable {κ:Type} [DecidableEq κ]
def Fg(aJ:List (κ×V))(k:κ):Option V:=(aJ.find? fun kv=>decide (kv.1=k)).map (·.2)
def putK(aJ:List (κ×V))(k:κ)(v:V):List (κ×V):=
 if (aJ.any fun kv=>decide (kv.1=k))=true then aJ.map (fun kv=>if kv.1=k then (kv.1,v) else kv) else aJ++ [(k,v)]
end
section
variable {P:Program} {w:World} {H:Hp} {h:Heap} {a:Addr}
end
def qf(H:Hp)(a:Addr)(y:V)(r:Option V):Prop:=
 (∃aJ k,Rd H a (.dK aJ)∧y=kV k∧r=Fg aJ k)∨ ∃aJ k b,Rd H a (.dT aJ)∧y= .ref b∧H b=some (.tup (k.map kV))∧r=Fg aJ k
def Pw(H:Hp)(a:Addr)(y v:V)(H':Hp):Prop:=
 (∃aJ k,H a=some (.dK aJ)∧y=kV k∧aJ.length<sizeLine∧H'=upd H a (.dK (putK aJ k v)))∨
 ∃aJ k b,H a=some (.dT aJ)∧y= .ref b∧H b=some (.tup (k.map kV))∧aJ.length<sizeLine∧H'=upd H a (.dT (putK aJ k v))
section
variable {X:Cx} {pins:List (Addr×Obj)} {σ:St} {H:Hp} {s:Shared} {a:Addr} {y v:V} {u r:Value} {o:Option V} {A:Around} {E:Value→Shared→Prop}
end
section
variable {X:Cx} {pins:List (Addr×Obj)} {σ:St} {H:Hp} {s:Shared} {a:Addr} {aJ:List (Key×V)} {k:Key} {u:Value} {A:Around} {E:Value→Shared→Prop}
end
def Px(td ty:TE):TE:=fun σ H Q=>td σ H fun x H1=>ty σ H1 fun y H2=> ∃a v,x= .ref a∧qf H2 a y (some v)∧Q v H2
def Fh(ty td:TE):TE:=fun σ H Q=>ty σ H fun y H1=>td σ H1 fun x H2=> ∃a o,x= .ref a∧qf H2 a y o∧Q (.bl o.isSome) H2
def Fi(ty td:TE):TE:=fun σ H Q=>ty σ H fun y H1=>td σ H1 fun x H2=> ∃a o,x= .ref a∧qf H2 a y o∧Q (.bl (!o.isSome)) H2
def Py(td ty tv:TE):TS:=fun D σ H=>tv σ H fun v H1=>td σ H1 fun x H2=>ty σ H2 fun y H3=> ∃a H4,x= .ref a∧Pw H3 a y v H4∧D.nx σ H4
section
variable {X:Cx} {o i e value:Expr} {pos pos' ui:Pos} {td ty tv:TE}
end
def Pz:TE:=fun _ H Q=> ∀p,H p=none→Q (.ref p) (upd H p (.dT []))
section
variable {X:Cx} {pos:Pos}
end
def PB(H:Hp)(a:Addr):Prop:=(∃aJ,Rd H a (.dK aJ))∨ ∃aJ,Rd H a (.dT aJ)
section
variable {X:Cx} {pins:List (Addr×Obj)} {σ:St} {H:Hp} {s:Shared} {a:Addr} {y d:V} {u r:Value} {o:Option V} {A:Around} {E:Value→Shared→Prop}
end
def PC(td ty tx:TE):TE:=fun σ H Q=>td σ H fun x H1=> ∃a,x= .ref a∧PB H1 a∧ty σ H1 fun y H2=>tx σ H2 fun z H3=> ∃o,qf H3 a y o∧Q (o.getD z) H3
section
variable {X:Cx} {o e f:Expr} {apos cz:Pos} {td ty tx:TE}
end
end L2
set_option maxHeartbeats 4000000
namespace L2
open PySem PySem.Spec PyProof.Rows
section
variable {X:Cx} {pins:List (Addr×Obj)} {σ:St} {H:Hp} {s:Shared} {a:Addr} {o:HO}
theorem Inv.Fj(I:Inv X pins σ H s)(hn:H a=none)(h0:X.s₀.heap.objs.size≤a)(hL:a≠X.env.locals)(hC: ∀x c,X.env.cells.lookup x=some c→c≠a)
  (hp: ∀p∈X.pn++pins,p.1≠a) (new:cq X.prog X.w (upd H a o) s.heap a o):Inv X pins σ (upd H a o) s:=by
 have PD: ∀b u,X.s₀.heap.get? b=some u→b≠a:=fun b u e=>Nat.ne_of_lt (Nat.lt_of_lt_of_le (Heap.lt_size e) h0)
 have nO: ∀b u,H b=some u→b≠a:=fun b u e=>bW e hn
 refine⟨I.ok,I.os,I.bare,⟨I.base.keep,I.base.slot,fun b u e n hx=> ?_,I.base.there,fun b xs e=> ?_,fun b u xs e=> ?_,fun b ps e=> ?_⟩,I.loc,I.cell, ?_,fun x c e=> ?_,fun p q=> ?_,fun b u e=> ?_,I.len⟩
 ·rw[aK (PD b u e)];exact I.base.free b u e n hx
 ·have z:=I.base.b6 b xs e
  rw[aK (nO b _ z)];exact z
 ·have z:=I.base.dO b u xs e
  rw[aK (nO b _ z)];exact z
 ·obtain⟨m,z⟩:=I.base.d6 b ps e
  exact⟨m,by rw[aK (nO b _ z)];exact z⟩
 ·rw[aK (Ne.symm hL)];exact I.free
 ·rw[aK (hC x c e)];exact I.gy x c e
 ·obtain⟨z1,z2,z3⟩:=I.pin p q
  exact⟨z1,by rw[aK (hp p q)];exact z2,z3⟩
 ·by_cases hb:b=a
  ·subst hb;rw[aN] at e;cases e;exact new
  ·rw[aK hb] at e
   exact(I.aG b u e).gu (fun _ _ _ q=>q) (fun c q=>by rw[aK (nO c _ q)];exact q) fun c xs q=>by rw[aK (nO c _ q)];exact q
end
def cE(cells:List (Str×Addr)):List (Str×NameKind)→List (Str×Addr)→List (Str×Addr)
 | [],acc=>acc
 | (n,k)::r,acc=>cE cells r (if k= .free then (n,(cells.lookup n).getD 0)::acc else acc)
theorem Fl(env:Env): ∀(names:List (Str×NameKind)) (acc:List (Str×Addr)),(∀y∈names,y.2= .free→ ∃c,env.cells.lookup y.1=some c)→
  (forIn names acc (fun(x:Str×NameKind) (cs:List (Str×Addr))=>match x with
   | (name,kind)=>if (kind==NameKind.free)=true then do let a ←cellOf env name;pure (ForInStep.yield ((name,a)::cs)) else pure (ForInStep.yield cs)):Sem (List (Str×Addr)))=pure (cE env.cells names acc)
 | [],acc,_=>rfl
 | (n,k)::r,acc,h=>by
  have hr:=fun uJ=>Fl env r uJ fun y hy=>h y (List.mem_cons_of_mem _ hy)
  rw[List.forIn_cons]
  by_cases hk:k= .free
  ·subst hk
   obtain⟨c,e⟩:=h (n, .free) List.mem_cons_self rfl
   have e':cellOf env n=pure c:=by unfold cellOf;rw[e]
   have ec:cE env.cells ((n, .free)::r) acc=cE env.cells r ((n,c)::acc):=by simp[cE,e]
   rw[ec,←hr]
   simp[e']
  ·have hb:(k==NameKind.free)=false:=by simpa using hk
   have ec:cE env.cells ((n,k)::r) acc=cE env.cells r acc:=by simp[cE,hk]
   rw[ec,←hr]
   simp[hb]
theorem PF{scope:Scope}{env:Env}(h: ∀y∈scope.names,y.2= .free→ ∃c,env.cells.lookup y.1=some c):closureFor scope env=pure (cE env.cells scope.names []):=by
 have:=Fl env scope.names [] h
 simp only[closureFor]
 rw[←this]
 simp
theorem Fm{cells:List (Str×Addr)}: ∀(names:List (Str×NameKind)) (acc:List (Str×Addr)) (x:Str) (c:Addr),(cE cells names acc).lookup x=some c→(acc.lookup x=some c)∨((x, .free)∈names∧(cells.lookup x).getD 0=c)
 | [],acc,x,c,h=> .inl h
 | (n,k)::r,acc,x,c,h=>by
  simp only[cE] at h
  rcases Fm r _ x c h with z | ⟨z1,z2⟩
  ·by_cases hk:k= .free
   ·subst hk
    simp only[if_true] at z
    rw[List.lookup_cons] at z
    by_cases hx:x==n
    ·simp only[hx] at z
     have PH:x=n:=eq_of_beq hx
     subst PH
     exact .inr ⟨List.mem_cons_self,Option.some.inj z⟩
    ·have jk:(x==n)=false:=by simpa using hx
     simp only[jk] at z
     exact .inl z
   ·simp only[if_neg hk] at z
    exact .inl z
  ·exact .inr ⟨List.mem_cons_of_mem _ z1,z2⟩
theorem uK{cells:List (Str×Addr)}: ∀(names:List (Str×NameKind)) (acc:List (Str×Addr)) (x:Str),((x,NameKind.free)∈names∨ ∃c,acc.lookup x=some c)→ ∃c,(cE cells names acc).lookup x=some c
 | [],acc,x,h=>by
  rcases h with h | h
  ·cases h
  ·exact h
 | (n,k)::r,acc,x,h=>by
  simp only[cE]
  refine uK r _ x ?_
  rcases h with h | ⟨c,h⟩
  ·rcases List.mem_cons.mp h with e | h
   ·cases e
    refine .inr ?_
    simp[List.lookup_cons]
   ·exact .inl h
  ·refine .inr ?_
   by_cases hk:k= .free
   ·simp only[if_pos hk,List.lookup_cons]
    cases hx:x==n
    ·exact⟨c,h⟩
    ·exact⟨_,rfl⟩
   ·simp only[if_neg hk];exact⟨c,h⟩
theorem Fn{env:Env}: ∀(names:List (Str×NameKind)) (x:Str),
  (names.map fun(n,k)=>if (k==NameKind.free && env.scope.kind== .function && env.kindOf n==some .cell) then (n,NameKind.cell) else (n,k)).lookup x=
   (names.lookup x).map fun k=>if (k==NameKind.free && env.scope.kind== .function && env.kindOf x==some .cell) then NameKind.cell else k
 | [],_=>rfl
 | (n,k)::r,x=>by
  have ih:=Fn (env:=env) r x
  show List.lookup x ((if (k==NameKind.free && env.scope.kind== .function && env.kindOf n==some .cell)=true then (n,NameKind.cell) else (n,k))::_)=_
  cases hx:x==n with
  | true=>
   have e:x=n:=eq_of_beq hx
   subst e
   by_cases hc:(k==NameKind.free && env.scope.kind== .function && env.kindOf x==some .cell)=true
   ·rw[if_pos hc];simp only[List.lookup_cons,beq_self_eq_true,Option.map_some];rw[if_pos hc]
   ·rw[if_neg hc];simp only[List.lookup_cons,beq_self_eq_true,Option.map_some];rw[if_neg hc]
  | false=>
   by_cases hc:(k==NameKind.free && env.scope.kind== .function && env.kindOf n==some .cell)=true
   ·rw[if_pos hc];simp only[List.lookup_cons,hx];exact ih
   ·rw[if_neg hc];simp only[List.lookup_cons,hx];exact ih
section
variable {prog:Program} {w:World} {A:Around} {R:Result→Shared→Prop} {s:Shared}
theorem PJ{elt target iter:Expr}{ifs:List Expr}{scope:Scope}{pos:Pos}{it acc:Value}{env:Env}(I:Nat→Shared→Prop)
  (turn: ∀n s,I n s→wpAny (model prog w) A (pyNext it) (fun r s₁=>match r with
   | none=>R (.ok .next) s₁
   | some v=>wpAny (model prog w) A (letOwnedTupleGo target it v) (fun _ Fo=>wpAny (model prog w) A (assign target env v) (fun _ s₂=>
     wpAny (model prog w) A (forIn ifs true fun c r=>if r=true then do let ok ←isTrue c env (eval c env);pure (ForInStep.yield ok) else pure (ForInStep.yield r)) (fun ok s₃=>
      if ok=true then wpAny (model prog w) A (eval elt env) (fun x s₄=>
       wpAny (model prog w) A (call (.builtin "list.append") [acc,x]) (fun _ s₅=> ∃m,m<n∧I m s₅) (fun _ _=>False) s₄) (fun _ _=>False) s₃
      else ∃m,m<n∧I m s₃) (fun _ _=>False) s₂) (fun _ _=>False) Fo) (fun _ _=>False) s₁) (fun _ _=>False) s)
  (n:Nat) (h:I n s):codeAny (model prog w) A (.compLoop (.ListComp elt [⟨target,iter,ifs,0⟩] scope pos) 0 it acc env) R s:=by
 refine codeAny_loop rfl I (fun n s hI=> ?_) n h
 show wpAny _ A ((compTurn (.ListComp elt [⟨target,iter,ifs,0⟩] scope pos) 0 it acc env).onRaise (fun x=>do noteFrame x env;theTreesLotGoes x)) _ _ s
 refine wpAny_noted ?_
 rw[compTurn_list]
 refine wpAny_bind (wpAny_standAt (wpAny_bind (wpAny_mono (turn n s hI) (fun r s₁ h₁=> ?_) fun _ _ h'=>h'.elim)))
 cases r with
 | none=>exact wpAny_pure h₁
 | some v=>
  refine wpAny_bind (wpAny_mono h₁ (fun _ Fo PK=> ?_) fun _ _ h'=>h'.elim)
  refine wpAny_bind (wpAny_mono PK (fun _ s₂ h₂=>wpAny_bind (wpAny_mono h₂ (fun ok s₃ h₃=> ?_) fun _ _ h'=>h'.elim)) fun _ _ h'=>h'.elim)
  cases ok with
  | false=>exact wpAny_pure ⟨rfl,h₃⟩
  | true=>
   exact wpAny_bind (wpAny_bind (wpAny_mono h₃ (fun x s₄ h₄=>wpAny_bind (wpAny_mono h₄ (fun _ s₅ h₅=>wpAny_pure (wpAny_pure ⟨rfl,h₅⟩)) fun _ _ h'=>h'.elim)) fun _ _ h'=>h'.elim))
end
def ef(X:Cx)(scope:Scope)(N:List Str)(ex:List Addr)(C:Addr)(s:Shared)(H:Hp):Cx where
 prog:=X.prog
 w:=X.w
 K:=X.K
 mg:=X.mg
 base:=X.base
 A:=X.A
 N:=N
 s₀:=s
 H₀:=H
 env:=compEnvC scope (cE X.env.cells scope.names []) C X.env
 outer:=X.stack
 stack:=X.stack
 ex:=ex
 fn:=fun _=>false
 calm:=X.calm
 pn:=[]
 xe:=fun _ _=>False
structure gI (X:Cx) (scope:Scope) (ln:List Str) (fv:List (Str×Nat)):Prop where
 kind:scope.kind= .function
 Fp: ∀y∈scope.names,y.2≠ .cell
 locals: ∀y∈scope.names,y.2= .local→scope.names.lookup y.1=some .local
 free: ∀y∈scope.names,y.2= .free→(X.env.kindOf y.1=some .cell∨X.env.kindOf y.1=some .free)
 PL: ∀p∈fv,X.N[p.2]?=some p.1∧scope.names.lookup p.1=some .free
def cK(σ:St)(fv:List (Str×Nat)):St:=fv.map fun p=> (σ[p.2]?).join
def mf(K:PySem.W.Frag):Option Nat→V→Hp→(List V→Prop)→Prop
 | none,x,_,Q=>Q [x]
 | some n,x,H,Q=> ∃a xs,x= .ref a∧aX K H a xs∧xs.length=n∧Q xs
def nP:Option TT→TT
 | none=>fun _ H k=>k true H
 | some t=>t
def qg(K:PySem.W.Frag)(wi:TI)(tk:Option Nat)(fv:List (Str×Nat))(tc:Option TT)(te:TE):TE:=fun σ H Q=>
 wi σ H fun J H1=> ∃W:Nat→Nat→List V→Hp→Prop,(∃m,W 0 m [] H1)∧ ∀i m ys H2,W i m ys H2→
  (J.stop i H2∧ ∀p,H2 p=none→Q (.ref p) (upd H2 p (.lst ys)))∨
  (J.go i H2∧ ∀x H3,J.d9 i H2 x H3→mf K tk x H3 fun xs=>
   nP tc (xs.map some++cK σ fv) H3 fun b H5=>
    if b=true then te (xs.map some++cK σ fv) H5 fun y H6=>ys.length<sizeLine∧ ∃m',m'<m∧W (i+1) m' (ys++ [y]) H6
    else ∃m',m'<m∧W (i+1) m' ys H5)
section
variable {X:Cx} {pins:List (Addr×Obj)} {σ:St} {H:Hp} {s₂ s₃:Shared} {scope:Scope} {ln:List Str} {fv:List (Str×Nat)} {fp:List Addr} {h₁:Heap} {D C:Addr} {m:Str→Option Value} {t:Nat}
theorem gI.cells(S:gI X scope ln fv)(I:Inv X pins σ H s₂){x:Str}{c:Addr}(h:(cE X.env.cells scope.names []).lookup x=some c):X.env.cells.lookup x=some c∧(x,NameKind.free)∈scope.names:=by
 rcases Fm _ _ _ _ h with z | ⟨z1,z2⟩
 ·cases z
 ·obtain⟨c',e⟩:=I.ok.has x (S.free _ z1 rfl)
  rw[e] at z2
  have z3:c'=c:=z2
  subst z3
  exact⟨e,z1⟩
theorem gI.PM(S:gI X scope ln fv)(I:Inv X pins σ H s₂):closureFor scope X.env=pure (cE X.env.cells scope.names []):=
 PF fun y hy hk=>I.ok.has y.1 (S.free y hy hk)
theorem PN(S:gI X scope ln fv)(I:Inv X pins σ H s₂)(f2: ∀b∈fp,eI X pins H b)(nQ: ∀b∈fp,∃o,s₂.heap.get? b=some o)
  (os:s₃.os=s₂.os) (gens:s₃.gens=s₂.gens) (k3: ∀b o,s₂.heap.get? b=some o→s₃.heap.get? b=some o) (hD:D=s₂.heap.objs.size) (h3:s₃.heap.objs.size=s₂.heap.objs.size+1) (hC:C=s₃.heap.objs.size)
  (k4: ∀b o,s₃.heap.get? b=some o→h₁.get? b=some o) (qc:h₁.Ns C m):
  Inv (ef X scope (ln++fv.map (·.1)) (D::fp) C s₃ H) [] (ln.map (fun _=>none)++cK σ fv) H {s₃ with heap:=h₁,toks:=t}:=by
 have cl: ∀{x c},(cE X.env.cells scope.names []).lookup x=some c→X.env.cells.lookup x=some c:=fun h=> (S.cells I h).1
 have PQ: ∀{x c},(cE X.env.cells scope.names []).lookup x=some c→c<s₂.heap.objs.size:=fun h=>by
  obtain⟨v,q⟩:=I.cell _ _ (cl h)
  exact q.lt
 have PR: ∀b∈fp,b<s₂.heap.objs.size:=fun b hb=>by obtain⟨o,e⟩:=nQ b hb;exact Heap.lt_size e
 have PU: ∀b∈D::fp,b≤s₂.heap.objs.size:=fun b hb=>by
  rcases List.mem_cons.mp hb with e | hb
  ·rw[e,hD];exact Nat.le_refl _
  ·exact Nat.le_of_lt (PR b hb)
 have Fq: ∀x,(relabel scope X.env).names.lookup x=(scope.names.lookup x).map fun k=>if (k==NameKind.free && X.env.scope.kind== .function && X.env.kindOf x==some .cell) then NameKind.cell else k:=fun x=>Fn scope.names x
 have PV: ∀x,scope.names.lookup x=some .free→((relabel scope X.env).names.lookup x=some .cell∨(relabel scope X.env).names.lookup x=some .free):=fun x e=>by
  rw[Fq,e]
  simp only[Option.map_some]
  split
  ·exact .inl rfl
  ·exact .inr rfl
 have PX: ∀x,((relabel scope X.env).names.lookup x=some .cell∨(relabel scope X.env).names.lookup x=some .free)→(x,NameKind.free)∈scope.names:=fun x e=>by
  rw[Fq] at e
  cases q:scope.names.lookup x with
  | none=>rw[q] at e;rcases e with e | e<;>cases e
  | some k=>
   rw[q] at e
   have hm:(x,k)∈scope.names:=PySem.mem_of_lookup q
   simp only[Option.map_some] at e
   by_cases hk:k= .free
   ·rw[hk] at hm;exact hm
   ·have hb:(k==NameKind.free)=false:=by simpa using hk
    simp only[hb,Bool.false_and,Bool.false_eq_true,if_false] at e
    rcases e with e | e
    ·exact absurd (Option.some.inj e) (S.Fp _ hm)
    ·exact absurd (Option.some.inj e) hk
 refine⟨⟨I.ok.mod,S.kind,I.ok.glob,I.ok.blt,Nat.le_of_eq hC.symm,fun x y c h1 h2=>I.ok.inj x y c (cl h1) (cl h2),fun x hx=>uK _ _ x (.inl (PX x hx)),fun x c h _=> (by cases h),I.ok.hd,I.ok.frames, .inl rfl,fun b hb=> ⟨?_,fun x c e=> ?_⟩,fun b o e=> ⟨k3 b o (I.bs b o e).1,(I.bs b o e).2⟩, ?_,fun b o e hb=> ?_,fun b hb hf=> ?_, ?_,I.pG⟩,
  rfl, ?_,Un.kept fun b u e=>k4 b u e,⟨m,qc,fun i x v e1 e2 e3=> ?_⟩,fun x c e=> ?_,I.aG.fresh ?_,fun x c e=>I.gy x c (cl e),fun p hp=>absurd (show p∈ ([]:List (Addr×Obj)) from hp) (by simp),I.aG.kept fun b u e=>k4 b u (k3 b u e), ?_⟩
 ·show b≠C
  have:=PU b hb
  rw[hC,h3];exact Nat.ne_of_lt (Nat.lt_succ_of_le this)
 ·have q1:=PQ e
  rcases List.mem_cons.mp hb with z | z
  ·rw[z,hD];exact Nat.ne_of_lt q1
  ·exact(f2 b z).2.2.2.2.1 x c (cl e)
 ·show X.base.objs.size≤s₃.heap.objs.size
  have:=Nat.le_trans I.ok.lT I.sz
  omega
 ·have e2:=(I.bs b o e).1
  have uL:b∈D::fp:=hb
  rcases List.mem_cons.mp uL with z | z
  ·have:=Heap.lt_size e2
   rw[z,hD] at this;exact Nat.lt_irrefl _ this
  ·rcases (f2 b z).2.2.2.1 with q | q
   ·exact I.ok.tP b o e q
   ·exact absurd (Nat.lt_of_lt_of_le (Heap.lt_size (I.ok.bs b o e).1) q) (Nat.lt_irrefl _)
 ·have Fs:b∈bS X.stack:=hf
  have uL:b∈D::fp:=hb
  rcases List.mem_cons.mp uL with z | z
  ·rcases List.mem_cons.mp (I.pF b Fs) with q | q
   ·have:=I.lt
    rw[←q,z,hD] at this;exact Nat.lt_irrefl _ this
   ·exact I.DS (by rw[z,hD];exact Nat.le_refl _) q
  ·rcases List.mem_cons.mp (I.pF b Fs) with q | q
   ·exact(f2 b z).2.1 q
   ·exact(f2 b z).2.2.1 q
 ·exact PySem.Heap.FunFrames.of_keeps (fun b o e _=> ⟨o,k3 b o e,rfl⟩) I.stack
 ·show AllBare s₃.gens
  rw[gens];exact I.bare
 ·have hi:ln.length≤i:=by
   by_cases hi:i<ln.length
   ·exfalso
    rw[List.getElem?_append_left (by simpa using hi),List.getElem?_map] at e2
    cases q:ln[i]? with
    | none=>rw[q] at e2;cases e2
    | some y=>rw[q] at e2;cases e2
   ·omega
  have jl:(ln++fv.map (·.1))[i]?=some x:=e1
  rw[List.getElem?_append_right hi,List.getElem?_map] at jl
  rw[List.getElem?_append_right (by simpa using hi),List.length_map] at e2
  unfold cK at e2
  rw[List.getElem?_map] at e2
  cases q:fv[i - ln.length]? with
  | none=>rw[q] at jl;cases jl
  | some p=>
   rw[q] at jl e2
   have ex:p.1=x:=Option.some.inj jl
   have ev:(σ[p.2]?).join=some v:=Option.some.inj e2
   obtain⟨g1,g2⟩:=S.PL p (List.mem_of_getElem? q)
   rw[ex] at g1 g2
   have PY:σ[p.2]?=some (some v):=by
    cases z:σ[p.2]? with
    | none=>rw[z] at ev;cases ev
    | some o=>rw[z] at ev;rw[show o=some v from ev]
   have hk:=S.free _ (PySem.mem_of_lookup g2) rfl
   obtain⟨m2,h9,hl⟩:=I.loc
   obtain⟨u,r,l⟩:=hl p.2 x v g1 PY (by rcases hk with k | k;exact .inr (.inl k);exact .inr (.inr k))
   refine⟨u,r, .inr ?_⟩
   rcases l with⟨k,_⟩ | ⟨_,c,ec,z⟩
   ·rcases hk with k' | k'<;> (rw[k] at k';cases k')
   ·refine⟨PV x g2,c, ?_, ?_⟩
    ·obtain⟨c',e'⟩:=uK (cells:=X.env.cells) scope.names [] x (.inl (PySem.mem_of_lookup g2))
     have:=cl e'
     rw[ec] at this;cases this
     exact e'
    ·obtain⟨o,ho,hd⟩:=z
     exact⟨o,k4 c o (k3 c o ho),hd⟩
 ·obtain⟨v,o,ho,hd⟩:=I.cell x c (cl e)
  exact⟨v,o,k4 c o (k3 c o ho),hd⟩
 ·show s₂.heap.objs.size≤C
  rw[hC,h3];exact Nat.le_succ _
 ·show(ln.map (fun _=>none)++cK σ fv).length=(ln++fv.map (·.1)).length
  simp[cK]
end
structure Ft (Φ:Cx→Prop) (P:Program) (w:World) (K:PySem.W.Frag) (tg:Expr) (J:It) (fp:List Addr) (it:Addr) (tn:Nat→Heap→Prop):Prop where
 mem:it∈fp
 obj: ∀i h,tn i h→ ∀b∈fp,∃o,h.get? b=some o∧ ∀v,o.data≠ .cell v
 keep: ∀i h h',tn i h→(∀b∈fp,∀o,h.get? b=some o→h'.get? b=some o)→tn i h'
 item: ∀(X:Cx),X.prog=P→X.w=w→X.K=K→Φ X→ ∀(i:Nat) (pins:List (Addr×Obj)) (s:Shared) (σ:St) (H:Hp) (E:Value→Shared→Prop),Inv X pins σ H s→(∀b∈fp,eI X pins H b)→tn i s.heap→J.go i H→
  wpAny (model P w) X.A (pyNext (.ref it)) (fun r s1=> ∃u,r=some u∧
   wpAny (model P w) X.A (letOwnedTupleGo tg (.ref it) u) (fun _ s2=> ∃x H',Inv X pins σ H' s2∧RelV x u∧J.d9 i H x H'∧tn (i+1) s2.heap∧ ∀b∈fp,H' b=none) E s1) E s
 done: ∀(X:Cx),X.prog=P→X.w=w→X.K=K→Φ X→ ∀(i:Nat) (pins:List (Addr×Obj)) (s:Shared) (σ:St) (H:Hp) (E:Value→Shared→Prop),Inv X pins σ H s→(∀b∈fp,eI X pins H b)→tn i s.heap→J.stop i H→
  wpAny (model P w) X.A (pyNext (.ref it)) (fun r s1=>r=none∧Inv X pins σ H s1) E s
 self: ∀(A:Around) (i:Nat) (s:Shared) (Q:Value→Shared→Prop) (E:Value→Shared→Prop),tn i s.heap→Q (.ref it) s→wpAny (model P w) A (pyIter (.ref it)) Q E s
def Fu(Φ:Cx→Prop)(X:Cx)(tg iter:Expr)(wi:TI):Prop:=
 ∀(pins:List (Addr×Obj)) (s:Shared) (σ:St) (H:Hp) (R:It→Hp→Prop),Inv X pins σ H s→wi σ H R→
  wpAny (model X.prog X.w) X.A (eval iter X.env) (fun v s1=>wpAny (model X.prog X.w) X.A (pyIter v) (fun lW s2=>
   ∃(it:Addr) (fp:List Addr) (tn:Nat→Heap→Prop) (J:It) (H':Hp),lW= .ref it∧Inv X pins σ H' s2∧Ft Φ X.prog X.w X.K tg J fp it tn∧tn 0 s2.heap∧(∀b∈fp,eI X pins H' b)∧R J H') X.xe s1) X.xe s
abbrev Calm(X:Cx):Prop:=X.calm=true
theorem PI.p{X:Cx}{tg iter:Expr}{wi:TI}(h:PI X tg iter wi):Fu Calm X tg iter wi:=fun pins s σ H R I q=>
 aO (h pins s σ H R I q) fun v s1 h1=>aO h1 fun lW s2 ⟨it,fp,tn,J,H',e,I',T,st,f,r⟩=> ⟨it,fp,tn,J,H',e,I',⟨T.mem,T.obj,T.keep,T.item,T.done,T.self⟩,st,f,r⟩
section
variable {X:Cx} {pins:List (Addr×Obj)} {σ:St} {H:Hp} {s₂:Shared} {scope:Scope} {ln:List Str} {fv:List (Str×Nat)} {elt tg iter:Expr} {ifs:List Expr} {pos:Pos}
 {J:It} {fp:List Addr} {it:Addr} {tn:Nat→Heap→Prop} {tk:Option Nat} {tc:Option TT} {te:TE} {Qv:VK} {RR:Value→Addr→Result→Shared→Prop} {E:Value→Shared→Prop}
def Fv(Ψ:Hp→Prop)(X:Cx)(scope:Scope)(ln:List Str)(fv:List (Str×Nat))(tg:Expr)(tk:Option Nat):Prop:=
 ∀(ex:List Addr) (C:Addr) (s:Shared) (H:Hp),Ψ H→ ∃g,PG (ef X scope (ln++fv.map (·.1)) ex C s H) tg g∧
  ∀(x:V) (pre φ:St) (H':Hp) (Q:St→Hp→Prop),pre.length=ln.length→mf X.K tk x H' (fun xs=>xs.length=ln.length→Q (xs.map some++φ) H')→g x (pre++φ) H' Q
def qh(X:Cx)(scope:Scope)(ln:List Str)(fv:List (Str×Nat))(tg:Expr)(tk:Option Nat):Prop:=
 ∀(ex:List Addr) (C:Addr) (s:Shared) (H:Hp),∃g,PG (ef X scope (ln++fv.map (·.1)) ex C s H) tg g∧
  ∀(x:V) (pre φ:St) (H':Hp) (Q:St→Hp→Prop),pre.length=ln.length→mf X.K tk x H' (fun xs=>xs.length=ln.length→Q (xs.map some++φ) H')→g x (pre++φ) H' Q
def uM(X:Cx)(scope:Scope)(N:List Str)(ifs:List Expr)(tc:Option TT):Prop:=
 match tc with
 | none=>ifs=[]
 | some t=> ∃c,ifs=[c]∧ ∀(ex:List Addr) (C:Addr) (s:Shared) (H:Hp),PT (ef X scope N ex C s H) c t
theorem PZ{Φ:Cx→Prop}{Ψ:Hp→Prop}(S:gI X scope ln fv)(hc: ∀Xc:Cx,Xc.A=X.A→Xc.calm=X.calm→Xc.H₀=H→Φ Xc)(hΨ:Ψ H)(hg:Fv Ψ X scope ln fv tg tk)(ht:uM X scope (ln++fv.map (·.1)) ifs tc)
  (he: ∀(ex:List Addr) (C:Addr) (s:Shared) (H:Hp),PE (ef X scope (ln++fv.map (·.1)) ex C s H) elt te)
  (I:Inv X pins σ H s₂) (T:Ft Φ X.prog X.w X.K tg J fp it tn) (st:tn 0 s₂.heap) (f2: ∀b∈fp,eI X pins H b)
  (h: ∃W:Nat→Nat→List V→Hp→Prop,(∃m,W 0 m [] H)∧ ∀i m ys H2,W i m ys H2→
   (J.stop i H2∧ ∀p,H2 p=none→Qv (.ref p) (upd H2 p (.lst ys)))∨
   (J.go i H2∧ ∀x H3,J.d9 i H2 x H3→mf X.K tk x H3 fun xs=>
    nP tc (xs.map some++cK σ fv) H3 fun b H5=>
     if b=true then te (xs.map some++cK σ fv) H5 fun y H6=>ys.length<sizeLine∧ ∃m',m'<m∧W (i+1) m' (ys++ [y]) H6
     else ∃m',m'<m∧W (i+1) m' ys H5))
  (P0: ∀D C H' s' m,Inv X pins σ H' s'→s'.heap.Ns C m→H' C=none→C≠X.env.locals→X.s₀.heap.objs.size≤C→(∀x c,X.env.cells.lookup x=some c→c≠C)→(∀p∈X.pn++pins,p.1≠C)→Qv (.ref D) H'→RR (.ref D) C (.ok .next) s'):
  wpAny (model X.prog X.w) X.A (newList []) (fun acc s₃=>wpAny (model X.prog X.w) X.A (newFunctionEnv scope X.env.globals (cE X.env.cells scope.names []) [] X.env.qual none .none (some X.env)) (fun Fw s₄=>
   codeAny (model X.prog X.w) X.A (.compStart (.ListComp elt [⟨tg,iter,ifs,0⟩] scope pos) 0 (.ref it) acc {Fw with scope:=relabel scope X.env}) (RR acc Fw.locals) s₄) E s₃) E s₂:=by
 obtain⟨W,⟨m0,w0⟩,turn⟩:=h
 refine wpAny_newObj_type (wpAny_newFunctionEnv S.Fp (by intro y hy;simp at hy) (fun h₁ qj qk=> ?_) S.kind)
 dsimp only at qj qk⊢
 generalize qm:({s₂ with heap:=s₂.heap.push {cls:= .type "list",dict:=none,data:= .seq ([]:List Value).toArray}}:Shared)=s₃
 have fL:s₂.heap.push {cls:= .type "list",dict:=none,data:= .seq ([]:List Value).toArray}=s₃.heap:=by rw[←qm]
 rw[fL] at qj qk⊢
 have Fx:s₃.os=s₂.os:=by rw[←qm]
 have P4:s₃.gens=s₂.gens:=by rw[←qm]
 have jm:s₃.heap.objs.size=s₂.heap.objs.size+1:=by rw[←fL,Heap.size_push]
 have k3: ∀b o,s₂.heap.get? b=some o→s₃.heap.get? b=some o:=fun b o e=>by rw[←fL];exact Heap.get?_push_of_some _ e
 have k4: ∀b o,s₃.heap.get? b=some o→h₁.get? b=some o:=fun b o e=>qk.extBut b o (Nat.ne_of_lt (Heap.lt_size e)) (Heap.get?_push_of_some _ e)
 have gD:s₃.heap.get? s₂.heap.objs.size=some {cls:= .type "list",dict:=none,data:= .seq ([]:List Value).toArray}:=by rw[←fL];exact Heap.get?_push_size _ rfl
 generalize eD:s₂.heap.objs.size=D at gD
 generalize eC:s₃.heap.objs.size=C at qj qk⊢
 have qo:D≠C:=by rw[←eD,←eC,jm];exact Nat.ne_of_lt (Nat.lt_succ_self _)
 have nQ: ∀b∈fp,∃o,s₂.heap.get? b=some o:=fun b hb=>by obtain⟨o,e,_⟩:=T.obj 0 _ st b hb;exact⟨o,e⟩
 have Fy: ∀b∈fp,b≠D:=fun b hb=>by obtain⟨o,e⟩:=nQ b hb;rw[←eD];exact Nat.ne_of_lt (Heap.lt_size e)
 have P5: ∀b∈fp,b≠C:=fun b hb=>by
  obtain⟨o,e⟩:=nQ b hb
  have:=Heap.lt_size e
  rw[←eC,jm];exact Nat.ne_of_lt (Nat.lt_succ_of_lt this)
 generalize eX:ef X scope (ln++fv.map (·.1)) (D::fp) C s₃ H=Xc
 have I4: ∀t,Inv Xc [] (ln.map (fun _=>none)++cK σ fv) H {s₃ with heap:=h₁,toks:=t}:=fun t=>by
  rw[←eX]
  exact PN S I f2 nQ Fx P4 k3 eD.symm jm eC.symm k4 qj
 have xL:Xc.env.locals=C:=by rw[←eX];rfl
 have qp:Xc.ex=D::fp:=by rw[←eX];rfl
 have P6:Xc.fs=bS X.stack:=by rw[←eX];rfl
 have xP:Xc.prog=X.prog:=by rw[←eX];rfl
 have xw:Xc.w=X.w:=by rw[←eX];rfl
 have xK:Xc.K=X.K:=by rw[←eX];rfl
 have xA:Xc.A=X.A:=by rw[←eX];rfl
 have xc:Φ Xc:=hc Xc xA (by rw[←eX];rfl) (by rw[←eX];rfl)
 have Fz:Xc.pn=[]:=by rw[←eX];rfl
 have uN:Xc.xe=fun _ _=>False:=by rw[←eX];rfl
 have FA:Xc.env.cells=cE X.env.cells scope.names []:=by rw[←eX];rfl
 have uO:Xc.env=compEnvC scope (cE X.env.cells scope.names []) C X.env:=by rw[←eX];rfl
 have cD: ∀x c,Xc.env.cells.lookup x=some c→c≠D:=fun x c e=>by
  rw[FA] at e
  obtain⟨v,q⟩:=I.cell x c (S.cells I e).1
  rw[←eD];exact Nat.ne_of_lt q.lt
 have cF: ∀x c,Xc.env.cells.lookup x=some c→ ∀b∈fp,c≠b:=fun x c e b hb=>by
  rw[FA] at e
  exact(f2 b hb).2.2.2.2.1 x c (S.cells I e).1
 have sF: ∀b∈D::fp,b∉Xc.fs:=fun b hb hf=>by
  have:=(I4 0).ok.tQ b (by rw[qp];exact hb)
  exact this hf
 have i_: ∀{H':Hp} {oD:Obj},(∀b∈fp,H' b=none)→ ∀b∈fp,eI Xc [(D,oD)] H' b:=fun hn b hb=>
  ⟨hn b hb,by rw[xL];exact P5 b hb,sF b (List.mem_cons_of_mem _ hb), .inl (by rw[qp];exact List.mem_cons_of_mem _ hb),fun x c e=>cF x c e b hb,fun p hp=>by
   rw[Fz] at hp
   rcases List.mem_singleton.mp (show p∈ [(D,_)] from hp) with rfl
   exact(Fy b hb).symm⟩
 have loop: ∀s₄:Shared,s₄={s₃ with heap:=h₁,toks:=s₃.toks+ ([]:List (Str×Value)).length}→
   codeAny (model X.prog X.w) X.A (.compLoop (.ListComp elt [⟨tg,iter,ifs,0⟩] scope pos) 0 (.ref it) (.ref D) (compEnvC scope (cE X.env.cells scope.names []) C X.env)) (RR (.ref D) C) s₄:=by
  rintro s₄ rfl
  refine PJ (fun n s'=> ∃i pre ys its nn H',Inv Xc [(D,{cls:= .type "list",data:= .seq (List.toArray its) nn})] (pre++cK σ fv) H' s'∧pre.length=ln.length∧tn i s'.heap∧(∀b∈fp,H' b=none)∧Vals ys its∧ys.length≤sizeLine∧W i n ys H') ?_ m0
   ⟨0,ln.map (fun _=>none),[],[],0,H,(I4 _).lU (fun p hp=> ?_),by simp,T.keep 0 _ _ st (fun b _ o e=>k4 b o (k3 b o e)),fun b hb=> (f2 b hb).1, .nil,Nat.zero_le _,w0⟩
  rotate_left
  ·have uP:=List.mem_singleton.mp hp
   subst uP
   refine⟨k4 _ _ gD,I.aG.fresh (Nat.le_of_eq eD),by rw[xL];exact qo,sF D List.mem_cons_self,fun v z=>by cases z⟩
  rintro n s' ⟨i,pre,ys,its,nn,H',I',me,hV,FC,hv,hz,w'⟩
  have alB:=I'.pin (D,_) (List.mem_append_right _ List.mem_cons_self)
  rcases turn i n ys H' w' with⟨stop,qn⟩ | ⟨go,step⟩
  ·have td:=T.done Xc xP xw xK xc i _ s' _ H' (fun _ _=>False) I' (i_ FC) hV stop
   rw[xA] at td
   refine aO td fun r s1 ⟨hr,I1⟩=> ?_
   subst hr
   have uQ:=I1.pin (D,_) (List.mem_append_right _ List.mem_cons_self)
   have b1:=I1.base
   rw[P6,qp] at b1
   have FD:Xc.s₀=s₃:=by rw[←eX];rfl
   have P7:Xc.H₀=H:=by rw[←eX];rfl
   rw[FD,P7] at b1
   have nD: ∀b o,s₂.heap.get? b=some o→b∉fp→b∉D::fp:=fun b o e hb hm=>by
    rcases List.mem_cons.mp hm with z | z
    ·have:=Heap.lt_size e
     rw[z,eD] at this;exact Nat.lt_irrefl _ this
    ·exact hb z
   have un:Un (bS X.stack) fp H H' s₂.heap s1.heap:=⟨fun b o e nb hb hx=>b1.keep b o (k3 b o e) nb hb (nD b o e hx),fun b o e nb hb hx=>b1.slot b o (k3 b o e) nb hb (nD b o e hx),fun b o e nb hx=>b1.free b o (k3 b o e) nb (nD b o e hx),
    fun b o e hx=>b1.there b o (k3 b o e) (nD b o e hx),b1.b6,b1.dO,b1.d6⟩
   have P8:s1.os=s₂.os:=by rw[I1.os,FD,Fx]
   have FE:=I1.aG
   rw[xP,xw] at FE
   have J1:Inv X pins σ H' s1:=I.MJ P8 un FE I1.bare fun b hb=> ⟨(f2 b hb).2.2.2.1,(f2 b hb).2.1,(f2 b hb).2.2.2.2.1,(f2 b hb).2.2.2.2.2⟩
   have P9: ∀x c,X.env.cells.lookup x=some c→c≠D:=fun x c e=>by
    obtain⟨v,q⟩:=I.cell x c e
    rw[←eD];exact Nat.ne_of_lt q.lt
   have P_: ∀x c,X.env.cells.lookup x=some c→c≠C:=fun x c e=>by
    obtain⟨v,q⟩:=I.cell x c e
    rw[←eC,jm];exact Nat.ne_of_lt (Nat.lt_succ_of_lt q.lt)
   have pD: ∀p∈X.pn++pins,p.1≠D:=fun p hp=>by rw[←eD];exact Nat.ne_of_lt (Heap.lt_size (I.pin p hp).1)
   have pC: ∀p∈X.pn++pins,p.1≠C:=fun p hp=>by
    rw[←eC,jm];exact Nat.ne_of_lt (Nat.lt_succ_of_lt (Heap.lt_size (I.pin p hp).1))
   have lD:D≠X.env.locals:=by rw[←eD];exact Nat.ne_of_gt I.lt
   have lC:C≠X.env.locals:=by
    rw[←eC,jm];exact Nat.ne_of_gt (Nat.lt_succ_of_lt I.lt)
   have J2:Inv X pins σ (upd H' D (.lst ys)) s1:=Inv.Fj J1 uQ.2.1 (by rw[←eD];exact I.sz) lD P9 pD ⟨hz,its,nn,hv,uQ.1⟩
   obtain⟨mC,FF,_⟩:=I1.loc
   rw[xL] at FF
   have fC:H' C=none:=by have:=I1.free;rw[xL] at this;exact this
   exact P0 D C _ s1 mC J2 FF (by rw[aK (Ne.symm qo)];exact fC) lC (by rw[←eC,jm];exact Nat.le_succ_of_le I.sz) P_ pC (qn D uQ.2.1)
  ·have ti:=T.item Xc xP xw xK xc i _ s' _ H' (fun _ _=>False) I' (i_ FC) hV go
   rw[xA] at ti
   refine aO ti fun r s4 ⟨u,hr,h4⟩=> ?_
   subst hr
   refine aO h4 fun _ s5 ⟨x,H5,I5,r5,y5,ja,ua⟩=> ?_
   have ub:=I5.pinned (i_ ua) (T.obj _ _ ja)
   obtain⟨g,pg,gq⟩:=hg (D::fp) C s₃ H hΨ
   rw[eX] at pg
   have rd:=step x H5 y5
   have FG:=pg _ s5 _ H5 x u (fun σ6 H6=> ∃xs:List V,σ6=xs.map some++cK σ fv∧xs.length=ln.length∧H6=H5∧
     nP tc (xs.map some++cK σ fv) H5 fun b H5=>
     if b=true then te (xs.map some++cK σ fv) H5 fun y H6=>ys.length<sizeLine∧ ∃m',m'<n∧W (i+1) m' (ys++ [y]) H6
     else ∃m',m'<n∧W (i+1) m' ys H5) ub r5 (gq x pre (cK σ fv) H5 _ me (by
      cases tk with
      | none=>exact fun hl=> ⟨_,rfl,hl,rfl,rd⟩
      | some k=>
       obtain⟨a,xs,e1,e2,e3,rd⟩:=rd
       exact⟨a,xs,e1,e2,e3,fun hl=> ⟨xs,rfl,hl,rfl,rd⟩⟩))
   rw[xA,xP,xw,uN,uO] at FG
   refine aO FG fun _ s6 ⟨σ6,H6,I6,xs,e6,FH,eH,FI⟩=> ?_
   subst e6 eH
   have FJ: ∀{H7:Hp} {σ7:St} {s7:Shared},Inv Xc ([(D,{cls:= .type "list",data:= .seq (List.toArray its) nn})]++lX fp s5.heap) σ7 H7 s7→tn (i+1) s7.heap∧(∀b∈fp,H7 b=none)∧s7.heap.get? D=some {cls:= .type "list",data:= .seq (List.toArray its) nn}∧H7 D=none:=fun {H7 σ7 s7} I7=>by
    refine⟨T.keep _ _ _ ja fun b hb o e=> (I7.pin (b,o) (List.mem_append_right _ (List.mem_append_right _ (pO hb e)))).1,fun b hb=> ?_, ?_, ?_⟩
    ·obtain⟨o,e,d⟩:=T.obj _ _ ja b hb
     exact(I7.pin (b,o) (List.mem_append_right _ (List.mem_append_right _ (pO hb e)))).2.1
    ·exact(I7.pin (D,_) (List.mem_append_right _ (List.mem_append_left _ List.mem_cons_self))).1
    ·exact(I7.pin (D,_) (List.mem_append_right _ (List.mem_append_left _ List.mem_cons_self))).2.1
   have tests:wpAny (model X.prog X.w) X.A (forIn ifs true fun c r=>if r=true then do let ok ←isTrue c (compEnvC scope (cE X.env.cells scope.names []) C X.env) (eval c (compEnvC scope (cE X.env.cells scope.names []) C X.env));pure (ForInStep.yield ok) else pure (ForInStep.yield r))
     (fun ok s7=> ∃H7,Inv Xc ([(D,{cls:= .type "list",data:= .seq (List.toArray its) nn})]++lX fp s5.heap) (xs.map some++cK σ fv) H7 s7∧
      if ok=true then te (xs.map some++cK σ fv) H7 fun y H6=>ys.length<sizeLine∧ ∃m',m'<n∧W (i+1) m' (ys++ [y]) H6
      else ∃m',m'<n∧W (i+1) m' ys H7) (fun _ _=>False) s6:=by
    cases tc with
    | none=>
     have uR:ifs=[]:=ht
     subst uR
     exact wpAny_tests_nil ⟨_,I6,FI⟩
    | some t=>
     obtain⟨c,uR,pt⟩:=(show ∃c,ifs=[c]∧ ∀(ex:List Addr) (C:Addr) (s:Shared) (H:Hp),PT (ef X scope (ln++fv.map (·.1)) ex C s H) c t from ht)
     subst uR
     have FK:=pt (D::fp) C s₃ H
     rw[eX] at FK
     have q:=FK _ s6 _ _ _ I6 FI
     rw[xA,xP,xw,uN,uO] at q
     exact wpAny_tests_one (aO q fun b s7 ⟨H7,I7,q7⟩=> ⟨H7,I7,q7⟩)
   refine aO tests fun ok s7 ⟨H7,I7,q7⟩=> ?_
   cases ok with
   | false=>
    simp only[Bool.false_eq_true,if_false] at q7⊢
    obtain⟨m',hm,w7⟩:=q7
    obtain⟨t7,f7,d7,n7⟩:=FJ I7
    refine⟨m',hm,i+1,xs.map some,ys,its,nn,H7,I7.lU (fun p hp=> ?_),by simpa using FH,t7,f7,hv,hz,w7⟩
    exact I7.pin p (List.mem_append_right _ (List.mem_append_left _ hp))
   | true=>
    simp only[if_true] at q7⊢
    have q:=he (D::fp) C s₃ H
    rw[eX] at q
    have q:=q _ s7 _ H7 _ I7 q7
    rw[xA,xP,xw,uN,uO] at q
    refine aO q fun uy s8 ⟨y,H8,I8,r8,bc,m',hm,w8⟩=> ?_
    obtain⟨t8,f8,d8,n8⟩:=FJ I8
    have hl:=hv.length
    refine call_meets F.slot_list_append ⟨_,d8,rfl⟩ F.entry_list_append (F.args_list_append_2 _ _) (PySem.list_append D its.toArray nn uy (by rw[List.size_toArray];omega)) ⟨d8, ?_⟩
    have I9: ∀t,Inv Xc [] (xs.map some++cK σ fv) H8 {s8 with heap:=s8.heap.update D (Obj.mapSeq (·.push uy)),toks:=t}:=fun t=>
     (I8.lU (tS:=[]) (fun p hp=>absurd hp (by simp))).turned (it:=D) (t':=t) (fun b o hb e=> (Heap.get?_update_other s8.heap (Obj.mapSeq (·.push uy)) (Ne.symm hb)).trans e) n8 (by rw[xL];exact qo) (.inl (by rw[qp];exact List.mem_cons_self)) cD
      (fun p hp=>by rw[Fz] at hp;exact absurd hp (by simp))
    have g9:=PySem.IsL.update d8 (·.push uy)
    obtain⟨n9,Qa⟩: ∃n9,(s8.heap.update D (Obj.mapSeq (·.push uy))).get? D=some {cls:= .type "list",data:= .seq (its++ [uy]).toArray n9}:=
     ⟨_,by rw[show(its++ [uy]).toArray=its.toArray.push uy by simp];exact g9⟩
    refine⟨m',hm,i+1,xs.map some,ys++ [y],its++ [uy],n9,H8,(I9 _).lU (fun p hp=> ?_),by simpa using FH, ?_,f8,hv.append (.cons r8 .nil), ?_,w8⟩
    ·have uP:=List.mem_singleton.mp hp
     subst uP
     exact⟨Qa,n8,by rw[xL];exact qo,sF D List.mem_cons_self,fun v z=>by cases z⟩
    ·exact T.keep _ _ _ t8 fun b hb o e=> (Heap.get?_update_other s8.heap (Obj.mapSeq (·.push uy)) (Ne.symm (Fy b hb))).trans e
    ·rw[List.length_append,List.length_singleton];omega
 have Qc:tn 0 h₁:=T.keep 0 _ _ st fun b _ o e=>k4 b o (k3 b o e)
 have e4:({s₂ with heap:=h₁,toks:=s₂.toks+ ([]:List (Str×Value)).length}:Shared)={s₃ with heap:=h₁,toks:=s₃.toks+ ([]:List (Str×Value)).length}:=by rw[←qm]
 exact codeAny_compStart_list (loop _ e4) (T.self X.A 0 _ _ _ Qc (loop _ e4))
end
section
variable {X:Cx} {scope:Scope} {ln:List Str} {fv:List (Str×Nat)} {elt tg iter:Expr} {ifs:List Expr} {pos:Pos} {wi:TI} {tk:Option Nat} {tc:Option TT} {te:TE}
theorem Qd{Φ:Cx→Prop}{Ψ:Hp→Prop}(S:gI X scope ln fv)(hc: ∀H,Ψ H→ ∀Xc:Cx,Xc.A=X.A→Xc.calm=X.calm→Xc.H₀=H→Φ Xc)(hΨ: ∀pins σ H s,Inv X pins σ H s→Ψ H)(hi:Fu Φ X tg iter wi)(hg:Fv Ψ X scope ln fv tg tk)(ht:uM X scope (ln++fv.map (·.1)) ifs tc)
  (he: ∀(ex:List Addr) (C:Addr) (s:Shared) (H:Hp),PE (ef X scope (ln++fv.map (·.1)) ex C s H) elt te) (hs: ∀x,foldedSetIterable iter X.env x=pure x:=by intro _;rfl):
  PE X (.ListComp elt [⟨tg,iter,ifs,0⟩] scope pos) (qg X.K wi tk fv tc te):=by
 intro pins s σ H Q I h
 rw[eval_ListComp]
 refine wpAny_comprehension_free (use:=none) rfl hs (S.PM I) S.kind S.locals (aO (hi pins s σ H _ I h) fun v s1 h1=>aO h1 fun lW s2 h2=> ?_)
 obtain⟨it,fp,tn,J,H2,e,I2,T,t_,f2,hW⟩:=h2
 subst e
 refine PZ (RR:=fun acc C=>compPost (model X.prog X.w) X.A X.xe none (EP X pins σ Q) acc C) S (hc H2 (hΨ _ _ _ _ I2)) (hΨ _ _ _ _ I2) hg ht he I2 T t_ f2 hW ?_
 intro D C H' s' m I' ns hn hL h0 Qe hp q
 refine⟨m,ns,fun h' sb=> ⟨.ref D,H', ?_,rfl,q⟩⟩
 exact I'.turned (it:=C) (t':=s'.toks) (fun b o hb e=>sb.extBut b o hb e) hn hL (.inr h0) Qe hp
theorem Qf(S:gI X scope ln fv)(hc:X.calm=true)(hi:PI X tg iter wi)(hg:qh X scope ln fv tg tk)(ht:uM X scope (ln++fv.map (·.1)) ifs tc)
  (he: ∀(ex:List Addr) (C:Addr) (s:Shared) (H:Hp),PE (ef X scope (ln++fv.map (·.1)) ex C s H) elt te) (hs: ∀x,foldedSetIterable iter X.env x=pure x:=by intro _;rfl):
  PE X (.ListComp elt [⟨tg,iter,ifs,0⟩] scope pos) (qg X.K wi tk fv tc te):=
 Qd (Φ:=Calm) (Ψ:=fun _=>True) S (fun _ _ Xc _ e _=>e.trans hc) (fun _ _ _ _ _=>trivial) hi.p (fun ex C s H _=>hg ex C s H) ht he hs
end
section
variable {X:Cx} {scope:Scope} {fv:List (Str×Nat)}
theorem Qg{x:Str}{px:Pos}(hl:scope.names.lookup x=some .local)(qt:(x::fv.map (·.1)).Nodup):qh X scope [x] fv (.Name x px) none:=by
 intro ex C s H
 have Qh:Loc (ef X scope ([x]++fv.map (·.1)) ex C s H).env.scope x:= .inl (lookup_relabel_local hl)
 refine⟨dQ 0,pK (X:=ef X scope ([x]++fv.map (·.1)) ex C s H) qt rfl Qh (.inr (lookup_relabel_local hl)),fun v pre φ H' Q hp h=> ?_⟩
 obtain⟨a,rfl⟩: ∃a,pre=[a]:=by
  match pre,hp with
  | [a],_=>exact⟨a,rfl⟩
 exact h rfl
theorem Qi{x y:Str}{px py pos:Pos}{k:Nat}(hc:X.calm=true)(hx:scope.names.lookup x=some .local)(hy:scope.names.lookup y=some .local)(qt:(x::y::fv.map (·.1)).Nodup):qh X scope [x,y] fv (.Tuple [.Name x px, .Name y py] k pos) (some 2):=by
 intro ex C s H
 generalize eX:ef X scope ([x,y]++fv.map (·.1)) ex C s H=Xc
 have xN:Xc.N=x::y::fv.map (·.1):=by rw[←eX];rfl
 have xc:Xc.calm=true:=by rw[←eX];exact hc
 have lx:Xc.env.scope.names.lookup x=some .local:=by rw[←eX];exact lookup_relabel_local hx
 have ly:Xc.env.scope.names.lookup y=some .local:=by rw[←eX];exact lookup_relabel_local hy
 have p1:PG Xc (.Name x px) (dQ 0):=pK (by rw[xN];exact qt) (by rw[xN];rfl) (.inl lx) (.inr lx)
 have p2:PG Xc (.Name y py) (dQ 1):=pK (by rw[xN];exact qt) (by rw[xN];rfl) (.inl ly) (.inr ly)
 have xK:Xc.K=X.K:=by rw[←eX];rfl
 refine⟨Ef Xc.K 2 (pL (dQ 0) (pL (dQ 1) tY)),Eg xc (tZ p1 (tZ p2 Ee)),fun v pre φ H' Q hp h=> ?_⟩
 obtain⟨a,b,rfl⟩: ∃a b,pre=[a,b]:=by
  match pre,hp with
  | [a,b],_=>exact⟨a,b,rfl⟩
 obtain⟨a',xs,rfl,e2,e3,q⟩:=h
 obtain⟨v1,v2,rfl⟩: ∃v1 v2,xs=[v1,v2]:=by
  match xs,e3 with
  | [v1,v2],_=>exact⟨v1,v2,rfl⟩
 exact⟨a',_,rfl,by rw[xK];exact e2,rfl,v1,_,rfl,v2,_,rfl,rfl,q rfl⟩
end
section
variable {X:Cx}
theorem bf.imp{f:Value→Value→Sem Value}{r r':R2}(h:bf X f r)(i: ∀x y H Q,r' x y H Q→r x y H Q):bf X f r':=fun pins s σ H x y v u Q I rx ry q=>h pins s σ H x y v u Q I rx ry (i _ _ _ _ q)
theorem bT.imp{f:Value}{r r':List V→Hp→VK→Prop}(h:bT X f r)(i: ∀xs H Q,r' xs H Q→r xs H Q):bT X f r':=fun pins s σ H xs us Q I rv q=>h pins s σ H xs us Q I rv (i _ _ _ q)
def FL(K:PySem.W.Frag):R2:=fun x y H Q=>match x,y with
 | .int i, .int j=>Q (.int (i+j)) H
 | .str i, .str j=>i.length+j.length≤sizeLine∧Q (.str (i++j)) H
 | .ref l, .ref b=>Fb (.ref l) (.ref b) H Q∨E1 K (.ref l) (.ref b) H Q
 | _,_=>False
theorem Qj:bf X (binaryOp .Add) (FL X.K):=by
 refine bf.imp ((Nn.or NQ).or (Pb.or OG)) fun x y H Q h=> ?_
 cases x<;>cases y<;>first
  | exact False.elim h
  | exact .inl (.inl ⟨_,_,rfl,rfl,h⟩)
  | exact .inl (.inr ⟨_,_,rfl,rfl,h⟩)
  | exact .inr h
def fM(C:Int→Int→Prop)(g:Int→Int→V):R2:=fun x y H Q=>match x,y with
 | .int i, .int j=>C i j∧Q (g i j) H
 | _,_=>False
theorem uS{C:Int→Int→Prop}{g:Int→Int→V}(x y:V)(H:Hp)(Q:VK)(h:fM C g x y H Q):rI C g x y H Q:=by
 cases x<;>cases y<;>first
  | exact False.elim h
  | exact⟨_,_,rfl,rfl,h⟩
theorem nR{g:Int→Int→V}(x y:V)(H:Hp)(Q:VK)(h:fM (fun _ _=>True) g x y H Q):gA g x y H Q:=by
 cases x<;>cases y<;>first
  | exact False.elim h
  | exact⟨_,_,rfl,rfl,h.2⟩
def uT:R2:=fun x y H Q=>match x,y with
 | .int i, .int j=>pS i j∧Q (.int (i*j)) H
 | .ref l, .int k=>Fc (.ref l) (.int k) H Q
 | _,_=>False
theorem Qk:bf X (binaryOp .Mult) uT:=by
 refine bf.imp (Nq.or Pd) fun x y H Q h=> ?_
 cases x<;>cases y<;>first
  | exact False.elim h
  | exact .inl ⟨_,_,rfl,rfl,h⟩
  | exact .inr h
def mh(K:PySem.W.Frag):Operator→R2
 | .Add=>FL K
 | .Sub=>fM (fun _ _=>True) fun i j=> .int (i - j)
 | .Mult=>uT
 | .FloorDiv=>fM ud fun i j=> .int (i / j)
 | .Mod=>fM (fun _ j=>0<j) fun i j=> .int (i % j)
 | .Pow=>fM Et fun i j=> .int (i ^ j.toNat)
 | _=>fun _ _ _ _=>False
theorem Ql(op:Operator):bf X (binaryOp op) (mh X.K op):=by
 cases op<;>first
  | exact Qj
  | exact bf.imp Np nR
  | exact Qk
  | exact bf.imp Nr uS
  | exact bf.imp Nt uS
  | exact bf.imp Nu uS
  | exact fun _ _ _ _ _ _ _ _ _ _ _ _ h=>False.elim h
mutual
def Is(H:Hp):PyData→V→Prop
 | .none,v=>v= .av
 | .bool b,v=>v= .bl b
 | .int i,v=>v= .int i
 | .str x,v=>v= .str x
 | .list xs,v=> ∃a vs,v= .ref a∧H a=some (.lst vs)∧IsL H xs vs
 | .tuple xs,v=> ∃a vs,v= .ref a∧H a=some (.tup vs)∧IsL H xs vs
 | .dict _,_=>False
def IsL(H:Hp):List PyData→List V→Prop
 | [],vs=>vs=[]
 | d::ds,vs=> ∃v r,vs=v::r∧Is H d v∧IsL H ds r
end
mutual
theorem Is.reads{pins:List (Addr×Obj)}{σ:St}{H:Hp}{s:Shared}(I:Inv X pins σ H s): ∀(d:PyData) (v:V) (u:Value),Is H d v→RelV v u→ ∃as,Reads s.heap u d as
 | .none,v,u,h,r=>by rw[show v= .av from h] at r;rw[show u= .none from r];exact⟨_, .none⟩
 | .bool b,v,u,h,r=>by rw[show v= .bl b from h] at r;rw[show u= .bool b from r];exact⟨_, .bool b⟩
 | .int i,v,u,h,r=>by rw[show v= .int i from h] at r;obtain⟨t,e⟩:=r;rw[e];exact⟨_, .int i t⟩
 | .str x,v,u,h,r=>by rw[show v= .str x from h] at r;obtain⟨t,e⟩:=r;rw[e];exact⟨_, .str x t⟩
 | .list xs,v,u,h,r=>by
  obtain⟨a,vs,e,hH,hl⟩:=(show ∃a vs,v= .ref a∧H a=some (.lst vs)∧IsL H xs vs by simpa only[Is] using h)
  rw[e] at r
  rw[show u= .ref a from r]
  obtain⟨_,its,n,hv,hg⟩:=I.aG a _ hH
  obtain⟨as,q⟩:=IsL.reads I xs vs its hl hv
  exact⟨_, .list hg rfl rfl (by simpa using q)⟩
 | .tuple xs,v,u,h,r=>by
  obtain⟨a,vs,e,hH,hl⟩:=(show ∃a vs,v= .ref a∧H a=some (.tup vs)∧IsL H xs vs by simpa only[Is] using h)
  rw[e] at r
  rw[show u= .ref a from r]
  obtain⟨_,its,hv,o,hg,hc,n,hd⟩:=I.aG a _ hH
  obtain⟨as,q⟩:=IsL.reads I xs vs its hl hv
  exact⟨_, .tuple hg hc hd (by simpa using q)⟩
 | .dict _,v,u,h,r=>by simp only[Is] at h
theorem IsL.reads{pins:List (Addr×Obj)}{σ:St}{H:Hp}{s:Shared}(I:Inv X pins σ H s): ∀(ds:List PyData) (vs:List V) (us:List Value),IsL H ds vs→Vals vs us→ ∃as,ReadsAll s.heap us ds as
 | [],vs,us,h,r=>by
  rw[show vs=[] from h] at r
  cases r
  exact⟨_, .nil⟩
 | d::ds,vs,us,h,r=>by
  obtain⟨v,q,e,h1,h2⟩:=(show ∃v r,vs=v::r∧Is H d v∧IsL H ds r by simpa only[IsL] using h)
  rw[e] at r
  cases r with
  | cons r1 r2=>
   obtain⟨as,q1⟩:=Is.reads I d v _ h1 r1
   obtain⟨bs,q2⟩:=IsL.reads I ds q _ h2 r2
   exact⟨_, .cons q1 q2⟩
end
def Qm:V→Bool
 | .hJ _=>false
 | .di _=>false
 | _=>true
def Qn:R2:=fun x y H Q=> ∃a b xs,x= .ref a∧y= .ref b∧H a=some (.lst xs)∧H b=some (.lst xs)∧xs.all Qm=true∧Q (.bl true) H
def jn(neg:Bool):R2:=fun x y H Q=>match jb x y with
 | true=>Q (.bl (neg ^^ decide (x=y))) H
 | false=> ∃d e,Is H d x∧Is H e y∧SeqAt.shaped d=true∧SeqAt.shaped e=true∧Q (.bl (neg ^^ PyData.eqv d e)) H
def Qo:R2:=fun x y H Q=>jn false x y H Q∨Qn x y H Q
theorem Qp(hu:X.A.units+64<cLine):bf X (compareOp .Eq) (jn false):=by
 intro pins s σ H x y v u Q I rx ry h
 unfold jn at h
 by_cases hs:jb x y=true
 ·rw[hs] at h
  simp only[Bool.false_xor] at h
  exact Nz pins s σ H x y v u Q I rx ry ⟨hs,h⟩
 ·rw[show jb x y=false by simpa using hs] at h
  obtain⟨d,e,h1,h2,h3,h4,q⟩:=h
  rw[Bool.false_xor] at q
  obtain⟨as,r1⟩:=Is.reads I d x v h1 rx
  obtain⟨bs,r2⟩:=Is.reads I e y u h2 ry
  exact eq_dataH r1 r2 h3 h4 hu ⟨.bl _,H,I,rfl,q⟩
theorem Qq(hu:X.A.units+64<cLine):bf X (compareOp .NotEq) (jn true):=by
 intro pins s σ H x y v u Q I rx ry h
 unfold jn at h
 by_cases hs:jb x y=true
 ·rw[hs] at h
  simp only[Bool.true_xor] at h
  exact NA pins s σ H x y v u Q I rx ry ⟨hs,h⟩
 ·rw[show jb x y=false by simpa using hs] at h
  obtain⟨d,e,h1,h2,h3,h4,q⟩:=h
  rw[Bool.true_xor] at q
  obtain⟨as,r1⟩:=Is.reads I d x v h1 rx
  obtain⟨bs,r2⟩:=Is.reads I e y u h2 ry
  exact ne_dataH r1 r2 h3 h4 hu ⟨.bl _,H,I,rfl,q⟩
theorem Qr(l:Addr)(o:Obj)(es:Array DictEntry)(ep:Nat)(hc:o.cls= .type "dict")(hd:o.data= .dict es ep)(b:Str)(u:Tok):
  Meets (Builtin.«dict.__eq__» ⟨[.ref l, .str b u],[]⟩) (fun _ R s=>s.heap.get? l=some o∧R (.ok (.ret .notImplemented)) s):=
 .of_wp fun prog w A R s h=>by obtain⟨hp,g,d,tk,os⟩:=s;obtain⟨hl,h⟩:=h;obtain⟨cls,dd,data,sl⟩:=o;simp only at hc hd;subst hc hd;have f1:=F.sub_str_dict;wp_walk using AutoSeq1.wpAny_loadPart' hl;exact⟨_,rfl,h⟩
theorem Qs(b:Str)(u:Tok)(l:Addr)(o:Obj)(es:Array DictEntry)(ep:Nat)(hc:o.cls= .type "dict")(hd:o.data= .dict es ep):
  Meets (Builtin.«str.__eq__» ⟨[.str b u, .ref l],[]⟩) (fun _ R s=>s.heap.get? l=some o∧R (.ok (.ret .notImplemented)) s):=
 .of_wp fun prog w A R s h=>by obtain⟨hp,g,d,tk,os⟩:=s;obtain⟨hl,h⟩:=h;obtain⟨cls,dd,data,sl⟩:=o;simp only at hc hd;subst hc hd;wp_walk using AutoSeq1.wpAny_loadPart' hl,wpAny_load hl;exact⟨_,rfl,h⟩
theorem Qt{A:Around}{s:Shared}{l:Addr}{o:Obj}{es:Array DictEntry}{ep:Nat}(b:Str)(u:Tok)(ho:s.heap.get? l=some o)(hc:o.cls= .type "dict")(hd:o.data= .dict es ep)(hu:A.units<cLine):SeqAt.EqAt A s (.str b u) (.ref l) false:=fun prog w E Q h=>by
 have rc:SeqAt.RcAt A s (.str b u) (.ref l) false:=fun prog w E Q h=>
  SeqAt.rc_eq_decline_or (k:=false) (typeIs_str s b u) ⟨_,ho,hc⟩ (by decide) F.sub_dict_str F.slot_str_eq F.slot_dict_eq_refl
   (fun _ hq=>call_meets F.slot_str_eq (typeIs_str s b u) F.entry_str_eq (F.args_str_eq_2 _ _) (Qs b u l o es ep hc hd) ⟨ho,hq⟩)
   (fun _ hq=>call_meets F.slot_dict_eq_refl ⟨_,ho,hc⟩ F.entry_dict_eq (F.args_dict_eq_2 _ _) (Qr l o es ep hc hd b u) ⟨ho,hq⟩)
   (fun _ hq=>wpAny_of_eq (rfl:isSame (.str b u) (.ref l)=pure false) hq) (.inr hu) h
 unfold eqBool
 refine wpAny_holding ?_
 refine wpAny_ite_split (fun uU=>absurd (eq_of_beq uU) nofun) (fun _=> ?_)
 exact wpAny_bind (rc prog w E _ (wpAny_truthy_bool h))
def FN(K:PySem.W.Frag)(H:Hp)(a:Addr):Prop:=(∃xs,aC K H a xs)∨(∃xs,aX K H a xs)∨ ∃aJ,H a=some (.dK aJ)
theorem nS{pins:List (Addr×Obj)}{σ:St}{H:Hp}{s:Shared}{a:Addr}(I:Inv X pins σ H s)(hc:FN X.K H a)(hu:X.A.units+64<cLine): ∀{ts:List Str} {us:List Value},Vals (ts.map V.str) us→ ∀u∈us,SeqAt.EqAt X.A.in1 s u (.ref a) false
 | [],_, .nil=>fun u hu=>by cases hu
 | t::ts,u::us, .cons r rs=>fun u' uV=>by
  rcases List.mem_cons.mp uV with rfl | uV
  ·obtain⟨k,rfl⟩:=(show ∃k,_=Value.str t k from r)
   have uW:X.A.in1.units<cLine:=by show X.A.units+1<cLine;omega
   rcases hc with⟨xs,hc⟩ | ⟨xs,hc⟩ | ⟨aJ,hc⟩
   ·obtain⟨its,_,pl,_⟩:=I.list hc
    exact SeqAt.EqAt.str_list t k pl.isList uW
   ·obtain⟨its,_,pl,_⟩:=I.tuple hc
    exact SeqAt.EqAt.str_tuple t k pl uW
   ·obtain⟨_,_,vs,_,o,es,ep,ho,hx,hd,_⟩:=(show cq X.prog X.w H s.heap a (.dK aJ) from I.aG a _ hc)
    exact Qt t k ho hx.1 hd uW
  ·exact nS I hc hu rs u' uV
def qu(K:PySem.W.Frag)(neg:Bool):R2:=fun x y H Q=>match y with
 | .str j=> ∃i,x= .str i∧Q (.bl (if neg then !(!(Builtin.Str.occurrences j i 0 j.length 1).isEmpty) else !(Builtin.Str.occurrences j i 0 j.length 1).isEmpty)) H
 | .ref p=>match x with
  | .ref a=> ∃ts:List Str,(aC K H p (ts.map V.str)∨aX K H p (ts.map V.str))∧FN K H a∧Q (.bl neg) H
  | x=>uz K neg x (.ref p) H Q
 | _=>False
theorem Qu(hu:X.A.units+64<cLine):bf X (compareOp .In) (qu X.K false):=by
 intro pins s σ H x y v u Q I rx ry h
 cases y with
 | str j=>
  obtain⟨i,e,q⟩:=h
  exact NH pins s σ H x _ v u Q I rx ry ⟨i,j,e,rfl,q⟩
 | ref p=>
  cases x with
  | ref a=>
   obtain⟨ts,hq,hc,q⟩:=h
   cases rx
   cases ry
   rcases hq with hq | hq
   ·obtain⟨its,r,pl,hz⟩:=I.list hq
    refine SeqAt.in_listAt (fun _=>false) pl.isList (fun w hw=>nS I hc hu r w (by simpa using hw)) ⟨.bl _,H,I,rfl, ?_⟩
    rw[show(its.toArray.any fun _=>false)=false by simp];exact q
   ·obtain⟨its,r,pl,hz⟩:=I.tuple hq
    refine SeqAt.in_tupleAt (fun _=>false) pl (fun w hw=>nS I hc hu r w (by simpa using hw)) ⟨.bl _,H,I,rfl, ?_⟩
    rw[show(its.toArray.any fun _=>false)=false by simp];exact q
  | _=>exact OR pins s σ H _ _ v u Q I rx ry h
 | _=>exact False.elim h
theorem Qw(hu:X.A.units+64<cLine):bf X (compareOp .NotIn) (qu X.K true):=by
 intro pins s σ H x y v u Q I rx ry h
 cases y with
 | str j=>
  obtain⟨i,e,q⟩:=h
  exact NL pins s σ H x _ v u Q I rx ry ⟨i,j,e,rfl,q⟩
 | ref p=>
  cases x with
  | ref a=>
   obtain⟨ts,hq,hc,q⟩:=h
   cases rx
   cases ry
   rcases hq with hq | hq
   ·obtain⟨its,r,pl,hz⟩:=I.list hq
    refine SeqAt.notIn_listAt (fun _=>false) pl.isList (fun w hw=>nS I hc hu r w (by simpa using hw)) ⟨.bl _,H,I,rfl, ?_⟩
    rw[show(its.toArray.any fun _=>false)=false by simp];exact q
   ·obtain⟨its,r,pl,hz⟩:=I.tuple hq
    refine SeqAt.notIn_tupleAt (fun _=>false) pl (fun w hw=>nS I hc hu r w (by simpa using hw)) ⟨.bl _,H,I,rfl, ?_⟩
    rw[show(its.toArray.any fun _=>false)=false by simp];exact q
  | _=>exact OS pins s σ H _ _ v u Q I rx ry h
 | _=>exact False.elim h
theorem Qx{M:Model}{A:Around}{E:Value→Shared→Prop}{s:Shared}{Q:Value→Shared→Prop}{v:Value}{d:Bool}(hv: ∀id,v≠ .builtin id)(h:Q (.bool (v== .bool d)) s):wpAny M A (compareOp .Is v (.bool d)) Q E s:=by
 cases v<;>first | exact wpAny_pure h | exact absurd rfl (hv _)
theorem Qy{M:Model}{A:Around}{E:Value→Shared→Prop}{s:Shared}{Q:Value→Shared→Prop}{v:Value}{d:Bool}(hv: ∀id,v≠ .builtin id)(h:Q (.bool (!(v== .bool d))) s):wpAny M A (compareOp .IsNot v (.bool d)) Q E s:=by
 cases v<;>first | exact wpAny_pure h | exact absurd rfl (hv _)
def FO:R2:=fun x y H Q=>match y with
 | .bl b=>Q (.bl (decide (x= .bl b))) H
 | _=>y= .av∧Q (.bl (decide (x= .av))) H
def FP:R2:=fun x y H Q=>match y with
 | .bl b=>Q (.bl (!decide (x= .bl b))) H
 | _=>y= .av∧Q (.bl (!decide (x= .av))) H
theorem Qz:bf X (compareOp .Is) FO:=by
 intro pins s σ H x y v u Q I rx ry h
 cases y with
 | bl b=>
  cases ry
  have nb: ∀id,v≠ .builtin id:=fun id z=>by
   subst z
   cases x<;>first
    | (obtain⟨t,e⟩:=rx;cases e;done)
    | (cases rx;done)
  refine Qx nb (bK I (show Q (.bl (decide (x= .bl b))) H from h) ?_)
  cases x<;>first
   | (cases rx;rfl)
   | (obtain⟨t,rfl⟩:=rx;rfl)
   | (cases rx;rename_i a;cases a<;>cases b<;>rfl)
 | _=>exact NJ pins s σ H x _ v u Q I rx ry h
theorem QC:bf X (compareOp .IsNot) FP:=by
 intro pins s σ H x y v u Q I rx ry h
 cases y with
 | bl b=>
  cases ry
  have nb: ∀id,v≠ .builtin id:=fun id z=>by
   subst z
   cases x<;>first
    | (obtain⟨t,e⟩:=rx;cases e;done)
    | (cases rx;done)
  refine Qy nb (bK I (show Q (.bl (!decide (x= .bl b))) H from h) ?_)
  cases x<;>first
   | (cases rx;rfl)
   | (obtain⟨t,rfl⟩:=rx;rfl)
   | (cases rx;rename_i a;cases a<;>cases b<;>rfl)
 | _=>exact NK pins s σ H x _ v u Q I rx ry h
def bZ(K:PySem.W.Frag):CmpOp→R2
 | .Eq=>jn false
 | .NotEq=>jn true
 | .Lt=>fM (fun _ _=>True) fun i j=> .bl (decide (i<j))
 | .LtE=>fM (fun _ _=>True) fun i j=> .bl (decide (i≤j))
 | .Gt=>fM (fun _ _=>True) fun i j=> .bl (decide (j<i))
 | .GtE=>fM (fun _ _=>True) fun i j=> .bl (decide (j≤i))
 | .In=>qu K false
 | .NotIn=>qu K true
 | .Is=>FO
 | .IsNot=>FP
theorem qv(hu:X.A.units+64<cLine)(op:CmpOp):bf X (compareOp op) (bZ X.K op):=by
 cases op with
 | Eq=>exact Qp hu
 | NotEq=>exact Qq hu
 | Lt=>exact bf.imp NB nR
 | LtE=>exact bf.imp NC nR
 | Gt=>exact bf.imp ND nR
 | GtE=>exact bf.imp NG nR
 | In=>exact Qu hu
 | NotIn=>exact Qw hu
 | Is=>exact Qz
 | IsNot=>exact QC
inductive Ty where | int | str | bool | list | tuple | dict
 deriving DecidableEq
def Ty.nm:Ty→String
 | .int=> "int" | .str=> "str" | .bool=> "bool" | .list=> "list" | .tuple=> "tuple" | .dict=> "dict"
def bG(T:Ty)(x:V)(H:Hp)(Q:Bool→Prop):Prop:=match x with
 | .av=>Q false
 | .bl _=>Q (T== .bool || T== .int)
 | .int _=>Q (T== .int)
 | .str _=>Q (T== .str)
 | .ref a=>match H a with
  | some (.lst _)=>Q (T== .list)
  | some (.bM _ (.lst _))=>Q (T== .list)
  | some (.tup _)=>Q (T== .tuple)
  | some (.dK _)=>Q (T== .dict)
  | some (.dT _)=>Q (T== .dict)
  | _=>False
 | _=>False
theorem ie(K:PySem.W.Frag)(S T:Ty):kitOne K (.type S.nm) (.type T.nm)=some (S==T || (S== .bool && T== .int)):=by
 cases S<;>cases T<;>rfl
theorem QD(K:PySem.W.Frag)(T:Ty):kitOne K (.type "NoneType") (.type T.nm)=some false:=by
 cases T<;>rfl
theorem QE(hc:X.calm=true):bT X (.builtin "sum") (fun xs H Q=> ∃(p:Addr) (ns:List Int),xs=[.ref p]∧aC X.K H p (ns.map V.int)∧Q (.int ns.sum) H):=by
 intro pins s σ H xs us Q I r h
 obtain⟨p,ns,rfl,hq,q⟩:=h
 obtain⟨u,rfl,ru⟩:=vals1 r
 cases ru
 obtain⟨its,rv,pl,hz⟩:=I.list hq
 have hi:=intsAre_of rv
 obtain⟨xs,hx⟩:=hi.allInts.items
 have FQ:s.heap.IsList p (intItems xs):=hx ▸ pl.isList
 refine sum_intListG (I.ok.hd hc) FQ fun h' tk t' hk=> ?_
 have e1:ns=xs.toList.map (·.1):=by
  rw[←nums_intItems,←hx]
  exact(show numsOf its.toArray.toList=ns from hi.numsOf).symm
 have e2:preSum (numAt xs) xs.size=ns.sum:=by
  rw[preSum_eq,List.take_of_length_le (by simp),e1]
 rw[e2]
 exact⟨.int ns.sum,H,I.kept (t':=tk) hk,⟨t',rfl⟩,q⟩
theorem FR: ∀{ts:List Str} {us:List Value},Vals (ts.map V.str) us→ ∃l:List (Str×Tok),us=strValues l∧l.map (·.1)=ts
 | [],_, .nil=> ⟨[],rfl,rfl⟩
 | x::ts,_, .cons ⟨t,e⟩ r=>by
  obtain⟨l,e1,e2⟩:=FR r
  subst e e1
  exact⟨(x,t)::l,rfl,by simp[e2]⟩
def rJoin(K:PySem.W.Frag):V→List V→Hp→VK→Prop:=fun x vs H Q=> ∃(sep:Str) (p:Addr) (ts:List Str),x= .str sep∧vs=[.ref p]∧aC K H p (ts.map V.str)∧JoinOk sep ts=true∧Q (.str (Txt.join sep ts)) H
theorem QF:gG X "str.join" (rJoin X.K):=by
 intro pins s σ H x vs v us Q I rx rv h
 obtain⟨sep,p,ts,rfl,rfl,hq,hj,q⟩:=h
 obtain⟨t,rfl⟩:=rx
 obtain⟨u,rfl,ru⟩:=vals1 rv
 cases ru
 obtain⟨its,rv,pl,hz⟩:=I.list hq
 obtain⟨l,rfl,e2⟩:=FR rv
 exact SC.join pl.isList e2 hj fun t' k=> ⟨.str _,H,I.tok k,⟨t',rfl⟩,q⟩
def QG:V→List V→Hp→VK→Prop:=fun x vs H Q=> ∃z y,x= .str z∧vs=[.str y]∧z.length≤sizeLine∧Q (.str (Txt.lstripChars z y)) H
theorem QH:gG X "str.lstrip" QG:=by
 intro pins s σ H x vs v us Q I rx rv h
 obtain⟨z,y,rfl,rfl,hz,q⟩:=h
 obtain⟨t,rfl⟩:=rx
 obtain⟨u,rfl,⟨t2,rfl⟩⟩:=vals1 rv
 refine call_gives F.slot_str_lstrip (typeIs_str _ _ _) F.entry_str_lstrip (F.args_str_lstrip_2 _ _) (gives_str_lstrip_chars z y t t2) (post_val_or_made (fun _=>fits_stripped _ _ _ hz) fun t' k=> ?_)
 exact⟨.str _,H,I.tok k,⟨t',rfl⟩,q⟩
def QI:V→List V→Hp→VK→Prop:=fun x vs H Q=> ∃z y i,x= .str z∧vs=[.str y, .int i]∧Q (.bl (decide (fromIndex z.length i+y.length≤z.length) && Builtin.Str.subAt z y (fromIndex z.length i))) H
theorem QJ:gG X "str.startswith" QI:=by
 intro pins s σ H x vs v us Q I rx rv h
 obtain⟨z,y,i,rfl,rfl,q⟩:=h
 obtain⟨t,rfl⟩:=rx
 obtain⟨u,w,rfl,⟨t2,rfl⟩,⟨t3,rfl⟩⟩:=vals2 rv
 exact call_gives F.slot_str_startswith (typeIs_str _ _ _) F.entry_str_startswith (F.args_str_startswith_3 _ _ _) (gives_str_startswith_from z y i t t2 t3) ⟨.bl _,H,I,rfl,q⟩
def gJ{α:Type}(xs:List α)(lo hi:Option Int):List α:=(xs.drop (HT.ba xs.length 0 lo)).take (HT.ba xs.length xs.length hi - HT.ba xs.length 0 lo)
def fN(z:Str)(lo hi:Option Int):Str:=⟨(gJ z.cps.toList lo hi).toArray⟩
theorem QK(z:Str)(lo hi:Option Int):((Builtin.Str.strSliceIndices lo hi 1 z.length).filterMap (z.cps[·]?))=gJ z.cps.toList lo hi:=by
 obtain⟨h1,h2,h3⟩:=ux lo hi z.length
 have e0:Builtin.Str.strSliceIndices lo hi 1 z.length=sliceRange (sliceBounds lo hi none z.length).1 (sliceBounds lo hi none z.length).2.1 (sliceBounds lo hi none z.length).2.2:=rfl
 have hz:z.cps.toList.length=z.length:=by simp[Str.length]
 rw[e0,h1,h2,h3,sliceRange_one,pick_run]
 unfold gJ
 rw[hz]
end
section
variable {X:Cx}
def qw(K:PySem.W.Frag)(neg:Bool):R2:=fun x y H Q=> ∃p xs d es,y= .ref p∧aC K H p xs∧Is H d x∧IsL H es xs∧SeqAt.shaped d=true∧d.depth≤60∧(∀e∈es,SeqAt.shaped e=true)∧Q (.bl (neg ^^ es.any fun e=>PyData.eqv e d)) H
open Classical in
end
def FT:HO:= .ext fun _=>True
structure FU (ob:Obj) (cls:Value) (vs:Array Value):Prop where
 cls:ob.cls=cls
 data:ob.data= .fields vs
 alC:vs[2]?=some .none
 dict:ob.dict=none
def ExcAt(H:Hp)(ea D:Addr):Prop:= ∃ob vs,H ea=some (.bM ob FT)∧FU ob (.ref D) vs
structure QL (K:PySem.W.Frag) (D:Addr):Prop where
 hga:findIn K (.ref D) "__getattribute__"=some (some (.builtin "BaseException.__getattribute__"))
 hgn:findIn K (.ref D) "__getattr__"=some none
 hk:(PySem.W.clsIn K D).isSome=true
 ha:findIn K (.ref D) "__class__"=some (some (.builtin "object.__class__"))
 hn:specialIn K (.builtin "object.__class__") "__get__"=some (some (.builtin "getset_descriptor.__get__"))
 nu:takesIn K (.builtin "object.__class__")=some true
 hm:mroIn K D (.type "object")=some true
 hb:mroIn K D (.type "BaseException")=some true
def cV:V→Value
 | .ref a=> .ref a
 | .ty n=> .type n
 | _=> .none
def FV(K:PySem.W.Frag):List V→Hp→VK→Prop
 | [.ref ea,c],H,Q=> ∃D b,ExcAt H ea D∧QL K D∧((∃C,c= .ref C)∨ ∃n,c= .ty n)∧kitOne K (.ref D) (cV c)=some b∧Q (.bl b) H
 | _,_,_=>False
def QM(sp:Sp)(hv:Option Addr)(t:TA):TE:=fun σ H Q=>t σ H fun vs H1=> (∃ea D,hv=some ea∧ExcAt H1 ea D)∧sp vs H1 Q E0
def uX(C:Addr)(E:XK)(t:TA):TS:=fun _ σ H=>t σ H fun vs H1=>vs.length≤sizeLine∧E (.ref C) none H1
def QN(K:PySem.W.Frag)(C:Addr)(i n:Nat)(th:Addr→TS)(D:Ends):XK:=fun cls _ H'=>PySem.W.exmOne K cls (.ref C)=some true∧
 ∀(ea:Addr) (ob:Obj) (vs:Array Value) (σ':St),H' ea=none→σ'.length=n→FU ob cls vs→th ea {nx:=fun _ _=>False,rt:=D.rt} (σ'.set i (some (.ref ea))) (upd H' ea (.bM ob FT))
def QO(K:PySem.W.Frag)(C:Addr)(i n:Nat)(tb:XK→TS)(th:Addr→TS):TS:=fun D σ H=>tb (QN K C i n th D) {nx:=D.nx,rt:=D.rt} σ H
inductive gK where | len | min | max | sum | int | list | tuple | abs
 deriving DecidableEq
inductive eh where | append | pop | extend | join | lstrip | starts | reverse | clear | index | find | count | uY | uZ
 deriving DecidableEq
inductive IK where | list | tup | eG | QP | zip | u_ | txt | QR
 deriving DecidableEq
inductive RE where
 | v (i:Nat) | c (x:V) | g (j:Nat)
 | bin (op:Operator) (a b:RE) | neg (a:RE)
 | cmp (op:CmpOp) (a b:RE) | nT (op dm:CmpOp) (a b d:RE) | FW (op dm FX:CmpOp) (a b d f:RE)
 | and (as:List RE) | or (as:List RE) | not (a:RE) | mi (t a b:RE)
 | call (j:Nat) (as:List RE) | blt (b:gK) (as:List RE) | dw (T:Ty) (a:RE)
 | bE (m:eh) (o:RE) (as:List RE)
 | ix (a b:RE) | sl (a:RE) (lo hi:Option RE)
 | tup (as:List RE) | lst (as:List RE)
 | comp (tk:Option Nat) (fv:List (Str×Nat)) (k:IK) (its:List RE) (cond:Option RE) (elt:RE)
 | FY (a c:RE) | QS (j:Nat) (a:RE) | QU | same (a b:RE)
 | QV | QW (a b:RE) | FZ (a b:RE) | F_ (a b:RE) | QX (o a b:RE) | inD (a b:RE) | Ga (a b:RE)
 | xt (T:PySem.W.Frag→TA→TE) (as:List RE) | xm (T:PySem.W.Frag→TE→TA→TE) (o:RE) (as:List RE)
 | fld (o:RE) (f:Str) | b9 (j:Nat) (m:Str) (o:RE) (as:List RE) | make (j:Nat) (as:List RE)
inductive RS where
 | asg (i:Nat) (e:RE) | QY (i:Nat) (e:RE) | set (o ix e:RE)
 | drop (e:RE) | ret (e:RE) | QZ
 | ite (c:RE) (t e:List RS)
 | gL (i:Nat) (k:IK) (its:List RE) (body:List RS)
 | mj (is:List Nat) (k:IK) (its:List RE) (body:List RS)
 | mm (c:RE) (body:List RS)
 | pass | brk | cont | never
 | Q0 (o lo hi e:RE) | fO (o:RE) (f:Str) (e:RE)
 | Q2 (is:List Nat) (e:RE) | dput (o i e:RE) | fP (j:Nat) (as:List RE) | Q3 (n i j:Nat) (body su:List RS)
structure aE where
 K:PySem.W.Frag
 fs:Nat→Sp
 gv:Nat→V
 E:XK
 sd:Addr→List (Key×V)→Prop
 ms:Nat→Addr×Sp
 kt:Nat→Addr×Sp
 ex:Nat→Addr
 hs:Nat→Sp
 hv:Option Addr
abbrev aE.calm(Γ:aE):aE:={Γ with E:=E0}
def fQ(K:PySem.W.Frag)(x:V)(H:Hp)(Q:Bool→Prop):Prop:=match x with
 | .av=>Q false
 | .bl b=>Q b
 | .int i=>Q (i !=0)
 | .str y=>y.length≤sizeLine∧Q ((y.length:Int) !=0)
 | .ref p=> (∃xs,aC K H p xs∧Q (!xs.isEmpty))∨(∃xs,aX K H p xs∧Q (!xs.isEmpty))∨ ∃aJ,H p=some (.dK aJ)∧Q (!aJ.isEmpty)
 | _=>False
theorem Gb{K:PySem.W.Frag}{x:V}{H:Hp}{Q:Bool→Prop}(h:fQ K x H Q): ∃k,Ey K x H k∧Q k:=by
 cases x with
 | av=>exact⟨_,rfl,h⟩
 | bl b=>exact⟨_,rfl,h⟩
 | int i=>exact⟨_,rfl,h⟩
 | str y=>exact⟨_,⟨h.1,rfl⟩,h.2⟩
 | ref p=>
  rcases h with⟨xs,h1,h2⟩ | ⟨xs,h1,h2⟩ | ⟨xs,h1,h2⟩
  ·exact⟨_, .inl ⟨xs,h1,rfl⟩,h2⟩
  ·exact⟨_, .inr (.inl ⟨xs,h1,rfl⟩),h2⟩
  ·exact⟨_, .inr (.inr ⟨xs,h1,rfl⟩),h2⟩
 | _=>exact False.elim h
def dy(K:PySem.W.Frag)(t:TE):TT:=fun σ H Q=>t σ H fun x H1=>fQ K x H1 fun b=>Q b H1
def vc(K:PySem.W.Frag)(t:TE):TE:=fun σ H Q=>t σ H fun x H1=>fQ K x H1 fun b=>Q (.bl (!b)) H1
def Gd:V→Hp→VK→Prop:=fun x H Q=>match x with | .int i=>Q (.int (-i)) H | _=>False
def nM(K:PySem.W.Frag)(x:V)(H:Hp)(Q:Nat→Prop):Prop:=match x with
 | .str y=>y.length≤sizeLine∧Q y.length
 | .ref p=> (∃xs,aC K H p xs∧Q xs.length)∨ ∃xs,aX K H p xs∧Q xs.length
 | _=>False
def signs(x:Str):List V:=x.cps.toList.map fun c=>V.str ⟨#[c]⟩
def Q4:TE:=fun _ H Q=> ∀p,H p=none→Q (.ref p) (upd H p (.dK []))
def jo(K:PySem.W.Frag):gK→List V→Hp→VK→Prop
 | .len,[x],H,Q=>nM K x H fun n=>Q (.int n) H
 | .min,[.int i, .int j],H,Q=>Q (.int (if j<i then j else i)) H
 | .max,[.int i, .int j],H,Q=>Q (.int (if j>i then j else i)) H
 | .min,[.ref p],H,Q=> ∃ns:List Int,aC K H p (ns.map V.int)∧ns≠ []∧ ∀m:Int,m∈ns→(∀n∈ns,m≤n)→Q (.int m) H
 | .max,[.ref p],H,Q=> ∃ns:List Int,aC K H p (ns.map V.int)∧ns≠ []∧ ∀m:Int,m∈ns→(∀n∈ns,n≤m)→Q (.int m) H
 | .sum,[.ref p],H,Q=> ∃ns:List Int,aC K H p (ns.map V.int)∧Q (.int ns.sum) H
 | .int,[.int i],H,Q=>Q (.int i) H
 | .int,[.bl k],H,Q=>Q (.int (if k then 1 else 0)) H
 | .list,[.ref p],H,Q=> ∃ys,(aC K H p ys∨aX K H p ys)∧ ∀l,H l=none→Q (.ref l) (upd H l (.lst ys))
 | .list,[.str x],H,Q=>x.length≤sizeLine∧ ∀l,H l=none→Q (.ref l) (upd H l (.lst (signs x)))
 | .tuple,[.str x],H,Q=>x.length≤sizeLine∧ ∀l,H l=none→Q (.ref l) (upd H l (.tup (signs x)))
 | .abs,[.int i],H,Q=>Q (.int (if i<0 then -i else i)) H
 | .tuple,[.ref p],H,Q=> ∃ys,(aC K H p ys∧ ∀l,H l=none→Q (.ref l) (upd H l (.tup ys)))∨(aX K H p ys∧Q (.ref p) H)
 | _,_,_,_=>False
def ig(T:Ty):List V→Hp→VK→Prop
 | [x, .ty n],H,Q=>n=T.nm∧bG T x H fun b=>Q (.bl b) H
 | _,_,_=>False
def nU(K:PySem.W.Frag):eh→V→List V→Hp→VK→Prop
 | .append, .ref l,[y],H,Q=> ∃xs,H l=some (.lst xs)∧xs.length<sizeLine∧Q .av (upd H l (.lst (xs++ [y])))
 | .pop, .ref l,[],H,Q=> ∃xs y,H l=some (.lst xs)∧xs[xs.length - 1]?=some y∧Q y (upd H l (.lst xs.dropLast))
 | .extend, .ref l,[.ref b],H,Q=> ∃xs zs,H l=some (.lst xs)∧H b=some (.lst zs)∧xs.length+zs.length≤sizeLine∧Q .av (upd H l (.lst (xs++zs)))
 | .join, .str sep,[.ref p],H,Q=> ∃ts:List Str,aC K H p (ts.map V.str)∧JoinOk sep ts=true∧Q (.str (Txt.join sep ts)) H
 | .lstrip, .str z,[.str y],H,Q=>z.length≤sizeLine∧Q (.str (Txt.lstripChars z y)) H
 | .starts, .str z,[.str y, .int i],H,Q=>Q (.bl (decide (fromIndex z.length i+y.length≤z.length) && Builtin.Str.subAt z y (fromIndex z.length i))) H
 | .find, .str z,[.str y],H,Q=>Q (.int (match Builtin.Str.occurrences z y 0 z.length 1 with | i::_=> (i:Int) | []=> -1)) H
 | .find, .str z,[.str y, .int i],H,Q=>Q (.int (match Builtin.Str.occurrences z y (fromIndex z.length i) z.length 1 with | k::_=> (k:Int) | []=> -1)) H
 | .count, .str z,[.str y],H,Q=>Q (.int (Builtin.Str.occurrences z y 0 z.length (z.length+1)).length) H
 | .reverse, .ref l,[],H,Q=> ∃xs,H l=some (.lst xs)∧Q .av (upd H l (.lst xs.reverse))
 | .index, .ref l,[.str y],H,Q=> ∃ts:List Str,aC K H l (ts.map V.str)∧y∈ts∧Q (.int (ts.idxOf y:Nat)) H
 | .clear, .ref l,[],H,Q=> ∃xs,H l=some (.lst xs)∧Q .av (upd H l (.lst []))
 | .uY, .ref l,[y],H,Q=> ∃xs,aC K H l xs∧cR y=true∧xs.all cR=true∧Q (.int (xs.countP (fun z=>df z y):Nat)) H
 | .uZ, .ref l,[y],H,Q=> ∃xs,aC K H l xs∧cR y=true∧xs.all cR=true∧dg y xs=true∧Q (.int (xs.findIdx (fun z=>df z y):Nat)) H
 | _,_,_,_,_=>False
def qx:eh→String
 | .join | .lstrip | .starts | .find | .count=> "str"
 | _=> "list"
def mq(K:PySem.W.Frag)(m:eh)(to:TE)(t:TA):TE:=fun σ H Q=>to σ H fun x H1=>nF K (qx m) x H1∧t σ H1 fun xs H2=>nU K m x xs H2 Q
def qy(K:PySem.W.Frag):V→Option Int→Option Int→Hp→VK→Prop:=fun x lo hi H Q=>match x with
 | .str z=>z.length≤sizeLine∧Q (.str (fN z lo hi)) H
 | .ref a=> (∃xs,aC K H a xs∧ ∀p,H p=none→Q (.ref p) (upd H p (.lst (dI xs lo hi))))∨
  (∃xs,aX K H a xs∧ ¬(HT.ba xs.length 0 lo=0∧HT.ba xs.length xs.length hi=xs.length)∧ ∀p,H p=none→Q (.ref p) (upd H p (.tup (dI xs lo hi))))
 | _=>False
def jq(aJ:List (Key×V))(k:Key):Option V:=(aJ.find? fun kv=>decide (kv.1=k)).map (·.2)
def Ge(sd:Addr→List (Key×V)→Prop):R2:=fun x y H Q=> ∃p aJ k v,x= .ref p∧y=kV k∧sd p aJ∧jq aJ k=some v∧Q v H
def ij(K:PySem.W.Frag)(sd:Addr→List (Key×V)→Prop):R2:=fun x y H Q=>E5 K x y H Q∨E6 K x y H Q∨E7 x y H Q∨Ge sd x y H Q
def Q5(r r' r2:R2)(ta tb tc td:TE):TT:=fun σ H Q=>ta σ H fun x H1=>tb σ H1 fun y H2=>r x y H2 fun z H3=> ∃k,z= .bl k∧
 (if k=true then tc σ H3 fun w H4=>r' y w H4 fun z2 H5=> ∃k2,z2= .bl k2∧(if k2=true then td σ H5 fun u H6=>r2 w u H6 fun z3 H7=> ∃k3,z3= .bl k3∧Q k3 H7 else Q false H5) else Q false H3)
def Q6(K:PySem.W.Frag)(a b:Addr):It:=
  ⟨fun i H=> ∃xs ys,aC K H a xs∧aC K H b ys∧i<xs.length∧i<ys.length,
   fun i H x H'=> ∃T,H T=none∧x= .ref T∧ ∀xs ys u v,aC K H a xs→aC K H b ys→xs[i]?=some u→ys[i]?=some v→H'=upd H T (.tup [u,v]),
   fun i H=> ∃xs ys,aC K H a xs∧aC K H b ys∧i=min xs.length ys.length⟩
def nV(K:PySem.W.Frag)(a:Addr):It:=
  ⟨fun i H=> ∃xs,aC K H a xs∧i<xs.length,
   fun i H x H'=> ∃T,H T=none∧x= .ref T∧ ∀xs u,aC K H a xs→xs[i]?=some u→H'=upd H T (.tup [.int (i:Nat),u]),
   fun i H=> ∃xs,aC K H a xs∧i=xs.length⟩
def vd(K:PySem.W.Frag)(ta:TA):TI:=fun σ H R=>ta σ H fun vs H1=> ∃a,vs=[.ref a]∧(∃xs,aC K H1 a xs)∧R (nV K a) H1
def Q7(K:PySem.W.Frag)(ta:TA):TI:=fun σ H R=>ta σ H fun vs H1=> ∃a b,vs=[.ref a, .ref b]∧(∃xs,aC K H1 a xs)∧(∃ys,aC K H1 b ys)∧R (Q6 K a b) H1
def Q8(K:PySem.W.Frag)(a b:Addr):It:=
  ⟨fun i H=> ∃xs ys,aX K H a xs∧aX K H b ys∧i<xs.length∧i<ys.length,
   fun i H x H'=> ∃T,H T=none∧x= .ref T∧ ∀xs ys u v,aX K H a xs→aX K H b ys→xs[i]?=some u→ys[i]?=some v→H'=upd H T (.tup [u,v]),
   fun i H=> ∃xs ys,aX K H a xs∧aX K H b ys∧i=min xs.length ys.length⟩
def Q9(K:PySem.W.Frag)(ta:TA):TI:=fun σ H R=>ta σ H fun vs H1=> ∃a b,vs=[.ref a, .ref b]∧(∃xs,aX K H1 a xs)∧(∃ys,aX K H1 b ys)∧R (Q8 K a b) H1
def Q_(z:Str):It:=⟨fun i _=>i<z.length,fun i H x H'=>H'=H∧ ∃c,z.cps[i]?=some c∧x= .str ⟨#[c]⟩,fun i _=>i=z.length⟩
def Ra(ta:TE):TI:=fun σ H R=>ta σ H fun x H1=> ∃z,x= .str z∧R (Q_ z) H1
mutual
def ag(Γ:aE):RE→TE
 | .v i=>tV i
 | .c x=>tC x
 | .g j=>tC (Γ.gv j)
 | .bin op a b=>cT (mh Γ.K op) (ag Γ a) (ag Γ b)
 | .neg a=>Er Gd (ag Γ a)
 | .cmp op a b=>cT (bZ Γ.K op) (ag Γ a) (ag Γ b)
 | .nT op dm a b d=>pT (bZ Γ.K op) (bZ Γ.K dm) (ag Γ a) (ag Γ b) (ag Γ d)
 | .FW _ _ _ _ _ _ _=>fun _ _ _=>False
 | .and as=>Gf Γ as
 | .or as=>Gg Γ as
 | .not a=>vc Γ.K (ag Γ a)
 | .mi t a b=>D7 (br Γ t) (ag Γ a) (ag Γ b)
 | .call j as=>uj (Γ.fs j) [] Γ.E (bq Γ as)
 | .blt b as=>cQ (jo Γ.K b) (bq Γ as)
 | .dw T a=>cQ (ig T) (cM (ag Γ a) (cM (tC (.ty T.nm)) ee))
 | .bE m o as=>mq Γ.K m (ag Γ o) (bq Γ as)
 | .ix a b=>cT (ij Γ.K Γ.sd) (ag Γ a) (ag Γ b)
 | .sl a lo hi=>ur (qy Γ.K) (ag Γ a) (ip Γ lo) (ip Γ hi)
 | .tup as=>EG (bq Γ as)
 | .lst as=>EH (bq Γ as)
 | .comp tk fv k its cond elt=>qg Γ.K (e7 Γ k its) tk fv (Gh Γ.calm cond) (ag Γ.calm elt)
 | .FY a c=>cQ (FV Γ.K) (cM (ag Γ a) (cM (ag Γ c) ee))
 | .QU=>Q4
 | .same a b=>cT Qo (ag Γ a) (ag Γ b)
 | .inD a b=>cT (qw Γ.K false) (ag Γ a) (ag Γ b)
 | .Ga a b=>cT (qw Γ.K true) (ag Γ a) (ag Γ b)
 | .QV=>Pz
 | .QW a b=>Px (ag Γ a) (ag Γ b)
 | .FZ a b=>Fh (ag Γ a) (ag Γ b)
 | .F_ a b=>Fi (ag Γ a) (ag Γ b)
 | .QX o a b=>PC (ag Γ o) (ag Γ a) (ag Γ b)
 | .xt T as=>T Γ.K (bq Γ as)
 | .xm T o as=>T Γ.K (ag Γ o) (bq Γ as)
 | .QS j a=>QM (Γ.hs j) Γ.hv (cM (ag Γ a) ee)
 | .fld o f=>pV Γ.K (ag Γ o) f
 | .b9 j m o as=>jd (Γ.ms j).1 m (Γ.ms j).2 [] Γ.E (ag Γ o) (bq Γ as)
 | .make j as=>ny (Γ.kt j).1 (Γ.kt j).2 [] Γ.E (bq Γ as)
def br(Γ:aE):RE→TT
 | .not a=>D5 (br Γ a)
 | .inD a b=>lY (cT (qw Γ.K false) (ag Γ a) (ag Γ b))
 | .Ga a b=>lY (cT (qw Γ.K true) (ag Γ a) (ag Γ b))
 | .FZ a b=>tB (Fh (ag Γ a) (ag Γ b))
 | .F_ a b=>tB (Fi (ag Γ a) (ag Γ b))
 | .and as=>Gi Γ as
 | .or as=>Gj Γ as
 | .cmp op a b=>lY (cT (bZ Γ.K op) (ag Γ a) (ag Γ b))
 | .nT op dm a b d=>lY (pT (bZ Γ.K op) (bZ Γ.K dm) (ag Γ a) (ag Γ b) (ag Γ d))
 | .FW op dm FX a b d f=>Q5 (bZ Γ.K op) (bZ Γ.K dm) (bZ Γ.K FX) (ag Γ a) (ag Γ b) (ag Γ d) (ag Γ f)
 | .v i=>dy Γ.K (tV i)
 | .call j as=>dy Γ.K (uj (Γ.fs j) [] Γ.E (bq Γ as))
 | .dw T a=>dy Γ.K (cQ (ig T) (cM (ag Γ a) (cM (tC (.ty T.nm)) ee)))
 | .FY a c=>dy Γ.K (cQ (FV Γ.K) (cM (ag Γ a) (cM (ag Γ c) ee)))
 | .bE m o as=>dy Γ.K (mq Γ.K m (ag Γ o) (bq Γ as))
 | .ix a b=>dy Γ.K (cT (ij Γ.K Γ.sd) (ag Γ a) (ag Γ b))
 | .bin op a b=>dy Γ.K (cT (mh Γ.K op) (ag Γ a) (ag Γ b))
 | .fld o f=>dy Γ.K (pV Γ.K (ag Γ o) f)
 | .xt T as=>dy Γ.K (T Γ.K (bq Γ as))
 | .xm T o as=>dy Γ.K (T Γ.K (ag Γ o) (bq Γ as))
 | .b9 j m o as=>dy Γ.K (jd (Γ.ms j).1 m (Γ.ms j).2 [] Γ.E (ag Γ o) (bq Γ as))
 | _=>fun _ _ _=>False
def bq(Γ:aE):List RE→TA
 | []=>ee
 | a::r=>cM (ag Γ a) (bq Γ r)
def Gf(Γ:aE):List RE→TE
 | []=>fun _ _ _=>False
 | [a]=>ag Γ a
 | a::r=>D6 (ag Γ a) (Gf Γ r)
def Gg(Γ:aE):List RE→TE
 | []=>fun _ _ _=>False
 | [a]=>ag Γ a
 | a::r=>MR (ag Γ a) (Gg Γ r)
def Gi(Γ:aE):List RE→TT
 | []=>fun _ _ _=>False
 | [a]=>br Γ a
 | a::r=>D3 (br Γ a) (Gi Γ r)
def Gj(Γ:aE):List RE→TT
 | []=>fun _ _ _=>False
 | [a]=>br Γ a
 | a::r=>D4 (br Γ a) (Gj Γ r)
def ip(Γ:aE):Option RE→TO
 | none=>EY
 | some a=>pZ (ag Γ a)
def Gh(Γ:aE):Option RE→Option TT
 | none=>none
 | some a=>some (br Γ a)
def e7(Γ:aE)(k:IK):List RE→TI
 | []=>fun _ _ _=>False
 | a::r=>match k with
  | .list=>t6 Γ.K (ag Γ a)
  | .tup=>Nc Γ.K (ag Γ a)
  | .eG=>El (cM (ag Γ a) (bq Γ r))
  | .QP=>Nh (cM (ag Γ a) (bq Γ r))
  | .zip=>Q7 Γ.K (cM (ag Γ a) (bq Γ r))
  | .u_=>vd Γ.K (cM (ag Γ a) (bq Γ r))
  | .txt=>Ra (ag Γ a)
  | .QR=>Q9 Γ.K (cM (ag Γ a) (bq Γ r))
end
structure cJ where
 N:List Str
 sc:Scope
 fn:List Str
 gn:List Str
 bl:List Str
 mn:List Str
 kn:List Str
 en:List Str
 hn:List Str
 md:Nat
def ve(sc:Scope)(x:Str):Bool:=match sc.names.lookup x with
 | some .local=>true | some .cell=>true | some .free=>true | _=>false
def loc(sc:Scope)(x:Str):Bool:=match sc.names.lookup x with
 | some .local=>true | some .cell=>true | _=>false
def iq(sc:Scope)(x:Str):Bool:=match sc.names.lookup x with
 | some .globalImplicit=>true | _=>false
theorem Rb{sc:Scope}{x:Str}(h:ve sc x=true):pE sc x:=by
 unfold ve at h
 unfold pE
 cases e:sc.names.lookup x with
 | none=>rw[e] at h;cases h
 | some k=>rw[e] at h;cases k<;>first | exact .inl rfl | exact .inr (.inl rfl) | exact .inr (.inr rfl) | cases h
theorem Gk{sc:Scope}{x:Str}(h:loc sc x=true):Loc sc x:=by
 unfold loc at h
 unfold Loc
 cases e:sc.names.lookup x with
 | none=>rw[e] at h;cases h
 | some k=>rw[e] at h;cases k<;>first | exact .inl rfl | exact .inr rfl | cases h
theorem Rf{sc:Scope}{x:Str}(h:iq sc x=true):sc.names.lookup x=some .globalImplicit:=by
 unfold iq at h
 cases e:sc.names.lookup x with
 | none=>rw[e] at h;cases h
 | some k=>rw[e] at h;cases k<;>first | rfl | cases h
structure nW where
 elt:Expr
 tg:Expr
 iter:Expr
 ifs:List Expr
 sc:Scope
def gK.nm:gK→Str
 | .len=> "len" | .min=> "min" | .max=> "max" | .sum=> "sum" | .int=> "int" | .list=> "list" | .tuple=> "tuple" | .abs=> "abs"
def eh.nm:eh→Str
 | .append=> "append" | .pop=> "pop" | .extend=> "extend" | .join=> "join" | .lstrip=> "lstrip" | .starts=> "startswith" | .reverse=> "reverse" | .clear=> "clear" | .index=> "index" | .find=> "find" | .count=> "count" | .uY=> "count" | .uZ=> "index"
def iu:Expr→Bool
 | .Call (.Name _ _) [] [] _=>false
 | _=>true
def noStar:Expr→Bool
 | .Starred ..=>false
 | _=>true
def nX:Expr→Bool
 | .Set ..=>false
 | _=>true
def vf(Gm sc:Scope):Scope:=
 {Gm with names:=Gm.names.map fun(n,k)=>if (k== .free && sc.kind== .function && sc.names.lookup n==some .cell) then (n, .cell) else (n,k)}
def vg(tk:Option Nat)(tg:Expr):Option (List Str):=match tk,tg with
 | none, .Name x _=>some [x]
 | some 2, .Tuple [.Name x _, .Name y _] _ _=>some [x,y]
 | _,_=>none
def Gn(S:cJ)(c:nW)(ln:List Str)(fv:List (Str×Nat)):cJ:={S with N:=ln++fv.map (·.1),sc:=vf c.sc S.sc,en:=[],md:=if S.md=0 then 0 else 2}
def vh(S:cJ)(c:nW)(ln:List Str)(fv:List (Str×Nat)):Bool:=
 decide (c.sc.kind= .function) && c.sc.names.all (fun y=>decide (y.2≠ .cell)) && c.sc.names.all (fun y=>decide (y.2≠ .local) || decide (c.sc.names.lookup y.1=some .local))
 && c.sc.names.all (fun y=>decide (y.2≠ .free) || decide (S.sc.names.lookup y.1=some .cell) || decide (S.sc.names.lookup y.1=some .free))
 && fv.all (fun p=>decide (S.N[p.2]?=some p.1) && decide (c.sc.names.lookup p.1=some .free))
 && ln.all (fun x=>decide (c.sc.names.lookup x=some .local)) && decide ((ln++fv.map (·.1)).Nodup) && nX c.iter
theorem Rg{P:Program}{w:World}{K:PySem.W.Frag}{elts:List Expr}{k:Nat}{pos:Pos}{z it l:Addr}(d1:z≠it)(d2:l≠z)(d3:l≠it):
  Turn P w K (.Tuple elts k pos) (nV K l) [z,it] z
   (fun i h=> (∃old,IsEnum h z it i old)∧h.IsListIter it l i) where
 mem:=by simp
 obj:=fun i h st b hb=>by
  obtain⟨⟨old,hz⟩,⟨o2,e2,c2,d2⟩⟩:=st
  simp only[List.mem_cons,List.not_mem_nil,or_false] at hb
  rcases hb with rfl | rfl
  ·exact⟨_,hz,fun v q=>by cases q⟩
  ·exact⟨_,e2,fun v q=>by rw[d2] at q;cases q⟩
 keep:=fun i h h' st hk=>by
  obtain⟨⟨old,hz⟩,h1⟩:=st
  exact⟨⟨old,hk z (by simp) _ hz⟩,h1.at fun o e=>hk it (by simp) o e⟩
 item:=by
  intro X hP hw hK hc i pins s σ H E I hf st hg
  subst hP hw hK
  obtain⟨xs,hx,hi1⟩:=hg
  obtain⟨jr,r1,p1,z1⟩:=I.list hx
  have Rh:=r1.length
  have W:=WalksT.enumerate (prog:=X.prog) (w:=X.w) (A:=X.A) (I.ok.hd hc) z it l d1 d2 d3 jr.toArray
  obtain⟨hz,h1⟩:=id st
  have hn:i<jr.toArray.size:=by simp only[List.size_toArray];omega
  refine W.item i s _ _ hn ⟨hz,h1,p1.isList⟩ fun T vals h' tk hv hT Ri mid hk=> ?_
  refine⟨.ref T,rfl, ?_⟩
  refine W.go elts k pos i T _ _ _ mid fun qA Rj Gp=> ?_
  obtain⟨t0,u,eu,rfl⟩:=hv
  have kk: ∀b o,b∉ [z,it]→s.heap.get? b=some o→qA.get? b=some o:=fun b o hb e=>Gp b o hb (hk b o hb e)
  have I1:Inv X pins σ H {s with heap:=qA,toks:=tk}:=by
   refine I.step (g':=s.gens) (d':=s.drawn) (ch:=[z,it]) (fun b hb=> ?_) (fun b o _ _ hc e _=>kk b o hc e) (fun b o _ _ hc e _=> ⟨o.slots,kk b o hc e⟩) (fun _ _ _ _ n=>n)
    (fun b o hc e=> ⟨o,kk b o hc e⟩) (fun _ _ e=>e) (fun _ _ _ e=>e) (fun b ps e=> ⟨#[],by rw[e];simp⟩) (fun m hm=> ?_) (fun b o e=> ?_) I.bare
   ·obtain⟨f0,f1,f2,f3,f4,f5⟩:=hf b hb
    exact⟨f3,f1,f4,f5⟩
   ·obtain⟨o,es,ep,ho,r⟩:=hm
    exact⟨o,es,ep,kk _ o (fun hb=> (hf _ hb).2.1 rfl) ho,r⟩
   ·have nb: ∀c o',H c=some o'→c∉ [z,it]:=fun c o' e hb=>by
     rw[(hf c hb).1] at e;cases e
    refine(I.aG b o e).gu (fun c q dP e'=>kk c q ?_ e') (fun _ q=>q) fun _ _ q=>q
    rcases dP with rfl | dP
    ·exact nb _ _ e
    ·exact nb _ _ dP
  have mr:s.heap.objs.size≤T:=hT
  have fT:H T=none:=I.aG.fresh mr
  have aT:T∉ [z,it]:=W.apart i T h' mid
  have tT:qA.IsTuple T #[.int (i:Nat) t0,u]:=by
   obtain⟨o,ho,q⟩:=Ri
   exact⟨o,Gp T o aT ho,q⟩
  obtain⟨a,Rk,ra⟩: ∃a,xs[i]?=some a∧RelV a u:=by
   have e:jr[i]?=some u:=by simpa using eu
   have:i<xs.length:=by omega
   obtain⟨u',e',r'⟩:=r1.get (i:=i) (x:=xs[i]) (by simp[this])
   rw[e] at e';cases e'
   exact⟨xs[i],by simp[this],r'⟩
  have sz0:=I.sz
  have I2:Inv X pins σ (upd H T (.tup [.int (i:Nat),a])) {s with heap:=qA,toks:=tk}:=by
   refine Inv.Fj I1 fT (Nat.le_trans I.sz mr) (Nat.ne_of_gt (Nat.lt_of_lt_of_le I.lt mr)) (fun x c e q=> ?_) (fun p hp q=> ?_) ⟨by show 2≤sizeLine;decide,[.int (i:Nat) t0,u], .cons ⟨t0,rfl⟩ (.cons ra .nil),tT⟩
   ·obtain⟨v',q'⟩:=I.cell x c e
    have:=q'.lt
    rw[q] at this
    exact absurd (Nat.lt_of_lt_of_le this mr) (Nat.lt_irrefl _)
   ·have:=Heap.lt_size (I.pin p hp).1
    rw[q] at this
    exact absurd (Nat.lt_of_lt_of_le this mr) (Nat.lt_irrefl _)
  refine⟨.ref T,_,I2,rfl,⟨T,fT,rfl,fun vi a' jk ea=> ?_⟩, ?_,fun c dP=> ?_⟩
  ·rw[I.D8 jk hx,Rk] at ea
   cases ea;rfl
  ·obtain⟨⟨q0,q1⟩,q2,_⟩:=Rj
   exact⟨⟨q0,q1⟩,q2⟩
  ·have n0:=(hf c dP).1
   have:c≠T:=fun q=>by
    obtain⟨o,e,_⟩: ∃o,s.heap.get? c=some o∧True:=by
     obtain⟨⟨old,hz⟩,⟨o2,e2,_⟩⟩:=st
     simp only[List.mem_cons,List.not_mem_nil,or_false] at dP
     rcases dP with rfl | rfl
     ·exact⟨_,hz,trivial⟩
     ·exact⟨_,e2,trivial⟩
    have:=Heap.lt_size e
    rw[q] at this
    exact absurd (Nat.lt_of_lt_of_le this mr) (Nat.lt_irrefl _)
   rw[aK this];exact n0
 done:=by
  intro X hP hw hK hc i pins s σ H E I hf st hg
  subst hP hw hK
  obtain⟨xs,hx,hi⟩:=hg
  obtain⟨jr,r1,p1,z1⟩:=I.list hx
  have Rh:=r1.length
  have W:=WalksT.enumerate (prog:=X.prog) (w:=X.w) (A:=X.A) (I.ok.hd hc) z it l d1 d2 d3 jr.toArray
  obtain⟨hz,h1⟩:=id st
  have hn:i=jr.toArray.size:=by simp only[List.size_toArray];omega
  subst hn
  refine W.done s _ _ ⟨hz,h1,p1.isList⟩ fun h' tk hk=> ⟨rfl, ?_⟩
  refine I.step (g':=s.gens) (d':=s.drawn) (ch:=[z,it]) (fun b hb=> ?_) (fun b o _ _ hc e _=>hk b o hc e) (fun b o _ _ hc e _=> ⟨o.slots,hk b o hc e⟩) (fun _ _ _ _ n=>n)
   (fun b o hc e=> ⟨o,hk b o hc e⟩) (fun _ _ e=>e) (fun _ _ _ e=>e) (fun b ps e=> ⟨#[],by rw[e];simp⟩) (fun m hm=> ?_) (fun b o e=> ?_) I.bare
  ·obtain⟨f0,f1,f2,f3,f4,f5⟩:=hf b hb
   exact⟨f3,f1,f4,f5⟩
  ·obtain⟨o,es,ep,ho,r⟩:=hm
   exact⟨o,es,ep,hk _ o (fun hb=> (hf _ hb).2.1 rfl) ho,r⟩
  ·have nb: ∀c o',H c=some o'→c∉ [z,it]:=fun c o' e hb=>by
    rw[(hf c hb).1] at e;cases e
   refine(I.aG b o e).gu (fun c q dP e'=>hk c q ?_ e') (fun _ q=>q) fun _ _ q=>q
   rcases dP with rfl | dP
   ·exact nb _ _ e
   ·exact nb _ _ dP
 self:=fun A i s Q E st hQ=>by
  obtain⟨⟨old,hz⟩,_⟩:=st
  exact wpAny_pyIter_enum hz hQ
theorem Rl:bootBuiltins "enumerate"=some (.type "enumerate"):=by decide+kernel
theorem Rm{X:Cx}{elts:List Expr}{k:Nat}{ui:Pos}{a:Expr}{ta:TA}{p pos:Pos}(hg:Gl X "enumerate")(hm:X.mg "enumerate"=none)(ha:PA X [a] ta)
  (hs:starEach [a] X.env=[(false,eval a X.env)]):PI X (.Tuple elts k ui) (.Call (.Name "enumerate" p) [a] [] pos) (vd X.K ta):=by
 intro pins s σ H R I h
 refine Call_ (nk I hg hm Rl (PyProof.Rows.callWith_type1 (aO (ha pos pins s σ H _ I h) fun us s1 ⟨vs,H1,I1,r1,q1⟩=> ?_) hs rfl))
 obtain⟨l1,e,⟨xs,hx⟩,q⟩:=q1
 subst e
 obtain⟨u,rfl,ru⟩:=vals1 r1
 cases ru
 obtain⟨jr,rr1,p1,z1⟩:=I1.list hx
 refine call_enumerate_list p1.isList fun h' a1 a2 a3 hk=> ?_
 refine wpAny_pyIter_enum a1 ?_
 have lt1: @LT.lt Nat _ l1 s1.heap.objs.size:=by obtain⟨_,e,_⟩:=p1.isList;exact Heap.lt_size e
 have I2:Inv X pins σ H1 {s1 with heap:=h'}:=I1.kept (t':=s1.toks) hk
 refine⟨_,_,_,_,H1,rfl,I2,Rg (z:=s1.heap.objs.size+1) (it:=s1.heap.objs.size) (l:=l1) (by show @Ne Nat _ _;omega) (by show @Ne Nat _ _;omega) (by show @Ne Nat _ _;omega),⟨⟨_,a1⟩,a2⟩,fun b' hb=> ?_,q⟩
 have hle:s1.heap.objs.size≤b':=by
  simp only[List.mem_cons,List.not_mem_nil,or_false] at hb
  rcases hb with rfl | rfl
  ·exact Nat.le_add_right _ _
  ·exact Nat.le_refl _
 have:=I1.t5 (b:=b') (H':=H1) hle (I1.aG.fresh hle)
 exact this
theorem Rn{K:PySem.W.Frag}{a:Addr}{xs:List V}{g:TG}{tb:TS}{D:Ends}{σ:St}{H:Hp}(Pv:Nat→St→Hp→Prop)(h0:Pv 0 σ H)(ha: ∀i σ H,Pv i σ H→aC K H a xs)
  (hs: ∀i x σ H T,xs[i]?=some x→Pv i σ H→H T=none→g (.ref T) σ (upd H T (.tup [.int (i:Nat),x])) fun σ2 H2=>tb {D with nx:=Pv (i+1),ct:=Pv (i+1),bk:=D.nx} σ2 H2) (hd: ∀σ H,Pv xs.length σ H→D.nx σ H):
  ∃W:Nat→Nat→St→Hp→Prop,(∃m,W 0 m σ H)∧ ∀i m σ H,W i m σ H→
   ((nV K a).stop i H∧D.nx σ H)∨((nV K a).go i H∧ ∃N:St→Hp→Prop,(∀σ' H',N σ' H'→ ∃m',m'<m∧W (i+1) m' σ' H')∧ ∀x H',(nV K a).d9 i H x H'→g x σ H' fun σ2 H2=>tb {D with nx:=N,ct:=N,bk:=D.nx} σ2 H2):=by
 refine⟨fun i m σ H=>m=xs.length - i∧i≤xs.length∧Pv i σ H,⟨xs.length,by simp,Nat.zero_le _,h0⟩, ?_⟩
 rintro i m σ H ⟨rfl,hi,p⟩
 have q1:=ha i σ H p
 by_cases bc:i<xs.length
 ·refine .inr ⟨⟨xs,q1,bc⟩,Pv (i+1),fun σ' H' p'=> ⟨xs.length - (i+1),by omega,rfl,bc,p'⟩,fun x H' y=> ?_⟩
  obtain⟨T,hT,rfl,y⟩:=y
  have e:=y xs xs[i] q1 (by simp[bc])
  subst e
  exact hs i xs[i] σ H T (by simp[bc]) p hT
 ·have e:i=xs.length:=by omega
  subst e
  exact .inl ⟨⟨xs,q1,rfl⟩,hd σ H p⟩
end L2
set_option maxHeartbeats 400000
namespace L2
open PySem PySem.Spec PyProof.Rows
section
variable {prog:Program} {w:World} {A:Around} {E:Value→Shared→Prop} {s:Shared}
end
end L2
set_option maxHeartbeats 1000000
namespace L2
open PySem PySem.Spec PyProof.Rows PySem.W
section
variable {prog:Program} {w:World} {A:Around} {E:Value→Shared→Prop} {s:Shared} {K:Frag} {x D:Addr} {ox:Obj}
end
end L2
set_option maxHeartbeats 400000
namespace L2
open PySem PySem.Spec PyProof.Rows
inductive bF (J:Shared→Prop) {α:Type}:Sem α→Prop
 | pure (a:α):bF J (.pure a)
 | raise (e:Value):bF J (.raise e)
 | unsupported (w:String):bF J (.unsupported w)
 | rule {t:String} {k:Unit→Sem α}:bF J (k ())→bF J (.rule t k)
 | load {a:Addr} {p:Option Value} {k:Obj→Sem α}:(∀o,bF J (k o))→bF J (.load a p k)
 | update {a:Addr} {p:Option Value} {f:Obj→Obj} {k:Unit→Sem α}:(∀s,J s→J {s with heap:=s.heap.update a f})→bF J (k ())→bF J (.update a p f k)
 | alloc {o:Obj} {k:Addr→Sem α}:(∀s,J s→J {s with heap:=s.heap.push o})→(∀a,bF J (k a))→bF J (.alloc o k)
 | stack {k:List (Code×Pos)→Sem α}:(∀t,bF J (k t))→bF J (.stack k)
theorem Ro{M:Model}{Γ:PySem.Ctx}{J:Shared→Prop}{α:Type}{t:Sem α}(kt:bF J t): ∀{Q:α→Pos→Shared→Prop} {E:Value→Pos→Shared→Prop} {p:Pos} {s:Shared},J s→Sem.wp M Γ t Q E p s→
  Sem.wp M Γ t (fun a p s=>Q a p s∧J s) (fun e p s=>E e p s∧J s) p s:=by
 induction kt with
 | pure a=>intro Q E p s j h;rw[Sem.wp] at h⊢;exact⟨h,j⟩
 | raise e=>intro Q E p s j h;rw[Sem.wp] at h⊢;exact⟨h,j⟩
 | unsupported w=>intro Q E p s j h;rw[Sem.wp] at h;exact h.elim
 | rule _ ih=>intro Q E p s j h;rw[Sem.wp] at h⊢;exact ih j h
 | load _ ih=>intro Q E p s j h;rw[Sem.wp] at h⊢;obtain⟨o,e,h⟩:=h;exact⟨o,e,ih o j h⟩
 | update f _ ih=>intro Q E p s j h;rw[Sem.wp] at h⊢;exact⟨h.1,ih (f _ j) h.2⟩
 | alloc f _ ih=>intro Q E p s j h;rw[Sem.wp] at h⊢;exact ih _ (f _ j) h
 | stack _ ih=>intro Q E p s j h;rw[Sem.wp] at h⊢;exact ih _ j h
theorem Gq{M:Model}{A:Around}{J:Shared→Prop}{α:Type}{t:Sem α}{Q:α→Shared→Prop}{E:Value→Shared→Prop}{s:Shared}(k:bF J t)(j:J s)(h:wpAny M A t Q E s):
  wpAny M A t (fun a s=>Q a s∧J s) (fun e s=>E e s∧J s) s:=fun Γ p hΓ=>Ro k j (h Γ p hΓ)
def cL(e:Addr)(s:Shared):Prop:= ∃o vs,s.heap.get? e=some o∧o.data= .fields vs∧vs[2]?=some .none∧o.dict=none
theorem Rq(f:Array Value→Array Value)(o:Obj):(Obj.mapFields f o).dict=o.dict:=by
 unfold Obj.mapFields
 split<;>rfl
theorem Rr{e a:Addr}{i:Nat}{v:Value}(hi:i≠2)(s:Shared)(j:cL e s):cL e {s with heap:=s.heap.update a (Obj.mapFields (·.setIfInBounds i v))}:=by
 obtain⟨o,vs,h1,h2,h3,h4⟩:=j
 by_cases z:a=e
 ·subst z
  have d:=Obj.data_mapFields h2 (·.setIfInBounds i v)
  exact⟨_,_,Heap.get?_update_self _ h1 (Obj.isFreed_of_fields d),d,by rw[Array.getElem?_setIfInBounds_ne hi];exact h3,(Rq _ _).trans h4⟩
 ·exact⟨o,vs,(Heap.get?_update_other _ _ z).trans h1,h2,h3,h4⟩
theorem Rt{e a:Addr}{f:Obj→Obj}(hf: ∀o,(f o).data=o.data∧(f o).dict=o.dict)(s:Shared)(j:cL e s):cL e {s with heap:=s.heap.update a f}:=by
 obtain⟨o,vs,h1,h2,h3,h4⟩:=j
 by_cases z:a=e
 ·subst z
  exact⟨_,vs,Heap.get?_update_self _ h1 (Obj.isFreed_of_fields ((hf o).1.trans h2)),(hf o).1.trans h2,h3,(hf o).2.trans h4⟩
 ·exact⟨o,vs,(Heap.get?_update_other _ _ z).trans h1,h2,h3,h4⟩
theorem Ru{e:Addr}{ob:Obj}(s:Shared)(j:cL e s):cL e {s with heap:=s.heap.push ob}:=by
 obtain⟨o,vs,h1,h2,h3,h4⟩:=j
 exact⟨o,vs,Heap.get?_push_of_some _ h1,h2,h3,h4⟩
theorem bF.bind{J:Shared→Prop}{α β:Type}{t:Sem α}{f:α→Sem β}(kt:bF J t)(h: ∀a,bF J (f a)):bF J (t>>=f):=by
 show bF J (t.bind f)
 induction kt with
 | pure a=>exact h a
 | raise e=>exact .raise e
 | unsupported w=>exact .unsupported w
 | rule _ ih=>exact .rule ih
 | load _ ih=>exact .load ih
 | update g _ ih=>exact .update g ih
 | alloc g _ ih=>exact .alloc g ih
 | stack _ ih=>exact .stack ih
section
variable {e:Addr}
theorem vj{a:Addr}:bF (cL e) (load a):= .load fun o=> .pure o
theorem vk{v x:Value}{i:Nat}(hi:i≠2):bF (cL e) (setField v i x):=by
 unfold setField
 split
 ·rename_i a
  unfold updateField
  refine vj.bind fun o=> ?_
  split
  ·split
   ·exact .update (fun s j=>Rr hi s j) (.pure ())
   ·exact .unsupported _
  ·exact .unsupported _
 ·exact .unsupported _
theorem Rv{v:Value}:bF (cL e) (fieldsOf v):=by
 unfold fieldsOf
 split
 ·refine vj.bind fun o=> ?_
  split
  ·exact .pure _
  ·exact .unsupported _
 ·exact .unsupported _
theorem qB{v:Value}{i:Nat}:bF (cL e) (field v i):=by
 unfold field
 refine Rv.bind fun vs=> ?_
 split
 ·exact .pure _
 ·exact .unsupported _
theorem Rw{v:Value}{f:Option Addr}:bF (cL e) (setFlight v f):=by
 unfold setFlight
 refine qB.bind fun tb=> ?_
 split
 ·exact vk (by decide)
 ·exact .pure _
theorem vm:bF (cL e) stack:= .stack fun t=> .pure t
theorem Rx{ty:String}{vs:List Value}:bF (cL e) (newFields ty vs):=by
 unfold newFields newObj newObjAsIs
 show bF (cL e) (if vs.toArray.size>sizeLine+2 then (unsupported "record:memory" >>=_) else _)
 split
 ·exact .unsupported _
 ·exact bF.bind (.alloc (fun s j=>Ru s j) fun a=> .pure a) fun a=> .pure _
theorem Ry{f:Addr}{b:Bool}:bF (cL e) (entryPlaceOf f b):=by
 unfold entryPlaceOf
 refine vm.bind fun alJ=> ?_
 split
 ·exact .pure _
 ·exact .pure _
theorem Gr: ∀l:List Env,bF (cL e) (readyFrames l)
 | []=> .pure _
 | env::outer=>by
  unfold readyFrames
  split
  ·refine vj.bind fun o=> ?_
   split
   ·exact .pure _
   ·refine bF.bind ?_ fun im=>bF.bind ?_ fun bk=>bF.bind (.update (fun s j=>Rt (by intro o;exact⟨rfl,rfl⟩) s j) (.pure ())) fun _=>Gr outer
    ·unfold behindIsImport
     split
     ·exact .pure _
     ·split
      ·exact .pure _
      ·exact qB.bind fun _=> .pure _
    ·unfold keptBack
     split
     ·split
      ·exact .pure _
      ·unfold underTheClaimsCaller
       exact bF.bind (vm.bind fun _=> .pure _) fun _=> .pure _
     ·exact .pure _
  ·exact .unsupported _
theorem Rz{env:Env}:bF (cL e) (PySem.frameOf env):=by
 unfold PySem.frameOf frameEnvs
 refine bF.bind (vm.bind fun _=> .pure _) fun l=> ?_
 refine bF.bind ?_ fun r=> ?_
 ·unfold frameObject
  split
  ·exact .pure _
  ·exact(Gr _).bind fun _=> .pure _
 ·split
  ·exact .pure _
  ·exact .unsupported _
theorem RA{v:Value}{env:Env}:bF (cL e) (noteFrame v env):=by
 unfold noteFrame
 split
 ·rename_i x d hq
  refine qB.bind fun hd=> ?_
  have tail:bF (cL e) (do let a ←PySem.frameOf env;let pl ←entryPlaceOf d (hd != .none);let b ←EntryCells.newEntry hd a .none (rawInt d) .none pl;setField v 1 b):=
   Rz.bind fun a=>Ry.bind fun pl=>bF.bind Rx fun b=>vk (by decide)
  dsimp only
  split
  ·refine qB.bind fun x=> ?_
   split
   ·exact .pure _
   ·exact(vk (by decide)).bind fun _=>tail
  ·exact tail
 ·exact .unsupported _
theorem Gs{v:Value}{env:Env}:bF (cL e) (leaving env v):=by
 unfold leaving
 exact RA.bind fun _=>Rw
end
end L2
set_option maxHeartbeats 4000000
namespace L2
open PySem PySem.Spec PyProof.Rows
theorem cq.vo{P:Program}{w:World}{H:Hp}{h:Heap}{a:Addr}{o:HO}(x:cq P w H h a o): ∃ob,h.get? a=some ob:=by
 cases o with
 | lst xs=>obtain⟨_,_,_,_,e⟩:=x;exact⟨_,e⟩
 | tup xs=>obtain⟨_,_,_,ob,e,_⟩:=x;exact⟨_,e⟩
 | dK aJ=>obtain⟨_,_,_,_,o,_,_,e,_⟩:=x;exact⟨_,e⟩
 | dT aJ=>obtain⟨_,_,_,_,o,_,_,e,_⟩:=x;exact⟨_,e⟩
 | set S n=>obtain⟨o,_,_,_,e,_⟩:=x;exact⟨_,e⟩
 | ins C dx fs=>obtain⟨_,_,_,e,_⟩:=x;exact⟨_,e⟩
 | own y=>obtain⟨_,e⟩:=x;exact⟨_,e⟩
 | xd fs=>obtain⟨_,⟨_,_,_,e,_⟩,_⟩:=x;exact⟨_,e⟩
 | eG lo hi=>obtain⟨_,_,_,e⟩:=x;exact⟨_,e⟩
 | bM ob u=>obtain⟨e,_⟩:=x;exact⟨_,e⟩
 | fD ps=>exact⟨_,(show h.get? a=some _ from x)⟩
 | met f y=>exact⟨_,(show h.get? a=some _ from x)⟩
 | ext φ=>obtain⟨_,⟨_,e⟩,_⟩:=x;exact⟨_,e⟩
theorem b8.Gu{P:Program}{w:World}{H:Hp}{h h':Heap}(ok:b8 P w H h)(k: ∀b u,H b≠none→h.get? b=some u→h'.get? b=some u):b8 P w H h':=fun a o e=>
 (ok a o e).gu (fun b u hb hu=>k b u (by
  rcases hb with rfl | hb
  ·rw[e];exact Option.some_ne_none _
  ·rw[hb];exact Option.some_ne_none _) hu) (fun _ z=>z) (fun _ _ z=>z)
def dS(P:Program)(w:World):aL:=fun outer H s E e s'=> ∃(ea:Addr) (cls:Value) (t:Addr) (B:Heap) (H':Hp),
 e= .ref ea∧s'.os=s.os∧AllBare s'.gens∧Un (bS outer) [] H H' s.heap s'.heap∧b8 P w H' s'.heap∧Heap.FlyingW B outer ea cls (.ref t) s'.heap∧cL ea s'∧H' ea=none∧
 (∀b,H' b≠none→ ∀o,s'.heap.get? b=some o→B.get? b=some o)∧(∀b o,s.heap.get? b=some o→b∉bS outer→ ∀o',s'.heap.get? b=some o'→B.get? b=some o')∧E cls none H'
theorem Gv{P:Program}{w:World}{outer:List Env}{H:Hp}{s:Shared}{e:Value}{s':Shared}(h:dS P w outer H s E0 e s'):False:=by
 obtain⟨_,_,_,_,_,_,_,_,_,_,_,_,_,_,_,h⟩:=h
 exact h
section
variable {P:Program} {w:World} {K:PySem.W.Frag} {mg:Str→Option Value} {base:Heap} {N:List Str} {qual:Str} {scope:Scope} {f:Addr} {cd:Value} {A:Around} {outer:List Env} {s₀:Shared} {H₀:Hp} {E:XK}
theorem RB:Passes (dS P w) (je (dS P w) P w K mg base N qual scope f cd A outer s₀ H₀ E) E:=by
 intro pins σ H s e s' I hx
 obtain⟨ea,cls,t,B,H',rfl,os,bare,u,aG,fl,vp,RC,c1,c2,hE⟩:=hx
 have vq:=I.ok.frames
 have hL:s₀.heap.objs.size≤ (envOfC qual scope s₀.heap.objs.size f cd).locals:=I.ok.above
 have nL: ∀b o,s₀.heap.get? b=some o→b∉bS outer→b∉bS (envOfC qual scope s₀.heap.objs.size f cd::outer):=fun b o hb hn hm=>by
  have vv:b∈ (envOfC qual scope s₀.heap.objs.size f cd).locals::bS outer:=hm
  rcases List.mem_cons.mp vv with rfl | z
  ·exact absurd (Heap.lt_size hb) (Nat.not_lt.mpr hL)
  ·exact hn z
 have m_: ∀b∈bS (envOfC qual scope s₀.heap.objs.size f cd::outer),H' b=none:=fun b hb=>by
  obtain⟨o,ho,_⟩:=(I.stack.mem hb).2
  exact u.free b o ho (I.pG b hb) List.not_mem_nil
 refine wpAny_mono (Gq Gs vp (wpAny_leaves_onW (Q:=fun _ gE=> ∃h',gE={s' with heap:=h'}∧Heap.FlyingW B outer ea cls (.ref t) h'∧s'.heap.UpToSlots h') (E:=fun _ _=>False) vq rfl fl fun h' fR up=> ⟨h',rfl,fR,up⟩))
  (fun _ gE hq=> ?_) (fun _ _ z=>z.1.elim)
 obtain⟨⟨h',rfl,fR,up⟩,vw⟩:=hq
 have into: ∀b o,s.heap.get? b=some o→b∉bS (envOfC qual scope s₀.heap.objs.size f cd::outer)→ ∀o',s'.heap.get? b=some o'→h'.get? b=some o':=fun b o hb hn o' dF=>fR.1 b o' (c2 b o hb hn o' dF)
 have i7: ∀b o,H' b≠none→s'.heap.get? b=some o→h'.get? b=some o:=fun b o hb ho=>fR.1 b o (c1 b hb o ho)
 have js: ∀b∈bS (envOfC qual scope s₀.heap.objs.size f cd::outer),∀o,s'.heap.get? b=some o→ ∃sl,h'.get? b=some {o with slots:=sl}:=fun b hb o ho=>by
  obtain⟨o1,nY,hd⟩:=(fl.2.2.1.mem hb).2
  rw[ho] at nY
  cases nY
  exact up b o ho hd
 refine⟨ea,cls,t,B,H',rfl,os.trans I.os,bare,⟨fun b o q n hn _=> ?_,fun b o q n hn _=> ?_,fun b o q n _=> ?_,fun b o q _=> ?_,fun b xs q=>u.b6 b xs (I.base.b6 b xs q),fun b o v q=>u.dO b o v (I.base.dO b o v q),fun b ps q=> ?_⟩,
  aG.Gu (fun b o hb ho=>i7 b o hb ho),fR,vw,RC,fun b hb o ho=> ?_,fun b o q hn o' dF=> ?_,hE⟩
 ·have q1:=I.base.keep b o q n hn List.not_mem_nil
  have n1:=I.base.free b o q n List.not_mem_nil
  have eJ:=nL b o q hn
  exact into b o q1 eJ o (u.keep b o q1 n1 eJ List.not_mem_nil)
 ·obtain⟨sl,q1⟩:=I.base.slot b o q n hn List.not_mem_nil
  have n1:=I.base.free b o q n List.not_mem_nil
  have eJ:b∈bS (envOfC qual scope s₀.heap.objs.size f cd::outer):=List.mem_cons_of_mem _ hn
  obtain⟨nB,q2⟩:=u.slot b _ q1 n1 eJ List.not_mem_nil
  obtain⟨nZ,q3⟩:=js b eJ _ q2
  exact⟨nZ,q3⟩
 ·obtain⟨o1,q1⟩:=I.base.there b o q List.not_mem_nil
  exact u.free b o1 q1 (I.base.free b o q n List.not_mem_nil) List.not_mem_nil
 ·obtain⟨o1,q1⟩:=I.base.there b o q List.not_mem_nil
  obtain⟨o2,q2⟩:=u.there b o1 q1 List.not_mem_nil
  by_cases hm:b∈bS (envOfC qual scope s₀.heap.objs.size f cd::outer)
  ·obtain⟨sl,q3⟩:=js b hm o2 q2
   exact⟨_,q3⟩
  ·exact⟨o2,into b o1 q1 hm o2 q2⟩
 ·obtain⟨m1,e1⟩:=I.base.d6 b ps q
  obtain⟨m2,e2⟩:=u.d6 b _ e1
  exact⟨m1++m2,by rw[e2,Array.append_assoc]⟩
 ·obtain⟨ib,hH⟩:=Option.ne_none_iff_exists'.mp hb
  obtain⟨o2,q2⟩:=(aG b ib hH).vo
  have q3:=i7 b o2 hb q2
  have e8:h'.get? b=some o:=ho
  rw[q3] at e8
  cases e8
  exact c1 b hb _ q2
 ·obtain⟨o1,q1⟩:=I.base.there b o q List.not_mem_nil
  obtain⟨o2,q2⟩:=u.there b o1 q1 List.not_mem_nil
  have eJ:=nL b o q hn
  have q3:=into b o1 q1 eJ o2 q2
  have e8:h'.get? b=some o':=dF
  rw[q3] at e8
  cases e8
  exact c2 b o1 q1 eJ _ q2
def Raises(X:Cx)(E:XK):Prop:= ∀(pins:List (Addr×Obj)) (σ:St) (H:Hp) (s:Shared) (h':Heap) (e:Addr) (cls:Value) (vs:List Value),Inv X pins σ H s→Heap.MadeExcOf s.heap h' e cls vs→E cls none H→X.xe (.ref e) {s with heap:=h'}
theorem RD:Raises (je (dS P w) P w K mg base N qual scope f cd A outer s₀ H₀ E) E:=by
 intro pins σ H s h1 e cls vs I hx hE
 have vq:=I.ok.frames
 have hL:s₀.heap.objs.size≤ (envOfC qual scope s₀.heap.objs.size f cd).locals:=I.ok.above
 have nL: ∀b o,s₀.heap.get? b=some o→b∉bS outer→b∉bS (envOfC qual scope s₀.heap.objs.size f cd::outer):=fun b o hb hn hm=>by
  have vv:b∈ (envOfC qual scope s₀.heap.objs.size f cd).locals::bS outer:=hm
  rcases List.mem_cons.mp vv with rfl | z
  ·exact absurd (Heap.lt_size hb) (Nat.not_lt.mpr hL)
  ·exact hn z
 have mv: ∀env∈ (envOfC qual scope s₀.heap.objs.size f cd::outer),∀b,env.frame=some b→b∈bS (envOfC qual scope s₀.heap.objs.size f cd::outer):=fun env he b hb=>List.mem_filterMap.mpr ⟨env,he,hb⟩
 have vp:cL e {s with heap:=h1}:=by
  obtain⟨t,ht,_,_⟩:=hx.there
  exact⟨_,_,ht,rfl,rfl,rfl⟩
 refine wpAny_mono (Gq Gs vp (wpAny_leaves_madeW (Q:=fun _ gE=> ∃h' t,gE={s with heap:=h'}∧Heap.FlyingW (hideAll s.heap (bS (envOfC qual scope s₀.heap.objs.size f cd::outer))) outer e cls (.ref t) h'∧h1.UpToSlots h') (E:=fun _ _=>False)
  vq rfl (fun b o q=>of_hideAll _ q) (PySem.W.funFrames_hide I.stack mv) hx fun h' t fR _ _ up=> ⟨h',t,rfl,fR,up⟩)) (fun _ gE hq=> ?_) (fun _ _ z=>z.1.elim)
 obtain⟨⟨h',t,rfl,fR,up⟩,vw⟩:=hq
 have into: ∀b o,s.heap.get? b=some o→b∉bS (envOfC qual scope s₀.heap.objs.size f cd::outer)→h'.get? b=some o:=fun b o hb hn=>fR.1 b o (hideAll_get _ hb hn)
 have vx: ∀b,H b≠none→b∉bS (envOfC qual scope s₀.heap.objs.size f cd::outer):=fun b hb hm=>hb (I.pG b hm)
 have js: ∀b∈bS (envOfC qual scope s₀.heap.objs.size f cd::outer),∀o,s.heap.get? b=some o→ ∃sl,h'.get? b=some {o with slots:=sl}:=fun b hb o ho=>by
  obtain⟨o1,nY,hd⟩:=(I.stack.mem hb).2
  rw[ho] at nY
  cases nY
  exact up b o (hx.keeps b o ho) hd
 refine⟨e,cls,t,_,H,rfl,I.os,I.bare,⟨fun b o q n hn _=> ?_,fun b o q n hn _=> ?_,fun b o q n _=>I.base.free b o q n List.not_mem_nil,fun b o q _=> ?_,I.base.b6,I.base.dO,I.base.d6⟩,
  I.aG.Gu (fun b o hb ho=>into b o ho (vx b hb)),fR,vw, ?_,fun b hb o ho=> ?_,fun b o q hn o' dF=> ?_,hE⟩
 ·exact into b o (I.base.keep b o q n hn List.not_mem_nil) (nL b o q hn)
 ·obtain⟨sl,q1⟩:=I.base.slot b o q n hn List.not_mem_nil
  obtain⟨nZ,q3⟩:=js b (List.mem_cons_of_mem _ hn) _ q1
  exact⟨nZ,q3⟩
 ·obtain⟨o1,q1⟩:=I.base.there b o q List.not_mem_nil
  by_cases hm:b∈bS (envOfC qual scope s₀.heap.objs.size f cd::outer)
  ·obtain⟨sl,q3⟩:=js b hm o1 q1
   exact⟨_,q3⟩
  ·exact⟨o1,into b o1 q1 hm⟩
 ·cases q:H e with
  | none=>rfl
  | some ho=>
   obtain⟨o2,q2⟩:=(I.aG e ho q).vo
   rw[hx.new] at q2
   cases q2
 ·obtain⟨ib,hH⟩:=Option.ne_none_iff_exists'.mp hb
  obtain⟨o2,q2⟩:=(I.aG b ib hH).vo
  have q3:=into b o2 q2 (vx b hb)
  have e8:h'.get? b=some o:=ho
  rw[q3] at e8
  cases e8
  exact hideAll_get _ q2 (vx b hb)
 ·obtain⟨o1,q1⟩:=I.base.there b o q List.not_mem_nil
  have eJ:=nL b o q hn
  have q3:=into b o1 q1 eJ
  have e8:h'.get? b=some o':=dF
  rw[q3] at e8
  cases e8
  exact hideAll_get _ q1 eJ
end
section
variable {X:Cx}
theorem RF{x:Str}{C:Addr}{bm:List Value}{B newId mw:String}{e:Expr}{es:List Expr}{t:TA}{np cz pos:Pos}{E:XK}(hc:X.calm=true)(O:OwnCls x C bm newId X.mg X.base)(FB:ExcBaseFacts B newId mw bm)(RG:Gl X x)
  (hd:(x==("__debug__":Str))=false) (ha:PA X (e::es) t) (hs:starEach (e::es) X.env=(false,eval e X.env)::starEach es X.env) (h1:(backTo cz (starEach es X.env)).any (·.1)=false) (hR:Raises X E):
  PS X (.Raise (some (.Call (.Name x np) (e::es) [] cz)) none pos) (uX C E t):=by
 intro pins s σ H D I h
 obtain⟨tl,N,nm,q,bs,hdct,sn,sub,ab,col,dd,k0,k1,k2,k3,k5,mN,hC,hN,qC,T⟩:=O.obj
 have hg:PE X (.Name x np) (tC (.ref C)):=D2 RG O.bound rfl hd
 refine wpAny_Raise_call_subT (C:=C) (nm:=nm) (q:=q) (N:=N) (bs:=bs) (bm:=tl) (hdct:=hdct) (sn:=sn) (sub:=sub) (ab:=ab) (col:=col) (dd:=dd) (k0:=k0) (k1:=k1) (k2:=k2) (k3:=k3) (k5:=k5)
  FB (mN:=mN) (T.hasType FB.hasBase) (I.ok.hd hc) (by rw[hs];show(false || (backTo cz (starEach es X.env)).any (·.1))=false;rw[h1];rfl) qC
  (aO (hg pins s σ H (fun v H1=>v= .ref C∧uX C E t D σ H1) I ⟨rfl,h⟩) fun f s1 ⟨v,H1,I1,r1,ev,q1⟩=> ?_)
 subst ev
 obtain rfl:f=Value.ref C:=r1
 refine⟨rfl, ?_⟩
 have hA:=ha cz pins s1 σ H1 _ I1 q1
 rw[hs] at hA⊢
 refine Calls.evalArgs_plain (aO hA fun us s2 ⟨vs,H2,I2,r2,hl,q2⟩=> ⟨rfl, ?_,I2.bk _ _ hC,hN.keeps I2.bk,T.keeps I2.bk,fun h' e' hm=>hR pins σ H2 s2 h' e' _ _ I2 hm q2⟩)
 have:=r2.length
 show us.length≤sizeLine
 omega
end
section
variable {X:Cx}
end
def Gw(A:Around)(H:Hp):Prop:= ∃e D,A.handled=some (.ref e)∧ExcAt H e D
def Hd(X:Cx):Prop:=Gw X.A X.H₀
section
variable {X:Cx} {pins:List (Addr×Obj)} {σ:St} {H:Hp} {s:Shared}
end
section
variable {X:Cx} {tg:Expr}
end
structure vy (k:Nat) (A:Around):Prop where
 dp:A.depth+3*k+5<recursionLimit
 un:A.units+16*k+200<cLine
theorem cm.h{k:Nat}{A:Around}(r:cm k A):vy k A:=⟨r.dp,r.un⟩
def RH(outer:List Env)(P:Program)(w:World)(H:Hp)(s:Shared)(Q:VK)(r:Result)(s':Shared):Prop:=
 match r with
 | .ok (.ret u)=>CE outer P w H s Q u s'
 | _=>False
structure Gx (P:Program) (w:World) (K:PySem.W.Frag) (mg:Str→Option Value) (base:Heap) (k:Nat) (f:Addr) (fd:FuncData) (ps:List Str) (sp:Sp):Prop where
 len: ∀vs H Q E,sp vs H Q E→vs.length=ps.length
 run: ∀(A:Around) (outer:List Env) (s:Shared) (H:Hp) (args:Args) (us:List Value) (vs:List V) (Q:VK),vy k A→Gw A H→h_ P w K mg base A outer s H→BindsTo s fd args (ps.zip us)→Vals vs us→sp vs H Q E0→
  codeAny (model P w) A (.call (.ref f) args) (RH outer P w H s Q) s
section
variable {X:Cx} {k:Nat} {f:Addr} {fd:FuncData} {ps:List Str} {sp:Sp} {x:Str} {p pos:Pos} {e:Expr} {ta:TE} {hv:Option Addr}
end
def Gy(CX:aL)(X:Cx)(x:Str)(sp:Sp):Prop:=
 ∃k f fd ps,cn X.prog X.w X.K X.mg X.base CX k f fd ps sp∧cm k X.A∧X.mg x=some (.ref f)∧keepIn X.K (.ref f)=true∧Binds X.K fd ps []
def qD(CX:aL)(X:Cx)(C:Addr)(m:Str)(sp:Sp):Prop:=
 dH X.K C∧ ∃k f fd ps,Meth X.K C m f∧cn X.prog X.w X.K X.mg X.base CX k f fd ps sp∧cm k X.A∧Binds X.K fd ps []
def Gz(CX:aL)(X:Cx)(x:Str)(C:Addr)(sp:Sp):Prop:=
 ∃k f fd ps,Mk X.K C f∧cn X.prog X.w X.K X.mg X.base CX k f fd ps sp∧cm (k+1) X.A∧X.mg x=some (.ref C)∧Binds X.K fd ps []
def GA(X:Cx)(x:Str)(sp:Sp):Prop:=
 ∃k f fd ps,Gx X.prog X.w X.K X.mg X.base k f fd ps sp∧vy k X.A∧X.mg x=some (.ref f)∧keepIn X.K (.ref f)=true∧Binds X.K fd ps []
def GB(X:Cx)(x:Str)(C:Addr):Prop:= ∃bm B newId mw,OwnCls x C bm newId X.mg X.base∧ExcBaseFacts B newId mw bm
structure Good (CX:aL) (S:cJ) (Γ:aE) (X:Cx):Prop where
 N:X.N=S.N
 sc:X.env.scope=S.sc
 K:X.K=Γ.K
 calm:S.md=0→X.calm=true
 units:X.A.units+64<cLine
 fns:S.md=0→ ∀j x,S.fn[j]?=some x→Gy CX X x (Γ.fs j)
 qE: ∀j x,S.gn[j]?=some x→ ∃u,X.mg x=some u∧RelV (Γ.gv j) u
 fS: ∀x,S.bl.contains x=true→X.mg x=none
 pass:Passes CX X Γ.E
 qF: ∀outer H s e s',CX outer H s E0 e s'→False
 qG: ∀p aJ,Γ.sd p aJ→ ∀h:Heap,X.K.In h→ ∃vs,KV aJ vs∧h.DictOf (fA X.prog X.w) p vs
 n6:S.md=0→ ∀j m,S.mn[j]?=some m→qD CX X (Γ.ms j).1 m (Γ.ms j).2
 n_:S.md=0→ ∀j x,S.kn[j]?=some x→Gz CX X x (Γ.kt j).1 (Γ.kt j).2
 vz: ∀j x,S.en[j]?=some x→GB X x (Γ.ex j)
 vA: ∀j x,S.hn[j]?=some x→GA X x (Γ.hs j)
 vB: ∀e,Γ.hv=some e→X.A.handled=some (.ref e)
 GC:S.md=1→Hd X
theorem qH{S:cJ}(h:(if S.md=0 then 0 else 2)=0):S.md=0:=by
 split at h
 ·assumption
 ·cases h
section
variable {CX:aL} {S:cJ} {Γ:aE} {X:Cx}
theorem Good.inner(G:Good CX S Γ X)(c:nW)(ln:List Str)(fv:List (Str×Nat))(ex:List Addr)(C:Addr)(s:Shared)(H:Hp):
  Good CX (Gn S c ln fv) Γ.calm (ef X c.sc (ln++fv.map (·.1)) ex C s H) where
 N:=rfl
 sc:=by
  show relabel c.sc X.env=vf c.sc S.sc
  rw[←G.sc];rfl
 K:=G.K
 calm:=fun h=>G.calm (qH h)
 units:=G.units
 fns:=fun m j x h=>G.fns (qH m) j x h
 qE:=G.qE
 fS:=G.fS
 pass:=fun _ _ _ _ _ _ _ h=> (G.qF _ _ _ _ _ h).elim
 qF:=G.qF
 qG:=G.qG
 n6:=fun z j m h=>G.n6 (qH z) j m h
 n_:=fun z j x h=>G.n_ (qH z) j x h
 vz:=fun j x h=>by simp[Gn] at h
 vA:=fun j x h=>G.vA j x h
 vB:=fun e h=>G.vB e h
 GC:=fun h=>by
  have h':(if S.md=0 then 0 else 2)=1:=h
  split at h'<;>cases h'
theorem Good.gl(G:Good CX S Γ X){x:Str}(h:iq S.sc x=true):Gl X x:=by
 show X.env.scope.names.lookup x=_
 rw[G.sc];exact Rf h
theorem dq{e:Expr}{es:List Expr}{env:Env}(h:noStar e=true):starEach (e::es) env=(false,eval e env)::starEach es env:=by
 cases e<;>first | rfl | cases h
theorem jj{o:Expr}{x:Str}{env:Env}(h:iu o=true):attributeBase o x env (eval o env)=eval o env:=by
 unfold attributeBase
 split
 ·cases h
 ·rfl
theorem vC{e:Expr}{env:Env}(h:nX e=true): ∀x,foldedSetIterable e env x=pure x:=by
 intro x
 cases e<;>first | rfl | cases h
def dU(es:List Expr):Bool:=es.all noStar
theorem gM(env:Env)(pos:Pos): ∀(es:List Expr),dU es=true→(backTo pos (starEach es env)).any (·.1)=false
 | [],h=>rfl
 | e::es,h=>by
  simp only[dU,List.all_cons,Bool.and_eq_true] at h
  rw[dq h.1]
  have ih:=gM env pos es h.2
  show(false || (backTo pos (starEach es env)).any (·.1))=false
  rw[ih];rfl
theorem vD(env:Env)(pos:Pos): ∀(es:List Expr),dU es=true→(backTo pos (starEach es env)).all (fun x=> !x.1)=true
 | [],h=>rfl
 | e::es,h=>by
  simp only[dU,List.all_cons,Bool.and_eq_true] at h
  rw[dq h.1]
  have ih:=vD env pos es h.2
  show(!false && (backTo pos (starEach es env)).all (fun x=> !x.1))=true
  rw[ih];rfl
theorem dz{e:Expr}{es:List Expr}(h:dU (e::es)=true):noStar e=true∧dU es=true:=by
 simp only[dU,List.all_cons,Bool.and_eq_true] at h
 exact h
theorem RI(G:Good CX S Γ X){c:nW}{ln:List Str}{fv:List (Str×Nat)}(h:vh S c ln fv=true):
  gI X c.sc ln fv∧(∀x∈ln,c.sc.names.lookup x=some .local)∧(ln++fv.map (·.1)).Nodup∧nX c.iter=true:=by
 simp only[vh,Bool.and_eq_true,decide_eq_true_eq,List.all_eq_true,Bool.or_eq_true] at h
 obtain⟨⟨⟨⟨⟨⟨⟨h1,h2⟩,h3⟩,h4⟩,h5⟩,h6⟩,h7⟩,h8⟩:=h
 refine⟨⟨h1,fun y hy=>h2 y hy,fun y hy hl=> ?_,fun y hy hf=> ?_,fun p hp=> ?_⟩,h6,h7,h8⟩
 ·rcases h3 y hy with z | z
  ·exact absurd hl z
  ·exact z
 ·show X.env.scope.names.lookup y.1=_∨X.env.scope.names.lookup y.1=_
  rw[G.sc]
  rcases h4 y hy with(z | z) | z
  ·exact absurd hf z
  ·exact .inl z
  ·exact .inr z
 ·rw[G.N];exact h5 p hp
theorem RJ(hc:X.calm=true){c:nW}{tk:Option Nat}{ln:List Str}{fv:List (Str×Nat)}(h:vg tk c.tg=some ln)(hl: ∀x∈ln,c.sc.names.lookup x=some .local)(hn:(ln++fv.map (·.1)).Nodup):
  qh X c.sc ln fv c.tg tk:=by
 unfold vg at h
 split at h
 ·rename_i x p he
  cases h
  rw[he]
  exact Qg (hl x (by simp)) hn
 ·rename_i x p y q k pos he
  cases h
  rw[he]
  exact Qi hc (hl x (by simp)) (hl y (by simp)) hn
 ·cases h
theorem RK{xs:List V}{H:Hp}{Q:VK}{K:PySem.W.Frag}(h:jo K .int xs H Q):(∃i,xs=[.int i]∧Q (.int i) H)∨ ∃k,xs=[.bl k]∧Q (.int (if k then 1 else 0)) H:=by
 match xs,h with
 | [.int i],h=>exact .inl ⟨i,rfl,h⟩
 | [.bl k],h=>exact .inr ⟨k,rfl,h⟩
theorem RL{K:PySem.W.Frag}{x:V}{H:Hp}{Q:Nat→Prop}(h:nM K x H Q): ∃n,EB K x H n∧Q n:=by
 match x,h with
 | .str y,h=>exact⟨_,⟨h.1,rfl⟩,h.2⟩
 | .ref p, .inl ⟨xs,a,b⟩=>exact⟨_, .inl ⟨xs,a,rfl⟩,b⟩
 | .ref p, .inr ⟨xs,a,b⟩=>exact⟨_, .inr ⟨xs,a,rfl⟩,b⟩
inductive RM (X:Cx) (b:gK):Prop where
 | fn (id:String) (hv:bootBuiltins b.nm=some (.builtin id)) (hc:bT X (.builtin id) (jo X.K b))
 | ty (T:String) (hv:bootBuiltins b.nm=some (.type T)) (hc:bT X (.type T) (jo X.K b))
theorem boot_min:bootBuiltins "min"=some (.builtin "min"):=by decide+kernel
theorem boot_max:bootBuiltins "max"=some (.builtin "max"):=by decide+kernel
theorem boot_abs:bootBuiltins "abs"=some (.builtin "abs"):=by decide+kernel
theorem boot_sum:bootBuiltins "sum"=some (.builtin "sum"):=by decide+kernel
theorem GD:bootBuiltins "isinstance"=some (.builtin "isinstance"):=by decide+kernel
theorem RN:bootBuiltins "int"=some (.type "int"):=by decide+kernel
theorem RO:bootBuiltins "list"=some (.type "list"):=by decide+kernel
theorem RP:bootBuiltins "tuple"=some (.type "tuple"):=by decide+kernel
theorem vE(f:Nat→Int)(lt:Nat→Nat→Bool)(h: ∀i j,lt i j=decide (f i<f j)): ∀n,argBest lt n≤n∧ ∀i,i≤n→f (argBest lt n)≤f i
 | 0=> ⟨Nat.le_refl _,fun i hi=>by
   obtain rfl:i=0:=by omega
   exact Int.le_refl _⟩
 | n+1=>by
  obtain⟨a,b⟩:=vE f lt h n
  have e:argBest lt (n+1)=if lt (n+1) (argBest lt n)=true then n+1 else argBest lt n:=rfl
  rw[e,h]
  split
  ·rename_i q
   have q:=of_decide_eq_true q
   refine⟨Nat.le_refl _,fun i hi=> ?_⟩
   by_cases z:i=n+1
   ·rw[z];exact Int.le_refl _
   ·have:=b i (by omega);omega
  ·rename_i q
   have q: ¬f (n+1) <f (argBest lt n):=fun z=>q (decide_eq_true z)
   refine⟨by omega,fun i hi=> ?_⟩
   by_cases z:i=n+1
   ·rw[z];omega
   ·exact b i (by omega)
theorem GF{xs:Array (Int×Tok)}{i:Nat}(h:i<xs.size):numAt xs i=xs[i].1:=by
 unfold numAt
 rw[Array.getElem?_eq_getElem h];rfl
theorem GG{xs:Array (Int×Tok)}{i:Nat}(h:i<xs.size):numAt xs i∈xs.toList.map (·.1):=by
 rw[GF h]
 exact List.mem_map.mpr ⟨xs[i],by simp,rfl⟩
theorem GH{xs:Array (Int×Tok)}{n:Int}(h:n∈xs.toList.map (·.1)): ∃i,i<xs.size∧n=numAt xs i:=by
 obtain⟨y,hy,rfl⟩:=List.mem_map.mp h
 obtain⟨i,hi,rfl⟩:=List.getElem_of_mem hy
 have iw:i<xs.size:=by simpa using hi
 exact⟨i,iw,by rw[GF iw];simp⟩
theorem GI{pins:List (Addr×Obj)}{σ:St}{H:Hp}{s:Shared}{p:Addr}{ns:List Int}(I:Inv X pins σ H s)(hq:aC X.K H p (ns.map V.int)): ∃xs:Array (Int×Tok),s.heap.IsList p (intItems xs)∧ns=xs.toList.map (·.1):=by
 obtain⟨its,rv,pl,hz⟩:=I.list hq
 have hi:=intsAre_of rv
 obtain⟨xs,hx⟩:=hi.allInts.items
 refine⟨xs,hx ▸ pl.isList, ?_⟩
 rw[←nums_intItems,←hx]
 exact(show numsOf its.toArray.toList=ns from hi.numsOf).symm
theorem RQ(hc:X.calm=true):bT X (.builtin "min") (fun xs H Q=> ∃(p:Addr) (ns:List Int),xs=[.ref p]∧aC X.K H p (ns.map V.int)∧ns≠ []∧ ∀m:Int,m∈ns→(∀n∈ns,m≤n)→Q (.int m) H):=by
 intro pins s σ H xs us Q I r h
 obtain⟨p,ns,rfl,hq,iy,q⟩:=h
 obtain⟨u,rfl,ru⟩:=vals1 r
 cases ru
 obtain⟨xs,hl,rfl⟩:=GI I hq
 have sz:0<xs.size:=Nat.pos_of_ne_zero fun z=>iy (by rw[Array.eq_empty_of_size_eq_zero z];rfl)
 refine min_intList (I.ok.hd hc) hl sz fun v h' tk hv hk=> ?_
 obtain⟨t,rfl⟩:=intItems_at hv
 obtain⟨b1,b2⟩:=vE (numAt xs) (fun i j=>decide (numAt xs i<numAt xs j)) (fun _ _=>rfl) (xs.size - 1)
 refine⟨.int _,H,I.kept (t':=tk) hk,⟨t,rfl⟩,q _ (GG (by omega)) fun n hn=> ?_⟩
 obtain⟨i,hi,rfl⟩:=GH hn
 exact b2 i (by omega)
theorem RT(hc:X.calm=true):bT X (.builtin "max") (fun xs H Q=> ∃(p:Addr) (ns:List Int),xs=[.ref p]∧aC X.K H p (ns.map V.int)∧ns≠ []∧ ∀m:Int,m∈ns→(∀n∈ns,n≤m)→Q (.int m) H):=by
 intro pins s σ H xs us Q I r h
 obtain⟨p,ns,rfl,hq,iy,q⟩:=h
 obtain⟨u,rfl,ru⟩:=vals1 r
 cases ru
 obtain⟨xs,hl,rfl⟩:=GI I hq
 have sz:0<xs.size:=Nat.pos_of_ne_zero fun z=>iy (by rw[Array.eq_empty_of_size_eq_zero z];rfl)
 refine max_intList (I.ok.hd hc) hl sz fun v h' tk hv hk=> ?_
 obtain⟨t,rfl⟩:=intItems_at hv
 obtain⟨b1,b2⟩:=vE (fun i=> - numAt xs i) (fun i j=>decide (numAt xs i>numAt xs j)) (fun i j=>decide_eq_decide.mpr (by omega)) (xs.size - 1)
 refine⟨.int _,H,I.kept (t':=tk) hk,⟨t,rfl⟩,q _ (GG (by omega)) fun n hn=> ?_⟩
 obtain⟨i,hi,rfl⟩:=GH hn
 have:=b2 i (by omega)
 omega
theorem GJ{x:Str}{acc:Array Value}(h:ItemsOf (SignAt x) acc x.cps.size):Vals (signs x) acc.toList:=by
 have go: ∀(l:List Nat) (us:List Value),us.length=l.length→(∀(j:Nat) (v:Value),us[j]?=some v→ ∃(c:Nat) (t:Tok),l[j]?=some c∧v=Value.str ⟨#[c]⟩ t)→Vals (l.map fun c=>V.str ⟨#[c]⟩) us:=by
  intro l
  induction l with
  | nil=>
   intro us hl _
   rw[List.length_eq_zero_iff.mp hl]
   exact .nil
  | cons c l ih=>
   intro us hl hv
   cases us with
   | nil=>cases hl
   | cons u us=>
    obtain⟨c',t,e1,e2⟩:=hv 0 u rfl
    have jl:c=c':=by simpa using e1
    subst jl
    exact .cons ⟨t,e2⟩ (ih us (by simpa using hl) fun j v hj=>by
     obtain⟨c2,t2,g1,g2⟩:=hv (j+1) v (by simpa using hj)
     exact⟨c2,t2,by simpa using g1,g2⟩)
 refine go x.cps.toList acc.toList ?_ fun j v hj=> ?_
 ·have:=h.1;simpa using this
 ·obtain⟨c,t,e1,e2⟩:=h.2 j v (by simpa using hj)
  exact⟨c,t,by simpa using e1,e2⟩
theorem GK(x:Str):(signs x).length=x.length:=by simp[signs,Str.length]
theorem RU(hc:X.calm=true):bT X (.type "list") (fun xs H Q=> ∃x,xs=[.str x]∧x.length≤sizeLine∧ ∀l,H l=none→Q (.ref l) (upd H l (.lst (signs x)))):=by
 intro pins s σ H xs us Q I r h
 obtain⟨x,rfl,hx,q⟩:=h
 obtain⟨u,rfl,t,rfl⟩:=vals1 r
 refine call_list_str (I.ok.hd hc) x t (fun h' tk uJ c' hk e vF=> ?_) hx
 have rv:=GJ vF
 exact⟨.ref s.heap.objs.size,_,I.laid (t':=tk) hk (Nat.le_refl _) (show cq X.prog X.w _ h' _ (.lst (signs x)) from⟨by rw[GK];exact hx,uJ.toList,c',rv,by simpa using e⟩),rfl,q _ (I.aG.fresh (Nat.le_refl _))⟩
theorem RV(hc:X.calm=true):bT X (.type "tuple") (fun xs H Q=> ∃x,xs=[.str x]∧x.length≤sizeLine∧ ∀l,H l=none→Q (.ref l) (upd H l (.tup (signs x)))):=by
 intro pins s σ H xs us Q I r h
 obtain⟨x,rfl,hx,q⟩:=h
 obtain⟨u,rfl,t,rfl⟩:=vals1 r
 refine call_tuple_str (I.ok.hd hc) x t (fun h' tk acc hk vF=> ?_) hx
 have rv:=GJ vF
 have I1:Inv X pins σ H {s with heap:=h',toks:=tk}:=I.kept (t':=tk) hk
 have I2:Inv X pins σ (upd H h'.objs.size (.tup (signs x))) {s with heap:=h'.push {cls:= .type "tuple",data:= .seq acc},toks:=tk}:=
  I1.laid (t':=tk) (fun b o e=>Heap.get?_push_of_some _ e) (Nat.le_refl _) (show cq X.prog X.w _ _ _ (.tup (signs x)) from⟨by rw[GK];exact hx,acc.toList,rv,by simpa using IsTup.new _ _⟩)
 exact⟨.ref h'.objs.size,_,I2,rfl,q _ (I1.aG.fresh (Nat.le_refl _))⟩
theorem RW(hc:X.calm=true)(b:gK):RM X b:=by
 cases b with
 | len=>exact .fn "len" boot_len (bT.imp NV fun xs H Q h=>by
   match xs,h with
   | [x],h=>obtain⟨n,h1,h2⟩:=RL (Q:=fun n=>Q (.int n) H) h;exact⟨x,n,rfl,h1,h2⟩)
 | min=>exact .fn "min" boot_min (bT.imp ((NT hc).or (RQ hc)) fun xs H Q h=>by
   match xs,h with
   | [.int i, .int j],h=>exact .inl ⟨i,j,rfl,h⟩
   | [.ref p],⟨ns,h1,h2,h3⟩=>exact .inr ⟨p,ns,rfl,h1,h2,h3⟩)
 | max=>exact .fn "max" boot_max (bT.imp ((NS hc).or (RT hc)) fun xs H Q h=>by
   match xs,h with
   | [.int i, .int j],h=>exact .inl ⟨i,j,rfl,h⟩
   | [.ref p],⟨ns,h1,h2,h3⟩=>exact .inr ⟨p,ns,rfl,h1,h2,h3⟩)
 | sum=>exact .fn "sum" boot_sum (bT.imp (QE hc) fun xs H Q h=>by
   match xs,h with
   | [.ref p],⟨ns,h1,h2⟩=>exact⟨p,ns,rfl,h1,h2⟩)
 | abs=>exact .fn "abs" boot_abs (bT.imp NR fun xs H Q h=>by
   match xs,h with
   | [.int i],h=>exact⟨i,rfl,h⟩)
 | int=>exact .ty "int" RN (bT.imp NU fun xs H Q h=>RK h)
 | list=>exact .ty "list" RO (bT.imp (OT.or (RU hc)) fun xs H Q h=>by
   match xs,h with
   | [.ref p],⟨ys,h1,h2⟩=>exact .inl ⟨p,ys,rfl,h1,h2⟩
   | [.str x],⟨h1,h2⟩=>exact .inr ⟨x,rfl,h1,h2⟩)
 | tuple=>exact .ty "tuple" RP (bT.imp (OU.or (RV hc)) fun xs H Q h=>by
   match xs,h with
   | [.ref p],⟨ys,h1⟩=>exact .inl ⟨p,ys,rfl,h1⟩
   | [.str x],⟨h1,h2⟩=>exact .inr ⟨x,rfl,h1,h2⟩)
structure RX (X:Cx) (m:eh) (id:String):Prop where
 pa:PlainAttrs (qx m)
 slot:Slot (qx m) m.nm id
 ty:typeOf (.builtin id)=pure (.type "method_descriptor")
 mt:gG X id (nU X.K m)
theorem RY{P:Program}{w:World}{k:Key}{u:Value}(r:RelV (kV k) u):(fA P w).is k u=true:=by
 cases k with
 | inl i=>obtain⟨t,e⟩:=(show ∃t,u=Value.int i t from r);subst e;exact Mv P w i t
 | inr x=>obtain⟨t,e⟩:=(show ∃t,u=Value.str x t from r);subst e;exact Mw P w x t
theorem RZ{aJ:List (Key×V)}{vs:List (Key×Value)}(r:KV aJ vs)(k:Key){v:V}(h:jq aJ k=some v): ∃u,valueAt vs k=some u∧RelV v u:=by
 unfold KV at r
 induction r with
 | nil=>cases h
 | @cons p q ps qs hh t ih=>
  obtain⟨h1,h2⟩:=hh
  by_cases e:p.1=k
  ·have e':q.1=k:=h1.symm.trans e
   have b:valueAt (q::qs) k=some q.2:=by simp[valueAt,List.find?_cons,e']
   have a:jq (p::ps) k=some p.2:=by simp[jq,List.find?_cons,e]
   rw[a] at h
   cases h
   exact⟨_,b,h2⟩
  ·have e': ¬q.1=k:=fun z=>e (h1.trans z)
   have b:valueAt (q::qs) k=valueAt qs k:=by simp[valueAt,List.find?_cons,e']
   have a:jq (p::ps) k=jq ps k:=by simp[jq,List.find?_cons,e]
   rw[a] at h
   rw[b]
   exact ih h
theorem R0{sd:Addr→List (Key×V)→Prop}(vG: ∀p aJ,sd p aJ→ ∀h:Heap,X.K.In h→ ∃vs,KV aJ vs∧h.DictOf (fA X.prog X.w) p vs):fJ X (Ge sd):=by
 intro value slice pins s σ H x y v u Q I rx ry h hs
 obtain⟨p,aJ,k,z,rfl,rfl,hq,he,q⟩:=h
 cases rx
 obtain⟨vs,r,dd⟩:=vG p aJ hq s.heap I.ck
 obtain⟨w,ew,jf⟩:=RZ r k he
 exact subscriptTail_builtinR (x:=w) dd.mapOf.typeIs PySem.F.slot_dict_getitem.lookup
  (wpAny_getItem_of (Q:=fun r s'=>r=w∧EP X pins σ Q r s') (RY ry) dd.mapOf ew ⟨rfl,z,H,I.tok _,jf,q⟩) hs
theorem R1{sd:Addr→List (Key×V)→Prop}(vG: ∀p aJ,sd p aJ→ ∀h:Heap,X.K.In h→ ∃vs,KV aJ vs∧h.DictOf (fA X.prog X.w) p vs):fJ X (ij X.K sd):=OI.or (OJ.or (OK.or (R0 vG)))
theorem qI(y:Str): ∀{ts:List Str} {us:List Value},Vals (ts.map V.str) us→ ∀(j:Nat) (h1:j<us.length) (h2:j<ts.length),(Value.isStrOf y us[j]=(ts[j]==y))
 | [],_, .nil,j,h1,_=>absurd h1 (Nat.not_lt_zero _)
 | t::ts,_, .cons r rs,0,_,_=>by
  obtain⟨k,rfl⟩:=(show ∃k,_=Value.str t k from r)
  rfl
 | t::ts,_, .cons r rs,j+1,h1,h2=>qI y rs j (Nat.lt_of_succ_lt_succ h1) (Nat.lt_of_succ_lt_succ h2)
theorem GN{y:Str}: ∀{ts:List Str} {j:Nat},j<ts.idxOf y→ ∀(h2:j<ts.length),(ts[j]==y)=false
 | n::r,0,h,_=>by
  by_cases e:n=y
  ·subst e;simp at h
  ·simpa using e
 | n::r,j+1,h,h2=>by
  by_cases e:n=y
  ·subst e;simp at h
  ·have hb:(n==y)=false:=by simpa using e
   have h':j<r.idxOf y:=by
    rw[List.idxOf_cons,hb] at h
    exact Nat.lt_of_succ_lt_succ h
   exact GN h' (Nat.lt_of_succ_lt_succ h2)
theorem R6:gG X "list.index" (fun x vs H Q=> ∃(l:Addr) (y:Str) (ts:List Str),x= .ref l∧vs=[.str y]∧aC X.K H l (ts.map V.str)∧y∈ts∧Q (.int (ts.idxOf y:Nat)) H):=by
 intro pins s σ H x vs v us Q I rx rv h
 obtain⟨l,y,ts,rfl,rfl,hq,hy,q⟩:=h
 cases rx
 obtain⟨u,rfl,⟨t,rfl⟩⟩:=vals1 rv
 obtain⟨its,r,⟨⟨cls,dd,data,sl⟩,n,ho,hc,GO,hd⟩,hz⟩:=I.list hq
 simp only at hc hd
 subst hc hd
 have hlen:=r.length
 rw[List.length_map] at hlen hz
 have hj:ts.idxOf y<ts.length:=List.idxOf_lt_length_iff.mpr hy
 have hn:=hX
 refine call_meets PySem.F.slot_list_index ⟨_,ho,rfl⟩ PySem.F.entry_list_index (PySem.F.args_list_index_2 _ _)
  (PySem.SeqAt.list_indexAt l its.toArray n dd sl (.str y t) (Value.isStrOf y) (ts.idxOf y) (by simp;omega) (by omega) ?_ ?_) ⟨ho,fun z oe=> ?_,⟨.int _,H,I.tok _,⟨_,rfl⟩,q⟩⟩
 ·show Value.isStrOf y its[ts.idxOf y]=true
  rw[qI y r _ (by omega) hj]
  simpa using List.getElem_idxOf hj
 ·intro j vH bc
  show Value.isStrOf y its[j]=false
  rw[qI y r j (by simpa using vH) (by omega)]
  exact GN bc _
 ·have hm:z∈its:=by simpa using oe
  obtain⟨j,qJ,rfl⟩:=List.getElem_of_mem hm
  have GP:j<ts.length:=by omega
  have e:=qI y r j qJ GP
  obtain⟨k,ek⟩:=(r.get (i:=j) (x:= .str ts[j]) (by simp[GP]))
  obtain⟨R7,k2,R8⟩:=ek
  have R9:its[j]= .str ts[j] k2:=by
   have:=List.getElem?_eq_getElem qJ
   rw[R7] at this
   exact(Option.some.inj this).symm.trans R8
  rw[e,R9]
  exact PySem.SeqAt.EqAt.str_str _ _ _ _
theorem GQ{x:V}: ∀{xs:List V} {us:List Value},Vals xs us→xs.all cR=true→us.countP (cO x)=xs.countP fun y=>df y x
 | _,_, .nil,_=>rfl
 | y::xs,u::us, .cons r t,f=>by
  rw[List.all_cons,Bool.and_eq_true] at f
  rw[List.countP_cons,List.countP_cons,p_ r f.1,GQ t f.2]
theorem R_:gG X "list.count" (fun x vs H Q=> ∃(l:Addr) (y:V) (xs:List V),x= .ref l∧vs=[y]∧aC X.K H l xs∧cR y=true∧xs.all cR=true∧Q (.int (xs.countP (fun z=>df z y):Nat)) H):=by
 intro pins s σ H x vs v us Q I rx rv h
 obtain⟨l,y,xs,rfl,rfl,hq,fy,fs,q⟩:=h
 cases rx
 obtain⟨u,rfl,ru⟩:=vals1 rv
 obtain⟨its,r,⟨⟨cls,dd,data,sl⟩,n,ho,hc,GO,hd⟩,hz⟩:=I.list hq
 simp only at hc hd
 subst hc hd
 rw[←GQ r fs] at q
 exact call_meets PySem.F.slot_list_count ⟨_,ho,rfl⟩ PySem.F.entry_list_count (PySem.F.args_list_count_2 _ _)
  (PySem.SeqAt.list_countAt l its.toArray n dd sl u (cO y)) ⟨ho,fun z oe=>jg ru fy r fs z (by simpa using oe),⟨.int _,H,I.tok _,⟨_,rfl⟩,q⟩⟩
theorem Sa:gG X "list.index" (fun x vs H Q=> ∃(l:Addr) (y:V) (xs:List V),x= .ref l∧vs=[y]∧aC X.K H l xs∧cR y=true∧xs.all cR=true∧dg y xs=true∧Q (.int (xs.findIdx (fun z=>df z y):Nat)) H):=by
 intro pins s σ H x vs v us Q I rx rv h
 obtain⟨l,y,xs,rfl,rfl,hq,fy,fs,mv,q⟩:=h
 cases rx
 obtain⟨u,rfl,ru⟩:=vals1 rv
 obtain⟨its,r,⟨⟨cls,dd,data,sl⟩,n,ho,hc,GO,hd⟩,hz⟩:=I.list hq
 simp only at hc hd
 subst hc hd
 have hlen:=r.length
 have e: ∀j (h1:j<its.length) (h2:j<xs.length),cO y its[j]=df xs[j] y:=fun j h1 h2=>by
  obtain⟨w,e1,r1⟩:=r.get (i:=j) (x:=xs[j]) (by simp[h2])
  have e2:=List.getElem?_eq_getElem h1
  rw[e1] at e2
  rw[←Option.some.inj e2]
  exact p_ r1 (List.all_eq_true.mp fs _ (List.getElem_mem h2))
 have hj:xs.findIdx (fun z=>df z y) <xs.length:=List.findIdx_lt_length.mpr (List.any_eq_true.mp mv)
 have hn:=hX
 refine call_meets PySem.F.slot_list_index ⟨_,ho,rfl⟩ PySem.F.entry_list_index (PySem.F.args_list_index_2 _ _)
  (PySem.SeqAt.list_indexAt l its.toArray n dd sl u (cO y) (xs.findIdx fun z=>df z y) (by simp;omega) (by omega) ?_ ?_) ⟨ho,fun z oe=>jg ru fy r fs z (by simpa using oe),⟨.int _,H,I.tok _,⟨_,rfl⟩,q⟩⟩
 ·show cO y its[xs.findIdx fun z=>df z y]=true
  rw[e _ (by omega) hj]
  exact List.findIdx_getElem (w:=hj)
 ·intro j vH bc
  show cO y its[j]=false
  rw[e j (by simpa using vH) (by omega)]
  simpa using List.not_of_lt_findIdx bc
theorem GR(m:eh): ∃id,RX X m id:=by
 cases m with
 | append=>exact⟨_,F.plainAttrs_list,F.slot_list_append,F.type_list_append,fun pins s σ H x xs v us Q I rx rv h=>by
   match x,xs,h with
   | .ref l,[y],⟨zs,h1,h2,h3⟩=>exact O3 pins s σ H _ _ v us Q I rx rv ⟨l,zs,y,rfl,rfl,h1,h2,h3⟩⟩
 | pop=>exact⟨_,F.plainAttrs_list,F.slot_list_pop,F.type_list_pop,fun pins s σ H x xs v us Q I rx rv h=>by
   match x,xs,h with
   | .ref l,[],⟨zs,y,h1,h2,h3⟩=>exact O7 pins s σ H _ _ v us Q I rx rv ⟨l,zs,y,rfl,rfl,h1,h2,h3⟩⟩
 | extend=>exact⟨_,F.plainAttrs_list,F.slot_list_extend,F.type_list_extend,fun pins s σ H x xs v us Q I rx rv h=>by
   match x,xs,h with
   | .ref l,[.ref b],⟨ys,zs,h1,h2,h3,h4⟩=>exact O5 pins s σ H _ _ v us Q I rx rv ⟨l,b,ys,zs,rfl,rfl,h1,h2,h3,h4⟩⟩
 | join=>exact⟨_,F.plainAttrs_str,F.slot_str_join,F.type_str_join,fun pins s σ H x xs v us Q I rx rv h=>by
   match x,xs,h with
   | .str z,[.ref p],⟨ts,h1,h2,h3⟩=>exact QF pins s σ H _ _ v us Q I rx rv ⟨z,p,ts,rfl,rfl,h1,h2,h3⟩⟩
 | lstrip=>exact⟨_,F.plainAttrs_str,F.slot_str_lstrip,F.type_str_lstrip,fun pins s σ H x xs v us Q I rx rv h=>by
   match x,xs,h with
   | .str z,[.str y],⟨h1,h2⟩=>exact QH pins s σ H _ _ v us Q I rx rv ⟨z,y,rfl,rfl,h1,h2⟩⟩
 | starts=>exact⟨_,F.plainAttrs_str,F.slot_str_startswith,F.type_str_startswith,fun pins s σ H x xs v us Q I rx rv h=>by
   match x,xs,h with
   | .str z,[.str y, .int i],h1=>exact QJ pins s σ H _ _ v us Q I rx rv ⟨z,y,i,rfl,rfl,h1⟩⟩
 | find=>exact⟨_,F.plainAttrs_str,F.slot_str_find,F.type_str_find,fun pins s σ H x xs v us Q I rx rv h=>by
   match x,xs,h with
   | .str z,[.str y],h1=>
    obtain⟨t,rfl⟩:=rx
    obtain⟨u,rfl,⟨t2,rfl⟩⟩:=vals1 rv
    exact call_gives F.slot_str_find (typeIs_str _ _ _) F.entry_str_find (F.args_str_find_2 _ _) (gives_str_find z y t t2) ⟨.int _,H,I.tok _,⟨_,rfl⟩,h1⟩
   | .str z,[.str y, .int i],h1=>
    obtain⟨t,rfl⟩:=rx
    obtain⟨u,w',rfl,⟨t2,rfl⟩,⟨t3,rfl⟩⟩:=vals2 rv
    exact call_gives F.slot_str_find (typeIs_str _ _ _) F.entry_str_find (F.args_str_find_3 _ _ _) (gives_str_find_from z y i t t2 t3) ⟨.int _,H,I.tok _,⟨_,rfl⟩,h1⟩⟩
 | count=>exact⟨_,F.plainAttrs_str,F.slot_str_count,F.type_str_count,fun pins s σ H x xs v us Q I rx rv h=>by
   match x,xs,h with
   | .str z,[.str y],h1=>
    obtain⟨t,rfl⟩:=rx
    obtain⟨u,rfl,⟨t2,rfl⟩⟩:=vals1 rv
    exact call_gives F.slot_str_count (typeIs_str _ _ _) F.entry_str_count (F.args_str_count_2 _ _) (gives_str_count z y t t2) ⟨.int _,H,I.tok _,⟨_,rfl⟩,h1⟩⟩
 | reverse=>exact⟨_,F.plainAttrs_list,F.slot_list_reverse,F.type_list_reverse,fun pins s σ H x xs v us Q I rx rv h=>by
   match x,xs,h with
   | .ref l,[],⟨zs,h1,h2⟩=>exact O9 pins s σ H _ _ v us Q I rx rv ⟨l,zs,rfl,rfl,h1,h2⟩⟩
 | index=>exact⟨_,F.plainAttrs_list,F.slot_list_index,F.type_list_index,fun pins s σ H x xs v us Q I rx rv h=>by
   match x,xs,h with
   | .ref l,[.str y],⟨ts,h1,h2,h3⟩=>exact R6 pins s σ H _ _ v us Q I rx rv ⟨l,y,ts,rfl,rfl,h1,h2,h3⟩⟩
 | uY=>exact⟨_,F.plainAttrs_list,F.slot_list_count,F.type_list_count,fun pins s σ H x xs v us Q I rx rv h=>by
   match x,xs,h with
   | .ref l,[y],⟨zs,h1,h2,h3,h4⟩=>exact R_ pins s σ H _ _ v us Q I rx rv ⟨l,y,zs,rfl,rfl,h1,h2,h3,h4⟩⟩
 | uZ=>exact⟨_,F.plainAttrs_list,F.slot_list_index,F.type_list_index,fun pins s σ H x xs v us Q I rx rv h=>by
   match x,xs,h with
   | .ref l,[y],⟨zs,h1,h2,h3,h4,h5⟩=>exact Sa pins s σ H _ _ v us Q I rx rv ⟨l,y,zs,rfl,rfl,h1,h2,h3,h4,h5⟩⟩
 | clear=>exact⟨_,F.plainAttrs_list,F.slot_list_clear,F.type_list_clear,fun pins s σ H x xs v us Q I rx rv h=>by
   match x,xs,h with
   | .ref l,[],⟨zs,h1,h2⟩=>exact Pa pins s σ H _ _ v us Q I rx rv ⟨l,zs,rfl,rfl,h1,h2⟩⟩
theorem Sb{pins:List (Addr×Obj)}{σ:St}{H:Hp}{s:Shared}{T:Ty}{x:V}{u:Value}{Qb:Bool→Prop}{Q:Value→Shared→Prop}{E:Value→Shared→Prop}(I:Inv X pins σ H s)(rx:RelV x u)(h:bG T x H Qb)
  (hq: ∀b tk,Qb b→Q (.bool b) {s with toks:=tk}):wpAny (model X.prog X.w) X.A (call (.builtin "isinstance") [u, .type T.nm]) Q E s:=by
 match x,rx,h with
 | .av,rx,h=>exact fI I rx (.av) (QD _ T) fun tk=>hq _ _ h
 | .bl b,rx,h=>exact fI I rx (.bl b) (ie X.K .bool T) fun tk=>hq _ _ (by cases T<;>exact h)
 | .int i,rx,h=>exact fI I rx (.int i) (ie X.K .int T) fun tk=>hq _ _ (by cases T<;>exact h)
 | .str i,rx,h=>exact fI I rx (.str i) (ie X.K .str T) fun tk=>hq _ _ (by cases T<;>exact h)
 | .ref a,rx,h=>
  cases e:H a with
  | none=>simp only[bG,e] at h
  | some o=>
   match o,e with
   | .lst xs,e=>simp only[bG,e] at h;exact fI I rx (.lst e) (ie X.K .list T) fun tk=>hq _ _ (by cases T<;>exact h)
   | .bM ob (.lst xs),e=>simp only[bG,e] at h;exact fI I rx (.bM e) (ie X.K .list T) fun tk=>hq _ _ (by cases T<;>exact h)
   | .tup xs,e=>simp only[bG,e] at h;exact fI I rx (.tup e) (ie X.K .tuple T) fun tk=>hq _ _ (by cases T<;>exact h)
   | .dK xs,e=>simp only[bG,e] at h;exact fI I rx (.dK e) (ie X.K .dict T) fun tk=>hq _ _ (by cases T<;>exact h)
   | .dT xs,e=>simp only[bG,e] at h;exact fI I rx (.dT e) (ie X.K .dict T) fun tk=>hq _ _ (by cases T<;>exact h)
   | .set _ _,e=>simp only[bG,e] at h
   | .ins _ _ _,e=>simp only[bG,e] at h
   | .own _,e=>simp only[bG,e] at h
   | .xd _,e=>simp only[bG,e] at h
   | .met _ _,e=>simp only[bG,e] at h
   | .eG _ _,e=>simp only[bG,e] at h
   | .fD _,e=>simp only[bG,e] at h
   | .ext _,e=>simp only[bG,e] at h
   | .bM ob (.tup xs),e=>simp only[bG,e] at h
   | .bM ob (.dK xs),e=>simp only[bG,e] at h
   | .bM ob (.dT xs),e=>simp only[bG,e] at h
   | .bM ob (.set _ _),e=>simp only[bG,e] at h
   | .bM ob (.ins _ _ _),e=>simp only[bG,e] at h
   | .bM ob (.own _),e=>simp only[bG,e] at h
   | .bM ob (.xd _),e=>simp only[bG,e] at h
   | .bM ob (.met _ _),e=>simp only[bG,e] at h
   | .bM ob (.eG _ _),e=>simp only[bG,e] at h
   | .bM ob (.fD _),e=>simp only[bG,e] at h
   | .bM ob (.ext _),e=>simp only[bG,e] at h
   | .bM ob (.bM _ _),e=>simp only[bG,e] at h
theorem Sd(T:Ty):bootBuiltins (Str.ofString T.nm)=some (.type T.nm):=by cases T<;>decide+kernel
theorem Se(T:Ty):bT X (.builtin "isinstance") (ig T):=by
 intro pins s σ H xs us Q I r h
 match xs,r,h with
 | [x, .ty n],r,⟨e,h⟩=>
  subst e
  obtain⟨u,w',rfl,ru,jf⟩:=vals2 r
  cases jf
  exact Sb I ru h fun b tk hb=> ⟨.bl b,H,I.tok tk,rfl,hb⟩
theorem Sf{T:Ty}{a:Expr}{ta:TE}{p q pos:Pos}(ha:PE X a ta)(hs:noStar a=true)(hg:Gl X "isinstance")(hm:X.mg "isinstance"=none)(Sg:Gl X (Str.ofString T.nm))(Sh:X.mg (Str.ofString T.nm)=none):
  PE X (.Call (.Name "isinstance" p) [a, .Name (Str.ofString T.nm) q] [] pos) (cQ (ig T) (cM ta (cM (tC (.ty T.nm)) ee))):=by
 have hT:PE X (.Name (Str.ofString T.nm) q) (tC (.ty T.nm)):=MP Sg Sh (Sd T) rfl (by cases T<;>decide) (by cases T<;>decide)
 exact um (Se T) hg hm GD (nv ha (nv hT pW rfl) (dq hs)) (by decide) (by decide) (dq hs) rfl
end
section
variable {X:Cx}
theorem Si:p9 X (qy X.K):=by
 intro pins s σ H x v vl vu lo hi sl Q I rx hs pl pu h
 match x,rx,h with
 | .ref a,rx, .inl ⟨xs,h1,h2⟩=>exact OP pins s σ H _ v vl vu lo hi sl Q I rx hs pl pu ⟨a,xs,rfl,h1,h2⟩
 | .ref a,rx, .inr ⟨xs,h1,h2,h3⟩=>exact OF pins s σ H _ v vl vu lo hi sl Q I rx hs pl pu ⟨a,xs,rfl,h1,h2,h3⟩
 | .str z,rx,⟨h1,h2⟩=>
  obtain⟨t,rfl⟩:=rx
  obtain⟨l,el,ml⟩: ∃l:Option (Int×Tok),vl=partValue l∧l.map (·.1)=lo:=by
   cases pl with
   | none=>exact⟨none,rfl,rfl⟩
   | int i t=>exact⟨some (i,t),rfl,rfl⟩
  obtain⟨u,eu,mu⟩: ∃u:Option (Int×Tok),vu=partValue u∧u.map (·.1)=hi:=by
   cases pu with
   | none=>exact⟨none,rfl,rfl⟩
   | int i t=>exact⟨some (i,t),rfl,rfl⟩
  subst el eu
  refine⟨"str",_,F.slot_str_getitem.lookup,typeIs_str _ _ _, ?_⟩
  refine wpAny_getItem_str_slice (l:=l) (u:=u) (st:=none) hs rfl ?_
  obtain⟨b1,b2,b3⟩:=ux lo hi z.length
  have hp:slicePicked z l u none=(List.range (HT.ba z.length z.length hi - HT.ba z.length 0 lo)).map (HT.ba z.length 0 lo+ ·):=by
   show Builtin.Str.strSliceIndices (l.map (·.1)) (u.map (·.1)) 1 z.length=_
   rw[ml,mu]
   have e0:Builtin.Str.strSliceIndices lo hi 1 z.length=sliceRange (sliceBounds lo hi none z.length).1 (sliceBounds lo hi none z.length).2.1 (sliceBounds lo hi none z.length).2.2:=rfl
   rw[e0,b1,b2,b3,sliceRange_one]
  have hc:((slicePicked z l u none).filterMap (z.cps[·]?))=gJ z.cps.toList lo hi:=by
   show(Builtin.Str.strSliceIndices (l.map (·.1)) (u.map (·.1)) 1 z.length).filterMap (z.cps[·]?)=_
   rw[ml,mu,QK]
  have hz:z.cps.toList.length=z.length:=by simp[Str.length]
  have hA:=HT.uq z.length 0 (Nat.zero_le _) lo
  have hB:=HT.uq z.length z.length (Nat.le_refl _) hi
  unfold sliceMade
  refine post_val_or_made (fun _=> ?_) fun t' k=> ?_
  ·show(List.toArray ((slicePicked z l u none).filterMap (z.cps[·]?))).size≤sizeLine
   rw[hc,List.size_toArray]
   have:(gJ z.cps.toList lo hi).length≤z.cps.toList.length:=by unfold gJ;simp only[List.length_take,List.length_drop];omega
   omega
  ·have e:(if (((none:Option (Int×Tok)).map (·.1)).getD 1==1 && (slicePicked z l u none).length==z.length)=true then z else ⟨((slicePicked z l u none).filterMap (z.cps[·]?)).toArray⟩)=fN z lo hi:=by
    split
    ·rename_i hq
     simp only[Bool.and_eq_true,beq_iff_eq] at hq
     have eK:=hq.2
     rw[hp,List.length_map,List.length_range] at eK
     have a0:HT.ba z.length 0 lo=0:=by omega
     have b0:HT.ba z.length z.length hi=z.length:=by omega
     unfold fN gJ
     rw[hz,a0,b0,←hz,Nat.sub_zero,List.drop_zero,List.take_length]
    ·rw[hc];rfl
   rw[e]
   exact⟨.str _,H,I.tok k,⟨t',rfl⟩,h2⟩
theorem Sj:pP X (unaryOp .USub) Gd:=by
 intro pins s σ H x v Q I rx h
 match x,rx,h with
 | .int i,rx,h=>exact Nw pins s σ H _ v Q I rx ⟨i,rfl,h⟩
theorem Sk{a:Expr}{ta:TE}{pos:Pos}(ha:PE X a ta):PE X (.UnaryOp .Not a pos) (vc X.K ta):=by
 intro pins s σ H Q I h
 refine UnaryOp_ (aO (ha pins s σ H _ I h) fun v s1 ⟨x,H1,I1,r1,q1⟩=>not_of ?_)
 exact aO (EA pins s1 σ H1 x v (fun b H2=>Q (.bl (!b)) H2) I1 r1 (Gb q1)) fun b s2 ⟨H2,I2,q2⟩=> ⟨.bl (!b),H2,I2,rfl,q2⟩
theorem vI{a:Expr}{ta:TE}(ha:PE X a ta)(he: ∀whole,isTrue a X.env whole=(do let v ←whole;standAt a.pos;holding [v] (truthy v))):PT X a (dy X.K ta):=by
 intro pins s σ H Q I h
 exact isTrue_plain (aO (ha pins s σ H _ I h) fun v s1 ⟨x,H1,I1,r1,q1⟩=>EA pins s1 σ H1 x v Q I1 r1 (Gb q1)) (he _)
theorem Sl{m:eh}{o e:Expr}{es:List Expr}{to:TE}{t:TA}{apos cz:Pos}(ho:PE X o to)(ha:PA X (e::es) t)(hb:iu o=true)(hl:(apos.endLine==cz.line)=true)(hn:(e::es).length<29)
  (hs:starEach (e::es) X.env=(false,eval e X.env)::starEach es X.env) (h1:(backTo cz (starEach es X.env)).any (·.1)=false) (h2:(backTo cz (starEach (e::es) X.env)).all (fun x=> !x.1)=true):
  PE X (.Call (.Attribute o m.nm apos) (e::es) [] cz) (mq X.K m to t):=by
 obtain⟨id,M⟩:=GR (X:=X) m
 exact OY M.pa M.slot M.ty M.mt ho ha (jj hb) (by
  rw[h2]
  show(true && true && decide ((e::es).length+0+0<30))=true
  rw[decide_eq_true (by omega)];rfl) hl hs h1
theorem Sm{m:eh}{o:Expr}{to:TE}{apos cz:Pos}(ho:PE X o to)(hb:iu o=true)(hl:(apos.endLine==cz.line)=true):
  PE X (.Call (.Attribute o m.nm apos) [] [] cz) (mq X.K m to ee):=by
 obtain⟨id,M⟩:=GR (X:=X) m
 exact OX M.pa M.slot M.ty M.mt ho (jj hb) hl
end
section
variable {X:Cx} {CX:aL}
theorem GS{o:Expr}{m:Str}{apos pos:Pos}{args:List Expr}{Q:Value→Shared→Prop}{E:Value→Shared→Prop}{A:Around}{s:Shared}{env:Env}{prog:Program}{w:World}
  (hb:iu o=true) (hl:(apos.endLine==pos.line)=true) (hn:args.length<29) (hf:(backTo pos (starEach args env)).all (fun x=> !x.1)=true)
  (h:wpAny (model prog w) A (eval o env) (fun ov s1=> ∀pl,wpAny (model prog w) A (getMethod ov m pl) (fun fx s2=>wpAny (model prog w) A (callWith pos fx.1 fx.2 (backTo pos (starEach args env)) (backToKw pos (keywordEach [] env))) Q E s2) E s1) E s):
  wpAny (model prog w) A (eval (.Call (.Attribute o m apos) args [] pos) env) Q E s:=by
 have Sn:methodCallForm (args.length+0) (backTo pos (starEach args env)) (backToKw pos (keywordEach [] env))=true:=by
  show((backTo pos (starEach args env)).all (fun x=> !x.1) && true && decide (args.length+0+0<30))=true
  rw[hf,decide_eq_true (by omega)];rfl
 have line:methodCallPos true o env apos pos=pure pos:=by unfold methodCallPos;simp[hl]
 rw[arm_eval_Call,jj hb]
 refine wpAny_bind (wpAny_mono h (fun ov s1 h1=>wpAny_bind (wpAny_standAt ?_)) fun _ _ e=>e)
 unfold methodCall
 rw[show([]:List Keyword).length=0 from rfl,Sn]
 refine wpAny_bind (wpAny_holding (wpAny_mono (h1 _) (fun fx s2 h2=> ?_) fun _ _ e=>e))
 exact wpAny_bind (wpAny_of_eq line h2)
theorem So{o e:Expr}{es:List Expr}{to:TE}{t:TA}{apos pos:Pos}{C:Addr}{m:Str}{sp:Sp}{E:XK}(M:qD CX X C m sp)(hx:Passes CX X E)(ho:PE X o to)(ha:PA X (e::es) t)(hb:iu o=true)(hl:(apos.endLine==pos.line)=true)(hn:(e::es).length<29)
  (hs:starEach (e::es) X.env=(false,eval e X.env)::starEach es X.env) (h1:(backTo pos (starEach es X.env)).any (·.1)=false) (h2:(backTo pos (starEach (e::es) X.env)).all (fun x=> !x.1)=true):
  PE X (.Call (.Attribute o m apos) (e::es) [] pos) (jd C m sp [] E to t):=by
 obtain⟨c,k,f,fd,ps,hm,F,hr,vJ⟩:=M
 intro pins s σ H Q I h
 refine GS hb hl hn h2 (aO (ho pins s σ H _ I h) fun u s1 ⟨x,H1,I1,rx,a,dx,fs,ex,ea,l,q⟩=>fun pl=> ?_)
 subst ex
 obtain rfl:u=Value.ref a:=rx
 refine EF I1 ea c hm l ?_
 refine callWith_K (first:=[.ref a]) (h₀:=X.base) I.ok.mod.m9 hm.kp (aO (ha pos pins s1 σ H1 _ I1 q) fun us s2 ⟨vs,H2,I2,r,q2⟩=> ⟨I2.ck, ?_⟩) hs h1
 exact uk (us:= .ref a::us) (vs:= .ref a::vs) F hr vJ .nil hx I2 (.cons rfl r) q2
theorem Sq{o:Expr}{to:TE}{apos pos:Pos}{C:Addr}{m:Str}{sp:Sp}{E:XK}(M:qD CX X C m sp)(hx:Passes CX X E)(ho:PE X o to)(hb:iu o=true)(hl:(apos.endLine==pos.line)=true):
  PE X (.Call (.Attribute o m apos) [] [] pos) (jd C m sp [] E to ee):=by
 obtain⟨c,k,f,fd,ps,hm,F,hr,vJ⟩:=M
 intro pins s σ H Q I h
 refine GS hb hl (by decide) rfl (aO (ho pins s σ H _ I h) fun u s1 ⟨x,H1,I1,rx,a,dx,fs,ex,ea,l,q⟩=>fun pl=> ?_)
 subst ex
 obtain rfl:u=Value.ref a:=rx
 refine EF I1 ea c hm l ?_
 exact callWith_K0 (first:=[.ref a]) I1.ck hm.kp (uk (us:=[.ref a]) (vs:=[.ref a]) F hr vJ .nil hx I1 (.cons rfl .nil) q)
end
section
variable {prog:Program} {w:World} {A:Around} {E:Value→Shared→Prop} {s:Shared}
theorem GU{it l:Addr}{items:Array Value}(iy:l≠it): ∀(n i:Nat) (s:Shared) (Q:List Value→Shared→Prop),s.heap.IsListIter it l i→s.heap.IsList l items→i+n≤items.size→
  (∀h',h'.IsListIter it l (i+n)→Heap.SameBut it s.heap h'→Q ((items.toList.drop i).take n) {s with heap:=h'})→wpAny (model prog w) A (draw (.ref it) n) Q E s
 | 0,i,s,Q,hit,_,_,hQ=>by
  show wpAny _ _ (pure []) Q E s
  exact wpAny_pure (by simpa using hQ s.heap hit (Heap.SameBut.refl ..))
 | n+1,i,s,Q,hit,ht,hle,hQ=>by
  have bc:i<items.size:=by omega
  show wpAny _ _ (pyNext (.ref it) >>=_) Q E s
  refine wpAny_bind (wpAny_pyNext_list_item hit ht (x:=items[i]) (by simp[bc]) fun h₁ vK og=> ?_)
  refine wpAny_bind (wpAny_holding (GU iy n (i+1) _ _ vK (ht.extBut og.extBut iy) (by omega) fun h₂ Sr Ss=>wpAny_pure ?_))
  have hd:items.toList.drop i=items[i]::items.toList.drop (i+1):=by simp[List.drop_eq_getElem_cons,bc]
  have:=hQ h₂ (by rw[show i+ (n+1)=i+1+n by omega];exact Sr) (og.trans Ss)
  rw[hd,List.take_succ_cons] at this
  exact this
theorem Su{t:Addr}{items:Array Value}{Q:List Value→Shared→Prop}(hh:A.handled=none)(ht:s.heap.IsList t items)
  (hQ: ∀h',Heap.ExtBut s.heap.objs.size s.heap h'→Q items.toList {s with heap:=h'}):wpAny (model prog w) A (unpackItems (.ref t) items.size none) Q E s:=by
 have bc:t≠s.heap.objs.size:=by obtain⟨o,ho,_⟩:=ht;exact Nat.ne_of_lt (Heap.lt_size ho)
 unfold unpackItems
 refine wpAny_bind ?_
 ·unfold notIterableAtAll
  refine wpAny_bind (wpAny_specialOf ht.typeIs slot_list_iter.lookup ?_)
  refine wpAny_pure ?_
  simp only[Bool.false_eq_true,if_false]
  refine wpAny_bind (wpAny_holding (wpAny_pyIter_list ht ?_))
  refine wpAny_bind (wpAny_holding (GU bc items.size 0 _ _ ⟨_,Heap.get?_push_size _ rfl,rfl,rfl⟩ (ht.push _) (by omega) fun h₁ vK og=> ?_))
  have uF:List.take items.size (List.drop 0 items.toList)=items.toList:=by
   rw[List.drop_zero];exact List.take_of_length_le (by simp)
  rw[uF]
  rw[if_neg (by simp)]
  have Sv:h₁.IsList t items:=(ht.push _).extBut og.extBut bc
  refine wpAny_bind (wpAny_holding (wpAny_pyNext_list_end hh vK Sv (by simp) fun h₂ Sw=> ?_))
  simp only[Option.isSome_none,Bool.false_eq_true,if_false]
  refine wpAny_pure (hQ h₂ fun b o hb e=>Sw b o hb (og.extBut b o hb (Heap.get?_push_of_some _ e)))
theorem Sx{env:Env}{elts:List Expr}{x1}{pos:Pos}{t:Addr}{items:Array Value}{Q:Unit→Shared→Prop}(hh:A.handled=none)(ht:s.heap.IsList t items)
  (hn:(assignEach elts env).length=items.size) (Sy:(assignEach elts env).findIdx? (·.1)=none)
  (h: ∀h',Heap.ExtBut s.heap.objs.size s.heap h'→wpAny (model prog w) A (assignInOrder ((assignEach elts env).map (·.2)) items.toList) Q E {s with heap:=h'}):
  wpAny (model prog w) A (assign (.Tuple elts x1 pos) env (.ref t)) Q E s:=by
 rw[assign_Tuple]
 refine wpAny_bind (wpAny_standAt ?_)
 unfold unpack
 rw[hn,Sy]
 exact wpAny_bind (wpAny_holding (Su hh ht h))
end
def mx(K:PySem.W.Frag)(n:Nat)(t:fF):TG:=fun v σ H Q=> ∃a xs,v= .ref a∧(aX K H a xs∨aC K H a xs)∧xs.length=n∧t xs σ H Q
theorem Sz{X:Cx}{es:List Expr}{k:Nat}{t:fF}{n:Nat}{pos:Pos}(hc:X.calm=true)(h:lV X es t)
  (hn:(assignEach es X.env).length=n) (pM:(assignEach es X.env).findIdx? (·.1)=none):PG X (.Tuple es k pos) (mx X.K n t):=by
 intro pins s σ H v u Q I r hw
 obtain⟨a,xs,e1,hq,hl,hw⟩:=hw
 rcases hq with hq | hq
 ·exact Eg hc h hn pM pins s σ H v u Q I r ⟨a,xs,e1,hq,hl,hw⟩
 ·subst e1
  cases r
  obtain⟨its,rv,ht,hz⟩:=I.list hq
  refine Sx (I.ok.hd hc) ht.isList (by simp[hn,←hl,rv.length]) pM fun h' hx=> ?_
  have I1:Inv X pins σ H {s with heap:=h'}:=I.kept (t':=s.toks) fun b o e=>hx b o (Nat.ne_of_lt (Heap.lt_size e)) e
  exact h pins _ σ H xs _ Q I1 (by simpa using rv) hw
def jt:List Nat→fF
 | []=>tY
 | i::r=>pL (dQ i) (jt r)
def SA(to:TE)(tl th:TO):TG:=fun v σ H Q=>to σ H fun o H1=>tl σ H1 fun i H2=>th σ H2 fun j H3=> ∃l b xs ys a c,o= .ref l∧v= .ref b∧i=some a∧j=some c∧H3 l=some (.lst xs)∧H3 b=some (.lst ys)∧l≠b∧
 0≤a∧a≤c∧c≤xs.length∧xs.length+ys.length≤sizeLine∧Q σ (upd H3 l (.lst (xs.take a.toNat++ys++xs.drop c.toNat)))
mutual
def bR(Γ:aE):RS→TS
 | .asg i e=>i9 (ag Γ e) (dQ i)
 | .QY i e=>i9 (ag Γ e) (dQ i)
 | .set o ix e=>i9 (ag Γ e) (Eh (ag Γ o) (ag Γ ix) uw)
 | .dput o i e=>Py (ag Γ o) (ag Γ i) (ag Γ e)
 | .drop e=>Ea (ag Γ e)
 | .ret e=>Eb (ag Γ e)
 | .QZ=>M3
 | .ite c t e=>Ec (br Γ c) (ar Γ t) (ar Γ e)
 | .gL i k its body=>pN (e7 Γ k its) (dQ i) (ar Γ body)
 | .mj is k its body=>pN (e7 Γ k its) (mx Γ.K is.length (jt is)) (ar Γ body)
 | .mm c body=>Ei (br Γ c) (ar Γ body)
 | .pass=>tW
 | .brk=>MY
 | .cont=>D_
 | .never=>M5
 | .Q0 o lo hi e=>i9 (ag Γ e) (SA (ag Γ o) (pZ (ag Γ lo)) (pZ (ag Γ hi)))
 | .fO o f e=>ug Γ.K (ag Γ o) (ag Γ e) f
 | .Q2 is e=>i9 (ag Γ e) (mx Γ.K is.length (jt is))
 | .fP j as=>uX (Γ.ex j) Γ.E (bq Γ as)
 | .Q3 n i j body su=>fun D σ H=> ∃C,Γ.gv j= .ref C∧QO Γ.K C i n (fun E=>ar {Γ with E:=E} body) (fun ea=>ar {Γ with E:=E0,hv:=some ea} su) D σ H
def ar(Γ:aE):List RS→TS
 | []=>tW
 | s::r=>D9 (bR Γ s) (ar Γ r)
end
def vL:Expr→Bool
 | .Slice ..=>false | _=>true
def qK:Expr→Bool
 | .ListComp ..=>false | .SetComp ..=>false | .DictComp ..=>false | _=>true
def my(N:List Str)(sc:Scope):List Nat→List Str→Bool
 | [],xs=>xs.isEmpty
 | i::r,xs=>match xs with
  | []=>false
  | x::t=>decide (N[i]?=some x) && loc sc x && my N sc r t
structure aQ (CX:aL) (S:cJ) (Γ:aE) (X:Cx):Prop extends Good CX S Γ X where
 nd:S.N.Nodup
 vM: ∀x,X.fn x=true
 own:PassesOwn (model X.prog X.w) X.A X.env X.xe
 SD:X.env.scope.kind= .function
 rs: ∀(j:Nat) (x:Str),S.en[j]?=some x→Raises X Γ.E
 m_:X.stack=X.env::X.outer
 js:X.env.frame=some X.env.locals
 SE:X.ex=[]
 SF:CX=dS X.prog X.w
def qV(S:cJ)(i:Nat)(x:Str):Bool:=decide (S.N[i]?=some x) && ve S.sc x && !(x==("__debug__":Str)) && !(x==("__classdict__":Str))
def kG(S:cJ)(j:Nat)(x:Str):Bool:=decide (S.gn[j]?=some x) && iq S.sc x && !(x==("__debug__":Str))
def kF(S:cJ)(j:Nat)(x:Str):Bool:=decide (S.fn[j]?=some x) && iq S.sc x && !(x==("__debug__":Str))
def kK(S:cJ)(j:Nat)(x:Str):Bool:=decide (S.kn[j]?=some x) && iq S.sc x && !(x==("__debug__":Str))
def kB(S:cJ)(x y:Str):Bool:=decide (x=y) && iq S.sc x && S.bl.contains x
def kM(o:Expr)(m:Str)(x:Str)(n:Nat)(a c:Pos):Bool:=decide (x=m) && iu o && (a.endLine==c.line) && decide (n<29)
def kL(S:cJ)(i:Nat)(x:Str):Bool:=decide (S.N[i]?=some x) && loc S.sc x
section
variable {CX:aL} {S:cJ} {Γ:aE} {X:Cx} {e e2 a b c d:Expr} {es:List Expr} {x:Str} {p q pos:Pos} {r ra rb rc:RE} {rs:List RE} {i j:Nat}
theorem aa(G:Good CX S Γ X)(h:qV S i x=true:=by kernel_rfl):PE X (.Name x p) (ag Γ (.v i)):=by
 simp only[qV,Bool.and_eq_true,decide_eq_true_eq,Bool.not_eq_true'] at h
 exact MK (by rw[G.N];exact h.1.1.1) (by rw[G.sc];exact Rb h.1.1.2) h.1.2 h.2
theorem ao{v:Int}{k:Nat}:PE X (.Constant (.int v) k p) (ag Γ (.c (.int v))):=ML
theorem aY{v:Str}{k:Nat}:PE X (.Constant (.str v) k p) (ag Γ (.c (.str v))):=MO
theorem ju{v:Bool}{k:Nat}:PE X (.Constant (.bool v) k p) (ag Γ (.c (.bl v))):=MM
theorem dA{k:Nat}:PE X (.Constant .none k p) (ag Γ (.c .av)):=MN
theorem GV(G:Good CX S Γ X)(h:kG S j x=true:=by kernel_rfl):PE X (.Name x p) (ag Γ (.g j)):=by
 simp only[kG,Bool.and_eq_true,decide_eq_true_eq,Bool.not_eq_true'] at h
 obtain⟨u,hm,r⟩:=G.qE j x h.1.1
 exact D2 (G.gl h.1.2) hm r h.2
theorem aF{op:Operator}(G:Good CX S Γ X)(ha:PE X a (ag Γ ra))(hb:PE X b (ag Γ rb)):PE X (.BinOp a op b p) (ag Γ (.bin op ra rb)):=by
 show PE X _ (cT (mh Γ.K op) (ag Γ ra) (ag Γ rb))
 rw[←G.K]
 exact Nl (Ql op) ha hb
theorem vN(ha:PE X a (ag Γ ra)):PE X (.UnaryOp .USub a p) (ag Γ (.neg ra)):=Nm Sj ha
theorem ej{op:CmpOp}(G:Good CX S Γ X)(ha:PE X a (ag Γ ra))(hb:PE X b (ag Γ rb))(hm:behindInMarks op b=false:=by kernel_rfl):PE X (.Compare a [op] [b] p) (ag Γ (.cmp op ra rb)):=by
 show PE X _ (cT (bZ Γ.K op) (ag Γ ra) (ag Γ rb))
 rw[←G.K]
 exact NM (qv G.units op) ha hb hm
theorem SH{op dm:CmpOp}(G:Good CX S Γ X)(ha:PE X a (ag Γ ra))(hb:PE X b (ag Γ rb))(hc:PE X c (ag Γ rc))(hm:lastMarks [op,dm] [b,c]=false:=by kernel_rfl):PE X (.Compare a [op,dm] [b,c] p) (ag Γ (.nT op dm ra rb rc)):=by
 show PE X _ (pT (bZ Γ.K op) (bZ Γ.K dm) (ag Γ ra) (ag Γ rb) (ag Γ rc))
 rw[←G.K]
 exact NO (qv G.units op) (qv G.units dm) ha hb hc hm
theorem fU(h:PE X e (ag Γ r)):PE X (.BoolOp .And [e] p) (ag Γ (.and [r])):=MS h
theorem e9{r2:RE}(h:PE X e (ag Γ r))(t:PE X (.BoolOp .And (e2::es) p) (ag Γ (.and (r2::rs)))):PE X (.BoolOp .And (e::e2::es) p) (ag Γ (.and (r::r2::rs))):=MT h t
theorem vO(G:Good CX S Γ X)(ha:PE X a (ag Γ ra)):PE X (.UnaryOp .Not a p) (ag Γ (.not ra)):=by
 show PE X _ (vc Γ.K (ag Γ ra))
 rw[←G.K]
 exact Sk ha
theorem qL(hc:PT X c (br Γ rc))(ha:PE X a (ag Γ ra))(hb:PE X b (ag Γ rb)):PE X (.IfExp c a b p) (ag Γ (.mi rc ra rb)):=MU hc ha hb
theorem aj:PA X [] (bq Γ []):=pW
theorem af(h:PE X e (ag Γ r))(t:PA X es (bq Γ rs))(hs:noStar e=true:=by kernel_rfl):PA X (e::es) (bq Γ (r::rs)):=nv h t (dq hs)
theorem aD(G:Good CX S Γ X)(hA:PA X (e::es) (bq Γ (r::rs)))(h:kF S j x=true:=by kernel_rfl)(hn:dU (e::es)=true:=by kernel_rfl)(hq:S.md=0:=by rfl):PE X (.Call (.Name x p) (e::es) [] pos) (ag Γ (.call j (r::rs))):=by
 simp only[kF,Bool.and_eq_true,decide_eq_true_eq,Bool.not_eq_true'] at h
 obtain⟨k,f,fd,ps,F,hr,hm,hk,hb⟩:=G.fns hq j x h.1.1
 exact Og F hr (G.gl h.1.2) hm hk hb .nil G.pass hA h.2 (dq (dz hn).1) (gM _ _ es (dz hn).2)
theorem SI(G:Good CX S Γ X)(h:kK S j x=true:=by kernel_rfl)(hq:S.md=0:=by rfl):PE X (.Call (.Name x p) [] [] pos) (ag Γ (.make j [])):=by
 simp only[kK,Bool.and_eq_true,decide_eq_true_eq,Bool.not_eq_true'] at h
 obtain⟨k,f,fd,ps,M,F,hr,hm,hb⟩:=G.n_ hq j x h.1.1
 exact Oi M F hr (G.gl h.1.2) hm hb .nil G.pass h.2
theorem GW(G:Good CX S Γ X)(hA:PA X (e::es) (bq Γ (r::rs)))(h:kK S j x=true:=by kernel_rfl)(hn:dU (e::es)=true:=by kernel_rfl)(hq:S.md=0:=by rfl):PE X (.Call (.Name x p) (e::es) [] pos) (ag Γ (.make j (r::rs))):=by
 simp only[kK,Bool.and_eq_true,decide_eq_true_eq,Bool.not_eq_true'] at h
 obtain⟨k,f,fd,ps,M,F,hr,hm,hb⟩:=G.n_ hq j x h.1.1
 exact Oh M F hr (G.gl h.1.2) hm hb .nil G.pass hA h.2 (dq (dz hn).1) (gM _ _ es (dz hn).2)
theorem cB{t:gK}(G:Good CX S Γ X)(hA:PA X (e::es) (bq Γ (r::rs)))(h:kB S x t.nm=true:=by kernel_rfl)(hn:dU (e::es)=true:=by kernel_rfl)(hq:S.md=0:=by rfl):PE X (.Call (.Name x p) (e::es) [] pos) (ag Γ (.blt t (r::rs))):=by
 simp only[kB,Bool.and_eq_true,decide_eq_true_eq] at h
 obtain⟨⟨rfl,h2⟩,h3⟩:=h
 have n1:t.nm≠"__name__":=by cases t<;>decide
 have n2:(t.nm==("__debug__":Str))=false:=by cases t<;>decide
 show PE X _ (cQ (jo Γ.K t) (bq Γ (r::rs)))
 rw[←G.K]
 cases RW (X:=X) (G.calm hq) t with
 | fn id hv hc=>exact um hc (G.gl h2) (G.fS _ h3) hv hA n1 n2 (dq (dz hn).1) (gM _ _ es (dz hn).2)
 | ty T hv hc=>exact Oq hc (G.gl h2) (G.fS _ h3) hv hA n1 n2 (dq (dz hn).1) (gM _ _ es (dz hn).2)
theorem gN{T:Ty}{y:Str}(G:Good CX S Γ X)(ha:PE X a (ag Γ ra))(h:kB S x "isinstance"=true:=by kernel_rfl)(h2:kB S y (Str.ofString T.nm)=true:=by kernel_rfl)(hs:noStar a=true:=by kernel_rfl):PE X (.Call (.Name x p) [a, .Name y q] [] pos) (ag Γ (.dw T ra)):=by
 simp only[kB,Bool.and_eq_true,decide_eq_true_eq] at h h2
 obtain⟨⟨rfl,g2⟩,g3⟩:=h
 obtain⟨⟨rfl,k2⟩,k3⟩:=h2
 exact Sf ha hs (G.gl g2) (G.fS _ g3) (G.gl k2) (G.fS _ k3)
theorem SJ{m:eh}{o:Expr}{ro:RE}{ap:Pos}(G:Good CX S Γ X)(ho:PE X o (ag Γ ro))(h:kM o m.nm x 0 ap pos=true:=by kernel_rfl):PE X (.Call (.Attribute o x ap) [] [] pos) (ag Γ (.bE m ro [])):=by
 simp only[kM,Bool.and_eq_true,decide_eq_true_eq] at h
 obtain⟨⟨⟨rfl,h2⟩,h3⟩, -⟩:=h
 show PE X _ (mq Γ.K m (ag Γ ro) ee)
 rw[←G.K]
 exact Sm ho h2 h3
theorem cG{m:eh}{o:Expr}{ro:RE}{ap:Pos}(G:Good CX S Γ X)(ho:PE X o (ag Γ ro))(hA:PA X (e::es) (bq Γ (r::rs)))(h:kM o m.nm x (es.length+1) ap pos=true:=by kernel_rfl)(hn:dU (e::es)=true:=by kernel_rfl):PE X (.Call (.Attribute o x ap) (e::es) [] pos) (ag Γ (.bE m ro (r::rs))):=by
 simp only[kM,Bool.and_eq_true,decide_eq_true_eq] at h
 obtain⟨⟨⟨rfl,h2⟩,h3⟩,h4⟩:=h
 show PE X _ (mq Γ.K m (ag Γ ro) (bq Γ (r::rs)))
 rw[←G.K]
 exact Sl ho hA h2 h3 h4 (dq (dz hn).1) (gM _ _ es (dz hn).2) (vD _ _ (e::es) hn)
theorem cC{f:Str}{ro:RE}(G:Good CX S Γ X)(ho:PE X a (ag Γ ro))(h:iu a=true:=by kernel_rfl):PE X (.Attribute a f p) (ag Γ (.fld ro f)):=by
 show PE X _ (pV Γ.K (ag Γ ro) f)
 rw[←G.K]
 exact N_ ho (jj h)
theorem fV{m:Str}{o:Expr}{ro:RE}{ap:Pos}(G:Good CX S Γ X)(ho:PE X o (ag Γ ro))(h:(kM o m m 0 ap pos && decide (S.mn[j]?=some m))=true:=by kernel_rfl)(hq:S.md=0:=by rfl):PE X (.Call (.Attribute o m ap) [] [] pos) (ag Γ (.b9 j m ro [])):=by
 simp only[kM,Bool.and_eq_true,decide_eq_true_eq] at h
 obtain⟨⟨⟨⟨-,h2⟩,h3⟩, -⟩,h5⟩:=h
 exact Sq (G.n6 hq j _ h5) G.pass ho h2 h3
theorem jv{m:Str}{o:Expr}{ro:RE}{ap:Pos}(G:Good CX S Γ X)(ho:PE X o (ag Γ ro))(hA:PA X (e::es) (bq Γ (r::rs)))(h:(kM o m m (es.length+1) ap pos && decide (S.mn[j]?=some m))=true:=by kernel_rfl)(hn:dU (e::es)=true:=by kernel_rfl)(hq:S.md=0:=by rfl):PE X (.Call (.Attribute o m ap) (e::es) [] pos) (ag Γ (.b9 j m ro (r::rs))):=by
 simp only[kM,Bool.and_eq_true,decide_eq_true_eq] at h
 obtain⟨⟨⟨⟨-,h2⟩,h3⟩,h4⟩,h5⟩:=h
 exact So (G.n6 hq j _ h5) G.pass ho hA h2 h3 h4 (dq (dz hn).1) (gM _ _ es (dz hn).2) (vD _ _ (e::es) hn)
theorem SK(h:vL b=true):E4 b:=fun o i=>by cases b<;>first | rfl | cases h
theorem aB(G:Good CX S Γ X)(ha:PE X a (ag Γ ra))(hb:PE X b (ag Γ rb))(h:vL b=true:=by kernel_rfl):PE X (.Subscript a b p) (ag Γ (.ix ra rb)):=by
 show PE X _ (cT (ij Γ.K Γ.sd) (ag Γ ra) (ag Γ rb))
 rw[←G.K]
 exact OH (R1 G.qG) ha hb (SK h)
theorem mz{lo hi:Option Expr}{rl rh:Option RE}(G:Good CX S Γ X)(ha:PE X a (ag Γ ra))(hl:PO X lo (ip Γ rl))(hh:PO X hi (ip Γ rh)):PE X (.Subscript a (.Slice lo hi none q) p) (ag Γ (.sl ra rl rh)):=by
 show PE X _ (ur (qy Γ.K) (ag Γ ra) (ip Γ rl) (ip Γ rh))
 rw[←G.K]
 exact OD Si ha hl hh
theorem SM:PO X none (ip Γ none):=OB
theorem e_(ha:PE X a (ag Γ ra)):PO X (some a) (ip Γ (some ra)):=OC ha
theorem b_{k}(hA:PA X es (bq Γ rs)):PE X (.Tuple es k p) (ag Γ (.tup rs)):=Od hA
theorem dr(hA:PA X es (bq Γ rs)):PE X (.List es p) (ag Γ (.lst rs)):=Oe hA
def vP(CX:aL)(S:cJ)(Γ:aE)(cond:Option RE)(ifs:List Expr):Prop:=match cond with
 | none=>ifs=[]
 | some r=> ∃e0,ifs=[e0]∧ ∀X,Good CX S Γ X→PT X e0 (br Γ r)
theorem SN:vP CX S Γ none []:=rfl
theorem qM(h: ∀X,Good CX S Γ X→PT X e (br Γ r)):vP CX S Γ (some r) [e]:=⟨e,rfl,h⟩
def kC(S:cJ)(tk:Option Nat)(tg iter:Expr)(sc:Scope)(k:IK)(ln:List Str)(fv:List (Str×Nat)):Bool:=decide (vg tk tg=some ln) && (decide (k≠ .zip) || tk.isSome) && vh S ⟨.Constant .none 0 ⟨0,0,0,0⟩,tg,iter,[],sc⟩ ln fv
abbrev cS(S:cJ)(sc:Scope)(ln:List Str)(fv:List (Str×Nat)):cJ:={S with N:=ln++fv.map (·.1),sc:=vf sc S.sc,en:=[],md:=if S.md=0 then 0 else 2}
theorem oh{tk:Option Nat}{fv:List (Str×Nat)}{k:IK}{its:List RE}{cond:Option RE}{elt:RE}{el tg iter:Expr}{ifs:List Expr}{sc:Scope}{ln:List Str}(G:Good CX S Γ X)(h:kC S tk tg iter sc k ln fv=true)(hi:PI X tg iter (e7 Γ k its))
  (hc:vP CX (cS S sc ln fv) Γ.calm cond ifs) (he: ∀X,Good CX (cS S sc ln fv) Γ.calm X→PE X el (ag Γ.calm elt)) (hq:S.md=0:=by rfl):PE X (.ListComp el [⟨tg,iter,ifs,0⟩] sc p) (ag Γ (.comp tk fv k its cond elt)):=by
 simp only[kC,Bool.and_eq_true,decide_eq_true_eq] at h
 obtain⟨⟨h1,h2⟩,h3⟩:=h
 obtain⟨o1,o2,o3,o4⟩:=RI (c:=⟨.Constant .none 0 ⟨0,0,0,0⟩,tg,iter,[],sc⟩) G h3
 show PE X _ (qg Γ.K (e7 Γ k its) tk fv (Gh Γ.calm cond) (ag Γ.calm elt))
 rw[←G.K]
 refine Qf o1 (G.calm hq) hi (RJ (c:=⟨.Constant .none 0 ⟨0,0,0,0⟩,tg,iter,[],sc⟩) (G.calm hq) h1 o2 o3) ?_ (fun ex C s H=>he _ (G.inner ⟨.Constant .none 0 ⟨0,0,0,0⟩,tg,iter,[],sc⟩ ln fv ex C s H)) (vC o4)
 cases cond with
 | none=>exact hc
 | some r=>
  obtain⟨e0,q,hq⟩:=hc
  exact⟨e0,q,fun ex C s H=>hq _ (G.inner ⟨.Constant .none 0 ⟨0,0,0,0⟩,tg,iter,[],sc⟩ ln fv ex C s H)⟩
theorem dW(h:PT X a (br Γ ra)):PT X (.UnaryOp .Not a p) (br Γ (.not ra)):=MQ h
theorem vQ(h:PT X e (br Γ r)):PW X (.BoolOp .And [e] p) (br Γ (.and [r])):=pw_and1 h
theorem qN{r2:RE}(h:PT X e (br Γ r))(t:PW X (.BoolOp .And (e2::es) p) (br Γ (.and (r2::rs)))):PW X (.BoolOp .And (e::e2::es) p) (br Γ (.and (r::r2::rs))):=pw_and h t
theorem gO(h:PT X e (br Γ r)):PW X (.BoolOp .Or [e] p) (br Γ (.or [r])):=pw_or1 h
theorem fW{r2:RE}(h:PT X e (br Γ r))(t:PW X (.BoolOp .Or (e2::es) p) (br Γ (.or (r2::rs)))):PW X (.BoolOp .Or (e::e2::es) p) (br Γ (.or (r::r2::rs))):=pw_or h t
theorem bh{op:CmpOp}(G:Good CX S Γ X)(ha:PE X a (ag Γ ra))(hb:PE X b (ag Γ rb))(hm:behindInMarks op b=false:=by kernel_rfl):PT X (.Compare a [op] [b] p) (br Γ (.cmp op ra rb)):=by
 show PT X _ (lY (cT (bZ Γ.K op) (ag Γ ra) (ag Γ rb)))
 rw[←G.K]
 exact NN (qv G.units op) ha hb hm
theorem fc(G:Good CX S Γ X)(h:PE X (.Call a es [] p) (ag Γ (.call j rs))):PT X (.Call a es [] p) (br Γ (.call j rs)):=by
 show PT X _ (dy Γ.K (ag Γ (.call j rs)))
 rw[←G.K]
 exact vI h fun _=>rfl
theorem vR{T:Ty}(G:Good CX S Γ X)(h:PE X (.Call a es [] p) (ag Γ (.dw T ra))):PT X (.Call a es [] p) (br Γ (.dw T ra)):=by
 show PT X _ (dy Γ.K (ag Γ (.dw T ra)))
 rw[←G.K]
 exact vI h fun _=>rfl
theorem fX{tg:Expr}(G:Good CX S Γ X)(ha:PE X a (ag Γ ra)):PI X tg a (e7 Γ .list [ra]):=by
 show PI X tg a (t6 Γ.K (ag Γ ra))
 rw[←G.K]
 exact Nf ha
theorem GX{tg:Expr}(G:Good CX S Γ X)(ha:PE X a (ag Γ ra))(h:kB S x "range"=true:=by kernel_rfl)(hs:noStar a=true:=by kernel_rfl):PI X tg (.Call (.Name x p) [a] [] pos) (e7 Γ .eG [ra]):=by
 simp only[kB,Bool.and_eq_true,decide_eq_true_eq] at h
 obtain⟨⟨rfl,h2⟩,h3⟩:=h
 exact Ni (G.gl h2) (G.fS _ h3) (nv ha pW (dq hs)) (dq hs)
theorem SO{ts:List Expr}{k}{tp:Pos}(G:Good CX S Γ X)(ha:PE X a (ag Γ ra))(h:kB S x "enumerate"=true:=by kernel_rfl)(hs:noStar a=true:=by kernel_rfl):PI X (.Tuple ts k tp) (.Call (.Name x p) [a] [] pos) (e7 Γ .u_ [ra]):=by
 simp only[kB,Bool.and_eq_true,decide_eq_true_eq] at h
 obtain⟨⟨rfl,h2⟩,h3⟩:=h
 show PI X _ _ (vd Γ.K (cM (ag Γ ra) (bq Γ [])))
 rw[←G.K]
 exact Rm (G.gl h2) (G.fS _ h3) (nv ha pW (dq hs)) (dq hs)
end
section
variable {CX:aL} {S:cJ} {Γ:aE} {X:Cx} {e a b c v:Expr} {es:List Expr} {x:Str} {p q pos:Pos} {r ra rb rc:RE} {i j:Nat} {st:Stmt} {GY:List Stmt} {s:RS} {ss t u:List RS}
theorem vS{v:Expr}{t:Option Expr}{l:Nat}{env:Env}(h:qK v=true):swapsWith v t l env=pure false:=by
 cases v<;>first | rfl | cases h
theorem SQ{v:Expr}{x:Str}{p:Pos}{l:Nat}{env:Env}(h:env.kindOf x=some .cell):swapsWith v (some (.Name x p)) l env=pure false:=by
 cases v<;>first
  | rfl
  | (unfold swapsWith;simp only[h];have q:(some NameKind.cell==some NameKind.local)=false:=rfl;simp only[q,Bool.and_false,Bool.false_and])
theorem SR{v o i:Expr}{p:Pos}{l:Nat}{env:Env}:swapsWith v (some (.Subscript o i p)) l env=pure false:=by
 cases v<;>rfl
theorem SS{v o i:Expr}{p:Pos}{env:Env}:swappedStores [.Subscript o i p] v env=pure none:=by
 cases v<;>rfl
theorem aQ.name(G:aQ CX S Γ X)(h:kL S i x=true):PG X (.Name x p) (dQ i):=by
 simp only[kL,Bool.and_eq_true,decide_eq_true_eq] at h
 exact pK (by rw[G.N];exact G.nd) (by rw[G.N];exact h.1) (by rw[G.sc];exact Gk h.2) (.inl (G.vM x))
theorem aw:aW X [] (ar Γ []):=MW
theorem ah(h:PS X st (bR Γ s))(t:aW X GY (ar Γ ss)):aW X (st::GY) (ar Γ (s::ss)):=MX h t
theorem aM(G:aQ CX S Γ X)(he:PE X v (ag Γ r))(h:kL S i x=true:=by kernel_rfl)(hc:(qK v || decide (S.sc.names.lookup x=some .cell))=true:=by kernel_rfl):PS X (.Assign [.Name x p] v q) (bR Γ (.asg i r)):=by
 simp only[kL,Bool.and_eq_true,decide_eq_true_eq,Bool.or_eq_true] at h hc
 refine M8 (by rw[G.N];exact G.nd) (by rw[G.N];exact h.1) (by rw[G.sc];exact Gk h.2) he ?_ (.inl (G.vM x))
 rcases hc with h4 | h4
 ·exact vS h4
 ·exact SQ (by show X.env.scope.names.lookup x=_;rw[G.sc];exact h4)
theorem SU(he:PE X v (ag Γ r))(ha:PE X a (ag Γ ra))(hb:PE X b (ag Γ rb))(h:vL b=true:=by kernel_rfl):PS X (.Assign [.Subscript a b p] v q) (bR Γ (.set ra rb r)):=
 M7 he (M6 ha hb set_list (by intro w;cases b<;>first | rfl | cases h)) (by exact SR (o:=a) (i:=b) (p:=p) (l:=q.line) (env:=X.env)) SS rfl
theorem jw{f:Str}(G:aQ CX S Γ X)(ho:PE X a (ag Γ ra))(he:PE X v (ag Γ r))(h:qK v=true:=by kernel_rfl):PS X (.Assign [.Attribute a f p] v q) (bR Γ (.fO ra f r)):=by
 show PS X _ (ug Γ.K (ag Γ ra) (ag Γ r) f)
 rw[←G.K]
 exact Oa ho he (vS h)
theorem cW(he:PE X v (ag Γ r))(h:qK v=true:=by kernel_rfl):PS X (.Expr v p) (bR Γ (.drop r)):=M0 he (vS h)
theorem aV(he:PE X v (ag Γ r)):PS X (.Return (some v) p) (bR Γ (.ret r)):=M1 he
theorem bD{as bs:List Stmt}(hc:PT X c (br Γ rc))(ha:aW X as (ar Γ t))(hb:aW X bs (ar Γ u)):PS X (.If c as bs p) (bR Γ (.ite rc t u)):=M4 hc ha hb
theorem vT{as:List Stmt}(G:aQ CX S Γ X)(hc:PT X c (br Γ rc))(ha:aW X as (ar Γ t)):PS X (.While c as [] p) (bR Γ (.mm rc t)):=M9 G.own hc ha
theorem oi{k:IK}{its:List RE}{iter:Expr}{as:List Stmt}(G:aQ CX S Γ X)(hi:PI X (.Name x p) iter (e7 Γ k its))(ha:aW X as (ar Γ t))(h:kL S i x=true:=by kernel_rfl)(hs:nX iter=true:=by kernel_rfl)(hq:S.md=0:=by rfl):PS X (.For (.Name x p) iter as [] q) (bR Γ (.gL i k its t)):=
 Em G.own (G.calm hq) hi (G.name h) ha (vC hs)
theorem GZ(G:aQ CX S Γ X): ∀(is:List Nat) (xs:List (Str×Pos)),my S.N S.sc is (xs.map (·.1))=true→
  lV X (xs.map fun y=> .Name y.1 y.2) (jt is)∧(assignEach (xs.map fun y=>Expr.Name y.1 y.2) X.env).length=is.length∧(assignEach (xs.map fun y=>Expr.Name y.1 y.2) X.env).findIdx? (·.1)=none
 | [],xs,h=>by
  simp only[my,List.isEmpty_iff,List.map_eq_nil_iff] at h
  subst h;exact⟨Ee,rfl,rfl⟩
 | i::r,[],h=>by simp only[List.map_nil,my] at h;cases h
 | i::r,y::t,h=>by
  simp only[List.map_cons,my,Bool.and_eq_true] at h
  obtain⟨i1,i2,i3⟩:=GZ G r t h.2
  refine⟨tZ (G.name (by simp only[kL,Bool.and_eq_true];exact h.1)) i1 rfl, ?_, ?_⟩
  ·show(assignEach _ X.env).length+1=r.length+1
   rw[i2]
  ·show List.findIdx? (·.1) ((false,assign (.Name y.1 y.2) X.env)::assignEach _ X.env)=none
   rw[List.findIdx?_cons,i3];rfl
theorem vU{is:List Nat}{k:IK}{its:List RE}{iter:Expr}{as:List Stmt}{kt}{tp:Pos}(xs:List (Str×Pos))(G:aQ CX S Γ X)(hi:PI X (.Tuple (xs.map fun y=> .Name y.1 y.2) kt tp) iter (e7 Γ k its))(ha:aW X as (ar Γ t))(h:my S.N S.sc is (xs.map (·.1))=true:=by kernel_rfl)(hs:nX iter=true:=by kernel_rfl)(hq:S.md=0:=by rfl):
  PS X (.For (.Tuple (xs.map fun y=> .Name y.1 y.2) kt tp) iter as [] q) (bR Γ (.mj is k its t)):=by
 obtain⟨i1,i2,i3⟩:=GZ G is xs h
 show PS X _ (pN (e7 Γ k its) (mx Γ.K is.length (jt is)) (ar Γ t))
 rw[←G.K]
 exact Em G.own (G.calm hq) hi (Sz (G.calm hq) i1 i2 i3) ha (vC hs)
def kX(S:cJ)(j:Nat)(x:Str):Bool:=decide (S.en[j]?=some x) && iq S.sc x && !(x==("__debug__":Str))
theorem iz{rs:List RE}{np cz:Pos}(G:aQ CX S Γ X)(hA:PA X (e::es) (bq Γ (r::rs)))(h:kX S j x=true:=by kernel_rfl)(hn:dU (e::es)=true:=by kernel_rfl)(hq:S.md=0:=by rfl):PS X (.Raise (some (.Call (.Name x np) (e::es) [] cz)) none pos) (bR Γ (.fP j (r::rs))):=by
 simp only[kX,Bool.and_eq_true,decide_eq_true_eq,Bool.not_eq_true'] at h
 obtain⟨bm,B,newId,mw,O,FB⟩:=G.vz j x h.1.1
 exact RF (G.calm hq) O FB (G.gl h.1.2) h.2 hA (dq (dz hn).1) (gM _ _ es (dz hn).2) (G.rs j x h.1.1)
theorem SV:PS X (.Continue p) (bR Γ .cont):=MZ
end
section
variable {P:Program} {w:World} {K:PySem.W.Frag} {mg:Str→Option Value} {base:Heap}
def bA(P:Program)(w:World)(K:PySem.W.Frag)(mg:Str→Option Value)(base:Heap)(k:Nat)(x:Str)(sp:Sp):Prop:=
 ∃f fd ps,cn P w K mg base (dS P w) k f fd ps sp∧mg x=some (.ref f)∧keepIn K (.ref f)=true∧Binds K fd ps []
theorem bA.mono{j k:Nat}{x:Str}{sp:Sp}(h:bA P w K mg base j x sp)(hk:j≤k):bA P w K mg base k x sp:=by
 obtain⟨f,fd,ps,F,r⟩:=h
 exact⟨f,fd,ps,F.mono hk,r⟩
def iA(tab:List (Str×Sp))(j:Nat):Sp:=match tab[j]? with
 | some p=>p.2
 | none=>fun _ _ _ _=>False
def qO(tab:List (Str×V))(j:Nat):V:=match tab[j]? with
 | some p=>p.2
 | none=> .av
structure jx (mg:Str→Option Value) (p:Str×V):Prop where
 ex: ∃u,mg p.1=some u∧RelV p.2 u
def fY(tab:List (Str×Addr×Sp))(j:Nat):Addr×Sp:=match tab[j]? with
 | some p=>p.2
 | none=> (0,fun _ _ _ _=>False)
def qP(tab:List (Str×Addr))(j:Nat):Addr:=match tab[j]? with
 | some p=>p.2
 | none=>0
abbrev aS(K:PySem.W.Frag)(tab:List (Str×Sp))(gt:List (Str×V))(dk:List (Addr×List (Key×V)):=[])(mt kt:List (Str×Addr×Sp):=[])(et:List (Str×Addr):=[])(ht:List (Str×Sp):=[])(E:XK:=E0):aE:=
 {K:=K,fs:=iA tab,gv:=qO gt,E:=E,sd:=fun p aJ=> (p,aJ)∈dk,ms:=fY mt,kt:=fY kt,ex:=qP et,hs:=iA ht,hv:=none}
def dX(P:Program)(w:World)(K:PySem.W.Frag)(mg:Str→Option Value)(base:Heap)(k:Nat)(p:Str×Addr×Sp):Prop:=
 dH K p.2.1∧ ∃f fd ps,Meth K p.2.1 p.1 f∧cn P w K mg base (dS P w) k f fd ps p.2.2∧Binds K fd ps []
def mB(P:Program)(w:World)(K:PySem.W.Frag)(mg:Str→Option Value)(base:Heap)(k:Nat)(p:Str×Addr×Sp):Prop:=
 ∃j f fd ps,j+1≤k∧Mk K p.2.1 f∧cn P w K mg base (dS P w) j f fd ps p.2.2∧mg p.1=some (.ref p.2.1)∧Binds K fd ps []
theorem dX.mono{j k:Nat}{p:Str×Addr×Sp}(h:dX P w K mg base j p)(hk:j≤k):dX P w K mg base k p:=by
 obtain⟨c,f,fd,ps,m,F,b⟩:=h
 exact⟨c,f,fd,ps,m,F.mono hk,b⟩
theorem mB.mono{j k:Nat}{p:Str×Addr×Sp}(h:mB P w K mg base j p)(hk:j≤k):mB P w K mg base k p:=by
 obtain⟨i,f,fd,ps,m,r⟩:=h
 exact⟨i,f,fd,ps,Nat.le_trans m hk,r⟩
def SW(P:Program)(w:World)(K:PySem.W.Frag)(q:Addr×List (Key×V)):Prop:= ∀h:Heap,K.In h→ ∃vs,KV q.2 vs∧h.DictOf (fA P w) q.1 vs
abbrev aZ(N:List Str)(sc:Scope)(tab:List Str)(gt:List Str)(bl:List Str)(mn kn:List Str:=[])(en hn:List Str:=[])(md:Nat:=0):cJ:={N:=N,sc:=sc,fn:=tab,gn:=gt,bl:=bl,mn:=mn,kn:=kn,en:=en,hn:=hn,md:=md}
def mD(mg:Str→Option Value)(base:Heap)(p:Str×Addr):Prop:= ∃bm B newId mw,OwnCls p.1 p.2 bm newId mg base∧ExcBaseFacts B newId mw bm
def SX(P:Program)(w:World)(K:PySem.W.Frag)(mg:Str→Option Value)(base:Heap)(k:Nat)(x:Str)(sp:Sp):Prop:=
 ∃f fd ps,Gx P w K mg base k f fd ps sp∧mg x=some (.ref f)∧keepIn K (.ref f)=true∧Binds K fd ps []
theorem bB{x qual:Str}{st:Stmt}{f:Addr}{fd:FuncData}{N ps:List Str}{k:Nat}{sp:Sp}(F:nN K x qual st f fd)(S:bo N ps (au st))
  (tab:List (Str×Sp)) (gt:List (Str×V)) (bl:List Str) (mt kt:List (Str×Addr×Sp)) (et:List (Str×Addr)) (ht:List (Str×Sp)) (body:List RS)
  (hm: ∀{CX:aL} {Γ:aE} {X:Cx},aQ CX (aZ N (au st) (tab.map (·.1)) (gt.map (·.1)) bl (mt.map (·.1)) (kt.map (·.1)) (et.map (·.1)) (ht.map (·.1))) Γ X→aW X (az st) (ar Γ body))
  (SY: ∀p∈tab,bA P w K mg base k p.1 p.2) (S4: ∀p∈gt,jx mg p) (S5: ∀y∈bl,mg y=none) (dk:List (Addr×List (Key×V))) (S6: ∀q∈dk,SW P w K q)
  (S7: ∀p∈mt,dX P w K mg base k p) (S8: ∀p∈kt,mB P w K mg base k p) (het: ∀p∈et,mD mg base p) (S9: ∀p∈ht,SX P w K mg base k p.1 p.2)
  (len: ∀vs H Q E,sp vs H Q E→vs.length=ps.length)
  (S_: ∀vs H Q E,sp vs H Q E→ar (aS K tab gt dk mt kt et ht E) body {nx:=fun _ H'=>Q .av H',rt:=Q} (start N vs) H):cn P w K mg base (dS P w) (k+1) f fd ps sp:=by
 obtain⟨oc,od,kV,doc,pm,an,cN,ct,gF,rfl,lk,eW⟩:=F.ex
 refine ES lk eW S len fun A outer s H vs Q E hr ia=> ⟨_,hm (CX:=dS P w) (Γ:=aS K tab gt dk mt kt et ht E) ?_,S_ vs H Q E ia⟩
 refine {N:=rfl,sc:=rfl,K:=rfl,calm:=fun _=>rfl,units:=hr.units,fns:=fun _ j y hj=> ?_,qE:=fun j y hj=> ?_,fS:=fun y hy=> ?_,pass:=RB,qF:=fun _ _ _ _ _ h=>Gv h,qG:=fun p aJ h=>S6 _ h,n6:=fun _ j y hj=> ?_,n_:=fun _ j y hj=> ?_,vz:=fun j y hj=> ?_,vA:=fun j y hj=> ?_,vB:=fun _ h=> (nomatch h),GC:=fun h=> (nomatch h),nd:=S.nd,vM:=fun _=>rfl,own:=PassesOwn.leaving,SD:=S.kind,rs:=fun _ _ _=>RD,m_:=rfl,js:=rfl,SE:=rfl,SF:=rfl}
 ·have bO:(tab.map (·.1))[j]?=some y:=hj
  rw[List.getElem?_map] at bO
  cases q:tab[j]? with
  | none=>rw[q] at bO;cases bO
  | some p=>
   rw[q] at bO
   have e:p.1=y:=Option.some.inj bO
   obtain⟨f',jy,jz,F',m',k',b'⟩:=SY p (List.mem_of_getElem? q)
   have es:iA tab j=p.2:=by unfold iA;rw[q]
   show Gy (dS P w) _ y (iA tab j)
   rw[es,←e]
   exact⟨k,f',jy,jz,F',hr,m',k',b'⟩
 ·have bO:(gt.map (·.1))[j]?=some y:=hj
  rw[List.getElem?_map] at bO
  cases q:gt[j]? with
  | none=>rw[q] at bO;cases bO
  | some p=>
   rw[q] at bO
   have e:p.1=y:=Option.some.inj bO
   obtain⟨u,h1,h2⟩:=(S4 p (List.mem_of_getElem? q)).ex
   have es:qO gt j=p.2:=by unfold qO;rw[q]
   show ∃u,mg y=some u∧RelV (qO gt j) u
   rw[es,←e]
   exact⟨u,h1,h2⟩
 ·exact S5 y (by simpa using hy)
 ·have bO:(mt.map (·.1))[j]?=some y:=hj
  rw[List.getElem?_map] at bO
  cases q:mt[j]? with
  | none=>rw[q] at bO;cases bO
  | some p=>
   rw[q] at bO
   have e:p.1=y:=Option.some.inj bO
   obtain⟨c,f',jy,jz,m',F',b'⟩:=S7 p (List.mem_of_getElem? q)
   have es:fY mt j=p.2:=by unfold fY;rw[q]
   show qD (dS P w) _ (fY mt j).1 y (fY mt j).2
   rw[es,←e]
   exact⟨c,k,f',jy,jz,m',F',hr,b'⟩
 ·have bO:(kt.map (·.1))[j]?=some y:=hj
  rw[List.getElem?_map] at bO
  cases q:kt[j]? with
  | none=>rw[q] at bO;cases bO
  | some p=>
   rw[q] at bO
   have e:p.1=y:=Option.some.inj bO
   obtain⟨i,f',jy,jz,hi,m',F',g',b'⟩:=S8 p (List.mem_of_getElem? q)
   have es:fY kt j=p.2:=by unfold fY;rw[q]
   show Gz (dS P w) _ y (fY kt j).1 (fY kt j).2
   rw[es,←e]
   exact⟨i,f',jy,jz,m',F',hr.mono hi,g',b'⟩
 ·have bO:(et.map (·.1))[j]?=some y:=hj
  rw[List.getElem?_map] at bO
  cases q:et[j]? with
  | none=>rw[q] at bO;cases bO
  | some p=>
   rw[q] at bO
   have e:p.1=y:=Option.some.inj bO
   have es:qP et j=p.2:=by unfold qP;rw[q]
   show GB _ y (qP et j)
   rw[es,←e]
   exact het p (List.mem_of_getElem? q)
 ·have bO:(ht.map (·.1))[j]?=some y:=hj
  rw[List.getElem?_map] at bO
  cases q:ht[j]? with
  | none=>rw[q] at bO;cases bO
  | some p=>
   rw[q] at bO
   have e:p.1=y:=Option.some.inj bO
   obtain⟨f',jy,jz,F',m',k',b'⟩:=S9 p (List.mem_of_getElem? q)
   have es:iA ht j=p.2:=by unfold iA;rw[q]
   show GA _ y (iA ht j)
   rw[es,←e]
   exact⟨k,f',jy,jz,F',hr.h,m',k',b'⟩
section
variable {x qual:Str} {st:Stmt} {f C:Addr} {fd:FuncData} {N ps:List Str} {k:Nat} {sp:Sp}
end
theorem oj{x qual:Str}{st:Stmt}{f:Addr}{fd:FuncData}{N ps:List Str}{k:Nat}{sp:Sp}(F:nN K x qual st f fd)(S:bo N ps (au st))(ji:mg x=some (.ref f))(hb:Binds K fd ps [])
  (no: ∀vs H Q E,¬sp vs H Q E):bA P w K mg base (k+1) x sp:=
 by
 obtain⟨oc,od,kV,doc,pm,an,cN,ct,gF,rfl,lk,eW⟩:=F.ex
 exact⟨f,_,ps,ES lk eW S (fun vs H Q E h=> (no vs H Q E h).elim) (fun A outer s H vs Q E hr h=> (no vs H Q E h).elim),ji,F.kp,hb⟩
end
section
variable {P:Program} {w:World} {K:PySem.W.Frag} {mg:Str→Option Value} {base:Heap} {x qual:Str} {st:Stmt} {f:Addr} {fd:FuncData} {N ps:List Str} {k:Nat} {sp:Sp}
theorem cn.top{k:Nat}(F:cn P w K mg base (dS P w) k f fd ps sp):cn P w K mg base qe k f fd ps (fun vs H Q _=>sp vs H Q E0):=
 ⟨fun vs H Q E h=>F.len vs H Q E0 h,fun A outer s H args us vs Q E hr e0 hb hv hs=>codeAny_mono (F.run A outer s H args us vs Q E0 hr e0 hb hv hs) fun r s' h=>by
  cases r with
  | error e=>exact(Gv h).elim
  | ok fl=>cases fl<;>exact h⟩
end
section
variable {Γ:aE} {D:Ends} {σ:St} {H:Hp} {r:List RS} {Q:VK}
theorem G0{i:Nat}{e:RE}(h:ag Γ e σ H fun x H1=>ar Γ r D (σ.set i (some x)) H1):ar Γ (.asg i e::r) D σ H:=h
theorem G1{b:gK}{as:List RE}(h:bq Γ as σ H fun vs H1=>jo Γ.K b vs H1 Q):ag Γ (.blt b as) σ H Q:=h
theorem G3{a:RE}{Q:List V→Hp→Prop}(h:ag Γ a σ H fun x H1=>Q [x] H1):bq Γ [a] σ H Q:=h
end
end L2
namespace L2.B
open PySem PySem.Spec PyProof.Rows
def vV:List Str:=["thing"]
def G4:List Str:=["thing"]
noncomputable def vW:List RS:=
 [.ret (.and [(.dw .int (.v 0)),(.not (.dw .bool (.v 0)))])]
def Ta:List Str:=[]
def Tb:List Str:=[]
def G5:List Str:=["isinstance","int","bool"]
def Tc:List Str:=[]
def Td:List Str:=[]
def Te:List Str:=[]
def Tf:List Str:=[]
def qQ:List Str:=["thing","words"]
def G6:List Str:=["thing","words"]
noncomputable def qR:List RS:=
 [.ret (.and [(.dw .str (.v 0)),(.cmp .In (.v 0) (.v 1))])]
def Tg:List Str:=[]
def Th:List Str:=[]
def G7:List Str:=["isinstance","str"]
def Ti:List Str:=[]
def Tj:List Str:=[]
def Tn:List Str:=[]
def To:List Str:=[]
def qS:List Str:=["thing"]
def G8:List Str:=["thing"]
noncomputable def qT:List RS:=
 [.ret (.and [(.dw .str (.v 0)),(.cmp .Eq (.bE .lstrip (.v 0) [(.g 0)]) (.c (.str "")))])]
def Tp:List Str:=[]
def Tq:List Str:=["SIGNS"]
def G9:List Str:=["isinstance","str"]
def Ts:List Str:=[]
def Tt:List Str:=[]
def Tu:List Str:=[]
def Tv:List Str:=[]
def vX:List Str:=["thing"]
def G_:List Str:=["thing"]
noncomputable def vY:List RS:=
 [.ite (.not (.call 0 [(.v 0)])) [.fP 0 [(.c (.str "a text is a str of signs from the blank to the tilde, and line feeds"))]] []]
def Tw:List Str:=["is_text"]
def Tx:List Str:=[]
def Ha:List Str:=[]
def Tz:List Str:=[]
def TB:List Str:=[]
def TC:List Str:=["BadText"]
def TF:List Str:=[]
def om:List Str:=["thing"]
def Hb:List Str:=["thing"]
noncomputable def oo:List RS:=
 [.ite (.or [(.not (.dw .tuple (.v 0))),(.cmp .NotEq (.blt .len [(.v 0)]) (.c (.int 2)))]) [.ret (.c (.bl false))] [],
 .ite (.call 0 [(.ix (.v 0) (.c (.int 0))),(.tup [(.c (.str "keep"))])]) [.ret (.and [(.call 1 [(.ix (.v 0) (.c (.int 1)))]),(.cmp .GtE (.ix (.v 0) (.c (.int 1))) (.c (.int 1)))])] [],
 .ret (.and [(.call 0 [(.ix (.v 0) (.c (.int 0))),(.tup [(.c (.str "cut")),(.c (.str "put"))])]),(.call 2 [(.ix (.v 0) (.c (.int 1)))]),(.cmp .NotEq (.ix (.v 0) (.c (.int 1))) (.c (.str "")))])]
def TH:List Str:=["is_word","is_whole","is_text"]
def TJ:List Str:=[]
def Hc:List Str:=["isinstance","tuple","len"]
def TK:List Str:=[]
def TL:List Str:=[]
def TM:List Str:=[]
def TN:List Str:=[]
def vZ:List Str:=["word","ahead"]
def He:List Str:=["word","ahead"]
noncomputable def v7:List RS:=
 [.ret (.and [(.cmp .NotEq (.v 0) (.v 1)),(.not (.and [(.cmp .Eq (.v 1) (.c (.str "cut"))),(.cmp .Eq (.v 0) (.c (.str "put")))]))])]
def TQ:List Str:=[]
def TR:List Str:=[]
def Hf:List Str:=[]
def TU:List Str:=[]
def TV:List Str:=[]
def TX:List Str:=[]
def TY:List Str:=[]
def v8:List Str:=["change","ahead","part"]
def Hg:List Str:=["change"]
noncomputable def v9:List RS:=
 [.ite (.not (.dw .list (.v 0))) [.fP 0 [(.c (.str "a change is a list"))]] [],
 .asg 1 (.c (.str "")),
 .gL 2 .list [(.v 0)] [.ite (.not (.call 0 [(.v 2)])) [.fP 0 [(.c (.str "a part is a keep of 1 sign or more, or a cut or put of a text that is not empty"))]] [],
  .ite (.not (.call 1 [(.ix (.v 2) (.c (.int 0))),(.v 1)])) [.fP 0 [(.c (.str "neighbours have two words, and no put stands right behind a cut"))]] [],
  .asg 1 (.ix (.v 2) (.c (.int 0)))]]
def TZ:List Str:=["is_part","may_follow"]
def T_:List Str:=[]
def Hh:List Str:=["isinstance","list"]
def Ua:List Str:=[]
def Ub:List Str:=[]
def Uc:List Str:=["BadChange"]
def Ud:List Str:=[]
def v_:List Str:=["part"]
def Hi:List Str:=["part"]
noncomputable def wa:List RS:=
 [.ret (.mi (.cmp .Eq (.ix (.v 0) (.c (.int 0))) (.c (.str "keep"))) (.ix (.v 0) (.c (.int 1))) (.blt .len [(.ix (.v 0) (.c (.int 1)))]))]
def Ue:List Str:=[]
def Ug:List Str:=[]
def Hj:List Str:=["len"]
def Uh:List Str:=[]
def Ui:List Str:=[]
def Uj:List Str:=[]
def Uk:List Str:=[]
def wb:List Str:=["change","over","gives"]
def Hk:List Str:=["change"]
noncomputable def wc:List RS:=
 [.drop (.call 0 [(.v 0)]),
 .asg 1 (.blt .sum [(.comp none [] .list [(.v 0)] (some (.cmp .NotEq (.ix (.v 0) (.c (.int 0))) (.c (.str "put")))) (.call 1 [(.v 0)]))]),
 .asg 2 (.blt .sum [(.comp none [] .list [(.v 0)] (some (.cmp .NotEq (.ix (.v 0) (.c (.int 0))) (.c (.str "cut")))) (.call 1 [(.v 0)]))]),
 .ret (.tup [(.v 1),(.v 2)])]
def Ul:List Str:=["need_change","part_size"]
def Um:List Str:=[]
def Hl:List Str:=["sum"]
def Uo:List Str:=[]
def Up:List Str:=[]
def Uq:List Str:=[]
def Ur:List Str:=[]
def we:List Str:=["_law_script","_law_k"]
def Hm:List Str:=["_law_script","_law_k"]
noncomputable def wg:List RS:=
 [.ite (.cmp .Lt (.v 1) (.blt .len [(.v 0)])) [.ret (.ix (.v 0) (.v 1))] [],
 .ret (.c (.int 0))]
def Us:List Str:=[]
def Ut:List Str:=[]
def Hn:List Str:=["len"]
def Uu:List Str:=[]
def Uv:List Str:=[]
def Uw:List Str:=[]
def Ux:List Str:=[]
def wj:List Str:=["thing","least","most"]
def Ho:List Str:=["thing","least","most"]
noncomputable def wk:List RS:=
 [.ret (.and [(.call 0 [(.v 0)]),(.nT .LtE .LtE (.v 1) (.v 0) (.v 2))])]
def Uy:List Str:=["is_whole"]
def Uz:List Str:=[]
def Hq:List Str:=[]
def UA:List Str:=[]
def UB:List Str:=[]
def UC:List Str:=[]
def UD:List Str:=[]
def qU:List Str:=["_law_found_here"]
noncomputable def wm:List RS:=
 [.ret (.and [(.dw .int (.v 0)),(.not (.dw .bool (.v 0)))])]
def UE:List Str:=[]
def UG:List Str:=[]
def Hr:List Str:=["isinstance","int","bool"]
def UH:List Str:=[]
def UI:List Str:=[]
def UJ:List Str:=[]
def UK:List Str:=[]
def wo:List Str:=["row","most","least","beyond","middle"]
def Hs:List Str:=["row","most"]
noncomputable def wq:List RS:=
 [.asg 2 (.c (.int 0)),
 .asg 3 (.blt .len [(.v 0)]),
 .mm (.cmp .Lt (.v 2) (.v 3)) [.asg 4 (.bin .FloorDiv (.bin .Add (.v 2) (.v 3)) (.c (.int 2))),
  .ite (.cmp .LtE (.ix (.v 0) (.v 4)) (.v 1)) [.asg 2 (.bin .Add (.v 4) (.c (.int 1)))] [.asg 3 (.v 4)]],
 .ret (.v 2)]
def UL:List Str:=[]
def UM:List Str:=[]
def Ht:List Str:=["len"]
def UN:List Str:=[]
def UO:List Str:=[]
def UP:List Str:=[]
def UQ:List Str:=[]
def wt:List Str:=["self"]
def Hu:List Str:=["self"]
noncomputable def wu:List RS:=
 [.fO (.v 0) "texts" (.lst []),
 .fO (.v 0) "begins" (.lst []),
 .fO (.v 0) "feeds" (.lst []),
 .fO (.v 0) "signs" (.c (.int 0))]
def UR:List Str:=[]
def US:List Str:=[]
def Hv:List Str:=[]
def UT:List Str:=[]
def UU:List Str:=[]
def UW:List Str:=[]
def UX:List Str:=[]
def qW:List Str:=["self","text","begin","feed"]
def Hw:List Str:=["self","text"]
noncomputable def wx:List RS:=
 [.drop (.call 0 [(.v 1)]),
 .asg 2 (.fld (.v 0) "signs"),
 .drop (.bE .append (.fld (.v 0) "texts") [(.v 1)]),
 .drop (.bE .append (.fld (.v 0) "begins") [(.v 2)]),
 .fO (.v 0) "signs" (.bin .Add (.v 2) (.blt .len [(.v 1)])),
 .asg 3 (.bE .find (.v 1) [(.c (.str "\n"))]),
 .mm (.cmp .GtE (.v 3) (.c (.int 0))) [.drop (.bE .append (.fld (.v 0) "feeds") [(.bin .Add (.v 2) (.v 3))]),
  .asg 3 (.bE .find (.v 1) [(.c (.str "\n")),(.bin .Add (.v 3) (.c (.int 1)))])],
 .ret (.v 2)]
def UY:List Str:=["need_text"]
def UZ:List Str:=[]
def Hx:List Str:=["len"]
def U0:List Str:=[]
def U1:List Str:=[]
def U2:List Str:=[]
def U3:List Str:=[]
def wy:List Str:=["self","begin","size","pieces","number","end","offset","piece"]
def Hy:List Str:=["self","begin","size"]
noncomputable def wz:List RS:=
 [.ite (.or [(.not (.call 0 [(.v 1),(.c (.int 0)),(.fld (.v 0) "signs")])),(.not (.call 0 [(.v 2),(.c (.int 0)),(.bin .Sub (.fld (.v 0) "signs") (.v 1))]))]) [.fP 0 [(.c (.str "what is read lies within the stock"))]] [],
 .asg 3 (.lst []),
 .asg 4 (.bin .Sub (.call 1 [(.fld (.v 0) "begins"),(.v 1)]) (.c (.int 1))),
 .asg 5 (.bin .Add (.v 1) (.v 2)),
 .mm (.cmp .Lt (.v 1) (.v 5)) [.asg 6 (.bin .Sub (.v 1) (.ix (.fld (.v 0) "begins") (.v 4))),
  .asg 7 (.sl (.ix (.fld (.v 0) "texts") (.v 4)) (some (.v 6)) (some (.bin .Sub (.bin .Add (.v 6) (.v 5)) (.v 1)))),
  .drop (.bE .append (.v 3) [(.v 7)]),
  .asg 1 (.bin .Add (.v 1) (.blt .len [(.v 7)])),
  .asg 4 (.bin .Add (.v 4) (.c (.int 1)))],
 .ret (.bE .join (.c (.str "")) [(.v 3)])]
def U4:List Str:=["is_between","many_upto"]
def U5:List Str:=[]
def Hz:List Str:=["len"]
def U6:List Str:=[]
def U7:List Str:=[]
def U8:List Str:=["NoPlace"]
def U9:List Str:=[]
structure ou (K:PySem.W.Frag) (C:Addr):Prop where
 cl:dH K C
 ow:dR K C "texts"
 qX:dR K C "begins"
 wA:dR K C "feeds"
 qY:dR K C "signs"
def wB:List Str:=["node"]
def HB:List Str:=["node"]
noncomputable def wC:List RS:=
 [.ret (.mi (.cmp .Is (.v 0) (.c .av)) (.c (.int 0)) (.ix (.v 0) (.c (.int 3))))]
def U_:List Str:=[]
def Va:List Str:=[]
def HC:List Str:=[]
def Vb:List Str:=[]
def Vc:List Str:=[]
def Vd:List Str:=[]
def Ve:List Str:=[]
def wD:List Str:=["node"]
def HD:List Str:=["node"]
noncomputable def wF:List RS:=
 [.ret (.mi (.cmp .Is (.v 0) (.c .av)) (.c (.int 0)) (.ix (.v 0) (.c (.int 4))))]
def Vf:List Str:=[]
def Vg:List Str:=[]
def HE:List Str:=[]
def Vh:List Str:=[]
def Vi:List Str:=[]
def Vj:List Str:=[]
def Vk:List Str:=[]
def wG:List Str:=["node"]
def HF:List Str:=["node"]
noncomputable def wH:List RS:=
 [.ret (.mi (.cmp .Is (.v 0) (.c .av)) (.c (.int 0)) (.ix (.v 0) (.c (.int 5))))]
def Vl:List Str:=[]
def Vm:List Str:=[]
def HG:List Str:=[]
def Vn:List Str:=[]
def Vo:List Str:=[]
def Vp:List Str:=[]
def Vq:List Str:=[]
def wI:List Str:=["left","piece","right","height","size"]
def HH:List Str:=["left","piece","right"]
noncomputable def wJ:List RS:=
 [.asg 3 (.bin .Add (.c (.int 1)) (.blt .max [(.call 0 [(.v 0)]),(.call 0 [(.v 2)])])),
 .asg 4 (.bin .Add (.bin .Add (.call 1 [(.v 0)]) (.ix (.v 1) (.c (.int 1)))) (.call 1 [(.v 2)])),
 .ret (.tup [(.v 0),(.v 1),(.v 2),(.v 3),(.v 4),(.bin .Add (.bin .Add (.call 2 [(.v 0)]) (.ix (.v 1) (.c (.int 2)))) (.call 2 [(.v 2)]))])]
def Vr:List Str:=["height_of","size_of","ends_of"]
def Vs:List Str:=[]
def HI:List Str:=["max"]
def Vt:List Str:=[]
def Vu:List Str:=[]
def Vv:List Str:=[]
def Vw:List Str:=[]
def wK:List Str:=["left","piece","right","inner"]
def HJ:List Str:=["left","piece","right"]
noncomputable def wL:List RS:=
 [.asg 3 (.ix (.v 0) (.c (.int 2))),
 .ite (.cmp .GtE (.call 0 [(.ix (.v 0) (.c (.int 0)))]) (.call 0 [(.v 3)])) [.ret (.call 1 [(.ix (.v 0) (.c (.int 0))),(.ix (.v 0) (.c (.int 1))),(.call 1 [(.v 3),(.v 1),(.v 2)])])] [],
 .ret (.call 1 [(.call 1 [(.ix (.v 0) (.c (.int 0))),(.ix (.v 0) (.c (.int 1))),(.ix (.v 3) (.c (.int 0)))]),(.ix (.v 3) (.c (.int 1))),(.call 1 [(.ix (.v 3) (.c (.int 2))),(.v 1),(.v 2)])])]
def Vx:List Str:=["height_of","made"]
def Vy:List Str:=[]
def HK:List Str:=[]
def Vz:List Str:=[]
def VA:List Str:=[]
def VB:List Str:=[]
def VC:List Str:=[]
def wM:List Str:=["left","piece","right","inner"]
def HL:List Str:=["left","piece","right"]
noncomputable def wN:List RS:=
 [.asg 3 (.ix (.v 2) (.c (.int 0))),
 .ite (.cmp .GtE (.call 0 [(.ix (.v 2) (.c (.int 2)))]) (.call 0 [(.v 3)])) [.ret (.call 1 [(.call 1 [(.v 0),(.v 1),(.v 3)]),(.ix (.v 2) (.c (.int 1))),(.ix (.v 2) (.c (.int 2)))])] [],
 .ret (.call 1 [(.call 1 [(.v 0),(.v 1),(.ix (.v 3) (.c (.int 0)))]),(.ix (.v 3) (.c (.int 1))),(.call 1 [(.ix (.v 3) (.c (.int 2))),(.ix (.v 2) (.c (.int 1))),(.ix (.v 2) (.c (.int 2)))])])]
def VD:List Str:=["height_of","made"]
def VE:List Str:=[]
def HM:List Str:=[]
def VF:List Str:=[]
def VG:List Str:=[]
def VH:List Str:=[]
def VI:List Str:=[]
def wO:List Str:=["left","piece","right"]
def HN:List Str:=["left","piece","right"]
noncomputable def wQ:List RS:=
 [.ite (.cmp .Gt (.call 0 [(.v 0)]) (.bin .Add (.call 0 [(.v 2)]) (.c (.int 1)))) [.ret (.call 1 [(.v 0),(.v 1),(.v 2)])] [],
 .ite (.cmp .Gt (.call 0 [(.v 2)]) (.bin .Add (.call 0 [(.v 0)]) (.c (.int 1)))) [.ret (.call 2 [(.v 0),(.v 1),(.v 2)])] [],
 .ret (.call 3 [(.v 0),(.v 1),(.v 2)])]
def VJ:List Str:=["height_of","turned_right","turned_left","made"]
def VL:List Str:=[]
def HP:List Str:=[]
def VM:List Str:=[]
def VN:List Str:=[]
def VO:List Str:=[]
def VP:List Str:=[]
def wR:List Str:=["left","piece","right"]
def HQ:List Str:=["left","piece","right"]
noncomputable def wU:List RS:=
 [.ite (.cmp .Gt (.call 0 [(.v 0)]) (.bin .Add (.call 0 [(.v 2)]) (.c (.int 1)))) [.ret (.call 1 [(.ix (.v 0) (.c (.int 0))),(.ix (.v 0) (.c (.int 1))),(.call 2 [(.ix (.v 0) (.c (.int 2))),(.v 1),(.v 2)])])] [],
 .ite (.cmp .Gt (.call 0 [(.v 2)]) (.bin .Add (.call 0 [(.v 0)]) (.c (.int 1)))) [.ret (.call 1 [(.call 2 [(.v 0),(.v 1),(.ix (.v 2) (.c (.int 0)))]),(.ix (.v 2) (.c (.int 1))),(.ix (.v 2) (.c (.int 2)))])] [],
 .ret (.call 3 [(.v 0),(.v 1),(.v 2)])]
def VQ:List Str:=["height_of","leveled","joined","made"]
def VR:List Str:=[]
def HR:List Str:=[]
def VS:List Str:=[]
def VT:List Str:=[]
def VU:List Str:=[]
def VV:List Str:=[]
def wV:List Str:=["node","out"]
def HS:List Str:=["node"]
noncomputable def wW:List RS:=
 [.ite (.cmp .Is (.ix (.v 0) (.c (.int 2))) (.c .av)) [.ret (.tup [(.ix (.v 0) (.c (.int 0))),(.ix (.v 0) (.c (.int 1)))])] [],
 .asg 1 (.call 0 [(.ix (.v 0) (.c (.int 2)))]),
 .ret (.tup [(.call 1 [(.ix (.v 0) (.c (.int 0))),(.ix (.v 0) (.c (.int 1))),(.ix (.v 1) (.c (.int 0)))]),(.ix (.v 1) (.c (.int 1)))])]
def VW:List Str:=["last_out","joined"]
def VX:List Str:=[]
def HU:List Str:=[]
def VY:List Str:=[]
def VZ:List Str:=[]
def V0:List Str:=[]
def V1:List Str:=[]
def wX:List Str:=["node","out"]
def HV:List Str:=["node"]
noncomputable def wY:List RS:=
 [.ite (.cmp .Is (.ix (.v 0) (.c (.int 0))) (.c .av)) [.ret (.tup [(.ix (.v 0) (.c (.int 1))),(.ix (.v 0) (.c (.int 2)))])] [],
 .asg 1 (.call 0 [(.ix (.v 0) (.c (.int 0)))]),
 .ret (.tup [(.ix (.v 1) (.c (.int 0))),(.call 1 [(.ix (.v 1) (.c (.int 1))),(.ix (.v 0) (.c (.int 1))),(.ix (.v 0) (.c (.int 2)))])])]
def V2:List Str:=["first_out","joined"]
def V3:List Str:=[]
def HW:List Str:=[]
def V4:List Str:=[]
def V5:List Str:=[]
def V6:List Str:=[]
def V7:List Str:=[]
def wZ:List Str:=["left","right","last","first","one","other"]
def HX:List Str:=["left","right"]
noncomputable def w4:List RS:=
 [.ite (.cmp .Is (.v 0) (.c .av)) [.ret (.v 1)] [],
 .asg 2 (.call 0 [(.v 0)]),
 .asg 3 (.call 1 [(.v 1)]),
 .asg 4 (.ix (.v 2) (.c (.int 1))),
 .asg 5 (.ix (.v 3) (.c (.int 0))),
 .ite (.cmp .Eq (.bin .Add (.ix (.v 4) (.c (.int 0))) (.ix (.v 4) (.c (.int 1)))) (.ix (.v 5) (.c (.int 0)))) [.ret (.call 2 [(.ix (.v 2) (.c (.int 0))),(.tup [(.ix (.v 4) (.c (.int 0))),(.bin .Add (.ix (.v 4) (.c (.int 1))) (.ix (.v 5) (.c (.int 1)))),(.bin .Add (.ix (.v 4) (.c (.int 2))) (.ix (.v 5) (.c (.int 2))))]),(.ix (.v 3) (.c (.int 1)))])] [],
 .ret (.call 2 [(.ix (.v 2) (.c (.int 0))),(.v 4),(.v 1)])]
def V8:List Str:=["last_out","first_out","joined"]
def V9:List Str:=[]
def HY:List Str:=[]
def V_:List Str:=[]
def Wa:List Str:=[]
def Wb:List Str:=[]
def Wc:List Str:=[]
def w5:List Str:=["piece","size","stock","middle","ends"]
def HZ:List Str:=["piece","size","stock"]
noncomputable def w6:List RS:=
 [.asg 3 (.bin .Add (.ix (.v 0) (.c (.int 0))) (.v 1)),
 .asg 4 (.bin .Sub (.b9 0 "ends_ahead" (.v 2) [(.v 3)]) (.b9 0 "ends_ahead" (.v 2) [(.ix (.v 0) (.c (.int 0)))])),
 .ret (.tup [(.tup [(.ix (.v 0) (.c (.int 0))),(.v 1),(.v 4)]),(.tup [(.v 3),(.bin .Sub (.ix (.v 0) (.c (.int 1))) (.v 1)),(.bin .Sub (.ix (.v 0) (.c (.int 2))) (.v 4))])])]
def Wd:List Str:=[]
def We:List Str:=[]
def H_:List Str:=[]
def Wf:List Str:=["ends_ahead"]
def Wg:List Str:=[]
def Wh:List Str:=[]
def Wi:List Str:=[]
def w9:List Str:=["node","place","stock","piece","begin","end","sides","halves"]
def Ia:List Str:=["node","place","stock"]
noncomputable def w_:List RS:=
 [.ite (.cmp .Is (.v 0) (.c .av)) [.ret (.tup [(.c .av),(.c .av)])] [],
 .asg 3 (.ix (.v 0) (.c (.int 1))),
 .asg 4 (.call 0 [(.ix (.v 0) (.c (.int 0)))]),
 .asg 5 (.bin .Add (.v 4) (.ix (.v 3) (.c (.int 1)))),
 .ite (.cmp .LtE (.v 1) (.v 4)) [.asg 6 (.call 1 [(.ix (.v 0) (.c (.int 0))),(.v 1),(.v 2)]),
  .ret (.tup [(.ix (.v 6) (.c (.int 0))),(.call 2 [(.ix (.v 6) (.c (.int 1))),(.v 3),(.ix (.v 0) (.c (.int 2)))])])] [],
 .ite (.cmp .GtE (.v 1) (.v 5)) [.asg 6 (.call 1 [(.ix (.v 0) (.c (.int 2))),(.bin .Sub (.v 1) (.v 5)),(.v 2)]),
  .ret (.tup [(.call 2 [(.ix (.v 0) (.c (.int 0))),(.v 3),(.ix (.v 6) (.c (.int 0)))]),(.ix (.v 6) (.c (.int 1)))])] [],
 .asg 7 (.call 3 [(.v 3),(.bin .Sub (.v 1) (.v 4)),(.v 2)]),
 .ret (.tup [(.call 2 [(.ix (.v 0) (.c (.int 0))),(.ix (.v 7) (.c (.int 0))),(.c .av)]),(.call 2 [(.c .av),(.ix (.v 7) (.c (.int 1))),(.ix (.v 0) (.c (.int 2)))])])]
def Wj:List Str:=["size_of","parted","joined","cut_in_two"]
def Wk:List Str:=[]
def Ib:List Str:=[]
def Wl:List Str:=[]
def Wm:List Str:=[]
def Wn:List Str:=[]
def Wo:List Str:=[]
def xa:List Str:=["node","pieces"]
def Ic:List Str:=["node"]
noncomputable def xb:List RS:=
 [.ite (.cmp .Is (.v 0) (.c .av)) [.ret (.lst [])] [],
 .asg 1 (.call 0 [(.ix (.v 0) (.c (.int 0)))]),
 .drop (.bE .append (.v 1) [(.ix (.v 0) (.c (.int 1)))]),
 .drop (.bE .extend (.v 1) [(.call 0 [(.ix (.v 0) (.c (.int 2)))])]),
 .ret (.v 1)]
def Wq:List Str:=["pieces_of"]
def Wr:List Str:=[]
def Ie:List Str:=[]
def Ws:List Str:=[]
def Wt:List Str:=[]
def Wu:List Str:=[]
def Wv:List Str:=[]
def xf:List Str:=["self","place"]
def Ig:List Str:=["self","place"]
noncomputable def xg:List RS:=
 [.ret (.call 0 [(.fld (.v 0) "feeds"),(.bin .Sub (.v 1) (.c (.int 1)))])]
def Ww:List Str:=["many_upto"]
def Wx:List Str:=[]
def Ih:List Str:=[]
def Wy:List Str:=[]
def Wz:List Str:=[]
def WA:List Str:=[]
def WB:List Str:=[]
def xh:List Str:=["stock","text"]
def Ii:List Str:=["stock","text"]
noncomputable def xi:List RS:=
 [.ite (.cmp .Eq (.v 1) (.c (.str ""))) [.ret (.c .av)] [],
 .ret (.call 0 [(.c .av),(.tup [(.b9 0 "put" (.v 0) [(.v 1)]),(.blt .len [(.v 1)]),(.bE .count (.v 1) [(.c (.str "\n"))])]),(.c .av)])]
def WC:List Str:=["joined"]
def WD:List Str:=[]
def Ij:List Str:=["len"]
def WE:List Str:=["put"]
def WG:List Str:=[]
def WH:List Str:=[]
def WI:List Str:=[]
def xj:List Str:=["text","stock"]
def Ik:List Str:=["text"]
noncomputable def xk:List RS:=
 [.drop (.call 0 [(.v 0)]),
 .asg 1 (.make 0 []),
 .ret (.make 1 [(.v 1),(.call 1 [(.v 1),(.v 0)])])]
def WJ:List Str:=["need_text","node_put"]
def WK:List Str:=[]
def Il:List Str:=[]
def WL:List Str:=[]
def WM:List Str:=["Stock","Paper"]
def WN:List Str:=[]
def WO:List Str:=[]
def xl:List Str:=["paper","change","place","part"]
def Im:List Str:=["paper","change"]
noncomputable def xn:List RS:=
 [.ite (.cmp .NotEq (.ix (.call 0 [(.v 1)]) (.c (.int 0))) (.b9 0 "size" (.v 0) [])) [.fP 0 [(.c (.str "the change is over a text of another number of signs"))]] [],
 .asg 2 (.c (.int 0)),
 .gL 3 .list [(.v 1)] [.ite (.and [(.cmp .Eq (.ix (.v 3) (.c (.int 0))) (.c (.str "cut"))),(.cmp .NotEq (.b9 1 "part" (.v 0) [(.v 2),(.bin .Add (.v 2) (.blt .len [(.ix (.v 3) (.c (.int 1)))]))]) (.ix (.v 3) (.c (.int 1))))]) [.fP 0 [(.c (.str "what is cut is not what stands there"))]] [],
  .ite (.cmp .NotEq (.ix (.v 3) (.c (.int 0))) (.c (.str "put"))) [.asg 2 (.bin .Add (.v 2) (.call 1 [(.v 3)]))] []]]
def WQ:List Str:=["sizes","part_size"]
def WR:List Str:=[]
def Io:List Str:=["len"]
def WS:List Str:=["size","part"]
def WT:List Str:=[]
def WU:List Str:=["BadFit"]
def WV:List Str:=[]
def xo:List Str:=["stock","node"]
def Ip:List Str:=["stock","node"]
noncomputable def xp:List RS:=
 [.ret (.comp none [("stock",0)] .list [(.call 0 [(.v 1)])] none (.b9 0 "read" (.v 1) [(.ix (.v 0) (.c (.int 0))),(.ix (.v 0) (.c (.int 1)))]))]
def WW:List Str:=["pieces_of"]
def WX:List Str:=[]
def Iq:List Str:=[]
def WY:List Str:=["read"]
def WZ:List Str:=[]
def W0:List Str:=[]
def W2:List Str:=[]
def xq:List Str:=["self","stock","node"]
def Ir:List Str:=["self","stock","node"]
noncomputable def xr:List RS:=
 [.fO (.v 0) "stock" (.v 1),
 .fO (.v 0) "node" (.v 2)]
def W3:List Str:=[]
def W4:List Str:=[]
def Iu:List Str:=[]
def W5:List Str:=[]
def W6:List Str:=[]
def W7:List Str:=[]
def W8:List Str:=[]
def xu:List Str:=["self"]
def Iv:List Str:=["self"]
noncomputable def xv:List RS:=
 [.ret (.call 0 [(.fld (.v 0) "node")])]
def W9:List Str:=["size_of"]
def W_:List Str:=[]
def Iw:List Str:=[]
def Xa:List Str:=[]
def Xb:List Str:=[]
def Xd:List Str:=[]
def Xe:List Str:=[]
def xx:List Str:=["self"]
def Iy:List Str:=["self"]
noncomputable def xy:List RS:=
 [.ret (.bin .Add (.call 0 [(.fld (.v 0) "node")]) (.c (.int 1)))]
def Xf:List Str:=["ends_of"]
def Xg:List Str:=[]
def Iz:List Str:=[]
def Xh:List Str:=[]
def Xi:List Str:=[]
def Xj:List Str:=[]
def Xk:List Str:=[]
def xB:List Str:=["self"]
def IA:List Str:=["self"]
noncomputable def xC:List RS:=
 [.ret (.bE .join (.c (.str "")) [(.call 0 [(.fld (.v 0) "stock"),(.fld (.v 0) "node")])])]
def Xl:List Str:=["texts_of"]
def Xm:List Str:=[]
def IB:List Str:=[]
def Xn:List Str:=[]
def Xo:List Str:=[]
def Xp:List Str:=[]
def Xq:List Str:=[]
def xD:List Str:=["self"]
def IC:List Str:=["self"]
noncomputable def xE:List RS:=
 [.ret (.call 0 [(.fld (.v 0) "stock"),(.fld (.v 0) "node")])]
def Xr:List Str:=["texts_of"]
def Xs:List Str:=[]
def ID:List Str:=[]
def Xt:List Str:=[]
def Xu:List Str:=[]
def Xv:List Str:=[]
def Xw:List Str:=[]
def xF:List Str:=["self"]
def IE:List Str:=["self"]
noncomputable def xG:List RS:=
 [.ret (.call 0 [(.fld (.v 0) "node")])]
def Xx:List Str:=["height_of"]
def Xy:List Str:=[]
def IF:List Str:=[]
def Xz:List Str:=[]
def XA:List Str:=[]
def XB:List Str:=[]
def XC:List Str:=[]
def xH:List Str:=["self","begin","end","ahead"]
def IG:List Str:=["self","begin","end"]
noncomputable def xI:List RS:=
 [.ite (.or [(.not (.call 0 [(.v 1),(.c (.int 0)),(.b9 0 "size" (.v 0) [])])),(.not (.call 0 [(.v 2),(.v 1),(.b9 0 "size" (.v 0) [])]))]) [.fP 0 [(.c (.str "a part leads from a place of the text to one that is no less"))]] [],
 .asg 3 (.ix (.call 1 [(.fld (.v 0) "node"),(.v 2),(.fld (.v 0) "stock")]) (.c (.int 0))),
 .ret (.bE .join (.c (.str "")) [(.call 2 [(.fld (.v 0) "stock"),(.ix (.call 1 [(.v 3),(.v 1),(.fld (.v 0) "stock")]) (.c (.int 1)))])])]
def XD:List Str:=["is_between","parted","texts_of"]
def XE:List Str:=[]
def IH:List Str:=[]
def XF:List Str:=["size"]
def XG:List Str:=[]
def XH:List Str:=["NoPlace"]
def XI:List Str:=[]
def xJ:List Str:=["self","change","ahead","rest","part","sides"]
def II:List Str:=["self","change"]
noncomputable def xM:List RS:=
 [.drop (.call 0 [(.v 0),(.v 1)]),
 .asg 2 (.c .av),
 .asg 3 (.fld (.v 0) "node"),
 .gL 4 .list [(.v 1)] [.ite (.cmp .Eq (.ix (.v 4) (.c (.int 0))) (.c (.str "put"))) [.asg 2 (.call 1 [(.v 2),(.call 2 [(.fld (.v 0) "stock"),(.ix (.v 4) (.c (.int 1)))])]),
   .cont] [],
  .asg 5 (.call 3 [(.v 3),(.call 4 [(.v 4)]),(.fld (.v 0) "stock")]),
  .asg 3 (.ix (.v 5) (.c (.int 1))),
  .ite (.cmp .Eq (.ix (.v 4) (.c (.int 0))) (.c (.str "keep"))) [.asg 2 (.call 1 [(.v 2),(.ix (.v 5) (.c (.int 0)))])] []],
 .ret (.make 0 [(.fld (.v 0) "stock"),(.v 2)])]
def XJ:List Str:=["need_fit","sewn","node_put","parted","part_size"]
def XM:List Str:=[]
def IJ:List Str:=[]
def XN:List Str:=[]
def XO:List Str:=["Paper"]
def XQ:List Str:=[]
def XR:List Str:=[]
structure fi (K:PySem.W.Frag) (C:Addr):Prop where
 cl:dH K C
 fZ:dR K C "stock"
 iB:dR K C "node"
end L2.B
namespace L2
open PySem PySem.Spec PyProof.Rows
section
variable {X:Cx}
end
section
variable {CX:aL} {S:cJ} {Γ:aE} {X:Cx} {e e2 a b c d:Expr} {es:List Expr} {x:Str} {p q pos:Pos} {r ra rb rc:RE} {rs:List RE} {i j:Nat}
theorem XS{T:PySem.W.Frag→TA→TE}(G:Good CX S Γ X)(h:PE X (.Call a es [] p) (ag Γ (.xt T rs))):PT X (.Call a es [] p) (br Γ (.xt T rs)):=by
 show PT X _ (dy Γ.K (ag Γ (.xt T rs)))
 rw[←G.K]
 exact vI h fun _=>rfl
end
structure qZ (K:PySem.W.Frag) (C:Addr):Prop where
 cl:dH K C
 ha:findIn K (.ref C) "__class__"=some (some (.builtin "object.__class__"))
 hn:specialIn K (.builtin "object.__class__") "__get__"=some (some (.builtin "getset_descriptor.__get__"))
 nu:takesIn K (.builtin "object.__class__")=some true
 hm:mroIn K C (.type "object")=some true
 kt:kitOne K (.ref C) (.ref C)=some true
def q8(K:PySem.W.Frag):List V→Hp→VK→Prop:=fun xs H Q=> ∃a C dx fs,xs=[.ref a, .ref C]∧H a=some (.ins C dx fs)∧qZ K C∧Q (.bl true) H
def q9:PySem.W.Frag→TA→TE:=fun K t=>cQ (q8 K) t
section
variable {CX:aL} {S:cJ} {Γ:aE} {X:Cx} {a b:Expr} {x:Str} {p q pos:Pos} {ra rb:RE}
theorem XT:bT X (.builtin "isinstance") (q8 X.K):=by
 intro pins s σ H xs us Q I r h
 obtain⟨a,C,dx,fs,rfl,e,O,q⟩:=h
 obtain⟨u,u',rfl,r1,r2⟩:=vals2 r
 cases (show u'=Value.ref C from r2)
 exact fI I r1 (d_.ins e O.cl O.ha O.hn O.nu O.hm) O.kt fun tk=> ⟨.bl true,H,I.tok tk,rfl,q⟩
theorem XU(G:Good CX S Γ X)(hA:PA X [a,b] (bq Γ [ra,rb]))(h:kB S x "isinstance"=true:=by kernel_rfl)(hn:dU [a,b]=true:=by kernel_rfl):PE X (.Call (.Name x p) [a,b] [] pos) (ag Γ (.xt q9 [ra,rb])):=by
 simp only[kB,Bool.and_eq_true,decide_eq_true_eq] at h
 obtain⟨⟨rfl,g2⟩,g3⟩:=h
 show PE X _ (cQ (q8 Γ.K) (bq Γ [ra,rb]))
 rw[←G.K]
 exact um XT (G.gl g2) (G.fS _ g3) GD hA (by decide) (by decide) (dq (dz hn).1) (gM _ _ _ (dz hn).2)
end
end L2
namespace L2.B
open PySem PySem.Spec PyProof.Rows
def xO:List Str:=["_law_cell","_law_k","_law_number"]
def IL:List Str:=["_law_cell","_law_k"]
noncomputable def xQ:List RS:=
 [.asg 2 (.bin .Mod (.bin .Add (.bin .Add (.bin .Mult (.v 0) (.c (.int 48271))) (.bin .Mult (.c (.int 7919)) (.v 1))) (.c (.int 12345))) (.c (.int 2147483647))),
 .ret (.bin .Mod (.bin .Mult (.bin .Mod (.bin .Mult (.v 2) (.v 2)) (.c (.int 2147483647))) (.v 2)) (.c (.int 2147483647)))]
def XW:List Str:=[]
def XX:List Str:=[]
def IM:List Str:=[]
def XY:List Str:=[]
def XZ:List Str:=[]
def X0:List Str:=[]
def X1:List Str:=[]
def xR:List Str:=["_law_cell","_law_many","_law_some","_law_text","_law_k","_law_number"]
def IP:List Str:=["_law_cell","_law_many"]
noncomputable def xS:List RS:=
 [.asg 2 (.c (.str " !\"#$&'()*+,-./0123456789:;<=>?@ABCDEFGHIJKLMNOPQRSTUVWXYZ[\\]^_`")),
 .asg 2 (.bin .Add (.v 2) (.c (.str "abcdefghijklmnopqrstuvwxyz{|}~"))),
 .asg 3 (.c (.str "")),
 .gL 4 .eG [(.v 1)] [.asg 5 (.call 0 [(.v 0),(.v 4)]),
  .asg 3 (.bin .Add (.v 3) (.ix (.lst [(.c (.str "\n")),(.ix (.c (.str "ab")) (.bin .Mod (.bin .FloorDiv (.v 5) (.c (.int 8))) (.c (.int 2)))),(.ix (.v 2) (.bin .Mod (.bin .FloorDiv (.v 5) (.c (.int 8))) (.c (.int 94)))),(.ix (.v 2) (.bin .Mod (.bin .FloorDiv (.v 5) (.c (.int 8))) (.c (.int 94))))]) (.bin .Mod (.v 5) (.c (.int 4)))))],
 .ret (.v 3)]
def X3:List Str:=["_law_mixed"]
def X4:List Str:=[]
def IQ:List Str:=["range"]
def X5:List Str:=[]
def X6:List Str:=[]
def X7:List Str:=[]
def X8:List Str:=[]
def xT:List Str:=["_law_parts","_law_found","_law_put","_law_cut","_law_word","_law_thing"]
def IS:List Str:=["_law_parts"]
noncomputable def xU:List RS:=
 [.asg 1 (.lst []),
 .asg 2 (.c (.str "")),
 .asg 3 (.c (.str "")),
 .mj [4,5] .list [(.bin .Add (.v 0) (.lst [(.tup [(.c (.str "end")),(.c (.int 0))])]))] [.ite (.cmp .Eq (.v 4) (.c (.str "put"))) [.asg 2 (.bin .Add (.v 2) (.v 5))] [.ite (.cmp .Eq (.v 4) (.c (.str "cut"))) [.asg 3 (.bin .Add (.v 3) (.v 5))] [.ite (.or [(.cmp .Eq (.v 4) (.c (.str "end"))),(.cmp .Gt (.v 5) (.c (.int 0)))]) [.asg 1 (.bin .Add (.bin .Add (.v 1) (.bin .Mult (.lst [(.tup [(.c (.str "put")),(.v 2)])]) (.blt .int [(.cmp .NotEq (.v 2) (.c (.str "")))]))) (.bin .Mult (.lst [(.tup [(.c (.str "cut")),(.v 3)])]) (.blt .int [(.cmp .NotEq (.v 3) (.c (.str "")))]))),
     .asg 2 (.c (.str "")),
     .asg 3 (.c (.str "")),
     .ite (.and [(.cmp .Eq (.v 4) (.c (.str "keep"))),(.cmp .NotEq (.v 1) (.lst [])),(.cmp .Eq (.ix (.ix (.v 1) (.neg (.c (.int 1)))) (.c (.int 0))) (.c (.str "keep")))]) [.set (.v 1) (.neg (.c (.int 1))) (.tup [(.c (.str "keep")),(.bin .Add (.ix (.ix (.v 1) (.neg (.c (.int 1)))) (.c (.int 1))) (.v 5))])] [.ite (.cmp .Eq (.v 4) (.c (.str "keep"))) [.drop (.bE .append (.v 1) [(.tup [(.c (.str "keep")),(.v 5)])])] []]] []]]],
 .ret (.v 1)]
def X9:List Str:=[]
def X_:List Str:=[]
def IT:List Str:=["int"]
def Ya:List Str:=[]
def Yb:List Str:=[]
def Yc:List Str:=[]
def Yd:List Str:=[]
def gP:List Str:=["_law_cell","_law_text","_law_parts","_law_at","_law_k","_law_number","_law_size"]
def IU:List Str:=["_law_cell","_law_text"]
noncomputable def dB:List RS:=
 [.asg 2 (.lst []),
 .asg 3 (.c (.int 0)),
 .gL 4 .eG [(.bin .Add (.c (.int 1)) (.bin .Mod (.v 0) (.c (.int 7))))] [.asg 5 (.call 0 [(.v 0),(.bin .Add (.c (.int 40)) (.v 4))]),
  .ite (.cmp .Eq (.bin .Mod (.v 5) (.c (.int 3))) (.c (.int 0))) [.drop (.bE .append (.v 2) [(.tup [(.c (.str "put")),(.call 1 [(.v 5),(.bin .Add (.c (.int 1)) (.bin .Mult (.bin .Mod (.bin .FloorDiv (.v 5) (.c (.int 3))) (.c (.int 4))) (.bin .Add (.c (.int 1)) (.bin .Mod (.bin .FloorDiv (.v 5) (.c (.int 12))) (.c (.int 3))))))])])])] [],
  .asg 6 (.blt .min [(.bin .Sub (.blt .len [(.v 1)]) (.v 3)),(.bin .Mod (.bin .FloorDiv (.v 5) (.c (.int 36))) (.bin .Add (.c (.int 2)) (.bin .FloorDiv (.blt .len [(.v 1)]) (.c (.int 3)))))]),
  .ite (.and [(.cmp .Eq (.bin .Mod (.bin .FloorDiv (.v 5) (.c (.int 5))) (.c (.int 3))) (.c (.int 0))),(.cmp .Gt (.v 6) (.c (.int 0)))]) [.drop (.bE .append (.v 2) [(.tup [(.c (.str "cut")),(.sl (.v 1) (some (.v 3)) (some (.bin .Add (.v 3) (.v 6))))])])] [.drop (.bE .append (.v 2) [(.tup [(.c (.str "keep")),(.v 6)])])],
  .asg 3 (.bin .Add (.v 3) (.v 6))],
 .drop (.bE .append (.v 2) [(.tup [(.c (.str "keep")),(.bin .Sub (.blt .len [(.v 1)]) (.v 3))])]),
 .ite (.cmp .Eq (.bin .Mod (.bin .FloorDiv (.v 0) (.c (.int 7))) (.c (.int 3))) (.c (.int 0))) [.drop (.bE .append (.v 2) [(.tup [(.c (.str "put")),(.call 1 [(.v 0),(.bin .Add (.c (.int 1)) (.bin .Mod (.bin .FloorDiv (.v 0) (.c (.int 21))) (.c (.int 5))))])])])] [],
 .ret (.call 2 [(.v 2)])]
def jA:List Str:=["_law_mixed","_law_text_by","_law_neat"]
def jB:List Str:=[]
def iC:List Str:=["range","min","len"]
def jC:List Str:=[]
def jD:List Str:=[]
def jE:List Str:=[]
def jF:List Str:=[]
def xV:List Str:=["_law_text","_law_change","_law_found","_law_at","_law_word","_law_thing"]
def IV:List Str:=["_law_text","_law_change"]
noncomputable def xW:List RS:=
 [.asg 2 (.c (.str "")),
 .asg 3 (.c (.int 0)),
 .mj [4,5] .list [(.v 1)] [.ite (.cmp .Eq (.v 4) (.c (.str "put"))) [.asg 2 (.bin .Add (.v 2) (.v 5))] [.ite (.cmp .Eq (.v 4) (.c (.str "keep"))) [.asg 2 (.bin .Add (.v 2) (.sl (.v 0) (some (.v 3)) (some (.bin .Add (.v 3) (.v 5))))),
    .asg 3 (.bin .Add (.v 3) (.v 5))] [.asg 3 (.bin .Add (.v 3) (.blt .len [(.v 5)]))]]],
 .ret (.v 2)]
def Ye:List Str:=[]
def Yf:List Str:=[]
def IW:List Str:=["len"]
def Yg:List Str:=[]
def Yh:List Str:=[]
def Yi:List Str:=[]
def Yj:List Str:=[]
end L2.B
namespace L2.gQ
open PySem PySem.Spec PyProof.Rows L2.B
def bC(i:Nat):Stmt:=(PySem.Challenge.pw_inkloom_k15_papers_beside_texts.main.body).getD i (.Pass ⟨0,0,0,0⟩)
def jG:Stmt:=bC 9
theorem Yk:bo vV G4 (au jG):=bx
theorem Yl{CX:aL}{Γ:aE}{X:Cx}(G:aQ CX (aZ vV (au jG) Ta Tb G5 Tc Td Te Tf 0) Γ X):aW X (az jG) (ar Γ vW):=by
 have g:=G.toGood
 exact(ah (aV (e9 (gN g (aa g)) (fU (vO g (gN g (aa g)))))) aw)
def jH:Stmt:=bC 10
theorem Ym:bo wj Ho (au jH):=bx
theorem Yn{CX:aL}{Γ:aE}{X:Cx}(G:aQ CX (aZ wj (au jH) Uy Uz Hq UA UB UC UD 0) Γ X):aW X (az jH) (ar Γ wk):=by
 have g:=G.toGood
 exact(ah (aV (e9 (aD g (af (aa g) aj)) (fU (SH g (aa g) (aa g) (aa g))))) aw)
def jI:Stmt:=bC 11
theorem Yo:bo qQ G6 (au jI):=bx
theorem Yp{CX:aL}{Γ:aE}{X:Cx}(G:aQ CX (aZ qQ (au jI) Tg Th G7 Ti Tj Tn To 0) Γ X):aW X (az jI) (ar Γ qR):=by
 have g:=G.toGood
 exact(ah (aV (e9 (gN g (aa g)) (fU (ej g (aa g) (aa g))))) aw)
def jJ:Stmt:=bC 12
theorem Yq:bo qS G8 (au jJ):=bx
theorem Yr{CX:aL}{Γ:aE}{X:Cx}(G:aQ CX (aZ qS (au jJ) Tp Tq G9 Ts Tt Tu Tv 0) Γ X):aW X (az jJ) (ar Γ qT):=by
 have g:=G.toGood
 exact(ah (aV (e9 (gN g (aa g)) (fU (ej g (cG g (aa g) (af (GV g) aj)) aY)))) aw)
def jK:Stmt:=bC 13
theorem Ys:bo vX G_ (au jK):=bx
theorem Yt{CX:aL}{Γ:aE}{X:Cx}(G:aQ CX (aZ vX (au jK) Tw Tx Ha Tz TB TC TF 0) Γ X):aW X (az jK) (ar Γ vY):=by
 have g:=G.toGood
 exact(ah (bD (dW (fc g (aD g (af (aa g) aj)))) (ah (iz G (af aY aj)) aw) aw) aw)
def jL:Stmt:=bC 15
theorem Yu:bo om Hb (au jL):=bx
theorem Yv{CX:aL}{Γ:aE}{X:Cx}(G:aQ CX (aZ om (au jL) TH TJ Hc TK TL TM TN 0) Γ X):aW X (az jL) (ar Γ oo):=by
 have g:=G.toGood
 exact(ah (bD (PW.pt (fW (dW (vR g (gN g (aa g)))) (gO (bh g (cB g (af (aa g) aj)) ao)))) (ah (aV ju) aw) aw) (ah (bD (fc g (aD g (af (aB g (aa g) ao) (af (b_ (af aY aj)) aj)))) (ah (aV (e9 (aD g (af (aB g (aa g) ao) aj)) (fU (ej g (aB g (aa g) ao) ao)))) aw) aw) (ah (aV (e9 (aD g (af (aB g (aa g) ao) (af (b_ (af aY (af aY aj))) aj))) (e9 (aD g (af (aB g (aa g) ao) aj)) (fU (ej g (aB g (aa g) ao) aY))))) aw)))
def jM:Stmt:=bC 16
theorem Yw:bo vZ He (au jM):=bx
theorem Yx{CX:aL}{Γ:aE}{X:Cx}(G:aQ CX (aZ vZ (au jM) TQ TR Hf TU TV TX TY 0) Γ X):aW X (az jM) (ar Γ v7):=by
 have g:=G.toGood
 exact(ah (aV (e9 (ej g (aa g) (aa g)) (fU (vO g (e9 (ej g (aa g) aY) (fU (ej g (aa g) aY))))))) aw)
def jN:Stmt:=bC 17
theorem Yy:bo v8 Hg (au jN):=bx
theorem Yz{CX:aL}{Γ:aE}{X:Cx}(G:aQ CX (aZ v8 (au jN) TZ T_ Hh Ua Ub Uc Ud 0) Γ X):aW X (az jN) (ar Γ v9):=by
 have g:=G.toGood
 exact(ah (bD (dW (vR g (gN g (aa g)))) (ah (iz G (af aY aj)) aw) aw) (ah (aM G aY) (ah (oi G (fX g (aa g)) (ah (bD (dW (fc g (aD g (af (aa g) aj)))) (ah (iz G (af aY aj)) aw) aw) (ah (bD (dW (fc g (aD g (af (aB g (aa g) ao) (af (aa g) aj))))) (ah (iz G (af aY aj)) aw) aw) (ah (aM G (aB g (aa g) ao)) aw)))) aw)))
def jO:Stmt:=bC 18
theorem YA:bo v_ Hi (au jO):=bx
theorem YB{CX:aL}{Γ:aE}{X:Cx}(G:aQ CX (aZ v_ (au jO) Ue Ug Hj Uh Ui Uj Uk 0) Γ X):aW X (az jO) (ar Γ wa):=by
 have g:=G.toGood
 exact(ah (aV (qL (bh g (aB g (aa g) ao) aY) (aB g (aa g) ao) (cB g (af (aB g (aa g) ao) aj)))) aw)
def jP:Stmt:=bC 19
theorem YC:bo wb Hk (au jP):=bx
theorem YD{CX:aL}{Γ:aE}{X:Cx}(G:aQ CX (aZ wb (au jP) Ul Um Hl Uo Up Uq Ur 0) Γ X):aW X (az jP) (ar Γ wc):=by
 have g:=G.toGood
 exact(ah (cW (aD g (af (aa g) aj))) (ah (aM G (cB g (af (oh (ln:=["part"]) g (by kernel_rfl) (fX g (aa g)) (qM fun _ g=> (bh g (aB g (aa g) ao) aY)) (fun _ g=> (aD g (af (aa g) aj)))) aj))) (ah (aM G (cB g (af (oh (ln:=["part"]) g (by kernel_rfl) (fX g (aa g)) (qM fun _ g=> (bh g (aB g (aa g) ao) aY)) (fun _ g=> (aD g (af (aa g) aj)))) aj))) (ah (aV (b_ (af (aa g) (af (aa g) aj)))) aw))))
def jQ:Stmt:=bC 21
theorem YE:bo wB HB (au jQ):=bx
theorem YF{CX:aL}{Γ:aE}{X:Cx}(G:aQ CX (aZ wB (au jQ) U_ Va HC Vb Vc Vd Ve 0) Γ X):aW X (az jQ) (ar Γ wC):=by
 have g:=G.toGood
 exact(ah (aV (qL (bh g (aa g) dA) ao (aB g (aa g) ao))) aw)
def jR:Stmt:=bC 22
theorem YG:bo wD HD (au jR):=bx
theorem YH{CX:aL}{Γ:aE}{X:Cx}(G:aQ CX (aZ wD (au jR) Vf Vg HE Vh Vi Vj Vk 0) Γ X):aW X (az jR) (ar Γ wF):=by
 have g:=G.toGood
 exact(ah (aV (qL (bh g (aa g) dA) ao (aB g (aa g) ao))) aw)
def jS:Stmt:=bC 23
theorem YI:bo wG HF (au jS):=bx
theorem YJ{CX:aL}{Γ:aE}{X:Cx}(G:aQ CX (aZ wG (au jS) Vl Vm HG Vn Vo Vp Vq 0) Γ X):aW X (az jS) (ar Γ wH):=by
 have g:=G.toGood
 exact(ah (aV (qL (bh g (aa g) dA) ao (aB g (aa g) ao))) aw)
def jT:Stmt:=bC 24
theorem YK:bo wI HH (au jT):=bx
theorem YL{CX:aL}{Γ:aE}{X:Cx}(G:aQ CX (aZ wI (au jT) Vr Vs HI Vt Vu Vv Vw 0) Γ X):aW X (az jT) (ar Γ wJ):=by
 have g:=G.toGood
 exact(ah (aM G (aF g ao (cB g (af (aD g (af (aa g) aj)) (af (aD g (af (aa g) aj)) aj))))) (ah (aM G (aF g (aF g (aD g (af (aa g) aj)) (aB g (aa g) ao)) (aD g (af (aa g) aj)))) (ah (aV (b_ (af (aa g) (af (aa g) (af (aa g) (af (aa g) (af (aa g) (af (aF g (aF g (aD g (af (aa g) aj)) (aB g (aa g) ao)) (aD g (af (aa g) aj))) aj)))))))) aw)))
def jU:Stmt:=bC 25
theorem YM:bo wK HJ (au jU):=bx
theorem YN{CX:aL}{Γ:aE}{X:Cx}(G:aQ CX (aZ wK (au jU) Vx Vy HK Vz VA VB VC 0) Γ X):aW X (az jU) (ar Γ wL):=by
 have g:=G.toGood
 exact(ah (aM G (aB g (aa g) ao)) (ah (bD (bh g (aD g (af (aB g (aa g) ao) aj)) (aD g (af (aa g) aj))) (ah (aV (aD g (af (aB g (aa g) ao) (af (aB g (aa g) ao) (af (aD g (af (aa g) (af (aa g) (af (aa g) aj)))) aj))))) aw) aw) (ah (aV (aD g (af (aD g (af (aB g (aa g) ao) (af (aB g (aa g) ao) (af (aB g (aa g) ao) aj)))) (af (aB g (aa g) ao) (af (aD g (af (aB g (aa g) ao) (af (aa g) (af (aa g) aj)))) aj))))) aw)))
def jV:Stmt:=bC 26
theorem YO:bo wM HL (au jV):=bx
theorem YQ{CX:aL}{Γ:aE}{X:Cx}(G:aQ CX (aZ wM (au jV) VD VE HM VF VG VH VI 0) Γ X):aW X (az jV) (ar Γ wN):=by
 have g:=G.toGood
 exact(ah (aM G (aB g (aa g) ao)) (ah (bD (bh g (aD g (af (aB g (aa g) ao) aj)) (aD g (af (aa g) aj))) (ah (aV (aD g (af (aD g (af (aa g) (af (aa g) (af (aa g) aj)))) (af (aB g (aa g) ao) (af (aB g (aa g) ao) aj))))) aw) aw) (ah (aV (aD g (af (aD g (af (aa g) (af (aa g) (af (aB g (aa g) ao) aj)))) (af (aB g (aa g) ao) (af (aD g (af (aB g (aa g) ao) (af (aB g (aa g) ao) (af (aB g (aa g) ao) aj)))) aj))))) aw)))
def jW:Stmt:=bC 27
theorem YR:bo wO HN (au jW):=bx
theorem YS{CX:aL}{Γ:aE}{X:Cx}(G:aQ CX (aZ wO (au jW) VJ VL HP VM VN VO VP 0) Γ X):aW X (az jW) (ar Γ wQ):=by
 have g:=G.toGood
 exact(ah (bD (bh g (aD g (af (aa g) aj)) (aF g (aD g (af (aa g) aj)) ao)) (ah (aV (aD g (af (aa g) (af (aa g) (af (aa g) aj))))) aw) aw) (ah (bD (bh g (aD g (af (aa g) aj)) (aF g (aD g (af (aa g) aj)) ao)) (ah (aV (aD g (af (aa g) (af (aa g) (af (aa g) aj))))) aw) aw) (ah (aV (aD g (af (aa g) (af (aa g) (af (aa g) aj))))) aw)))
def jX:Stmt:=bC 28
theorem IX:bo wR HQ (au jX):=bx
theorem YT{CX:aL}{Γ:aE}{X:Cx}(G:aQ CX (aZ wR (au jX) VQ VR HR VS VT VU VV 0) Γ X):aW X (az jX) (ar Γ wU):=by
 have g:=G.toGood
 exact(ah (bD (bh g (aD g (af (aa g) aj)) (aF g (aD g (af (aa g) aj)) ao)) (ah (aV (aD g (af (aB g (aa g) ao) (af (aB g (aa g) ao) (af (aD g (af (aB g (aa g) ao) (af (aa g) (af (aa g) aj)))) aj))))) aw) aw) (ah (bD (bh g (aD g (af (aa g) aj)) (aF g (aD g (af (aa g) aj)) ao)) (ah (aV (aD g (af (aD g (af (aa g) (af (aa g) (af (aB g (aa g) ao) aj)))) (af (aB g (aa g) ao) (af (aB g (aa g) ao) aj))))) aw) aw) (ah (aV (aD g (af (aa g) (af (aa g) (af (aa g) aj))))) aw)))
def jY:Stmt:=bC 29
theorem IY:bo wV HS (au jY):=bx
theorem YU{CX:aL}{Γ:aE}{X:Cx}(G:aQ CX (aZ wV (au jY) VW VX HU VY VZ V0 V1 0) Γ X):aW X (az jY) (ar Γ wW):=by
 have g:=G.toGood
 exact(ah (bD (bh g (aB g (aa g) ao) dA) (ah (aV (b_ (af (aB g (aa g) ao) (af (aB g (aa g) ao) aj)))) aw) aw) (ah (aM G (aD g (af (aB g (aa g) ao) aj))) (ah (aV (b_ (af (aD g (af (aB g (aa g) ao) (af (aB g (aa g) ao) (af (aB g (aa g) ao) aj)))) (af (aB g (aa g) ao) aj)))) aw)))
def jZ:Stmt:=bC 30
theorem IZ:bo wX HV (au jZ):=bx
theorem YV{CX:aL}{Γ:aE}{X:Cx}(G:aQ CX (aZ wX (au jZ) V2 V3 HW V4 V5 V6 V7 0) Γ X):aW X (az jZ) (ar Γ wY):=by
 have g:=G.toGood
 exact(ah (bD (bh g (aB g (aa g) ao) dA) (ah (aV (b_ (af (aB g (aa g) ao) (af (aB g (aa g) ao) aj)))) aw) aw) (ah (aM G (aD g (af (aB g (aa g) ao) aj))) (ah (aV (b_ (af (aB g (aa g) ao) (af (aD g (af (aB g (aa g) ao) (af (aB g (aa g) ao) (af (aB g (aa g) ao) aj)))) aj)))) aw)))
def j4:Stmt:=bC 31
theorem YW:bo wZ HX (au j4):=bx
theorem YX{CX:aL}{Γ:aE}{X:Cx}(G:aQ CX (aZ wZ (au j4) V8 V9 HY V_ Wa Wb Wc 0) Γ X):aW X (az j4) (ar Γ w4):=by
 have g:=G.toGood
 exact(ah (bD (bh g (aa g) dA) (ah (aV (aa g)) aw) aw) (ah (aM G (aD g (af (aa g) aj))) (ah (aM G (aD g (af (aa g) aj))) (ah (aM G (aB g (aa g) ao)) (ah (aM G (aB g (aa g) ao)) (ah (bD (bh g (aF g (aB g (aa g) ao) (aB g (aa g) ao)) (aB g (aa g) ao)) (ah (aV (aD g (af (aB g (aa g) ao) (af (b_ (af (aB g (aa g) ao) (af (aF g (aB g (aa g) ao) (aB g (aa g) ao)) (af (aF g (aB g (aa g) ao) (aB g (aa g) ao)) aj)))) (af (aB g (aa g) ao) aj))))) aw) aw) (ah (aV (aD g (af (aB g (aa g) ao) (af (aa g) (af (aa g) aj))))) aw)))))))
def j5:Stmt:=bC 32
theorem YY:bo w5 HZ (au j5):=bx
theorem YZ{CX:aL}{Γ:aE}{X:Cx}(G:aQ CX (aZ w5 (au j5) Wd We H_ Wf Wg Wh Wi 0) Γ X):aW X (az j5) (ar Γ w6):=by
 have g:=G.toGood
 exact(ah (aM G (aF g (aB g (aa g) ao) (aa g))) (ah (aM G (aF g (jv g (aa g) (af (aa g) aj)) (jv g (aa g) (af (aB g (aa g) ao) aj)))) (ah (aV (b_ (af (b_ (af (aB g (aa g) ao) (af (aa g) (af (aa g) aj)))) (af (b_ (af (aa g) (af (aF g (aB g (aa g) ao) (aa g)) (af (aF g (aB g (aa g) ao) (aa g)) aj)))) aj)))) aw)))
def j6:Stmt:=bC 33
theorem I0:bo w9 Ia (au j6):=bx
theorem Y0{CX:aL}{Γ:aE}{X:Cx}(G:aQ CX (aZ w9 (au j6) Wj Wk Ib Wl Wm Wn Wo 0) Γ X):aW X (az j6) (ar Γ w_):=by
 have g:=G.toGood
 exact(ah (bD (bh g (aa g) dA) (ah (aV (b_ (af dA (af dA aj)))) aw) aw) (ah (aM G (aB g (aa g) ao)) (ah (aM G (aD g (af (aB g (aa g) ao) aj))) (ah (aM G (aF g (aa g) (aB g (aa g) ao))) (ah (bD (bh g (aa g) (aa g)) (ah (aM G (aD g (af (aB g (aa g) ao) (af (aa g) (af (aa g) aj))))) (ah (aV (b_ (af (aB g (aa g) ao) (af (aD g (af (aB g (aa g) ao) (af (aa g) (af (aB g (aa g) ao) aj)))) aj)))) aw)) aw) (ah (bD (bh g (aa g) (aa g)) (ah (aM G (aD g (af (aB g (aa g) ao) (af (aF g (aa g) (aa g)) (af (aa g) aj))))) (ah (aV (b_ (af (aD g (af (aB g (aa g) ao) (af (aa g) (af (aB g (aa g) ao) aj)))) (af (aB g (aa g) ao) aj)))) aw)) aw) (ah (aM G (aD g (af (aa g) (af (aF g (aa g) (aa g)) (af (aa g) aj))))) (ah (aV (b_ (af (aD g (af (aB g (aa g) ao) (af (aB g (aa g) ao) (af dA aj)))) (af (aD g (af dA (af (aB g (aa g) ao) (af (aB g (aa g) ao) aj)))) aj)))) aw))))))))
def j7:Stmt:=bC 34
theorem I_:bo xa Ic (au j7):=bx
theorem Y1{CX:aL}{Γ:aE}{X:Cx}(G:aQ CX (aZ xa (au j7) Wq Wr Ie Ws Wt Wu Wv 0) Γ X):aW X (az j7) (ar Γ xb):=by
 have g:=G.toGood
 exact(ah (bD (bh g (aa g) dA) (ah (aV (dr aj)) aw) aw) (ah (aM G (aD g (af (aB g (aa g) ao) aj))) (ah (cW (cG g (aa g) (af (aB g (aa g) ao) aj))) (ah (cW (cG g (aa g) (af (aD g (af (aB g (aa g) ao) aj)) aj))) (ah (aV (aa g)) aw)))))
def j8:Stmt:=bC 36
theorem Y2:bo wo Hs (au j8):=bx
theorem Y3{CX:aL}{Γ:aE}{X:Cx}(G:aQ CX (aZ wo (au j8) UL UM Ht UN UO UP UQ 0) Γ X):aW X (az j8) (ar Γ wq):=by
 have g:=G.toGood
 exact(ah (aM G ao) (ah (aM G (cB g (af (aa g) aj))) (ah (vT G (bh g (aa g) (aa g)) (ah (aM G (aF g (aF g (aa g) (aa g)) ao)) (ah (bD (bh g (aB g (aa g) (aa g)) (aa g)) (ah (aM G (aF g (aa g) ao)) aw) (ah (aM G (aa g)) aw)) aw))) (ah (aV (aa g)) aw))))
def j9:Stmt:=inClass (bC 38) 0
theorem Y4:bo wt Hu (au j9):=bx
theorem Y5{CX:aL}{Γ:aE}{X:Cx}(G:aQ CX (aZ wt (au j9) UR US Hv UT UU UW UX 0) Γ X):aW X (az j9) (ar Γ wu):=by
 have g:=G.toGood
 exact(ah (jw G (aa g) (dr aj)) (ah (jw G (aa g) (dr aj)) (ah (jw G (aa g) (dr aj)) (ah (jw G (aa g) ao) aw))))
def j_:Stmt:=inClass (bC 38) 1
theorem Y6:bo qW Hw (au j_):=bx
theorem Y7{CX:aL}{Γ:aE}{X:Cx}(G:aQ CX (aZ qW (au j_) UY UZ Hx U0 U1 U2 U3 0) Γ X):aW X (az j_) (ar Γ wx):=by
 have g:=G.toGood
 exact(ah (cW (aD g (af (aa g) aj))) (ah (aM G (cC g (aa g))) (ah (cW (cG g (cC g (aa g)) (af (aa g) aj))) (ah (cW (cG g (cC g (aa g)) (af (aa g) aj))) (ah (jw G (aa g) (aF g (aa g) (cB g (af (aa g) aj)))) (ah (aM G (cG g (aa g) (af aY aj))) (ah (vT G (bh g (aa g) ao) (ah (cW (cG g (cC g (aa g)) (af (aF g (aa g) (aa g)) aj))) (ah (aM G (cG g (aa g) (af aY (af (aF g (aa g) ao) aj)))) aw))) (ah (aV (aa g)) aw))))))))
def kc:Stmt:=inClass (bC 38) 2
theorem Y8:bo wy Hy (au kc):=bx
theorem Y9{CX:aL}{Γ:aE}{X:Cx}(G:aQ CX (aZ wy (au kc) U4 U5 Hz U6 U7 U8 U9 0) Γ X):aW X (az kc) (ar Γ wz):=by
 have g:=G.toGood
 exact(ah (bD (PW.pt (fW (dW (fc g (aD g (af (aa g) (af ao (af (cC g (aa g)) aj)))))) (gO (dW (fc g (aD g (af (aa g) (af ao (af (aF g (cC g (aa g)) (aa g)) aj))))))))) (ah (iz G (af aY aj)) aw) aw) (ah (aM G (dr aj)) (ah (aM G (aF g (aD g (af (cC g (aa g)) (af (aa g) aj))) ao)) (ah (aM G (aF g (aa g) (aa g))) (ah (vT G (bh g (aa g) (aa g)) (ah (aM G (aF g (aa g) (aB g (cC g (aa g)) (aa g)))) (ah (aM G (mz g (aB g (cC g (aa g)) (aa g)) (e_ (aa g)) (e_ (aF g (aF g (aa g) (aa g)) (aa g))))) (ah (cW (cG g (aa g) (af (aa g) aj))) (ah (aM G (aF g (aa g) (cB g (af (aa g) aj)))) (ah (aM G (aF g (aa g) ao)) aw)))))) (ah (aV (cG g aY (af (aa g) aj))) aw))))))
def kd:Stmt:=inClass (bC 38) 4
theorem Y_:bo xf Ig (au kd):=bx
theorem Za{CX:aL}{Γ:aE}{X:Cx}(G:aQ CX (aZ xf (au kd) Ww Wx Ih Wy Wz WA WB 0) Γ X):aW X (az kd) (ar Γ xg):=by
 have g:=G.toGood
 exact(ah (aV (aD g (af (cC g (aa g)) (af (aF g (aa g) ao) aj)))) aw)
def ke:Stmt:=bC 40
theorem Zb:bo xh Ii (au ke):=bx
theorem Zc{CX:aL}{Γ:aE}{X:Cx}(G:aQ CX (aZ xh (au ke) WC WD Ij WE WG WH WI 0) Γ X):aW X (az ke) (ar Γ xi):=by
 have g:=G.toGood
 exact(ah (bD (bh g (aa g) aY) (ah (aV dA) aw) aw) (ah (aV (aD g (af dA (af (b_ (af (jv g (aa g) (af (aa g) aj)) (af (cB g (af (aa g) aj)) (af (cG g (aa g) (af aY aj)) aj)))) (af dA aj))))) aw))
def kf:Stmt:=bC 41
theorem Zd:bo xj Ik (au kf):=bx
theorem Ze{CX:aL}{Γ:aE}{X:Cx}(G:aQ CX (aZ xj (au kf) WJ WK Il WL WM WN WO 0) Γ X):aW X (az kf) (ar Γ xk):=by
 have g:=G.toGood
 exact(ah (cW (aD g (af (aa g) aj))) (ah (aM G (SI g)) (ah (aV (GW g (af (aa g) (af (aD g (af (aa g) (af (aa g) aj))) aj)))) aw)))
def ki:Stmt:=bC 42
theorem Zf:bo xl Im (au ki):=bx
theorem Zg{CX:aL}{Γ:aE}{X:Cx}(G:aQ CX (aZ xl (au ki) WQ WR Io WS WT WU WV 0) Γ X):aW X (az ki) (ar Γ xn):=by
 have g:=G.toGood
 exact(ah (bD (bh g (aB g (aD g (af (aa g) aj)) ao) (fV g (aa g))) (ah (iz G (af aY aj)) aw) aw) (ah (aM G ao) (ah (oi G (fX g (aa g)) (ah (bD (PW.pt (qN (bh g (aB g (aa g) ao) aY) (vQ (bh g (jv g (aa g) (af (aa g) (af (aF g (aa g) (cB g (af (aB g (aa g) ao) aj))) aj))) (aB g (aa g) ao))))) (ah (iz G (af aY aj)) aw) aw) (ah (bD (bh g (aB g (aa g) ao) aY) (ah (aM G (aF g (aa g) (aD g (af (aa g) aj)))) aw) aw) aw))) aw)))
def kj:Stmt:=bC 43
theorem Zh:bo xo Ip (au kj):=bx
theorem Zi{CX:aL}{Γ:aE}{X:Cx}(G:aQ CX (aZ xo (au kj) WW WX Iq WY WZ W0 W2 0) Γ X):aW X (az kj) (ar Γ xp):=by
 have g:=G.toGood
 exact(ah (aV (oh (ln:=["piece"]) g (by kernel_rfl) (fX g (aD g (af (aa g) aj))) SN (fun _ g=> (jv g (aa g) (af (aB g (aa g) ao) (af (aB g (aa g) ao) aj)))))) aw)
def km:Stmt:=inClass (bC 44) 0
theorem Zj:bo xq Ir (au km):=bx
theorem Zk{CX:aL}{Γ:aE}{X:Cx}(G:aQ CX (aZ xq (au km) W3 W4 Iu W5 W6 W7 W8 0) Γ X):aW X (az km) (ar Γ xr):=by
 have g:=G.toGood
 exact(ah (jw G (aa g) (aa g)) (ah (jw G (aa g) (aa g)) aw))
def ko:Stmt:=inClass (bC 44) 1
theorem Zl:bo xu Iv (au ko):=bx
theorem Zm{CX:aL}{Γ:aE}{X:Cx}(G:aQ CX (aZ xu (au ko) W9 W_ Iw Xa Xb Xd Xe 0) Γ X):aW X (az ko) (ar Γ xv):=by
 have g:=G.toGood
 exact(ah (aV (aD g (af (cC g (aa g)) aj))) aw)
def kq:Stmt:=inClass (bC 44) 2
theorem Zn:bo xx Iy (au kq):=bx
theorem Zo{CX:aL}{Γ:aE}{X:Cx}(G:aQ CX (aZ xx (au kq) Xf Xg Iz Xh Xi Xj Xk 0) Γ X):aW X (az kq) (ar Γ xy):=by
 have g:=G.toGood
 exact(ah (aV (aF g (aD g (af (cC g (aa g)) aj)) ao)) aw)
def kr:Stmt:=inClass (bC 44) 3
theorem Zp:bo xB IA (au kr):=bx
theorem Zq{CX:aL}{Γ:aE}{X:Cx}(G:aQ CX (aZ xB (au kr) Xl Xm IB Xn Xo Xp Xq 0) Γ X):aW X (az kr) (ar Γ xC):=by
 have g:=G.toGood
 exact(ah (aV (cG g aY (af (aD g (af (cC g (aa g)) (af (cC g (aa g)) aj))) aj))) aw)
def ku:Stmt:=inClass (bC 44) 4
theorem Zr:bo xD IC (au ku):=bx
theorem Zs{CX:aL}{Γ:aE}{X:Cx}(G:aQ CX (aZ xD (au ku) Xr Xs ID Xt Xu Xv Xw 0) Γ X):aW X (az ku) (ar Γ xE):=by
 have g:=G.toGood
 exact(ah (aV (aD g (af (cC g (aa g)) (af (cC g (aa g)) aj)))) aw)
def kx:Stmt:=inClass (bC 44) 5
theorem Zt:bo xF IE (au kx):=bx
theorem Zu{CX:aL}{Γ:aE}{X:Cx}(G:aQ CX (aZ xF (au kx) Xx Xy IF Xz XA XB XC 0) Γ X):aW X (az kx) (ar Γ xG):=by
 have g:=G.toGood
 exact(ah (aV (aD g (af (cC g (aa g)) aj))) aw)
def ky:Stmt:=inClass (bC 44) 6
theorem Zv:bo xH IG (au ky):=bx
theorem Zw{CX:aL}{Γ:aE}{X:Cx}(G:aQ CX (aZ xH (au ky) XD XE IH XF XG XH XI 0) Γ X):aW X (az ky) (ar Γ xI):=by
 have g:=G.toGood
 exact(ah (bD (PW.pt (fW (dW (fc g (aD g (af (aa g) (af ao (af (fV g (aa g)) aj)))))) (gO (dW (fc g (aD g (af (aa g) (af (aa g) (af (fV g (aa g)) aj))))))))) (ah (iz G (af aY aj)) aw) aw) (ah (aM G (aB g (aD g (af (cC g (aa g)) (af (aa g) (af (cC g (aa g)) aj)))) ao)) (ah (aV (cG g aY (af (aD g (af (cC g (aa g)) (af (aB g (aD g (af (aa g) (af (aa g) (af (cC g (aa g)) aj)))) ao) aj))) aj))) aw)))
def kz:Stmt:=inClass (bC 44) 7
theorem Zx:bo xJ II (au kz):=bx
theorem Zy{CX:aL}{Γ:aE}{X:Cx}(G:aQ CX (aZ xJ (au kz) XJ XM IJ XN XO XQ XR 0) Γ X):aW X (az kz) (ar Γ xM):=by
 have g:=G.toGood
 exact(ah (cW (aD g (af (aa g) (af (aa g) aj)))) (ah (aM G dA) (ah (aM G (cC g (aa g))) (ah (oi G (fX g (aa g)) (ah (bD (bh g (aB g (aa g) ao) aY) (ah (aM G (aD g (af (aa g) (af (aD g (af (cC g (aa g)) (af (aB g (aa g) ao) aj))) aj)))) (ah SV aw)) aw) (ah (aM G (aD g (af (aa g) (af (aD g (af (aa g) aj)) (af (cC g (aa g)) aj))))) (ah (aM G (aB g (aa g) ao)) (ah (bD (bh g (aB g (aa g) ao) aY) (ah (aM G (aD g (af (aa g) (af (aB g (aa g) ao) aj)))) aw) aw) aw))))) (ah (aV (GW g (af (cC g (aa g)) (af (aa g) aj)))) aw)))))
def kA:Stmt:=bC 46
theorem Zz:bo we Hm (au kA):=bx
theorem ZA{CX:aL}{Γ:aE}{X:Cx}(G:aQ CX (aZ we (au kA) Us Ut Hn Uu Uv Uw Ux 0) Γ X):aW X (az kA) (ar Γ wg):=by
 have g:=G.toGood
 exact(ah (bD (bh g (aa g) (cB g (af (aa g) aj))) (ah (aV (aB g (aa g) (aa g))) aw) aw) (ah (aV ao) aw))
def qU:List Str:=["_law_found"]
def Ja:List Str:=["_law_found"]
def kD:Stmt:=bC 47
theorem ZC:bo qU Ja (au kD):=bx
theorem ZD{CX:aL}{Γ:aE}{X:Cx}(G:aQ CX (aZ qU (au kD) UE UG Hr UH UI UJ UK 0) Γ X):aW X (az kD) (ar Γ wm):=by
 have g:=G.toGood
 exact(ah (aV (e9 (gN g (aa g)) (fU (vO g (gN g (aa g)))))) aw)
def kE:Stmt:=bC 48
theorem ZE:bo xO IL (au kE):=bx
theorem ZF{CX:aL}{Γ:aE}{X:Cx}(G:aQ CX (aZ xO (au kE) XW XX IM XY XZ X0 X1 0) Γ X):aW X (az kE) (ar Γ xQ):=by
 have g:=G.toGood
 exact(ah (aM G (aF g (aF g (aF g (aF g (aa g) ao) (aF g ao (aa g))) ao) ao)) (ah (aV (aF g (aF g (aF g (aF g (aa g) (aa g)) ao) (aa g)) ao)) aw))
def kH:Stmt:=bC 49
theorem ZG:bo xR IP (au kH):=bx
theorem ZH{CX:aL}{Γ:aE}{X:Cx}(G:aQ CX (aZ xR (au kH) X3 X4 IQ X5 X6 X7 X8 0) Γ X):aW X (az kH) (ar Γ xS):=by
 have g:=G.toGood
 exact(ah (aM G aY) (ah (aM G (aF g (aa g) aY)) (ah (aM G aY) (ah (oi G (GX g (aa g)) (ah (aM G (aD g (af (aa g) (af (aa g) aj)))) (ah (aM G (aF g (aa g) (aB g (dr (af aY (af (aB g aY (aF g (aF g (aa g) ao) ao)) (af (aB g (aa g) (aF g (aF g (aa g) ao) ao)) (af (aB g (aa g) (aF g (aF g (aa g) ao) ao)) aj))))) (aF g (aa g) ao)))) aw))) (ah (aV (aa g)) aw)))))
def kI:Stmt:=bC 50
theorem ZI:bo xT IS (au kI):=bx
theorem ZJ{CX:aL}{Γ:aE}{X:Cx}(G:aQ CX (aZ xT (au kI) X9 X_ IT Ya Yb Yc Yd 0) Γ X):aW X (az kI) (ar Γ xU):=by
 have g:=G.toGood
 exact(ah (aM G (dr aj)) (ah (aM G aY) (ah (aM G aY) (ah (vU [(_,_),(_,_)] G (fX g (aF g (aa g) (dr (af (b_ (af aY (af ao aj))) aj)))) (ah (bD (bh g (aa g) aY) (ah (aM G (aF g (aa g) (aa g))) aw) (ah (bD (bh g (aa g) aY) (ah (aM G (aF g (aa g) (aa g))) aw) (ah (bD (PW.pt (fW (bh g (aa g) aY) (gO (bh g (aa g) ao)))) (ah (aM G (aF g (aF g (aa g) (aF g (dr (af (b_ (af aY (af (aa g) aj))) aj)) (cB g (af (ej g (aa g) aY) aj)))) (aF g (dr (af (b_ (af aY (af (aa g) aj))) aj)) (cB g (af (ej g (aa g) aY) aj))))) (ah (aM G aY) (ah (aM G aY) (ah (bD (PW.pt (qN (bh g (aa g) aY) (qN (bh g (aa g) (dr aj)) (vQ (bh g (aB g (aB g (aa g) (vN ao)) ao) aY))))) (ah (SU (b_ (af aY (af (aF g (aB g (aB g (aa g) (vN ao)) ao) (aa g)) aj))) (aa g) (vN ao)) aw) (ah (bD (bh g (aa g) aY) (ah (cW (cG g (aa g) (af (b_ (af aY (af (aa g) aj))) aj))) aw) aw) aw)) aw)))) aw) aw)) aw)) aw)) (ah (aV (aa g)) aw)))))
def cu:Stmt:=bC 51
theorem ZK:bo gP IU (au cu):=bx
theorem ZL{CX:aL}{Γ:aE}{X:Cx}(G:aQ CX (aZ gP (au cu) jA jB iC jC jD jE jF 0) Γ X):PS X ((az cu).getD 0 (.Pass ⟨0,0,0,0⟩)) (bR Γ (dB.getD 0 (.ret (.c .av)))):=by
 have g:=G.toGood
 show PS X (.Assign [.Name "_law_parts" _] _ _) (bR Γ (.asg 2 _))
 with_reducible exact(aM G (dr aj))
theorem ZM{CX:aL}{Γ:aE}{X:Cx}(G:aQ CX (aZ gP (au cu) jA jB iC jC jD jE jF 0) Γ X):PS X ((az cu).getD 1 (.Pass ⟨0,0,0,0⟩)) (bR Γ (dB.getD 1 (.ret (.c .av)))):=by
 have g:=G.toGood
 show PS X (.Assign [.Name "_law_at" _] _ _) (bR Γ (.asg 3 _))
 with_reducible exact(aM G ao)
theorem ZN{CX:aL}{Γ:aE}{X:Cx}(G:aQ CX (aZ gP (au cu) jA jB iC jC jD jE jF 0) Γ X):PS X ((az cu).getD 2 (.Pass ⟨0,0,0,0⟩)) (bR Γ (dB.getD 2 (.ret (.c .av)))):=by
 have g:=G.toGood
 exact(oi G (GX g (aF g ao (aF g (aa g) ao))) (ah (aM G (aD g (af (aa g) (af (aF g ao (aa g)) aj)))) (ah (bD (bh g (aF g (aa g) ao) ao) (ah (cW (cG g (aa g) (af (b_ (af aY (af (aD g (af (aa g) (af (aF g ao (aF g (aF g (aF g (aa g) ao) ao) (aF g ao (aF g (aF g (aa g) ao) ao)))) aj))) aj))) aj))) aw) aw) (ah (aM G (cB g (af (aF g (cB g (af (aa g) aj)) (aa g)) (af (aF g (aF g (aa g) ao) (aF g ao (aF g (cB g (af (aa g) aj)) ao))) aj)))) (ah (bD (PW.pt (qN (bh g (aF g (aF g (aa g) ao) ao) ao) (vQ (bh g (aa g) ao)))) (ah (cW (cG g (aa g) (af (b_ (af aY (af (mz g (aa g) (e_ (aa g)) (e_ (aF g (aa g) (aa g)))) aj))) aj))) aw) (ah (cW (cG g (aa g) (af (b_ (af aY (af (aa g) aj))) aj))) aw)) (ah (aM G (aF g (aa g) (aa g))) aw))))))
theorem ZO{CX:aL}{Γ:aE}{X:Cx}(G:aQ CX (aZ gP (au cu) jA jB iC jC jD jE jF 0) Γ X):PS X ((az cu).getD 3 (.Pass ⟨0,0,0,0⟩)) (bR Γ (dB.getD 3 (.ret (.c .av)))):=by
 have g:=G.toGood
 exact(cW (cG g (aa g) (af (b_ (af aY (af (aF g (cB g (af (aa g) aj)) (aa g)) aj))) aj)))
theorem ZP{CX:aL}{Γ:aE}{X:Cx}(G:aQ CX (aZ gP (au cu) jA jB iC jC jD jE jF 0) Γ X):PS X ((az cu).getD 4 (.Pass ⟨0,0,0,0⟩)) (bR Γ (dB.getD 4 (.ret (.c .av)))):=by
 have g:=G.toGood
 exact(bD (bh g (aF g (aF g (aa g) ao) ao) ao) (ah (cW (cG g (aa g) (af (b_ (af aY (af (aD g (af (aa g) (af (aF g ao (aF g (aF g (aa g) ao) ao)) aj))) aj))) aj))) aw) aw)
theorem ZQ{CX:aL}{Γ:aE}{X:Cx}(G:aQ CX (aZ gP (au cu) jA jB iC jC jD jE jF 0) Γ X):PS X ((az cu).getD 5 (.Pass ⟨0,0,0,0⟩)) (bR Γ (dB.getD 5 (.ret (.c .av)))):=by
 have g:=G.toGood
 show PS X (.Return (some _) _) (bR Γ (.ret _))
 with_reducible exact(aV (aD g (af (aa g) aj)))
theorem ZR{CX:aL}{Γ:aE}{X:Cx}(G:aQ CX (aZ gP (au cu) jA jB iC jC jD jE jF 0) Γ X):aW X (az cu) (ar Γ dB):=by
 have e:az cu=[((az cu).getD 0 (.Pass ⟨0,0,0,0⟩)),((az cu).getD 1 (.Pass ⟨0,0,0,0⟩)),((az cu).getD 2 (.Pass ⟨0,0,0,0⟩)),((az cu).getD 3 (.Pass ⟨0,0,0,0⟩)),((az cu).getD 4 (.Pass ⟨0,0,0,0⟩)),((az cu).getD 5 (.Pass ⟨0,0,0,0⟩))]:=by kernel_rfl
 have e2:dB=[(dB.getD 0 (.ret (.c .av))),(dB.getD 1 (.ret (.c .av))),(dB.getD 2 (.ret (.c .av))),(dB.getD 3 (.ret (.c .av))),(dB.getD 4 (.ret (.c .av))),(dB.getD 5 (.ret (.c .av)))]:=by kernel_rfl
 rw[e,e2]
 with_reducible exact ah (ZL G) (ah (ZM G) (ah (ZN G) (ah (ZO G) (ah (ZP G) (ah (ZQ G) (aw))))))
def kJ:Stmt:=bC 52
theorem ZS:bo xV IV (au kJ):=bx
theorem ZT{CX:aL}{Γ:aE}{X:Cx}(G:aQ CX (aZ xV (au kJ) Ye Yf IW Yg Yh Yi Yj 0) Γ X):aW X (az kJ) (ar Γ xW):=by
 have g:=G.toGood
 exact(ah (aM G aY) (ah (aM G ao) (ah (vU [(_,_),(_,_)] G (fX g (aa g)) (ah (bD (bh g (aa g) aY) (ah (aM G (aF g (aa g) (aa g))) aw) (ah (bD (bh g (aa g) aY) (ah (aM G (aF g (aa g) (mz g (aa g) (e_ (aa g)) (e_ (aF g (aa g) (aa g)))))) (ah (aM G (aF g (aa g) (aa g))) aw)) (ah (aM G (aF g (aa g) (cB g (af (aa g) aj)))) aw)) aw)) aw)) (ah (aV (aa g)) aw))))
def xX:List Str:=["_law_paper","_law_text","_law_begin","_law_end","_law_numbers","_law_pieces"]
def Jb:List Str:=["_law_paper","_law_text","_law_begin","_law_end"]
noncomputable def oy:List RS:=
 [.ite (.or [(.cmp .NotEq (.b9 0 "text" (.v 0) []) (.v 1)),(.cmp .NotEq (.b9 1 "part" (.v 0) [(.v 2),(.v 3)]) (.sl (.v 1) (some (.v 2)) (some (.v 3))))]) [.ret (.c (.bl false))] [],
 .asg 4 (.lst [(.b9 2 "size" (.v 0) []),(.b9 3 "lines" (.v 0) []),(.b9 4 "height" (.v 0) [])]),
 .ite (.cmp .NotEq (.comp none [] .list [(.v 4)] (some (.not (.call 0 [(.v 0)]))) (.v 0)) (.lst [])) [.ret (.c (.bl false))] [],
 .ite (.or [(.cmp .NotEq (.sl (.v 4) none (some (.c (.int 2)))) (.lst [(.blt .len [(.v 1)]),(.bin .Add (.c (.int 1)) (.bE .count (.v 1) [(.c (.str "\n"))]))])),(.cmp .NotEq (.cmp .Eq (.ix (.v 4) (.c (.int 2))) (.c (.int 0))) (.cmp .Eq (.v 1) (.c (.str ""))))]) [.ret (.c (.bl false))] [],
 .asg 5 (.b9 5 "pieces" (.v 0) []),
 .ite (.or [(.not (.dw .list (.v 5))),(.cmp .NotEq (.bE .join (.c (.str "")) [(.v 5)]) (.v 1)),(.cmp .In (.c (.str "")) (.v 5))]) [.ret (.c (.bl false))] [],
 .drop (.bE .append (.v 5) [(.c (.str "more"))]),
 .ret (.cmp .Eq (.bE .join (.c (.str "")) [(.b9 5 "pieces" (.v 0) [])]) (.v 1))]
def ZU:List Str:=["_law_whole"]
def ZV:List Str:=[]
def Jc:List Str:=["len","isinstance","list"]
def ZW:List Str:=["text","part","size","lines","height","pieces"]
def ZX:List Str:=[]
def ZY:List Str:=[]
def ZZ:List Str:=[]
def kN:Stmt:=bC 53
theorem Z0:bo xX Jb (au kN):=bx
theorem Z1{CX:aL}{Γ:aE}{X:Cx}(G:aQ CX (aZ xX (au kN) ZU ZV Jc ZW ZX ZY ZZ 0) Γ X):aW X (az kN) (ar Γ oy):=by
 have g:=G.toGood
 exact(ah (bD (PW.pt (fW (bh g (fV g (aa g)) (aa g)) (gO (bh g (jv g (aa g) (af (aa g) (af (aa g) aj))) (mz g (aa g) (e_ (aa g)) (e_ (aa g))))))) (ah (aV ju) aw) aw) (ah (aM G (dr (af (fV g (aa g)) (af (fV g (aa g)) (af (fV g (aa g)) aj))))) (ah (bD (bh g (oh (ln:=["_law_one"]) g (by kernel_rfl) (fX g (aa g)) (qM fun _ g=> (dW (fc g (aD g (af (aa g) aj))))) (fun _ g=> (aa g))) (dr aj)) (ah (aV ju) aw) aw) (ah (bD (PW.pt (fW (bh g (mz g (aa g) SM (e_ ao)) (dr (af (cB g (af (aa g) aj)) (af (aF g ao (cG g (aa g) (af aY aj))) aj)))) (gO (bh g (ej g (aB g (aa g) ao) ao) (ej g (aa g) aY))))) (ah (aV ju) aw) aw) (ah (aM G (fV g (aa g))) (ah (bD (PW.pt (fW (dW (vR g (gN g (aa g)))) (fW (bh g (cG g aY (af (aa g) aj)) (aa g)) (gO (bh g aY (aa g)))))) (ah (aV ju) aw) aw) (ah (cW (cG g (aa g) (af aY aj))) (ah (aV (ej g (cG g aY (af (fV g (aa g)) aj)) (aa g))) aw))))))))
def f_:List Str:=["_law_script","_law_size","_law_text","_law_paper","_law_held","_law_k","_law_cell","_law_change","_law_handed","_law_found","_law_behind","_law_begin","_law_end","_law_told_here"]
def Jd:List Str:=["_law_script"]
noncomputable def cX:List RS:=
 [.asg 1 (.bin .Mod (.call 0 [(.v 0),(.c (.int 0))]) (.c (.int 25))),
 .ite (.cmp .Eq (.bin .Mod (.bin .FloorDiv (.call 0 [(.v 0),(.c (.int 0))]) (.c (.int 25))) (.c (.int 8))) (.c (.int 1))) [.asg 1 (.bin .Add (.c (.int 60)) (.bin .Mod (.bin .FloorDiv (.call 0 [(.v 0),(.c (.int 0))]) (.c (.int 200))) (.c (.int 140))))] [],
 .asg 2 (.call 1 [(.call 0 [(.v 0),(.c (.int 1))]),(.v 1)]),
 .asg 3 (.call 2 [(.v 2)]),
 .asg 4 (.lst []),
 .mj [5,6] .u_ [(.sl (.v 0) (some (.c (.int 3))) (some (.c (.int 11))))] [.asg 7 (.call 3 [(.call 4 [(.v 6),(.v 5)]),(.v 2)]),
  .asg 8 (.blt .list [(.v 7)]),
  .asg 9 (.b9 0 "changed" (.v 3) [(.v 8)]),
  .ite (.or [(.cmp .NotEq (.v 8) (.v 7)),(.not (.xt q9 [(.v 9),(.g 0)]))]) [.ret (.c (.bl false))] [],
  .drop (.bE .clear (.v 8) []),
  .asg 10 (.call 5 [(.v 2),(.v 7)]),
  .asg 11 (.bin .Mod (.call 4 [(.v 6),(.bin .Add (.c (.int 70)) (.v 5))]) (.bin .Add (.blt .len [(.v 10)]) (.c (.int 1)))),
  .asg 12 (.bin .Add (.v 11) (.bin .Mod (.call 4 [(.v 6),(.bin .Add (.c (.int 80)) (.v 5))]) (.bin .Add (.bin .Sub (.blt .len [(.v 10)]) (.v 11)) (.c (.int 1))))),
  .ite (.or [(.not (.call 6 [(.v 9),(.v 10),(.v 11),(.v 12)])),(.not (.call 6 [(.v 3),(.v 2),(.c (.int 0)),(.blt .len [(.v 2)])]))]) [.ret (.c (.bl false))] [],
  .asg 13 (.b9 1 "pieces" (.v 9) []),
  .drop (.bE .append (.v 4) [(.tup [(.v 13),(.blt .list [(.v 13)])])]),
  .asg 3 (.v 9),
  .asg 2 (.v 10)],
 .ret (.and [(.call 6 [(.v 3),(.v 2),(.c (.int 0)),(.blt .len [(.v 2)])]),(.cmp .Eq (.comp (some 2) [] .list [(.v 4)] (some (.cmp .NotEq (.v 0) (.v 1))) (.v 0)) (.lst []))])]
def iD:List Str:=["_law_cell_at","_law_text_by","paper_of","_law_change_by","_law_mixed","_law_done","_law_told"]
def iE:List Str:=["Paper"]
def gR:List Str:=["enumerate","list","isinstance","len"]
def iG:List Str:=["changed","pieces"]
def iH:List Str:=[]
def iI:List Str:=[]
def iJ:List Str:=[]
def bU:Stmt:=bC 54
theorem Z2:bo f_ Jd (au bU):=bx
theorem Z3{CX:aL}{Γ:aE}{X:Cx}(G:aQ CX (aZ f_ (au bU) iD iE gR iG iH iI iJ 0) Γ X):PS X ((az bU).getD 0 (.Pass ⟨0,0,0,0⟩)) (bR Γ (cX.getD 0 (.ret (.c .av)))):=by
 have g:=G.toGood
 show PS X (.Assign [.Name "_law_size" _] _ _) (bR Γ (.asg 1 _))
 with_reducible exact(aM G (aF g (aD g (af (aa g) (af ao aj))) ao))
theorem Z4{CX:aL}{Γ:aE}{X:Cx}(G:aQ CX (aZ f_ (au bU) iD iE gR iG iH iI iJ 0) Γ X):PS X ((az bU).getD 1 (.Pass ⟨0,0,0,0⟩)) (bR Γ (cX.getD 1 (.ret (.c .av)))):=by
 have g:=G.toGood
 exact(bD (bh g (aF g (aF g (aD g (af (aa g) (af ao aj))) ao) ao) ao) (ah (aM G (aF g ao (aF g (aF g (aD g (af (aa g) (af ao aj))) ao) ao))) aw) aw)
theorem Z5{CX:aL}{Γ:aE}{X:Cx}(G:aQ CX (aZ f_ (au bU) iD iE gR iG iH iI iJ 0) Γ X):PS X ((az bU).getD 2 (.Pass ⟨0,0,0,0⟩)) (bR Γ (cX.getD 2 (.ret (.c .av)))):=by
 have g:=G.toGood
 show PS X (.Assign [.Name "_law_text" _] _ _) (bR Γ (.asg 2 _))
 with_reducible exact(aM G (aD g (af (aD g (af (aa g) (af ao aj))) (af (aa g) aj))))
theorem Z6{CX:aL}{Γ:aE}{X:Cx}(G:aQ CX (aZ f_ (au bU) iD iE gR iG iH iI iJ 0) Γ X):PS X ((az bU).getD 3 (.Pass ⟨0,0,0,0⟩)) (bR Γ (cX.getD 3 (.ret (.c .av)))):=by
 have g:=G.toGood
 show PS X (.Assign [.Name "_law_paper" _] _ _) (bR Γ (.asg 3 _))
 with_reducible exact(aM G (aD g (af (aa g) aj)))
theorem Z7{CX:aL}{Γ:aE}{X:Cx}(G:aQ CX (aZ f_ (au bU) iD iE gR iG iH iI iJ 0) Γ X):PS X ((az bU).getD 4 (.Pass ⟨0,0,0,0⟩)) (bR Γ (cX.getD 4 (.ret (.c .av)))):=by
 have g:=G.toGood
 show PS X (.Assign [.Name "_law_held" _] _ _) (bR Γ (.asg 4 _))
 with_reducible exact(aM G (dr aj))
theorem Z8{CX:aL}{Γ:aE}{X:Cx}(G:aQ CX (aZ f_ (au bU) iD iE gR iG iH iI iJ 0) Γ X):PS X ((az bU).getD 5 (.Pass ⟨0,0,0,0⟩)) (bR Γ (cX.getD 5 (.ret (.c .av)))):=by
 have g:=G.toGood
 exact(vU [(_,_),(_,_)] G (SO g (mz g (aa g) (e_ ao) (e_ ao))) (ah (aM G (aD g (af (aD g (af (aa g) (af (aa g) aj))) (af (aa g) aj)))) (ah (aM G (cB g (af (aa g) aj))) (ah (aM G (jv g (aa g) (af (aa g) aj))) (ah (bD (PW.pt (fW (bh g (aa g) (aa g)) (gO (dW (XS g (XU g (af (aa g) (af (GV g) aj)))))))) (ah (aV ju) aw) aw) (ah (cW (SJ g (aa g))) (ah (aM G (aD g (af (aa g) (af (aa g) aj)))) (ah (aM G (aF g (aD g (af (aa g) (af (aF g ao (aa g)) aj))) (aF g (cB g (af (aa g) aj)) ao))) (ah (aM G (aF g (aa g) (aF g (aD g (af (aa g) (af (aF g ao (aa g)) aj))) (aF g (aF g (cB g (af (aa g) aj)) (aa g)) ao)))) (ah (bD (PW.pt (fW (dW (fc g (aD g (af (aa g) (af (aa g) (af (aa g) (af (aa g) aj))))))) (gO (dW (fc g (aD g (af (aa g) (af (aa g) (af ao (af (cB g (af (aa g) aj)) aj)))))))))) (ah (aV ju) aw) aw) (ah (aM G (fV g (aa g))) (ah (cW (cG g (aa g) (af (b_ (af (aa g) (af (cB g (af (aa g) aj)) aj))) aj))) (ah (aM G (aa g)) (ah (aM G (aa g)) aw))))))))))))))
theorem Z9{CX:aL}{Γ:aE}{X:Cx}(G:aQ CX (aZ f_ (au bU) iD iE gR iG iH iI iJ 0) Γ X):PS X ((az bU).getD 6 (.Pass ⟨0,0,0,0⟩)) (bR Γ (cX.getD 6 (.ret (.c .av)))):=by
 have g:=G.toGood
 show PS X (.Return (some _) _) (bR Γ (.ret _))
 with_reducible exact(aV (e9 (aD g (af (aa g) (af (aa g) (af ao (af (cB g (af (aa g) aj)) aj))))) (fU (ej g (oh (ln:=["_law_one","_law_copy"]) g (by kernel_rfl) (fX g (aa g)) (qM fun _ g=> (bh g (aa g) (aa g))) (fun _ g=> (aa g))) (dr aj)))))
theorem Z_{CX:aL}{Γ:aE}{X:Cx}(G:aQ CX (aZ f_ (au bU) iD iE gR iG iH iI iJ 0) Γ X):aW X (az bU) (ar Γ cX):=by
 have e:az bU=[((az bU).getD 0 (.Pass ⟨0,0,0,0⟩)),((az bU).getD 1 (.Pass ⟨0,0,0,0⟩)),((az bU).getD 2 (.Pass ⟨0,0,0,0⟩)),((az bU).getD 3 (.Pass ⟨0,0,0,0⟩)),((az bU).getD 4 (.Pass ⟨0,0,0,0⟩)),((az bU).getD 5 (.Pass ⟨0,0,0,0⟩)),((az bU).getD 6 (.Pass ⟨0,0,0,0⟩))]:=by kernel_rfl
 have e2:cX=[(cX.getD 0 (.ret (.c .av))),(cX.getD 1 (.ret (.c .av))),(cX.getD 2 (.ret (.c .av))),(cX.getD 3 (.ret (.c .av))),(cX.getD 4 (.ret (.c .av))),(cX.getD 5 (.ret (.c .av))),(cX.getD 6 (.ret (.c .av)))]:=by kernel_rfl
 rw[e,e2]
 with_reducible exact ah (Z3 G) (ah (Z4 G) (ah (Z5 G) (ah (Z6 G) (ah (Z7 G) (ah (Z8 G) (ah (Z9 G) (aw)))))))
end L2.gQ
namespace L2.N
inductive Tr where
 | nil | node (l:Tr) (a b c:Int) (r:Tr)
namespace Tr
def h:Tr→Int
 | nil=>0
 | node l _ _ _ r=>1+ (if r.h>l.h then r.h else l.h)
def sz:Tr→Int
 | nil=>0
 | node l _ b _ r=>l.sz+b+r.sz
def en:Tr→Int
 | nil=>0
 | node l _ _ c r=>l.en+c+r.en
def ak:Tr→List (Int×Int×Int)
 | nil=> []
 | node l a b c r=>l.ak++ (a,b,c)::r.ak
def ok:Tr→Prop
 | nil=>True
 | node l _ _ _ r=>l.ok∧r.ok∧l.h≤r.h+1∧r.h≤l.h+1
theorem h0: ∀t:Tr,0≤t.h
 | nil=>Int.le_refl _
 | node l _ _ _ r=>by
  have:=h0 l
  have:=h0 r
  show 0≤1+ (if r.h>l.h then r.h else l.h)
  split<;>omega
theorem mE: ∀{t:Tr},0<t.h→ ∃l a b c r,t=node l a b c r
 | nil,h=>absurd h (by decide)
 | node l a b c r,_=> ⟨l,a,b,c,r,rfl⟩
theorem cb(l:Tr)(a b c:Int)(r:Tr):(node l a b c r).h=1+ (if r.h>l.h then r.h else l.h):=rfl
theorem xY: ∀{t:Tr} (n:Nat),t.ok→(n:Int)≤t.h→2 ^ (n / 2)≤t.ak.length+1
 | nil,n,_,hn=>by
  have:n=0:=by
   have:(n:Int)≤0:=hn
   omega
  subst this;decide
 | node l a b c r,n,ho,hn=>by
  obtain⟨o1,o2,o3,o4⟩:=ho
  rw[cb] at hn
  simp only[ak,List.length_append,List.length_cons]
  match n with
  | 0=>simp
  | 1=>simp
  | n+2=>
   have e:(n+2) / 2=n / 2+1:=by omega
   rw[e,Nat.pow_succ]
   have k1:(n:Int)≤l.h:=by split at hn<;>omega
   have k2:(n:Int)≤r.h:=by split at hn<;>omega
   have i1:=xY n o1 k1
   have i2:=xY n o2 k2
   omega
theorem eL{t:Tr}(ho:t.ok)(hn:t.ak.length≤1000):t.h≤19:=by
 by_cases hh:t.h≤19
 ·exact hh
 ·have:=xY 20 ho (by omega)
  omega
structure gb (l:Tr) (a b c:Int) (r t:Tr):Prop where
 ok:t.ok
 ak:t.ak=l.ak++ (a,b,c)::r.ak
 near:l.h≤r.h+1→r.h≤l.h+1→t.h=1+ (if r.h>l.h then r.h else l.h)
 lo:l.h≤t.h∧r.h≤t.h
 hi:t.h≤l.h+1∨t.h≤r.h+1
theorem Je{l r:Tr}{a b c:Int}(o1:l.ok)(o2:r.ok)(h1:l.h≤r.h+1)(h2:r.h≤l.h+1):gb l a b c r (node l a b c r):=by
 refine⟨⟨o1,o2,h1,h2⟩,rfl,fun _ _=>rfl, ?_, ?_⟩
 all_goals rw[cb];split<;>omega
theorem aaa{ll lr r:Tr}{a b c a' b' c':Int}(o1:(node ll a b c lr).ok)(o2:r.ok)(h1:(node ll a b c lr).h=r.h+2)(hh:lr.h≤ll.h):
  gb (node ll a b c lr) a' b' c' r (node ll a b c (node lr a' b' c' r)):=by
 obtain⟨p1,p2,p3,p4⟩:=o1
 have e1:=cb ll a b c lr
 have e2:=cb lr a' b' c' r
 have e3:=cb ll a b c (node lr a' b' c' r)
 rw[h1] at e1
 have k:r.h+1=ll.h:=by rw[if_neg (by omega)] at e1;omega
 refine⟨⟨p1,⟨p2,o2,by omega,by omega⟩, ?_, ?_⟩,by simp[ak],fun q1 q2=>absurd h1 (by omega), ?_, ?_⟩
 ·rw[e2];split<;>omega
 ·rw[e2];split<;>omega
 ·rw[e3,e2,h1];constructor<;> ((repeat' split) <;>omega)
 ·rw[e3,e2,h1];left;(split<;>split<;>omega)
theorem aab{ll il ir r:Tr}{a b c a' b' c' x y z:Int}(o1:(node ll a b c (node il x y z ir)).ok)(o2:r.ok)(h1:(node ll a b c (node il x y z ir)).h=r.h+2)(hh:ll.h< (node il x y z ir).h):
  gb (node ll a b c (node il x y z ir)) a' b' c' r (node (node ll a b c il) x y z (node ir a' b' c' r)):=by
 obtain⟨p1,⟨p5,p6,p7,p8⟩,p3,p4⟩:=o1
 have e1:=cb ll a b c (node il x y z ir)
 have e2:=cb il x y z ir
 have e3:=cb ll a b c il
 have e4:=cb ir a' b' c' r
 have e5:=cb (node ll a b c il) x y z (node ir a' b' c' r)
 rw[h1,if_pos (by omega)] at e1
 have k1:ll.h=r.h:=by omega
 have k2:il.h≤r.h∧ir.h≤r.h:=by rw[e2] at e1;split at e1<;>omega
 have k3:r.h - 1≤il.h∧r.h - 1≤ir.h:=by rw[e2] at e1;split at e1<;>omega
 have f3:(node ll a b c il).h=r.h+1:=by rw[e3];split<;>omega
 have f4:(node ir a' b' c' r).h=r.h+1:=by rw[e4];split<;>omega
 have f5:(node (node ll a b c il) x y z (node ir a' b' c' r)).h=r.h+2:=by rw[e5,f3,f4];split<;>omega
 refine⟨⟨⟨p1,p5,by omega,by omega⟩,⟨p6,o2,by omega,by omega⟩,by omega,by omega⟩,by simp[ak],fun q1 q2=>absurd h1 (by omega),by omega,by omega⟩
theorem aac{l rl rr:Tr}{a b c a' b' c':Int}(o1:l.ok)(o2:(node rl a' b' c' rr).ok)(h1:(node rl a' b' c' rr).h=l.h+2)(hh:rl.h≤rr.h):
  gb l a b c (node rl a' b' c' rr) (node (node l a b c rl) a' b' c' rr):=by
 obtain⟨p1,p2,p3,p4⟩:=o2
 have e1:=cb rl a' b' c' rr
 have e2:=cb l a b c rl
 have e3:=cb (node l a b c rl) a' b' c' rr
 rw[h1] at e1
 have k:l.h+1=rr.h:=by split at e1<;>omega
 refine⟨⟨⟨o1,p1,by omega,by omega⟩,p2, ?_, ?_⟩,by simp[ak],fun q1 q2=>absurd h1 (by omega), ?_, ?_⟩
 ·rw[e2];split<;>omega
 ·rw[e2];split<;>omega
 ·rw[e3,e2,h1];constructor<;> ((repeat' split) <;>omega)
 ·rw[e3,e2,h1];right;(split<;>split<;>omega)
theorem aad{l il ir rr:Tr}{a b c a' b' c' x y z:Int}(o1:l.ok)(o2:(node (node il x y z ir) a' b' c' rr).ok)(h1:(node (node il x y z ir) a' b' c' rr).h=l.h+2)(hh:rr.h< (node il x y z ir).h):
  gb l a b c (node (node il x y z ir) a' b' c' rr) (node (node l a b c il) x y z (node ir a' b' c' rr)):=by
 obtain⟨⟨p5,p6,p7,p8⟩,p2,p3,p4⟩:=o2
 have e1:=cb (node il x y z ir) a' b' c' rr
 have e2:=cb il x y z ir
 have e3:=cb l a b c il
 have e4:=cb ir a' b' c' rr
 have e5:=cb (node l a b c il) x y z (node ir a' b' c' rr)
 rw[h1,if_neg (by omega)] at e1
 have k1:l.h=rr.h:=by omega
 have k2:il.h≤l.h∧ir.h≤l.h:=by rw[e2] at e1;split at e1<;>omega
 have k3:l.h - 1≤il.h∧l.h - 1≤ir.h:=by rw[e2] at e1;split at e1<;>omega
 have f3:(node l a b c il).h=l.h+1:=by rw[e3];split<;>omega
 have f4:(node ir a' b' c' rr).h=l.h+1:=by rw[e4];split<;>omega
 have f5:(node (node l a b c il) x y z (node ir a' b' c' rr)).h=l.h+2:=by rw[e5,f3,f4];split<;>omega
 refine⟨⟨⟨o1,p5,by omega,by omega⟩,⟨p6,p2,by omega,by omega⟩,by omega,by omega⟩,by simp[ak],fun q1 q2=>absurd h1 (by omega),by omega,by omega⟩
structure Jn (l:Tr) (a b c:Int) (r t:Tr):Prop where
 ok:t.ok
 ak:t.ak=l.ak++ (a,b,c)::r.ak
 lo:l.h≤t.h∧r.h≤t.h
 hi:t.h≤l.h+1∨t.h≤r.h+1
theorem aae{l r:Tr}{a b c:Int}(o1:l.ok)(o2:r.ok)(h1:l.h≤r.h+1)(h2:r.h≤l.h+1):Jn l a b c r (node l a b c r):=
 let L:=Je (a:=a) (b:=b) (c:=c) o1 o2 h1 h2
 ⟨L.ok,L.ak,L.lo,L.hi⟩
theorem aaf{ll lr r j t:Tr}{a b c a' b' c':Int}(o1:(node ll a b c lr).ok)(hh:r.h+1< (node ll a b c lr).h)(J:Jn lr a' b' c' r j)(L:gb ll a b c j t):
  Jn (node ll a b c lr) a' b' c' r t:=by
 obtain⟨p1,p2,p3,p4⟩:=o1
 have e1:=cb ll a b c lr
 have j1:=J.lo
 have j2:=J.hi
 have l1:=L.lo
 have l2:=L.hi
 have l3:=L.near
 have fj:r.h≤lr.h:=by rw[e1] at hh;split at hh<;>omega
 have hj:j.h=lr.h∨j.h=lr.h+1:=by omega
 refine⟨L.ok,by rw[L.ak,J.ak];simp[ak], ?_, ?_⟩
 ·rw[e1]
  by_cases q:ll.h≤j.h+1∧j.h≤ll.h+1
  ·have:=l3 q.1 q.2
   rw[this]
   constructor<;> ((repeat' split) <;>omega)
  ·constructor<;> ((repeat' split) <;>omega)
 ·rw[e1]
  left
  by_cases q:ll.h≤j.h+1∧j.h≤ll.h+1
  ·have:=l3 q.1 q.2
   rw[this]
   split<;>split<;>omega
  ·split<;>omega
theorem aag{l rl rr j t:Tr}{a b c a' b' c':Int}(o2:(node rl a' b' c' rr).ok)(hh:l.h+1< (node rl a' b' c' rr).h)(J:Jn l a b c rl j)(L:gb j a' b' c' rr t):
  Jn l a b c (node rl a' b' c' rr) t:=by
 obtain⟨p1,p2,p3,p4⟩:=o2
 have e1:=cb rl a' b' c' rr
 have j1:=J.lo
 have j2:=J.hi
 have l1:=L.lo
 have l2:=L.hi
 have l3:=L.near
 have fj:l.h≤rl.h:=by rw[e1] at hh;split at hh<;>omega
 have hj:j.h=rl.h∨j.h=rl.h+1:=by omega
 refine⟨L.ok,by rw[L.ak,J.ak];simp[ak], ?_, ?_⟩
 ·rw[e1]
  by_cases q:j.h≤rr.h+1∧rr.h≤j.h+1
  ·have:=l3 q.1 q.2
   rw[this]
   constructor<;> ((repeat' split) <;>omega)
  ·constructor<;> ((repeat' split) <;>omega)
 ·rw[e1]
  right
  by_cases q:j.h≤rr.h+1∧rr.h≤j.h+1
  ·have:=l3 q.1 q.2
   rw[this]
   split<;>split<;>omega
  ·split<;>omega
theorem aah{ll lr r j:Tr}{a b c a' b' c':Int}(o1:(node ll a b c lr).ok)(hh:r.h+1< (node ll a b c lr).h)(J:Jn lr a' b' c' r j):ll.h≤j.h+2∧j.h≤ll.h+2:=by
 obtain⟨p1,p2,p3,p4⟩:=o1
 have e1:=cb ll a b c lr
 have j1:=J.lo
 have j2:=J.hi
 have fj:r.h≤lr.h:=by rw[e1] at hh;split at hh<;>omega
 omega
theorem aai{l rl rr j:Tr}{a b c a' b' c':Int}(o2:(node rl a' b' c' rr).ok)(hh:l.h+1< (node rl a' b' c' rr).h)(J:Jn l a b c rl j):j.h≤rr.h+2∧rr.h≤j.h+2:=by
 obtain⟨p1,p2,p3,p4⟩:=o2
 have e1:=cb rl a' b' c' rr
 have j1:=J.lo
 have j2:=J.hi
 have fj:l.h≤rl.h:=by rw[e1] at hh;split at hh<;>omega
 omega
end Tr
abbrev P3:=Int×Int×Int
def cv(ps:List P3):Int:=(ps.map fun p=>p.2.1).sum
def cc(F:Int→Int):List P3→Int→List P3
 | [],_=> []
 | p::ps,n=>if n≤0 then [] else if p.2.1≤n then p::cc F ps (n - p.2.1) else [(p.1,n,F (p.1+n) - F p.1)]
def cf(F:Int→Int):List P3→Int→List P3
 | [],_=> []
 | p::ps,n=>if n≤0 then p::ps else if p.2.1≤n then cf F ps (n - p.2.1) else (p.1+n,p.2.1 - n,p.2.2 - (F (p.1+n) - F p.1))::ps
theorem Jf:cv []=0:=rfl
theorem kO(p:P3)(ps:List P3):cv (p::ps)=p.2.1+cv ps:=by simp[cv]
theorem Jg(a b:List P3):cv (a++b)=cv a+cv b:=by simp[cv]
theorem xZ(F:Int→Int){n:Int}(h:n≤0): ∀ps:List P3,cc F ps n=[]∧cf F ps n=ps
 | []=> ⟨rfl,rfl⟩
 | p::ps=>by simp[cc,cf,h]
theorem Jh: ∀{ps:List P3},(∀p∈ps,1≤p.2.1)→0≤cv ps
 | [],_=>Int.le_refl _
 | p::ps,h=>by
  have:=Jh (ps:=ps) fun q hq=>h q (List.mem_cons_of_mem _ hq)
  have:=h p List.mem_cons_self
  rw[kO];omega
theorem Ji(F:Int→Int)(ys:List P3): ∀(xs:List P3) (n:Int),(∀p∈xs,1≤p.2.1)→n≤cv xs→cc F (xs++ys) n=cc F xs n∧cf F (xs++ys) n=cf F xs n++ys
 | [],n,_,h=>by
  have h:n≤0:=h
  obtain⟨a,b⟩:=xZ F h ys
  exact⟨a,b⟩
 | p::xs,n,hp,h=>by
  rw[kO] at h
  have ih:=Ji F ys xs (n - p.2.1) (fun q hq=>hp q (List.mem_cons_of_mem _ hq)) (by omega)
  simp only[List.cons_append,cc,cf]
  rw[ih.1,ih.2]
  constructor
  ·rfl
  ·split
   ·rfl
   ·split<;>rfl
theorem x3(F:Int→Int)(ys:List P3): ∀(xs:List P3) (n:Int),(∀p∈xs,1≤p.2.1)→cv xs≤n→cc F (xs++ys) n=xs++cc F ys (n - cv xs)∧cf F (xs++ys) n=cf F ys (n - cv xs)
 | [],n,_,h=>by rw[Jf,Int.sub_zero];exact⟨rfl,rfl⟩
 | p::xs,n,hp,h=>by
  have h1:=hp p List.mem_cons_self
  have h2:=Jh fun q hq=>hp q (List.mem_cons_of_mem _ hq)
  rw[kO] at h⊢
  have ih:=x3 F ys xs (n - p.2.1) (fun q hq=>hp q (List.mem_cons_of_mem _ hq)) (by omega)
  have e:n - p.2.1 - cv xs=n - (p.2.1+cv xs):=by omega
  rw[e] at ih
  simp only[List.cons_append,cc,cf]
  rw[if_neg (by omega),if_pos (by omega),if_neg (by omega),if_pos (by omega),ih.1,ih.2]
  exact⟨rfl,rfl⟩
theorem oz(F:Int→Int): ∀(xs:List P3) (n:Int),(cc F xs n).length≤xs.length∧(cf F xs n).length≤xs.length
 | [],n=> ⟨Nat.le_refl _,Nat.le_refl _⟩
 | p::xs,n=>by
  obtain⟨a,b⟩:=oz F xs (n - p.2.1)
  simp only[cc,cf]
  split
  ·exact⟨Nat.zero_le _,Nat.le_refl _⟩
  ·split<;>simp<;>omega
end L2.N
namespace L2.B
def cw(xs:List Int)(most:Int):Nat:=(xs.filter fun x=>decide (x≤most)).length
def mF(xs:List Int):Prop:=xs.Pairwise (· ≤ ·)
theorem x6(xs:List Int)(most:Int):cw xs most≤xs.length:=List.length_filter_le _ _
theorem x8(a b:List Int)(most:Int):cw (a++b) most=cw a most+cw b most:=by simp[cw]
theorem Jj{xs:List Int}{most:Int}(h: ∀x∈xs,x≤most):cw xs most=xs.length:=by
 unfold cw
 rw[List.filter_eq_self.mpr fun x hx=>by simpa using h x hx]
theorem Jk{xs:List Int}{most:Int}(h: ∀x∈xs,most<x):cw xs most=0:=by
 unfold cw
 rw[List.length_eq_zero_iff,List.filter_eq_nil_iff]
 intro x hx
 have:=h x hx
 simp;omega
theorem x9{xs:List Int}{most x:Int}{m:Nat}(h:mF xs)(g:xs[m]?=some x)(hx:x≤most):m+1≤cw xs most:=by
 have hm:=(List.getElem?_eq_some_iff.mp g).1
 have e:xs=xs.take (m+1)++xs.drop (m+1):=(List.take_append_drop _ _).symm
 have a: ∀y∈xs.take (m+1),y≤most:=by
  intro y hy
  obtain⟨j,hj,rfl⟩:=List.getElem_of_mem hy
  rw[List.length_take] at hj
  rw[List.getElem_take]
  have e2:xs[m]=x:=(List.getElem?_eq_some_iff.mp g).2
  by_cases q:j=m
  ·subst q;omega
  ·have:=List.pairwise_iff_getElem.mp h j m (by omega) hm (by omega)
   omega
 have:cw xs most=cw (xs.take (m+1)) most+cw (xs.drop (m+1)) most:=by rw[←x8,←e]
 rw[this,Jj a,List.length_take]
 omega
theorem Jl{xs:List Int}{most x:Int}{m:Nat}(h:mF xs)(g:xs[m]?=some x)(hx: ¬x≤most):cw xs most≤m:=by
 have hm:=(List.getElem?_eq_some_iff.mp g).1
 have e:xs=xs.take m++xs.drop m:=(List.take_append_drop _ _).symm
 have a: ∀y∈xs.drop m,most<y:=by
  intro y hy
  obtain⟨j,hj,rfl⟩:=List.getElem_of_mem hy
  rw[List.length_drop] at hj
  rw[List.getElem_drop]
  have e2:xs[m]=x:=(List.getElem?_eq_some_iff.mp g).2
  by_cases q:j=0
  ·subst q;simp;omega
  ·have:=List.pairwise_iff_getElem.mp h m (m+j) hm (by omega) (by omega)
   omega
 have:cw xs most=cw (xs.take m) most+cw (xs.drop m) most:=by rw[←x8,←e]
 have l:=x6 (xs.take m) most
 rw[this,Jk a]
 rw[List.length_take] at l
 omega
end L2.B
namespace L2.B
open PySem PySem.StrLaws
def pos(c:Nat):List Nat→Nat→List Nat
 | [],_=> []
 | d::r,k=>if d=c then k::pos c r (k+1) else pos c r (k+1)
theorem x_(c:Nat): ∀(a b:List Nat) (k:Nat),pos c (a++b) k=pos c a k++pos c b (k+a.length)
 | [],b,k=>by simp[pos]
 | d::r,b,k=>by
  have ih:=x_ c r b (k+1)
  rw[show k+1+r.length=k+ (d::r).length by simp;omega] at ih
  simp only[List.cons_append,pos]
  split
  ·rw[ih];rfl
  ·rw[ih]
theorem oA(c:Nat): ∀(a:List Nat) (k:Nat),(pos c a k).length=a.count c
 | [],k=>rfl
 | d::r,k=>by
  simp only[pos]
  rw[List.count_cons]
  split
  ·rename_i h;subst h;simp[oA d r (k+1)]
  ·rename_i h
   have:(d==c)=false:=by simpa using h
   rw[oA c r (k+1),this];simp
theorem kP(c:Nat): ∀(a:List Nat) (k i:Nat),i∈pos c a k→k≤i∧i<k+a.length
 | [],k,i,h=>by simp[pos] at h
 | d::r,k,i,h=>by
  simp only[pos] at h
  have go:i∈pos c r (k+1)→k≤i∧i<k+ (d::r).length:=fun z=>by
   have:=kP c r (k+1) i z
   simp;omega
  split at h
  ·rcases List.mem_cons.mp h with rfl | z
   ·simp
   ·exact go z
  ·exact go h
theorem ya(c:Nat): ∀(a:List Nat) (k:Nat),(pos c a k).Pairwise (· < ·)
 | [],k=>by simp[pos]
 | d::r,k=>by
  simp only[pos]
  split
  ·rw[List.pairwise_cons]
   exact⟨fun i hi=>by have:=kP c r (k+1) i hi;omega,ya c r (k+1)⟩
  ·exact ya c r (k+1)
def dY(c:Nat)(a:List Nat):List Int:=(pos c a 0).map fun(i:Nat)=> (i:Int)
theorem aaj(c:Nat)(a:List Nat):mF (dY c a):=by
 unfold mF dY
 rw[List.pairwise_map]
 exact(ya c a 0).imp fun h=>by omega
theorem aak(c:Nat)(a:List Nat)(n:Nat):cw (dY c a) ((n:Int) - 1)=(a.take n).count c:=by
 have e:a=a.take n++a.drop n:=(List.take_append_drop _ _).symm
 have e1:dY c a=dY c (a.take n)++ ((pos c (a.drop n) (a.take n).length).map fun(i:Nat)=> (i:Int)):=by
  unfold dY
  conv=>lhs;rw[e]
  rw[x_,List.map_append,Nat.zero_add]
 rw[e1,x8,Jj,Jk]
 ·unfold dY
  rw[List.length_map,oA];simp
 ·intro x hx
  obtain⟨i,hi,rfl⟩:=List.mem_map.mp hx
  have h:=kP _ _ _ _ hi
  rw[List.length_take,List.length_drop] at h
  omega
 ·intro x hx
  obtain⟨i,hi,rfl⟩:=List.mem_map.mp hx
  have h:=kP _ _ _ _ hi
  rw[List.length_take] at h
  omega
theorem Jm(c:Nat): ∀(l:List Nat) (k i:Nat) (done rest:List Nat),pos c l k=done++i::rest→pos c (l.drop (i+1 - k)) (i+1)=rest
 | [],k,i,done,rest,h=>by
  simp[pos] at h
 | d::r,k,i,done,rest,h=>by
  have hi:=kP c (d::r) k i (by rw[h];simp)
  simp only[pos] at h
  have go: ∀dn,pos c r (k+1)=dn++i::rest→pos c ((d::r).drop (i+1 - k)) (i+1)=rest:=fun dn hd=>by
   have h2:=kP c r (k+1) i (by rw[hd];simp)
   have ih:=Jm c r (k+1) i dn rest hd
   rw[show i+1 - k=(i+1 - (k+1))+1 by omega,List.drop_succ_cons]
   exact ih
  split at h
  ·cases done with
   | nil=>
    simp only[List.nil_append,List.cons.injEq] at h
    obtain⟨rfl,h⟩:=h
    rw[show k+1 - k=1 by omega,List.drop_succ_cons,List.drop_zero]
    exact h
   | cons e dn=>
    simp only[List.cons_append,List.cons.injEq] at h
    exact go dn h.2
  ·exact go done h
theorem Jo(c:Nat): ∀(l:List Nat) (k j:Nat),pos c l (k+j)=(pos c l j).map (k+ ·)
 | [],k,j=>rfl
 | d::r,k,j=>by
  have ih:=Jo c r k (j+1)
  rw[←Nat.add_assoc] at ih
  simp only[pos]
  split
  ·rw[ih];rfl
  ·exact ih
theorem aal(c:Nat)(a b:List Nat):dY c (a++b)=dY c a++ ((pos c b 0).map fun(i:Nat)=> ((a.length:Nat):Int)+ (i:Int)):=by
 unfold dY
 rw[x_,List.map_append,Nat.zero_add]
 congr 1
 have:=Jo c b a.length 0
 rw[Nat.add_zero] at this
 rw[this,List.map_map]
 apply List.map_congr_left
 intro i _
 show((a.length+i:Nat):Int)=_
 omega
theorem q_(x y:Str)(hy:y.length=1)(hi lim:Nat): ∀(n lo:Nat) (acc:Array Nat) (free:Nat),free≤lo→
  ((forIn (List.range' lo n) (acc,free) (occBody x y hi lim)).run.fst.toList=acc.toList++ ((List.range' lo n).filter fun i=>decide (i+1≤hi) && Builtin.Str.subAt x y i).take (lim - acc.size))
 | 0,lo,acc,free,hf=>by simp
 | n+1,lo,acc,free,hf=>by
  rw[List.range'_succ,List.forIn_cons]
  unfold occBody
  rw[hy]
  by_cases hp:lo+1≤hi∧Builtin.Str.subAt x y lo=true
  ·have e:(decide (lo+1≤hi) && Builtin.Str.subAt x y lo)=true:=by simp[hp.1,hp.2]
   by_cases hs:acc.size<lim
   ·rw[if_pos ⟨⟨⟨hs,hf⟩,hp.1⟩,hp.2⟩]
    have ih:=q_ x y hy hi lim n (lo+1) (acc.push lo) (lo+1) (Nat.le_refl _)
    unfold occBody at ih
    rw[hy] at ih
    refine Eq.trans ih ?_
    rw[List.filter_cons_of_pos (by exact e)]
    have e2:lim - acc.size=(lim - (acc.push lo).size)+1:=by rw[Array.size_push];omega
    rw[e2,List.take_succ_cons]
    simp
   ·rw[if_neg (fun z=>hs z.1.1.1)]
    have ih:=q_ x y hy hi lim n (lo+1) acc free (by omega)
    unfold occBody at ih
    rw[hy] at ih
    refine Eq.trans ih ?_
    have e2:lim - acc.size=0:=by omega
    rw[e2];simp
  ·rw[if_neg (fun z=>hp ⟨z.1.2,z.2⟩)]
   have e: ¬(decide (lo+1≤hi) && Builtin.Str.subAt x y lo)=true:=by
    intro z
    simp only[Bool.and_eq_true,decide_eq_true_eq] at z
    exact hp z
   have ih:=q_ x y hy hi lim n (lo+1) acc free (by omega)
   unfold occBody at ih
   rw[hy] at ih
   refine Eq.trans ih ?_
   rw[List.filter_cons_of_neg (by exact e)]
theorem aam(x:Str)(c i:Nat):Builtin.Str.subAt x ⟨#[c]⟩ i=decide (x.cps[i]?=some c):=by
 unfold Builtin.Str.subAt
 have e:(⟨#[c]⟩:Str).length=1:=rfl
 rw[e,show(⟨#[c]⟩:Str).cps= #[c] from rfl]
 by_cases h:i<x.cps.size
 ·have e2:x.cps.extract i (i+1)= #[x.cps[i]]:=by
   apply Array.ext
   ·simp;omega
   ·intro j h1 h2
    simp at h1 h2⊢
    have:j=0:=by omega
    subst this;rfl
  rw[e2,Array.getElem?_eq_getElem h]
  by_cases q:x.cps[i]=c
  ·subst q;simp
  ·have: ¬(#[x.cps[i]]= #[c]):=fun z=>q (by injection z with z;injection z)
   simp[q]
 ·have e2:x.cps.extract i (i+1)= #[]:=by
   apply Array.eq_empty_of_size_eq_zero
   simp;omega
  rw[e2,Array.getElem?_eq_none (by omega)]
  simp
theorem Jp(c:Nat): ∀(l:List Nat) (k:Nat) (p:Nat→Bool),(∀i,i<l.length→p (k+i)=decide (l[i]?=some c))→(List.range' k l.length).filter p=pos c l k
 | [],k,p,h=>rfl
 | d::r,k,p,h=>by
  rw[List.length_cons,List.range'_succ]
  have h0:p k=decide (d=c):=by
   have:=h 0 (Nat.zero_lt_succ _)
   simpa using this
  have ih:=Jp c r (k+1) p fun i hi=>by
   have:=h (i+1) (Nat.succ_lt_succ hi)
   rw[show k+1+i=k+ (i+1) by omega,this];simp
  by_cases e:d=c
  ·rw[List.filter_cons_of_pos (by rw[h0];simpa using e),ih,pos,if_pos e]
  ·rw[List.filter_cons_of_neg (by rw[h0];simpa using e),ih,pos,if_neg e]
theorem Jq(x:Str)(c lo lim:Nat)(hl:lo≤x.length):Builtin.Str.occurrences x ⟨#[c]⟩ lo x.length lim=(pos c (x.cps.toList.drop lo) lo).take lim:=by
 have hx:x.cps.toList.length=x.length:=by simp[Str.length]
 rw[occ_eq,q_ x _ rfl x.length lim _ lo #[] lo (Nat.le_refl _)]
 simp only[List.nil_append,Array.size_empty,Nat.sub_zero]
 congr 1
 have e:x.length+1 - lo=(x.cps.toList.drop lo).length+1:=by rw[List.length_drop,hx];omega
 rw[e,List.range'_concat,List.filter_append]
 rw[Jp c (x.cps.toList.drop lo) lo]
 ·have: ¬(lo+1* (x.cps.toList.drop lo).length+1≤x.length):=by rw[List.length_drop,hx];omega
  rw[List.filter_cons_of_neg (by rw[decide_eq_false this];simp)]
  simp
 ·intro i hi
  rw[aam]
  rw[List.length_drop,hx] at hi
  rw[decide_eq_true (show lo+i+1≤x.length by omega),Bool.true_and,List.getElem?_drop,Array.getElem?_toList]
end L2.B
namespace L2.B
open PySem PySem.Spec PyProof.Rows
def iK(H H':Hp):Prop:= ∀b xs,H b=some (.tup xs)→H' b=some (.tup xs)
theorem bj{H H':Hp}(h:aI H H'):iK H H':=fun b xs e=>h b _ e
theorem sameNew{H:Hp}{p:Addr}{o:HO}(h:H p=none):aI H (upd H p o):=fun b u e=>by rw[aK (bW e h)];exact e
def b7(c:Addr)(H H':Hp):Prop:= ∀b o,H b=some o→b≠c→H' b=some o
theorem b7.upd{H:Hp}{c:Addr}{o:HO}:b7 c H (upd H c o):=fun b u e n=>by rw[aK n];exact e
theorem b7.trans{c:Addr}{H H1 H2:Hp}(a:b7 c H H1)(b:b7 c H1 H2):b7 c H H2:=fun d o e n=>b d o (a d o e n) n
theorem gT{c:Addr}{H H1 H2:Hp}(a:aI H H1)(hc:H c=none)(b:b7 c H1 H2):aI H H2:=fun d o e=>b d o (a d o e) (bW e hc)
theorem b7.b6{c:Addr}{H H':Hp}{xs:List V}(h:b7 c H H')(hc:H c=some (.lst xs)):iK H H':=fun b ys e=>h b _ e (fun z=>by rw[z,hc] at e;cases e)
theorem iF{c:Bool}{A B:Prop}(q:B)(h:c=false:=by first | rfl | decide):if c=true then A else B:=by
 rw[h];exact fK q
theorem iT{c:Bool}{A B:Prop}(q:A)(h:c=true:=by first | rfl | decide):if c=true then A else B:=by
 rw[h];exact du q
inductive Pt where | keep (n:Int) | put (s:Str) | cut (s:Str)
 deriving DecidableEq
def Pt.word:Pt→Str | .keep _=> "keep" | .put _=> "put" | .cut _=> "cut"
def Pt.val:Pt→V | .keep n=> .int n | .put s=> .str s | .cut s=> .str s
def gU(H:Hp)(v:V)(p:Pt):Prop:= ∃a,v= .ref a∧H a=some (.tup [.str p.word,p.val])
abbrev bL(H:Hp):List V→List Pt→Prop:=Paired (gU H)
theorem gU.mono{H H':Hp}{v:V}{p:Pt}(t:iK H H')(h:gU H v p):gU H' v p:=by
 obtain⟨a,e,h⟩:=h
 exact⟨a,e,t _ _ h⟩
theorem bL.mono{H H':Hp}(t:iK H H'): ∀{vs:List V} {ps:List Pt},bL H vs ps→bL H' vs ps
 | _,_, .nil=> .nil
 | _,_, .cons h r=> .cons (h.mono t) (bL.mono t r)
theorem bL.get{H:Hp}: ∀{vs:List V} {ps:List Pt} {i:Nat} {v:V},bL H vs ps→vs[i]?=some v→ ∃p,ps[i]?=some p∧gU H v p
 | _,_,i,v, .nil,e=>by simp at e
 | _,_,0,v, .cons h r,e=>by simp at e;subst e;exact⟨_,rfl,h⟩
 | _,_,i+1,v, .cons h r,e=>by
  obtain⟨p,a,b⟩:=bL.get (i:=i) r (by simpa using e)
  exact⟨p,by simpa using a,b⟩
def rf:Sp:=fun vs H Q E=> ∃i,vs=[.int i]∧Q (.bl true) H
def dM(w a:Str):Bool:=w !=a && !(a=="cut" && w=="put")
def rg:Sp:=fun vs H Q E=> ∃w a,vs=[.str w, .str a]∧Q (.bl (dM w a)) H
theorem aan{K:PySem.W.Frag}(vs:List V)(H:Hp)(Q:VK)(E:XK)(h:rg vs H Q E):ar (aS K [] [] (E:=E)) v7 {nx:=fun _ H'=>Q .av H',rt:=Q} (start vZ vs) H:=by
 obtain⟨w,a,rfl,q⟩:=h
 refine⟨_,rfl,_,rfl,_,rfl, ?_⟩
 unfold dM at q
 refine dv (fun h=> ?_) (fun h=> ?_)
 ·rw[Bool.true_xor,eY] at h
  have e:(w !=a)=true:=h
  rw[e] at q
  refine⟨_,rfl,_,rfl, ?_⟩
  refine dv (fun h2=> ?_) (fun h2=> ?_)
  ·rw[Bool.false_xor,eY] at h2
   rw[h2] at q
   refine⟨_,rfl, ?_⟩
   show Q (.bl (!(false ^^ decide (V.str w=V.str "put")))) H
   rw[Bool.false_xor,eY]
   exact q
  ·rw[Bool.false_xor,eY] at h2
   have e2:(a=="cut")=false:=by simpa using h2
   rw[e2] at q
   exact q
 ·rw[Bool.true_xor,eY] at h
  have e:(w !=a)=false:=by simpa using h
  rw[e] at q
  exact q
def oB:Pt→Int | .keep n=>n | .put s=>s.length | .cut s=>s.length
def yb:Pt→Prop | .keep _=>True | .put s=>s.length≤1000000 | .cut s=>s.length≤1000000
theorem bV{n:Nat}(h:n≤1000000):n≤sizeLine:=Nat.le_trans h (by decide)
theorem gc{n:Nat}(h:n≤1000000):n<sizeLine:=Nat.lt_of_le_of_lt h (by decide)
def eM:Sp:=fun vs H Q E=> ∃v p,vs=[v]∧gU H v p∧yb p∧Q (.int (oB p)) H
theorem aao{K:PySem.W.Frag}(vs:List V)(H:Hp)(Q:VK)(E:XK)(h:eM vs H Q E):ar (aS K [] [] (E:=E)) wa {nx:=fun _ H'=>Q .av H',rt:=Q} (start v_ vs) H:=by
 obtain⟨v,p,rfl,⟨a,rfl,ha⟩,ho,q⟩:=h
 refine⟨_,rfl, .inr (.inl ⟨_,_,_,_,rfl,rfl,aX.of ha,rfl,_,rfl, ?_⟩)⟩
 rw[Bool.false_xor,eY]
 cases p with
 | keep n=>exact du ⟨_,rfl, .inr (.inl ⟨_,_,_,_,rfl,rfl,aX.of ha,rfl,q⟩)⟩
 | put s=>exact fK ⟨_,rfl, .inr (.inl ⟨_,_,_,_,rfl,rfl,aX.of ha,rfl,bV ho,q⟩)⟩
 | cut s=>exact fK ⟨_,rfl, .inr (.inl ⟨_,_,_,_,rfl,rfl,aX.of ha,rfl,bV ho,q⟩)⟩
def cell(ns:List Int)(k:Nat):Int:=ns.getD k 0
def oC(K:PySem.W.Frag):Sp:=fun vs H Q E=> ∃(a:Addr) (ns:List Int) (k:Int),vs=[.ref a, .int k]∧aC K H a (ns.map V.int)∧0≤k∧Q (.int (cell ns k.toNat)) H
theorem aap{K:PySem.W.Frag}(vs:List V)(H:Hp)(Q:VK)(E:XK)(h:oC K vs H Q E):ar (aS K [] [] (E:=E)) wg {nx:=fun _ H'=>Q .av H',rt:=Q} (start we vs) H:=by
 obtain⟨a,ns,k,rfl,ha,hk,q⟩:=h
 refine⟨_,rfl,_,rfl, .inl ⟨_,ha,trivial,_,rfl, ?_⟩⟩
 rw[List.length_map]
 refine dv (fun h=> ?_) (fun h=> ?_)
 ·have bc:k< (ns.length:Int):=of_decide_eq_true h
  refine⟨_,rfl,_,rfl, .inl ⟨_,_,_,_,rfl,rfl,ha, ?_,q⟩⟩
  have e:=l_ (xs:=ns.map V.int) (j:=k.toNat) (v:= .int (cell ns k.toNat)) (by
   have:k.toNat<ns.length:=by omega
   simp[cell,this])
  rw[show((k.toNat:Nat):Int)=k by omega] at e
  exact e
 ·have kQ: ¬k< (ns.length:Int):=fun z=>h (decide_eq_true z)
  have e:cell ns k.toNat=0:=by
   have z:ns[k.toNat]?=none:=List.getElem?_eq_none_iff.mpr (by omega)
   unfold cell
   rw[List.getD_eq_getElem?_getD,z];rfl
  rw[e] at q
  exact q
def SG:Str:=" !\"#$&'()*+,-./0123456789:;<=>?@ABCDEFGHIJKLMNOPQRSTUVWXYZ[\\]^_`abcdefghijklmnopqrstuvwxyz{|}~\n"
def good(x:Str):Prop:=x.length≤1000000∧ ∀c∈x.cps.toList,SG.cps.contains c=true
theorem takeWhile_all{α:Type}(p:α→Bool): ∀l:List α,(∀c∈l,p c=true)→l.takeWhile p=l
 | [],_=>rfl
 | c::l,h=>by rw[List.takeWhile_cons,h c List.mem_cons_self,takeWhile_all p l fun d hd=>h d (List.mem_cons_of_mem _ hd)];rfl
theorem aaq(x y:Str)(h: ∀c∈x.cps.toList,y.cps.contains c=true):Txt.lstripChars x y="":=by
 have e0:stripLo y.cps.contains true x=x.length:=by
  unfold stripLo
  rw[if_pos rfl,takeWhile_all _ _ h]
  simp[Str.length]
 have e1:stripHi y.cps.contains false x x.length=x.length:=rfl
 unfold Txt.lstripChars Txt.stripBy stripSame stripped
 rw[e0,e1]
 split
 ·rename_i hq
  simp only[Bool.and_eq_true,beq_iff_eq] at hq
  have:x.cps= #[]:=Array.eq_empty_of_size_eq_zero hq.1
  obtain⟨c⟩:=x
  have e:c= #[]:=this
  subst e
  rfl
 ·show(⟨x.cps.extract x.length x.length⟩:Str)=_
  have:x.cps.extract x.length x.length= #[]:=by simp[Str.length]
  rw[this];rfl
theorem Jr{H:Hp}{a:Addr}{xs:List V}{T:Ty}{k:Bool→Prop}(h:H a=some (.tup xs))(q:k (T== .tuple)):bG T (.ref a) H k:=by
 show(match H a with | some (.lst _)=>k (T== .list) | some (.bM _ (.lst _))=>k (T== .list) | some (.tup _)=>k (T== .tuple) | some (.dK _)=>k (T== .dict) | some (.dT _)=>k (T== .dict) | _=>False)
 rw[h];exact q
theorem Js{H:Hp}{a:Addr}{xs:List V}{T:Ty}{k:Bool→Prop}(h:H a=some (.lst xs))(q:k (T== .list)):bG T (.ref a) H k:=by
 show(match H a with | some (.lst _)=>k (T== .list) | some (.bM _ (.lst _))=>k (T== .list) | some (.tup _)=>k (T== .tuple) | some (.dK _)=>k (T== .dict) | some (.dT _)=>k (T== .dict) | _=>False)
 rw[h];exact q
abbrev gS:List (Str×V):=[("SIGNS", .str SG)]
def aar:Sp:=fun vs H Q E=> ∃x,vs=[.str x]∧good x∧Q (.bl true) H
theorem aas{K:PySem.W.Frag}(vs:List V)(H:Hp)(Q:VK)(E:XK)(h:aar vs H Q E):ar (aS K [] gS (E:=E)) qT {nx:=fun _ H'=>Q .av H',rt:=Q} (start qS vs) H:=by
 obtain⟨x,rfl,hx,q⟩:=h
 refine⟨_,rfl,rfl,_,rfl,du ⟨_,rfl,rfl,bV hx.1, ?_⟩⟩
 show Q (.bl (false ^^ decide (V.str (Txt.lstripChars x SG)=V.str ""))) H
 rw[aaq x SG hx.2,decide_eq_true rfl]
 exact q
def dC:Pt→Prop | .keep n=>1≤n | .put s=>good s∧s≠"" | .cut s=>good s∧s≠""
def aat(K:PySem.W.Frag):Sp:=fun vs H Q E=> ∃w p xs,vs=[.str w, .ref p]∧aX K H p xs∧xs.all cR=true∧Q (.bl (dg (.str w) xs)) H
theorem aau{K:PySem.W.Frag}(vs:List V)(H:Hp)(Q:VK)(E:XK)(h:aat K vs H Q E):ar (aS K [] [] (E:=E)) qR {nx:=fun _ H'=>Q .av H',rt:=Q} (start qQ vs) H:=by
 obtain⟨w,p,xs,rfl,hp,hf,q⟩:=h
 exact⟨_,rfl,rfl,_,rfl,du ⟨_,rfl,_,rfl,p,xs,rfl,(.inr hp),rfl,hf,q⟩⟩
def yc:Sp:=fun vs H Q E=> ∃v p,vs=[v]∧gU H v p∧dC p∧ ∀H',aI H H'→Q (.bl true) H'
def chainOk:Str→List Pt→Bool
 | _,[]=>true
 | a,p::r=>dM p.word a && chainOk p.word r
def kR(a:Str)(ps:List Pt):Nat→Str
 | 0=>a
 | i+1=>match ps[i]? with | some p=>p.word | none=> ""
theorem Jt: ∀(ps:List Pt) (a:Str) (i:Nat) (p:Pt),chainOk a ps=true→ps[i]?=some p→dM p.word (kR a ps i)=true
 | [],_,_,_,_,h=>by simp at h
 | q::r,a,0,p,h,e=>by
  simp only[chainOk,Bool.and_eq_true] at h
  simp at e;subst e;exact h.1
 | q::r,a,i+1,p,h,e=>by
  simp only[chainOk,Bool.and_eq_true] at h
  have e':r[i]?=some p:=by simpa using e
  have ih:=Jt r q.word i p h.2 e'
  cases i with
  | zero=>simpa[kR] using ih
  | succ i=>simpa[kR] using ih
abbrev aav:List (Str×Sp):=[("is_part",yc),("may_follow",rg)]
def rj:Sp:=fun vs H Q E=> ∃a xs ps,vs=[.ref a]∧H a=some (.lst xs)∧bL H xs ps∧(∀p∈ps,dC p)∧chainOk "" ps=true∧ ∀H',aI H H'→Q .av H'
theorem aaw{K:PySem.W.Frag}{et:List (Str×Addr)}(vs:List V)(H:Hp)(Q:VK)(E:XK)(h:rj vs H Q E):ar (aS K aav [] (et:=et) (E:=E)) v9 {nx:=fun _ H'=>Q .av H',rt:=Q} (start v8 vs) H:=by
 obtain⟨a,xs,ps,rfl,ha,cH,aG,de,q⟩:=h
 refine⟨_,rfl,rfl,Js ha ⟨_,rfl,a,rfl,⟨_,aC.of ha⟩,nq (K:=K) (a:=a) (xs:=xs) (fun i σ H2=> ∃v,σ=[some (.ref a),some (.str (kR "" ps i)),v]∧aI H H2) ⟨none,rfl,aI.refl _⟩
  (fun i σ H2 _ ⟨_,_,s2⟩=>aC.of (s2 _ _ ha)) ?_ ?_⟩⟩
 ·rintro i x σ H2 hi ⟨v,rfl,s2⟩
  obtain⟨p,hp,gW⟩:=cH.get hi
  obtain⟨b,rfl,hb⟩:=gW.mono (bj s2)
  refine⟨_,rfl,_,p,rfl,⟨b,rfl,hb⟩,aG p (List.mem_of_getElem? hp),fun H3 s3=> ?_⟩
  refine⟨_,rfl, .inr (.inl ⟨_,_,_,_,rfl,rfl,aX.of (s3 _ _ hb),rfl,_,rfl,p.word,_,rfl, ?_⟩)⟩
  have e:=Jt ps "" i p de hp
  show(fun c H1=>if (!c)=true then _ else _) (dM p.word (kR "" ps i)) H3
  rw[e]
  refine⟨_,rfl, .inr (.inl ⟨_,_,_,_,rfl,rfl,aX.of (s3 _ _ hb),rfl,some (.ref b), ?_,s2.trans s3⟩)⟩
  show[some (V.ref a),some (V.str p.word),some (V.ref b)]=_
  have e2:kR "" ps (i+1)=p.word:=by simp only[kR,hp]
  rw[e2]
 ·rintro σ H2 ⟨v,rfl,s2⟩
  exact q H2 s2
def overOf(ps:List Pt):List Int:=(ps.filter fun p=>decide (p.word≠ ("put":Str))).map oB
def aax(ps:List Pt):List Int:=(ps.filter fun p=>decide (p.word≠ ("cut":Str))).map oB
abbrev Ju:List (Str×Sp):=[("need_change",rj),("part_size",eM)]
def oE:Sp:=fun vs H Q E=> ∃a xs ps,vs=[.ref a]∧H a=some (.lst xs)∧bL H xs ps∧(∀p∈ps,dC p)∧chainOk "" ps=true∧ps.length≤1000000∧
 ∀t H',aI H H'→H' t=some (.tup [.int (overOf ps).sum, .int (aax ps).sum])→Q (.ref t) H'
theorem Jv{p:Pt}(h:dC p):yb p:=by
 cases p with
 | keep n=>trivial
 | put s=>exact h.1.1
 | cut s=>exact h.1.1
theorem aay{α:Type}(p:α→Bool)(l:List α)(i:Nat)(v:α)(h:l[i]?=some v):(l.take (i+1)).filter p=(l.take i).filter p++ (if p v then [v] else []):=by
 rw[List.take_add_one,h,List.filter_append]
 cases hp:p v<;>simp[hp]
theorem aaz{K:PySem.W.Frag}(vs:List V)(H:Hp)(Q:VK)(E:XK)(h:oE vs H Q E):ar (aS K Ju [] (E:=E)) wc {nx:=fun _ H'=>Q .av H',rt:=Q} (start wb vs) H:=by
 obtain⟨a,xs,ps,rfl,ha,cH,aG,de,hlen,q⟩:=h
 refine⟨_,rfl,a,xs,ps,rfl,ha,cH,aG,de,fun H1 s1=> ?_⟩
 have hl:=Paired.length cH
 have comp: ∀(w:Str) (H1:Hp) (Q1:VK) (σ:St),aI H H1→σ[0]?=some (some (.ref a))→
   (∀b H2,aI H H2→H2 b=some (.lst (((ps.filter fun p=>decide (p.word≠w)).map oB).map V.int))→Q1 (.ref b) H2)→
   ag (aS K Ju [] (E:=E)) (.comp none [] .list [(.v 0)] (some (.cmp .NotEq (.ix (.v 0) (.c (.int 0))) (.c (.str w)))) (.call 1 [(.v 0)])) σ H1 Q1:=by
  intro w H1 Q1 σ s1 hσ hq
  refine⟨_,hσ,a,rfl,⟨_,aC.of (s1 _ _ ha)⟩,fun i m ys H2=>m=xs.length - i∧i≤xs.length∧aI H H2∧ys=(((ps.take i).filter fun p=>decide (p.word≠w)).map oB).map V.int,⟨_,rfl,Nat.zero_le _,s1,rfl⟩, ?_⟩
  rintro i m ys H2 ⟨rfl,hi,s2,rfl⟩
  by_cases bc:i<xs.length
  ·refine .inr ⟨⟨xs,xs[i],aC.of (s2 _ _ ha),by simp[bc]⟩, ?_⟩
   rintro x H3 ⟨rfl,hx⟩
   have jk:=hx xs (aC.of (s2 _ _ ha))
   obtain⟨p,hp,gW⟩:=cH.get jk
   obtain⟨b,rfl,hb⟩:=gW.mono (bj s2)
   refine⟨_,rfl, .inr (.inl ⟨_,_,_,_,rfl,rfl,aX.of hb,rfl,_,rfl, ?_⟩)⟩
   rw[Bool.true_xor,eY]
   have tf:=aay (fun p=>decide (p.word≠w)) ps i p hp
   have hc:((ps.take i).filter fun p=>decide (p.word≠w)).length≤1000000:=Nat.le_trans (List.length_filter_le _ _) (Nat.le_trans (List.length_take_le _ _) (by omega))
   refine dv (fun h=> ?_) (fun h=> ?_)
   ·have e:decide (p.word≠w)=true:=by simpa using h
    refine⟨_,rfl,_,p,rfl,⟨b,rfl,hb⟩,Jv (aG p (List.mem_of_getElem? hp)), ?_,xs.length - (i+1),by omega,rfl,bc,s2, ?_⟩
    ·rw[List.length_map,List.length_map];exact gc hc
    ·rw[tf,e];simp
   ·have e:decide (p.word≠w)=false:=by simpa using h
    refine⟨xs.length - (i+1),by omega,rfl,bc,s2, ?_⟩
    rw[tf,e];simp
  ·have kS:i=xs.length:=by omega
   subst kS
   refine .inl ⟨⟨xs,aC.of (s2 _ _ ha),Nat.le_refl _⟩,fun p hp=> ?_⟩
   have e:ps.take xs.length=ps:=List.take_of_length_le (by omega)
   rw[e]
   exact hq p _ (s2.trans (sameNew hp)) aN
 refine G0 (G1 (G3 (comp "put" H1 _ _ s1 rfl fun b1 H2 s2 e2=> ⟨_,aC.of e2, ?_⟩)))
 refine G0 (G1 (G3 (comp "cut" H2 _ _ s2 rfl fun b2 H3 s3 e3=> ⟨_,aC.of e3, ?_⟩)))
 refine⟨_,rfl,_,rfl,(by show 2≤sizeLine;decide),fun t ht=> ?_⟩
 exact q t _ (s3.trans (sameNew ht)) aN
def cat(ts:List Str):Str:=Txt.join "" ts
def sz(ts:List Str):Nat:=(ts.map Str.length).sum
theorem mG(ts:List Str):(cat ts).cps.toList=(ts.map fun t=>t.cps.toList).flatten:=by
 have e:(Str.ofString "").cps= #[]:=rfl
 cases ts with
 | nil=>rfl
 | cons t r=>
  show(r.foldl (fun acc p=>acc++ (Str.ofString "").cps++p.cps) t.cps).toList=_
  rw[e]
  have go: ∀(r:List Str) (acc:Array Nat),(r.foldl (fun acc p=>acc++ #[]++p.cps) acc).toList=acc.toList++ (r.map fun t=>t.cps.toList).flatten:=by
   intro r
   induction r with
   | nil=>intro acc;simp
   | cons q r ih=>
    intro acc
    show(r.foldl (fun acc p=>acc++ #[]++p.cps) (acc++ #[]++q.cps)).toList=_
    rw[ih];simp
  rw[go];simp
theorem gd{x y:Str}(h:x.cps.toList=y.cps.toList):x=y:=by
 obtain⟨x⟩:=x
 obtain⟨y⟩:=y
 exact congrArg Str.mk (Array.toList_inj.mp h)
theorem app_list(x y:Str):(x++y).cps.toList=x.cps.toList++y.cps.toList:=by
 show(x.cps++y.cps).toList=_
 simp
theorem aaA(a b:List Str):cat (a++b)=cat a++cat b:=gd (by rw[app_list,mG,mG,mG];simp)
theorem aaB(x:Str):cat [x]=x:=gd (by rw[mG];simp)
theorem aaC:cat []="":=rfl
theorem len_list(x:Str):x.length=x.cps.toList.length:=by simp[Str.length]
theorem Jw(ts:List Str):(cat ts).length=sz ts:=by
 rw[len_list,mG,List.length_flatten]
 unfold sz
 rw[List.map_map]
 congr 1
theorem joinOk_of{ts:List Str}(h:sz ts≤1000000):JoinOk "" ts=true:=by
 have go: ∀(l:List Str) (n:Nat),l.foldl (· + ·.length+ (Str.ofString "").length) n=n+sz l:=by
  intro l
  induction l with
  | nil=>intro n;rfl
  | cons t r ih=>
   intro n
   show r.foldl _ (n+t.length+0)=_
   rw[ih]
   show n+t.length+0+sz r=n+ (t.length+sz r)
   omega
 unfold JoinOk
 have e:ts.toArray.foldl (· + ·.length+ (Str.ofString "").length) 0=sz ts:=by
  rw[List.foldl_toArray,go,Nat.zero_add]
 rw[e]
 show(!decide (sz ts>sizeLine))=true
 rw[decide_eq_false (by have:=bV h;omega)]
 rfl
def txt(mk:Str→Pt)(x:Str):List Pt:=if x="" then [] else [mk x]
def eN(ch:List Pt)(n:Int):List Pt:=match ch.getLast? with
 | some (.keep m)=>ch.dropLast++ [.keep (n+m)]
 | _=>ch++ [.keep n]
theorem aaD(ch:List Pt)(n:Int):(eN ch n).length≤ch.length+1:=by
 unfold eN
 split
 ·simp only[List.length_append,List.length_dropLast,List.length_singleton];omega
 ·simp
def A1:Str:=" !\"#$&'()*+,-./0123456789:;<=>?@ABCDEFGHIJKLMNOPQRSTUVWXYZ[\\]^_`"
def rk(al:Str):Prop:=0<al.length∧al.length≤1000∧ ∀c∈al.cps.toList,SG.cps.contains c=true
theorem Jx{al:Str}(h:(decide (0<al.length) && decide (al.length≤1000) && al.cps.toList.all fun c=>SG.cps.contains c)=true):rk al:=by
 simp only[Bool.and_eq_true,decide_eq_true_eq,List.all_eq_true] at h
 exact⟨h.1.1,h.1.2,h.2⟩
def rm(t:Str):Prop:=t.length=1∧ ∀c∈t.cps.toList,SG.cps.contains c=true
abbrev Dn(Q:VK):Ends:={nx:=fun _ H'=>Q .av H',rt:=Q}
theorem Jy(x y:Str):(x++y).length=x.length+y.length:=by rw[len_list,app_list,List.length_append,←len_list,←len_list]
def aaE:Pt→Bool | .keep _=>true | _=>false
theorem rn{ch:List Pt}{n:Int}(h: ∀p,ch.getLast?=some p→aaE p=false):eN ch n=ch++ [.keep n]:=by
 unfold eN
 split
 ·rename_i m e
  have:=h _ e
  cases this
 ·rfl
theorem yd(ch:List Pt)(m n:Int):eN (ch++ [.keep m]) n=ch++ [.keep (n+m)]:=by
 unfold eN
 rw[List.getLast?_append]
 simp
theorem txt_nil(mk:Str→Pt):txt mk ""=[]:=if_pos rfl
theorem cx{mk:Str→Pt}{x:Str}(h:x≠""):txt mk x=[mk x]:=if_neg h
def sg(x:Str):Prop:= ∀c∈x.cps.toList,SG.cps.contains c=true
theorem Jz{x y:Str}(a:sg x)(b:sg y):sg (x++y):=fun c hc=>by
 rw[app_list] at hc
 rcases List.mem_append.mp hc with z | z
 ·exact a c z
 ·exact b c z
theorem rp:sg (Str.ofString ""):=fun c hc=>by cases hc
def aaF:Pt→PyData | .keep n=> .int n | .put s=> .str s | .cut s=> .str s
def toD(p:Pt):PyData:= .tuple [.str p.word,aaF p]
def dD:Pt→Prop | .keep _=>True | .put s=>sg s | .cut s=>sg s
theorem ye{x:Str}(h:sg x):PyData.strOk x=true:=by
 have small: ∀c,SG.cps.contains c=true→c<0x110000:=by
  have all:SG.cps.toList.all (fun c=>decide (c<0x110000))=true:=by decide+kernel
  intro c hc
  have hm:c∈SG.cps.toList:=by simpa using hc
  exact of_decide_eq_true (List.all_eq_true.mp all c hm)
 unfold PyData.strOk
 rw[Array.all_eq_true']
 intro c hc
 exact decide_eq_true (small c (h c (by simpa using hc)))
theorem toD_ok{p:Pt}(h:dD p):(toD p).canLay0=true∧(toD p).depth=1:=by
 cases p with
 | keep n=>exact⟨(by show(PyData.strOk (Str.ofString "keep") && (true && true))=true;decide+kernel),rfl⟩
 | put s=>
  refine⟨?_,rfl⟩
  show(PyData.strOk (Str.ofString "put") && (PyData.strOk s && true))=true
  rw[ye h];decide+kernel
 | cut s=>
  refine⟨?_,rfl⟩
  show(PyData.strOk (Str.ofString "cut") && (PyData.strOk s && true))=true
  rw[ye h];decide+kernel
theorem JA: ∀(ps:List Pt),(∀p∈ps,dD p)→PyData.canLayAll0 (ps.map toD)=true∧PyData.depthAll (ps.map toD)≤1
 | [],_=> ⟨rfl,Nat.zero_le _⟩
 | p::r,h=>by
  obtain⟨a,b⟩:=toD_ok (h p List.mem_cons_self)
  obtain⟨c,d⟩:=JA r fun q hq=>h q (List.mem_cons_of_mem _ hq)
  refine⟨?_, ?_⟩
  ·show((toD p).canLay0 && PyData.canLayAll0 (r.map toD))=true
   rw[a,c];rfl
  ·show max (toD p).depth (PyData.depthAll (r.map toD))≤1
   rw[b];omega
theorem rq{ps:List Pt}(h: ∀p∈ps,dD p):SeqAt.shaped (.list (ps.map toD))=true:=by
 obtain⟨c,d⟩:=JA ps h
 unfold SeqAt.shaped
 have e:(PyData.list (ps.map toD)).canLay0=true:=c
 have e2:(PyData.list (ps.map toD)).depth≤64:=by show PyData.depthAll (ps.map toD)+1≤64;omega
 rw[e,decide_eq_true e2];rfl
theorem rA{H:Hp}: ∀{vs:List V} {ps:List Pt},bL H vs ps→IsL H (ps.map toD) vs
 | _,_, .nil=>rfl
 | _,_, .cons (a:=v) (b:=p) ⟨a,e,h⟩ r=>by
  refine⟨v,_,rfl, ?_,rA r⟩
  refine⟨a,_,e,h, .str p.word,[p.val],rfl,rfl,p.val,[],rfl, ?_,rfl⟩
  cases p<;>rfl
def Pt.yf:Pt→Pt | .keep n=> .keep n | .put s=> .cut s | .cut s=> .put s
def JB(ps:List Pt):List Pt:=ps.map Pt.yf
inductive Run:List Nat→List Pt→List Nat→Prop
 | nil:Run [] [] []
 | keep {a l r:List Nat} {n:Int} {ps:List Pt}:n=a.length→Run l ps r→Run (a++l) (.keep n::ps) (a++r)
 | put {s:Str} {l r:List Nat} {ps:List Pt}:Run l ps r→Run l (.put s::ps) (s.cps.toList++r)
 | cut {s:Str} {l r:List Nat} {ps:List Pt}:Run l ps r→Run (s.cps.toList++l) (.cut s::ps) r
theorem Run.yf{l r:List Nat}{ps:List Pt}(h:Run l ps r):Run r (JB ps) l:=by
 induction h with
 | nil=>exact .nil
 | keep e _ ih=>exact .keep e ih
 | put _ ih=>exact .cut ih
 | cut _ ih=>exact .put ih
theorem Run.app{l l' r r':List Nat}{ps qs:List Pt}(h:Run l ps r)(h':Run l' qs r'):Run (l++l') (ps++qs) (r++r'):=by
 induction h with
 | nil=>exact h'
 | keep e _ ih=>rw[List.append_assoc,List.append_assoc];exact .keep e ih
 | put _ ih=>rw[List.append_assoc];exact .put ih
 | cut _ ih=>rw[List.append_assoc];exact .cut ih
theorem Run.over{l r:List Nat}{ps:List Pt}(h:Run l ps r):(overOf ps).sum=l.length:=by
 induction h with
 | nil=>rfl
 | @keep a l r n ps e _ ih=>
  have e2:overOf (.keep n::ps)=n::overOf ps:=rfl
  rw[e2,List.sum_cons,ih,e,List.length_append]
  simp
 | @put s l r ps _ ih=>
  have e2:overOf (.put s::ps)=overOf ps:=rfl
  rw[e2,ih]
 | @cut s l r ps _ ih=>
  have e2:overOf (.cut s::ps)=(s.length:Int)::overOf ps:=rfl
  rw[e2,List.sum_cons,ih,List.length_append,len_list]
  simp
theorem JC{s:Str}:Run [] (txt .put s) s.cps.toList:=by
 by_cases h:s=""
 ·rw[h,txt_nil];exact .nil
 ·rw[cx h]
  have:=Run.put (s:=s) Run.nil
  rwa [List.append_nil] at this
theorem aaG{s:Str}:Run s.cps.toList (txt .cut s) []:=by
 have:=(JC (s:=s)).yf
 have e:JB (txt .put s)=txt .cut s:=by
  unfold txt;split<;>rfl
 rwa [e] at this
def One:Pt→List Nat→List Nat→Prop
 | .keep n,l,q=>l=q∧n=l.length
 | .put s,l,q=>l=[]∧q=s.cps.toList
 | .cut s,l,q=>l=s.cps.toList∧q=[]
theorem aaH{p:Pt}{l q:List Nat}{ps:List Pt}(h:Run l (p::ps) q): ∃l1 l2 q1 q2,l=l1++l2∧q=q1++q2∧Run l2 ps q2∧
  One p l1 q1:=by
 cases h with
 | keep e h=>exact⟨_,_,_,_,rfl,rfl,h,rfl,e⟩
 | put h=>exact⟨[],_,_,_,rfl,rfl,h,rfl,rfl⟩
 | cut h=>exact⟨_,_,[],_,rfl,rfl,h,rfl,rfl⟩
theorem yg{x:Str}{a b c:List Nat}(h:x.cps.toList=a++ (b++c))(n:Int)(hn:n=b.length):fN x (some (a.length:Int)) (some ((a.length:Int)+n))=⟨b.toArray⟩:=by
 have e1:(a.length:Int)+n=((a.length+b.length:Nat):Int):=by rw[hn];simp
 unfold fN gJ
 rw[e1,HT.lZ,HT.lZ,h]
 have l1:(a++ (b++c)).length=a.length+ (b.length+c.length):=by simp
 rw[l1]
 have m1:min a.length (a.length+ (b.length+c.length))=a.length:=by omega
 have m2:min (a.length+b.length) (a.length+ (b.length+c.length))=a.length+b.length:=by omega
 rw[m1,m2,List.drop_left,show a.length+b.length - a.length=b.length by omega,List.take_left]
theorem mH{k:Str}{v:V}{r:List (Str×V)}:((k,v)::r).lookup k=some v:=by simp[List.lookup]
theorem eo{k j:Str}{v:V}{r:List (Str×V)}(h: ¬k=j):((j,v)::r).lookup k=r.lookup k:=by
 have:(k==j)=false:=by simpa using h
 simp[List.lookup,this]
theorem aaI{k:Str}{v w:V}{r:List (Str×V)}:bQ k v ((k,w)::r)=(k,v)::r:=by simp[bQ]
theorem gf{k j:Str}{v w:V}{r:List (Str×V)}(h: ¬j=k):bQ k v ((j,w)::r)=(j,w)::bQ k v r:=by simp[bQ,h]
end L2.B
namespace L2.B
end L2.B
namespace L2.B
end L2.B
namespace L2.B
open PySem PySem.Spec PyProof.Rows
theorem mI{K:PySem.W.Frag}{sd:Addr→List (Key×V)→Prop}{H:Hp}{a:Addr}{xs:List V}{i:Int}{v:V}{Q:VK}(h:H a=some (.lst xs))(e:dJ xs i=some v)(q:Q v H):ij K sd (.ref a) (.int i) H Q:=
 .inl ⟨_,_,_,_,rfl,rfl,aC.of h,e,q⟩
def kT:Sp:=fun vs H Q E=> ∃(a:Addr) (xs:List Int) (most:Int),vs=[.ref a, .int most]∧H a=some (.lst (xs.map V.int))∧mF xs∧Q (.int (cw xs most)) H
theorem aaJ{K:PySem.W.Frag}(vs:List V)(H:Hp)(Q:VK)(E:XK)(h:kT vs H Q E):ar (aS K [] [] (E:=E)) wq {nx:=fun _ H'=>Q .av H',rt:=Q} (start wo vs) H:=by
 obtain⟨a,xs,most,rfl,ha,hr,q⟩:=h
 have hc:=x6 xs most
 refine⟨_,rfl, .inl ⟨_,aC.of ha, ?_⟩⟩
 rw[List.length_map]
 refine⟨fun m σ H'=> ∃(lo hi:Nat) (w:Option V),m=hi - lo∧σ=[some (.ref a),some (.int most),some (.int lo),some (.int hi),w]∧lo≤cw xs most∧cw xs most≤hi∧hi≤xs.length∧H'=H,
  ⟨_,0,xs.length,none,rfl,rfl,Nat.zero_le _,hc,Nat.le_refl _,rfl⟩, ?_⟩
 rintro m σ H' ⟨lo,hi,w,rfl,rfl,h1,h2,h3,rfl⟩
 refine⟨_,rfl,_,rfl,trivial,_,rfl, ?_⟩
 refine dv (fun h=> ?_) (fun h=> ?_)
 ·have bc:(lo:Int) < (hi:Int):=of_decide_eq_true h
  refine⟨_,fun σ' JD q=>q, ?_⟩
  refine⟨_,rfl,_,rfl,⟨by decide,by decide⟩, ?_⟩
  have hk:(lo+hi) / 2<xs.length:=by omega
  generalize hkk:(lo+hi) / 2=k at hk
  have hm:((lo:Int)+ (hi:Int)) / 2=(k:Int):=by omega
  show ar _ _ _ [some (V.ref a),some (V.int most),some (V.int lo),some (V.int hi),some (V.int (((lo:Int)+ (hi:Int)) / 2))] _
  rw[hm]
  have gk:xs[k]?=some xs[k]:=List.getElem?_eq_getElem hk
  have ik:dJ (xs.map V.int) (k:Int)=some (.int xs[k]):=l_ (by rw[List.getElem?_map,gk];rfl)
  refine⟨_,rfl,_,rfl,mI ha ik ⟨_,rfl,trivial,_,rfl, ?_⟩⟩
  refine dv (fun g=> ?_) (fun g=> ?_)
  ·have hle:xs[k]≤most:=of_decide_eq_true g
   exact⟨_,rfl,hi - (k+1),by omega,k+1,hi,some (V.int k),rfl,rfl,x9 hr gk hle,h2,h3,rfl⟩
  ·have hle: ¬xs[k]≤most:=fun z=>g (decide_eq_true z)
   exact⟨_,rfl,k - lo,by omega,lo,k,some (V.int k),rfl,rfl,h1,Jl hr gk hle,by omega,rfl⟩
 ·have hle: ¬(lo:Int) < (hi:Int):=fun z=>h (decide_eq_true z)
  have e:cw xs most=lo:=by omega
  rw[e] at q
  exact⟨_,rfl,q⟩
theorem aaK{T:Ty}{v:V}{H:Hp}{P Q:Bool→Prop}(h:bG T v H P)(i: ∀b,P b→Q b):bG T v H Q:=by
 cases v with
 | ref a=>
  unfold bG at h⊢
  simp only at h⊢
  split at h
  all_goals first | exact i _ h | exact h.elim
 | av=>exact i _ h
 | bl b=>exact i _ h
 | int _=>exact i _ h
 | str _=>exact i _ h
 | _=>exact False.elim h
theorem aaL{T:Ty}{v:V}{H H':Hp}{P:Bool→Prop}(h:bG T v H P)(s:aI H H'):bG T v H' P:=by
 cases v with
 | ref a=>
  unfold bG at h⊢
  simp only at h⊢
  cases e:H a with
  | none=>rw[e] at h;exact h.elim
  | some o=>rw[e] at h;rw[s _ _ e];exact h
 | av=>exact h
 | bl b=>exact h
 | int _=>exact h
 | str _=>exact h
 | _=>exact False.elim h
def eO(T:Ty)(v:V)(H:Hp):Prop:=bG T v H fun b=>b=false
theorem eO.same{T:Ty}{v:V}{H H':Hp}(h:eO T v H)(s:aI H H'):eO T v H':=aaL h s
theorem eO.go{T:Ty}{v:V}{H:Hp}{Q:Bool→Prop}(h:eO T v H)(q:Q false):bG T v H Q:=aaK h fun b e=>by rw[e];exact q
def aaM(x:Str):Bool:=x.cps.toList.all fun c=>SG.cps.contains c
theorem JE{α:Type}(p:α→Bool): ∀l:List α,l.all p=false→(l.takeWhile p).length<l.length
 | [],h=>by cases h
 | c::l,h=>by
  rw[List.takeWhile_cons]
  cases hc:p c with
  | false=>simp
  | true=>
   rw[List.all_cons,hc,Bool.true_and] at h
   have:=JE p l h
   simp;omega
theorem aaN(x y:Str)(h:(x.cps.toList.all fun c=>y.cps.contains c)=false):Txt.lstripChars x y≠"":=by
 have lt:=JE _ _ h
 have e0:stripLo y.cps.contains true x=(x.cps.toList.takeWhile y.cps.contains).length:=by
  unfold stripLo
  rw[if_pos rfl]
 have e1: ∀n,stripHi y.cps.contains false x n=x.length:=fun n=>rfl
 intro z
 have z2:=congrArg Str.length z
 have l0:(Str.ofString "").length=0:=rfl
 rw[l0] at z2
 unfold Txt.lstripChars Txt.stripBy stripSame stripped at z2
 rw[e0,e1] at z2
 have hx:x.cps.size=x.cps.toList.length:=by simp
 split at z2
 ·have:x.cps.size=0:=z2
  omega
 ·have z3:(x.cps.extract (x.cps.toList.takeWhile y.cps.contains).length x.cps.size).size=0:=z2
  rw[Array.size_extract,Nat.min_self] at z3
  have z4:x.cps.size - (List.takeWhile (fun c=>y.cps.contains c) x.cps.toList).length=0:=z3
  omega
def kU(v:V)(H:Hp):Prop:=(∃x,v= .str x∧x.length≤1000000∧aaM x=false)∨eO .str v H
theorem kU.same{v:V}{H H':Hp}(h:kU v H)(s:aI H H'):kU v H':=by
 rcases h with h | h
 ·exact .inl h
 ·exact .inr (h.same s)
def mJ(v:V)(H:Hp):Prop:=(∃b,v= .bl b)∨eO .int v H
theorem mJ.same{v:V}{H H':Hp}(h:mJ v H)(s:aI H H'):mJ v H':=by
 rcases h with h | h
 ·exact .inl h
 ·exact .inr (h.same s)
def kW:Sp:=fun vs H Q E=> ∃v,vs=[v]∧((∃i,v= .int i∧Q (.bl true) H)∨(mJ v H∧Q (.bl false) H))
theorem aaO{K:PySem.W.Frag}(vs:List V)(H:Hp)(Q:VK)(E:XK)(h:kW vs H Q E):ar (aS K [] [] (E:=E)) vW (Dn Q) (start vV vs) H:=by
 obtain⟨v,rfl,⟨i,rfl,q⟩ | ⟨⟨b,rfl⟩ | hn,q⟩⟩:=h
 ·exact⟨_,rfl,rfl,_,rfl,du ⟨_,rfl,rfl,q⟩⟩
 ·exact⟨_,rfl,rfl,_,rfl,du ⟨_,rfl,rfl,q⟩⟩
 ·exact⟨_,rfl,rfl,hn.go ⟨_,rfl,fK q⟩⟩
def mK:Sp:=fun vs H Q E=> ∃v,vs=[v]∧((∃x,v= .str x∧good x∧Q (.bl true) H)∨(kU v H∧Q (.bl false) H))
theorem aaP{K:PySem.W.Frag}(vs:List V)(H:Hp)(Q:VK)(E:XK)(h:mK vs H Q E):ar (aS K [] gS (E:=E)) qT (Dn Q) (start qS vs) H:=by
 obtain⟨v,rfl,⟨x,rfl,hx,q⟩ | ⟨⟨x,rfl,hl,hx⟩ | hn,q⟩⟩:=h
 ·exact aas _ _ _ _ ⟨x,rfl,hx,q⟩
 ·refine⟨_,rfl,rfl,_,rfl,du ⟨_,rfl,rfl,bV hl, ?_⟩⟩
  show Q (.bl (false ^^ decide (V.str (Txt.lstripChars x SG)=V.str ""))) H
  rw[decide_eq_false (fun z=>aaN x SG hx (by injection z))]
  exact q
 ·exact⟨_,rfl,rfl,hn.go ⟨_,rfl,fK q⟩⟩
abbrev aaQ:List (Str×Sp):=[("is_text",mK)]
def kY(C:Addr):Sp:=fun vs H Q E=> ∃v,vs=[v]∧((∃x,v= .str x∧good x∧Q .av H)∨(kU v H∧E (.ref C) none H))
theorem aaR{K:PySem.W.Frag}{C:Addr}(vs:List V)(H:Hp)(Q:VK)(E:XK)(h:kY C vs H Q E):ar (aS K aaQ [] (et:=[("BadText",C)]) (E:=E)) vY (Dn Q) (start vX vs) H:=by
 obtain⟨v,rfl,⟨x,rfl,hx,q⟩ | ⟨hn,q⟩⟩:=h
 ·exact⟨_,rfl,_,rfl, .inl ⟨x,rfl,hx,q⟩⟩
 ·exact⟨_,rfl,_,rfl, .inr ⟨hn,(by show 1≤sizeLine;decide),q⟩⟩
def rB(K:PySem.W.Frag):Sp:=fun vs H Q E=> ∃v p xs,vs=[v, .ref p]∧aX K H p xs∧xs.all cR=true∧((∃w,v= .str w∧Q (.bl (dg (.str w) xs)) H)∨(eO .str v H∧Q (.bl false) H))
theorem aaS{K:PySem.W.Frag}(vs:List V)(H:Hp)(Q:VK)(E:XK)(h:rB K vs H Q E):ar (aS K [] [] (E:=E)) qR (Dn Q) (start qQ vs) H:=by
 obtain⟨v,p,xs,rfl,hp,hf,⟨w,rfl,q⟩ | ⟨hn,q⟩⟩:=h
 ·exact aau _ _ _ _ ⟨w,p,xs,rfl,hp,hf,q⟩
 ·exact⟨_,rfl,rfl,hn.go ⟨_,rfl,fK q⟩⟩
def aaT(v:V)(H:Hp):Prop:=eO .tuple v H∨ ∃a xs,v= .ref a∧H a=some (.tup xs)∧xs.length≤1000000∧(xs.length≠2∨ ∃w t,xs=[w,t]∧
 (eO .str w H∨(∃s,w= .str s∧s≠"keep"∧s≠"cut"∧s≠"put")∨(w= .str "keep"∧(mJ t H∨ ∃n,t= .int n∧n<1))∨((w= .str "cut"∨w= .str "put")∧(kU t H∨t= .str ""))))
abbrev rC(K:PySem.W.Frag):List (Str×Sp):=[("is_word",rB K),("is_whole",kW),("is_text",mK)]
def yh:Sp:=fun vs H Q E=> ∃v,vs=[v]∧((∃p,gU H v p∧dC p∧ ∀H',aI H H'→Q (.bl true) H')∨(aaT v H∧ ∀H',aI H H'→Q (.bl false) H'))
theorem JF(s t:Str):dg (.str s) [.str t]=(t==s):=by
 unfold dg
 show(df (.str t) (.str s) || false)=_
 rw[Bool.or_false];rfl
theorem aaU{K:PySem.W.Frag}(vs:List V)(H:Hp)(Q:VK)(E:XK)(h:yh vs H Q E):ar (aS K (rC K) [] (E:=E)) oo (Dn Q) (start om vs) H:=by
 have two: ∀(a:Addr) (w t:V) (Q1:VK) (H1:Hp) (σ:St),σ[0]?=some (some (.ref a))→H1 a=some (.tup [w,t])→
   (∀(tt:Addr) H2,aI H1 H2→ ∀b:Bool,(b=true→w= .str "cut"∨w= .str "put")→(b=false→w≠ .str "cut"∧w≠ .str "put")→Q1 (.bl b) H2)→(eO .str w H1∨ ∃s,w= .str s)→
   ag (aS K (rC K) [] (E:=E)) (.call 0 [(.ix (.v 0) (.c (.int 0))),(.tup [(.c (.str "cut")),(.c (.str "put"))])]) σ H1 Q1:=by
  intro a w t Q1 H1 σ h0 ha q hw
  refine⟨_,h0, .inr (.inl ⟨_,_,_,_,rfl,rfl,aX.of ha,rfl,(by show 2≤sizeLine;decide),fun t ht=> ?_⟩)⟩
  have s2:=sameNew (o:= .tup [V.str "cut",V.str "put"]) ht
  refine⟨w,t,_,rfl,aX.of aN,rfl, ?_⟩
  rcases hw with hw | ⟨s,rfl⟩
  ·refine .inr ⟨hw.same s2,q t _ s2 false (fun z=>by cases z) fun _=> ⟨?_, ?_⟩⟩
   ·rintro rfl;cases (show true=false from hw)
   ·rintro rfl;cases (show true=false from hw)
  ·refine .inl ⟨s,rfl,q t _ s2 _ (fun z=> ?_) fun z=> ?_⟩
   ·have z':((Str.ofString "cut"==s) || ((Str.ofString "put"==s) || false))=true:=z
    simp only[Bool.or_false,Bool.or_eq_true,beq_iff_eq] at z'
    rcases z' with z' | z'<;>subst z'
    ·exact .inl rfl
    ·exact .inr rfl
   ·have z':((Str.ofString "cut"==s) || ((Str.ofString "put"==s) || false))=false:=z
    simp only[Bool.or_false,Bool.or_eq_false_iff,beq_eq_false_iff_ne] at z'
    exact⟨fun y=>z'.1 (by injection y with y;exact y.symm),fun y=>z'.2 (by injection y with y;exact y.symm)⟩
 obtain⟨v,rfl,⟨p,⟨a,rfl,ha⟩,hp,q⟩ | ⟨hn | ⟨a,xs,rfl,ha,hl,hb⟩,q⟩⟩:=h
 ·refine⟨_,rfl,rfl,Jr ha ⟨_,rfl, .inr ⟨_,aX.of ha,_,rfl, ?_⟩⟩⟩
  refine⟨_,rfl, .inr (.inl ⟨_,_,_,_,rfl,rfl,aX.of ha,rfl,(by show 1≤sizeLine;decide),fun t1 yi=> ?_⟩)⟩
  have s1:=sameNew (o:= .tup [V.str "keep"]) yi
  refine⟨.str p.word,t1,[.str "keep"],rfl,aX.of aN,rfl, .inl ⟨p.word,rfl, ?_⟩⟩
  have eP:=s1 _ _ ha
  generalize upd H t1 (.tup [V.str "keep"])=H1 at s1 eP
  have fin: ∀(s:Str),good s→s≠""→H1 a=some (.tup [.str p.word, .str s])→p.word="put"∨p.word="cut"→ar (aS K (rC K) [] (E:=E)) (oo.drop 2) (Dn Q) (start om [.ref a]) H1:=by
   intro s gs ns hs hw
   refine two a (.str p.word) (.str s) _ H1 _ rfl hs (fun tt H2 s2 b mL kZ=> ?_) (.inr ⟨_,rfl⟩)
   have eb:b=true:=by
    cases b with
    | true=>rfl
    | false=>
     obtain⟨z1,z2⟩:=kZ rfl
     rcases hw with z | z
     ·exact absurd (congrArg V.str z) z2
     ·exact absurd (congrArg V.str z) z1
   subst eb
   have rD:=s2 _ _ hs
   refine⟨_,rfl,du ⟨_,rfl, .inr (.inl ⟨_,_,_,_,rfl,rfl,aX.of rD,rfl, .str s,rfl, .inl ⟨s,rfl,gs,_,rfl, ?_⟩⟩)⟩⟩
   refine du ⟨_,rfl, .inr (.inl ⟨_,_,_,_,rfl,rfl,aX.of rD,rfl, ?_⟩)⟩
   show Q (.bl (true ^^ decide (V.str s=V.str ""))) _
   rw[decide_eq_false (fun z=>ns (by injection z))]
   exact q _ (s1.trans s2)
  cases p with
  | keep n=>
   rw[show dg (.str (Pt.keep n).word) [.str "keep"]=true by show dg (.str "keep") [.str "keep"]=true;decide]
   refine⟨_,rfl, .inr (.inl ⟨_,_,_,_,rfl,rfl,aX.of eP,rfl, .int n,rfl, .inl ⟨n,rfl,_,rfl, ?_⟩⟩)⟩
   refine du ⟨_,rfl, .inr (.inl ⟨_,_,_,_,rfl,rfl,aX.of eP,rfl,trivial, ?_⟩)⟩
   show Q (.bl (decide (1≤n))) H1
   rw[decide_eq_true (show(1:Int)≤n from hp)]
   exact q _ s1
  | put s=>
   rw[show dg (.str (Pt.put s).word) [.str "keep"]=false by show dg (.str "put") [.str "keep"]=false;decide]
   exact fin s hp.1 hp.2 eP (.inl rfl)
  | cut s=>
   rw[show dg (.str (Pt.cut s).word) [.str "keep"]=false by show dg (.str "cut") [.str "keep"]=false;decide]
   exact fin s hp.1 hp.2 eP (.inr rfl)
 ·exact⟨_,rfl,rfl,hn.go (q _ (aI.refl _))⟩
 ·refine⟨_,rfl,rfl,Jr ha ⟨_,rfl, .inr ⟨_,aX.of ha,_,rfl, ?_⟩⟩⟩
  show if (true ^^ decide (V.int (xs.length:Int)=V.int 2))=true then _ else _
  rcases hb with hb | ⟨w,t,rfl,hb⟩
  ·rw[decide_eq_false (fun z=>hb (by injection z with z;omega))]
   exact q _ (aI.refl _)
  ·refine⟨_,rfl, .inr (.inl ⟨_,_,_,_,rfl,rfl,aX.of ha,rfl,(by show 1≤sizeLine;decide),fun t1 yi=> ?_⟩)⟩
   have s1:=sameNew (o:= .tup [V.str "keep"]) yi
   refine⟨w,t1,[.str "keep"],rfl,aX.of aN,rfl, ?_⟩
   have eP:=s1 _ _ ha
   generalize upd H t1 (.tup [V.str "keep"])=H1 at s1 eP
   have no:(eO .str w H1∨ ∃s,w= .str s)→w≠ .str "cut"→w≠ .str "put"→ar (aS K (rC K) [] (E:=E)) (oo.drop 2) (Dn Q) (start om [.ref a]) H1:=by
    intro hw n1 n2
    refine two a w t _ H1 _ rfl eP (fun tt H2 s2 b mL kZ=> ?_) hw
    have eb:b=false:=by
     cases b with
     | false=>rfl
     | true=>rcases mL rfl with z | z;exact absurd z n1;exact absurd z n2
    subst eb
    exact⟨_,rfl,fK (q _ (s1.trans s2))⟩
   rcases hb with hb | ⟨s,rfl,n0,n1,n2⟩ | ⟨rfl,hb⟩ | ⟨hw,hb⟩
   ·refine .inr ⟨hb.same s1,no (.inl (hb.same s1)) ?_ ?_⟩
    ·rintro rfl;cases (show true=false from hb)
    ·rintro rfl;cases (show true=false from hb)
   ·refine .inl ⟨s,rfl, ?_⟩
    rw[JF,beq_eq_false_iff_ne.mpr (Ne.symm n0)]
    exact no (.inr ⟨s,rfl⟩) (fun z=>n1 (by injection z)) (fun z=>n2 (by injection z))
   ·refine .inl ⟨_,rfl, ?_⟩
    rw[show dg (.str "keep") [.str "keep"]=true by decide]
    refine⟨_,rfl, .inr (.inl ⟨_,_,_,_,rfl,rfl,aX.of eP,rfl,t,rfl, ?_⟩)⟩
    rcases hb with hb | ⟨n,rfl,hn⟩
    ·exact .inr ⟨hb.same s1,_,rfl,fK (q _ s1)⟩
    ·refine .inl ⟨n,rfl,_,rfl,du ⟨_,rfl, .inr (.inl ⟨_,_,_,_,rfl,rfl,aX.of eP,rfl,trivial, ?_⟩)⟩⟩
     show Q (.bl (decide (1≤n))) H1
     rw[decide_eq_false (by omega)]
     exact q _ s1
   ·have hws: ∃s,w= .str s∧(Str.ofString "keep"==s)=false:=by
     rcases hw with rfl | rfl
     ·exact⟨_,rfl,by decide⟩
     ·exact⟨_,rfl,by decide⟩
    obtain⟨s,rfl,hk⟩:=hws
    refine .inl ⟨s,rfl, ?_⟩
    rw[JF,hk]
    refine two a (.str s) t _ H1 _ rfl eP (fun tt H2 s2 b mL kZ=> ?_) (.inr ⟨s,rfl⟩)
    have eb:b=true:=by
     cases b with
     | true=>rfl
     | false=>
      obtain⟨z1,z2⟩:=kZ rfl
      rcases hw with z | z
      ·exact absurd z z1
      ·exact absurd z z2
    subst eb
    have JG:=s2 _ _ eP
    refine⟨_,rfl,du ⟨_,rfl, .inr (.inl ⟨_,_,_,_,rfl,rfl,aX.of JG,rfl,t,rfl, ?_⟩)⟩⟩
    rcases hb with hb | rfl
    ·exact .inr ⟨hb.same (s1.trans s2),_,rfl,fK (q _ (s1.trans s2))⟩
    ·refine .inl ⟨_,rfl,⟨by decide,fun c hc=>by cases hc⟩,_,rfl,du ⟨_,rfl, .inr (.inl ⟨_,_,_,_,rfl,rfl,aX.of JG,rfl, ?_⟩)⟩⟩
     exact q _ (s1.trans s2)
theorem aaW{vs:List V}{H:Hp}{Q:VK}{E:XK}(h:yc vs H Q E):yh vs H Q E:=by
 obtain⟨v,p,rfl,hp,ho,q⟩:=h
 exact⟨_,rfl, .inl ⟨p,hp,ho,q⟩⟩
end L2.B
namespace L2
open PySem PySem.Spec PyProof.Rows
section
variable {Γ:aE} {D:Ends} {σ:St} {H:Hp} {r:List RS} {Q:VK} {QA:List V→Hp→Prop} {QT:Bool→Hp→Prop}
theorem ai{i:Nat}{v:V}(h:σ[i]?=some (some v))(q:Q v H):ag Γ (.v i) σ H Q:=⟨_,h,q⟩
theorem ay{v:V}(q:Q v H):ag Γ (.c v) σ H Q:=q
theorem r_g{j:Nat}(q:Q (Γ.gv j) H):ag Γ (.g j) σ H Q:=q
theorem aU{op:Operator}{a b:RE}(h:ag Γ a σ H fun x H1=>ag Γ b σ H1 fun y H2=>mh Γ.K op x y H2 Q):ag Γ (.bin op a b) σ H Q:=h
theorem oF{op:CmpOp}{a b:RE}(h:ag Γ a σ H fun x H1=>ag Γ b σ H1 fun y H2=>bZ Γ.K op x y H2 Q):ag Γ (.cmp op a b) σ H Q:=h
theorem bI{a b:RE}(h:ag Γ a σ H fun x H1=>ag Γ b σ H1 fun y H2=>ij Γ.K Γ.sd x y H2 Q):ag Γ (.ix a b) σ H Q:=h
theorem aaY{j:Nat}{as:List RE}(h:bq Γ as σ H fun vs H1=>Γ.fs j (vs++ []) H1 Q Γ.E):ag Γ (.call j as) σ H Q:=h
theorem bH{j:Nat}{as:List RE}(sp:Sp)(hs:Γ.fs j=sp)(h:bq Γ as σ H fun vs H1=>sp vs H1 Q Γ.E):ag Γ (.call j as) σ H Q:=by
 subst hs
 refine aaY ?_
 have e:(fun(vs:List V) (H1:Hp)=>Γ.fs j (vs++ []) H1 Q Γ.E)=fun vs H1=>Γ.fs j vs H1 Q Γ.E:=by
  funext vs H1;rw[List.append_nil]
 rw[e];exact h
theorem oG{b:gK}{as:List RE}(h:bq Γ as σ H fun vs H1=>jo Γ.K b vs H1 Q):ag Γ (.blt b as) σ H Q:=h
theorem iL{as:List RE}(h:bq Γ as σ H fun xs H1=>xs.length≤sizeLine∧ ∀p,H1 p=none→Q (.ref p) (upd H1 p (.tup xs))):ag Γ (.tup as) σ H Q:=h
theorem eQ{as:List RE}(h:bq Γ as σ H fun xs H1=>xs.length≤sizeLine∧ ∀p,H1 p=none→Q (.ref p) (upd H1 p (.lst xs))):ag Γ (.lst as) σ H Q:=h
theorem aP(q:QA [] H):bq Γ [] σ H QA:=q
theorem ax{a:RE}{as:List RE}(h:ag Γ a σ H fun x H1=>bq Γ as σ H1 fun xs H2=>QA (x::xs) H2):bq Γ (a::as) σ H QA:=h
theorem bw{i:Nat}{e:RE}(h:ag Γ e σ H fun x H1=>ar Γ r D (σ.set i (some x)) H1):ar Γ (.asg i e::r) D σ H:=h
theorem k_{e:RE}(h:ag Γ e σ H fun _ H1=>ar Γ r D σ H1):ar Γ (.drop e::r) D σ H:=h
theorem cY{e:RE}(h:ag Γ e σ H D.rt):ar Γ (.ret e::r) D σ H:=h
end
end L2
namespace L2.B
open PySem PySem.Spec PyProof.Rows
theorem Paired.app{α β:Type}{R:α→β→Prop}: ∀{xs vi:List α} {ys dZ:List β},Paired R xs ys→Paired R vi dZ→Paired R (xs++vi) (ys++dZ)
 | _,_,_,_, .nil,s=>s
 | _,_,_,_, .cons r t,s=> .cons r (Paired.app t s)
section
variable {Γ:aE} {cs:List Addr} {ink ea D:Addr} {j:Nat}
end
theorem Run.good{l r:List Nat}{ps:List Pt}(h:Run l ps r)(hl: ∀c∈l,SG.cps.contains c=true)(hp: ∀p∈ps,dD p): ∀c∈r,SG.cps.contains c=true:=by
 induction h with
 | nil=>exact hl
 | keep e _ ih=>
  intro c hc
  rcases List.mem_append.mp hc with z | z
  ·exact hl c (List.mem_append.mpr (.inl z))
  ·exact ih (fun d hd=>hl d (List.mem_append.mpr (.inr hd))) (fun p h=>hp p (.tail _ h)) c z
 | put _ ih=>
  intro c hc
  rcases List.mem_append.mp hc with z | z
  ·exact(hp _ (.head _):sg _) c z
  ·exact ih hl (fun p h=>hp p (.tail _ h)) c z
 | cut _ ih=>exact ih (fun d hd=>hl d (List.mem_append.mpr (.inr hd))) (fun p h=>hp p (.tail _ h))
theorem aaZ{x:Str}(k:Nat)(n:Int)(m:Nat)(hn:n=m):fN x (some (k:Int)) (some ((k:Int)+n))=⟨((x.cps.toList.drop k).take m).toArray⟩:=by
 have e1:(k:Int)+n=((k+m:Nat):Int):=by rw[hn];simp
 unfold fN gJ
 rw[e1,HT.lZ,HT.lZ]
 congr 1
 by_cases h:k≤x.cps.toList.length
 ·rw[show min k x.cps.toList.length=k by omega]
  by_cases h2:k+m≤x.cps.toList.length
  ·rw[show min (k+m) x.cps.toList.length=k+m by omega,Nat.add_sub_cancel_left]
  ·rw[show min (k+m) x.cps.toList.length=x.cps.toList.length by omega,List.take_of_length_le (by rw[List.length_drop];omega),List.take_of_length_le (by rw[List.length_drop];omega)]
 ·rw[show min k x.cps.toList.length=x.cps.toList.length by omega,List.drop_length,List.drop_of_length_le (by omega),List.take_nil,List.take_nil]
def oH:Sp:=fun vs H Q E=> ∃x a xs ps r,vs=[.str x, .ref a]∧good x∧H a=some (.lst xs)∧bL H xs ps∧(∀p∈ps,yb p)∧Run x.cps.toList ps r∧r.length≤1000000∧Q (.str ⟨r.toArray⟩) H
end L2.B
namespace L2
open PySem PySem.Spec PyProof.Rows
theorem ae{α:Type _}{p:α→Prop}: ∀x∈ ([]:List α),p x:=fun _ h=>nomatch h
theorem aA{α:Type _}{p:α→Prop}{a:α}{l:List α}(h:p a)(t: ∀x∈l,p x): ∀x∈a::l,p x:=List.forall_mem_cons.2 ⟨h,t⟩
section
variable {P:Program} {w:World} {K:PySem.W.Frag}
end
section
variable {P:Program} {w:World} {K:PySem.W.Frag} {mg:Str→Option Value} {base:Heap} {k:Nat}
theorem cn.weak{CX:aL}{f:Addr}{fd:FuncData}{ps:List Str}{a b:Sp}(A:cn P w K mg base CX k f fd ps b)(h: ∀vs H Q E,a vs H Q E→b vs H Q E):cn P w K mg base CX k f fd ps a:=
 ⟨fun vs H Q E q=>A.len vs H Q E (h _ _ _ _ q),fun A' outer s H args us vs Q E hr e0 hb hv hs=>A.run A' outer s H args us vs Q E hr e0 hb hv (h _ _ _ _ hs)⟩
theorem bA.weak{x:Str}{a b:Sp}(T:bA P w K mg base k x b)(h: ∀vs H Q E,a vs H Q E→b vs H Q E):bA P w K mg base k x a:=by
 obtain⟨f,fd,ps,F,r⟩:=T
 exact⟨f,fd,ps,F.weak h,r⟩
open PySem.W in
theorem rE{x:Str}{C:Addr}(X:K.In base)(G:base.Ns mainGlobals mg)(e:nsIn K mainGlobals x=some (some (.ref C)))(q:excIn K C [.type "ValueError", .type "Exception", .type "BaseException", .type "object"] "ValueError.__new__"=true):mD mg base (x,C):=by
 refine⟨_,_,_,_,⟨mg_of X G e, ?_⟩,PySem.F.excBase_ValueError⟩
 unfold excIn at q
 split at q
 ·rename_i dd cd sl ho
  split at q
  ·rename_i C' bm k0 k1 k2 k3 n k5 hm hs
   simp only[Bool.and_eq_true,beq_iff_eq,Bool.not_eq_true'] at q
   obtain⟨⟨⟨⟨⟨rfl,rfl⟩,JH⟩,ht⟩,aG⟩,qC⟩:=q
   obtain⟨nm,bs,mro,ns,qn,hd,sn,sub,ab,col,del⟩:=cd
   dsimp only at hm JH aG qC
   subst hm JH
   obtain⟨sl⟩:=sl
   have rD:sl=_:=hs
   subst rD
   exact⟨bm,ns,nm,qn,bs,hd,sn,sub,ab,col,dd,k0,k1,k2,k3,k5,_,X _ _ ho, .of_isNs (isNs_of_in X aG),nsMap_none_of_in X aG qC,tail_of_in X ht⟩
  ·cases q
 ·cases q
end
namespace B
end B
end L2
namespace L2.B
end L2.B
namespace L2.B
open PySem PySem.Spec PyProof.Rows
end L2.B
namespace L2.B
end L2.B
namespace L2
open PySem PySem.Spec PyProof.Rows
section
variable {Γ:aE} {D:Ends} {σ:St} {H:Hp} {r:List RS} {Q:VK} {QA:List V→Hp→Prop} {QT:Bool→Hp→Prop}
theorem gX{j:Nat}{m:Str}{o:RE}(C:Addr)(sp:Sp)(hm:Γ.ms j=(C,sp))(h:ag Γ o σ H fun x H1=> ∃a dx fs,x= .ref a∧H1 a=some (.ins C dx fs)∧fs.lookup m=none∧sp [x] H1 Q Γ.E):ag Γ (.b9 j m o []) σ H Q:=by
 show jd (Γ.ms j).1 m (Γ.ms j).2 [] Γ.E (ag Γ o) (bq Γ []) σ H Q
 rw[hm];exact h
theorem JI{j:Nat}{m:Str}{o a:RE}(C:Addr)(sp:Sp)(hm:Γ.ms j=(C,sp))(h:ag Γ o σ H fun x H1=> ∃p dx fs,x= .ref p∧H1 p=some (.ins C dx fs)∧fs.lookup m=none∧ag Γ a σ H1 fun y H2=>sp [x,y] H2 Q Γ.E):ag Γ (.b9 j m o [a]) σ H Q:=by
 show jd (Γ.ms j).1 m (Γ.ms j).2 [] Γ.E (ag Γ o) (bq Γ [a]) σ H Q
 rw[hm];exact h
theorem aa0{c:RE}{body:List RS}(W:Nat→St→Hp→Prop)(h0: ∃m,W m σ H)
  (h: ∀m σ H,W m σ H→br Γ c σ H fun b H1=>if b=true then ∃N:St→Hp→Prop,(∀σ' H',N σ' H'→ ∃m',m'<m∧W m' σ' H')∧ar Γ body {{D with nx:=ar Γ r D} with nx:=N,ct:=N,bk:=ar Γ r D} σ H1 else ar Γ r D σ H1):ar Γ (.mm c body::r) D σ H:=⟨W,h0,h⟩
theorem bP{c:RE}{t e:List RS}(h:br Γ c σ H fun b H1=>if b=true then ar Γ t {D with nx:=ar Γ r D} σ H1 else ar Γ e {D with nx:=ar Γ r D} σ H1):ar Γ (.ite c t e::r) D σ H:=h
theorem bJ{op:CmpOp}{a b:RE}(h:ag Γ a σ H fun x H1=>ag Γ b σ H1 fun y H2=>bZ Γ.K op x y H2 fun z H3=> ∃k,z= .bl k∧QT k H3):br Γ (.cmp op a b) σ H QT:=h
theorem dE{o:RE}{f:Str}(h:ag Γ o σ H fun x H1=> ∃a C dx fs v,x= .ref a∧H1 a=some (.ins C dx fs)∧dH Γ.K C∧dR Γ.K C f∧fs.lookup f=some v∧Q v H1):ag Γ (.fld o f) σ H Q:=h
theorem eR{m:eh}{o a:RE}(h:ag Γ o σ H fun x H1=>nF Γ.K (qx m) x H1∧ag Γ a σ H1 fun y H2=>nU Γ.K m x [y] H2 Q):ag Γ (.bE m o [a]) σ H Q:=h
theorem cZ{K:PySem.W.Frag}{x y:Str}{Q:VK}(q:Q (.bl (x==y)) H):bZ K .Eq (.str x) (.str y) H Q:=by
 show Q (.bl (false ^^ decide (V.str x=V.str y))) H
 rw[Bool.false_xor,eY];exact q
theorem mM{K:PySem.W.Frag}{x y:Str}{Q:VK}(q:Q (.bl (x !=y)) H):bZ K .NotEq (.str x) (.str y) H Q:=by
 show Q (.bl (true ^^ decide (V.str x=V.str y))) H
 rw[Bool.true_xor,eY];exact q
end
end L2
namespace L2.B
open PySem PySem.Spec PyProof.Rows
def yj(v:V)(lo hi:Int)(H:Hp):Prop:=mJ v H∨ ∃i,v= .int i∧(i<lo∨hi<i)
def eA:Sp:=fun vs H Q E=> ∃(v:V) (lo hi:Int),vs=[v, .int lo, .int hi]∧((∃i,v= .int i∧lo≤i∧i≤hi∧Q (.bl true) H)∨(yj v lo hi H∧Q (.bl false) H))
theorem aa1{K:PySem.W.Frag}(vs:List V)(H:Hp)(Q:VK)(E:XK)(h:eA vs H Q E):ar (aS K [("is_whole",kW)] [] (E:=E)) wk (Dn Q) (start wj vs) H:=by
 have chain: ∀(i lo hi:Int) (b:Bool) (H:Hp),decide (lo≤i∧i≤hi)=b→Q (.bl b) H→ag (aS K [("is_whole",kW)] [] (E:=E)) (.nT .LtE .LtE (.v 1) (.v 0) (.v 2)) [some (.int i),some (.int lo),some (.int hi)] H Q:=by
  intro i lo hi b H hb q
  refine⟨_,rfl,_,rfl,trivial,_,rfl, ?_⟩
  refine dv (fun h1=> ?_) (fun h1=> ?_)
  ·refine⟨_,rfl,trivial, ?_⟩
   have oI:lo≤i:=of_decide_eq_true h1
   have e:decide (i≤hi)=b:=by rw[←hb];simp[oI]
   show Q (.bl (decide (i≤hi))) H
   rw[e];exact q
  ·have oI: ¬lo≤i:=fun z=>h1 (decide_eq_true z)
   have e:b=false:=by rw[←hb];simp[oI]
   have e2:decide (lo≤i)=false:=decide_eq_false oI
   rw[e] at q
   first
    | exact q
    | (show Q (.bl (decide (lo≤i))) H;rw[e2];exact q)
 obtain⟨v,lo,hi,rfl,⟨i,rfl,h1,h2,q⟩ | ⟨hn | ⟨i,rfl,hb⟩,q⟩⟩:=h
 ·exact⟨_,rfl,_,rfl, .inl ⟨i,rfl,_,rfl,du (chain i lo hi true H (by simp[h1,h2]) q)⟩⟩
 ·exact⟨_,rfl,_,rfl, .inr ⟨hn,_,rfl,fK q⟩⟩
 ·exact⟨_,rfl,_,rfl, .inl ⟨i,rfl,_,rfl,du (chain i lo hi false H (by rw[decide_eq_false];rintro⟨a,b⟩;omega) q)⟩⟩
def dh(lt lb lf:Addr)(n:Int):List (Str×V):=[("texts", .ref lt),("begins", .ref lb),("feeds", .ref lf),("signs", .int n)]
theorem rF{lt lb lf:Addr}{n:Int}:(dh lt lb lf n).lookup ("texts":Str)=some (V.ref lt):=mH
theorem yk{lt lb lf:Addr}{n:Int}:(dh lt lb lf n).lookup ("begins":Str)=some (V.ref lb):=(eo (by decide+kernel)).trans mH
theorem JJ{lt lb lf:Addr}{n:Int}:(dh lt lb lf n).lookup ("feeds":Str)=some (V.ref lf):=(eo (by decide+kernel)).trans ((eo (by decide+kernel)).trans mH)
theorem JK{lt lb lf:Addr}{n:Int}:(dh lt lb lf n).lookup ("signs":Str)=some (V.int n):=(eo (by decide+kernel)).trans ((eo (by decide+kernel)).trans ((eo (by decide+kernel)).trans mH))
theorem yl{lt lb lf:Addr}{n:Int}{m:Str}(h1: ¬m="texts")(h2: ¬m="begins")(h3: ¬m="feeds")(h4: ¬m="signs"):(dh lt lb lf n).lookup m=none:=
 (eo h1).trans ((eo h2).trans ((eo h3).trans ((eo h4).trans rfl)))
theorem aa2{lt lb lf:Addr}{n k:Int}:bQ "signs" (.int k) (dh lt lb lf n)=dh lt lb lf k:=by
 unfold dh
 rw[gf (by decide+kernel),gf (by decide+kernel),gf (by decide+kernel),aaI]
theorem aa3{lt lb lf:Addr}{n:Int}:bQ "signs" (.int n) (bQ "feeds" (.ref lf) (bQ "begins" (.ref lb) (bQ "texts" (.ref lt) [])))=dh lt lb lf n:=by
 have e1:bQ "texts" (V.ref lt) []=[(("texts":Str),V.ref lt)]:=rfl
 have e2:bQ "begins" (V.ref lb) []=[(("begins":Str),V.ref lb)]:=rfl
 have e3:bQ "feeds" (V.ref lf) []=[(("feeds":Str),V.ref lf)]:=rfl
 unfold dh
 rw[e1,gf (by decide+kernel),e2,gf (by decide+kernel),gf (by decide+kernel),gf (by decide+kernel),e3,gf (by decide+kernel),gf (by decide+kernel)]
 rfl
def aq(ts:List Str):List Nat:=(ts.map fun t=>t.cps.toList).flatten
theorem eB(a b:List Str):aq (a++b)=aq a++aq b:=by simp[aq]
theorem iM(t:Str):aq [t]=t.cps.toList:=by simp[aq]
def cI:List Str→Nat→List Int
 | [],_=> []
 | t::r,k=> (k:Int)::cI r (k+t.length)
theorem JL: ∀(a b:List Str) (k:Nat),cI (a++b) k=cI a k++cI b (k+ (aq a).length)
 | [],b,k=>by simp[cI,aq]
 | t::a,b,k=>by
  have ih:=JL a b (k+t.length)
  have e:k+t.length+ (aq a).length=k+ (aq (t::a)).length:=by
   simp[aq,Str.length];omega
  rw[e] at ih
  simp only[List.cons_append,cI,ih]
structure bX (C:Addr) (H:Hp) (p dx lt lb lf:Addr) (ts:List Str):Prop where
 ob:H p=some (.ins C dx (dh lt lb lf (aq ts).length))
 tx:H lt=some (.lst (ts.map V.str))
 bg:H lb=some (.lst ((cI ts 0).map V.int))
 fd:H lf=some (.lst ((dY 10 (aq ts)).map V.int))
 n1:lt≠lb
 n2:lt≠lf
 n3:lb≠lf
def c_(p lt lb lf:Addr)(H H':Hp):Prop:= ∀b o,H b=some o→b≠p→b≠lt→b≠lb→b≠lf→H' b=some o
theorem c_.trans{p lt lb lf:Addr}{H H1 H2:Hp}(a:c_ p lt lb lf H H1)(b:c_ p lt lb lf H1 H2):c_ p lt lb lf H H2:=fun c o e n1 n2 n3 n4=>b c o (a c o e n1 n2 n3 n4) n1 n2 n3 n4
theorem bX.same{C:Addr}{H H':Hp}{p dx lt lb lf:Addr}{ts:List Str}(S:bX C H p dx lt lb lf ts)(s:aI H H'):bX C H' p dx lt lb lf ts:=
 ⟨s _ _ S.ob,s _ _ S.tx,s _ _ S.bg,s _ _ S.fd,S.n1,S.n2,S.n3⟩
def oJ(C:Addr):Sp:=fun vs H Q E=> ∃(p dx:Addr),vs=[.ref p]∧H p=some (.ins C dx [])∧ ∀(lt lb lf:Addr) (H':Hp),bX C H' p dx lt lb lf []→H lt=none→H lb=none→H lf=none→(∀b o,H b=some o→b≠p→H' b=some o)→Q .av H'
theorem aa4{K:PySem.W.Frag}{C:Addr}(T:ou K C)(vs:List V)(H:Hp)(Q:VK)(E:XK)(h:oJ C vs H Q E):ar (aS K [] [] (E:=E)) wu {nx:=fun _ H'=>Q .av H',rt:=Q} (start wt vs) H:=by
 obtain⟨p,dx,rfl,hp,k⟩:=h
 refine⟨Nat.zero_le _,fun lt f1=> ?_⟩
 have iN:p≠lt:=bW hp f1
 refine⟨_,rfl,p,C,dx,[],rfl,(by rw[aK iN];exact hp),T.cl,T.ow,(by show 0<1000;decide), ?_⟩
 refine⟨Nat.zero_le _,fun lb f2=> ?_⟩
 have mO:p≠lb:=fun z=>by rw[←z,aN] at f2;cases f2
 have rG:lt≠lb:=fun z=>by rw[←z,aK iN.symm,aN] at f2;cases f2
 refine⟨_,rfl,p,C,dx,_,rfl,(by rw[aK mO,aN]),T.cl,T.qX,(by show 1<1000;decide), ?_⟩
 refine⟨Nat.zero_le _,fun lf f3=> ?_⟩
 have oK:p≠lf:=fun z=>by rw[←z,aN] at f3;cases f3
 have ym:lb≠lf:=fun z=>by rw[←z,aK mO.symm,aN] at f3;cases f3
 have yn:lt≠lf:=fun z=>by rw[←z,aK iN.symm,aK rG,aK iN.symm,aN] at f3;cases f3
 refine⟨_,rfl,p,C,dx,_,rfl,(by rw[aK oK,aN]),T.cl,T.wA,(by show 2<1000;decide), ?_⟩
 refine⟨_,rfl,p,C,dx,_,rfl,aN,T.cl,T.qY,(by show 3<1000;decide), ?_⟩
 have fb:H lb=none:=by
  rw[aK mO.symm,aK rG.symm] at f2;exact f2
 have ff:H lf=none:=by
  rw[aK oK.symm,aK ym.symm,aK oK.symm,aK yn.symm] at f3;exact f3
 refine k lt lb lf _ ⟨?_, ?_, ?_, ?_,rG,yn,ym⟩ f1 fb ff fun b o e nb=> ?_
 ·rw[aN]
  exact congrArg (fun l=>some (HO.ins C dx l)) aa3
 ·rw[aK iN.symm,aK iN.symm,aK yn,aK iN.symm,aK rG,aK iN.symm,aN];rfl
 ·rw[aK mO.symm,aK mO.symm,aK ym,aK mO.symm,aN];rfl
 ·rw[aK oK.symm,aK oK.symm,aN];rfl
 ·rw[aK nb,aK nb,aK (bW e ff),aK nb,aK (bW e fb),aK nb,aK (bW e f1)];exact e
theorem aa5:(Str.ofString "\n")=⟨#[10]⟩:=by rfl
def iO(l:List Nat):Int:=match l with | i::_=> (i:Int) | []=> -1
theorem JM(x:Str)(lo:Nat)(hl:lo≤x.length):(match Builtin.Str.occurrences x (Str.ofString "\n") lo x.length 1 with | i::_=> (i:Int) | []=> -1)=iO (pos 10 (x.cps.toList.drop lo) lo):=by
 rw[aa5,Jq x 10 lo 1 hl]
 cases pos 10 (x.cps.toList.drop lo) lo<;>rfl
def oM(CT C:Addr):Sp:=fun vs H Q E=> ∃(p dx lt lb lf:Addr) (ts:List Str) (v:V),vs=[.ref p,v]∧bX C H p dx lt lb lf ts∧((kU v H∧E (.ref CT) none H)∨ ∃x,v= .str x∧good x∧ts.length≤100000∧(aq ts).length≤1000000∧
 ∀H',c_ p lt lb lf H H'→bX C H' p dx lt lb lf (ts++ [x])→Q (.int (aq ts).length) H')
theorem yo: ∀(ts:List Str) (k:Nat),(cI ts k).length=ts.length
 | [],_=>rfl
 | t::r,k=>by simp[cI,yo r]
theorem JN(c:Nat)(a:List Nat)(k:Nat):(pos c a k).length≤a.length:=by
 rw[oA];exact List.count_le_length
theorem aa6{K:PySem.W.Frag}{CT C:Addr}(T:ou K C)(vs:List V)(H:Hp)(Q:VK)(E:XK)(h:oM CT C vs H Q E):ar (aS K [("need_text",kY CT)] [] (E:=E)) wx {nx:=fun _ H'=>Q .av H',rt:=Q} (start qW vs) H:=by
 obtain⟨p,dx,lt,lb,lf,ts,v,rfl,S,⟨hb,q⟩ | ⟨x,rfl,hx,ht,hs,k⟩⟩:=h
 ·exact⟨_,rfl,_,rfl, .inr ⟨hb,q⟩⟩
 have JO:p≠lt:=tN S.ob S.tx (by intro z;cases z)
 have JP:p≠lb:=tN S.ob S.bg (by intro z;cases z)
 have JQ:p≠lf:=tN S.ob S.fd (by intro z;cases z)
 refine⟨_,rfl,_,rfl, .inl ⟨x,rfl,hx, ?_⟩⟩
 refine⟨_,rfl,p,C,dx,_,_,rfl,S.ob,T.cl,T.qY,JK, ?_⟩
 refine⟨_,rfl,p,C,dx,_,_,rfl,S.ob,T.cl,T.ow,rF, .inl ⟨rfl,_,aC.of S.tx⟩,_,rfl,_,S.tx,gc (by simp;omega), ?_⟩
 have o1:upd H lt (.lst (ts.map V.str++ [V.str x])) p=some (.ins C dx (dh lt lb lf (aq ts).length)):=by rw[aK JO];exact S.ob
 have o2:upd H lt (.lst (ts.map V.str++ [V.str x])) lb=some (.lst ((cI ts 0).map V.int)):=by rw[aK S.n1.symm];exact S.bg
 refine⟨_,rfl,p,C,dx,_,_,rfl,o1,T.cl,T.qX,yk, .inl ⟨rfl,_,aC.of o2⟩,_,rfl,_,o2,gc (by rw[List.length_map,yo];omega), ?_⟩
 refine⟨_,rfl,_,rfl,bV hx.1,_,rfl,p,C,dx,_,rfl,(by rw[aK JP];exact o1),T.cl,T.qY,(by show 4<1000;decide), ?_⟩
 generalize fL:upd (upd (upd H lt (.lst (ts.map V.str++ [V.str x]))) lb (.lst ((cI ts 0).map V.int++ [V.int ((aq ts).length:Int)]))) p (.ins C dx (bQ "signs" (.int (((aq ts).length:Int)+ (x.length:Int))) (dh lt lb lf ((aq ts).length:Int))))=H3
 have b3:c_ p lt lb lf H H3:=fun b o e n1 n2 n3 n4=>by
  rw[←fL,aK n1,aK n3,aK n2];exact e
 have ob3:H3 p=some (.ins C dx (dh lt lb lf (((aq ts).length:Int)+ (x.length:Int)))):=by
  rw[←fL,aN]
  exact congrArg (fun l=>some (HO.ins C dx l)) aa2
 have tx3:H3 lt=some (.lst (ts.map V.str++ [V.str x])):=by rw[←fL,aK JO.symm,aK S.n1,aN]
 have bg3:H3 lb=some (.lst ((cI ts 0).map V.int++ [V.int ((aq ts).length:Int)])):=by rw[←fL,aK JP.symm,aN]
 have fd3:H3 lf=some (.lst ((dY 10 (aq ts)).map V.int)):=by rw[←fL,aK JQ.symm,aK S.n3.symm,aK S.n2.symm];exact S.fd
 have oN:=len_list x
 have l0:=JN 10 (aq ts) 0
 have l1:=JN 10 x.cps.toList 0
 refine⟨_,rfl,rfl, ?_⟩
 show ar _ _ _ ((start qW [V.ref p,V.str x]).set 2 _ |>.set 3 (some (V.int (match Builtin.Str.occurrences x (Str.ofString "\n") 0 x.length 1 with | i::_=> (i:Int) | []=> -1)))) H3
 rw[JM x 0 (Nat.zero_le _),List.drop_zero]
 refine⟨fun m σ H'=> ∃(done rest:List Nat),m=rest.length∧pos 10 x.cps.toList 0=done++rest∧σ=[some (.ref p),some (.str x),some (.int ((aq ts).length:Int)),some (.int (iO rest))]∧b7 lf H3 H'∧H' lf=some (.lst ((dY 10 (aq ts)++done.map fun(i:Nat)=> ((aq ts).length:Int)+ (i:Int)).map V.int)),
  ⟨_,[],pos 10 x.cps.toList 0,rfl,rfl,rfl,fun b o e _=>e,by rw[List.map_nil,List.append_nil];exact fd3⟩, ?_⟩
 rintro m σ H' ⟨done,rest,rfl,hd,rfl,b4,f4⟩
 have JR:=b4 _ _ ob3 JQ
 refine⟨_,rfl,trivial,_,rfl, ?_⟩
 cases rest with
 | nil=>
  refine iF ⟨_,rfl, ?_⟩
  rw[List.append_nil] at hd
  refine k H' (fun b o e n1 n2 n3 n4=>b4 b o (b3 b o e n1 n2 n3 n4) n4) ⟨?_, ?_, ?_, ?_,S.n1,S.n2,S.n3⟩
  ·rw[eB,iM,List.length_append,←oN,Int.natCast_add];exact JR
  ·rw[List.map_append];exact b4 _ _ tx3 S.n2
  ·rw[JL,List.map_append,Nat.zero_add];exact b4 _ _ bg3 S.n3
  ·rw[eB,iM,aal,hd];exact f4
 | cons i rest=>
  have hi:=kP 10 x.cps.toList 0 i (by rw[hd];simp)
  have hl:done.length+ (rest.length+1)≤x.cps.toList.length:=by
   have:=congrArg List.length hd
   simp at this
   omega
  have kQ:decide ((0:Int)≤iO (i::rest))=true:=decide_eq_true (by show(0:Int)≤ (i:Int);omega)
  refine iT ?_ kQ
  refine⟨_,fun σ' JD q=>q, ?_⟩
  refine⟨_,rfl,p,C,dx,_,_,rfl,JR,T.cl,T.wA,JJ, .inl ⟨rfl,_,aC.of f4⟩,_,rfl,_,rfl,_,f4,(by have e:sizeLine=16777216:=rfl;have:=hx.1;simp[dY];omega), ?_⟩
  refine⟨_,rfl,rfl,_,rfl, ?_⟩
  have e1:fromIndex x.length (iO (i::rest)+1)=i+1:=by
   show fromIndex x.length ((i:Int)+1)=i+1
   unfold fromIndex
   rw[if_neg (by omega)];omega
  have nx:=Jm 10 x.cps.toList 0 i done rest hd
  rw[Nat.sub_zero] at nx
  have e2:=JM x (i+1) (by omega)
  rw[nx] at e2
  rw[←e1] at e2
  refine⟨rest.length,Nat.lt_succ_self _,done++ [i],rest,rfl,by rw[hd];simp, ?_,b4.trans b7.upd, ?_⟩
  ·show[_,_,_,some (V.int (match Builtin.Str.occurrences x (Str.ofString "\n") (fromIndex x.length (iO (i::rest)+1)) x.length 1 with | k::_=> (k:Int) | []=> -1))]=_
   rw[e2]
  ·rw[aN]
   simp[iO]
end L2.B
namespace L2
open PySem PySem.Spec PyProof.Rows
section
variable {Γ:aE} {D:Ends} {σ:St} {H:Hp} {r:List RS} {Q:VK} {QA:List V→Hp→Prop} {QT:Bool→Hp→Prop}
theorem fk{K:PySem.W.Frag}{b:Bool}{QB:Bool→Prop}(h:QB b):fQ K (.bl b) H QB:=h
theorem fm{a:RE}(h:br Γ a σ H fun b H1=>QT (!b) H1):br Γ (.not a) σ H QT:=h
theorem gY{j:Nat}{as:List RE}(sp:Sp)(hs:Γ.fs j=sp)(h:bq Γ as σ H fun vs H1=>sp vs H1 (fun x H2=>fQ Γ.K x H2 fun b=>QT b H2) Γ.E):br Γ (.call j as) σ H QT:=by
 subst hs
 show bq Γ as σ H fun vs H1=>Γ.fs j (vs++ []) H1 (fun x H2=>fQ Γ.K x H2 fun b=>QT b H2) Γ.E
 have e:(fun(vs:List V) (H1:Hp)=>Γ.fs j (vs++ []) H1 (fun x H2=>fQ Γ.K x H2 fun b=>QT b H2) Γ.E)=fun vs H1=>Γ.fs j vs H1 (fun x H2=>fQ Γ.K x H2 fun b=>QT b H2) Γ.E:=by
  funext vs H1;rw[List.append_nil]
 rw[e];exact h
theorem iP{a b:RE}(h:br Γ a σ H fun c H1=>if c=true then QT true H1 else br Γ b σ H1 QT):br Γ (.or [a,b]) σ H QT:=h
theorem JS{a b:RE}(h:br Γ a σ H fun c H1=>if c=true then br Γ b σ H1 QT else QT false H1):br Γ (.and [a,b]) σ H QT:=h
end
end L2
namespace L2.B
open PySem PySem.Spec PyProof.Rows
section
variable {Γ:aE} {σ:St} {H:Hp} {Q:VK} {QT:Bool→Hp→Prop} {K:PySem.W.Frag}
theorem rH{a b:RE}{r:List RE}(h:br Γ a σ H fun c H1=>if c=true then QT true H1 else br Γ (.or (b::r)) σ H1 QT):br Γ (.or (a::b::r)) σ H QT:=h
theorem JT{a:RE}(h:br Γ a σ H QT):br Γ (.or [a]) σ H QT:=h
theorem yp{a b:RE}{r:List RE}(h:br Γ a σ H fun c H1=>if c=true then br Γ (.and (b::r)) σ H1 QT else QT false H1):br Γ (.and (a::b::r)) σ H QT:=h
theorem aba{a:RE}(h:br Γ a σ H QT):br Γ (.and [a]) σ H QT:=h
theorem abb{T:Ty}{a:RE}(h:ag Γ a σ H fun x H1=>bG T x H1 fun b=>QT b H1):br Γ (.dw T a) σ H QT:=by
 show dy Γ.K (cQ (ig T) (cM (ag Γ a) (cM (tC (.ty T.nm)) ee))) σ H QT
 have e: ∀(q:VK),(fun(x:V) (H1:Hp)=>bG T x H1 fun b=>q (.bl b) H1)=fun x H1=>ig T [x, .ty T.nm] H1 q:=by
  intro q;funext x H1;simp[ig]
 show ag Γ a σ H fun x H1=>ig T [x, .ty T.nm] H1 fun v H2=>fQ Γ.K v H2 fun b=>QT b H2
 rw[←e];exact h
theorem aH{sd:Addr→List (Key×V)→Prop}{a:Addr}{xs:List V}{i:Int}{v:V}(h:H a=some (.tup xs))(e:dJ xs i=some v)(q:Q v H):ij K sd (.ref a) (.int i) H Q:=
 .inr (.inl ⟨_,_,_,_,rfl,rfl,aX.of h,e,q⟩)
theorem mP{x y:Int}(q:Q (.bl (decide (x=y))) H):bZ K .Eq (.int x) (.int y) H Q:=by
 show Q (.bl (false ^^ decide (V.int x=V.int y))) H
 rw[Bool.false_xor,show decide (V.int x=V.int y)=decide (x=y) from decide_eq_decide.mpr ⟨fun z=>by injection z,fun z=>by rw[z]⟩];exact q
theorem cnI{x y:Int}(q:Q (.bl (!decide (x=y))) H):bZ K .NotEq (.int x) (.int y) H Q:=by
 show Q (.bl (true ^^ decide (V.int x=V.int y))) H
 rw[Bool.true_xor,show decide (V.int x=V.int y)=decide (x=y) from decide_eq_decide.mpr ⟨fun z=>by injection z,fun z=>by rw[z]⟩];exact q
theorem yq{x:Str}(q:Q (.bl false) H):bZ K .NotEq (.str x) (.str x) H Q:=by
 refine mM ?_
 rw[show(x !=x)=false by simp];exact q
theorem cy{i j:Int}(h:Q (.int (i+j)) H):mh K .Add (.int i) (.int j) H Q:=h
end
theorem abd{K:PySem.W.Frag}{H:Hp}{x y:Int}{Q:VK}(q:Q (.bl (decide (x<y))) H):bZ K .Lt (.int x) (.int y) H Q:=⟨trivial,q⟩
theorem abe(ps:List Str)(z:Str):(cat (ps++ [z])).cps.toList=(cat ps).cps.toList++z.cps.toList:=by rw[aaA,aaB,app_list]
def pre(ts:List Str)(k:Nat):Nat:=(aq (ts.take k)).length
theorem JU(t:Str)(r:List Str):aq (t::r)=t.cps.toList++aq r:=by simp[aq]
theorem JV{ts:List Str}{k:Nat}(h:ts.length≤k):pre ts k=(aq ts).length:=by unfold pre;rw[List.take_of_length_le h]
theorem abf{ts:List Str}{k:Nat}{t:Str}(h:ts[k]?=some t):aq ts=aq (ts.take k)++ (t.cps.toList++aq (ts.drop (k+1))):=by
 obtain⟨h1,h2⟩:=List.getElem?_eq_some_iff.mp h
 conv=>lhs;rw[←List.take_append_drop k ts,List.drop_eq_getElem_cons h1,h2]
 rw[eB,JU]
theorem JW{ts:List Str}{k:Nat}{t:Str}(h:ts[k]?=some t):pre ts (k+1)=pre ts k+t.length:=by
 unfold pre
 rw[List.take_add_one,h,eB,List.length_append]
 show _+ (aq [t]).length=_
 rw[iM,len_list]
theorem abg(ts:List Str)(k:Nat):pre ts k≤ (aq ts).length:=by
 have e:aq ts=aq (ts.take k)++aq (ts.drop k):=by rw[←eB,List.take_append_drop]
 rw[e,List.length_append];unfold pre;omega
theorem abh(ts:List Str):pre ts 0=0:=rfl
theorem oO: ∀(ts:List Str) (k j:Nat),j<ts.length→(cI ts k)[j]?=some (((k+pre ts j:Nat):Int))
 | [],k,j,h=>by cases h
 | t::r,k,0,h=>by simp[cI,pre,aq]
 | t::r,k,j+1,h=>by
  have ih:=oO r (k+t.length) j (Nat.lt_of_succ_lt_succ h)
  show(cI r (k+t.length))[j]?=_
  rw[ih]
  have:pre (t::r) (j+1)=t.length+pre r j:=by
   unfold pre
   rw[List.take_succ_cons,JU,List.length_append,len_list]
  rw[this];congr 1;omega
theorem JX: ∀(ts:List Str) (k:Nat),∀x∈cI ts k,(k:Int)≤x
 | [],k,x,h=>by cases h
 | t::r,k,x,h=>by
  rcases List.mem_cons.mp h with rfl | h
  ·exact Int.le_refl _
  ·have:=JX r (k+t.length) x h
   omega
theorem yr: ∀(ts:List Str) (k:Nat),mF (cI ts k)
 | [],k=>List.Pairwise.nil
 | t::r,k=>List.Pairwise.cons (fun x hx=>by have:=JX r (k+t.length) x hx;omega) (yr r (k+t.length))
theorem abi{ts:List Str}{b:Nat}(h:b< (aq ts).length): ∃k,cw (cI ts 0) (b:Int)=k+1∧k<ts.length∧pre ts k≤b∧b≤pre ts (k+1):=by
 have hl:=yo ts 0
 have hc:=x6 (cI ts 0) (b:Int)
 have hr:=yr ts 0
 have abj:0<ts.length:=by
  cases ts with
  | nil=>simp[aq] at h
  | cons t r=>exact Nat.zero_lt_succ _
 have h0:=x9 (most:=(b:Int)) hr (oO ts 0 0 abj) (by rw[abh];omega)
 obtain⟨k,hk⟩: ∃k,cw (cI ts 0) (b:Int)=k+1:=⟨cw (cI ts 0) (b:Int) - 1,by omega⟩
 have JY:k<ts.length:=by omega
 refine⟨k,hk,JY, ?_, ?_⟩
 ·by_cases q:pre ts k≤b
  ·exact q
  ·have:=Jl (most:=(b:Int)) hr (oO ts 0 k JY) (by omega)
   omega
 ·by_cases q:k+1<ts.length
  ·by_cases z:b≤pre ts (k+1)
   ·exact z
   ·have:=x9 (most:=(b:Int)) hr (oO ts 0 (k+1) q) (by omega)
    omega
  ·rw[JV (by omega)];omega
theorem abk{ts:List Str}{k c m:Nat}{t:Str}(h:ts[k]?=some t)(h1:pre ts k≤c)(h2:c≤pre ts (k+1)):(t.cps.toList.drop (c - pre ts k)).take m=((aq ts).drop c).take (min m (pre ts (k+1) - c)):=by
 rw[abf h]
 have hp:=JW h
 have lt:=len_list t
 have e:(aq (ts.take k)++ (t.cps.toList++aq (ts.drop (k+1)))).drop c=t.cps.toList.drop (c - pre ts k)++aq (ts.drop (k+1)):=by
  rw[List.drop_append,List.drop_of_length_le (show(aq (ts.take k)).length≤c from h1),List.nil_append]
  show(t.cps.toList++_).drop (c - pre ts k)=_
  rw[List.drop_append_of_le_length (by omega)]
 rw[e]
 have hl:(t.cps.toList.drop (c - pre ts k)).length=pre ts (k+1) - c:=by rw[List.length_drop];omega
 rw[List.take_append_of_le_length (by rw[hl];omega),←hl,←List.take_take,List.take_length]
theorem abl{l:List Nat}(b c m:Nat)(h:b≤c):(l.drop b).take (c - b)++ (l.drop c).take m=(l.drop b).take (c+m - b):=by
 rw[show c+m - b=(c - b)+m by omega,List.take_add,List.drop_drop,show b+ (c - b)=c by omega]
def abm(vb vn:V)(n:Nat)(H:Hp):Prop:=yj vb 0 (n:Int) H∨ ∃b:Int,vb= .int b∧0≤b∧b≤ (n:Int)∧yj vn 0 ((n:Int) - b) H
def oP(CP C:Addr):Sp:=fun vs H Q E=> ∃(p dx lt lb lf:Addr) (ts:List Str) (vb vn:V),vs=[.ref p,vb,vn]∧bX C H p dx lt lb lf ts∧((abm vb vn (aq ts).length H∧E (.ref CP) none H)∨
 ∃b n:Nat,vb= .int (b:Nat)∧vn= .int (n:Nat)∧b+n≤ (aq ts).length∧ts.length≤100000∧(aq ts).length≤1000000∧(∀t∈ts,t.length≤1000000)∧ ∀H',aI H H'→Q (.str ⟨(((aq ts).drop b).take n).toArray⟩) H')
abbrev mQ:List (Str×Sp):=[("is_between",eA),("many_upto",kT)]
theorem abn{K:PySem.W.Frag}{CP C:Addr}(T:ou K C)(vs:List V)(H:Hp)(Q:VK)(E:XK)(h:oP CP C vs H Q E):ar (aS K mQ [] (et:=[("NoPlace",CP)]) (E:=E)) wz (Dn Q) (start wy vs) H:=by
 obtain⟨p,dx,lt,lb,lf,ts,vb,vn,rfl,S,h⟩:=h
 have fs: ∀{H1:Hp} {σ:St} {Q':VK},aI H H1→σ[0]?=some (some (.ref p))→Q' (.int (aq ts).length) H1→ag (aS K mQ [] (et:=[("NoPlace",CP)]) (E:=E)) (.fld (.v 0) "signs") σ H1 Q':=fun s e q=> ⟨_,e,p,C,dx,_,_,rfl,s _ _ S.ob,T.cl,T.qY,JK,q⟩
 have fb: ∀{H1:Hp} {σ:St} {Q':VK},aI H H1→σ[0]?=some (some (.ref p))→Q' (.ref lb) H1→ag (aS K mQ [] (et:=[("NoPlace",CP)]) (E:=E)) (.fld (.v 0) "begins") σ H1 Q':=fun s e q=> ⟨_,e,p,C,dx,_,_,rfl,s _ _ S.ob,T.cl,T.qX,yk,q⟩
 have ft: ∀{H1:Hp} {σ:St} {Q':VK},aI H H1→σ[0]?=some (some (.ref p))→Q' (.ref lt) H1→ag (aS K mQ [] (et:=[("NoPlace",CP)]) (E:=E)) (.fld (.v 0) "texts") σ H1 Q':=fun s e q=> ⟨_,e,p,C,dx,_,_,rfl,s _ _ S.ob,T.cl,T.ow,rF,q⟩
 have rz:=aI.refl H
 rcases h with⟨hb | ⟨b,rfl,h1,h2,hb⟩,q⟩ | ⟨b,n,rfl,rfl,hbn,htl,hsl,hts,q⟩
 ·refine bP (iP (fm (gY eA rfl (ax (ai rfl (ax (ay (ax (fs rz rfl (aP ⟨_,_,_,rfl, .inr ⟨hb,fk (iT (iT ?_ rfl) rfl)⟩⟩))))))))))
  exact⟨(by show 1≤sizeLine;decide),q⟩
 ·refine bP (iP (fm (gY eA rfl (ax (ai rfl (ax (ay (ax (fs rz rfl (aP ⟨_,_,_,rfl, .inl ⟨b,rfl,h1,h2,fk (iF ?_ rfl)⟩⟩))))))))))
  refine fm (gY eA rfl (ax (ai rfl (ax (ay (ax (aU (fs rz rfl (ai rfl ⟨trivial,aP ⟨_,_,_,rfl, .inr ⟨hb,fk (iT ?_ rfl)⟩⟩⟩)))))))))
  exact⟨(by show 1≤sizeLine;decide),q⟩
 ·refine bP (iP (fm (gY eA rfl (ax (ai rfl (ax (ay (ax (fs rz rfl (aP ⟨_,_,_,rfl, .inl ⟨_,rfl,by omega,by omega,fk (iF ?_ rfl)⟩⟩))))))))))
  refine fm (gY eA rfl (ax (ai rfl (ax (ay (ax (aU (fs rz rfl (ai rfl ⟨trivial,aP ⟨_,_,_,rfl, .inl ⟨_,rfl,by omega,by omega,fk (iF ?_ rfl)⟩⟩⟩)))))))))
  refine bw (eQ (aP ⟨Nat.zero_le _,fun d hd=> ?_⟩))
  have s1:=sameNew (o:= .lst []) hd
  refine bw (aU (bH kT rfl (ax (fb s1 rfl (ax (ai rfl (aP ⟨lb,cI ts 0,_,rfl,s1 _ _ S.bg,yr ts 0,ay ⟨trivial, ?_⟩⟩)))))))
  refine bw (aU (ai rfl (ai rfl (cy ?_))))
  have iO:upd H d (.lst []) d=some (.lst (([]:List Str).map V.str)):=aN
  refine aa0 (fun m σ H2=> ∃(c:Nat) (k:Int) (ps:List Str) (u6 u7:Option V),m=ts.length+1 - k.toNat∧σ=[some (.ref p),some (.int (c:Nat)),some (.int (n:Nat)),some (.ref d),some (.int k),some (.int ((b:Int)+ (n:Int))),u6,u7]∧b7 d H H2∧H2 d=some (.lst (ps.map V.str))∧b≤c∧c≤b+n∧(cat ps).cps.toList=((aq ts).drop b).take (c - b)∧ps.length≤k.toNat+1∧
    (c<b+n→ ∃j:Nat,k=(j:Int)∧j<ts.length∧pre ts j≤c∧c≤pre ts (j+1)))
   ⟨_,b,((cw (cI ts 0) (b:Int):Nat):Int) - 1,[],none,none,rfl,rfl,fun x o e nx=>by rw[aK nx];exact e,iO,Nat.le_refl _,by omega,by rw[aaC,Nat.sub_self,List.take_zero];rfl,Nat.zero_le _,fun bc=> ?_⟩ ?_
  ·obtain⟨j,e,h1,h2,h3⟩:=abi (ts:=ts) (b:=b) (by omega)
   exact⟨j,by omega,h1,h2,h3⟩
  rintro m σ H2 ⟨c,k,ps,u6,u7,rfl,rfl,b2,hd2,hbc,hcn,cH,gC,mv⟩
  refine bJ (ai rfl (ai rfl (abd ⟨_,rfl, ?_⟩)))
  refine dv (fun bc=> ?_) (fun bc=> ?_)
  ·have yt:c<b+n:=by have:=of_decide_eq_true bc;omega
   obtain⟨j,rfl,gZ,qJ,hj2⟩:=mv yt
   clear mv
   have nd: ∀{a:Addr} {o:HO},H a=some o→H2 a=some o:=fun {a o} e=>b2 a o e (fun z=>by rw[z,hd] at e;cases e)
   have tj:ts[j]?=some ts[j]:=List.getElem?_eq_getElem gZ
   have fb2: ∀{σ:St} {Q':VK},σ[0]?=some (some (.ref p))→Q' (.ref lb) H2→ag (aS K mQ [] (et:=[("NoPlace",CP)]) (E:=E)) (.fld (.v 0) "begins") σ H2 Q':=fun e q=> ⟨_,e,p,C,dx,_,_,rfl,nd S.ob,T.cl,T.qX,yk,q⟩
   have ft2: ∀{σ:St} {Q':VK},σ[0]?=some (some (.ref p))→Q' (.ref lt) H2→ag (aS K mQ [] (et:=[("NoPlace",CP)]) (E:=E)) (.fld (.v 0) "texts") σ H2 Q':=fun e q=> ⟨_,e,p,C,dx,_,_,rfl,nd S.ob,T.cl,T.ow,rF,q⟩
   have ab:dJ ((cI ts 0).map V.int) (j:Int)=some (.int (pre ts j:Nat)):=l_ (by rw[List.getElem?_map,oO ts 0 j gZ,Nat.zero_add];rfl)
   have at':dJ (ts.map V.str) (j:Int)=some (.str ts[j]):=l_ (by rw[List.getElem?_map,tj];rfl)
   have tle:=hts _ (List.getElem_mem gZ)
   refine⟨_,fun σ' JD q=>q, ?_⟩
   refine bw (aU (ai rfl (bI (fb2 rfl (ai rfl (mI (nd S.bg) ab ⟨trivial, ?_⟩))))))
   refine bw ?_
   refine⟨_,rfl,p,C,dx,_,_,rfl,nd S.ob,T.cl,T.ow,rF,_,rfl,mI (nd S.tx) at' ?_⟩
   refine⟨_,rfl,_,rfl,_,rfl,_,rfl,_,rfl,trivial,_,rfl,bV tle, ?_⟩
   have ec:fN ts[j] (some ((c:Int) - (pre ts j:Nat))) (some ((c:Int) - (pre ts j:Nat)+ ((b:Int)+ (n:Int)) - (c:Int)))=⟨((aq ts).drop c).take (min (b+n - c) (pre ts (j+1) - c)) |>.toArray⟩:=by
    rw[show(c:Int) - (pre ts j:Nat)=((c - pre ts j:Nat):Int) by omega,show((c - pre ts j:Nat):Int)+ ((b:Int)+ (n:Int)) - (c:Int)=((c - pre ts j:Nat):Int)+ ((b+n - c:Nat):Int) by omega,aaZ (c - pre ts j) ((b+n - c:Nat):Int) (b+n - c) rfl,abk tj qJ hj2]
   rw[ec]
   have hpz:=abg ts (j+1)
   have lz:(⟨(((aq ts).drop c).take (min (b+n - c) (pre ts (j+1) - c))).toArray⟩:Str).length=min (b+n - c) (pre ts (j+1) - c):=by
    rw[len_list]
    show(((aq ts).drop c).take _).length=_
    rw[List.length_take,List.length_drop];omega
   generalize hz:(⟨(((aq ts).drop c).take (min (b+n - c) (pre ts (j+1) - c))).toArray⟩:Str)=z at lz⊢
   refine k_ (eR (ai rfl ⟨.inl ⟨rfl,_,aC.of hd2⟩,ai rfl ⟨_,hd2,gc (by rw[List.length_map];omega), ?_⟩⟩))
   refine bw (aU (ai rfl (oG (ax (ai rfl (aP ⟨bV (by omega),cy ?_⟩))))))
   refine bw (aU (ai rfl (ay (cy ?_))))
   refine⟨_, ?_,c+z.length,((j:Int)+1),ps++ [z],some (.int ((c:Int) - (pre ts j:Nat))),some (.str z),rfl, ?_,b2.trans b7.upd, ?_,by omega,by omega, ?_, ?_, ?_⟩
   ·omega
   ·show[_,some (V.int ((c:Int)+ (z.length:Int))),_,_,_,_,_,_]=_
    rw[Int.natCast_add]
   ·rw[aN,List.map_append];rfl
   ·rw[abe,cH,←hz]
    show _++ ((aq ts).drop c).take _=_
    rw[abl b c _ hbc,hz,lz]
   ·rw[List.length_append];show ps.length+1≤_;omega
   ·intro ma
    have e3:c+z.length=pre ts (j+1):=by omega
    have JZ:j+1<ts.length:=by
     by_cases q:j+1<ts.length
     ·exact q
     ·have:=JV (ts:=ts) (k:=j+1) (by omega)
      omega
    have rJ:=JW (List.getElem?_eq_getElem JZ)
    exact⟨j+1,by omega,JZ,by omega,by omega⟩
  ·have yt:c=b+n:=by
    have: ¬((c:Int) < (b:Int)+ (n:Int)):=fun z=>bc (decide_eq_true z)
    omega
   subst yt
   rw[show b+n - b=n by omega] at cH
   have lc:(cat ps).length≤1000000:=by rw[len_list,cH,List.length_take,List.length_drop];omega
   refine cY (eR (ay ⟨rfl,ai rfl ⟨ps,aC.of hd2,joinOk_of (by rw[←Jw];exact lc), ?_⟩⟩))
   have es:Txt.join "" ps=⟨(((aq ts).drop b).take n).toArray⟩:=gd cH
   rw[es]
   exact q H2 fun a o e=>b2 a o e (fun z=>by rw[z,hd] at e;cases e)
end L2.B
namespace L2.N
open PySem PySem.Spec PyProof.Rows L2.B
abbrev tp(p:P3):HO:= .tup [.int p.1, .int p.2.1, .int p.2.2]
def Pc(H:Hp)(v:V)(p:P3):Prop:= ∃q,v= .ref q∧H q=some (tp p)
abbrev fo(H:Hp):List V→List P3→Prop:=Paired (Pc H)
theorem Pc.mono{H H':Hp}{v:V}{p:P3}(t:iK H H')(h:Pc H v p):Pc H' v p:=by
 obtain⟨a,e,h⟩:=h
 exact⟨a,e,t _ _ h⟩
theorem fo.mono{H H':Hp}(t:iK H H'): ∀{vs:List V} {ps:List P3},fo H vs ps→fo H' vs ps
 | _,_, .nil=> .nil
 | _,_, .cons h r=> .cons (h.mono t) (fo.mono t r)
theorem fo.app{H:Hp}: ∀{vs ws:List V} {ps qs:List P3},fo H vs ps→fo H ws qs→fo H (vs++ws) (ps++qs)
 | _,_,_,_, .nil,b=>b
 | _,_,_,_, .cons h r,b=> .cons h (fo.app r b)
def Nd(H:Hp):Tr→V→Prop
 | .nil,v=>v= .av
 | .node l a b c r,v=> ∃p q vl vr,v= .ref p∧H p=some (.tup [vl, .ref q,vr, .int (Tr.node l a b c r).h, .int (Tr.node l a b c r).sz, .int (Tr.node l a b c r).en])∧H q=some (tp (a,b,c))∧Nd H l vl∧Nd H r vr
theorem Nd.mono{H H':Hp}(t:iK H H'): ∀{x:Tr} {v:V},Nd H x v→Nd H' x v
 | .nil,_,h=>h
 | .node l a b c r,_,⟨p,q,vl,vr,e,h1,h2,h3,h4⟩=> ⟨p,q,vl,vr,e,t _ _ h1,t _ _ h2,h3.mono t,h4.mono t⟩
def d0:Sp:=fun vs H Q E=> ∃v t,vs=[v]∧Nd H t v∧Q (.int t.h) H
def g4:Sp:=fun vs H Q E=> ∃v t,vs=[v]∧Nd H t v∧Q (.int t.sz) H
def lg:Sp:=fun vs H Q E=> ∃v t,vs=[v]∧Nd H t v∧Q (.int t.en) H
theorem abu{K:PySem.W.Frag}(vs:List V)(H:Hp)(Q:VK)(E:XK)(h:d0 vs H Q E):ar (aS K [] [] (E:=E)) wC {nx:=fun _ H'=>Q .av H',rt:=Q} (start wB vs) H:=by
 obtain⟨v,t,rfl,hn,q⟩:=h
 refine⟨_,rfl,rfl,_,rfl, ?_⟩
 cases t with
 | nil=>cases hn;exact iT q
 | node l a b c r=>
  obtain⟨p,qq,vl,vr,rfl,h1, -⟩:=hn
  exact iF ⟨_,rfl,aH h1 rfl q⟩
theorem abv{K:PySem.W.Frag}(vs:List V)(H:Hp)(Q:VK)(E:XK)(h:g4 vs H Q E):ar (aS K [] [] (E:=E)) wF {nx:=fun _ H'=>Q .av H',rt:=Q} (start wD vs) H:=by
 obtain⟨v,t,rfl,hn,q⟩:=h
 refine⟨_,rfl,rfl,_,rfl, ?_⟩
 cases t with
 | nil=>cases hn;exact iT q
 | node l a b c r=>
  obtain⟨p,qq,vl,vr,rfl,h1, -⟩:=hn
  exact iF ⟨_,rfl,aH h1 rfl q⟩
theorem abw{K:PySem.W.Frag}(vs:List V)(H:Hp)(Q:VK)(E:XK)(h:lg vs H Q E):ar (aS K [] [] (E:=E)) wH {nx:=fun _ H'=>Q .av H',rt:=Q} (start wG vs) H:=by
 obtain⟨v,t,rfl,hn,q⟩:=h
 refine⟨_,rfl,rfl,_,rfl, ?_⟩
 cases t with
 | nil=>cases hn;exact iT q
 | node l a b c r=>
  obtain⟨p,qq,vl,vr,rfl,h1, -⟩:=hn
  exact iF ⟨_,rfl,aH h1 rfl q⟩
abbrev abx:List (Str×Sp):=[("height_of",d0),("size_of",g4),("ends_of",lg)]
def g5:Sp:=fun vs H Q E=> ∃vl q vr l r a b c,vs=[vl, .ref q,vr]∧Nd H l vl∧Nd H r vr∧H q=some (tp (a,b,c))∧ ∀v H',aI H H'→Nd H' (.node l a b c r) v→Q v H'
theorem aby{K:PySem.W.Frag}(vs:List V)(H:Hp)(Q:VK)(E:XK)(h:g5 vs H Q E):ar (aS K abx [] (E:=E)) wJ {nx:=fun _ H'=>Q .av H',rt:=Q} (start wI vs) H:=by
 obtain⟨vl,q,vr,l,r,a,b,c,rfl,hl,hr,hq,k⟩:=h
 refine⟨_,rfl,vl,l,rfl,hl,_,rfl,vr,r,rfl,hr, ?_⟩
 refine⟨_,rfl,vl,l,rfl,hl,_,rfl,aH hq rfl ⟨_,rfl,vr,r,rfl,hr, ?_⟩⟩
 refine⟨_,rfl,_,rfl,_,rfl,_,rfl,_,rfl,_,rfl,vl,l,rfl,hl,_,rfl,aH hq rfl ⟨_,rfl,vr,r,rfl,hr,(by show 6≤sizeLine;decide),fun t ht=> ?_⟩⟩
 have s:=sameNew (o:= .tup [vl, .ref q,vr, .int (1+ (if r.h>l.h then r.h else l.h)), .int (l.sz+b+r.sz), .int (l.en+c+r.en)]) ht
 exact k _ _ s ⟨t,q,vl,vr,rfl,aN,s _ _ hq,hl.mono (bj s),hr.mono (bj s)⟩
abbrev J0:List (Str×Sp):=[("height_of",d0),("made",g5)]
def rK:Sp:=fun vs H Q E=> ∃vl q vr l r a b c,vs=[vl, .ref q,vr]∧Nd H l vl∧Nd H r vr∧H q=some (tp (a,b,c))∧l.ok∧r.ok∧l.h=r.h+2∧ ∀v H' t,aI H H'→Nd H' t v→Tr.gb l a b c r t→Q v H'
def rL:Sp:=fun vs H Q E=> ∃vl q vr l r a b c,vs=[vl, .ref q,vr]∧Nd H l vl∧Nd H r vr∧H q=some (tp (a,b,c))∧l.ok∧r.ok∧r.h=l.h+2∧ ∀v H' t,aI H H'→Nd H' t v→Tr.gb l a b c r t→Q v H'
theorem abz{K:PySem.W.Frag}(vs:List V)(H:Hp)(Q:VK)(E:XK)(h:rK vs H Q E):ar (aS K J0 [] (E:=E)) wL {nx:=fun _ H'=>Q .av H',rt:=Q} (start wK vs) H:=by
 obtain⟨vl,q,vr,l,r,a',b',c',rfl,hl,hr,hq,o1,o2,hh,k⟩:=h
 have r0:=Tr.h0 r
 obtain⟨ll,a,b,c,lr,rfl⟩:=Tr.mE (t:=l) (by omega)
 obtain⟨p,ql,lh,mR,rfl,hp,lj,lA,fj⟩:=hl
 refine⟨_,rfl,aH hp rfl ?_⟩
 refine⟨_,rfl,aH hp rfl ⟨lh,ll,rfl,lA,_,rfl,mR,lr,rfl,fj,trivial,_,rfl, ?_⟩⟩
 refine dv (fun h=> ?_) (fun h=> ?_)
 ·have kQ:lr.h≤ll.h:=of_decide_eq_true h
  refine⟨_,rfl,aH hp rfl ⟨_,rfl,aH hp rfl ⟨_,rfl,_,rfl,_,rfl,mR,q,vr,lr,r,a',b',c',rfl,fj,hr,hq,fun v H1 s1 n1=> ?_⟩⟩⟩
  refine⟨lh,ql,v,ll,_,a,b,c,rfl,lA.mono (bj s1),n1,s1 _ _ lj,fun v2 H2 s2 n2=> ?_⟩
  exact k _ _ _ (s1.trans s2) n2 (Tr.aaa o1 o2 hh kQ)
 ·have bc:ll.h<lr.h:=by
   have: ¬lr.h≤ll.h:=fun z=>h (decide_eq_true z)
   omega
  have l0:=Tr.h0 ll
  obtain⟨il,x,y,z,ir,rfl⟩:=Tr.mE (t:=lr) (by omega)
  obtain⟨pi,qi,yu,yv,rfl,lB,yw,yx,yy⟩:=fj
  refine⟨_,rfl,aH hp rfl ⟨_,rfl,aH hp rfl ⟨_,rfl,aH lB rfl ⟨lh,ql,yu,ll,il,a,b,c,rfl,lA,yx,lj,fun v H1 s1 n1=> ?_⟩⟩⟩⟩
  refine⟨_,rfl,aH (s1 _ _ lB) rfl ⟨_,rfl,aH (s1 _ _ lB) rfl ⟨_,rfl,_,rfl,yv,q,vr,ir,r,a',b',c',rfl,yy.mono (bj s1),hr.mono (bj s1),s1 _ _ hq,fun v2 H2 s2 n2=> ?_⟩⟩⟩
  refine⟨v,qi,v2,_,_,x,y,z,rfl,n1.mono (bj s2),n2,s2 _ _ (s1 _ _ yw),fun v3 H3 s3 n3=> ?_⟩
  exact k _ _ _ (s1.trans (s2.trans s3)) n3 (Tr.aab o1 o2 hh bc)
theorem abA{K:PySem.W.Frag}(vs:List V)(H:Hp)(Q:VK)(E:XK)(h:rL vs H Q E):ar (aS K J0 [] (E:=E)) wN {nx:=fun _ H'=>Q .av H',rt:=Q} (start wM vs) H:=by
 obtain⟨vl,q,vr,l,r,a,b,c,rfl,hl,hr,hq,o1,o2,hh,k⟩:=h
 have r0:=Tr.h0 l
 obtain⟨rl,a',b',c',rr,rfl⟩:=Tr.mE (t:=r) (by omega)
 obtain⟨p,qr,mS,lE,rfl,hp,rM,gg,lG⟩:=hr
 refine⟨_,rfl,aH hp rfl ?_⟩
 refine⟨_,rfl,aH hp rfl ⟨lE,rr,rfl,lG,_,rfl,mS,rl,rfl,gg,trivial,_,rfl, ?_⟩⟩
 refine dv (fun h=> ?_) (fun h=> ?_)
 ·have kQ:rl.h≤rr.h:=of_decide_eq_true h
  refine⟨_,rfl,_,rfl,_,rfl,vl,q,mS,l,rl,a,b,c,rfl,hl,gg,hq,fun v H1 s1 n1=> ?_⟩
  refine⟨_,rfl,aH (s1 _ _ hp) rfl ⟨_,rfl,aH (s1 _ _ hp) rfl ⟨v,qr,lE,_,rr,a',b',c',rfl,n1,lG.mono (bj s1),s1 _ _ rM,fun v2 H2 s2 n2=> ?_⟩⟩⟩
  exact k _ _ _ (s1.trans s2) n2 (Tr.aac o1 o2 hh kQ)
 ·have bc:rr.h<rl.h:=by
   have: ¬rl.h≤rr.h:=fun z=>h (decide_eq_true z)
   omega
  have l0:=Tr.h0 rr
  obtain⟨il,x,y,z,ir,rfl⟩:=Tr.mE (t:=rl) (by omega)
  obtain⟨pi,qi,yu,yv,rfl,lB,yw,yx,yy⟩:=gg
  refine⟨_,rfl,_,rfl,_,rfl,aH lB rfl ⟨vl,q,yu,l,il,a,b,c,rfl,hl,yx,hq,fun v H1 s1 n1=> ?_⟩⟩
  refine⟨_,rfl,aH (s1 _ _ lB) rfl ⟨_,rfl,aH (s1 _ _ lB) rfl ⟨_,rfl,aH (s1 _ _ hp) rfl ⟨_,rfl,aH (s1 _ _ hp) rfl ⟨yv,qr,lE,ir,rr,a',b',c',rfl,yy.mono (bj s1),lG.mono (bj s1),s1 _ _ rM,fun v2 H2 s2 n2=> ?_⟩⟩⟩⟩⟩
  refine⟨v,qi,v2,_,_,x,y,z,rfl,n1.mono (bj s2),n2,s2 _ _ (s1 _ _ yw),fun v3 H3 s3 n3=> ?_⟩
  exact k _ _ _ (s1.trans (s2.trans s3)) n3 (Tr.aad o1 o2 hh bc)
abbrev abB:List (Str×Sp):=[("height_of",d0),("turned_right",rK),("turned_left",rL),("made",g5)]
def rN:Sp:=fun vs H Q E=> ∃vl q vr l r a b c,vs=[vl, .ref q,vr]∧Nd H l vl∧Nd H r vr∧H q=some (tp (a,b,c))∧l.ok∧r.ok∧l.h≤r.h+2∧r.h≤l.h+2∧ ∀v H' t,aI H H'→Nd H' t v→Tr.gb l a b c r t→Q v H'
theorem abC{K:PySem.W.Frag}(vs:List V)(H:Hp)(Q:VK)(E:XK)(h:rN vs H Q E):ar (aS K abB [] (E:=E)) wQ {nx:=fun _ H'=>Q .av H',rt:=Q} (start wO vs) H:=by
 obtain⟨vl,q,vr,l,r,a,b,c,rfl,hl,hr,hq,o1,o2,hh1,hh2,k⟩:=h
 refine⟨_,rfl,vl,l,rfl,hl,_,rfl,vr,r,rfl,hr,trivial,_,rfl, ?_⟩
 refine dv (fun h=> ?_) (fun h=> ?_)
 ·have g:r.h+1<l.h:=of_decide_eq_true h
  exact⟨_,rfl,_,rfl,_,rfl,vl,q,vr,l,r,a,b,c,rfl,hl,hr,hq,o1,o2,by omega,k⟩
 ·have g: ¬r.h+1<l.h:=fun z=>h (decide_eq_true z)
  refine⟨_,rfl,vr,r,rfl,hr,_,rfl,vl,l,rfl,hl,trivial,_,rfl, ?_⟩
  refine dv (fun h=> ?_) (fun h=> ?_)
  ·have g2:l.h+1<r.h:=of_decide_eq_true h
   exact⟨_,rfl,_,rfl,_,rfl,vl,q,vr,l,r,a,b,c,rfl,hl,hr,hq,o1,o2,by omega,k⟩
  ·have g2: ¬l.h+1<r.h:=fun z=>h (decide_eq_true z)
   exact⟨_,rfl,_,rfl,_,rfl,vl,q,vr,l,r,a,b,c,rfl,hl,hr,hq,fun v H' s n=>k _ _ _ s n (Tr.Je o1 o2 (by omega) (by omega))⟩
def da(n:Nat):Sp:=fun vs H Q E=> ∃vl q vr l r a b c,vs=[vl, .ref q,vr]∧Nd H l vl∧Nd H r vr∧H q=some (tp (a,b,c))∧l.ok∧r.ok∧l.h+r.h<n∧ ∀v H' t,aI H H'→Nd H' t v→Tr.Jn l a b c r t→Q v H'
theorem abE(vs:List V)(H:Hp)(Q:VK)(E:XK): ¬da 0 vs H Q E:=by
 rintro⟨vl,q,vr,l,r,a,b,c, -, -, -, -, -, -,h, -⟩
 have:=Tr.h0 l
 have:=Tr.h0 r
 omega
abbrev abF(n:Nat):List (Str×Sp):=[("height_of",d0),("leveled",rN),("joined",da n),("made",g5)]
theorem abG{K:PySem.W.Frag}(n:Nat)(vs:List V)(H:Hp)(Q:VK)(E:XK)(h:da (n+1) vs H Q E):ar (aS K (abF n) [] (E:=E)) wU {nx:=fun _ H'=>Q .av H',rt:=Q} (start wR vs) H:=by
 obtain⟨vl,q,vr,l,r,a,b,c,rfl,hl,hr,hq,o1,o2,hh,k⟩:=h
 have r0:=Tr.h0 r
 have l0:=Tr.h0 l
 refine⟨_,rfl,vl,l,rfl,hl,_,rfl,vr,r,rfl,hr,trivial,_,rfl, ?_⟩
 refine dv (fun h=> ?_) (fun h=> ?_)
 ·have g:r.h+1<l.h:=of_decide_eq_true h
  obtain⟨ll,a1,b1,c1,lr,rfl⟩:=Tr.mE (t:=l) (by omega)
  obtain⟨p,ql,lh,mR,rfl,hp,lj,lA,fj⟩:=hl
  have e1:=Tr.cb ll a1 b1 c1 lr
  have bc:lr.h+r.h<n:=by
   have:lr.h< (Tr.node ll a1 b1 c1 lr).h:=by rw[e1];split<;>omega
   omega
  refine⟨_,rfl,aH hp rfl ⟨_,rfl,aH hp rfl ⟨_,rfl,aH hp rfl ⟨_,rfl,_,rfl,mR,q,vr,lr,r,a,b,c,rfl,fj,hr,hq,o1.2.1,o2,bc,fun v H1 t s1 n1 J=> ?_⟩⟩⟩⟩
  obtain⟨g1,g2⟩:=Tr.aah o1 g J
  refine⟨lh,ql,v,ll,t,a1,b1,c1,rfl,lA.mono (bj s1),n1,s1 _ _ lj,o1.1,J.ok,g1,g2,fun v2 H2 t2 s2 n2 L=> ?_⟩
  exact k _ _ _ (s1.trans s2) n2 (Tr.aaf o1 g J L)
 ·have g: ¬r.h+1<l.h:=fun z=>h (decide_eq_true z)
  refine⟨_,rfl,vr,r,rfl,hr,_,rfl,vl,l,rfl,hl,trivial,_,rfl, ?_⟩
  refine dv (fun h=> ?_) (fun h=> ?_)
  ·have g2:l.h+1<r.h:=of_decide_eq_true h
   obtain⟨rl,a1,b1,c1,rr,rfl⟩:=Tr.mE (t:=r) (by omega)
   obtain⟨p,qr,mS,lE,rfl,hp,rM,gg,lG⟩:=hr
   have e1:=Tr.cb rl a1 b1 c1 rr
   have bc:l.h+rl.h<n:=by
    have:rl.h< (Tr.node rl a1 b1 c1 rr).h:=by rw[e1];split<;>omega
    omega
   refine⟨_,rfl,_,rfl,_,rfl,aH hp rfl ⟨vl,q,mS,l,rl,a,b,c,rfl,hl,gg,hq,o1,o2.1,bc,fun v H1 t s1 n1 J=> ?_⟩⟩
   obtain⟨k1,k2⟩:=Tr.aai o2 g2 J
   refine⟨_,rfl,aH (s1 _ _ hp) rfl ⟨_,rfl,aH (s1 _ _ hp) rfl ⟨v,qr,lE,t,rr,a1,b1,c1,rfl,n1,lG.mono (bj s1),s1 _ _ rM,J.ok,o2.2.1,k1,k2,fun v2 H2 t2 s2 n2 L=> ?_⟩⟩⟩
   exact k _ _ _ (s1.trans s2) n2 (Tr.aag o2 g2 J L)
  ·have g2: ¬l.h+1<r.h:=fun z=>h (decide_eq_true z)
   exact⟨_,rfl,_,rfl,_,rfl,vl,q,vr,l,r,a,b,c,rfl,hl,hr,hq,fun v H' s n=>k _ _ _ s n (Tr.aae o1 o2 (by omega) (by omega))⟩
def iQ(n:Nat):Sp:=fun vs H Q E=> ∃v l a b c r,vs=[v]∧Nd H (.node l a b c r) v∧(Tr.node l a b c r).ok∧(Tr.node l a b c r).h<n∧(Tr.node l a b c r).h≤30∧
 ∀w H' q vt t a' b' c',aI H H'→H' w=some (.tup [vt, .ref q])→Nd H' t vt→H' q=some (tp (a',b',c'))→t.ok→(Tr.node l a b c r).ak=t.ak++ [(a',b',c')]→t.h≤ (Tr.node l a b c r).h→Q (.ref w) H'
theorem abH(vs:List V)(H:Hp)(Q:VK)(E:XK): ¬iQ 0 vs H Q E:=by
 rintro⟨v,l,a,b,c,r, -, -, -,h, -⟩
 have:=Tr.h0 (.node l a b c r)
 omega
abbrev abI(n:Nat):List (Str×Sp):=[("last_out",iQ n),("joined",da 64)]
theorem abJ{K:PySem.W.Frag}(n:Nat)(vs:List V)(H:Hp)(Q:VK)(E:XK)(h:iQ (n+1) vs H Q E):ar (aS K (abI n) [] (E:=E)) wW {nx:=fun _ H'=>Q .av H',rt:=Q} (start wV vs) H:=by
 obtain⟨v,l,a,b,c,r,rfl,⟨p,q,vl,vr,rfl,hp,hq,hl,hr⟩,ho,hh,h30,k⟩:=h
 have e1:=Tr.cb l a b c r
 have l0:=Tr.h0 l
 refine⟨_,rfl,aH hp rfl ⟨rfl,_,rfl, ?_⟩⟩
 cases r with
 | nil=>
  cases hr
  refine iT ⟨_,rfl,aH hp rfl ⟨_,rfl,aH hp rfl ⟨(by show 2≤sizeLine;decide),fun w hw=> ?_⟩⟩⟩
  have s:=sameNew (o:= .tup [vl, .ref q]) hw
  exact k w _ q vl l a b c s aN (hl.mono (bj s)) (s _ _ hq) ho.1 rfl (by rw[e1];split<;>omega)
 | node rl a1 b1 c1 rr=>
  obtain⟨p2,q2,mS,lE,rfl,rJ,eK,gg,lG⟩:=hr
  have bc:(Tr.node rl a1 b1 c1 rr).h< (Tr.node l a b c (.node rl a1 b1 c1 rr)).h:=by rw[e1];split<;>omega
  have hle:l.h< (Tr.node l a b c (.node rl a1 b1 c1 rr)).h:=by rw[e1];split<;>omega
  refine iF ⟨_,rfl,aH hp rfl ⟨.ref p2,rl,a1,b1,c1,rr,rfl,⟨p2,q2,mS,lE,rfl,rJ,eK,gg,lG⟩,ho.2.1,by omega,by omega,fun w H1 q3 vt t a2 b2 c2 s1 hw ht yz to yA th=> ?_⟩⟩
  refine⟨_,rfl,aH (s1 _ _ hp) rfl ⟨_,rfl,aH (s1 _ _ hp) rfl ⟨_,rfl,aH hw rfl ⟨vl,q,vt,l,t,a,b,c,rfl,hl.mono (bj s1),ht,s1 _ _ hq,ho.1,to,(by show l.h+t.h< (64:Nat);omega),fun v2 H2 t2 s2 n2 J=> ?_⟩⟩⟩⟩
  refine⟨_,rfl,aH (s2 _ _ hw) rfl ⟨(by show 2≤sizeLine;decide),fun w2 iR=> ?_⟩⟩
  have s3:=sameNew (o:= .tup [v2, .ref q3]) iR
  have jh:=J.hi
  refine k w2 _ q3 v2 t2 a2 b2 c2 (s1.trans (s2.trans s3)) aN (n2.mono (bj s3)) (s3 _ _ (s2 _ _ yz)) J.ok ?_ ?_
  ·rw[J.ak,Tr.ak,yA];simp
  ·have:=J.hi;omega
def g6(n:Nat):Sp:=fun vs H Q E=> ∃v t,vs=[v]∧Nd H t v∧t.h<n∧t.ak.length≤1000∧ ∀w H' xs,aI H H'→H w=none→H' w=some (.lst xs)→fo H' xs t.ak→Q (.ref w) H'
theorem abL(vs:List V)(H:Hp)(Q:VK)(E:XK): ¬g6 0 vs H Q E:=by
 rintro⟨v,t, -, -,h, -⟩
 have:=Tr.h0 t
 omega
theorem J3{l r:Tr}{a b c:Int}{n:Nat}(h:(Tr.node l a b c r).ak.length≤n):l.ak.length+r.ak.length+1≤n:=by
 simp only[Tr.ak,List.length_append,List.length_cons] at h;omega
theorem J4(l r:Tr)(a b c:Int):l.h< (Tr.node l a b c r).h∧r.h< (Tr.node l a b c r).h:=by
 rw[Tr.cb];split<;>omega
theorem abM{K:PySem.W.Frag}(n:Nat)(vs:List V)(H:Hp)(Q:VK)(E:XK)(h:g6 (n+1) vs H Q E):ar (aS K [("pieces_of",g6 n)] [] (E:=E)) xb {nx:=fun _ H'=>Q .av H',rt:=Q} (start xa vs) H:=by
 obtain⟨v,t,rfl,hn,hh,hl,k⟩:=h
 refine⟨_,rfl,rfl,_,rfl, ?_⟩
 cases t with
 | nil=>
  cases hn
  exact iT ⟨Nat.zero_le _,fun w hw=>k w _ [] (sameNew hw) hw aN .nil⟩
 | node l a b c r=>
  obtain⟨p,q,vl,vr,rfl,hp,hq,hnl,hnr⟩:=hn
  have e1:=J3 hl
  obtain⟨e2,e3⟩:=J4 l r a b c
  refine iF ⟨_,rfl,aH hp rfl ⟨vl,l,rfl,hnl,by omega,by omega,fun w H1 xs s1 fw hw px=> ?_⟩⟩
  have lx:=Paired.length px
  refine⟨_,rfl, .inl ⟨rfl,_,aC.of hw⟩,_,rfl,aH (s1 _ _ hp) rfl ⟨_,hw,gc (by omega), ?_⟩⟩
  have b1:b7 w H1 (upd H1 w (.lst (xs++ [V.ref q]))):=b7.upd
  have s2:aI H (upd H1 w (.lst (xs++ [V.ref q]))):=gT s1 fw b1
  have t1:=b1.b6 hw
  generalize hH2:upd H1 w (.lst (xs++ [V.ref q]))=H2 at s2 t1
  have yB:H2 w=some (.lst (xs++ [V.ref q])):=by rw[←hH2,aN]
  refine⟨_,rfl, .inl ⟨rfl,_,aC.of yB⟩,_,rfl,aH (s2 _ _ hp) rfl ⟨vr,r,rfl,hnr.mono (bj s2),by omega,by omega,fun w2 H3 ys s3 mT iR py=> ?_⟩⟩
  have ly:=Paired.length py
  refine⟨_,_,s3 _ _ yB,iR,bV (by simp;omega), ?_⟩
  have b3:b7 w H3 (upd H3 w (.lst (xs++ [V.ref q]++ys))):=b7.upd
  have t3:=b3.b6 (s3 _ _ yB)
  refine⟨_,rfl,k w _ (xs++ [V.ref q]++ys) (gT (s2.trans s3) fw b3) fw aN ?_⟩
  have e:(Tr.node l a b c r).ak=l.ak++ [(a,b,c)]++r.ak:=by simp[Tr.ak]
  rw[e]
  refine((((px.mono t1).mono (bj s3)).app (.cons ⟨q,rfl,s3 _ _ (t1 _ _ (s1 _ _ hq))⟩ .nil)).app py).mono t3
def ends(ts:List Str)(n:Int):Int:=(((aq ts).take n.toNat).count 10:Nat)
def rO(C:Addr):Sp:=fun vs H Q E=> ∃(p dx lt lb lf:Addr) (ts:List Str) (n:Int),vs=[.ref p, .int n]∧bX C H p dx lt lb lf ts∧0≤n∧Q (.int (ends ts n)) H
theorem abQ{K:PySem.W.Frag}{C:Addr}(T:ou K C)(vs:List V)(H:Hp)(Q:VK)(E:XK)(h:rO C vs H Q E):ar (aS K [("many_upto",kT)] [] (E:=E)) xg {nx:=fun _ H'=>Q .av H',rt:=Q} (start xf vs) H:=by
 obtain⟨p,dx,lt,lb,lf,ts,n,rfl,S,hn,q⟩:=h
 refine⟨_,rfl,p,C,dx,_,_,rfl,S.ob,T.cl,T.wA,JJ,_,rfl,trivial,lf,_,_,rfl,S.fd,aaj _ _, ?_⟩
 obtain⟨m,rfl⟩:=Int.eq_ofNat_of_zero_le hn
 rw[aak]
 exact q
abbrev abR(C:Addr):List (Str×Addr×Sp):=[("ends_ahead",C,rO C)]
theorem J5{lt lb lf:Addr}{n:Int}:(dh lt lb lf n).lookup ("ends_ahead":Str)=none:=yl (by decide+kernel) (by decide+kernel) (by decide+kernel) (by decide+kernel)
def rP(C:Addr):Sp:=fun vs H Q E=> ∃(q:Addr) (a b c n:Int) (p dx lt lb lf:Addr) (ts:List Str),vs=[.ref q, .int n, .ref p]∧H q=some (tp (a,b,c))∧bX C H p dx lt lb lf ts∧0≤a∧0≤n∧
 ∀(w q1 q2:Addr) (H':Hp),aI H H'→H' w=some (.tup [.ref q1, .ref q2])→H' q1=some (tp (a,n,ends ts (a+n) - ends ts a))→H' q2=some (tp (a+n,b - n,c - (ends ts (a+n) - ends ts a)))→Q (.ref w) H'
theorem abS{K:PySem.W.Frag}{C:Addr}(vs:List V)(H:Hp)(Q:VK)(E:XK)(h:rP C vs H Q E):ar (aS K [] [] [] (abR C) (E:=E)) w6 {nx:=fun _ H'=>Q .av H',rt:=Q} (start w5 vs) H:=by
 obtain⟨q,a,b,c,n,p,dx,lt,lb,lf,ts,rfl,hq,S,ha,hn,k⟩:=h
 refine⟨_,rfl,aH hq rfl ⟨_,rfl, ?_⟩⟩
 refine⟨_,rfl,p,dx,_,rfl,S.ob,J5,_,rfl,p,dx,lt,lb,lf,ts,_,rfl,S,(by show 0≤a+n;omega), ?_⟩
 refine⟨_,rfl,p,dx,_,rfl,S.ob,J5,_,rfl,aH hq rfl ⟨p,dx,lt,lb,lf,ts,a,rfl,S,ha,trivial, ?_⟩⟩
 refine⟨_,rfl,aH hq rfl ⟨_,rfl,_,rfl,(by show 3≤sizeLine;decide),fun q1 f1=> ?_⟩⟩
 have s1:=sameNew (o:=tp (a,n,ends ts (a+n) - ends ts a)) f1
 refine⟨_,rfl,_,rfl,aH (s1 _ _ hq) rfl ⟨_,rfl,trivial,_,rfl,aH (s1 _ _ hq) rfl ⟨_,rfl,trivial,(by show 3≤sizeLine;decide),fun q2 f2=> ?_⟩⟩⟩
 have s2:=sameNew (o:=tp (a+n,b - n,c - (ends ts (a+n) - ends ts a))) f2
 refine⟨(by show 2≤sizeLine;decide),fun w fw=> ?_⟩
 have s3:=sameNew (o:= .tup [V.ref q1,V.ref q2]) fw
 exact k w q1 q2 _ (s1.trans (s2.trans s3)) aN (s3 _ _ (s2 _ _ aN)) (s3 _ _ aN)
theorem eS: ∀t:Tr,t.sz=cv t.ak
 | .nil=>rfl
 | .node l a b c r=>by
  show l.sz+b+r.sz=cv (l.ak++ (a,b,c)::r.ak)
  rw[Jg,kO,eS l,eS r]
  show cv l.ak+b+cv r.ak=cv l.ak+ (b+cv r.ak)
  omega
def oQ(p:P3):Prop:=0≤p.1∧1≤p.2.1
def d5(C:Addr)(n:Nat):Sp:=fun vs H Q E=> ∃(v:V) (t:Tr) (pl:Int) (p dx lt lb lf:Addr) (ts:List Str),vs=[v, .int pl, .ref p]∧Nd H t v∧t.ok∧bX C H p dx lt lb lf ts∧(∀q∈t.ak,oQ q)∧t.h<n∧t.ak.length≤1000∧0≤pl∧pl≤t.sz∧
 ∀(w:Addr) (v1 v2:V) (t1 t2:Tr) (H':Hp),aI H H'→H' w=some (.tup [v1,v2])→Nd H' t1 v1→Nd H' t2 v2→t1.ok→t2.ok→t1.ak=cc (ends ts) t.ak pl→t2.ak=cf (ends ts) t.ak pl→Q (.ref w) H'
theorem abT(C:Addr)(vs:List V)(H:Hp)(Q:VK)(E:XK): ¬d5 C 0 vs H Q E:=by
 rintro⟨v,t,pl,p,dx,lt,lb,lf,ts, -, -, -, -, -,h, -⟩
 have:=Tr.h0 t
 omega
abbrev abU(C:Addr)(n:Nat):List (Str×Sp):=[("size_of",g4),("parted",d5 C n),("joined",da 64),("cut_in_two",rP C)]
theorem abV{K:PySem.W.Frag}{C:Addr}(n:Nat)(vs:List V)(H:Hp)(Q:VK)(E:XK)(h:d5 C (n+1) vs H Q E):ar (aS K (abU C n) [] (E:=E)) w_ {nx:=fun _ H'=>Q .av H',rt:=Q} (start w9 vs) H:=by
 obtain⟨v,t,pl,p,dx,lt,lb,lf,ts,rfl,hn,ho,S,yC,hh,hlen,hp0,hp1,k⟩:=h
 refine⟨_,rfl,rfl,_,rfl, ?_⟩
 cases t with
 | nil=>
  cases hn
  exact iT ⟨(by show 2≤sizeLine;decide),fun w hw=>k w .av .av .nil .nil _ (sameNew hw) aN rfl rfl trivial trivial rfl rfl⟩
 | node l a b c r=>
  obtain⟨pa,q,vl,vr,rfl,iS,hq,hl,hr⟩:=hn
  obtain⟨o1,o2,o3,o4⟩:=ho
  obtain⟨e2,e3⟩:=J4 l r a b c
  have e1:=J3 hlen
  have hZ:=eS l
  have alU:=eS r
  have rQ: ∀x∈l.ak,oQ x:=fun x hx=>yC x (by simp[Tr.ak,hx])
  have pr1: ∀x∈r.ak,oQ x:=fun x hx=>yC x (by simp[Tr.ak,hx])
  have pm:oQ (a,b,c):=yC _ (by simp[Tr.ak])
  have oR:(Tr.node l a b c r).ak=l.ak++ (a,b,c)::r.ak:=rfl
  have alV:(Tr.node l a b c r).sz=l.sz+b+r.sz:=rfl
  have alW:=Tr.eL o1 (by omega:l.ak.length≤1000)
  have alX:=Tr.eL o2 (by omega:r.ak.length≤1000)
  refine iF ⟨_,rfl,aH iS rfl ?_⟩
  refine⟨_,rfl,aH iS rfl ⟨vl,l,rfl,hl, ?_⟩⟩
  refine⟨_,rfl,_,rfl,aH hq rfl ?_⟩
  refine⟨_,rfl,_,rfl,trivial,_,rfl, ?_⟩
  refine dv (fun g=> ?_) (fun g=> ?_)
  ·have hle:pl≤l.sz:=of_decide_eq_true g
   refine⟨_,rfl,aH iS rfl ⟨_,rfl,_,rfl,vl,l,pl,p,dx,lt,lb,lf,ts,rfl,hl,o1,S,rQ,by omega,by omega,hp0,hle,fun w v1 v2 t1 t2 H1 s1 hw n1 n2 k1 k2 c1 c2=> ?_⟩⟩
   obtain⟨x1,x2⟩:=Ji (ends ts) ((a,b,c)::r.ak) l.ak pl (fun x hx=> (rQ x hx).2) (by omega)
   have l2:=(oz (ends ts) l.ak pl).2
   have h2:=Tr.eL k2 (by rw[c2];omega)
   refine⟨_,rfl,aH hw rfl ⟨_,rfl,aH hw rfl ⟨_,rfl,_,rfl,aH (s1 _ _ iS) rfl ⟨v2,q,vr,t2,r,a,b,c,rfl,n2,hr.mono (bj s1),s1 _ _ hq,k2,o2,(by show _< ((64:Nat):Int);omega),fun v3 H2 t3 s2 n3 J=> ⟨(by show 2≤sizeLine;decide),fun w2 mT=> ?_⟩⟩⟩⟩⟩
   have s3:=sameNew (o:= .tup [v1,v3]) mT
   refine k w2 v1 v3 t1 t3 _ (s1.trans (s2.trans s3)) aN ((n1.mono (bj s2)).mono (bj s3)) (n3.mono (bj s3)) k1 J.ok ?_ ?_
   ·rw[oR,x1,c1]
   ·rw[oR,x2,J.ak,c2]
  ·have hgt: ¬pl≤l.sz:=fun z=>g (decide_eq_true z)
   refine⟨_,rfl,_,rfl,trivial,_,rfl, ?_⟩
   refine dv (fun g=> ?_) (fun g=> ?_)
   ·have kQ:l.sz+b≤pl:=of_decide_eq_true g
    refine⟨_,rfl,aH iS rfl ⟨_,rfl,_,rfl,trivial,_,rfl,vr,r,pl - (l.sz+b),p,dx,lt,lb,lf,ts,rfl,hr,o2,S,pr1,by omega,by omega,by omega,by omega,fun w v1 v2 t1 t2 H1 s1 hw n1 n2 k1 k2 c1 c2=> ?_⟩⟩
    have ez:cv (l.ak++ [(a,b,c)])=l.sz+b:=by
     rw[Jg,kO,Jf,hZ]
     show cv l.ak+ (b+0)=_
     omega
    obtain⟨x1,x2⟩:=x3 (ends ts) r.ak (l.ak++ [(a,b,c)]) pl (fun x hx=>by
     rcases List.mem_append.mp hx with z | z
     ·exact(rQ x z).2
     ·rw[List.mem_singleton.mp z];exact pm.2) (by omega)
    have l1:=(oz (ends ts) r.ak (pl - (l.sz+b))).1
    have h1:=Tr.eL k1 (by rw[c1];omega)
    refine⟨_,rfl,aH (s1 _ _ iS) rfl ⟨_,rfl,_,rfl,aH hw rfl ⟨vl,q,v1,l,t1,a,b,c,rfl,hl.mono (bj s1),n1,s1 _ _ hq,o1,k1,(by show _< ((64:Nat):Int);omega),fun v3 H2 t3 s2 n3 J=> ?_⟩⟩⟩
    refine⟨_,rfl,aH (s2 _ _ hw) rfl ⟨(by show 2≤sizeLine;decide),fun w2 mT=> ?_⟩⟩
    have s3:=sameNew (o:= .tup [v3,v2]) mT
    have e5:(Tr.node l a b c r).ak=(l.ak++ [(a,b,c)])++r.ak:=by rw[oR];simp
    refine k w2 v3 v2 t3 t2 _ (s1.trans (s2.trans s3)) aN (n3.mono (bj s3)) ((n2.mono (bj s2)).mono (bj s3)) J.ok k2 ?_ ?_
    ·rw[e5,x1,ez,J.ak,c1];simp
    ·rw[e5,x2,ez,c2]
   ·have bc: ¬l.sz+b≤pl:=fun z=>g (decide_eq_true z)
    refine⟨_,rfl,_,rfl,_,rfl,trivial,_,rfl,q,a,b,c,pl - l.sz,p,dx,lt,lb,lf,ts,rfl,hq,S,pm.1,by omega,fun w q1 q2 H1 s1 hw h1 h2=> ?_⟩
    obtain⟨x1,x2⟩:=x3 (ends ts) ((a,b,c)::r.ak) l.ak pl (fun x hx=> (rQ x hx).2) (by omega)
    rw[←hZ] at x1 x2
    refine⟨_,rfl,aH (s1 _ _ iS) rfl ⟨_,rfl,aH hw rfl ⟨vl,q1, .av,l, .nil,a,pl - l.sz,_,rfl,hl.mono (bj s1),rfl,h1,o1,trivial,(by show _< ((64:Nat):Int);show l.h+0<64;omega),fun v3 H2 t3 s2 n3 J=> ?_⟩⟩⟩
    refine⟨_,rfl,aH (s2 _ _ hw) rfl ⟨_,rfl,aH (s2 _ _ (s1 _ _ iS)) rfl ⟨.av,q2,vr, .nil,r,_,_,_,rfl,rfl,(hr.mono (bj s1)).mono (bj s2),s2 _ _ h2,trivial,o2,(by show _< ((64:Nat):Int);show 0+r.h<64;omega),fun v4 H3 t4 s3 n4 J2=> ⟨(by show 2≤sizeLine;decide),fun w2 mT=> ?_⟩⟩⟩⟩
    have s4:=sameNew (o:= .tup [v3,v4]) mT
    refine k w2 v3 v4 t3 t4 _ (s1.trans (s2.trans (s3.trans s4))) aN ((n3.mono (bj s3)).mono (bj s4)) (n4.mono (bj s4)) J.ok J2.ok ?_ ?_
    ·rw[oR,x1,J.ak]
     simp only[cc]
     rw[if_neg (by omega),if_neg (by show ¬b≤pl - l.sz;omega)]
     rfl
    ·rw[oR,x2,J2.ak]
     simp only[cf]
     rw[if_neg (by omega),if_neg (by show ¬b≤pl - l.sz;omega)]
     rfl
end L2.N
namespace L2.N
open PySem PySem.Spec L2.B
def seg(S:List Nat)(q:P3):List Nat:=(S.drop q.1.toNat).take q.2.1.toNat
def txt(S:List Nat)(ps:List P3):List Nat:=ps.flatMap (seg S)
theorem txt_nil(S:List Nat):txt S []=[]:=rfl
theorem cx(S:List Nat)(p:P3)(r:List P3):txt S (p::r)=seg S p++txt S r:=rfl
theorem oS(S:List Nat)(a b:List P3):txt S (a++b)=txt S a++txt S b:=List.flatMap_append
structure bY (S:List Nat) (q:P3):Prop where
 p0:0≤q.1
 p1:1≤q.2.1
 p2:q.1+q.2.1≤S.length
 p3:q.2.2=((seg S q).count 10:Nat)
theorem bY.len{S:List Nat}{q:P3}(h:bY S q):((seg S q).length:Int)=q.2.1:=by
 have h0:=h.p0
 have h1:=h.p1
 have h2:=h.p2
 unfold seg
 rw[List.length_take,List.length_drop]
 omega
theorem bY.grow{S T:List Nat}{q:P3}(h:bY S q):bY (S++T) q∧seg (S++T) q=seg S q:=by
 have h0:=h.p0
 have h1:=h.p1
 have h2:=h.p2
 have e:seg (S++T) q=seg S q:=by
  unfold seg
  rw[List.drop_append_of_le_length (by omega),List.take_append_of_le_length (by rw[List.length_drop];omega)]
 exact⟨⟨h0,h1,by rw[List.length_append];omega,by rw[e];exact h.p3⟩,e⟩
theorem rR{S T:List Nat}: ∀{ps:List P3},(∀q∈ps,bY S q)→txt (S++T) ps=txt S ps
 | [],_=>rfl
 | p::r,h=>by
  rw[cx,cx,(h p List.mem_cons_self).grow.2,rR fun q hq=>h q (List.mem_cons_of_mem _ hq)]
theorem oT{S:List Nat}: ∀{ps:List P3},(∀q∈ps,bY S q)→((txt S ps).length:Int)=cv ps
 | [],_=>rfl
 | p::r,h=>by
  rw[cx,List.length_append,kO,←oT fun q hq=>h q (List.mem_cons_of_mem _ hq),←(h p List.mem_cons_self).len]
  omega
theorem yD: ∀t:Tr,t.en=((t.ak.map fun p=>p.2.2).sum)
 | .nil=>rfl
 | .node l a b c r=>by
  show l.en+c+r.en=((l.ak++ (a,b,c)::r.ak).map fun p=>p.2.2).sum
  rw[List.map_append,List.sum_append,List.map_cons,List.sum_cons,yD l,yD r]
  show(l.ak.map fun p=>p.2.2).sum+c+ (r.ak.map fun p=>p.2.2).sum=(l.ak.map fun p=>p.2.2).sum+ (c+ (r.ak.map fun p=>p.2.2).sum)
  omega
theorem J6{S:List Nat}: ∀{ps:List P3},(∀q∈ps,bY S q)→(ps.map fun p=>p.2.2).sum=((txt S ps).count 10:Nat)
 | [],_=>rfl
 | p::r,h=>by
  rw[cx,List.count_append,List.map_cons,List.sum_cons,J6 fun q hq=>h q (List.mem_cons_of_mem _ hq),(h p List.mem_cons_self).p3]
  omega
theorem J7{S:List Nat}{a b n:Int}(h0:0≤a)(h1:0≤n)(h2:n≤b)(h3:a+b≤S.length)(c1 c2 c3:Int):seg S (a,n,c1)++seg S (a+n,b - n,c2)=seg S (a,b,c3):=by
 unfold seg
 show(S.drop a.toNat).take n.toNat++ (S.drop (a+n).toNat).take (b - n).toNat=(S.drop a.toNat).take b.toNat
 have e1:(a+n).toNat=a.toNat+n.toNat:=by omega
 have e2:b.toNat=n.toNat+ (b - n).toNat:=by omega
 rw[e1,e2,←List.drop_drop,List.take_add]
theorem abY{S:List Nat}{a n:Int}(h0:0≤a)(h1:0≤n)(c:Int):((S.take (a+n).toNat).count 10:Int) - ((S.take a.toNat).count 10:Nat)=((seg S (a,n,c)).count 10:Nat):=by
 have e1:(a+n).toNat=a.toNat+n.toNat:=by omega
 unfold seg
 show((S.take (a+n).toNat).count 10:Int) - ((S.take a.toNat).count 10:Nat)=((((S.drop a.toNat).take n.toNat).count 10:Nat):Int)
 rw[e1,List.take_add,List.count_append]
 omega
theorem rS{ts:List Str}: ∀(ps:List P3) (n:Int),(∀q∈ps,bY (aq ts) q)→0≤n→n≤cv ps→
  (∀q∈cc (ends ts) ps n,bY (aq ts) q)∧(∀q∈cf (ends ts) ps n,bY (aq ts) q)∧txt (aq ts) (cc (ends ts) ps n)=(txt (aq ts) ps).take n.toNat∧txt (aq ts) (cf (ends ts) ps n)=(txt (aq ts) ps).drop n.toNat:=by
 intro ps
 induction ps with
 | nil=>
  intro n _ h0 h1
  exact⟨fun q hq=> (by cases hq),fun q hq=> (by cases hq),by simp[cc,txt],by simp[cf,txt]⟩
 | cons p r ih=>
  intro n h h0 h1
  obtain⟨a,b,c⟩:=p
  have hp:=h _ List.mem_cons_self
  have hr: ∀q∈r,bY (aq ts) q:=fun q hq=>h q (List.mem_cons_of_mem _ hq)
  have q0:0≤a:=hp.p0
  have q1:1≤b:=hp.p1
  have q2:a+b≤ (aq ts).length:=hp.p2
  have hl:=hp.len
  have FQ:((seg (aq ts) (a,b,c)).length:Int)=b:=hl
  by_cases z:n≤0
  ·obtain⟨e1,e2⟩:=xZ (ends ts) z ((a,b,c)::r)
   rw[e1,e2]
   have:n.toNat=0:=by omega
   rw[this]
   exact⟨fun q hq=> (by cases hq),h,by simp[txt],by simp⟩
  ·by_cases g:b≤n
   ·have e1:cc (ends ts) ((a,b,c)::r) n=(a,b,c)::cc (ends ts) r (n - b):=by simp only[cc];rw[if_neg z,if_pos g]
    have e2:cf (ends ts) ((a,b,c)::r) n=cf (ends ts) r (n - b):=by simp only[cf];rw[if_neg z,if_pos g]
    rw[kO] at h1
    have oI:n≤b+cv r:=h1
    obtain⟨i1,i2,i3,i4⟩:=ih (n - b) hr (by omega) (by omega)
    rw[e1,e2]
    refine⟨fun q hq=> ?_,i2, ?_, ?_⟩
    ·rcases List.mem_cons.mp hq with rfl | hq
     ·exact hp
     ·exact i1 q hq
    ·rw[cx,cx,i3]
     have:n.toNat=(seg (aq ts) (a,b,c)).length+ (n - b).toNat:=by omega
     rw[this,List.take_length_add_append]
    ·rw[cx,i4]
     have:n.toNat=(seg (aq ts) (a,b,c)).length+ (n - b).toNat:=by omega
     rw[this,List.drop_length_add_append]
   ·have e1:cc (ends ts) ((a,b,c)::r) n=[(a,n,ends ts (a+n) - ends ts a)]:=by simp only[cc];rw[if_neg z,if_neg g]
    have e2:cf (ends ts) ((a,b,c)::r) n=(a+n,b - n,c - (ends ts (a+n) - ends ts a))::r:=by simp only[cf];rw[if_neg z,if_neg g]
    rw[e1,e2]
    have k1:bY (aq ts) (a,n,ends ts (a+n) - ends ts a):=⟨q0,by show 1≤n;omega,by show a+n≤_;omega,abY q0 h0 _⟩
    have sc:=J7 (S:=aq ts) q0 h0 (by omega:n≤b) q2 (ends ts (a+n) - ends ts a) (c - (ends ts (a+n) - ends ts a)) c
    have k2:bY (aq ts) (a+n,b - n,c - (ends ts (a+n) - ends ts a)):=by
     refine⟨by show 0≤a+n;omega,by show 1≤b - n;omega,by show a+n+ (b - n)≤_;omega, ?_⟩
     have e4:c=ends ts (a+n) - ends ts a+ ((seg (aq ts) (a+n,b - n,c - (ends ts (a+n) - ends ts a))).count 10:Nat):=by
      have k3:=k1.p3
      have e5:=hp.p3
      rw[←sc,List.count_append] at e5
      have e6:c=(((seg (aq ts) (a,n,ends ts (a+n) - ends ts a)).count 10+ (seg (aq ts) (a+n,b - n,c - (ends ts (a+n) - ends ts a))).count 10:Nat):Int):=e5
      have k4:ends ts (a+n) - ends ts a=((seg (aq ts) (a,n,ends ts (a+n) - ends ts a)).count 10:Nat):=k3
      omega
     show c - (ends ts (a+n) - ends ts a)=_
     omega
    refine⟨fun q hq=> ?_,fun q hq=> ?_, ?_, ?_⟩
    ·rw[List.mem_singleton.mp hq];exact k1
    ·rcases List.mem_cons.mp hq with rfl | hq
     ·exact k2
     ·exact hr q hq
    ·rw[cx,txt_nil,List.append_nil,cx,←sc]
     have l1:=k1.len
     have:n.toNat=(seg (aq ts) (a,n,ends ts (a+n) - ends ts a)).length:=by have l1':((seg (aq ts) (a,n,ends ts (a+n) - ends ts a)).length:Int)=n:=l1;omega
     rw[this,List.append_assoc,List.take_left]
    ·rw[cx,cx,←sc]
     have l1:=k1.len
     have:n.toNat=(seg (aq ts) (a,n,ends ts (a+n) - ends ts a)).length:=by have l1':((seg (aq ts) (a,n,ends ts (a+n) - ends ts a)).length:Int)=n:=l1;omega
     rw[this,List.append_assoc,List.drop_left]
theorem dc{Γ:aE}{D:Ends}{σ:St}{H:Hp}{r:List RS}(h:ar Γ r D σ H):ar Γ [] {D with nx:=ar Γ r D} σ H:=h
def iU(n:Nat):Sp:=fun vs H Q E=> ∃v l a b c r,vs=[v]∧Nd H (.node l a b c r) v∧(Tr.node l a b c r).ok∧(Tr.node l a b c r).h<n∧(Tr.node l a b c r).h≤30∧
 ∀w H' q vt t a' b' c',aI H H'→H' w=some (.tup [.ref q,vt])→Nd H' t vt→H' q=some (tp (a',b',c'))→t.ok→(Tr.node l a b c r).ak=(a',b',c')::t.ak→t.h≤ (Tr.node l a b c r).h→Q (.ref w) H'
theorem ab0(vs:List V)(H:Hp)(Q:VK)(E:XK): ¬iU 0 vs H Q E:=by
 rintro⟨v,l,a,b,c,r, -, -, -,h, -⟩
 have:=Tr.h0 (.node l a b c r)
 omega
abbrev ab1(n:Nat):List (Str×Sp):=[("first_out",iU n),("joined",da 64)]
theorem ab2{K:PySem.W.Frag}(n:Nat)(vs:List V)(H:Hp)(Q:VK)(E:XK)(h:iU (n+1) vs H Q E):ar (aS K (ab1 n) [] (E:=E)) wY {nx:=fun _ H'=>Q .av H',rt:=Q} (start wX vs) H:=by
 obtain⟨v,l,a,b,c,r,rfl,⟨p,q,vl,vr,rfl,hp,hq,hl,hr⟩,ho,hh,h30,k⟩:=h
 have e1:=Tr.cb l a b c r
 have r0:=Tr.h0 r
 refine⟨_,rfl,aH hp rfl ⟨rfl,_,rfl, ?_⟩⟩
 cases l with
 | nil=>
  cases hl
  refine iT ⟨_,rfl,aH hp rfl ⟨_,rfl,aH hp rfl ⟨(by show 2≤sizeLine;decide),fun w hw=> ?_⟩⟩⟩
  have s:=sameNew (o:= .tup [.ref q,vr]) hw
  exact k w _ q vr r a b c s aN (hr.mono (bj s)) (s _ _ hq) ho.2.1 rfl (by rw[e1];split<;>omega)
 | node ll a1 b1 c1 lr=>
  obtain⟨p2,q2,lh,mR,rfl,rJ,eK,lA,fj⟩:=hl
  have bc:(Tr.node ll a1 b1 c1 lr).h< (Tr.node (.node ll a1 b1 c1 lr) a b c r).h:=by rw[e1];split<;>omega
  have hle:r.h< (Tr.node (.node ll a1 b1 c1 lr) a b c r).h:=by rw[e1];split<;>omega
  refine iF ⟨_,rfl,aH hp rfl ⟨.ref p2,ll,a1,b1,c1,lr,rfl,⟨p2,q2,lh,mR,rfl,rJ,eK,lA,fj⟩,ho.1,by omega,by omega,fun w H1 q3 vt t a2 b2 c2 s1 hw ht yz to yA th=> ?_⟩⟩
  refine⟨_,rfl,aH hw rfl ⟨_,rfl,aH hw rfl ⟨_,rfl,aH (s1 _ _ hp) rfl ⟨_,rfl,aH (s1 _ _ hp) rfl ⟨vt,q,vr,t,r,a,b,c,rfl,ht,hr.mono (bj s1),s1 _ _ hq,to,ho.2.1,(by show t.h+r.h< (64:Nat);omega),fun v2 H2 t2 s2 n2 J=> ?_⟩⟩⟩⟩⟩
  refine⟨(by show 2≤sizeLine;decide),fun w2 iR=> ?_⟩
  have s3:=sameNew (o:= .tup [.ref q3,v2]) iR
  have jh:=J.hi
  refine k w2 _ q3 v2 t2 a2 b2 c2 (s1.trans (s2.trans s3)) aN (n2.mono (bj s3)) (s3 _ _ (s2 _ _ yz)) J.ok ?_ ?_
  ·rw[J.ak,Tr.ak,yA];simp
  ·have:=J.hi;omega
def mU:Sp:=fun vs H Q E=> ∃(vl vr:V) (l r:Tr) (S:List Nat),vs=[vl,vr]∧Nd H l vl∧Nd H r vr∧l.ok∧r.ok∧(∀q∈l.ak,bY S q)∧(∀q∈r.ak,bY S q)∧(l≠ .nil→r≠ .nil)∧l.ak.length≤1000∧r.ak.length≤1000∧
 ∀v H' t,aI H H'→Nd H' t v→t.ok→(∀q∈t.ak,bY S q)→txt S t.ak=txt S l.ak++txt S r.ak→t.ak.length≤l.ak.length+r.ak.length→Q v H'
abbrev ab3:List (Str×Sp):=[("last_out",iQ 32),("first_out",iU 32),("joined",da 64)]
theorem ab4{K:PySem.W.Frag}(vs:List V)(H:Hp)(Q:VK)(E:XK)(h:mU vs H Q E):ar (aS K ab3 [] (E:=E)) w4 (Dn Q) (start wZ vs) H:=by
 obtain⟨vl,vr,l,r,S,rfl,hl,hr,ol,or,pl,pr,iy,ll,lr,k⟩:=h
 refine⟨_,rfl,rfl,_,rfl, ?_⟩
 cases l with
 | nil=>
  cases hl
  exact iT ⟨_,rfl,k vr H r (aI.refl _) hr or pr rfl (by show _≤0+_;omega)⟩
 | node l1 a b c l2=>
  cases r with
  | nil=>exact absurd rfl (iy (by simp))
  | node r1 a' b' c' r2=>
   have h1:=Tr.eL ol ll
   have h2:=Tr.eL or lr
   have hl0:=hl
   obtain⟨p,q,wl,wr,rfl,hp, -⟩:=hl0
   refine iF ⟨_,rfl, .ref p,l1,a,b,c,l2,rfl,hl,ol,by omega,by omega,fun w H1 q1 vt t x y z s1 hw ht hq1 to ep th=> ?_⟩
   refine⟨_,rfl,vr,r1,a',b',c',r2,rfl,hr.mono (bj s1),or,by omega,by omega,fun w2 H2 q2 vu u x' y' z' s2 iR hu eK uo rT uh=> ?_⟩
   have lH:=s2 _ _ hw
   have mV:=s2 _ _ hq1
   refine⟨_,rfl,aH lH rfl ⟨_,rfl,aH iR rfl ?_⟩⟩
   have p1:bY S (x,y,z):=pl _ (by rw[ep];simp)
   have p2:bY S (x',y',z'):=pr _ (by rw[rT];simp)
   have pt: ∀q∈t.ak,bY S q:=fun q hq=>pl q (by rw[ep];simp[hq])
   have pu: ∀q∈u.ak,bY S q:=fun q hq=>pr q (by rw[rT];simp[hq])
   have el:(Tr.node l1 a b c l2).ak.length=t.ak.length+1:=by rw[ep];simp
   have er:(Tr.node r1 a' b' c' r2).ak.length=u.ak.length+1:=by rw[rT];simp
   have t0:=Tr.h0 t
   have u0:=Tr.h0 u
   refine bP (bJ (aU (bI (ai rfl (ay (aH mV rfl (bI (ai rfl (ay (aH mV rfl (cy (bI (ai rfl (ay (aH eK rfl (mP ⟨_,rfl, ?_⟩))))))))))))))))
   by_cases g:x+y=x'
   ·refine iT ?_ (decide_eq_true g)
    refine cY (bH (da 64) rfl (ax (bI (ai rfl (ay (aH lH rfl (ax (iL (ax (bI (ai rfl (ay (aH mV rfl ?_)))))))))))))
    refine ax (aU (bI (ai rfl (ay (aH mV rfl (bI (ai rfl (ay (aH eK rfl (cy ?_))))))))))
    refine ax (aU (bI (ai rfl (ay (aH mV rfl (bI (ai rfl (ay (aH eK rfl (cy (aP ⟨(by show 3≤sizeLine;decide),fun q3 f3=> ?_⟩)))))))))))
    have s3:=sameNew (o:=tp (x,y+y',z+z')) f3
    refine ax (bI (ai rfl (ay (aH (s3 _ _ iR) rfl (aP ?_)))))
    refine⟨vt,q3,vu,t,u,x,y+y',z+z',rfl,(ht.mono (bj s2)).mono (bj s3),hu.mono (bj s3),aN,to,uo,(by show t.h+u.h< (64:Nat);omega),fun v H3 tt s4 n4 J=> ?_⟩
    have j0:=p1.p0
    have j1:=p1.p1
    have j2:=p2.p2
    have j3:=p2.p1
    have J8:0≤x:=j0
    have j1':1≤y:=j1
    have j2':x'+y'≤S.length:=j2
    have j3':1≤y':=j3
    have sc:=J7 (S:=S) (a:=x) (b:=y+y') (n:=y) J8 (by omega) (by omega) (by omega) z z' (z+z')
    rw[g,show y+y' - y=y' by omega] at sc
    have p3:bY S (x,y+y',z+z'):=by
     refine⟨J8,by show 1≤y+y';omega,by show x+ (y+y')≤_;omega, ?_⟩
     have c1:=p1.p3
     have c2:=p2.p3
     have c1':z=((seg S (x,y,z)).count 10:Nat):=c1
     have c2':z'=((seg S (x',y',z')).count 10:Nat):=c2
     show z+z'=_
     rw[←sc,List.count_append]
     omega
    refine k v H3 tt (s1.trans (s2.trans (s3.trans s4))) n4 J.ok (fun q hq=> ?_) ?_ ?_
    ·rw[J.ak] at hq
     rcases List.mem_append.mp hq with hq | hq
     ·exact pt q hq
     ·rcases List.mem_cons.mp hq with rfl | hq
      ·exact p3
      ·exact pu q hq
    ·rw[J.ak,ep,rT,oS,oS,cx,cx,cx,txt_nil,←sc];simp
    ·rw[J.ak,el,er,List.length_append,List.length_cons];omega
   ·refine iF (dc ?_) (decide_eq_false g)
    refine cY (bH (da 64) rfl (ax (bI (ai rfl (ay (aH lH rfl (ax (ai rfl (ax (ai rfl (aP ?_)))))))))))
    have h3:=Tr.eL or lr
    refine⟨vt,q1,vr,t, .node r1 a' b' c' r2,x,y,z,rfl,ht.mono (bj s2),(hr.mono (bj s1)).mono (bj s2),mV,to,or,(by show t.h+_< ((64:Nat):Int);omega),fun v H3 tt s4 n4 J=> ?_⟩
    refine k v H3 tt (s1.trans (s2.trans s4)) n4 J.ok (fun q hq=> ?_) ?_ ?_
    ·rw[J.ak] at hq
     rcases List.mem_append.mp hq with hq | hq
     ·exact pt q hq
     ·rcases List.mem_cons.mp hq with rfl | hq
      ·exact p1
      ·exact pr q hq
    ·rw[J.ak,ep,oS,oS,cx,cx,txt_nil];simp
    ·rw[J.ak,el,List.length_append,List.length_cons];omega
end L2.N
namespace L2.B
open PySem PySem.Spec PyProof.Rows
theorem ab7{K:PySem.W.Frag}{σ:St}{H:Hp}{QQ:List V→Hp→Addr→Prop}{te:TE}{fv:List (Str×Nat)}{a:Addr}{xs:List V}(ha:H a=some (.lst xs))(hl:xs.length≤1000000)(P:Nat→List V→Hp→Prop)(p0:P 0 [] H)
  (step: ∀i x ys H2,xs[i]?=some x→aI H H2→P i ys H2→ ∀Q':VK,(∀y H3,aI H2 H3→P (i+1) (ys++ [y]) H3→Q' y H3)→te (some x::cK σ fv) H2 Q')
  (fin: ∀ys H2 p,aI H H2→P xs.length ys H2→H2 p=none→QQ ys H2 p): ∃W:Nat→Nat→List V→Hp→Prop,(∃m,W 0 m [] H)∧ ∀i m ys H2,W i m ys H2→
   ((dj K a).stop i H2∧ ∀p,H2 p=none→QQ ys H2 p)∨
   ((dj K a).go i H2∧ ∀x H3,(dj K a).d9 i H2 x H3→mf K none x H3 fun zs=>nP none (zs.map some++cK σ fv) H3 fun b H5=>
    if b=true then te (zs.map some++cK σ fv) H5 fun y H6=>ys.length<sizeLine∧ ∃m',m'<m∧W (i+1) m' (ys++ [y]) H6 else ∃m',m'<m∧W (i+1) m' ys H5):=by
 refine⟨fun i m ys H2=>m=xs.length - i∧i≤xs.length∧ys.length=i∧aI H H2∧P i ys H2,⟨_,rfl,Nat.zero_le _,rfl,aI.refl _,p0⟩, ?_⟩
 rintro i m ys H2 ⟨rfl,hi,hy,s,p⟩
 by_cases bc:i<xs.length
 ·refine .inr ⟨⟨xs,xs[i],aC.of (s _ _ ha),by simp[bc]⟩, ?_⟩
  rintro x H3 ⟨rfl,hx⟩
  have jk:=hx xs (aC.of (s _ _ ha))
  exact step i x ys _ jk s p _ fun y H4 s4 p4=> ⟨gc (by omega),xs.length - (i+1),by omega,rfl,bc,by simp[hy],s.trans s4,p4⟩
 ·have kS:i=xs.length:=by omega
  subst kS
  exact .inl ⟨⟨xs,aC.of (s _ _ ha),Nat.le_refl _⟩,fun q hq=>fin ys _ q s p hq⟩
end L2.B
namespace L2.N
open PySem PySem.Spec L2.B
section
variable {Γ:aE} {D:Ends} {σ:St} {H:Hp} {r:List RS} {Q:VK}
theorem oU{x:RE}(A B:VK)(uU: ∀v H1,A v H1↔B v H1)(ha:ag Γ x σ H A):ag Γ x σ H B:=by
 have:A=B:=funext fun x=>funext fun H1=>propext (uU x H1)
 rw[←this];exact ha
theorem ab8{fv:List (Str×Nat)}{x elt:RE}(h:ag Γ x σ H fun v H1=> ∃a,v= .ref a∧(∃xs,aC Γ.K H1 a xs)∧ ∃W:Nat→Nat→List V→Hp→Prop,(∃m,W 0 m [] H1)∧ ∀i m ys H2,W i m ys H2→
   ((dj Γ.K a).stop i H2∧ ∀p,H2 p=none→Q (.ref p) (upd H2 p (.lst ys)))∨
   ((dj Γ.K a).go i H2∧ ∀x H3,(dj Γ.K a).d9 i H2 x H3→mf Γ.K none x H3 fun zs=>nP none (zs.map some++cK σ fv) H3 fun b H5=>
    if b=true then ag Γ.calm elt (zs.map some++cK σ fv) H5 fun y H6=>ys.length<sizeLine∧ ∃m',m'<m∧W (i+1) m' (ys++ [y]) H6 else ∃m',m'<m∧W (i+1) m' ys H5)):ag Γ (.comp none fv .list [x] none elt) σ H Q:=oU (x:=x) _ _ (fun _ _=>Iff.rfl) h
theorem yE{j:Nat}{m:Str}{o a b:RE}(C:Addr)(sp:Sp)(hm:Γ.ms j=(C,sp))(h:ag Γ o σ H fun x H1=> ∃p dx fs,x= .ref p∧H1 p=some (.ins C dx fs)∧fs.lookup m=none∧ag Γ a σ H1 fun y H2=>ag Γ b σ H2 fun z H3=>sp [x,y,z] H3 Q Γ.E):ag Γ (.b9 j m o [a,b]) σ H Q:=by
 show jd (Γ.ms j).1 m (Γ.ms j).2 [] Γ.E (ag Γ o) (bq Γ [a,b]) σ H Q
 rw[hm];exact h
theorem gh{x:RE}(h:ag Γ x σ H fun v H1=>nM Γ.K v H1 fun n=>Q (.int n) H1):ag Γ (.blt .len [x]) σ H Q:=h
end
theorem _root_.L2.B.c_.b6{C:Addr}{H H':Hp}{p dx lt lb lf:Addr}{ts:List Str}(b:c_ p lt lb lf H H')(S:bX C H p dx lt lb lf ts):iK H H':=fun c xs e=>
 b c _ e (fun z=>by rw[z,S.ob] at e;cases e) (fun z=>by rw[z,S.tx] at e;cases e) (fun z=>by rw[z,S.bg] at e;cases e) (fun z=>by rw[z,S.fd] at e;cases e)
theorem eE{p lt lb lf:Addr}{H H':Hp}(s:aI H H'):c_ p lt lb lf H H':=fun b o e _ _ _ _=>s b o e
theorem ab9(x:Str):(Builtin.Str.occurrences x (Str.ofString "\n") 0 x.length (x.length+1)).length=x.cps.toList.count 10:=by
 have:=Jq x 10 0 (x.length+1) (Nat.zero_le _)
 rw[List.drop_zero] at this
 show(Builtin.Str.occurrences x ⟨#[10]⟩ 0 x.length (x.length+1)).length=_
 rw[this,List.length_take,oA]
 have:x.cps.toList.count 10≤x.length:=by rw[len_list];exact List.count_le_length
 omega
theorem J9{K:PySem.W.Frag}{H:Hp}{Q:VK}{x:Str}(q:Q (.int ((x.cps.toList.count 10:Nat):Int)) H):nU K .count (.str x) [.str "\n"] H Q:=by
 show Q (.int ((Builtin.Str.occurrences x (Str.ofString "\n") 0 x.length (x.length+1)).length:Nat)) H
 rw[ab9];exact q
theorem J_{H:Hp}: ∀{vs:List V} {ps:List P3} {i:Nat} {v:V},fo H vs ps→vs[i]?=some v→ ∃p,ps[i]?=some p∧Pc H v p
 | _,_,i,v, .nil,e=>by simp at e
 | _,_,0,v, .cons h r,e=>by simp at e;subst e;exact⟨_,rfl,h⟩
 | _,_,i+1,v, .cons h r,e=>by
  obtain⟨p,a,b⟩:=J_ (i:=i) r (by simpa using e)
  exact⟨p,by simpa using a,b⟩
theorem ab_{lt lb lf:Addr}{n:Int}:(dh lt lb lf n).lookup ("put":Str)=none:=yl (by decide+kernel) (by decide+kernel) (by decide+kernel) (by decide+kernel)
theorem aca{lt lb lf:Addr}{n:Int}:(dh lt lb lf n).lookup ("read":Str)=none:=yl (by decide+kernel) (by decide+kernel) (by decide+kernel) (by decide+kernel)
def iV(C:Addr):Sp:=fun vs H Q E=> ∃(s dx lt lb lf:Addr) (ts:List Str) (x:Str),vs=[.ref s, .str x]∧bX C H s dx lt lb lf ts∧good x∧ts.length≤10000∧(aq ts).length≤500000∧
 ((x=""∧Q .av H)∨(x≠""∧ ∀v H' t,c_ s lt lb lf H H'→bX C H' s dx lt lb lf (ts++ [x])→Nd H' t v→t.ok→t.ak=[(((aq ts).length:Int),(x.length:Int),(x.cps.toList.count 10:Int))]→Q v H'))
theorem acb{K:PySem.W.Frag}{CT C:Addr}(vs:List V)(H:Hp)(Q:VK)(E:XK)(h:iV C vs H Q E):ar (aS K [("joined",da 64)] [] [] [("put",C,oM CT C)] (E:=E)) xi (Dn Q) (start xh vs) H:=by
 obtain⟨s,dx,lt,lb,lf,ts,x,rfl,S,gx,l1,l2,h⟩:=h
 refine bP (bJ (ai rfl (ay (cZ ⟨_,rfl, ?_⟩))))
 rcases h with⟨rfl,q⟩ | ⟨hx,k⟩
 ·exact iT (cY (ay q)) (by decide)
 ·refine iF (dc ?_) (beq_eq_false_iff_ne.mpr hx)
  refine cY (bH (da 64) rfl (ax (ay (ax (iL (ax (JI C (oM CT C) rfl (ai rfl ⟨s,dx,_,rfl,S.ob,ab_,ai rfl ⟨s,dx,lt,lb,lf,ts,_,rfl,S, .inr ⟨x,rfl,gx,by omega,by omega,fun H1 b1 S1=> ?_⟩⟩⟩))))))))
  refine ax (gh (ai rfl ⟨bV gx.1, ?_⟩))
  refine ax (eR (ai rfl ⟨rfl,ay (J9 ?_)⟩))
  refine aP ⟨(by show 3≤sizeLine;decide),fun q f=>ax (ay (aP ?_))⟩
  have s2:=sameNew (o:=tp (((aq ts).length:Int),(x.length:Int),((x.cps.toList.count 10:Nat):Int))) f
  refine⟨.av,q, .av, .nil, .nil,_,_,_,rfl,rfl,rfl,aN,trivial,trivial,(by show(0:Int)+0< (64:Nat);decide),fun v H2 t s3 n3 J=> ?_⟩
  exact k v H2 t (b1.trans (eE (s2.trans s3))) (S1.same (s2.trans s3)) n3 J.ok J.ak
def cg(S:List Nat)(q:P3):Str:=⟨(seg S q).toArray⟩
def fq(C:Addr):Sp:=fun vs H Q E=> ∃(s dx lt lb lf:Addr) (ts:List Str) (v:V) (t:Tr),vs=[.ref s,v]∧bX C H s dx lt lb lf ts∧Nd H t v∧t.ok∧(∀q∈t.ak,bY (aq ts) q)∧t.ak.length≤1000∧ts.length≤10000∧(aq ts).length≤500000∧
 ∀w H',aI H H'→H w=none→H' w=some (.lst ((t.ak.map (cg (aq ts))).map V.str))→Q (.ref w) H'
theorem acd{ts:List Str}: ∀t∈ts,t.length≤ (aq ts).length:=by
 induction ts with
 | nil=>intro t h;cases h
 | cons a r ih=>
  intro t h
  have e:(aq (a::r)).length=a.length+ (aq r).length:=by simp[aq,Str.length]
  rw[e]
  rcases List.mem_cons.mp h with rfl | h
  ·omega
  ·have:=ih t h;omega
theorem ace{K:PySem.W.Frag}{CP C:Addr}(vs:List V)(H:Hp)(Q:VK)(E:XK)(h:fq C vs H Q E):ar (aS K [("pieces_of",g6 32)] [] [] [("read",C,oP CP C)] (E:=E)) xp (Dn Q) (start xo vs) H:=by
 obtain⟨s,dx,lt,lb,lf,ts,v,t,rfl,S,hn,ho,hp,l1,l2,l3,k⟩:=h
 have hh:=Tr.eL ho l1
 refine cY (ab8 (bH (g6 32) rfl (ax (ai rfl (aP ⟨v,t,rfl,hn,by omega,l1,fun w H1 xs s1 fw hw px=> ⟨w,rfl,⟨_,aC.of hw⟩, ?_⟩⟩)))))
 have lx:=Paired.length px
 refine ab7 hw (by omega) (fun i ys _=>ys=((t.ak.take i).map (cg (aq ts))).map V.str) (by simp) ?_ ?_
 ·intro i x ys H2 hx s2 e Q' kk
  obtain⟨pt,lI,⟨q,rfl,hq⟩⟩:=J_ px hx
  have hi:i<t.ak.length:=(List.getElem?_eq_some_iff.mp lI).1
  have pc:=hp pt (List.mem_of_getElem? lI)
  have p0:=pc.p0
  have p1:=pc.p1
  have p2:=pc.p2
  have S2:=(S.same s1).same s2
  have eK:=s2 _ _ hq
  refine yE C (oP CP C) rfl (ai rfl ⟨s,dx,_,rfl,S2.ob,aca,bI (ai rfl (ay (aH eK rfl (bI (ai rfl (ay (aH eK rfl ?_)))))))⟩)
  refine⟨s,dx,lt,lb,lf,ts,_,_,rfl,S2, .inr ⟨pt.1.toNat,pt.2.1.toNat, ?_, ?_,by omega,by omega,by omega,fun u hu=>by have:=acd u hu;omega,fun H3 s3=>kk _ _ s3 ?_⟩⟩
  ·rw[show((pt.1.toNat:Nat):Int)=pt.1 by omega]
  ·rw[show((pt.2.1.toNat:Nat):Int)=pt.2.1 by omega]
  ·rw[e,List.take_succ_eq_append_getElem hi,(List.getElem?_eq_some_iff.mp lI).2,List.map_append,List.map_append];rfl
 ·intro ys H2 p s2 e h9
  have e':ys=(t.ak.map (cg (aq ts))).map V.str:=by rw[e,lx,List.take_length]
  have s3:aI H H2:=s1.trans s2
  exact k p _ (s3.trans (sameNew h9)) (s3.free h9) (by rw[aN,e'])
theorem Ka(S:List Nat)(ps:List P3):cat (ps.map (cg S))=⟨(txt S ps).toArray⟩:=gd (by
 rw[mG,List.map_map]
 show(ps.map fun q=> (cg S q).cps.toList).flatten=(txt S ps).toArray.toList
 simp only[cg,List.toList_toArray]
 rfl)
theorem acf{S:List Nat}{ps:List P3}:sz (ps.map (cg S))=(txt S ps).length:=by
 have:=congrArg Str.length (Ka S ps)
 rw[Jw] at this
 rw[this]
 simp[Str.length]
section
variable {Γ:aE} {D:Ends} {σ:St} {H:Hp} {r:List RS} {Q:VK} {QT:Bool→Hp→Prop}
theorem acg{j:Nat}(C:Addr)(sp:Sp)(hm:Γ.kt j=(C,sp))(h: ∀x dx,H x=none→H dx=none→dx≠x→sp [.ref x] (upd (upd H dx (.own x)) x (.ins C dx [])) (fun v H2=>v= .av∧Q (.ref x) H2) Γ.E):ag Γ (.make j []) σ H Q:=by
 show ny (Γ.kt j).1 (Γ.kt j).2 [] Γ.E (bq Γ []) σ H Q
 rw[hm];exact h
theorem Kb{j:Nat}{a b:RE}(C:Addr)(sp:Sp)(hm:Γ.kt j=(C,sp))(h:ag Γ a σ H fun y H0=>ag Γ b σ H0 fun z H1=> ∀x dx,H1 x=none→H1 dx=none→dx≠x→sp [.ref x,y,z] (upd (upd H1 dx (.own x)) x (.ins C dx [])) (fun v H2=>v= .av∧Q (.ref x) H2) Γ.E):ag Γ (.make j [a,b]) σ H Q:=by
 show ny (Γ.kt j).1 (Γ.kt j).2 [] Γ.E (bq Γ [a,b]) σ H Q
 rw[hm];exact h
theorem Kc{o e:RE}{f:Str}(h:ag Γ e σ H fun v H1=>ag Γ o σ H1 fun x H2=> ∃a C dx fs,x= .ref a∧H2 a=some (.ins C dx fs)∧dH Γ.K C∧dR Γ.K C f∧fs.length<1000∧ar Γ r D σ (upd H2 a (.ins C dx (bQ f v fs)))):ar Γ (.fO o f e::r) D σ H:=h
end
def fu(s:Addr)(v:V):List (Str×V):=[("stock", .ref s),("node",v)]
theorem g7{s:Addr}{v:V}:(fu s v).lookup ("stock":Str)=some (V.ref s):=mH
theorem lJ{s:Addr}{v:V}:(fu s v).lookup ("node":Str)=some v:=(eo (by decide+kernel)).trans mH
theorem fz{s:Addr}{v:V}{m:Str}(h1: ¬m="stock")(h2: ¬m="node"):(fu s v).lookup m=none:=(eo h1).trans ((eo h2).trans rfl)
theorem ach{s:Addr}{v:V}:bQ "node" v (bQ "stock" (.ref s) [])=fu s v:=by
 have e1:bQ "stock" (V.ref s) []=[(("stock":Str),V.ref s)]:=rfl
 unfold fu
 rw[e1,gf (by decide+kernel)];rfl
structure cp (CP:Addr) (H:Hp) (p dp s:Addr) (v:V) (t:Tr) (S:List Nat):Prop where
 ob:H p=some (.ins CP dp (fu s v))
 nd:Nd H t v
 ok:t.ok
 pc: ∀q∈t.ak,bY S q
theorem cp.same{CP:Addr}{H H':Hp}{p dp s:Addr}{v:V}{t:Tr}{S:List Nat}(P:cp CP H p dp s v t S)(h:aI H H'):cp CP H' p dp s v t S:=⟨h _ _ P.ob,P.nd.mono (bj h),P.ok,P.pc⟩
def gi(CP:Addr):Sp:=fun vs H Q E=> ∃(p dp s:Addr) (v:V),vs=[.ref p, .ref s,v]∧H p=some (.ins CP dp [])∧ ∀H',H' p=some (.ins CP dp (fu s v))→(∀b o,H b=some o→b≠p→H' b=some o)→Q .av H'
theorem aci{K:PySem.W.Frag}{CP:Addr}(T:fi K CP)(vs:List V)(H:Hp)(Q:VK)(E:XK)(h:gi CP vs H Q E):ar (aS K [] [] (E:=E)) xr (Dn Q) (start xq vs) H:=by
 obtain⟨p,dp,s,v,rfl,hp,k⟩:=h
 refine Kc (ai rfl (ai rfl ⟨p,CP,dp,[],rfl,hp,T.cl,T.fZ,(by show 0<1000;decide), ?_⟩))
 refine Kc (ai rfl (ai rfl ⟨p,CP,dp,_,rfl,aN,T.cl,T.iB,(by show 1<1000;decide), ?_⟩))
 refine k _ ?_ fun b o e nb=> ?_
 ·rw[aN];exact congrArg (fun l=>some (HO.ins CP dp l)) ach
 ·rw[aK nb,aK nb];exact e
def eT(CP:Addr):Sp:=fun vs H Q E=> ∃(p dp s:Addr) (v:V) (t:Tr) (S:List Nat),vs=[.ref p]∧cp CP H p dp s v t S∧Q (.int ((txt S t.ak).length:Nat)) H
def oV(CP:Addr):Sp:=fun vs H Q E=> ∃(p dp s:Addr) (v:V) (t:Tr) (S:List Nat),vs=[.ref p]∧cp CP H p dp s v t S∧Q (.int ((txt S t.ak).count 10+1:Nat)) H
def oW(CP:Addr):Sp:=fun vs H Q E=> ∃(p dp s:Addr) (v:V) (t:Tr) (S:List Nat),vs=[.ref p]∧cp CP H p dp s v t S∧Q (.int t.h) H
theorem cp.sz{CP:Addr}{H:Hp}{p dp s:Addr}{v:V}{t:Tr}{S:List Nat}(P:cp CP H p dp s v t S):t.sz=((txt S t.ak).length:Nat):=by rw[eS,←oT P.pc]
theorem cp.en{CP:Addr}{H:Hp}{p dp s:Addr}{v:V}{t:Tr}{S:List Nat}(P:cp CP H p dp s v t S):t.en=((txt S t.ak).count 10:Nat):=by rw[yD,J6 P.pc]
theorem acj{K:PySem.W.Frag}{CP:Addr}(T:fi K CP)(vs:List V)(H:Hp)(Q:VK)(E:XK)(h:eT CP vs H Q E):ar (aS K [("size_of",g4)] [] (E:=E)) xv (Dn Q) (start xu vs) H:=by
 obtain⟨p,dp,s,v,t,S,rfl,P,q⟩:=h
 refine cY (bH g4 rfl (ax (dE (ai rfl ⟨p,CP,dp,_,_,rfl,P.ob,T.cl,T.iB,lJ,aP ⟨v,t,rfl,P.nd, ?_⟩⟩))))
 rw[P.sz];exact q
theorem ack{K:PySem.W.Frag}{CP:Addr}(T:fi K CP)(vs:List V)(H:Hp)(Q:VK)(E:XK)(h:oV CP vs H Q E):ar (aS K [("ends_of",lg)] [] (E:=E)) xy (Dn Q) (start xx vs) H:=by
 obtain⟨p,dp,s,v,t,S,rfl,P,q⟩:=h
 refine cY (aU (bH lg rfl (ax (dE (ai rfl ⟨p,CP,dp,_,_,rfl,P.ob,T.cl,T.iB,lJ,aP ⟨v,t,rfl,P.nd,ay (cy ?_)⟩⟩)))))
 rw[P.en];exact q
theorem acm{K:PySem.W.Frag}{CP:Addr}(T:fi K CP)(vs:List V)(H:Hp)(Q:VK)(E:XK)(h:oW CP vs H Q E):ar (aS K [("height_of",d0)] [] (E:=E)) xG (Dn Q) (start xF vs) H:=by
 obtain⟨p,dp,s,v,t,S,rfl,P,q⟩:=h
 exact cY (bH d0 rfl (ax (dE (ai rfl ⟨p,CP,dp,_,_,rfl,P.ob,T.cl,T.iB,lJ,aP ⟨v,t,rfl,P.nd,q⟩⟩))))
def tx(S:List Nat)(ps:List P3):Str:=⟨(txt S ps).toArray⟩
theorem acn(S:List Nat)(ps:List P3):(tx S ps).cps.toList=txt S ps:=by simp[tx]
def oX(CP C:Addr):Sp:=fun vs H Q E=> ∃(p dp s dx lt lb lf:Addr) (v:V) (t:Tr) (ts:List Str),vs=[.ref p]∧cp CP H p dp s v t (aq ts)∧bX C H s dx lt lb lf ts∧t.ak.length≤1000∧ts.length≤10000∧(aq ts).length≤500000∧(txt (aq ts) t.ak).length≤1000000∧
 ∀H',aI H H'→Q (.str (tx (aq ts) t.ak)) H'
def iW(CP C:Addr):Sp:=fun vs H Q E=> ∃(p dp s dx lt lb lf:Addr) (v:V) (t:Tr) (ts:List Str),vs=[.ref p]∧cp CP H p dp s v t (aq ts)∧bX C H s dx lt lb lf ts∧t.ak.length≤1000∧ts.length≤10000∧(aq ts).length≤500000∧
 ∀w H',aI H H'→H w=none→H' w=some (.lst ((t.ak.map (cg (aq ts))).map V.str))→Q (.ref w) H'
theorem aco{K:PySem.W.Frag}{CP C:Addr}(T:fi K CP)(vs:List V)(H:Hp)(Q:VK)(E:XK)(h:iW CP C vs H Q E):ar (aS K [("texts_of",fq C)] [] (E:=E)) xE (Dn Q) (start xD vs) H:=by
 obtain⟨p,dp,s,dx,lt,lb,lf,v,t,ts,rfl,P,S,l1,l2,l3,k⟩:=h
 exact cY (bH (fq C) rfl (ax (dE (ai rfl ⟨p,CP,dp,_,_,rfl,P.ob,T.cl,T.fZ,g7,ax (dE (ai rfl ⟨p,CP,dp,_,_,rfl,P.ob,T.cl,T.iB,lJ,aP ⟨s,dx,lt,lb,lf,ts,v,t,rfl,S,P.nd,P.ok,P.pc,l1,l2,l3,k⟩⟩))⟩))))
theorem rV{K:PySem.W.Frag}{H:Hp}{w:Addr}{S:List Nat}{ps:List P3}{Q:VK}(h:H w=some (.lst ((ps.map (cg S)).map V.str)))(hl:(txt S ps).length≤1000000)(q:Q (.str (tx S ps)) H):nU K .join (.str "") [.ref w] H Q:=by
 refine⟨ps.map (cg S),aC.of h,joinOk_of (by rw[acf];exact hl), ?_⟩
 have e:Txt.join "" (ps.map (cg S))=tx S ps:=Ka S ps
 rw[e];exact q
theorem acp{K:PySem.W.Frag}{CP C:Addr}(T:fi K CP)(vs:List V)(H:Hp)(Q:VK)(E:XK)(h:oX CP C vs H Q E):ar (aS K [("texts_of",fq C)] [] (E:=E)) xC (Dn Q) (start xB vs) H:=by
 obtain⟨p,dp,s,dx,lt,lb,lf,v,t,ts,rfl,P,S,l1,l2,l3,l4,k⟩:=h
 exact cY (eR (ay ⟨rfl,bH (fq C) rfl (ax (dE (ai rfl ⟨p,CP,dp,_,_,rfl,P.ob,T.cl,T.fZ,g7,ax (dE (ai rfl ⟨p,CP,dp,_,_,rfl,P.ob,T.cl,T.iB,lJ,aP ⟨s,dx,lt,lb,lf,ts,v,t,rfl,S,P.nd,P.ok,P.pc,l1,l2,l3,fun w H1 s1 f1 h1=>rV h1 l4 (k H1 s1)⟩⟩))⟩)))⟩))
theorem rW{S:List Nat}{ps:List P3}(h: ∀q∈ps,bY S q): ∀q∈ps,oQ q:=fun q hq=> ⟨(h q hq).p0,(h q hq).p1⟩
def mW(l:List Nat)(a b:Nat):Str:=⟨((l.take b).drop a).toArray⟩
def iX(CP C:Addr):Sp:=fun vs H Q E=> ∃(p dp s dx lt lb lf:Addr) (v:V) (t:Tr) (ts:List Str) (a b:Nat),vs=[.ref p, .int a, .int b]∧cp CP H p dp s v t (aq ts)∧bX C H s dx lt lb lf ts∧t.ak.length≤1000∧ts.length≤10000∧(aq ts).length≤500000∧(txt (aq ts) t.ak).length≤1000000∧
 a≤b∧b≤ (txt (aq ts) t.ak).length∧ ∀H',aI H H'→Q (.str (mW (txt (aq ts) t.ak) a b)) H'
theorem acq{K:PySem.W.Frag}{CP C CE:Addr}(T:fi K CP)(vs:List V)(H:Hp)(Q:VK)(E:XK)(h:iX CP C vs H Q E):
  ar (aS K [("is_between",eA),("parted",d5 C 32),("texts_of",fq C)] [] [] [("size",CP,eT CP)] (et:=[("NoPlace",CE)]) (E:=E)) xI (Dn Q) (start xH vs) H:=by
 obtain⟨p,dp,s,dx,lt,lb,lf,v,t,ts,a,b,rfl,P,S,l1,l2,l3,l4,h1,h2,k⟩:=h
 have hz:=P.sz
 have hh:=Tr.eL P.ok l1
 have rX:(fu s v).lookup ("size":Str)=none:=fz (by decide+kernel) (by decide+kernel)
 refine bP (iP (fm (gY eA rfl (ax (ai rfl (ax (ay (ax (gX CP (eT CP) rfl (ai rfl ⟨p,dp,_,rfl,P.ob,rX,p,dp,s,v,t,_,rfl,P,aP ⟨_,_,_,rfl, .inl ⟨_,rfl,by omega,by omega,fk (iF ?_ rfl)⟩⟩⟩))))))))))
 refine fm (gY eA rfl (ax (ai rfl (ax (ai rfl (ax (gX CP (eT CP) rfl (ai rfl ⟨p,dp,_,rfl,P.ob,rX,p,dp,s,v,t,_,rfl,P,aP ⟨_,_,_,rfl, .inl ⟨_,rfl,by omega,by omega,fk (iF ?_ rfl)⟩⟩⟩))))))))
 refine dc (bw (bI (bH (d5 C 32) rfl (ax (dE (ai rfl ⟨p,CP,dp,_,_,rfl,P.ob,T.cl,T.iB,lJ,ax (ai rfl (ax (dE (ai rfl ⟨p,CP,dp,_,_,rfl,P.ob,T.cl,T.fZ,g7,aP ?_⟩))))⟩))))))
 refine⟨v,t,b,s,dx,lt,lb,lf,ts,rfl,P.nd,P.ok,S,rW P.pc,by omega,l1,by omega,by omega,fun w v1 v2 t1 t2 H1 s1 hw n1 n2 o1 o2 e1 e2=>ay (aH hw rfl ?_)⟩
 obtain⟨c1,c2,c3,c4⟩:=rS t.ak (b:Int) P.pc (by omega) (by rw[←eS,hz];omega)
 rw[←e1] at c1 c3
 have P1:=P.same s1
 have S1:=S.same s1
 have g1:t1.ak.length≤1000:=by rw[e1];have:=(oz (ends ts) t.ak b).1;omega
 have hh1:=Tr.eL o1 g1
 have hz1:t1.sz=((txt (aq ts) t1.ak).length:Nat):=by rw[eS,←oT c1]
 rw[Int.toNat_natCast] at c3
 have lz:(txt (aq ts) t1.ak).length=b:=by rw[c3,List.length_take];omega
 refine cY (eR (ay ⟨rfl,bH (fq C) rfl (ax (dE (ai rfl ⟨p,CP,dp,_,_,rfl,P1.ob,T.cl,T.fZ,g7,ax (bI (bH (d5 C 32) rfl (ax (ai rfl (ax (ai rfl (ax (dE (ai rfl ⟨p,CP,dp,_,_,rfl,P1.ob,T.cl,T.fZ,g7,aP ?_⟩)))))))))⟩)))⟩))
 refine⟨v1,t1,a,s,dx,lt,lb,lf,ts,rfl,n1,o1,S1,rW c1,by omega,g1,by omega,by omega,fun w' w1 w2 u1 u2 H2 s2 lH m1 m2 p1 p2 d1 d2=>ay (aH lH rfl (aP ?_))⟩
 obtain⟨b1,b2,b3,b4⟩:=rS t1.ak (a:Int) c1 (by omega) (by rw[←eS,hz1];omega)
 rw[←d2] at b2 b4
 rw[Int.toNat_natCast] at b4
 have g2:u2.ak.length≤1000:=by rw[d2];have:=(oz (ends ts) t1.ak a).2;omega
 have g3:(txt (aq ts) u2.ak).length≤1000000:=by rw[b4,List.length_drop];omega
 refine⟨s,dx,lt,lb,lf,ts,w2,u2,rfl,S1.same s2,m2,p2,b2,g2,l2,l3,fun w3 H3 s3 f3 h3=>rV h3 g3 ?_⟩
 have e:tx (aq ts) u2.ak=mW (txt (aq ts) t.ak) a b:=by unfold tx mW;rw[b4,c3]
 rw[e]
 exact k H3 (s1.trans (s2.trans s3))
theorem Kd{Γ:aE}{D:Ends}{σ:St}{H:Hp}{r body:List RS}{i:Nat}{x:RE}(h:ag Γ x σ H fun v H1=> ∃a,v= .ref a∧(∃xs,aC Γ.K H1 a xs)∧ ∃W:Nat→Nat→St→Hp→Prop,(∃m,W 0 m σ H1)∧ ∀j m σ H,W j m σ H→
  ((dj Γ.K a).stop j H∧({D with nx:=ar Γ r D}:Ends).nx σ H)∨((dj Γ.K a).go j H∧ ∃N:St→Hp→Prop,(∀σ' H',N σ' H'→ ∃m',m'<m∧W (j+1) m' σ' H')∧ ∀x H',(dj Γ.K a).d9 j H x H'→dQ i x σ H' fun σ2 H2=>ar Γ body {({D with nx:=ar Γ r D}:Ends) with nx:=N,ct:=N,bk:=({D with nx:=ar Γ r D}:Ends).nx} σ2 H2)):
  ar Γ (.gL i .list [x] body::r) D σ H:=oU (x:=x) _ _ (fun _ _=>Iff.rfl) h
theorem Ke:(("keep":Str)==("cut":Str))=false:=by decide+kernel
theorem wPC:(("put":Str)==("cut":Str))=false:=by decide+kernel
theorem Kf:(("cut":Str)==("cut":Str))=true:=by decide+kernel
theorem wKP:(("keep":Str) !=("put":Str))=true:=by decide+kernel
theorem wPP:(("put":Str) !=("put":Str))=false:=by decide+kernel
theorem wCP:(("cut":Str) !=("put":Str))=true:=by decide+kernel
theorem oY{l r:List Nat}{n:Int}{ps:List Pt}(h:Run l (.keep n::ps) r): ∃a l' r',l=a++l'∧r=a++r'∧n=a.length∧Run l' ps r':=by
 cases h with | keep e h=>exact⟨_,_,_,rfl,rfl,e,h⟩
theorem rY{l r:List Nat}{s:Str}{ps:List Pt}(h:Run l (.put s::ps) r): ∃r',r=s.cps.toList++r'∧Run l ps r':=by
 cases h with | put h=>exact⟨_,rfl,h⟩
theorem rZ{l r:List Nat}{s:Str}{ps:List Pt}(h:Run l (.cut s::ps) r): ∃l',l=s.cps.toList++l'∧Run l' ps r:=by
 cases h with | cut h=>exact⟨_,rfl,h⟩
def oZ(CP C:Addr):Sp:=fun vs H Q E=> ∃(p dp s dx lt lb lf a:Addr) (v:V) (t:Tr) (ts:List Str) (xs:List V) (ps:List Pt) (r:List Nat),vs=[.ref p, .ref a]∧cp CP H p dp s v t (aq ts)∧bX C H s dx lt lb lf ts∧t.ak.length≤1000∧ts.length≤10000∧(aq ts).length≤500000∧(txt (aq ts) t.ak).length≤1000000∧
 H a=some (.lst xs)∧bL H xs ps∧(∀p∈ps,dC p)∧chainOk "" ps=true∧ps.length≤1000000∧Run (txt (aq ts) t.ak) ps r∧ ∀H',aI H H'→Q .av H'
abbrev acx(CP C:Addr):List (Str×Addr×Sp):=[("size",CP,eT CP),("part",CP,iX CP C)]
theorem acy{K:PySem.W.Frag}{CP C CF:Addr}(T:fi K CP)(vs:List V)(H:Hp)(Q:VK)(E:XK)(h:oZ CP C vs H Q E):
  ar (aS K [("sizes",oE),("part_size",eM)] [] [] (acx CP C) (et:=[("BadFit",CF)]) (E:=E)) xn (Dn Q) (start xl vs) H:=by
 obtain⟨p,dp,s,dx,lt,lb,lf,a,v,t,ts,xs,ps,r,rfl,P,S,l1,l2,l3,l4,ha,cH,aG,de,hl,hr,k⟩:=h
 have lx:=Paired.length cH
 have rX:(fu s v).lookup ("size":Str)=none:=fz (by decide+kernel) (by decide+kernel)
 have acz:(fu s v).lookup ("part":Str)=none:=fz (by decide+kernel) (by decide+kernel)
 refine bP (bJ (bI (bH oE rfl (ax (ai rfl (aP ⟨a,xs,ps,rfl,ha,cH,aG,de,hl,fun w H1 s1 hw=>ay (aH hw rfl ?_)⟩))))))
 have P1:=P.same s1
 refine gX CP (eT CP) rfl (ai rfl ⟨p,dp,_,rfl,P1.ob,rX,p,dp,s,v,t,_,rfl,P1,cnI ⟨_,rfl,iF (dc ?_) (by rw[hr.over];simp)⟩⟩)
 refine bw (ay ?_)
 refine Kd (ai rfl ⟨a,rfl,⟨_,aC.of (s1 _ _ ha)⟩,nq (K:=K) (a:=a) (xs:=xs) (fun i σ H2=> ∃(x:Option V) (m1 m2 r2:List Nat),σ=[some (.ref p),some (.ref a),some (.int (m1.length:Nat)),x]∧aI H H2∧txt (aq ts) t.ak=m1++m2∧Run m2 (ps.drop i) r2)
  ⟨none,[],_,r,rfl,s1,rfl,hr⟩ (fun i σ H2 _ ⟨_,_,_,_,_,s2,_⟩=>aC.of (s2 _ _ ha)) ?_ ?_⟩)
 ·rintro i x σ H2 hi ⟨x0,m1,m2,r2,rfl,s2,em,cj⟩
  obtain⟨q,hq,gW⟩:=cH.get hi
  obtain⟨b,rfl,hb⟩:=gW.mono (bj s2)
  have bc:i<ps.length:=(List.getElem?_eq_some_iff.mp hq).1
  have ed:ps.drop i=q::ps.drop (i+1):=by rw[List.drop_eq_getElem_cons bc,(List.getElem?_eq_some_iff.mp hq).2]
  have oq:=aG q (List.mem_of_getElem? hq)
  rw[ed] at cj
  have P2:=P.same s2
  have S2:=S.same s2
  have lm:(txt (aq ts) t.ak).length=m1.length+m2.length:=by rw[em,List.length_append]
  refine bP (JS (bJ (bI (ai rfl (ay (aH hb rfl (ay (cZ ⟨_,rfl, ?_⟩))))))))
  cases q with
  | keep n=>
   obtain⟨c,l',r',e1,e2,e3,h'⟩:=oY cj
   refine iF (iF (dc ?_) rfl) Ke
   refine bP (bJ (bI (ai rfl (ay (aH hb rfl (ay (mM ⟨_,rfl,iT ?_ wKP⟩)))))))
   refine bw (aU (ai rfl (bH eM rfl (ax (ai rfl (aP ⟨_, .keep n,rfl,⟨b,rfl,hb⟩,trivial,cy ?_⟩))))))
   refine⟨some (.ref b),m1++c,l',r', ?_,s2,by rw[em,e1,List.append_assoc],h'⟩
   show[some (V.ref p),some (V.ref a),some (V.int ((m1.length:Int)+n)),some (V.ref b)]=_
   rw[List.length_append,e3];rfl
  | put z=>
   obtain⟨r',e2,h'⟩:=rY cj
   refine iF (iF (dc ?_) rfl) wPC
   refine bP (bJ (bI (ai rfl (ay (aH hb rfl (ay (mM ⟨_,rfl,iF ?_ wPP⟩)))))))
   exact⟨some (.ref b),m1,m2,r',rfl,s2,em,h'⟩
  | cut z=>
   obtain⟨l',e1,h'⟩:=rZ cj
   have lz:=len_list z
   have lm2:m2.length=z.length+l'.length:=by rw[e1,List.length_append,←lz]
   refine iT ?_ Kf
   refine bJ (yE CP (iX CP C) rfl (ai rfl ⟨p,dp,_,rfl,P2.ob,acz,ai rfl (aU (ai rfl (gh (bI (ai rfl (ay (aH hb rfl ⟨bV oq.1.1,cy ?_⟩)))))))⟩))
   refine⟨p,dp,s,dx,lt,lb,lf,v,t,ts,m1.length,m1.length+z.length,rfl,P2,S2,l1,l2,l3,l4,by omega,by omega,fun H3 s3=> ?_⟩
   have ec:mW (txt (aq ts) t.ak) m1.length (m1.length+z.length)=z:=by
    apply gd
    show(((txt (aq ts) t.ak).take _).drop _).toArray.toList=_
    rw[em,e1,List.take_length_add_append,lz,List.take_left,List.drop_left]
   have gj:=s3 _ _ hb
   refine bI (ai rfl (ay (aH gj rfl (mM ⟨_,rfl,iF (dc ?_) (by rw[ec];simp[Pt.val])⟩))))
   refine bP (bJ (bI (ai rfl (ay (aH gj rfl (ay (mM ⟨_,rfl,iT ?_ wCP⟩)))))))
   refine bw (aU (ai rfl (bH eM rfl (ax (ai rfl (aP ⟨_, .cut z,rfl,⟨b,rfl,gj⟩,oq.1.1,cy ?_⟩))))))
   refine⟨some (.ref b),m1++z.cps.toList,l',r2, ?_,s2.trans s3,by rw[em,e1,List.append_assoc],h'⟩
   show[some (V.ref p),some (V.ref a),some (V.int ((m1.length:Int)+ (z.length:Nat))),some (V.ref b)]=_
   rw[List.length_append,←lz];rfl
 ·rintro σ H2 ⟨_,_,_,_,rfl,s2,_⟩
  exact k H2 s2
theorem yF(F:Int→Int): ∀(xs:List P3) (n:Int),(cc F xs n).length+ (cf F xs n).length≤xs.length+1
 | [],n=>by simp[cc,cf]
 | p::xs,n=>by
  have ih:=yF F xs (n - p.2.1)
  by_cases z:n≤0
  ·obtain⟨e1,e2⟩:=xZ F z (p::xs)
   rw[e1,e2];simp
  ·by_cases g:p.2.1≤n
   ·have e1:cc F (p::xs) n=p::cc F xs (n - p.2.1):=by obtain⟨a,b,c⟩:=p;simp only[cc];rw[if_neg z,if_pos g]
    have e2:cf F (p::xs) n=cf F xs (n - p.2.1):=by obtain⟨a,b,c⟩:=p;simp only[cf];rw[if_neg z,if_pos g]
    rw[e1,e2,List.length_cons,List.length_cons];omega
   ·have e1:(cc F (p::xs) n).length=1:=by obtain⟨a,b,c⟩:=p;simp only[cc];rw[if_neg z,if_neg g];rfl
    have e2:(cf F (p::xs) n).length=xs.length+1:=by obtain⟨a,b,c⟩:=p;simp only[cf];rw[if_neg z,if_neg g];rfl
    rw[e1,e2,List.length_cons];omega
theorem cp.ne{CP C:Addr}{H:Hp}{p dp s s' dx lt lb lf:Addr}{v:V}{t:Tr}{S:List Nat}{ts:List Str}(P:cp CP H p dp s' v t S)(St:bX C H s dx lt lb lf ts):p≠s∧p≠lt∧p≠lb∧p≠lf:=by
 refine⟨fun z=> ?_,fun z=> ?_,fun z=> ?_,fun z=> ?_⟩
 ·have e:=P.ob
  rw[z,St.ob] at e
  injection e with e
  injection e with e1 e2 e3
  have:=congrArg List.length e3
  simp[dh,fu] at this
 ·have e:=P.ob
  rw[z,St.tx] at e;cases e
 ·have e:=P.ob
  rw[z,St.bg] at e;cases e
 ·have e:=P.ob
  rw[z,St.fd] at e;cases e
theorem cp.but{CP C:Addr}{H H':Hp}{p dp s s' dx lt lb lf:Addr}{v:V}{t:Tr}{S:List Nat}{ts:List Str}(P:cp CP H p dp s' v t S)(St:bX C H s dx lt lb lf ts)(b:c_ s lt lb lf H H'):cp CP H' p dp s' v t S:=by
 obtain⟨n1,n2,n3,n4⟩:=P.ne St
 exact⟨b _ _ P.ob n1 n2 n3 n4,P.nd.mono (b.b6 St),P.ok,P.pc⟩
theorem cp.grow{CP:Addr}{H:Hp}{p dp s:Addr}{v:V}{t:Tr}{S:List Nat}(T:List Nat)(P:cp CP H p dp s v t S):cp CP H p dp s v t (S++T):=⟨P.ob,P.nd,P.ok,fun q hq=> (P.pc q hq).grow.1⟩
theorem Kg{ts:List Str}{z:Str}(hz:z≠""):bY (aq (ts++ [z])) (((aq ts).length:Int),(z.length:Int),(z.cps.toList.count 10:Int))∧seg (aq (ts++ [z])) (((aq ts).length:Int),(z.length:Int),(z.cps.toList.count 10:Int))=z.cps.toList:=by
 have e:seg (aq (ts++ [z])) (((aq ts).length:Int),(z.length:Int),(z.cps.toList.count 10:Int))=z.cps.toList:=by
  unfold seg
  rw[eB,iM]
  show((aq ts++z.cps.toList).drop (((aq ts).length:Nat):Int).toNat).take ((z.length:Nat):Int).toNat=_
  rw[Int.toNat_natCast,Int.toNat_natCast,List.drop_left,len_list,List.take_length]
 have l1:1≤z.length:=by
  by_cases q:z.length=0
  ·have e0:z.cps.toList=[]:=List.eq_nil_of_length_eq_zero (by rw[←len_list];exact q)
   have e1:z="":=gd (by rw[e0];rfl)
   exact absurd e1 hz
  ·omega
 refine⟨⟨by show(0:Int)≤ ((aq ts).length:Int);omega,by show(1:Int)≤ (z.length:Int);omega, ?_,by rw[e]⟩,e⟩
 rw[eB,iM,List.length_append,←len_list]
 show((aq ts).length:Int)+ (z.length:Int)≤_
 omega
def r6(C:Addr)(H:Hp)(p a s dx lt lb lf:Addr)(N:Nat)(ts:List Str)(ps:List Pt)(r:List Nat)(i:Nat)(σ:St)(H2:Hp):Prop:=
 ∃(x4 x5:Option V) (va vr:V) (ta tr:Tr) (us:List Str) (m2 r1 r2:List Nat),σ=[some (.ref p),some (.ref a),some va,some vr,x4,x5]∧c_ s lt lb lf H H2∧bX C H2 s dx lt lb lf (ts++us)∧Nd H2 ta va∧Nd H2 tr vr∧ta.ok∧tr.ok∧
  (∀q∈ta.ak,bY (aq (ts++us)) q)∧(∀q∈tr.ak,bY (aq (ts++us)) q)∧txt (aq (ts++us)) ta.ak=r1∧txt (aq (ts++us)) tr.ak=m2∧r=r1++r2∧Run m2 (ps.drop i) r2∧
  ta.ak.length+tr.ak.length≤N+i∧us.length≤i∧(aq us).length≤r1.length
def o5(CP C:Addr):Sp:=fun vs H Q E=> ∃(p dp s dx lt lb lf a:Addr) (v:V) (t:Tr) (ts:List Str) (xs:List V) (ps:List Pt) (r:List Nat),vs=[.ref p, .ref a]∧cp CP H p dp s v t (aq ts)∧bX C H s dx lt lb lf ts∧t.ak.length+ps.length≤1000∧ts.length+ps.length≤10000∧(aq ts).length+r.length≤500000∧(txt (aq ts) t.ak).length≤1000000∧
 H a=some (.lst xs)∧a≠lt∧a≠lb∧a≠lf∧bL H xs ps∧(∀p∈ps,dC p)∧chainOk "" ps=true∧Run (txt (aq ts) t.ak) ps r∧
 ∀p' dN v' t' us H',c_ s lt lb lf H H'→H p'=none→bX C H' s dx lt lb lf (ts++us)→cp CP H' p' dN s v' t' (aq (ts++us))→txt (aq (ts++us)) t'.ak=r→t'.ak.length≤t.ak.length+ps.length→us.length≤ps.length→(aq us).length≤r.length→Q (.ref p') H'
abbrev Kh(CP C:Addr):List (Str×Sp):=[("need_fit",oZ CP C),("sewn",mU),("node_put",iV C),("parted",d5 C 32),("part_size",eM)]
theorem Ki:(("put":Str)==("put":Str))=true:=by decide+kernel
theorem Kj:(("keep":Str)==("put":Str))=false:=by decide+kernel
theorem Kk:(("cut":Str)==("put":Str))=false:=by decide+kernel
theorem acA:(("keep":Str)==("keep":Str))=true:=by decide+kernel
theorem Kl:(("cut":Str)==("keep":Str))=false:=by decide+kernel
theorem acB{K:PySem.W.Frag}{CP C:Addr}{E:XK}{D:Ends}(T:fi K CP){H H2:Hp}{p dp a s dx lt lb lf:Addr}{v:V}{t:Tr}{N:Nat}{ts:List Str}{ps:List Pt}{r:List Nat}{i:Nat}{x:V}{σ:St}{q:Pt}
  (P:cp CP H p dp s v t (aq ts)) (S0:bX C H s dx lt lb lf ts) (hq:ps[i]?=some q) (oq:dC q) (hx:gU H2 x q) (bN:N+ps.length≤1000) (bt:ts.length+ps.length≤10000) (bs:(aq ts).length+r.length≤500000)
  (I:r6 C H p a s dx lt lb lf N ts ps r i σ H2)
  (hD:D.nx=r6 C H p a s dx lt lb lf N ts ps r (i+1)) (hC:D.ct=r6 C H p a s dx lt lb lf N ts ps r (i+1)):
  ar (aS K (Kh CP C) [] [] [] [("Paper",CP,gi CP)] (E:=E)) [.ite (.cmp .Eq (.ix (.v 4) (.c (.int 0))) (.c (.str "put"))) [.asg 2 (.call 1 [(.v 2),(.call 2 [(.fld (.v 0) "stock"),(.ix (.v 4) (.c (.int 1)))])]),
   .cont] [],
  .asg 5 (.call 3 [(.v 3),(.call 4 [(.v 4)]),(.fld (.v 0) "stock")]),
  .asg 3 (.ix (.v 5) (.c (.int 1))),
  .ite (.cmp .Eq (.ix (.v 4) (.c (.int 0))) (.c (.str "keep"))) [.asg 2 (.call 1 [(.v 2),(.ix (.v 5) (.c (.int 0)))])] []] D (σ.set 4 (some x)) H2:=by
 obtain⟨x4,x5,va,vr,ta,tr,us,m2,r1,r2,rfl,bu,S,na,nr,oa,orr,pa,pr,ea,er,iY,cj,bl,bu2,yG⟩:=I
 obtain⟨b,rfl,hb⟩:=hx
 have bc:i<ps.length:=(List.getElem?_eq_some_iff.mp hq).1
 have ed:ps.drop i=q::ps.drop (i+1):=by rw[List.drop_eq_getElem_cons bc,(List.getElem?_eq_some_iff.mp hq).2]
 rw[ed] at cj
 have P2:=P.but S0 bu
 have lr:r.length=r1.length+r2.length:=by rw[iY,List.length_append]
 have ls:(aq (ts++us)).length=(aq ts).length+ (aq us).length:=by rw[eB,List.length_append]
 have lt2:(ts++us).length=ts.length+us.length:=List.length_append
 refine bP (bJ (bI (ai rfl (ay (aH hb rfl (ay (cZ ⟨_,rfl, ?_⟩)))))))
 cases q with
 | put z=>
  obtain⟨r',e2,h'⟩:=rY cj
  refine iT ?_ Ki
  have lz:=len_list z
  have lr2:r2.length=z.length+r'.length:=by rw[e2,List.length_append,←lz]
  refine bw (bH mU rfl (ax (ai rfl (ax (bH (iV C) rfl (ax (dE (ai rfl ⟨p,CP,dp,_,_,rfl,P2.ob,T.cl,T.fZ,g7,ax (bI (ai rfl (ay (aH hb rfl (aP ?_)))))⟩))))))))
  refine⟨s,dx,lt,lb,lf,ts++us,z,rfl,S,oq.1,by omega,by omega, .inr ⟨oq.2,fun v1 H3 t1 b3 S3 n1 o1 e1=>aP ?_⟩⟩
  rw[List.append_assoc] at S3
  obtain⟨pz,ez⟩:=Kg (ts:=ts++us) oq.2
  rw[List.append_assoc] at pz ez
  have eg:aq (ts++ (us++ [z]))=aq (ts++us)++z.cps.toList:=by rw[←List.append_assoc,eB,iM]
  have p1: ∀q∈t1.ak,bY (aq (ts++ (us++ [z]))) q:=fun q hq=>by
   rw[e1] at hq
   rw[List.mem_singleton.mp hq];exact pz
  have tu:=b3.b6 S
  refine⟨va,v1,ta,t1,aq (ts++ (us++ [z])),rfl,na.mono tu,n1,oa,o1,fun q hq=>by rw[eg];exact(pa q hq).grow.1,p1,fun _ hh=> ?_,by omega,by rw[e1];exact Nat.le_of_ble_eq_true rfl,fun v4 H4 t4 s4 n4 o4 p4 e4 l4=> ?_⟩
  ·rw[hh] at e1;cases e1
  ·have tu4:=bj s4
   show D.ct _ _
   rw[hC]
   have et1:txt (aq (ts++ (us++ [z]))) t1.ak=z.cps.toList:=by rw[e1,cx,txt_nil,List.append_nil];exact ez
   refine⟨some (.ref b),x5,v4,vr,t4,tr,us++ [z],m2,r1++z.cps.toList,r',rfl,(bu.trans b3).trans (eE s4),S3.same s4,n4,(nr.mono tu).mono tu4,o4,orr,p4,fun q hq=>by rw[eg];exact(pr q hq).grow.1, ?_, ?_, ?_,h', ?_, ?_, ?_⟩
   ·rw[e4,et1,eg,rR pa,ea]
   ·rw[eg,rR pr,er]
   ·rw[iY,e2,List.append_assoc]
   ·have:t1.ak.length=1:=by rw[e1];rfl
    omega
   ·rw[List.length_append];show us.length+1≤i+1;omega
   ·rw[eB,iM,List.length_append,List.length_append];omega
 | keep n=>
  obtain⟨c,l',r',e1,e2,e3,h'⟩:=oY cj
  refine iF (dc ?_) Kj
  have n1:1≤n:=oq
  have hz:tr.sz=((txt (aq (ts++us)) tr.ak).length:Nat):=by rw[eS,←oT pr]
  have lm:(txt (aq (ts++us)) tr.ak).length=c.length+l'.length:=by rw[er,e1,List.length_append]
  have hh:=Tr.eL orr (by omega)
  refine bw (bH (d5 C 32) rfl (ax (ai rfl (ax (bH eM rfl (ax (ai rfl (aP ⟨_, .keep n,rfl,⟨b,rfl,hb⟩,trivial,ax (dE (ai rfl ⟨p,CP,dp,_,_,rfl,P2.ob,T.cl,T.fZ,g7,aP ?_⟩))⟩))))))))
  refine⟨vr,tr,n,s,dx,lt,lb,lf,ts++us,rfl,nr,orr,S,rW pr,by omega,by omega,by omega,by omega,fun w v1 v2 t1 t2 H3 s3 hw Km n2 o1 o2 d1 d2=> ?_⟩
  obtain⟨c1,c2,c3,c4⟩:=rS tr.ak n pr (by omega) (by rw[←eS,hz];omega)
  have cs:=yF (ends (ts++us)) tr.ak n
  rw[←d1] at c1 c3
  rw[←d2] at c2 c4
  rw[←d1,←d2] at cs
  have en:n.toNat=c.length:=by omega
  have yH:txt (aq (ts++us)) t1.ak=c:=by rw[c3,er,e1,en,List.take_left]
  have yI:txt (aq (ts++us)) t2.ak=l':=by rw[c4,er,e1,en,List.drop_left]
  have gj:=s3 _ _ hb
  have tu3:=bj s3
  refine bw (bI (ai rfl (ay (aH hw rfl ?_))))
  refine bP (bJ (bI (ai rfl (ay (aH gj rfl (ay (cZ ⟨_,rfl,iT ?_ acA⟩)))))))
  refine bw (bH mU rfl (ax (ai rfl (ax (bI (ai rfl (ay (aH hw rfl (aP ?_)))))))))
  refine⟨va,v1,ta,t1,aq (ts++us),rfl,na.mono tu3,Km,oa,o1,pa,c1,fun _ z=> ?_,by omega,by omega,fun v4 H4 t4 s4 n4 o4 p4 e4 l4=> ?_⟩
  ·rw[z] at yH
   have:c=[]:=by rw[←yH];rfl
   rw[this] at e3
   simp at e3;omega
  ·show D.nx _ _
   rw[hD]
   refine⟨some (.ref b),some (.ref w),v4,v2,t4,t2,us,l',r1++c,r',rfl,(bu.trans (eE s3)).trans (eE s4),(S.same s3).same s4,n4,n2.mono (bj s4),o4,o2,p4,c2, ?_,yI, ?_,h',by omega,by omega, ?_⟩
   ·rw[e4,ea,yH]
   ·rw[iY,e2,List.append_assoc]
   ·rw[List.length_append];omega
 | cut z=>
  obtain⟨l',e1,h'⟩:=rZ cj
  refine iF (dc ?_) Kk
  have lz:=len_list z
  have hz:tr.sz=((txt (aq (ts++us)) tr.ak).length:Nat):=by rw[eS,←oT pr]
  have lm:(txt (aq (ts++us)) tr.ak).length=z.length+l'.length:=by rw[er,e1,List.length_append,←lz]
  have hh:=Tr.eL orr (by omega)
  refine bw (bH (d5 C 32) rfl (ax (ai rfl (ax (bH eM rfl (ax (ai rfl (aP ⟨_, .cut z,rfl,⟨b,rfl,hb⟩,oq.1.1,ax (dE (ai rfl ⟨p,CP,dp,_,_,rfl,P2.ob,T.cl,T.fZ,g7,aP ?_⟩))⟩))))))))
  refine⟨vr,tr,(z.length:Nat),s,dx,lt,lb,lf,ts++us,rfl,nr,orr,S,rW pr,by omega,by omega,by omega,by omega,fun w v1 v2 t1 t2 H3 s3 hw Km n2 o1 o2 d1 d2=> ?_⟩
  obtain⟨c1,c2,c3,c4⟩:=rS tr.ak (z.length:Nat) pr (by omega) (by rw[←eS,hz];omega)
  have cs:=yF (ends (ts++us)) tr.ak (z.length:Nat)
  rw[←d2] at c2 c4
  rw[←d1,←d2] at cs
  have yI:txt (aq (ts++us)) t2.ak=l':=by rw[c4,er,e1,Int.toNat_natCast,lz,List.drop_left]
  have gj:=s3 _ _ hb
  refine bw (bI (ai rfl (ay (aH hw rfl ?_))))
  refine bP (bJ (bI (ai rfl (ay (aH gj rfl (ay (cZ ⟨_,rfl,iF (dc ?_) Kl⟩)))))))
  show D.nx _ _
  rw[hD]
  exact⟨some (.ref b),some (.ref w),va,v2,ta,t2,us,l',r1,r2,rfl,bu.trans (eE s3),S.same s3,na.mono (bj s3),n2,oa,o2,pa,c2,ea,yI,iY,h',by omega,by omega,yG⟩
theorem acH{K:PySem.W.Frag}{CP C:Addr}(T:fi K CP)(vs:List V)(H:Hp)(Q:VK)(E:XK)(h:o5 CP C vs H Q E):
  ar (aS K (Kh CP C) [] [] [] [("Paper",CP,gi CP)] (E:=E)) xM (Dn Q) (start xJ vs) H:=by
 obtain⟨p,dp,s,dx,lt,lb,lf,a,v,t,ts,xs,ps,r,rfl,P,S,l1,l2,l3,l4,ha,a1,a2,a3,cH,aG,de,hr,k⟩:=h
 have lx:=Paired.length cH
 have a0:a≠s:=fun z=>by rw[z,S.ob] at ha;cases ha
 refine k_ (bH (oZ CP C) rfl (ax (ai rfl (ax (ai rfl (aP ⟨p,dp,s,dx,lt,lb,lf,a,v,t,ts,xs,ps,r,rfl,P,S,by omega,by omega,by omega,l4,ha,cH,aG,de,by omega,hr,fun H1 s1=> ?_⟩))))))
 have P1:=P.same s1
 have S1:=S.same s1
 refine bw (ay (bw (dE (ai rfl ⟨p,CP,dp,_,_,rfl,P1.ob,T.cl,T.iB,lJ, ?_⟩))))
 refine Kd (ai rfl ⟨a,rfl,⟨_,aC.of (s1 _ _ ha)⟩,nq (K:=K) (a:=a) (xs:=xs) (r6 C H p a s dx lt lb lf t.ak.length ts ps r) ?_ ?_ ?_ ?_⟩)
 ·exact⟨none,none, .av,v, .nil,t,[],_,[],r,rfl,eE s1,by rw[List.append_nil];exact S1,rfl,P1.nd,trivial,P.ok,fun q hq=> (by cases hq),by rw[List.append_nil];exact P.pc,rfl,by rw[List.append_nil],rfl,hr,by show 0+_≤_;omega,Nat.zero_le _,Nat.zero_le _⟩
 ·rintro i σ H2 _ ⟨_,_,_,_,_,_,_,_,_,_,_,bu,_⟩
  exact aC.of (bu _ _ ha a0 a1 a2 a3)
 ·intro i x σ H2 hi I
  obtain⟨q,hq,gW⟩:=cH.get hi
  have bu:c_ s lt lb lf H H2:=by obtain⟨_,_,_,_,_,_,_,_,_,_,_,bu,_⟩:=I;exact bu
  exact acB T P S hq (aG q (List.mem_of_getElem? hq)) (gW.mono (bu.b6 S)) l1 l2 l3 I rfl rfl
 ·rintro σ H2 ⟨x4,x5,va,vr,ta,tr,us,m2,r1,r2,rfl,bu,S2,na,nr,oa,orr,pa,pr,ea,er,iY,cj,bl,bu2,yG⟩
  rw[lx,List.drop_length] at cj
  have e2:r2=[]:=by cases cj;rfl
  rw[e2,List.append_nil] at iY
  have P2:=P.but S bu
  refine cY (Kb CP (gi CP) rfl (dE (ai rfl ⟨p,CP,dp,_,_,rfl,P2.ob,T.cl,T.fZ,g7,ai rfl fun p' dN f1 f2 f3=> ?_⟩)))
  refine⟨p',dN,s,va,rfl,aN,fun H3 h3 hk=> ⟨rfl, ?_⟩⟩
  have s3:aI H2 H3:=fun b o e=>hk b o (by rw[aK (bW e f1),aK (bW e f2)];exact e) (bW e f1)
  have fp:H p'=none:=by
   cases hq:H p' with
   | none=>rfl
   | some o=>
    exfalso
    by_cases z1:p'=s
    ·rw[z1,S2.ob] at f1;cases f1
    ·by_cases z2:p'=lt
     ·rw[z2,S2.tx] at f1;cases f1
     ·by_cases z3:p'=lb
      ·rw[z3,S2.bg] at f1;cases f1
      ·by_cases z4:p'=lf
       ·rw[z4,S2.fd] at f1;cases f1
       ·rw[bu _ _ hq z1 z2 z3 z4] at f1;cases f1
  exact k p' dN va ta us H3 (bu.trans (eE s3)) fp (S2.same s3) ⟨h3,na.mono (bj s3),oa,pa⟩ (by rw[ea,iY]) (by omega) (by omega) (by rw[iY];exact yG)
def o6(CP C:Addr):Sp:=fun vs H Q E=> ∃(x:Str),vs=[.str x]∧good x∧
 ∀p dp s dx lt lb lf v t ts H',aI H H'→bX C H' s dx lt lb lf ts→cp CP H' p dp s v t (aq ts)→txt (aq ts) t.ak=x.cps.toList→t.ak.length≤1→ts.length≤1→(aq ts).length≤x.length→H p=none→H s=none→H lt=none→H lb=none→H lf=none→Q (.ref p) H'
theorem acI{K:PySem.W.Frag}{CP C CT:Addr}(vs:List V)(H:Hp)(Q:VK)(E:XK)(h:o6 CP C vs H Q E):
  ar (aS K [("need_text",kY CT),("node_put",iV C)] [] [] [] [("Stock",C,oJ C),("Paper",CP,gi CP)] (E:=E)) xk (Dn Q) (start xj vs) H:=by
 obtain⟨x,rfl,gx,k⟩:=h
 refine k_ (bH (kY CT) rfl (ax (ai rfl (aP ⟨_,rfl, .inl ⟨x,rfl,gx, ?_⟩⟩))))
 refine bw (acg C (oJ C) rfl fun s dx f1 f2 f3=> ⟨s,dx,rfl,aN,fun lt lb lf H1 S1 g1 g2 g3 hk=> ⟨rfl, ?_⟩⟩)
 have s1:aI H H1:=fun b o e=>hk b o (by rw[aK (bW e f1),aK (bW e f2)];exact e) (bW e f1)
 have fr: ∀b,upd (upd H dx (.own s)) s (.ins C dx []) b=none→H b=none:=fun b e=>by
  cases hq:H b with
  | none=>rfl
  | some o=>rw[aK (bW hq f1),aK (bW hq f2),hq] at e;cases e
 have q1:=fr lt g1
 have q2:=fr lb g2
 have q3:=fr lf g3
 have fin: ∀(H2:Hp) (v:V) (t:Tr) (ts:List Str),c_ s lt lb lf H1 H2→bX C H2 s dx lt lb lf ts→Nd H2 t v→t.ok→(∀q∈t.ak,bY (aq ts) q)→txt (aq ts) t.ak=x.cps.toList→t.ak.length≤1→ts.length≤1→(aq ts).length≤x.length→
   ∀p dp,H2 p=none→H2 dp=none→dp≠p→gi CP [.ref p, .ref s,v] (upd (upd H2 dp (.own p)) p (.ins CP dp [])) (fun v H2=>v= .av∧Q (.ref p) H2) E:=by
  intro H2 v t ts b2 S2 n2 o2 p2 e2 l2 l3 l4 p dp h1 h2 h3
  have s2:aI H H2:=fun b o e=>b2 b o (s1 _ _ e) (bW e f1) (bW e q1) (bW e q2) (bW e q3)
  refine⟨p,dp,s,v,rfl,aN,fun H3 h3 hk=> ⟨rfl, ?_⟩⟩
  have s3:aI H2 H3:=fun b o e=>hk b o (by rw[aK (bW e h1),aK (bW e h2)];exact e) (bW e h1)
  exact k p dp s dx lt lb lf v t ts H3 (s2.trans s3) (S2.same s3) ⟨h3,n2.mono (bj s3),o2,p2⟩ e2 l2 l3 l4 (s2.free h1) f1 q1 q2 q3
 refine cY (Kb CP (gi CP) rfl (ai rfl (bH (iV C) rfl (ax (ai rfl (ax (ai rfl (aP ⟨s,dx,lt,lb,lf,[],x,rfl,S1,gx,Nat.zero_le _,Nat.zero_le _, ?_⟩))))))))
 by_cases hx:x=""
 ·refine .inl ⟨hx,fin H1 .av .nil [] (eE (aI.refl _)) S1 rfl trivial (fun q hq=> (by cases hq)) (by rw[hx];rfl) (Nat.zero_le _) (Nat.zero_le _) (Nat.zero_le _)⟩
 ·obtain⟨pz,ez⟩:=Kg (ts:=[]) hx
  refine .inr ⟨hx,fun v H2 t b2 S2 n2 o2 e2=>fin H2 v t [x] b2 S2 n2 o2 (fun q hq=> ?_) ?_ ?_ (Nat.le_refl _) ?_⟩
  ·rw[e2] at hq;rw[List.mem_singleton.mp hq];exact pz
  ·rw[e2,cx,txt_nil,List.append_nil];exact ez
  ·rw[e2];exact Nat.le_refl _
  ·rw[iM,len_list];exact Nat.le_refl _
theorem pick{its:List V}{j:Int}(h0:0≤j)(h1:j<its.length): ∃v∈its,dJ its j=some v:=by
 have gZ:j.toNat<its.length:=by omega
 refine⟨its[j.toNat],List.getElem_mem gZ, ?_⟩
 have e:=l_ (xs:=its) (j:=j.toNat) (v:=its[j.toNat]) (by simp[gZ])
 rw[show((j.toNat:Nat):Int)=j by omega] at e
 exact e
def eF:Sp:=fun vs H Q E=> ∃c k,vs=[.int c, .int k]∧ ∀m,0≤m→Q (.int m) H
theorem acJ{K:PySem.W.Frag}(vs:List V)(H:Hp)(Q:VK)(E:XK)(h:eF vs H Q E):ar (aS K [] [] (E:=E)) xQ (Dn Q) (start xO vs) H:=by
 obtain⟨c,k,rfl,q⟩:=h
 have h0: ∀z:Int,0≤z % 2147483647∧z % 2147483647<2147483647:=fun z=> ⟨Int.emod_nonneg _ (by decide),Int.emod_lt_of_pos _ (by decide)⟩
 have h1:=h0 (c*48271+7919*k+12345)
 have h2:=h0 ((c*48271+7919*k+12345) % 2147483647* ((c*48271+7919*k+12345) % 2147483647))
 have pm:(0:Int) <2147483647:=by decide
 refine⟨_,rfl, .inr ⟨by decide,by decide⟩,_,rfl, .inl ⟨by decide,by decide⟩,pm, ?_⟩
 refine⟨_,rfl,_,rfl, .inl ⟨by omega,by omega⟩,pm,_,rfl, .inl ⟨by omega,by omega⟩,pm, ?_⟩
 exact q _ (Int.emod_nonneg _ (by decide))
def A4:Str:="abcdefghijklmnopqrstuvwxyz{|}~"
def A5:Str:="ab"
theorem Kn:rk (A1++A4):=Jx (by decide+kernel)
theorem Ko:(A1++A4).length=94:=by decide+kernel
theorem al5:rk A5:=Jx (by decide+kernel)
theorem acL:A1.length+A4.length≤sizeLine:=by decide+kernel
theorem acM:rm "\n":=⟨rfl,fun c hc=>by
 have:((Str.ofString "\n").cps.toList.all fun c=>SG.cps.contains c)=true:=by decide+kernel
 exact List.all_eq_true.mp this c hc⟩
theorem yJ{K:PySem.W.Frag}{sd:Addr→List (Key×V)→Prop}{H:Hp}{Q:VK}{al:Str}{j:Int}(ho:rk al)(h0:0≤j)(h1:j<al.length)(q: ∀t,rm t→Q (.str t) H):ij K sd (.str al) (.int j) H Q:=by
 have gZ:j.toNat<al.cps.toList.length:=by rw[←len_list];omega
 refine .inr (.inr (.inl ⟨al,j,al.cps.toList[j.toNat],rfl,rfl,bV (by have:=ho.2.1;omega), ?_,q _ ⟨rfl,fun c hc=> ?_⟩⟩))
 ·have e:=l_ (xs:=al.cps.toList) (j:=j.toNat) (v:=al.cps.toList[j.toNat]) (by simp[gZ])
  rw[show((j.toNat:Nat):Int)=j by omega] at e
  exact e
 ·have:c=al.cps.toList[j.toNat]:=by simpa using hc
  rw[this];exact ho.2.2 _ (List.getElem_mem gZ)
theorem acN{x t:Str}(hx:good x)(ht:rm t)(hl:x.length≤1000):good (x++t):=by
 refine⟨by rw[Jy,ht.1];omega,fun c hc=> ?_⟩
 rw[app_list] at hc
 rcases List.mem_append.mp hc with h | h
 ·exact hx.2 c h
 ·exact ht.2 c h
theorem acO:good "":=⟨by decide,fun c hc=>by
 have:((Str.ofString "").cps.toList.all fun c=>SG.cps.contains c)=true:=by decide+kernel
 exact List.all_eq_true.mp this c hc⟩
def g8:Sp:=fun vs H Q E=> ∃c n,vs=[.int c, .int n]∧0≤n∧n≤1000∧ ∀x H',good x→x.length=n.toNat→aI H H'→Q (.str x) H'
theorem acP{K:PySem.W.Frag}(vs:List V)(H:Hp)(Q:VK)(E:XK)(h:g8 vs H Q E):ar (aS K [("_law_mixed",eF)] [] (E:=E)) xS (Dn Q) (start xR vs) H:=by
 obtain⟨c,n,rfl,hn0,eJ,k⟩:=h
 refine bw (ay ?_)
 refine bw (aU (ai rfl (ay ⟨acL, ?_⟩)))
 refine bw (ay ?_)
 refine⟨_,rfl,n,rfl,by omega,by omega,Ep (lo:=0) (n:=n.toNat) (fun i σ H2=> ∃(x:Str) (u4 u5:Option V),σ=[some (.int c),some (.int n),some (.str (A1++A4)),some (.str x),u4,u5]∧aI H H2∧good x∧x.length=i) ⟨_,none,none,rfl,aI.refl _,acO,rfl⟩ ?_ ?_⟩
 ·rintro i σ H2 hi ⟨x,u4,u5,rfl,s2,hx,oN⟩
  refine bw (bH eF rfl (ax (ai rfl (ax (ai rfl (aP ⟨_,_,rfl,fun m hm=> ?_⟩))))))
  have m2:0≤m / 8 % 2∧m / 8 % 2<2:=⟨Int.emod_nonneg _ (by decide),Int.emod_lt_of_pos _ (by decide)⟩
  have r9:0≤m / 8 % 94∧m / 8 % 94<94:=⟨Int.emod_nonneg _ (by decide),Int.emod_lt_of_pos _ (by decide)⟩
  have c8:ud m 8:=⟨by decide,by decide⟩
  refine bw (aU (ai rfl (bI (eQ (ax (ay (ax (bI (ay (aU (aU (ai rfl (ay ⟨c8,ay ⟨(by show(0:Int) <2;decide), ?_⟩⟩)))))))))))))
  refine yJ al5 m2.1 m2.2 fun t1 o1=> ?_
  refine ax (bI (ai rfl (aU (aU (ai rfl (ay ⟨c8,ay ⟨(by show(0:Int) <94;decide), ?_⟩⟩))))))
  refine yJ Kn r9.1 (by rw[Ko];exact r9.2) fun t2 o2=> ?_
  refine ax (bI (ai rfl (aU (aU (ai rfl (ay ⟨c8,ay ⟨(by show(0:Int) <94;decide), ?_⟩⟩))))))
  refine yJ Kn r9.1 (by rw[Ko];exact r9.2) fun t3 o3=> ?_
  refine aP ⟨(by show 4≤sizeLine;decide),fun l hl=> ?_⟩
  have s3:=sameNew (o:= .lst [V.str "\n",V.str t1,V.str t2,V.str t3]) hl
  obtain⟨v,hv,hat⟩:=pick (its:=[V.str "\n",V.str t1,V.str t2,V.str t3]) (j:=m % 4) (Int.emod_nonneg _ (by decide)) (Int.emod_lt_of_pos _ (by decide))
  have ue: ∃t,v= .str t∧rm t:=by
   simp only[List.mem_cons,List.not_mem_nil,or_false] at hv
   rcases hv with rfl | rfl | rfl | rfl
   ·exact⟨_,rfl,acM⟩
   ·exact⟨_,rfl,o1⟩
   ·exact⟨_,rfl,o2⟩
   ·exact⟨_,rfl,o3⟩
  obtain⟨t,rfl,ot⟩:=ue
  refine aU (ai rfl (ay ⟨(by show(0:Int) <4;decide), .inl ⟨l,_,_,_,rfl,rfl,aC.of aN,hat, ?_⟩⟩))
  refine⟨bV (by rw[ot.1];omega), ?_⟩
  exact⟨_,_,_,rfl,s2.trans s3,acN hx ot (by omega),by rw[Jy,ot.1,oN]⟩
 ·rintro σ H2 ⟨x,u4,u5,rfl,s2,hx,oN⟩
  exact cY (ai rfl (k x H2 hx oN s2))
theorem acR{K:PySem.W.Frag}(vs:List V)(H:Hp)(Q:VK)(E:XK)(h:oH vs H Q E):ar (aS K [] [] (E:=E)) xW (Dn Q) (start xV vs) H:=by
 obtain⟨x,a,xs,ps,r,rfl,hx,ha,cH,aG,hr,gg,q⟩:=h
 have hlen:=Paired.length cH
 refine⟨_,rfl,a,rfl,⟨_,aC.of ha⟩,nq (K:=K) (a:=a) (xs:=xs) (fun i σ H2=> ∃l1 l2 q1 q2 w v,σ=[some (.str x),some (.ref a),some (.str ⟨q1.toArray⟩),some (.int ((l1.length:Nat):Int)),w,v]∧H2=H∧
   x.cps.toList=l1++l2∧r=q1++q2∧Run l2 (ps.drop i) q2)
  ⟨[],x.cps.toList,[],r,none,none,rfl,rfl,rfl,rfl,hr⟩ (fun i σ H2 _ ⟨_,_,_,_,_,_,_,e,_⟩=>e ▸ aC.of ha) ?_ ?_⟩
 ·rintro i y σ H2 hi ⟨l1,l2,q1,q2,w,v,rfl,rfl,e1,e2,cj⟩
  obtain⟨pt,lI,b,rfl,hb⟩:=cH.get hi
  have iw:i<ps.length:=(List.getElem?_eq_some_iff.mp lI).1
  have ed:ps.drop i=pt::ps.drop (i+1):=by
   rw[List.drop_eq_getElem_cons iw]
   congr 1
   exact Option.some.inj ((List.getElem?_eq_getElem iw).symm.trans lI)
  rw[ed] at cj
  obtain⟨la,lb,qa,qb,rfl,rfl,yK,one⟩:=aaH cj
  have hpo:=aG pt (List.mem_of_getElem? lI)
  have lj:q1.length+qa.length≤1000000:=by rw[e2] at gg;simp at gg;omega
  refine⟨b,_,rfl, .inl (aX.of hb),rfl,_,_,rfl,_,_,rfl,rfl, ?_⟩
  cases pt with
  | put s=>
   obtain⟨rfl,rfl⟩:=one
   refine⟨_,rfl,_,rfl,_,rfl,_,rfl,bV (by rw[len_list,len_list];exact lj), ?_⟩
   refine⟨l1,lb,q1++s.cps.toList,qb,some (.str "put"),some (.str s), ?_,rfl,e1,by rw[e2];simp,yK⟩
   show[_,_,some (V.str (⟨q1.toArray⟩++s)),_,_,_]=_
   rw[show(⟨q1.toArray⟩++s:Str)=⟨(q1++s.cps.toList).toArray⟩ from gd (by rw[app_list])]
   rfl
  | cut s=>
   obtain⟨rfl,rfl⟩:=one
   refine⟨_,rfl,_,rfl,_,rfl,_,rfl,_,rfl,_,rfl,bV hpo, ?_⟩
   refine⟨l1++s.cps.toList,lb,q1,qb,some (.str "cut"),some (.str s), ?_,rfl,by rw[e1];simp,e2,yK⟩
   show[_,_,_,some (V.int ((l1.length:Int)+ (s.length:Int))),_,_]=_
   rw[List.length_append,←len_list,Int.natCast_add]
   rfl
  | keep n=>
   obtain⟨rfl,hn⟩:=one
   refine⟨_,rfl,_,rfl,_,rfl,_,rfl, ?_⟩
   refine⟨_,rfl,_,rfl,_,rfl,_,rfl,_,rfl,_,rfl,_,rfl,bV hx.1, ?_⟩
   rw[yg e1 n hn]
   refine⟨bV (by rw[len_list,len_list];exact lj), ?_⟩
   refine⟨_,rfl,_,rfl, ?_⟩
   refine⟨l1++la,lb,q1++la,qb,some (.str "keep"),some (.int n), ?_,rfl,by rw[e1];simp,by rw[e2];simp,yK⟩
   show[_,_,some (V.str (⟨q1.toArray⟩++ ⟨la.toArray⟩)),some (V.int ((l1.length:Int)+n)),_,_]=_
   rw[show(⟨q1.toArray⟩++ ⟨la.toArray⟩:Str)=⟨(q1++la).toArray⟩ from gd (by rw[app_list]),List.length_append,hn,Int.natCast_add]
   rfl
 ·rintro σ H2 ⟨l1,l2,q1,q2,w,v,rfl,rfl,e1,e2,cj⟩
  rw[hlen,List.drop_length] at cj
  cases cj
  rw[List.append_nil] at e2
  subst e2
  exact⟨_,rfl,q⟩
theorem Kq{α β:Type}{R:α→β→Prop}: ∀{ps:List β} {p:β} {xs:List α},Paired R xs (ps++ [p])→ ∃r_ x,xs=r_++ [x]∧Paired R r_ ps∧R x p
 | [],p,_, .cons h .nil=> ⟨[],_,rfl, .nil,h⟩
 | q::ps,p,_, .cons h r=>by
  obtain⟨r_,x,e,a,b⟩:=Kq (ps:=ps) r
  exact⟨_::r_,x,by rw[e];rfl, .cons h a,b⟩
section
variable {Γ:aE} {D:Ends} {σ:St} {H:Hp} {r:List RS} {Q:VK}
theorem yL{i:Int}(h:Q (.int (-i)) H):ag Γ (.neg (.c (.int i))) σ H Q:=h
theorem acT{o ix e:RE}(h:ag Γ e σ H fun v H1=>ag Γ o σ H1 fun x H2=>ag Γ ix σ H2 fun y H3=>uw x y v H3 fun H4=>ar Γ r D σ H4):ar Γ (.set o ix e::r) D σ H:=h
theorem acU{body:List RS}{is:List Nat}{x:RE}(h:ag Γ x σ H fun v H1=> ∃a,v= .ref a∧(∃xs,aC Γ.K H1 a xs)∧ ∃W:Nat→Nat→St→Hp→Prop,(∃m,W 0 m σ H1)∧ ∀j m σ H,W j m σ H→
  ((dj Γ.K a).stop j H∧({D with nx:=ar Γ r D}:Ends).nx σ H)∨((dj Γ.K a).go j H∧ ∃N:St→Hp→Prop,(∀σ' H',N σ' H'→ ∃m',m'<m∧W (j+1) m' σ' H')∧ ∀x H',(dj Γ.K a).d9 j H x H'→mx Γ.K is.length (jt is) x σ H' fun σ2 H2=>ar Γ body {({D with nx:=ar Γ r D}:Ends) with nx:=N,ct:=N,bk:=({D with nx:=ar Γ r D}:Ends).nx} σ2 H2)):
  ar Γ (.mj is .list [x] body::r) D σ H:=oU (x:=x) _ _ (fun _ _=>Iff.rfl) h
end
theorem acV{K:PySem.W.Frag}{H:Hp}{a b:Addr}{xs:List V}{ps:List Pt}{Q:VK}(ha:H a=some (.lst xs))(hb:H b=some (.lst []))(hx:bL H xs ps)(ho: ∀p∈ps,dD p)(q:Q (.bl (decide (ps≠ []))) H):
  bZ K .NotEq (.ref a) (.ref b) H Q:=by
 refine⟨.list (ps.map toD), .list [],⟨a,xs,rfl,ha,rA hx⟩,⟨b,[],rfl,hb,rfl⟩,rq ho,(by decide), ?_⟩
 have e:(true ^^ PyData.eqv (.list (ps.map toD)) (.list []))=decide (ps≠ []):=by
  cases ps with
  | nil=>rfl
  | cons p r=>rfl
 rw[e];exact q
theorem Kr{Γ:aE}{σ:St}{H:Hp}{Q:VK}{i:Nat}{x w:Str}(mk:Str→Pt)(hw:(mk x).word=w)(hv:(mk x).val= .str x)(hσ:σ[i]?=some (some (.str x)))
  (k: ∀b H' ys,aI H H'→H b=none→H' b=some (.lst ys)→bL H' ys (B.txt mk x)→Q (.ref b) H'):
  ag Γ (.bin .Mult (.lst [(.tup [(.c (.str w)),(.v i)])]) (.blt .int [(.cmp .NotEq (.v i) (.c (.str "")))])) σ H Q:=by
 refine aU (eQ (ax (iL (ax (ay (ax (ai hσ (aP ⟨(by show 2≤sizeLine;decide),fun t ft=>aP ⟨(by show 1≤sizeLine;decide),fun l fl=> ?_⟩⟩))))))))
 have s1:=sameNew (o:= .tup [.str w, .str x]) ft
 have s2:=sameNew (o:= .lst [V.ref t]) fl
 refine oG (ax (oF (ai hσ (ay (mM (aP ?_))))))
 show uT (.ref l) (.int (if (x !=("":Str))=true then 1 else 0)) _ Q
 by_cases hx:x=""
 ·have e:(x !=("":Str))=false:=by rw[hx];decide
  rw[e]
  refine⟨l,0,[.ref t],rfl,rfl,aN,by decide,by decide,Nat.le_of_ble_eq_true rfl,fun p fp=> ?_⟩
  exact k p _ _ ((s1.trans s2).trans (sameNew fp)) ((s1.trans s2).free fp) aN (by rw[hx,B.txt_nil];exact .nil)
 ·have e:(x !=("":Str))=true:=by simp[hx]
  rw[e]
  refine⟨l,1,[.ref t],rfl,rfl,aN,by decide,by decide,Nat.le_of_ble_eq_true rfl,fun p fp=> ?_⟩
  refine k p _ [.ref t] ((s1.trans s2).trans (sameNew fp)) ((s1.trans s2).free fp) aN ?_
  rw[B.cx hx]
  exact .cons ⟨t,rfl,by rw[hw,hv];exact(s2.trans (sameNew fp)) _ _ aN⟩ .nil
theorem acW(n:Nat):eZ (n+1) (-1)=some n:=by
 unfold eZ
 have: ¬(0:Int)≤ -1:=by decide
 rw[if_neg this,if_pos (by omega)]
 congr 1
 omega
theorem yM:(("keep":Str)==("keep":Str))=true:=by decide+kernel
theorem acX:(("put":Str)==("keep":Str))=false:=by decide+kernel
theorem acY{Γ:aE}{D:Ends}{w:Option V}{f:Addr}{P C:V}{n:Int}{H:Hp}{ys:List V}{F:List Pt}(hf:H f=some (.lst ys))(pv:bL H ys F)(ho: ∀p∈F,dD p)(hl:F.length≤900000)
  (k: ∀H' dZ,b7 f H H'→H' f=some (.lst dZ)→bL H' dZ (eN F n)→D.nx [w,some (.ref f),some P,some C,some (.str "keep"),some (.int n)] H'):
  ar Γ [.ite (.and [(.cmp .Eq (.v 4) (.c (.str "keep"))),(.cmp .NotEq (.v 1) (.lst [])),(.cmp .Eq (.ix (.ix (.v 1) (.neg (.c (.int 1)))) (.c (.int 0))) (.c (.str "keep")))]) [.set (.v 1) (.neg (.c (.int 1))) (.tup [(.c (.str "keep")),(.bin .Add (.ix (.ix (.v 1) (.neg (.c (.int 1)))) (.c (.int 1))) (.v 5))])] [.ite (.cmp .Eq (.v 4) (.c (.str "keep"))) [.drop (.bE .append (.v 1) [(.tup [(.c (.str "keep")),(.v 5)])])] []]]
   D [w,some (.ref f),some P,some C,some (.str "keep"),some (.int n)] H:=by
 have lf:=Paired.length pv
 have app: ∀H1,aI H H1→eN F n=F++ [.keep n]→ar Γ [.ite (.cmp .Eq (.v 4) (.c (.str "keep"))) [.drop (.bE .append (.v 1) [(.tup [(.c (.str "keep")),(.v 5)])])] []] {D with nx:=ar Γ [] D} [w,some (.ref f),some P,some C,some (.str "keep"),some (.int n)] H1:=by
  intro H1 s1 e
  refine bP (bJ (ai rfl (ay (cZ ⟨_,rfl,iT ?_ yM⟩))))
  refine k_ (eR (ai rfl ⟨.inl ⟨rfl,_,aC.of (s1 _ _ hf)⟩,iL (ax (ay (ax (ai rfl (aP ⟨(by show 2≤sizeLine;decide),fun t ft=> ⟨ys,(sameNew ft) _ _ (s1 _ _ hf),gc (by omega), ?_⟩⟩)))))⟩))
  have s2:=s1.trans (sameNew (o:= .tup [.str "keep", .int n]) ft)
  have bb:b7 f H (upd (upd H1 t (.tup [.str "keep", .int n])) f (.lst (ys++ [V.ref t]))):=fun b o e ne=>by rw[aK ne];exact s2 _ _ e
  have nt:t≠f:=fun z=>by rw[z,s1 _ _ hf] at ft;cases ft
  refine k _ _ bb aN ?_
  rw[e]
  exact B.Paired.app (pv.mono (bb.b6 hf)) (.cons ⟨t,rfl,by rw[aK nt,aN];rfl⟩ .nil)
 refine bP (yp (bJ (ai rfl (ay (cZ ⟨_,rfl,iT ?_ yM⟩)))))
 refine yp (bJ (ai rfl (eQ (aP ⟨Nat.zero_le _,fun e fe=> ?_⟩))))
 have s1:=sameNew (o:= .lst []) fe
 refine acV (s1 _ _ hf) aN (pv.mono (bj s1)) ho ⟨_,rfl, ?_⟩
 rcases List.eq_nil_or_concat F with hF | ⟨F',p,hF⟩
 ·refine iF (iF (app _ s1 (by rw[hF];rfl)) rfl) (by rw[hF];rfl)
 ·rw[List.concat_eq_append] at hF
  refine iT ?_ (by rw[hF];simp)
  have Ks:=pv
  rw[hF] at Ks
  obtain⟨o7,x,ey,p0,⟨b,ex,hb⟩⟩:=Kq Ks
  have o8:=s1 _ _ hf
  rw[ey,ex] at o8
  have mL:=s1 _ _ hb
  refine aba (bJ (bI (bI (ai rfl (yL (mI o8 (E3 _ _) (ay (aH mL rfl (ay (cZ ⟨_,rfl, ?_⟩))))))))))
  cases p with
  | keep m=>
   refine iT ?_ yM
   refine acT (iL (ax (ay (ax (aU (bI (bI (ai rfl (yL (mI o8 (E3 _ _) (ay (aH mL rfl (ai rfl (cy (aP ⟨(by show 2≤sizeLine;decide),fun t ft=> ?_⟩)))))))))))))))
   have s2:=s1.trans (sameNew (o:= .tup [.str "keep", .int (m+n)]) ft)
   have hf2:=(sameNew (o:= .tup [.str "keep", .int (m+n)]) ft) _ _ o8
   refine ai rfl (yL ⟨f,_, -1,o7.length,rfl,rfl,hf2,by rw[List.length_append];exact acW _, ?_⟩)
   have es:(o7++ [V.ref b]).set o7.length (.ref t)=o7++ [.ref t]:=by rw[List.set_append_right _ _ (Nat.le_refl _),Nat.sub_self];rfl
   rw[es]
   have bb:b7 f H (upd (upd (upd H e (.lst [])) t (.tup [.str "keep", .int (m+n)])) f (.lst (o7++ [V.ref t]))):=fun b o e ne=>by rw[aK ne];exact s2 _ _ e
   have nt:t≠f:=fun z=>by rw[z,o8] at ft;cases ft
   refine k _ _ bb aN ?_
   rw[hF,yd]
   exact B.Paired.app (bL.mono (bb.b6 hf) p0) (.cons ⟨t,rfl,by rw[aK nt,aN,Int.add_comm];rfl⟩ .nil)
  | put z=>exact iF (app _ s1 (by rw[hF];exact rn fun q hq=>by rw[List.getLast?_concat] at hq;cases hq;rfl)) acX
  | cut z=>exact iF (app _ s1 (by rw[hF];exact rn fun q hq=>by rw[List.getLast?_concat] at hq;cases hq;rfl)) Kl
def eU(a:Str):List Pt→Str
 | []=>a
 | p::r=>eU p.word r
theorem mX: ∀(F:List Pt) (a:Str) (G:List Pt),chainOk a (F++G)=(chainOk a F && chainOk (eU a F) G)
 | [],a,G=>by simp[chainOk,eU]
 | p::F,a,G=>by
  show(dM p.word a && chainOk p.word (F++G))=_
  rw[mX F p.word G,←Bool.and_assoc];rfl
theorem o9: ∀(F:List Pt) (a:Str) (G:List Pt),eU a (F++G)=eU (eU a F) G
 | [],a,G=>rfl
 | p::F,a,G=>o9 F p.word G
structure Kt (F:List Pt):Prop where
 ok: ∀p∈F,dC p
 ch:chainOk "" F=true
 la:eU "" F=""∨eU "" F="keep"
def tl(P C:Str):List Pt:=B.txt .put P++B.txt .cut C
theorem Ku{w P C:Str}(h:w=""∨w="keep"):chainOk w (tl P C)=true:=by
 unfold tl
 by_cases hp:P="" <;>by_cases hc:C=""
 ·rw[hp,hc,B.txt_nil,B.txt_nil];rfl
 ·rw[hp,B.txt_nil,B.cx hc]
  rcases h with rfl | rfl
  ·show(dM "cut" "" && true)=true;decide+kernel
  ·show(dM "cut" "keep" && true)=true;decide+kernel
 ·rw[hc,B.txt_nil,B.cx hp]
  rcases h with rfl | rfl
  ·show(dM "put" "" && true)=true;decide+kernel
  ·show(dM "put" "keep" && true)=true;decide+kernel
 ·rw[B.cx hp,B.cx hc]
  rcases h with rfl | rfl
  ·show(dM "put" "" && (dM "cut" "put" && true))=true;decide+kernel
  ·show(dM "put" "keep" && (dM "cut" "put" && true))=true;decide+kernel
theorem Kv(P C:Str):(tl P C).length≤2:=by
 unfold tl B.txt
 by_cases hp:P="" <;>by_cases hc:C="" <;>simp[hp,hc]
theorem Kw{P C:Str}(hp:good P)(hc:good C): ∀q∈tl P C,dC q:=by
 intro q hq
 unfold tl B.txt at hq
 rcases List.mem_append.mp hq with h | h
 ·by_cases z:P=""
  ·rw[if_pos z] at h;cases h
  ·rw[if_neg z] at h;rw[List.mem_singleton.mp h];exact⟨hp,z⟩
 ·by_cases z:C=""
  ·rw[if_pos z] at h;cases h
  ·rw[if_neg z] at h;rw[List.mem_singleton.mp h];exact⟨hc,z⟩
theorem Kx{l r:List Nat}{F:List Pt}{P C:Str}(h:Run l F r):Run (l++C.cps.toList) (F++tl P C) (r++P.cps.toList):=by
 have:=h.app (JC (s:=P) |>.app (aaG (s:=C)))
 rw[List.nil_append,List.append_nil] at this
 exact this
theorem se: ∀{F G:List Pt} {l r:List Nat},Run l (F++G) r→ ∃l1 l2 r1 r2,l=l1++l2∧r=r1++r2∧Run l1 F r1∧Run l2 G r2
 | [],G,l,r,h=> ⟨[],l,[],r,rfl,rfl, .nil,h⟩
 | .keep n::F,G,l,r,h=>by
  obtain⟨a,l',r',rfl,rfl,e,h'⟩:=oY h
  obtain⟨l1,l2,r1,r2,rfl,rfl,h1,h2⟩:=se (F:=F) h'
  exact⟨a++l1,l2,a++r1,r2,by simp,by simp, .keep e h1,h2⟩
 | .put s::F,G,l,r,h=>by
  obtain⟨r',rfl,h'⟩:=rY h
  obtain⟨l1,l2,r1,r2,rfl,rfl,h1,h2⟩:=se (F:=F) h'
  exact⟨l1,l2,s.cps.toList++r1,r2,rfl,by simp, .put h1,h2⟩
 | .cut s::F,G,l,r,h=>by
  obtain⟨l',rfl,h'⟩:=rZ h
  obtain⟨l1,l2,r1,r2,rfl,rfl,h1,h2⟩:=se (F:=F) h'
  exact⟨s.cps.toList++l1,l2,r1,r2,by simp,rfl, .cut h1,h2⟩
theorem Ky{l r:List Nat}(h:Run l [] r):l=[]∧r=[]:=by cases h;exact⟨rfl,rfl⟩
theorem sf{c:List Nat}{n:Int}(h:n=c.length):Run c [.keep n] c:=by
 have:=Run.keep (a:=c) h Run.nil
 rw[List.append_nil] at this;exact this
theorem Kz(F:List Pt):(∃F' m,F=F'++ [.keep m])∨((eU "" F=""∨eU "" F="put"∨eU "" F="cut")∧ ∀n,eN F n=F++ [.keep n]):=by
 rcases List.eq_nil_or_concat F with rfl | ⟨F',p,hF⟩
 ·exact .inr ⟨.inl rfl,fun n=>rfl⟩
 ·rw[List.concat_eq_append] at hF
  subst hF
  cases p with
  | keep m=>exact .inl ⟨F',m,rfl⟩
  | put z=>exact .inr ⟨.inr (.inl (by rw[o9];rfl)),fun n=>rn fun q hq=>by rw[List.getLast?_concat] at hq;cases hq;rfl⟩
  | cut z=>exact .inr ⟨.inr (.inr (by rw[o9];rfl)),fun n=>rn fun q hq=>by rw[List.getLast?_concat] at hq;cases hq;rfl⟩
theorem ac0{F:List Pt}{l r c:List Nat}{n:Int}(h:Run l F r)(hn:n=c.length):Run (l++c) (eN F n) (r++c):=by
 rcases Kz F with⟨F',m,rfl⟩ | ⟨_,e⟩
 ·rw[yd]
  obtain⟨l1,l2,r1,r2,rfl,rfl,h1,h2⟩:=se h
  obtain⟨a,l',r',rfl,rfl,e,h'⟩:=oY h2
  obtain⟨rfl,rfl⟩:=Ky h'
  rw[List.append_nil,List.append_assoc,List.append_assoc]
  exact h1.app (sf (by rw[List.length_append,e,hn];omega))
 ·rw[e];exact h.app (sf hn)
theorem ac1{F:List Pt}{n:Int}(h: ∀p∈F,dC p)(hc:chainOk "" F=true)(hn:1≤n):Kt (eN F n):=by
 rcases Kz F with⟨F',m,rfl⟩ | ⟨hw,e⟩
 ·rw[yd]
  rw[mX] at hc
  have hm:1≤m:=h (.keep m) (by simp)
  refine⟨fun p hp=> ?_, ?_, .inr (by rw[o9];rfl)⟩
  ·rcases List.mem_append.mp hp with q | q
   ·exact h p (by simp[q])
   ·rw[List.mem_singleton.mp q];show 1≤n+m;omega
  ·rw[mX];exact hc
 ·rw[e]
  refine⟨fun p hp=> ?_, ?_, .inr (by rw[o9];rfl)⟩
  ·rcases List.mem_append.mp hp with q | q
   ·exact h p q
   ·rw[List.mem_singleton.mp q];exact hn
  ·rw[mX,hc]
   show(true && (dM "keep" (eU "" F) && true))=true
   rcases hw with z | z | z<;>rw[z] <;>decide+kernel
theorem KA{p:Pt}(h:dC p):dD p:=by
 cases p with
 | keep n=>trivial
 | put s=>exact h.1.2
 | cut s=>exact h.1.2
theorem KC{Γ:aE}{D:Ends}{w wd va:Option V}{f:Addr}{P C:Str}{H:Hp}{ys:List V}{F:List Pt}{rest:List RS}(hf:H f=some (.lst ys))(pv:bL H ys F)(hl:F.length≤900000)
  (k: ∀f' H' dZ,aI H H'→H f'=none→H' f'=some (.lst dZ)→bL H' dZ (F++tl P C)→ar Γ rest D [w,some (.ref f'),some (.str ""),some (.str ""),wd,va] H'):
  ar Γ (.asg 1 (.bin .Add (.bin .Add (.v 1) (.bin .Mult (.lst [(.tup [(.c (.str "put")),(.v 2)])]) (.blt .int [(.cmp .NotEq (.v 2) (.c (.str "")))]))) (.bin .Mult (.lst [(.tup [(.c (.str "cut")),(.v 3)])]) (.blt .int [(.cmp .NotEq (.v 3) (.c (.str "")))])))::
   .asg 2 (.c (.str "")):: .asg 3 (.c (.str ""))::rest) D [w,some (.ref f),some (.str P),some (.str C),wd,va] H:=by
 have lf:=Paired.length pv
 refine bw (aU (aU (ai rfl (Kr .put rfl rfl rfl fun b1 H1 y1 s1 n1 h1 p1=> ?_))))
 have l1:=Paired.length p1
 have g1:(B.txt .put P).length≤1:=by unfold B.txt;by_cases z:P="" <;>simp[z]
 refine .inl ⟨f,b1,ys,y1,rfl,rfl,s1 _ _ hf,h1,bV (by omega),fun b2 n2=> ?_⟩
 have s2:=sameNew (o:= .lst (ys++y1)) n2
 refine Kr .cut rfl rfl rfl fun b3 H3 y3 s3 n3 h3 p3=> ?_
 have l3:=Paired.length p3
 have g3:(B.txt .cut C).length≤1:=by unfold B.txt;by_cases z:C="" <;>simp[z]
 refine .inl ⟨b2,b3,ys++y1,y3,rfl,rfl,s3 _ _ aN,h3,bV (by rw[List.length_append];omega),fun b4 n4=> ?_⟩
 have s4:=sameNew (o:= .lst (ys++y1++y3)) n4
 have g_:=s1.trans (s2.trans (s3.trans s4))
 refine bw (ay (bw (ay ?_)))
 refine k b4 _ (ys++y1++y3) g_ ((s1.trans (s2.trans s3)).free n4) aN ?_
 unfold tl
 rw[←List.append_assoc]
 exact B.Paired.app (B.Paired.app (pv.mono (bj g_)) (bL.mono (bj (s2.trans (s3.trans s4))) p1)) (bL.mono (bj s4) p3)
def yN:List RS:=[.ite (.cmp .Eq (.v 4) (.c (.str "put"))) [.asg 2 (.bin .Add (.v 2) (.v 5))] [.ite (.cmp .Eq (.v 4) (.c (.str "cut"))) [.asg 3 (.bin .Add (.v 3) (.v 5))] [.ite (.or [(.cmp .Eq (.v 4) (.c (.str "end"))),(.cmp .Gt (.v 5) (.c (.int 0)))]) [.asg 1 (.bin .Add (.bin .Add (.v 1) (.bin .Mult (.lst [(.tup [(.c (.str "put")),(.v 2)])]) (.blt .int [(.cmp .NotEq (.v 2) (.c (.str "")))]))) (.bin .Mult (.lst [(.tup [(.c (.str "cut")),(.v 3)])]) (.blt .int [(.cmp .NotEq (.v 3) (.c (.str "")))]))), .asg 2 (.c (.str "")), .asg 3 (.c (.str "")), .ite (.and [(.cmp .Eq (.v 4) (.c (.str "keep"))),(.cmp .NotEq (.v 1) (.lst [])),(.cmp .Eq (.ix (.ix (.v 1) (.neg (.c (.int 1)))) (.c (.int 0))) (.c (.str "keep")))]) [.set (.v 1) (.neg (.c (.int 1))) (.tup [(.c (.str "keep")),(.bin .Add (.ix (.ix (.v 1) (.neg (.c (.int 1)))) (.c (.int 1))) (.v 5))])] [.ite (.cmp .Eq (.v 4) (.c (.str "keep"))) [.drop (.bE .append (.v 1) [(.tup [(.c (.str "keep")),(.v 5)])])] []]] []]]]
structure NX (H:Hp) (a w2 e f:Addr) (xs ys:List V) (F:List Pt) (H2:Hp):Prop where
 sm:aI H H2
 fr:H f=none
 it:H2 w2=some (.lst (xs++ [.ref e]))
 en:H2 e=some (.tup [.str "end", .int 0])
 ne:f≠w2
 li:H2 f=some (.lst ys)
 pv:bL H2 ys F
def NI(H:Hp)(a w2 e:Addr)(xs:List V)(l r:List Nat)(ps:List Pt)(i:Nat)(σ:St)(H2:Hp):Prop:=
 ∃(f:Addr) (ys:List V) (F:List Pt) (P C:Str) (u4 u5:Option V) (l0 r0 l2 r2:List Nat),σ=[some (.ref a),some (.ref f),some (.str P),some (.str C),u4,u5]∧NX H a w2 e f xs ys F H2∧Kt F∧Run l0 F r0∧sg P∧sg C∧
  l=l0++ (C.cps.toList++l2)∧r=r0++ (P.cps.toList++r2)∧Run l2 (ps.drop i) r2∧F.length≤3*i
def NF(H:Hp)(a w2 e:Addr)(xs:List V)(l r:List Nat)(n:Nat)(σ:St)(H2:Hp):Prop:=
 ∃(f:Addr) (ys:List V) (F:List Pt) (u2 u3 u4 u5:Option V),σ=[some (.ref a),some (.ref f),u2,u3,u4,u5]∧NX H a w2 e f xs ys F H2∧(∀p∈F,dC p)∧chainOk "" F=true∧Run l F r∧F.length≤3*n+2
theorem wEP:(("end":Str)==("put":Str))=false:=by decide+kernel
theorem wEC:(("end":Str)==("cut":Str))=false:=by decide+kernel
theorem wEE:(("end":Str)==("end":Str))=true:=by decide+kernel
theorem KD:(("end":Str)==("keep":Str))=false:=by decide+kernel
theorem wKE:(("keep":Str)==("end":Str))=false:=by decide+kernel
theorem KG{K:PySem.W.Frag}{H:Hp}{Q:VK}{x y:Int}(q:Q (.bl (decide (y<x))) H):bZ K .Gt (.int x) (.int y) H Q:=⟨trivial,q⟩
theorem sh{x:Str}(h:sg x)(hl:x.length≤1000000):good x:=⟨hl,h⟩
section
variable {Γ:aE} {D:Ends} {H H2:Hp} {a w2 e:Addr} {xs:List V} {l r:List Nat} {ps:List Pt} {i:Nat} {σ:St}
theorem ac6(hl:l.length≤100000)(hr:r.length≤100000)(hn:ps.length≤1000)(I:NI H a w2 e xs l r ps ps.length σ H2)(hD: ∀σ H',NF H a w2 e xs l r ps.length σ H'→D.nx σ H'):
  ar Γ yN D ((σ.set 4 (some (.str "end"))).set 5 (some (.int 0))) H2:=by
 obtain⟨f,ys,F,P,C,u4,u5,l0,r0,l2,r2,rfl,X,hF,hR,sP,sC,el,er,cj,lF⟩:=I
 rw[List.drop_length] at cj
 obtain⟨rfl,rfl⟩:=Ky cj
 rw[List.append_nil] at el er
 have lP:=len_list P
 have lC:=len_list C
 have ll:l.length=l0.length+C.length:=by rw[el,List.length_append,lC]
 have lr:r.length=r0.length+P.length:=by rw[er,List.length_append,lP]
 refine bP (bJ (ai rfl (ay (cZ ⟨_,rfl,iF ?_ wEP⟩))))
 refine bP (bJ (ai rfl (ay (cZ ⟨_,rfl,iF ?_ wEC⟩))))
 refine bP (rH (bJ (ai rfl (ay (cZ ⟨_,rfl,iT (iT ?_ rfl) wEE⟩)))))
 refine KC X.li X.pv (by omega) fun f' H3 dZ s3 n3 h3 p3=> ?_
 refine bP (yp (bJ (ai rfl (ay (cZ ⟨_,rfl,iF (iF ?_ rfl) KD⟩)))))
 refine bP (bJ (ai rfl (ay (cZ ⟨_,rfl,iF ?_ KD⟩))))
 refine hD _ _ ?_
 have tln:=Kv P C
 refine⟨f',dZ,F++tl P C,_,_,_,_,rfl,⟨X.sm.trans s3,X.sm.free n3,s3 _ _ X.it,s3 _ _ X.en,(bW X.it n3).symm,h3,p3⟩,fun p hp=> ?_, ?_, ?_, ?_⟩
 ·rcases List.mem_append.mp hp with q | q
  ·exact hF.ok p q
  ·exact Kw (sh sP (by omega)) (sh sC (by omega)) p q
 ·rw[mX,hF.ch,Ku hF.la];rfl
 ·rw[el,er];exact Kx hR
 ·rw[List.length_append];omega
theorem ac8{q:Pt}{b:Addr}(hl:l.length≤100000)(hr:r.length≤100000)(hn:ps.length≤1000)(hq:ps[i]?=some q)(oq:dD q)(I:NI H a w2 e xs l r ps i σ H2)(hD: ∀σ H',NI H a w2 e xs l r ps (i+1) σ H'→D.nx σ H'):
  ar Γ yN D ((σ.set 4 (some (.str q.word))).set 5 (some q.val)) H2:=by
 obtain⟨f,ys,F,P,C,u4,u5,l0,r0,l2,r2,rfl,X,hF,hR,sP,sC,el,er,cj,lF⟩:=I
 have bc:i<ps.length:=(List.getElem?_eq_some_iff.mp hq).1
 have ed:ps.drop i=q::ps.drop (i+1):=by rw[List.drop_eq_getElem_cons bc,(List.getElem?_eq_some_iff.mp hq).2]
 rw[ed] at cj
 have lP:=len_list P
 have lC:=len_list C
 have ll:l.length=l0.length+ (C.length+l2.length):=by rw[el,List.length_append,List.length_append,lC]
 have lr:r.length=r0.length+ (P.length+r2.length):=by rw[er,List.length_append,List.length_append,lP]
 refine bP (bJ (ai rfl (ay (cZ ⟨_,rfl, ?_⟩))))
 cases q with
 | put z=>
  obtain⟨r',e2,h'⟩:=rY cj
  have lz:=len_list z
  have lr2:r2.length=z.length+r'.length:=by rw[e2,List.length_append,←lz]
  refine iT ?_ Ki
  refine bw (aU (ai rfl (ai rfl ⟨bV (by omega), ?_⟩)))
  refine hD _ _ ?_
  exact⟨f,ys,F,P++z,C,_,_,l0,r0,l2,r',rfl,X,hF,hR,Jz sP oq,sC,el,by rw[er,e2,app_list];simp,h',by omega⟩
 | cut z=>
  obtain⟨l',e1,h'⟩:=rZ cj
  have lz:=len_list z
  have ll2:l2.length=z.length+l'.length:=by rw[e1,List.length_append,←lz]
  refine iF ?_ Kk
  refine bP (bJ (ai rfl (ay (cZ ⟨_,rfl,iT ?_ Kf⟩))))
  refine bw (aU (ai rfl (ai rfl ⟨bV (by omega), ?_⟩)))
  refine hD _ _ ?_
  exact⟨f,ys,F,P,C++z,_,_,l0,r0,l',r2,rfl,X,hF,hR,sP,Jz sC oq,by rw[el,e1,app_list];simp,er,h',by omega⟩
 | keep n=>
  obtain⟨c,l',r',e1,e2,e3,h'⟩:=oY cj
  refine iF ?_ Kj
  refine bP (bJ (ai rfl (ay (cZ ⟨_,rfl,iF ?_ Ke⟩))))
  refine bP (rH (bJ (ai rfl (ay (cZ ⟨_,rfl,iF ?_ wKE⟩)))))
  refine JT (bJ (ai rfl (ay (KG ⟨_,rfl, ?_⟩))))
  by_cases hz:0<n
  ·refine iT ?_ (decide_eq_true hz)
   refine KC X.li X.pv (by omega) fun f' H3 dZ s3 n3 h3 p3=> ?_
   have tln:=Kv P C
   have KH: ∀p∈F++tl P C,dC p:=fun p hp=>by
    rcases List.mem_append.mp hp with q | q
    ·exact hF.ok p q
    ·exact Kw (sh sP (by omega)) (sh sC (by omega)) p q
   have ch1:chainOk "" (F++tl P C)=true:=by rw[mX,hF.ch,Ku hF.la];rfl
   have lF1:(F++tl P C).length≤3*i+2:=by rw[List.length_append];omega
   refine acY h3 p3 (fun p hp=>KA (KH p hp)) (by omega) fun H4 y4 b4 h4 p4=> ?_
   refine hD _ _ ?_
   have nw:w2≠f':=bW X.it n3
   have fH:=X.sm.free n3
   have lk:=aaD (F++tl P C) n
   refine⟨f',y4,eN (F++tl P C) n,"","",_,_,l0++C.cps.toList++c,r0++P.cps.toList++c,l',r',rfl,⟨gT (X.sm.trans s3) fH b4,fH,b4 _ _ (s3 _ _ X.it) nw,(b4.b6 h3) _ _ (s3 _ _ X.en),nw.symm,h4,p4⟩,ac1 KH ch1 (by omega),ac0 (Kx hR) e3,rp,rp, ?_, ?_,h',by omega⟩
   ·rw[el,e1];show _=_++ ([]++l');simp
   ·rw[er,e2];show _=_++ ([]++r');simp
  ·refine iF ?_ (decide_eq_false hz)
   have c0:c=[]:=List.eq_nil_of_length_eq_zero (by omega)
   refine hD _ _ ?_
   rw[c0,List.nil_append] at e1 e2
   exact⟨f,ys,F,P,C,_,_,l0,r0,l2,r2,rfl,X,hF,hR,sP,sC,el,er,by rw[e1,e2];exact h',by omega⟩
end
def o_:Sp:=fun vs H Q E=> ∃a xs ps l r,vs=[.ref a]∧H a=some (.lst xs)∧bL H xs ps∧Run l ps r∧(∀p∈ps,dD p)∧ps.length≤1000∧l.length≤100000∧r.length≤100000∧
 ∀b H' ys qs,aI H H'→H b=none→H' b=some (.lst ys)→bL H' ys qs→(∀p∈qs,dC p)→chainOk "" qs=true→Run l qs r→qs.length≤3*ps.length+2→Q (.ref b) H'
theorem ac_{K:PySem.W.Frag}(vs:List V)(H:Hp)(Q:VK)(E:XK)(h:o_ vs H Q E):ar (aS K [] [] (E:=E)) xU (Dn Q) (start xT vs) H:=by
 obtain⟨a,xs,ps,l,r,rfl,ha,cH,cj,aG,hn,hl,hr,k⟩:=h
 have lx:=Paired.length cH
 refine bw (eQ (aP ⟨Nat.zero_le _,fun f nf=> ?_⟩))
 have s1:=sameNew (o:= .lst []) nf
 refine bw (ay (bw (ay ?_)))
 refine acU (body:=yN) (aU (ai rfl (eQ (ax (iL (ax (ay (ax (ay (aP ⟨(by show 2≤sizeLine;decide),fun e ne=>aP ⟨(by show 1≤sizeLine;decide),fun g ng=> ?_⟩⟩))))))))))
 have s2:=sameNew (o:= .tup [.str "end", .int 0]) ne
 have s3:=sameNew (o:= .lst [V.ref e]) ng
 refine .inl ⟨a,g,xs,[.ref e],rfl,rfl,(s1.trans (s2.trans s3)) _ _ ha,aN,bV (by show xs.length+1≤_;omega),fun w2 nw=> ?_⟩
 have s4:=sameNew (o:= .lst (xs++ [V.ref e])) nw
 have g_:=s1.trans (s2.trans (s3.trans s4))
 have fw:f≠w2:=fun z=>by
  rw[←z] at nw
  rw[(s2.trans s3) _ _ aN] at nw;cases nw
 refine⟨w2,rfl,⟨_,aC.of aN⟩,nq (K:=K) (a:=w2) (xs:=xs++ [.ref e]) (fun i σ H2=> (i≤ps.length∧NI H a w2 e xs l r ps i σ H2)∨(i=ps.length+1∧NF H a w2 e xs l r ps.length σ H2)) ?_ ?_ ?_ ?_⟩
 ·refine .inl ⟨Nat.zero_le _,f,[],[],"","",_,_,[],[],l,r,rfl,⟨g_,nf,aN,(s3.trans s4) _ _ aN,fw,(s2.trans (s3.trans s4)) _ _ aN, .nil⟩,⟨fun p hp=> (by cases hp),rfl, .inl rfl⟩, .nil,rp,rp,rfl,rfl,cj,Nat.zero_le _⟩
 ·rintro i σ H2 _ (⟨_,f,ys,F,P,C,u4,u5,l0,r0,l2,r2,_,X,_⟩ | ⟨_,f,ys,F,u2,u3,u4,u5,_,X,_⟩)
  ·exact aC.of X.it
  ·exact aC.of X.it
 ·intro i x σ H2 hi I
  have iw:i< (xs++ [V.ref e]).length:=(List.getElem?_eq_some_iff.mp hi).1
  have hi2:i<ps.length+1:=by rw[List.length_append,lx] at iw;exact iw
  rcases I with⟨_,I⟩ | ⟨z,_⟩
  ·by_cases bc:i<ps.length
   ·rw[List.getElem?_append_left (by omega)] at hi
    obtain⟨q,hq,gW⟩:=cH.get hi
    have sm:aI H H2:=by obtain⟨f,ys,F,P,C,u4,u5,l0,r0,l2,r2,_,X,_⟩:=I;exact X.sm
    obtain⟨b,rfl,hb⟩:=gW.mono (bj sm)
    refine⟨b,_,rfl, .inl (aX.of hb),rfl,_,_,rfl,_,_,rfl,rfl, ?_⟩
    exact ac8 (b:=b) hl hr hn hq (aG q (List.mem_of_getElem? hq)) I fun σ' H' I'=> .inl ⟨bc,I'⟩
   ·have ei:i=ps.length:=by omega
    subst ei
    have en:H2 e=some (.tup [.str "end", .int 0]):=by obtain⟨f,ys,F,P,C,u4,u5,l0,r0,l2,r2,_,X,_⟩:=I;exact X.en
    rw[List.getElem?_append_right (by omega),lx,Nat.sub_self] at hi
    cases hi
    refine⟨e,_,rfl, .inl (aX.of en),rfl,_,_,rfl,_,_,rfl,rfl, ?_⟩
    exact ac6 hl hr hn I fun σ' H' I'=> .inr ⟨rfl,I'⟩
  ·omega
 ·rintro σ H2 (⟨h,_⟩ | ⟨_,f,ys,F,u2,u3,u4,u5,rfl,X,ok,ch,hR,lF⟩)
  ·rw[List.length_append,lx] at h;exact absurd h (by show ¬ps.length+1≤ps.length;omega)
  ·exact cY (ai rfl (k f H2 ys F X.sm X.fr X.li X.pv ok ch hR lF))
section
variable {Γ:aE} {D:Ends} {σ:St} {H:Hp} {r:List RS} {Q:VK}
theorem KI{a lo hi:RE}(h:ag Γ a σ H fun x H1=>ag Γ lo σ H1 fun i H2=> ∃i':Int,i= .int i'∧ag Γ hi σ H2 fun j H3=> ∃j':Int,j= .int j'∧qy Γ.K x (some i') (some j') H3 Q):ag Γ (.sl a (some lo) (some hi)) σ H Q:=h
theorem ada{body:List RS}{i:Nat}{x:RE}(h:ag Γ x σ H fun v H1=> ∃n:Int,[v]=[.int n]∧ -(2 ^ 62)≤n∧n<2 ^ 62∧ ∃W:Nat→Nat→St→Hp→Prop,(∃m,W 0 m σ H1)∧ ∀j m σ H,W j m σ H→
  ((fG 0 n.toNat).stop j H∧({D with nx:=ar Γ r D}:Ends).nx σ H)∨((fG 0 n.toNat).go j H∧ ∃N:St→Hp→Prop,(∀σ' H',N σ' H'→ ∃m',m'<m∧W (j+1) m' σ' H')∧ ∀x H',(fG 0 n.toNat).d9 j H x H'→dQ i x σ H' fun σ2 H2=>ar Γ body {({D with nx:=ar Γ r D}:Ends) with nx:=N,ct:=N,bk:=({D with nx:=ar Γ r D}:Ends).nx} σ2 H2)):
  ar Γ (.gL i .eG [x] body::r) D σ H:=oU (x:=x) _ _ (fun _ _=>Iff.rfl) h
theorem pb{i:Nat}{b0:Addr}{w:Str}{e:RE}{ys:List V}(hσ:σ[i]?=some (some (.ref b0)))(hb:H b0=some (.lst ys))(h:ag Γ e σ H fun v H1=>2≤sizeLine∧ ∀t,H1 t=none→ ∃zs,upd H1 t (.tup [.str w,v]) b0=some (.lst zs)∧zs.length<sizeLine∧ar Γ r D σ (upd (upd H1 t (.tup [.str w,v])) b0 (.lst (zs++ [.ref t])))):
  ar Γ (.drop (.bE .append (.v i) [(.tup [(.c (.str w)),e])])::r) D σ H:=
 k_ (eR (ai hσ ⟨.inl ⟨rfl,_,aC.of hb⟩,iL (ax (ay (ax (oU (x:=e) _ _ (fun _ _=>Iff.rfl) h))))⟩))
end
theorem push{H H1:Hp}{b0:Addr}{ys:List V}{ps:List Pt}{p:Pt}{w:Str}{v:V}{R:Hp→Prop}(s:aI H H1)(hb:H b0=some (.lst ys))(pv:bL H ys ps)(hl:ps.length≤900000)(hw:p.word=w)(hv:p.val=v)(k: ∀H' dZ,b7 b0 H H'→H' b0=some (.lst dZ)→bL H' dZ (ps++ [p])→R H'):
  2≤sizeLine∧ ∀t,H1 t=none→ ∃zs,upd H1 t (.tup [.str w,v]) b0=some (.lst zs)∧zs.length<sizeLine∧R (upd (upd H1 t (.tup [.str w,v])) b0 (.lst (zs++ [.ref t]))):=by
 refine⟨by decide,fun t ft=> ?_⟩
 have s2:=s.trans (sameNew (o:= .tup [.str w,v]) ft)
 have lx:=Paired.length pv
 have bb:b7 b0 H (upd (upd H1 t (.tup [.str w,v])) b0 (.lst (ys++ [.ref t]))):=fun b o e ne=>by rw[aK ne];exact s2 _ _ e
 have nt:t≠b0:=fun z=>by rw[z,s _ _ hb] at ft;cases ft
 refine⟨ys,s2 _ _ hb,gc (by omega),k _ _ bb aN ?_⟩
 exact B.Paired.app (pv.mono (bb.b6 hb)) (.cons ⟨t,rfl,by rw[aK nt,aN,hw,hv]⟩ .nil)
def yO:List RS:=[.asg 5 (.call 0 [(.v 0),(.bin .Add (.c (.int 40)) (.v 4))]), .ite (.cmp .Eq (.bin .Mod (.v 5) (.c (.int 3))) (.c (.int 0))) [.drop (.bE .append (.v 2) [(.tup [(.c (.str "put")),(.call 1 [(.v 5),(.bin .Add (.c (.int 1)) (.bin .Mult (.bin .Mod (.bin .FloorDiv (.v 5) (.c (.int 3))) (.c (.int 4))) (.bin .Add (.c (.int 1)) (.bin .Mod (.bin .FloorDiv (.v 5) (.c (.int 12))) (.c (.int 3))))))])])])] [], .asg 6 (.blt .min [(.bin .Sub (.blt .len [(.v 1)]) (.v 3)),(.bin .Mod (.bin .FloorDiv (.v 5) (.c (.int 36))) (.bin .Add (.c (.int 2)) (.bin .FloorDiv (.blt .len [(.v 1)]) (.c (.int 3)))))]), .ite (.and [(.cmp .Eq (.bin .Mod (.bin .FloorDiv (.v 5) (.c (.int 5))) (.c (.int 3))) (.c (.int 0))),(.cmp .Gt (.v 6) (.c (.int 0)))]) [.drop (.bE .append (.v 2) [(.tup [(.c (.str "cut")),(.sl (.v 1) (some (.v 3)) (some (.bin .Add (.v 3) (.v 6))))])])] [.drop (.bE .append (.v 2) [(.tup [(.c (.str "keep")),(.v 6)])])], .asg 3 (.bin .Add (.v 3) (.v 6))]
def adb:List RS:=[.drop (.bE .append (.v 2) [(.tup [(.c (.str "keep")),(.bin .Sub (.blt .len [(.v 1)]) (.v 3))])]), .ite (.cmp .Eq (.bin .Mod (.bin .FloorDiv (.v 0) (.c (.int 7))) (.c (.int 3))) (.c (.int 0))) [.drop (.bE .append (.v 2) [(.tup [(.c (.str "put")),(.call 1 [(.v 0),(.bin .Add (.c (.int 1)) (.bin .Mod (.bin .FloorDiv (.v 0) (.c (.int 21))) (.c (.int 5))))])])])] [], .ret (.call 2 [(.v 2)])]
def CB(H:Hp)(c:Int)(x:Str)(i:Nat)(σ:St)(H2:Hp):Prop:=
 ∃(b0:Addr) (ys:List V) (ps:List Pt) (l1 l2 r1:List Nat) (u4 u5 u6:Option V),σ=[some (.int c),some (.str x),some (.ref b0),some (.int (l1.length:Nat)),u4,u5,u6]∧aI H H2∧H b0=none∧H2 b0=some (.lst ys)∧bL H2 ys ps∧x.cps.toList=l1++l2∧Run l1 ps r1∧
  (∀p∈ps,dD p)∧ps.length≤2*i∧r1.length≤l1.length+10*i
def pd:Sp:=fun vs H Q E=> ∃c x,vs=[.int c, .str x]∧good x∧x.length≤10000∧ ∀b H' ys qs r,aI H H'→H b=none→H' b=some (.lst ys)→bL H' ys qs→(∀p∈qs,dC p)→chainOk "" qs=true→Run x.cps.toList qs r→r.length≤x.length+100→qs.length≤60→Q (.ref b) H'
abbrev cQ:List (Str×Sp):=[("_law_mixed",eF),("_law_text_by",g8),("_law_neat",o_)]
theorem ade{K:PySem.W.Frag}{E:XK}{D:Ends}{H H2:Hp}{c:Int}{x:Str}{i:Nat}{σ:St}{kv:V}(hx:good x)(hl:x.length≤10000)(hi:i<7)(hk:kv= .int (0+ (i:Int)))(I:CB H c x i σ H2)(hD: ∀σ H',CB H c x (i+1) σ H'→D.nx σ H'):
  ar (aS K cQ [] (E:=E)) yO D (σ.set 4 (some kv)) H2:=by
 obtain⟨b0,ys,ps,l1,l2,r1,u4,u5,u6,rfl,sm,fr,hb,pv,ex,hR,aG,lp,lr⟩:=I
 subst hk
 have lx:x.length=l1.length+l2.length:=by rw[len_list,ex,List.length_append]
 refine bw (bH eF rfl (ax (ai rfl (ax (aU (ay (ai rfl (cy (aP ⟨_,_,rfl,fun m hm=> ?_⟩)))))))))
 have c3:(0:Int) <3:=by decide
 have c4:(0:Int) <4:=by decide
 have go: ∀(H3:Hp) (yP:List V) (lK:List Pt) (r3:List Nat),aI H H3→H3 b0=some (.lst yP)→bL H3 yP lK→Run l1 lK r3→(∀p∈lK,dD p)→lK.length≤2*i+1→r3.length≤l1.length+10*i+10→
   ar (aS K cQ [] (E:=E)) (yO.drop 2) D [some (.int c),some (.str x),some (.ref b0),some (.int (l1.length:Nat)),some (.int (0+ (i:Int))),some (.int m),u6] H3:=by
  intro H3 yP lK r3 s3 h3 p3 R3 pe lp3 KJ
  refine bw (oG (ax (aU (gh (ai rfl ⟨bV hx.1,ai rfl ⟨trivial,ax (aU (aU (ai rfl (ay ⟨⟨by decide,by decide⟩,aU (ay (aU (gh (ai rfl ⟨bV hx.1,ay ⟨⟨by decide,by decide⟩,cy ⟨?_,aP ?_⟩⟩⟩))))⟩))))⟩⟩)))))
  ·show(0:Int) <2+ (x.length:Int) / 3
   omega
  have g0:0≤m / 36 % (2+ (x.length:Int) / 3):=Int.emod_nonneg _ (by omega)
  obtain⟨z,ez⟩: ∃z:Int,z=(if m / 36 % (2+ (x.length:Int) / 3) < (x.length:Int) - (l1.length:Nat) then m / 36 % (2+ (x.length:Int) / 3) else (x.length:Int) - (l1.length:Nat)):=⟨_,rfl⟩
  have z0:0≤z∧z≤l2.length:=by rw[ez];split<;>omega
  show ar _ _ D [some (.int c),some (.str x),some (.ref b0),some (.int (l1.length:Nat)),some (.int (0+ (i:Int))),some (.int m),some (.int (if m / 36 % (2+ (x.length:Int) / 3) < (x.length:Int) - (l1.length:Nat) then m / 36 % (2+ (x.length:Int) / 3) else (x.length:Int) - (l1.length:Nat)))] H3
  rw[←ez]
  obtain⟨la,lb,el,yQ⟩: ∃la lb,l2=la++lb∧z=la.length:=⟨l2.take z.toNat,l2.drop z.toNat,(List.take_append_drop _ _).symm,by rw[List.length_take];omega⟩
  have fin: ∀(H4:Hp) (si:List V) (p4:List Pt) (r4:List Nat),aI H H4→H4 b0=some (.lst si)→bL H4 si p4→Run (l1++la) p4 r4→(∀p∈p4,dD p)→p4.length≤2*i+2→r4.length≤ (l1++la).length+10*i+10→
    ar (aS K cQ [] (E:=E)) [.asg 3 (.bin .Add (.v 3) (.v 6))] D [some (.int c),some (.str x),some (.ref b0),some (.int (l1.length:Nat)),some (.int (0+ (i:Int))),some (.int m),some (.int z)] H4:=by
   intro H4 si p4 r4 s4 h4 v4 R4 yR lp4 lr4
   refine bw (aU (ai rfl (ai rfl (cy ?_))))
   refine hD _ _ ⟨b0,si,p4,l1++la,lb,r4,some (.int (0+ (i:Int))),some (.int m),some (.int z), ?_,s4,fr,h4,v4,by rw[ex,el,List.append_assoc],R4,yR,by omega,by omega⟩
   show[_,_,_,some (V.int ((l1.length:Int)+z)),_,_,_]=_
   rw[List.length_append,yQ];rfl
  refine bP (JS (bJ (aU (aU (ai rfl (ay ⟨⟨by decide,by decide⟩,ay ⟨c3,ay (mP ⟨_,rfl, ?_⟩)⟩⟩))))))
  have KL:ar (aS K cQ [] (E:=E)) [.drop (.bE .append (.v 2) [(.tup [(.c (.str "keep")),(.v 6)])])] {D with nx:=ar (aS K cQ [] (E:=E)) [.asg 3 (.bin .Add (.v 3) (.v 6))] D} [some (.int c),some (.str x),some (.ref b0),some (.int (l1.length:Nat)),some (.int (0+ (i:Int))),some (.int m),some (.int z)] H3:=by
   refine pb rfl h3 (ai rfl (push (p:= .keep z) (aI.refl _) h3 p3 (by omega) rfl rfl fun H4 y4 b4 h4 p4=> ?_))
   refine fin H4 y4 _ (r3++la) (gT s3 fr b4) h4 p4 (R3.app (sf yQ)) (fun p hp=> ?_) ?_ ?_
   ·rcases List.mem_append.mp hp with q | q
    ·exact pe p q
    ·rw[List.mem_singleton.mp q];trivial
   ·rw[List.length_append];show lK.length+1≤_;omega
   ·rw[List.length_append,List.length_append];omega
  by_cases q5:m / 5 % 3=0
  ·refine iT ?_ (decide_eq_true q5)
   refine bJ (ai rfl (ay (KG ⟨_,rfl, ?_⟩)))
   by_cases qz:0<z
   ·refine iT ?_ (decide_eq_true qz)
    refine pb rfl h3 (KI (ai rfl (ai rfl ⟨_,rfl,aU (ai rfl (ai rfl (cy ⟨_,rfl,bV hx.1, ?_⟩)))⟩)))
    have ec:fN x (some ((l1.length:Nat):Int)) (some (((l1.length:Nat):Int)+z))=⟨la.toArray⟩:=yg (by rw[ex,el]) z yQ
    rw[ec]
    refine push (p:= .cut ⟨la.toArray⟩) (aI.refl _) h3 p3 (by omega) rfl rfl fun H4 y4 b4 h4 p4=> ?_
    have Rc:Run la [.cut ⟨la.toArray⟩] []:=by
     have:=Run.cut (s:=⟨la.toArray⟩) Run.nil
     rw[List.append_nil] at this;exact this
    refine fin H4 y4 _ (r3++ []) (gT s3 fr b4) h4 p4 (R3.app Rc) (fun p hp=> ?_) ?_ ?_
    ·rcases List.mem_append.mp hp with q | q
     ·exact pe p q
     ·rw[List.mem_singleton.mp q]
      intro d hd
      have e2:x.cps.toList=l1++ (la++lb):=by rw[ex,el]
      exact hx.2 d (by rw[e2];simp at hd;simp[hd])
    ·rw[List.length_append];show lK.length+1≤_;omega
    ·rw[List.length_append,List.length_append];show r3.length+0≤_;omega
   ·exact iF KL (decide_eq_false qz)
  ·exact iF (iF KL rfl) (decide_eq_false q5)
 refine bP (bJ (aU (ai rfl (ay ⟨c3,ay (mP ⟨_,rfl, ?_⟩)⟩))))
 by_cases q3:m % 3=0
 ·refine iT ?_ (decide_eq_true q3)
  have A0:0≤m / 3 % 4∧m / 3 % 4<4:=⟨Int.emod_nonneg _ (by decide),Int.emod_lt_of_pos _ (by decide)⟩
  have B0:0≤m / 12 % 3∧m / 12 % 3<3:=⟨Int.emod_nonneg _ (by decide),Int.emod_lt_of_pos _ (by decide)⟩
  have AB:m / 3 % 4* (1+m / 12 % 3)≤3*3:=Int.mul_le_mul (by omega) (by omega) (by omega) (by decide)
  have AB0:0≤m / 3 % 4* (1+m / 12 % 3):=Int.mul_nonneg (by omega) (by omega)
  refine pb rfl hb (bH g8 rfl (ax (ai rfl (ax (aU (ay (aU (aU (aU (ai rfl (ay ⟨⟨by decide,by decide⟩,ay ⟨c4,aU (ay (aU (aU (ai rfl (ay ⟨⟨by decide,by decide⟩,ay ⟨c3,cy ?_⟩⟩)))))⟩⟩)))))))))))
  refine⟨.inl ⟨by omega,by omega⟩,cy (aP ⟨_,_,rfl,by omega,by omega,fun z H3 gz lz s3=> ?_⟩)⟩
  refine push (p:= .put z) s3 hb pv (by omega) rfl rfl fun H4 y4 b4 h4 p4=> ?_
  have Rp:Run [] [.put z] z.cps.toList:=by
   have:=Run.put (s:=z) Run.nil
   rw[List.append_nil] at this;exact this
  have R4:Run l1 (ps++ [.put z]) (r1++z.cps.toList):=by
   have:=hR.app Rp
   rw[List.append_nil] at this;exact this
  have lz':=len_list z
  refine go H4 y4 _ _ (gT sm fr b4) h4 p4 R4 (fun p hp=> ?_) ?_ ?_
  ·rcases List.mem_append.mp hp with q | q
   ·exact aG p q
   ·rw[List.mem_singleton.mp q];exact gz.2
  ·rw[List.length_append];show ps.length+1≤_;omega
  ·rw[List.length_append];omega
 ·exact iF (dc (go H2 ys ps r1 sm hb pv hR aG (by omega) (by omega))) (decide_eq_false q3)
theorem adi{K:PySem.W.Frag}(vs:List V)(H:Hp)(Q:VK)(E:XK)(h:pd vs H Q E):ar (aS K cQ [] (E:=E)) dB (Dn Q) (start gP vs) H:=by
 obtain⟨c,x,rfl,hx,hl,k⟩:=h
 have m7:0≤c % 7∧c % 7<7:=⟨Int.emod_nonneg _ (by decide),Int.emod_lt_of_pos _ (by decide)⟩
 have c3:(0:Int) <3:=by decide
 have c5:(0:Int) <5:=by decide
 have c7:(0:Int) <7:=by decide
 refine bw (eQ (aP ⟨Nat.zero_le _,fun b0 n0=> ?_⟩))
 have s1:=sameNew (o:= .lst []) n0
 refine bw (ay ?_)
 refine ada (body:=yO) (r:=adb) (aU (ay (aU (ai rfl (ay ⟨c7,cy ⟨1+c % 7,rfl,by omega,by omega,Ep (lo:=0) (n:=(1+c % 7).toNat) (CB H c x) ?_ ?_ ?_⟩⟩)))))
 ·exact⟨b0,[],[],[],_,[],none,none,none,rfl,s1,n0,aN, .nil,rfl, .nil,fun p hp=> (by cases hp),Nat.zero_le _,Nat.zero_le _⟩
 ·intro i σ H2 hi I
  exact ade hx hl (by omega) rfl I fun σ' H' I'=>I'
 ·rintro σ H2 ⟨b0,ys,ps,l1,l2,r1,u4,u5,u6,rfl,sm,fr,hb,pv,ex,hR,aG,lp,lr⟩
  have lx:x.length=l1.length+l2.length:=by rw[len_list,ex,List.length_append]
  refine pb rfl hb (aU (gh (ai rfl ⟨bV hx.1,ai rfl ⟨trivial,push (p:= .keep ((x.length:Int) - (l1.length:Nat))) (aI.refl _) hb pv (by omega) rfl rfl fun H3 y3 b3 h3 p3=> ?_⟩⟩)))
  have R3:Run x.cps.toList (ps++ [.keep ((x.length:Int) - (l1.length:Nat))]) (r1++l2):=by rw[ex];exact hR.app (sf (by omega))
  have pe: ∀p∈ps++ [Pt.keep ((x.length:Int) - (l1.length:Nat))],dD p:=fun p hp=>by
   rcases List.mem_append.mp hp with q | q
   ·exact aG p q
   ·rw[List.mem_singleton.mp q];trivial
  have l3:(ps++ [Pt.keep ((x.length:Int) - (l1.length:Nat))]).length=ps.length+1:=by rw[List.length_append];rfl
  have KJ:(r1++l2).length=r1.length+l2.length:=List.length_append
  have KN:=gT sm fr b3
  have fin: ∀(H4:Hp) (y4:List V) (p4:List Pt) (r4:List Nat),aI H H4→H4 b0=some (.lst y4)→bL H4 y4 p4→Run x.cps.toList p4 r4→(∀p∈p4,dD p)→p4.length≤16→r4.length≤x.length+80→
    ar (aS K cQ [] (E:=E)) [.ret (.call 2 [(.v 2)])] (Dn Q) [some (.int c),some (.str x),some (.ref b0),some (.int (l1.length:Nat)),u4,u5,u6] H4:=by
   intro H4 y4 p4 r4 s4 h4 v4 R4 yR lp4 lr4
   refine cY (bH o_ rfl (ax (ai rfl (aP ⟨b0,y4,p4,_,r4,rfl,h4,v4,R4,yR,by omega,by rw[←len_list];omega,by omega,fun b H5 y5 qs s5 n5 h5 v5 ok5 ch5 R5 l5=> ?_⟩))))
   exact k b H5 y5 qs r4 (s4.trans s5) (s4.free n5) h5 v5 ok5 ch5 R5 (by omega) (by omega)
  refine bP (bJ (aU (aU (ai rfl (ay ⟨⟨by decide,by decide⟩,ay ⟨c3,ay (mP ⟨_,rfl, ?_⟩)⟩⟩)))))
  by_cases q3:c / 7 % 3=0
  ·refine iT ?_ (decide_eq_true q3)
   have B0:0≤c / 21 % 5∧c / 21 % 5<5:=⟨Int.emod_nonneg _ (by decide),Int.emod_lt_of_pos _ (by decide)⟩
   refine pb rfl h3 (bH g8 rfl (ax (ai rfl (ax (aU (ay (aU (aU (ai rfl (ay ⟨⟨by decide,by decide⟩,ay ⟨c5,cy (aP ⟨_,_,rfl,by omega,by omega,fun z H4 gz lz s4=> ?_⟩)⟩⟩))))))))))
   refine push (p:= .put z) s4 h3 p3 (by omega) rfl rfl fun H5 y5 b5 h5 p5=> ?_
   have Rp:Run [] [.put z] z.cps.toList:=by
    have:=Run.put (s:=z) Run.nil
    rw[List.append_nil] at this;exact this
   have R5:=R3.app Rp
   rw[List.append_nil] at R5
   have lz':=len_list z
   refine fin H5 y5 _ _ (gT KN fr b5) h5 p5 R5 (fun p hp=> ?_) ?_ ?_
   ·rcases List.mem_append.mp hp with q | q
    ·exact pe p q
    ·rw[List.mem_singleton.mp q];exact gz.2
   ·rw[List.length_append,l3];show ps.length+1+1≤_;omega
   ·rw[List.length_append,KJ];omega
  ·exact iF (dc (fin H3 y3 _ _ KN h3 p3 R3 pe (by omega) (by omega))) (decide_eq_false q3)
end L2.N
namespace L2.B
open PySem PySem.Spec PyProof.Rows
end L2.B
namespace L2
open PySem PySem.Spec PyProof.Rows
end L2
namespace L2.B
open PySem PySem.Spec PyProof.Rows
end L2.B
namespace L2.B
end L2.B
namespace L2.B
open PySem PySem.Spec PyProof.Rows
section
variable {H:Hp} {Q:VK} {E:XK}
end
theorem adl{K:PySem.W.Frag}(vs:List V)(H:Hp)(Q:VK)(E:XK)(h:rf vs H Q E):ar (aS K [] [] (E:=E)) wm (Dn Q) (start qU vs) H:=by
 obtain⟨i,rfl,q⟩:=h
 exact⟨_,rfl,rfl,_,rfl,du ⟨_,rfl,rfl,q⟩⟩
end L2.B
namespace L2.gQ
open PySem PySem.Spec L2.B L2.N
theorem adm{x:Str}{a b:Nat}(h1:a≤b)(h2:b≤x.length):fN x (some (a:Int)) (some (b:Int))=mW x.cps.toList a b:=by
 have lx:=len_list x
 have e:x.cps.toList=x.cps.toList.take a++ ((x.cps.toList.drop a).take (b - a)++ (x.cps.toList.drop a).drop (b - a)):=by rw[List.take_append_drop,List.take_append_drop]
 have la:(x.cps.toList.take a).length=a:=by rw[List.length_take];omega
 have lb:((x.cps.toList.drop a).take (b - a)).length=b - a:=by rw[List.length_take,List.length_drop];omega
 have:=yg e ((b:Int) - a) (by rw[lb];omega)
 rw[la,show(a:Int)+ ((b:Int) - a)=b by omega] at this
 rw[this]
 unfold mW
 rw[List.drop_take]
theorem adn{S:List Nat}{t:Tr}(hp: ∀q∈t.ak,bY S q):t.h=0↔N.txt S t.ak=[]:=by
 cases t with
 | nil=>exact⟨fun _=>rfl,fun _=>rfl⟩
 | node l a b c r=>
  constructor
  ·intro h
   rw[Tr.cb] at h
   have h1:=Tr.h0 l
   have h2:=Tr.h0 r
   split at h<;>omega
  ·intro h
   have q:=hp (a,b,c) (by simp[Tr.ak])
   have:=q.len
   have q1:=q.p1
   have:seg S (a,b,c)=[]:=by
    have e:N.txt S (Tr.node l a b c r).ak=N.txt S l.ak++ (seg S (a,b,c)++N.txt S r.ak):=by rw[Tr.ak,oS,N.cx]
    rw[e] at h
    simp at h
    exact h.2.1
   have ql:=q.len
   rw[this] at ql
   have KO:(1:Int)≤ (a,b,c).2.1:=q1
   rw[←ql] at KO
   simp at KO
abbrev ado(CP C:Addr):List (Str×Addr×Sp):=[("text",CP,oX CP C),("part",CP,iX CP C),("size",CP,eT CP),("lines",CP,oV CP),("height",CP,oW CP),("pieces",CP,iW CP C)]
structure cP (CP C:Addr) (H:Hp) (p dp s dx lt lb lf:Addr) (v:V) (t:Tr) (ts:List Str) (x:Str):Prop where
 pa:cp CP H p dp s v t (aq ts)
 st:bX C H s dx lt lb lf ts
 l1:t.ak.length≤1000
 l2:ts.length≤10000
 l3:(aq ts).length≤500000
 tx:N.txt (aq ts) t.ak=x.cps.toList
 go:good x
theorem cP.same{CP C:Addr}{H H':Hp}{p dp s dx lt lb lf:Addr}{v:V}{t:Tr}{ts:List Str}{x:Str}(B:cP CP C H p dp s dx lt lb lf v t ts x)(h:aI H H'):cP CP C H' p dp s dx lt lb lf v t ts x:=⟨B.pa.same h,B.st.same h,B.l1,B.l2,B.l3,B.tx,B.go⟩
section
variable {K:PySem.W.Frag} {CP C:Addr} {E:XK} {Q:VK} {H:Hp} {p dp s dx lt lb lf:Addr} {v:V} {t:Tr} {ts:List Str} {x:Str} {a b:Nat}
theorem cP.eq(B:cP CP C H p dp s dx lt lb lf v t ts x):N.tx (aq ts) t.ak=x:=gd (by rw[acn,B.tx])
theorem cP.l4(B:cP CP C H p dp s dx lt lb lf v t ts x):(N.txt (aq ts) t.ak).length≤1000000:=by rw[B.tx,←len_list];exact B.go.1
abbrev mY(K:PySem.W.Frag)(CP C:Addr)(E:XK):aE:=aS K [("_law_whole",rf)] [] [] (ado CP C) (E:=E)
theorem adp{σ:St}{Q:VK}(e0:σ[0]?=some (some (.ref p)))(B:cP CP C H p dp s dx lt lb lf v t ts x)(q: ∀H',aI H H'→Q (.str x) H'):ag (mY K CP C E) (.b9 0 "text" (.v 0) []) σ H Q:=by
 refine gX CP (oX CP C) rfl (ai e0 ⟨p,dp,_,rfl,B.pa.ob,fz (by decide+kernel) (by decide+kernel),p,dp,s,dx,lt,lb,lf,v,t,ts,rfl,B.pa,B.st,B.l1,B.l2,B.l3,B.l4,fun H' s'=> ?_⟩)
 rw[B.eq];exact q H' s'
theorem KP{σ:St}{Q:VK}(e0:σ[0]?=some (some (.ref p)))(B:cP CP C H p dp s dx lt lb lf v t ts x)(q: ∀w H',aI H H'→H w=none→H' w=some (.lst ((t.ak.map (cg (aq ts))).map V.str))→Q (.ref w) H'):ag (mY K CP C E) (.b9 5 "pieces" (.v 0) []) σ H Q:=
 gX CP (iW CP C) rfl (ai e0 ⟨p,dp,_,rfl,B.pa.ob,fz (by decide+kernel) (by decide+kernel),p,dp,s,dx,lt,lb,lf,v,t,ts,rfl,B.pa,B.st,B.l1,B.l2,B.l3,q⟩)
theorem adq(B:cP CP C H p dp s dx lt lb lf v t ts x)(k: ∀H',aI H H'→Q (.bl true) H')(u4:Option V):
  ar (mY K CP C E) (oy.drop 4) (Dn Q) [some (.ref p),some (.str x),some (.int a),some (.int b),u4,none] H:=by
 refine bw (KP rfl B fun w H1 s1 fw hw=> ?_)
 have B1:=B.same s1
 have l4:=B.l4
 refine bP (rH (fm (abb (ai rfl (Js hw ?_)))))
 refine iF ?_ rfl
 refine rH (bJ (eR (ay ⟨rfl,ai rfl (rV hw l4 ?_)⟩)))
 rw[B.eq]
 refine ai rfl (yq ⟨_,rfl,iF ?_ rfl⟩)
 have fl:((t.ak.map (cg (aq ts))).map V.str).all cR=true:=List.all_eq_true.mpr fun y hy=>by
  obtain⟨z,_,rfl⟩:=List.mem_map.mp hy;rfl
 have ni:dg (.str "") ((t.ak.map (cg (aq ts))).map V.str)=false:=by
  cases e:dg (.str "") ((t.ak.map (cg (aq ts))).map V.str) with
  | false=>rfl
  | true=>
   obtain⟨y,hy,e2⟩:=List.any_eq_true.mp e
   obtain⟨z,hz,rfl⟩:=List.mem_map.mp hy
   obtain⟨q,hq,rfl⟩:=List.mem_map.mp hz
   have pc:=B.pa.pc q hq
   have e3:cg (aq ts) q="":=by
    have:(cg (aq ts) q==("":Str))=true:=e2
    simpa using this
   have e4:(cg (aq ts) q).cps.toList=[]:=by rw[e3];rfl
   have e5:seg (aq ts) q=[]:=by simpa[cg] using e4
   have ql:=pc.len
   have q1:=pc.p1
   rw[e5] at ql
   simp at ql
   omega
 refine JT (bJ (ay (ai rfl ⟨w,_,rfl, .inl (aC.of hw),rfl,fl,_,rfl, ?_⟩)))
 show(if dg (.str "") _=true then _ else _)
 rw[ni]
 refine dc ?_
 refine k_ (eR (ai rfl ⟨.inl ⟨rfl,_,aC.of hw⟩,ay ⟨_,hw,gc (by rw[List.length_map,List.length_map];have:=B.l1;omega), ?_⟩⟩))
 have b2:b7 w H1 (upd H1 w (.lst ((t.ak.map (cg (aq ts))).map V.str++ [V.str "more"]))):=b7.upd
 have s2:aI H (upd H1 w (.lst ((t.ak.map (cg (aq ts))).map V.str++ [V.str "more"]))):=gT s1 fw b2
 refine cY (oF (eR (ay ⟨rfl,KP rfl (B.same s2) fun w2 H3 s3 f3 h3=>rV h3 l4 ?_⟩)))
 rw[B.eq]
 refine ai rfl (cZ ?_)
 rw[show(x==x)=true by simp]
 exact k H3 (s2.trans s3)
theorem ads(n m:Int):PyData.eqv (.list [.int n, .int m]) (.list [.int n, .int m])=true:=SeqAt.eqv_refl _ (SeqAt.canLay_of_shaped (by rfl))
theorem adt{H:Hp}{a b:Addr}{n m:Int}{Q:VK}(ha:H a=some (.lst [.int n, .int m]))(hb:H b=some (.lst [.int n, .int m]))(q:Q (.bl false) H):bZ K .NotEq (.ref a) (.ref b) H Q:=by
 have is: ∀c:Addr,H c=some (.lst [.int n, .int m])→Is H (.list [.int n, .int m]) (.ref c):=fun c hc=> ⟨c,_,rfl,hc, .int n,[.int m],rfl,rfl, .int m,[],rfl,rfl,rfl⟩
 refine⟨.list [.int n, .int m], .list [.int n, .int m],is a ha,is b hb,(by rfl),(by rfl), ?_⟩
 rw[ads];exact q
theorem adu{H:Hp}{a b:Addr}{Q:VK}(ha:H a=some (.lst []))(hb:H b=some (.lst []))(q:Q (.bl false) H):bZ K .NotEq (.ref a) (.ref b) H Q:=
 ⟨.list [], .list [],⟨a,[],rfl,ha,rfl⟩,⟨b,[],rfl,hb,rfl⟩,(by decide),(by decide),q⟩
theorem adv{x y:Bool}{H:Hp}{Q:VK}(h:x=y)(q:Q (.bl false) H):bZ K .NotEq (.bl x) (.bl y) H Q:=by
 show Q (.bl (true ^^ decide (V.bl x=V.bl y))) H
 rw[h,decide_eq_true rfl];exact q
theorem adw(B:cP CP C H p dp s dx lt lb lf v t ts x)(k: ∀H',aI H H'→Q (.bl true) H'){l4:Addr}(pf:H l4=some (.lst [.int (x.length:Nat), .int ((x.cps.toList.count 10+1:Nat):Int), .int t.h])):
  ar (mY K CP C E) (oy.drop 2) (Dn Q) [some (.ref p),some (.str x),some (.int a),some (.int b),some (.ref l4),none] H:=by
 have comp: ∀(Q1:VK),(∀p,H p=none→Q1 (.ref p) (upd H p (.lst [])))→ag (mY K CP C E) (.comp none [] .list [(.v 4)] (some (.not (.call 0 [(.v 0)]))) (.v 0)) [some (.ref p),some (.str x),some (.int a),some (.int b),some (.ref l4),none] H Q1:=by
  intro Q1 hq
  refine⟨_,rfl,l4,rfl,⟨_,aC.of pf⟩,fun i m ys H2=>m=3 - i∧i≤3∧H2=H∧ys=[],⟨_,rfl,Nat.zero_le _,rfl,rfl⟩, ?_⟩
  rintro i m ys H2 ⟨rfl,hi,rfl,rfl⟩
  by_cases bc:i<3
  ·refine .inr ⟨⟨_,_,aC.of pf,List.getElem?_eq_getElem bc⟩, ?_⟩
   rintro y H3 ⟨rfl,hy⟩
   have nJ:=hy _ (aC.of pf)
   obtain⟨n,rfl⟩: ∃n,y= .int n:=by
    have:=List.mem_of_getElem? nJ
    simp only[List.mem_cons,List.not_mem_nil,or_false] at this
    rcases this with rfl | rfl | rfl<;>exact⟨_,rfl⟩
   refine⟨_,rfl,n,rfl, ?_⟩
   exact fk (iF ⟨3 - (i+1),by omega,rfl,bc,rfl,rfl⟩ rfl)
  ·have kS:i=3:=by omega
   subst kS
   exact .inl ⟨⟨_,aC.of pf,Nat.le_refl _⟩,fun p hp=>hq p hp⟩
 refine bP (bJ (comp _ fun q1 f1=> ?_))
 have s1:=sameNew (o:= .lst []) f1
 refine eQ (aP ⟨Nat.zero_le _,fun q2 f2=> ?_⟩)
 have s2:=sameNew (o:= .lst []) f2
 refine adu (s2 _ _ aN) aN ⟨_,rfl,iF (dc ?_) rfl⟩
 have lL:=s1.trans s2
 have h4:=lL _ _ pf
 generalize hG:upd (upd H q1 (.lst [])) q2 (.lst [])=H2 at lL h4
 refine bP (iP (bJ ?_))
 refine⟨_,rfl,_,rfl, .inl ⟨_,aC.of h4,fun q3 f3=> ?_⟩⟩
 have s3:=sameNew (o:= .lst (dI [V.int (x.length:Nat),V.int ((x.cps.toList.count 10+1:Nat):Int),V.int t.h] none (some 2))) f3
 refine eQ (ax (gh (ai rfl ⟨bV B.go.1,ax (aU (ay (eR (ai rfl ⟨rfl,ay (J9 (cy (aP ⟨(by show 2≤sizeLine;decide),fun q4 f4=> ?_⟩)))⟩))))⟩)))
 have s4:=sameNew (o:= .lst [V.int (x.length:Nat),V.int (1+ ((x.cps.toList.count 10:Nat):Int))]) f4
 have ev:(1+ ((x.cps.toList.count 10:Nat):Int))=((x.cps.toList.count 10+1:Nat):Int):=by omega
 refine adt (n:=(x.length:Nat)) (m:=((x.cps.toList.count 10+1:Nat):Int)) (by rw[s4 _ _ aN];rfl) (by rw[aN,ev]) ⟨_,rfl,iF ?_ rfl⟩
 have g_:=lL.trans (s3.trans s4)
 have h5:=(s3.trans s4) _ _ h4
 refine bJ (oF (bI (ai rfl (ay (mI h5 rfl (ay (mP (oF (ai rfl (ay (cZ (adv ?_ ⟨_,rfl,iF (dc ?_) rfl⟩))))))))))))
 ·have hz:=adn B.pa.pc
  rw[B.tx] at hz
  by_cases e:x=""
  ·have e0:x.cps.toList=[]:=by rw[e];rfl
   rw[decide_eq_true (hz.mpr e0),e];decide
  ·rw[decide_eq_false fun z=>e (gd (by rw[hz.mp z];rfl))]
   simp[e]
 ·exact adq (B.same g_) (fun H' s'=>k H' (g_.trans s')) _
def lM(CP C:Addr):Sp:=fun vs H Q E=> ∃(p dp s dx lt lb lf:Addr) (v:V) (t:Tr) (ts:List Str) (x:Str) (a b:Nat),vs=[.ref p, .str x, .int a, .int b]∧cP CP C H p dp s dx lt lb lf v t ts x∧a≤b∧b≤x.length∧ ∀H',aI H H'→Q (.bl true) H'
theorem adx(vs:List V)(H:Hp)(Q:VK)(E:XK)(h:lM CP C vs H Q E):ar (mY K CP C E) oy (Dn Q) (start xX vs) H:=by
 obtain⟨p,dp,s,dx,lt,lb,lf,v,t,ts,x,a,b,rfl,B,h1,h2,k⟩:=h
 refine bP (iP (bJ (adp rfl B fun H1 s1=>ai rfl (yq ⟨_,rfl,iF ?_ rfl⟩))))
 have B1:=B.same s1
 refine bJ (yE CP (iX CP C) rfl (ai rfl ⟨p,dp,_,rfl,B1.pa.ob,fz (by decide+kernel) (by decide+kernel),ai rfl (ai rfl ⟨p,dp,s,dx,lt,lb,lf,v,t,ts,a,b,rfl,B1.pa,B1.st,B.l1,B.l2,B.l3,B.l4,h1,by rw[B.tx,←len_list];exact h2,fun H2 s2=> ?_⟩)⟩))
 rw[B.tx]
 refine KI (ai rfl (ai rfl ⟨_,rfl,ai rfl ⟨_,rfl,bV B.go.1, ?_⟩⟩))
 rw[adm h1 h2]
 refine yq ⟨_,rfl,iF (dc ?_) rfl⟩
 have B2:=B1.same s2
 have len:((N.txt (aq ts) t.ak).length:Int)=(x.length:Nat):=by rw[B.tx,←len_list]
 refine bw (eQ (ax (gX CP (eT CP) rfl (ai rfl ⟨p,dp,_,rfl,B2.pa.ob,fz (by decide+kernel) (by decide+kernel),p,dp,s,v,t,_,rfl,B2.pa, ?_⟩))))
 refine ax (gX CP (oV CP) rfl (ai rfl ⟨p,dp,_,rfl,B2.pa.ob,fz (by decide+kernel) (by decide+kernel),p,dp,s,v,t,_,rfl,B2.pa, ?_⟩))
 refine ax (gX CP (oW CP) rfl (ai rfl ⟨p,dp,_,rfl,B2.pa.ob,fz (by decide+kernel) (by decide+kernel),p,dp,s,v,t,_,rfl,B2.pa,aP ⟨(by show 3≤sizeLine;decide),fun l4 f4=> ?_⟩⟩))
 have s4:=sameNew (o:= .lst [V.int ((N.txt (aq ts) t.ak).length:Nat),V.int (((N.txt (aq ts) t.ak).count 10+1:Nat):Int),V.int t.h]) f4
 have g_:=s1.trans (s2.trans s4)
 refine adw (B2.same s4) (fun H' s'=>k H' (g_.trans s')) ?_
 rw[aN,B.tx,←len_list]
end
end L2.gQ
namespace L2
open PySem PySem.Spec PyProof.Rows
theorem ady{K:PySem.W.Frag}{i j:Nat}{t:Addr}{v w:V}{σ:St}{H:Hp}{Q:St→Hp→Prop}(ht:H t=some (.tup [v,w]))(q:Q ((σ.set i (some v)).set j (some w)) H):mx K [i,j].length (jt [i,j]) (.ref t) σ H Q:=
 ⟨t,_,rfl, .inl (aX.of ht),rfl,_,_,rfl,_,_,rfl,rfl,q⟩
end L2
namespace L2.B
open PySem PySem.Spec PyProof.Rows
section
variable {H:Hp} {Q:VK} {E:XK}
end
end L2.B
namespace L2.gQ
open PySem PySem.Spec L2.B L2.N
section
variable {K:PySem.W.Frag} {H:Hp} {Q:VK}
theorem adz{a b:Addr}{xs ys:List V}{ps:List Pt}(ha:H a=some (.lst xs))(hb:H b=some (.lst ys))(hx:bL H xs ps)(hy:bL H ys ps)(ho: ∀p∈ps,dD p)(q:Q (.bl false) H):bZ K .NotEq (.ref a) (.ref b) H Q:=by
 refine⟨.list (ps.map toD), .list (ps.map toD),⟨a,xs,rfl,ha,rA hx⟩,⟨b,ys,rfl,hb,rA hy⟩,rq ho,rq ho, ?_⟩
 rw[SeqAt.eqv_refl _ (SeqAt.canLay_of_shaped (rq ho))]
 exact q
theorem yS{H:Hp}: ∀(zs:List Str),IsL H (zs.map PyData.str) (zs.map V.str)
 | []=>rfl
 | z::r=> ⟨.str z,r.map V.str,rfl,rfl,yS r⟩
theorem yT{zs:List Str}(h: ∀z∈zs,sg z):SeqAt.shaped (.list (zs.map PyData.str))=true:=by
 have all: ∀(zs:List Str),(∀z∈zs,sg z)→PyData.canLayAll0 (zs.map PyData.str)=true∧PyData.depthAll (zs.map PyData.str)≤1:=by
  intro zs
  induction zs with
  | nil=>intro _;exact⟨rfl,Nat.zero_le _⟩
  | cons z r ih=>
   intro h
   obtain⟨c,d⟩:=ih fun q hq=>h q (List.mem_cons_of_mem _ hq)
   refine⟨?_, ?_⟩
   ·show(PyData.strOk z && PyData.canLayAll0 (r.map PyData.str))=true
    rw[ye (h z List.mem_cons_self),c];rfl
   ·show max 0 (PyData.depthAll (r.map PyData.str))≤1
    omega
 obtain⟨c,d⟩:=all zs h
 unfold SeqAt.shaped
 have e:(PyData.list (zs.map PyData.str)).canLay0=true:=c
 have e2:(PyData.list (zs.map PyData.str)).depth≤64:=by show PyData.depthAll (zs.map PyData.str)+1≤64;omega
 rw[e,decide_eq_true e2];rfl
theorem adA{a b:Addr}{zs:List Str}(ha:H a=some (.lst (zs.map V.str)))(hb:H b=some (.lst (zs.map V.str)))(ho: ∀z∈zs,sg z)(q:Q (.bl false) H):bZ K .NotEq (.ref a) (.ref b) H Q:=by
 refine⟨.list (zs.map PyData.str), .list (zs.map PyData.str),⟨a,_,rfl,ha,yS zs⟩,⟨b,_,rfl,hb,yS zs⟩,yT ho,yT ho, ?_⟩
 rw[SeqAt.eqv_refl _ (SeqAt.canLay_of_shaped (yT ho))]
 exact q
theorem adB{a b:Addr}(ha:H a=some (.lst []))(hb:H b=some (.lst []))(q:Q (.bl true) H):bZ K .Eq (.ref a) (.ref b) H Q:=
 ⟨.list [], .list [],⟨a,[],rfl,ha,rfl⟩,⟨b,[],rfl,hb,rfl⟩,(by decide),(by decide),q⟩
theorem adC{Γ:aE}{σ:St}{a b:RE}{QT:Bool→Hp→Prop}(h:bq Γ [a,b] σ H fun vs H1=>q8 Γ.K vs H1 fun x H2=>fQ Γ.K x H2 fun b=>QT b H2):br Γ (.xt q9 [a,b]) σ H QT:=h
theorem adD{Γ:aE}{D:Ends}{σ:St}{r:List RS}{i:Nat}{l:Addr}{ys:List V}(e:σ[i]?=some (some (.ref l)))(hl:H l=some (.lst ys))(h:ar Γ r D σ (upd H l (.lst []))):ar Γ (.drop (.bE .clear (.v i) [])::r) D σ H:=
 ⟨_,e, .inl ⟨rfl,_,aC.of hl⟩,ys,hl,h⟩
end
structure Kp (lt lb lf a:Addr):Prop where
 k1:a≠lt
 k2:a≠lb
 k3:a≠lf
theorem Kp.of{C:Addr}{H:Hp}{s dx lt lb lf a:Addr}{ts:List Str}(S:bX C H s dx lt lb lf ts)(h:H a=none):Kp lt lb lf a:=
 ⟨fun z=> (by rw[z,S.tx] at h;cases h),fun z=> (by rw[z,S.bg] at h;cases h),fun z=> (by rw[z,S.fd] at h;cases h)⟩
theorem mZ{C:Addr}{H H':Hp}{s dx lt lb lf a:Addr}{ts:List Str}{xs:List V}(S:bX C H s dx lt lb lf ts)(b:c_ s lt lb lf H H')(k:Kp lt lb lf a)(h:H a=some (.lst xs)):H' a=some (.lst xs):=
 b _ _ h (fun z=>by rw[z,S.ob] at h;cases h) k.k1 k.k2 k.k3
abbrev Ent:=Addr×Addr×Addr×List Str
structure sj (H:Hp) (lt lb lf h:Addr) (e:Ent):Prop where
 tu:H e.1=some (.tup [.ref e.2.1, .ref e.2.2.1])
 la:H e.2.1=some (.lst (e.2.2.2.map V.str))
 l2:H e.2.2.1=some (.lst (e.2.2.2.map V.str))
 sg: ∀z∈e.2.2.2,sg z
 ka:Kp lt lb lf e.2.1
 kb:Kp lt lb lf e.2.2.1
 na:e.2.1≠h
 nb:e.2.2.1≠h
structure lN (H:Hp) (lt lb lf h:Addr) (es:List Ent):Prop where
 li:H h=some (.lst (es.map fun e=> .ref e.1))
 kh:Kp lt lb lf h
 en: ∀e∈es,sj H lt lb lf h e
theorem sj.but{C:Addr}{H H':Hp}{s dx lt lb lf h:Addr}{ts:List Str}{e:Ent}(S:bX C H s dx lt lb lf ts)(b:c_ s lt lb lf H H')(k:sj H lt lb lf h e):sj H' lt lb lf h e:=
 ⟨(b.b6 S) _ _ k.tu,mZ S b k.ka k.la,mZ S b k.kb k.l2,k.sg,k.ka,k.kb,k.na,k.nb⟩
theorem lN.but{C:Addr}{H H':Hp}{s dx lt lb lf h:Addr}{ts:List Str}{es:List Ent}(S:bX C H s dx lt lb lf ts)(b:c_ s lt lb lf H H')(k:lN H lt lb lf h es):lN H' lt lb lf h es:=
 ⟨mZ S b k.kh k.li,k.kh,fun e he=> (k.en e he).but S b⟩
section
variable {K:PySem.W.Frag} {CP C:Addr} {E:XK} {Q:VK} {H H':Hp} {p dp s dx lt lb lf:Addr} {v:V} {t:Tr} {ts:List Str} {x:Str}
theorem cP.yU{l:Addr}{ys:List V}(B:cP CP C H p dp s dx lt lb lf v t ts x)(b:b7 l H H')(hl:H l=some (.lst ys))(k:Kp lt lb lf l):cP CP C H' p dp s dx lt lb lf v t ts x:=by
 have np:p≠l:=fun z=>by have:=B.pa.ob;rw[z,hl] at this;cases this
 have ns:s≠l:=fun z=>by have:=B.st.ob;rw[z,hl] at this;cases this
 exact⟨⟨b _ _ B.pa.ob np,B.pa.nd.mono (b.b6 hl),B.pa.ok,B.pa.pc⟩,⟨b _ _ B.st.ob ns,b _ _ B.st.tx k.k1.symm,b _ _ B.st.bg k.k2.symm,b _ _ B.st.fd k.k3.symm,B.st.n1,B.st.n2,B.st.n3⟩,B.l1,B.l2,B.l3,B.tx,B.go⟩
abbrev GL(K:PySem.W.Frag)(CP C:Addr)(E:XK):aE:=aS K [("_law_cell_at",oC K),("_law_text_by",g8),("paper_of",o6 CP C),("_law_change_by",pd),("_law_mixed",eF),("_law_done",oH),("_law_told",lM CP C)] [("Paper", .ref CP)] [] [("changed",CP,o5 CP C),("pieces",CP,iW CP C)] (E:=E)
def adE:List RS:=[.asg 7 (.call 3 [(.call 4 [(.v 6),(.v 5)]),(.v 2)]), .asg 8 (.blt .list [(.v 7)]), .asg 9 (.b9 0 "changed" (.v 3) [(.v 8)]), .ite (.or [(.cmp .NotEq (.v 8) (.v 7)),(.not (.xt q9 [(.v 9),(.g 0)]))]) [.ret (.c (.bl false))] [], .drop (.bE .clear (.v 8) []), .asg 10 (.call 5 [(.v 2),(.v 7)]), .asg 11 (.bin .Mod (.call 4 [(.v 6),(.bin .Add (.c (.int 70)) (.v 5))]) (.bin .Add (.blt .len [(.v 10)]) (.c (.int 1)))), .asg 12 (.bin .Add (.v 11) (.bin .Mod (.call 4 [(.v 6),(.bin .Add (.c (.int 80)) (.v 5))]) (.bin .Add (.bin .Sub (.blt .len [(.v 10)]) (.v 11)) (.c (.int 1))))), .ite (.or [(.not (.call 6 [(.v 9),(.v 10),(.v 11),(.v 12)])),(.not (.call 6 [(.v 3),(.v 2),(.c (.int 0)),(.blt .len [(.v 2)])]))]) [.ret (.c (.bl false))] [], .asg 13 (.b9 1 "pieces" (.v 9) []), .drop (.bE .append (.v 4) [(.tup [(.v 13),(.blt .list [(.v 13)])])]), .asg 3 (.v 9), .asg 2 (.v 10)]
theorem adF{S:List Nat}{ps:List P3}{x:Str}(h:N.txt S ps=x.cps.toList)(gx:good x): ∀z∈ps.map (cg S),sg z:=by
 intro z hz c hc
 obtain⟨q,hq,rfl⟩:=List.mem_map.mp hz
 refine gx.2 c ?_
 rw[←h]
 exact List.mem_flatMap.mpr ⟨q,hq,by simpa[cg] using hc⟩
theorem turn{D:Ends}{i:Nat}{c:Int}{w h:Addr}{ws:List V}{es:List Ent}{u0 u1 u7 u8 u9 m3 m4 lO iZ:Option V}(O:qZ K CP)(hi:i<8)(B:cP CP C H p dp s dx lt lb lf v t ts x)
  (b1:t.ak.length≤1+60*i) (b2:ts.length≤1+60*i) (b3:(aq ts).length≤200+1000*i) (b4:x.length≤200+100*i) (hw:H w=some (.lst ws)) (kw:Kp lt lb lf w) (nw:w≠h) (hd:lN H lt lb lf h es) (le:es.length≤i)
  (hN: ∀(x':Str) (p' dN:Addr) (v':V) (t':Tr) (ph:List Str) (hU:List Ent) (y7 y8 y9 yV yW yX yY:Option V) (H':Hp),cP CP C H' p' dN s dx lt lb lf v' t' ph x'→t'.ak.length≤1+60* (i+1)→ph.length≤1+60* (i+1)→(aq ph).length≤200+1000* (i+1)→x'.length≤200+100* (i+1)→H' w=some (.lst ws)→lN H' lt lb lf h hU→hU.length≤i+1→
   D.nx [u0,u1,some (.str x'),some (.ref p'),some (.ref h),some (.int (i:Nat)),some (.int c),y7,y8,y9,yV,yW,yX,yY] H'):
  ar (GL K CP C E) adE D [u0,u1,some (.str x),some (.ref p),some (.ref h),some (.int (i:Nat)),some (.int c),u7,u8,u9,m3,m4,lO,iZ] H:=by
 refine bw (bH pd rfl (ax (bH eF rfl (ax (ai rfl (ax (ai rfl (aP ⟨_,_,rfl,fun m hm=>ax (ai rfl (aP ⟨m,x,rfl,B.go,by omega,fun b H1 ys qs r s1 fb hb pv ok ch R lr lq=> ?_⟩))⟩))))))))
 refine bw (oG (ax (ai rfl (aP ⟨ys, .inl (aC.of hb),fun l fl=> ?_⟩))))
 have s2:=sameNew (o:= .lst ys) fl
 have lL:=s1.trans s2
 have B2:=B.same lL
 have yZ:=pv.mono (bj s2)
 have kl:=Kp.of (B.same s1).st fl
 have kb:=Kp.of B.st fb
 have ma:upd H1 l (.lst ys) l=some (.lst ys):=aN
 have kZ:=s2 _ _ hb
 have bl:b≠l:=bW hb fl
 have fl0:H l=none:=s1.free fl
 generalize upd H1 l (.lst ys)=H2 at s2 lL B2 yZ ma kZ⊢
 refine bw (JI CP (o5 CP C) rfl (ai rfl ⟨p,dp,_,rfl,B2.pa.ob,fz (by decide+kernel) (by decide+kernel),ai rfl ⟨p,dp,s,dx,lt,lb,lf,l,v,t,ts,ys,qs,r,rfl,B2.pa,B2.st,by omega,by omega,by omega,B.l4,ma,kl.k1,kl.k2,kl.k3,yZ,ok,ch,by rw[B.tx];exact R,fun p' dN v' t' us H3 bu fp S3 P3 e3 l3 lu ls=> ?_⟩⟩))
 have pj:H3 l=some (.lst ys):=mZ B2.st bu kl ma
 have gj:H3 b=some (.lst ys):=mZ B2.st bu kb kZ
 have y0:bL H3 ys qs:=yZ.mono (bu.b6 B2.st)
 have KQ: ∀q∈qs,dD q:=fun q hq=>KA (ok q hq)
 refine bP (iP (bJ (ai rfl (ai rfl (adz pj gj y0 y0 KQ ⟨_,rfl,iF ?_ rfl⟩)))))
 refine fm (adC (ax (ai rfl (ax (r_g (aP ⟨p',CP,dN,_,rfl,P3.ob,O,fk (iF (dc ?_) rfl)⟩))))))
 refine adD rfl pj ?_
 have c4:b7 l H3 (upd H3 l (.lst [])):=b7.upd
 generalize upd H3 l (.lst [])=H4 at c4⊢
 have hb4:=c4 _ _ gj bl
 have pv4:bL H4 ys qs:=y0.mono (c4.b6 pj)
 have lr':(⟨r.toArray⟩:Str).length=r.length:=by simp[Str.length]
 have gr:good ⟨r.toArray⟩:=⟨by rw[lr'];omega,fun d hd=>R.good B.go.2 KQ d (by simpa using hd)⟩
 have lts:(ts++us).length=ts.length+us.length:=List.length_append
 have lsg:(aq (ts++us)).length=(aq ts).length+ (aq us).length:=by rw[eB,List.length_append]
 have B3:cP CP C H3 p' dN s dx lt lb lf v' t' (ts++us) ⟨r.toArray⟩:=⟨P3,S3,by omega,by omega,by omega,by rw[e3],gr⟩
 have B4:=B3.yU c4 pj kl
 have Bo3:cP CP C H3 p dp s dx lt lb lf v t (ts++us) x:=⟨by rw[eB];exact(B2.pa.but B2.st bu).grow _,S3,B.l1,by omega,by omega,by rw[eB,rR B.pa.pc,B.tx],B.go⟩
 have Bo4:=Bo3.yU c4 pj kl
 have KR:c_ s lt lb lf H H4:=fun d o e n1 n2 n3 n4=>c4 _ _ (bu _ _ (lL _ _ e) n1 n2 n3 n4) (bW e fl0)
 have m5:=mZ B.st KR kw hw
 have hd4:=hd.but B.st KR
 refine bw (bH oH rfl (ax (ai rfl (ax (ai rfl (aP ⟨x,b,ys,qs,r,rfl,B.go,hb4,pv4,fun q hq=>Jv (ok q hq),R,by omega, ?_⟩))))))
 refine bw (aU (bH eF rfl (ax (ai rfl (ax (aU (ay (ai rfl (cy (aP ⟨_,_,rfl,fun m1 hm1=> ?_⟩))))))))))
 refine aU (gh (ai rfl ⟨bV gr.1,ay (cy ⟨?_, ?_⟩)⟩))
 ·show(0:Int) < ((⟨r.toArray⟩:Str).length:Int)+1
  omega
 obtain⟨a1,ea⟩: ∃a1:Nat,m1 % (((⟨r.toArray⟩:Str).length:Int)+1)=a1:=⟨(m1 % (((⟨r.toArray⟩:Str).length:Int)+1)).toNat,(Int.toNat_of_nonneg (Int.emod_nonneg _ (by omega))).symm⟩
 have ea':(a1:Int) < ((⟨r.toArray⟩:Str).length:Int)+1:=by rw[←ea];exact Int.emod_lt_of_pos _ (by omega)
 show ar (GL K CP C E) _ D [u0,u1,some (.str x),some (.ref p),some (.ref h),some (.int (i:Nat)),some (.int c),some (.ref b),some (.ref l),some (.ref p'),some (.str ⟨r.toArray⟩),some (.int (m1 % (((⟨r.toArray⟩:Str).length:Int)+1))),lO,iZ] H4
 rw[ea]
 refine bw (aU (ai rfl (aU (bH eF rfl (ax (ai rfl (ax (aU (ay (ai rfl (cy (aP ⟨_,_,rfl,fun m2 hm2=> ?_⟩))))))))))))
 refine aU (aU (gh (ai rfl ⟨bV gr.1,ai rfl ⟨trivial,ay (cy ⟨?_,cy ?_⟩)⟩⟩)))
 ·show(0:Int) < ((⟨r.toArray⟩:Str).length:Int) - (a1:Int)+1
  omega
 have m20:0≤m2 % (((⟨r.toArray⟩:Str).length:Int) - (a1:Int)+1):=Int.emod_nonneg _ (by omega)
 have m21:m2 % (((⟨r.toArray⟩:Str).length:Int) - (a1:Int)+1) < ((⟨r.toArray⟩:Str).length:Int) - (a1:Int)+1:=Int.emod_lt_of_pos _ (by omega)
 obtain⟨a2,ea2⟩: ∃a2:Nat,(a1:Int)+m2 % (((⟨r.toArray⟩:Str).length:Int) - (a1:Int)+1)=a2:=⟨((a1:Int)+m2 % (((⟨r.toArray⟩:Str).length:Int) - (a1:Int)+1)).toNat,(Int.toNat_of_nonneg (by omega)).symm⟩
 show ar (GL K CP C E) _ D [u0,u1,some (.str x),some (.ref p),some (.ref h),some (.int (i:Nat)),some (.int c),some (.ref b),some (.ref l),some (.ref p'),some (.str ⟨r.toArray⟩),some (.int (a1:Nat)),some (.int ((a1:Int)+m2 % (((⟨r.toArray⟩:Str).length:Int) - (a1:Int)+1))),iZ] H4
 rw[ea2]
 refine bP (iP (fm (gY (lM CP C) rfl (ax (ai rfl (ax (ai rfl (ax (ai rfl (ax (ai rfl (aP ⟨p',dN,s,dx,lt,lb,lf,v',t',ts++us,_,a1,a2,rfl,B4,by omega,by omega,fun H5 s5=>fk (iF ?_ rfl)⟩))))))))))))
 refine fm (gY (lM CP C) rfl (ax (ai rfl (ax (ai rfl (ax (ay (ax (gh (ai rfl ⟨bV B.go.1,aP ⟨p,dp,s,dx,lt,lb,lf,v,t,ts++us,x,0,x.length,rfl,Bo4.same s5,Nat.zero_le _,Nat.le_refl _,fun H6 s6=>fk (iF (dc ?_) rfl)⟩⟩))))))))))
 have y2:=s5.trans s6
 have B6:=B4.same y2
 have sk:=y2 _ _ m5
 have pk:=hd4.but B4.st (eE y2)
 refine bw (gX CP (iW CP C) rfl (ai rfl ⟨p',dN,_,rfl,B6.pa.ob,fz (by decide+kernel) (by decide+kernel),p',dN,s,dx,lt,lb,lf,v',t',ts++us,rfl,B6.pa,B6.st,B6.l1,B6.l2,B6.l3,fun g H7 s7 fg hg=> ?_⟩))
 have y6:=pk.but B6.st (eE s7)
 have B7:=B6.same s7
 refine k_ (eR (ai rfl ⟨.inl ⟨rfl,_,aC.of y6.li⟩,iL (ax (ai rfl (ax (oG (ax (ai rfl (aP ⟨_, .inl (aC.of hg),fun g2 f2=>aP ⟨(by show 2≤sizeLine;decide),fun tt ft=> ?_⟩⟩)))))))⟩))
 have kg:=Kp.of B6.st fg
 have kg2:=Kp.of B7.st f2
 have ng:g≠h:=fun z=>by rw[z,pk.li] at fg;cases fg
 have KS:g2≠h:=fun z=>by rw[z,y6.li] at f2;cases f2
 have s8:=sameNew (o:= .lst ((t'.ak.map (cg (aq (ts++us)))).map V.str)) f2
 have KU:upd H7 g2 (.lst ((t'.ak.map (cg (aq (ts++us)))).map V.str)) g2=some (.lst ((t'.ak.map (cg (aq (ts++us)))).map V.str)):=aN
 generalize upd H7 g2 (.lst ((t'.ak.map (cg (aq (ts++us)))).map V.str))=H8 at s8 KU ft⊢
 have s9:=sameNew (o:= .tup [V.ref g,V.ref g2]) ft
 have KW:upd H8 tt (.tup [V.ref g,V.ref g2]) tt=some (.tup [V.ref g,V.ref g2]):=aN
 generalize upd H8 tt (.tup [V.ref g,V.ref g2])=H9 at s9 KW⊢
 have so:=s8.trans s9
 have m6:=y6.but B7.st (eE so)
 have B9:=B7.same so
 refine⟨_,m6.li,gc (by rw[List.length_map];omega), ?_⟩
 have cA:b7 h H9 (upd H9 h (.lst (es.map (fun e=>V.ref e.1)++ [V.ref tt]))):=b7.upd
 have KY:upd H9 h (.lst (es.map (fun e=>V.ref e.1)++ [V.ref tt])) h=some (.lst (es.map (fun e=>V.ref e.1)++ [V.ref tt])):=aN
 generalize upd H9 h (.lst (es.map (fun e=>V.ref e.1)++ [V.ref tt]))=HA at cA KY⊢
 have tA:=cA.b6 m6.li
 refine bw (ai rfl (bw (ai rfl ?_)))
 refine hN ⟨r.toArray⟩ p' dN v' t' (ts++us) (es++ [(tt,g,g2,t'.ak.map (cg (aq (ts++us))))]) _ _ _ _ _ _ _ HA (B9.yU cA m6.li m6.kh) (by omega) (by omega) (by omega) (by omega) (cA _ _ (so _ _ (s7 _ _ sk)) nw) ⟨by rw[List.map_append];exact KY,m6.kh,fun e he=> ?_⟩ (by rw[List.length_append];show es.length+1≤_;omega)
 rcases List.mem_append.mp he with q | q
 ·have k:=m6.en e q
  exact⟨tA _ _ k.tu,cA _ _ k.la k.na,cA _ _ k.l2 k.nb,k.sg,k.ka,k.kb,k.na,k.nb⟩
 ·rw[List.mem_singleton.mp q]
  exact⟨tA _ _ KW,cA _ _ (so _ _ hg) ng,cA _ _ (s9 _ _ KU) KS,adF B9.tx B9.go,kg,kg2,ng,KS⟩
end
theorem adP(xs:List V)(i j:Nat):dI xs (some (i:Int)) (some (j:Int))=(xs.drop i).take (j - i):=by
 unfold dI
 rw[HT.lZ,HT.lZ]
 by_cases h:i≤xs.length
 ·by_cases h2:j≤xs.length
  ·rw[show min i xs.length=i by omega,show min j xs.length=j by omega]
  ·rw[show min i xs.length=i by omega,show min j xs.length=xs.length by omega,List.take_of_length_le (by rw[List.length_drop];omega),List.take_of_length_le (by rw[List.length_drop];omega)]
 ·rw[List.drop_of_length_le (by omega),List.drop_of_length_le (by omega),List.take_nil,List.take_nil]
theorem adQ{Γ:aE}{σ:St}{H:Hp}{Q:VK}{a b:RE}(h:ag Γ a σ H fun x H1=> ∃c,x= .bl c∧if c=true then ag Γ b σ H1 Q else Q (.bl false) H1):ag Γ (.and [a,b]) σ H Q:=h
section
variable {K:PySem.W.Frag} {CP C:Addr} {E:XK} {Q:VK} {H:Hp}
theorem sq{H1:Hp}{σ:St}{Q':VK}{a:Addr}{ns:List Int}(ha:aC K H a (ns.map V.int))(i:Int)(s1:aI H H1)(e0:σ[0]?=some (some (.ref a)))(hi:0≤i)(q:Q' (.int (cell ns i.toNat)) H1):ag (GL K CP C E) (.call 0 [(.v 0),(.c (.int i))]) σ H1 Q':=
 bH (oC K) rfl (ax (ai e0 (ax (ay (aP ⟨a,ns,i,rfl,s1.seq ha,hi,q⟩)))))
theorem adR{σ:St}{lt lb lf h:Addr}{es:List Ent}{Q1:VK}(hd:lN H lt lb lf h es)(e4:σ[4]?=some (some (.ref h)))(hq: ∀p,H p=none→Q1 (.ref p) (upd H p (.lst []))):
  ag (GL K CP C E) (.comp (some 2) [] .list [(.v 4)] (some (.cmp .NotEq (.v 0) (.v 1))) (.v 0)) σ H Q1:=by
 refine⟨_,e4,h,rfl,⟨_,aC.of hd.li⟩,fun i m ys H2=>m=es.length - i∧i≤es.length∧H2=H∧ys=[],⟨_,rfl,Nat.zero_le _,rfl,rfl⟩, ?_⟩
 rintro i m ys H2 ⟨rfl,hi,rfl,rfl⟩
 have ll:(es.map fun e=>V.ref e.1).length=es.length:=List.length_map ..
 by_cases bc:i<es.length
 ·refine .inr ⟨⟨_,_,aC.of hd.li,List.getElem?_eq_getElem (by rw[ll];exact bc)⟩, ?_⟩
  rintro y H3 ⟨rfl,hy⟩
  have nJ:=hy _ (aC.of hd.li)
  obtain⟨e,he,rfl⟩:=List.mem_map.mp (List.mem_of_getElem? nJ)
  have k:=hd.en e he
  refine⟨_,_,rfl,aX.of k.tu,rfl, ?_⟩
  refine⟨_,rfl,_,rfl, ?_⟩
  exact adA k.la k.l2 k.sg ⟨_,rfl,iF ⟨es.length - (i+1),by omega,rfl,bc,rfl,rfl⟩ rfl⟩
 ·have kS:i=es.length:=by omega
  subst kS
  exact .inl ⟨⟨_,aC.of hd.li,by rw[ll];exact Nat.le_refl _⟩,fun p hp=>hq p hp⟩
def sr(K:PySem.W.Frag):Sp:=fun vs H Q E=> ∃(a:Addr) (ns:List Int),vs=[.ref a]∧aC K H a (ns.map V.int)∧ ∀H',Q (.bl true) H'
def LI(a w h s dx lt lb lf CP C:Addr)(ws:List V)(i:Nat)(σ:St)(H4:Hp):Prop:=
 ∃(x:Str) (p dp:Addr) (v:V) (t:Tr) (ts:List Str) (es:List Ent) (u1 u5 u6 u7 u8 u9 m3 m4 lO iZ:Option V),σ=[some (.ref a),u1,some (.str x),some (.ref p),some (.ref h),u5,u6,u7,u8,u9,m3,m4,lO,iZ]∧cP CP C H4 p dp s dx lt lb lf v t ts x∧
  t.ak.length≤1+60*i∧ts.length≤1+60*i∧(aq ts).length≤200+1000*i∧x.length≤200+100*i∧H4 w=some (.lst ws)∧lN H4 lt lb lf h es∧es.length≤i
theorem adS(O:qZ K CP)(vs:List V)(H:Hp)(Q:VK)(E:XK)(h:sr K vs H Q E):ar (GL K CP C E) cX (Dn Q) (start f_ vs) H:=by
 obtain⟨a,ns,rfl,ha,k⟩:=h
 have go: ∀z:Int,0≤z→z≤199→ar (GL K CP C E) (cX.drop 2) (Dn Q) [some (.ref a),some (.int z),none,none,none,none,none,none,none,none,none,none,none,none] H:=by
  intro z z0 z1
  refine bw (bH g8 rfl (ax (sq ha 1 (aI.refl _) rfl (by decide) (ax (ai rfl (aP ⟨_,_,rfl,z0,by omega,fun x H1 gx lx s1=> ?_⟩))))))
  refine bw (bH (o6 CP C) rfl (ax (ai rfl (aP ⟨x,rfl,gx,fun p dp s dx lt lb lf v t ts H2 s2 S2 P2 e2 l1 l2 l3 f1 f2 f3 f4 f5=> ?_⟩))))
  have B2:cP CP C H2 p dp s dx lt lb lf v t ts x:=⟨P2,S2,by omega,by omega,by omega,e2,gx⟩
  refine bw (eQ (aP ⟨Nat.zero_le _,fun h fh=> ?_⟩))
  have kh:=Kp.of S2 fh
  have s3:=sameNew (o:= .lst []) fh
  have y_:upd H2 h (.lst []) h=some (.lst []):=aN
  generalize upd H2 h (.lst [])=H3 at s3 y_⊢
  have B3:=B2.same s3
  have s13:=s1.trans (s2.trans s3)
  refine⟨_,rfl,_,rfl,_,rfl, .inl ⟨_,s13.seq ha,fun w fw=> ?_⟩⟩
  have kw:=Kp.of B3.st fw
  have nw:w≠h:=fun z=>by rw[z,y_] at fw;cases fw
  have s4:=sameNew (o:= .lst (dI (ns.map V.int) (some 3) (some 11))) fw
  have m5:upd H3 w (.lst (dI (ns.map V.int) (some 3) (some 11))) w=some (.lst (dI (ns.map V.int) (some 3) (some 11))):=aN
  have ec:=adP (ns.map V.int) 3 11
  generalize upd H3 w (.lst (dI (ns.map V.int) (some 3) (some 11)))=H4 at s4 m5⊢
  rw[show((3:Nat):Int)=3 from rfl,show((11:Nat):Int)=11 from rfl] at ec
  rw[ec] at m5
  have B4:=B3.same s4
  refine⟨w,rfl,⟨_,aC.of m5⟩,Rn (K:=K) (a:=w) (xs:=((ns.map V.int).drop 3).take (11 - 3)) (LI a w h s dx lt lb lf CP C (((ns.map V.int).drop 3).take (11 - 3))) ?_ ?_ ?_ ?_⟩
  ·exact⟨x,p,dp,v,t,ts,[],some (.int z),none,none,none,none,none,none,none,none,none,rfl,B4,by omega,by omega,by omega,by omega,m5,⟨s4 _ _ y_,kh,fun e he=> (by cases he)⟩,Nat.zero_le _⟩
  ·rintro i σ H5 ⟨x,p,dp,v,t,ts,es,u1,u5,u6,u7,u8,u9,m3,m4,lO,iZ,_,_,_,_,_,_,hw,_⟩
   exact aC.of hw
  ·rintro i y σ H5 T hi ⟨x,p,dp,v,t,ts,es,u1,u5,u6,u7,u8,u9,m3,m4,lO,iZ,rfl,B5,c1,c2,c3,c4,hw,hd,le⟩ hT
   have hi8:i<8:=by
    have:=(List.getElem?_eq_some_iff.mp hi).1
    rw[List.length_take] at this;omega
   obtain⟨c,rfl⟩: ∃c:Int,y= .int c:=by
    have hm:=List.mem_of_mem_drop (List.mem_of_mem_take (List.mem_of_getElem? hi))
    obtain⟨c,_,e⟩:=List.mem_map.mp hm
    exact⟨c,e.symm⟩
   have s6:=sameNew (o:= .tup [V.int (i:Nat),V.int c]) hT
   refine ady aN ?_
   have B6:=B5.same s6
   have sk:=s6 _ _ hw
   have pk:=hd.but B5.st (eE s6)
   generalize upd H5 T (.tup [V.int (i:Nat),V.int c])=H6 at s6 B6 sk pk⊢
   exact turn O hi8 B6 c1 c2 c3 c4 sk kw nw pk le fun x' p' dN v' t' ph hU y7 y8 y9 yV yW yX yY H' B' d1 d2 d3 d4 lH nh le'=> ⟨x',p',dN,v',t',ph,hU,_,_,_,y7,y8,y9,yV,yW,yX,yY,rfl,B',d1,d2,d3,d4,lH,nh,le'⟩
  ·rintro σ H5 ⟨x,p,dp,v,t,ts,es,u1,u5,u6,u7,u8,u9,m3,m4,lO,iZ,rfl,B5,c1,c2,c3,c4,hw,hd,le⟩
   refine cY (adQ (bH (lM CP C) rfl (ax (ai rfl (ax (ai rfl (ax (ay (ax (gh (ai rfl ⟨bV B5.go.1,aP ⟨p,dp,s,dx,lt,lb,lf,v,t,ts,x,0,x.length,rfl,B5,Nat.zero_le _,Nat.le_refl _,fun H6 s6=> ⟨true,rfl,iT ?_ rfl⟩⟩⟩)))))))))))
   refine oF (adR (hd.but B5.st (eE s6)) rfl fun q1 f1=> ?_)
   refine eQ (aP ⟨Nat.zero_le _,fun q2 f2=> ?_⟩)
   exact adB ((sameNew f2) _ _ aN) aN (k _)
 have m25:0≤cell ns 0 % 25∧cell ns 0 % 25<25:=⟨Int.emod_nonneg _ (by decide),Int.emod_lt_of_pos _ (by decide)⟩
 have amj:0≤cell ns 0 / 200 % 140∧cell ns 0 / 200 % 140<140:=⟨Int.emod_nonneg _ (by decide),Int.emod_lt_of_pos _ (by decide)⟩
 refine bw (aU (sq ha 0 (aI.refl _) rfl (by decide) (ay ⟨(by show(0:Int) <25;decide), ?_⟩)))
 refine bP (bJ (aU (aU (sq ha 0 (aI.refl _) rfl (by decide) (ay ⟨⟨by decide,by decide⟩,ay ⟨(by show(0:Int) <8;decide),ay (mP ⟨_,rfl, ?_⟩)⟩⟩)))))
 by_cases q:cell ns 0 / 25 % 8=1
 ·refine iT ?_ (decide_eq_true q)
  refine bw (aU (ay (aU (aU (sq ha 0 (aI.refl _) rfl (by decide) (ay ⟨⟨by decide,by decide⟩,ay ⟨(by show(0:Int) <140;decide),cy ?_⟩⟩))))))
  exact go (60+cell ns 0 / 200 % 140) (by omega) (by omega)
 ·exact iF (dc (go (cell ns 0 % 25) m25.1 (by omega))) (decide_eq_false q)
end
end L2.gQ
namespace L2.gQ
open PySem PySem.Spec PyProof.Rows L2.B
theorem all_mk{l:PySem.W.OpenLaw}{w:World}{K:PySem.W.Frag}{h:Heap}{mg:Str→Option Value}{fa f0 f1 f2 f3 f4 f5 f6 f7 f8 f9 za zb zc zd ze zf zg zh zi zj zk zl zm zo zp sv sx sy sA zq zr zt zu sD sE sG sH sI sJ sL sM zv zw zx zy zz zA zB zC zD:Addr}{a_:Addr}{aR:Addr}{gm:Addr}{pq:Addr}{pw:Addr}{i0:Addr}(X:K.In h)(G:h.Ns mainGlobals mg)(hfa:mg "law"=some (.ref fa))
  {od0 an0:Option Addr} {sl0:Array (Option Value)} {oc0 kV0 dc0 pm0 KZ ct0:Value}
  {od1 an1:Option Addr} {sl1:Array (Option Value)} {oc1 kV1 dc1 pm1 K0 ct1:Value}
  {od2 an2:Option Addr} {nB:Array (Option Value)} {oc2 kV2 dc2 pm2 K1 ct2:Value}
  {od3 an3:Option Addr} {nZ:Array (Option Value)} {oc3 kV3 dc3 pm3 K2 ct3:Value}
  {od4 an4:Option Addr} {sl4:Array (Option Value)} {oc4 kV4 dc4 pm4 K3 ct4:Value}
  {od5 an5:Option Addr} {sl5:Array (Option Value)} {oc5 kV5 dc5 pm5 K4 ct5:Value}
  {od6 an6:Option Addr} {sl6:Array (Option Value)} {oc6 kV6 dc6 pm6 K5 ct6:Value}
  {od7 an7:Option Addr} {sl7:Array (Option Value)} {oc7 kV7 dc7 pm7 K6 ct7:Value}
  {od8 an8:Option Addr} {sl8:Array (Option Value)} {oc8 kV8 dc8 pm8 K7 ct8:Value}
  {od9 an9:Option Addr} {sl9:Array (Option Value)} {oc9 kV9 dc9 pm9 K8 ct9:Value}
  {afc afd:Option Addr} {afe:Array (Option Value)} {aff afg afh afi K9 afj:Value}
  {afk afl:Option Addr} {afm:Array (Option Value)} {afn afo afp afq K_ afr:Value}
  {afs aft:Option Addr} {afu:Array (Option Value)} {afv afw afx afy La afz:Value}
  {afA afB:Option Addr} {afC:Array (Option Value)} {afD afE afF afG Lb afH:Value}
  {afI afJ:Option Addr} {afK:Array (Option Value)} {afL afM afN afO Lc afP:Value}
  {afQ afR:Option Addr} {afS:Array (Option Value)} {afT afU afV afW Ld afX:Value}
  {afY afZ:Option Addr} {af0:Array (Option Value)} {af1 af2 af3 af4 Le af5:Value}
  {af6 af7:Option Addr} {af8:Array (Option Value)} {af9 af_ aga agb Lf agc:Value}
  {agd age:Option Addr} {agf:Array (Option Value)} {agg agh agi agj Lg agk:Value}
  {agl agm:Option Addr} {agn:Array (Option Value)} {ago agp agq agr Lh ags:Value}
  {agt agu:Option Addr} {agv:Array (Option Value)} {agw agx agy agz Li agA:Value}
  {agB agC:Option Addr} {agD:Array (Option Value)} {agE agF agG agH Lj agI:Value}
  {agJ agK:Option Addr} {agL:Array (Option Value)} {agM agN agO agP Lk agQ:Value}
  {agR agS:Option Addr} {agT:Array (Option Value)} {agU agV agW agX Ll agY:Value}
  {agZ ag0:Option Addr} {ag1:Array (Option Value)} {ag2 ag3 ag4 ag5 Lm ag6:Value}
  {ag7 ag8:Option Addr} {ag9:Array (Option Value)} {ag_ aha ahb ahc Ln ahd:Value}
  {ahe ahf:Option Addr} {ahg:Array (Option Value)} {ahh ahi ahj ahk Lo ahl:Value}
  {ahm ahn:Option Addr} {aho:Array (Option Value)} {ahp ahq ahr ahs Lp aht:Value}
  {ahu ahv:Option Addr} {ahw:Array (Option Value)} {ahx ahy ahz ahA Lq ahB:Value}
  {ahC ahD:Option Addr} {ahE:Array (Option Value)} {ahF ahG ahH ahI Lr ahJ:Value}
  {ahK ahL:Option Addr} {ahM:Array (Option Value)} {ahN ahO ahP ahQ Ls ahR:Value}
  {ahS ahT:Option Addr} {ahU:Array (Option Value)} {ahV ahW ahX ahY Lu ahZ:Value}
  {ah0 ah1:Option Addr} {ah2:Array (Option Value)} {ah3 ah4 ah5 ah6 Lv ah7:Value}
  {ah8 ah9:Option Addr} {ah_:Array (Option Value)} {aia aib aic aid Lw aie:Value}
  {aif aih:Option Addr} {aii:Array (Option Value)} {aij aik ail aim Lx ain:Value}
  {aio aip:Option Addr} {aiq:Array (Option Value)} {air ais ait aiu Ly aiv:Value}
  {aiw aix:Option Addr} {aiy:Array (Option Value)} {aiz aiA aiB aiC Lz aiD:Value}
  {aiE aiF:Option Addr} {aiG:Array (Option Value)} {aiH aiI aiJ aiK LA aiL:Value}
  {aiM aiN:Option Addr} {aiO:Array (Option Value)} {aiP aiQ aiR aiS LB aiT:Value}
  {aiU aiV:Option Addr} {aiW:Array (Option Value)} {aiX aiY aiZ ai0 LC ai1:Value}
  {ai2 ai3:Option Addr} {ai4:Array (Option Value)} {ai5 ai6 ai7 ai8 LD ai9:Value}
  {ai_ aja:Option Addr} {ajb:Array (Option Value)} {ajc ajd aje ajf LF ajg:Value}
  {ajh aji:Option Addr} {ajj:Array (Option Value)} {ajk ajl ajm ajn LG ajo:Value}
  {ajp ajq:Option Addr} {ajr:Array (Option Value)} {ajs ajt aju ajv LH ajw:Value}
  {ajx ajy:Option Addr} {ajz:Array (Option Value)} {ajA ajB ajC ajD LJ ajE:Value}
  {ajF ajG:Option Addr} {ajH:Array (Option Value)} {ajI ajJ ajK ajL LK ajM:Value}
  {ajN ajO:Option Addr} {ajP:Array (Option Value)} {ajQ ajR ajS ajT LL ajU:Value}
  {ajV ajW:Option Addr} {ajX:Array (Option Value)} {ajY ajZ aj0 aj1 LM aj2:Value}
  {aj3 aj4:Option Addr} {aj5:Array (Option Value)} {aj6 aj7 aj8 aj9 LN aj_:Value}
  {aka LO:Option Addr} {akb:Array (Option Value)} {akc LP LQ LR zE LS:Value}
  {akd:Tok}
  (zF:PySem.W.nsIn K mainGlobals "Stock"=some (some (.ref a_)))
  (zG:plainGet K a_ Str.empty=true)
  (zH:hasDictIn K a_=true)
  (zI:plainOver K a_=true)
  (zJ:findIn K (.ref a_) "__setattr__"=some (some (.builtin "object.__setattr__")))
  (zK:makesIn K a_=true)
  (zL:keepIn K (.ref a_)=true)
  (zM:findIn K (.ref a_) "texts"=some none)
  (zN:findIn K (.ref a_) "begins"=some none)
  (zO:findIn K (.ref a_) "feeds"=some none)
  (zP:findIn K (.ref a_) "signs"=some none)
  (sN:PySem.W.nsIn K mainGlobals "Paper"=some (some (.ref aR)))
  (zQ:plainGet K aR Str.empty=true)
  (zR:hasDictIn K aR=true)
  (zS:plainOver K aR=true)
  (zT:findIn K (.ref aR) "__setattr__"=some (some (.builtin "object.__setattr__")))
  (zU:makesIn K aR=true)
  (zV:keepIn K (.ref aR)=true)
  (zW:findIn K (.ref aR) "stock"=some none)
  (zX:findIn K (.ref aR) "node"=some none)
  (sO:PySem.W.nsIn K mainGlobals "BadText"=some (some (.ref gm)))
  (sQ:PySem.W.nsIn K mainGlobals "BadChange"=some (some (.ref pq)))
  (sR:PySem.W.nsIn K mainGlobals "BadFit"=some (some (.ref pw)))
  (sS:PySem.W.nsIn K mainGlobals "NoPlace"=some (some (.ref i0)))
  (zY:PySem.W.excIn K gm [.type "ValueError", .type "Exception", .type "BaseException", .type "object"] "ValueError.__new__"=true)
  (zZ:PySem.W.excIn K pq [.type "ValueError", .type "Exception", .type "BaseException", .type "object"] "ValueError.__new__"=true)
  (z5:PySem.W.excIn K pw [.type "ValueError", .type "Exception", .type "BaseException", .type "object"] "ValueError.__new__"=true)
  (z6:PySem.W.excIn K i0 [.type "ValueError", .type "Exception", .type "BaseException", .type "object"] "ValueError.__new__"=true)
  (z7:findIn K (.ref aR) "__class__"=some (some (.builtin "object.__class__")))
  (z8:mroIn K aR (.type "object")=some true)
  (z9:kitOne K (.ref aR) (.ref aR)=some true)
  (e5:specialIn K (.builtin "object.__class__") "__get__"=some (some (.builtin "getset_descriptor.__get__")))
  (e6:takesIn K (.builtin "object.__class__")=some true)
  (a0:PySem.W.nsIn K mainGlobals "is_whole"=some (some (.ref f0)))
  (l0:K.lookup f0=some ⟨oc0,od0, .func (fnOf "is_whole" "is_whole" (bp jG) (az jG) (au jG) .none kV0 dc0 pm0 an0 KZ ct0),sl0⟩)
  (c0:codeIn K KZ "is_whole"=true)
  (k0:keepIn K (.ref f0)=true)
  (a1:PySem.W.nsIn K mainGlobals "is_between"=some (some (.ref f1)))
  (l1:K.lookup f1=some ⟨oc1,od1, .func (fnOf "is_between" "is_between" (bp jH) (az jH) (au jH) .none kV1 dc1 pm1 an1 K0 ct1),sl1⟩)
  (c1:codeIn K K0 "is_between"=true)
  (k1:keepIn K (.ref f1)=true)
  (a2:PySem.W.nsIn K mainGlobals "is_word"=some (some (.ref f2)))
  (l2:K.lookup f2=some ⟨oc2,od2, .func (fnOf "is_word" "is_word" (bp jI) (az jI) (au jI) .none kV2 dc2 pm2 an2 K1 ct2),nB⟩)
  (c2:codeIn K K1 "is_word"=true)
  (k2:keepIn K (.ref f2)=true)
  (a3:PySem.W.nsIn K mainGlobals "is_text"=some (some (.ref f3)))
  (l3:K.lookup f3=some ⟨oc3,od3, .func (fnOf "is_text" "is_text" (bp jJ) (az jJ) (au jJ) .none kV3 dc3 pm3 an3 K2 ct3),nZ⟩)
  (c3:codeIn K K2 "is_text"=true)
  (k3:keepIn K (.ref f3)=true)
  (a4:PySem.W.nsIn K mainGlobals "need_text"=some (some (.ref f4)))
  (l4:K.lookup f4=some ⟨oc4,od4, .func (fnOf "need_text" "need_text" (bp jK) (az jK) (au jK) .none kV4 dc4 pm4 an4 K3 ct4),sl4⟩)
  (c4:codeIn K K3 "need_text"=true)
  (k4:keepIn K (.ref f4)=true)
  (a5:PySem.W.nsIn K mainGlobals "is_part"=some (some (.ref f5)))
  (l5:K.lookup f5=some ⟨oc5,od5, .func (fnOf "is_part" "is_part" (bp jL) (az jL) (au jL) .none kV5 dc5 pm5 an5 K4 ct5),sl5⟩)
  (c5:codeIn K K4 "is_part"=true)
  (k5:keepIn K (.ref f5)=true)
  (a6:PySem.W.nsIn K mainGlobals "may_follow"=some (some (.ref f6)))
  (l6:K.lookup f6=some ⟨oc6,od6, .func (fnOf "may_follow" "may_follow" (bp jM) (az jM) (au jM) .none kV6 dc6 pm6 an6 K5 ct6),sl6⟩)
  (c6:codeIn K K5 "may_follow"=true)
  (k6:keepIn K (.ref f6)=true)
  (a7:PySem.W.nsIn K mainGlobals "need_change"=some (some (.ref f7)))
  (l7:K.lookup f7=some ⟨oc7,od7, .func (fnOf "need_change" "need_change" (bp jN) (az jN) (au jN) .none kV7 dc7 pm7 an7 K6 ct7),sl7⟩)
  (c7:codeIn K K6 "need_change"=true)
  (k7:keepIn K (.ref f7)=true)
  (a8:PySem.W.nsIn K mainGlobals "part_size"=some (some (.ref f8)))
  (l8:K.lookup f8=some ⟨oc8,od8, .func (fnOf "part_size" "part_size" (bp jO) (az jO) (au jO) .none kV8 dc8 pm8 an8 K7 ct8),sl8⟩)
  (c8:codeIn K K7 "part_size"=true)
  (k8:keepIn K (.ref f8)=true)
  (a9:PySem.W.nsIn K mainGlobals "sizes"=some (some (.ref f9)))
  (l9:K.lookup f9=some ⟨oc9,od9, .func (fnOf "sizes" "sizes" (bp jP) (az jP) (au jP) .none kV9 dc9 pm9 an9 K8 ct9),sl9⟩)
  (c9:codeIn K K8 "sizes"=true)
  (k9:keepIn K (.ref f9)=true)
  (z_:PySem.W.nsIn K mainGlobals "height_of"=some (some (.ref za)))
  (Aa:K.lookup za=some ⟨aff,afc, .func (fnOf "height_of" "height_of" (bp jQ) (az jQ) (au jQ) .none afg afh afi afd K9 afj),afe⟩)
  (Ab:codeIn K K9 "height_of"=true)
  (Ac:keepIn K (.ref za)=true)
  (Ad:PySem.W.nsIn K mainGlobals "size_of"=some (some (.ref zb)))
  (Ae:K.lookup zb=some ⟨afn,afk, .func (fnOf "size_of" "size_of" (bp jR) (az jR) (au jR) .none afo afp afq afl K_ afr),afm⟩)
  (Af:codeIn K K_ "size_of"=true)
  (Ag:keepIn K (.ref zb)=true)
  (Ah:PySem.W.nsIn K mainGlobals "ends_of"=some (some (.ref zc)))
  (Ai:K.lookup zc=some ⟨afv,afs, .func (fnOf "ends_of" "ends_of" (bp jS) (az jS) (au jS) .none afw afx afy aft La afz),afu⟩)
  (Aj:codeIn K La "ends_of"=true)
  (Ak:keepIn K (.ref zc)=true)
  (Al:PySem.W.nsIn K mainGlobals "made"=some (some (.ref zd)))
  (Am:K.lookup zd=some ⟨afD,afA, .func (fnOf "made" "made" (bp jT) (az jT) (au jT) .none afE afF afG afB Lb afH),afC⟩)
  (An:codeIn K Lb "made"=true)
  (Ao:keepIn K (.ref zd)=true)
  (Ap:PySem.W.nsIn K mainGlobals "turned_right"=some (some (.ref ze)))
  (Aq:K.lookup ze=some ⟨afL,afI, .func (fnOf "turned_right" "turned_right" (bp jU) (az jU) (au jU) .none afM afN afO afJ Lc afP),afK⟩)
  (Ar:codeIn K Lc "turned_right"=true)
  (As:keepIn K (.ref ze)=true)
  (Au:PySem.W.nsIn K mainGlobals "turned_left"=some (some (.ref zf)))
  (Av:K.lookup zf=some ⟨afT,afQ, .func (fnOf "turned_left" "turned_left" (bp jV) (az jV) (au jV) .none afU afV afW afR Ld afX),afS⟩)
  (Aw:codeIn K Ld "turned_left"=true)
  (Ax:keepIn K (.ref zf)=true)
  (Ay:PySem.W.nsIn K mainGlobals "leveled"=some (some (.ref zg)))
  (Az:K.lookup zg=some ⟨af1,afY, .func (fnOf "leveled" "leveled" (bp jW) (az jW) (au jW) .none af2 af3 af4 afZ Le af5),af0⟩)
  (AA:codeIn K Le "leveled"=true)
  (AD:keepIn K (.ref zg)=true)
  (sT:PySem.W.nsIn K mainGlobals "joined"=some (some (.ref zh)))
  (AE:K.lookup zh=some ⟨af9,af6, .func (fnOf "joined" "joined" (bp jX) (az jX) (au jX) .none af_ aga agb af7 Lf agc),af8⟩)
  (AF:codeIn K Lf "joined"=true)
  (AG:keepIn K (.ref zh)=true)
  (sU:PySem.W.nsIn K mainGlobals "last_out"=some (some (.ref zi)))
  (AH:K.lookup zi=some ⟨agg,agd, .func (fnOf "last_out" "last_out" (bp jY) (az jY) (au jY) .none agh agi agj age Lg agk),agf⟩)
  (AI:codeIn K Lg "last_out"=true)
  (AJ:keepIn K (.ref zi)=true)
  (sV:PySem.W.nsIn K mainGlobals "first_out"=some (some (.ref zj)))
  (AK:K.lookup zj=some ⟨ago,agl, .func (fnOf "first_out" "first_out" (bp jZ) (az jZ) (au jZ) .none agp agq agr agm Lh ags),agn⟩)
  (AL:codeIn K Lh "first_out"=true)
  (AM:keepIn K (.ref zj)=true)
  (AN:PySem.W.nsIn K mainGlobals "sewn"=some (some (.ref zk)))
  (AO:K.lookup zk=some ⟨agw,agt, .func (fnOf "sewn" "sewn" (bp j4) (az j4) (au j4) .none agx agy agz agu Li agA),agv⟩)
  (AQ:codeIn K Li "sewn"=true)
  (AR:keepIn K (.ref zk)=true)
  (AS:PySem.W.nsIn K mainGlobals "cut_in_two"=some (some (.ref zl)))
  (AU:K.lookup zl=some ⟨agE,agB, .func (fnOf "cut_in_two" "cut_in_two" (bp j5) (az j5) (au j5) .none agF agG agH agC Lj agI),agD⟩)
  (AV:codeIn K Lj "cut_in_two"=true)
  (AW:keepIn K (.ref zl)=true)
  (sW:PySem.W.nsIn K mainGlobals "parted"=some (some (.ref zm)))
  (AX:K.lookup zm=some ⟨agM,agJ, .func (fnOf "parted" "parted" (bp j6) (az j6) (au j6) .none agN agO agP agK Lk agQ),agL⟩)
  (AY:codeIn K Lk "parted"=true)
  (AZ:keepIn K (.ref zm)=true)
  (sX:PySem.W.nsIn K mainGlobals "pieces_of"=some (some (.ref zo)))
  (A2:K.lookup zo=some ⟨agU,agR, .func (fnOf "pieces_of" "pieces_of" (bp j7) (az j7) (au j7) .none agV agW agX agS Ll agY),agT⟩)
  (A3:codeIn K Ll "pieces_of"=true)
  (A6:keepIn K (.ref zo)=true)
  (A7:PySem.W.nsIn K mainGlobals "many_upto"=some (some (.ref zp)))
  (A8:K.lookup zp=some ⟨ag2,agZ, .func (fnOf "many_upto" "many_upto" (bp j8) (az j8) (au j8) .none ag3 ag4 ag5 ag0 Lm ag6),ag1⟩)
  (A9:codeIn K Lm "many_upto"=true)
  (A_:keepIn K (.ref zp)=true)
  (Ba:findIn K (.ref a_) "__init__"=some (some (.ref sv)))
  (Bb:isFn K (.ref sv)=true)
  (Bc:K.lookup sv=some ⟨ag_,ag7, .func (fnOf "__init__" "Stock.__init__" (bp j9) (az j9) (au j9) .none aha ahb ahc ag8 Ln ahd),ag9⟩)
  (Bd:codeIn K Ln "Stock.__init__"=true)
  (Be:keepIn K (.ref sv)=true)
  (Bf:findIn K (.ref a_) "put"=some (some (.ref sx)))
  (Bg:isFn K (.ref sx)=true)
  (Bh:K.lookup sx=some ⟨ahh,ahe, .func (fnOf "put" "Stock.put" (bp j_) (az j_) (au j_) .none ahi ahj ahk ahf Lo ahl),ahg⟩)
  (Bi:codeIn K Lo "Stock.put"=true)
  (sY:keepIn K (.ref sx)=true)
  (Bj:findIn K (.ref a_) "read"=some (some (.ref sy)))
  (Bk:isFn K (.ref sy)=true)
  (Bl:K.lookup sy=some ⟨ahp,ahm, .func (fnOf "read" "Stock.read" (bp kc) (az kc) (au kc) .none ahq ahr ahs ahn Lp aht),aho⟩)
  (Bm:codeIn K Lp "Stock.read"=true)
  (sZ:keepIn K (.ref sy)=true)
  (Bn:findIn K (.ref a_) "ends_ahead"=some (some (.ref sA)))
  (Bo:isFn K (.ref sA)=true)
  (Bp:K.lookup sA=some ⟨ahx,ahu, .func (fnOf "ends_ahead" "Stock.ends_ahead" (bp kd) (az kd) (au kd) .none ahy ahz ahA ahv Lq ahB),ahw⟩)
  (Bq:codeIn K Lq "Stock.ends_ahead"=true)
  (s_:keepIn K (.ref sA)=true)
  (Br:PySem.W.nsIn K mainGlobals "node_put"=some (some (.ref zq)))
  (Bs:K.lookup zq=some ⟨ahF,ahC, .func (fnOf "node_put" "node_put" (bp ke) (az ke) (au ke) .none ahG ahH ahI ahD Lr ahJ),ahE⟩)
  (Bt:codeIn K Lr "node_put"=true)
  (Bu:keepIn K (.ref zq)=true)
  (Bv:PySem.W.nsIn K mainGlobals "paper_of"=some (some (.ref zr)))
  (Bw:K.lookup zr=some ⟨ahN,ahK, .func (fnOf "paper_of" "paper_of" (bp kf) (az kf) (au kf) .none ahO ahP ahQ ahL Ls ahR),ahM⟩)
  (Bx:codeIn K Ls "paper_of"=true)
  (By:keepIn K (.ref zr)=true)
  (Bz:PySem.W.nsIn K mainGlobals "need_fit"=some (some (.ref zt)))
  (BA:K.lookup zt=some ⟨ahV,ahS, .func (fnOf "need_fit" "need_fit" (bp ki) (az ki) (au ki) .none ahW ahX ahY ahT Lu ahZ),ahU⟩)
  (BB:codeIn K Lu "need_fit"=true)
  (BC:keepIn K (.ref zt)=true)
  (BD:PySem.W.nsIn K mainGlobals "texts_of"=some (some (.ref zu)))
  (BE:K.lookup zu=some ⟨ah3,ah0, .func (fnOf "texts_of" "texts_of" (bp kj) (az kj) (au kj) .none ah4 ah5 ah6 ah1 Lv ah7),ah2⟩)
  (BF:codeIn K Lv "texts_of"=true)
  (BG:keepIn K (.ref zu)=true)
  (BH:findIn K (.ref aR) "__init__"=some (some (.ref sD)))
  (BI:isFn K (.ref sD)=true)
  (BJ:K.lookup sD=some ⟨aia,ah8, .func (fnOf "__init__" "Paper.__init__" (bp km) (az km) (au km) .none aib aic aid ah9 Lw aie),ah_⟩)
  (BK:codeIn K Lw "Paper.__init__"=true)
  (BL:keepIn K (.ref sD)=true)
  (BM:findIn K (.ref aR) "size"=some (some (.ref sE)))
  (BN:isFn K (.ref sE)=true)
  (BO:K.lookup sE=some ⟨aij,aif, .func (fnOf "size" "Paper.size" (bp ko) (az ko) (au ko) .none aik ail aim aih Lx ain),aii⟩)
  (BP:codeIn K Lx "Paper.size"=true)
  (tm:keepIn K (.ref sE)=true)
  (BQ:findIn K (.ref aR) "lines"=some (some (.ref sG)))
  (BR:isFn K (.ref sG)=true)
  (BS:K.lookup sG=some ⟨air,aio, .func (fnOf "lines" "Paper.lines" (bp kq) (az kq) (au kq) .none ais ait aiu aip Ly aiv),aiq⟩)
  (BU:codeIn K Ly "Paper.lines"=true)
  (tq:keepIn K (.ref sG)=true)
  (BV:findIn K (.ref aR) "text"=some (some (.ref sH)))
  (BW:isFn K (.ref sH)=true)
  (BX:K.lookup sH=some ⟨aiz,aiw, .func (fnOf "text" "Paper.text" (bp kr) (az kr) (au kr) .none aiA aiB aiC aix Lz aiD),aiy⟩)
  (BY:codeIn K Lz "Paper.text"=true)
  (tw:keepIn K (.ref sH)=true)
  (BZ:findIn K (.ref aR) "pieces"=some (some (.ref sI)))
  (B_:isFn K (.ref sI)=true)
  (Ca:K.lookup sI=some ⟨aiH,aiE, .func (fnOf "pieces" "Paper.pieces" (bp ku) (az ku) (au ku) .none aiI aiJ aiK aiF LA aiL),aiG⟩)
  (Cb:codeIn K LA "Paper.pieces"=true)
  (tD:keepIn K (.ref sI)=true)
  (Cc:findIn K (.ref aR) "height"=some (some (.ref sJ)))
  (Cd:isFn K (.ref sJ)=true)
  (Ce:K.lookup sJ=some ⟨aiP,aiM, .func (fnOf "height" "Paper.height" (bp kx) (az kx) (au kx) .none aiQ aiR aiS aiN LB aiT),aiO⟩)
  (Cf:codeIn K LB "Paper.height"=true)
  (tE:keepIn K (.ref sJ)=true)
  (Cg:findIn K (.ref aR) "part"=some (some (.ref sL)))
  (Ci:isFn K (.ref sL)=true)
  (Cj:K.lookup sL=some ⟨aiX,aiU, .func (fnOf "part" "Paper.part" (bp ky) (az ky) (au ky) .none aiY aiZ ai0 aiV LC ai1),aiW⟩)
  (Ck:codeIn K LC "Paper.part"=true)
  (tF:keepIn K (.ref sL)=true)
  (Cm:findIn K (.ref aR) "changed"=some (some (.ref sM)))
  (Cn:isFn K (.ref sM)=true)
  (Co:K.lookup sM=some ⟨ai5,ai2, .func (fnOf "changed" "Paper.changed" (bp kz) (az kz) (au kz) .none ai6 ai7 ai8 ai3 LD ai9),ai4⟩)
  (Cp:codeIn K LD "Paper.changed"=true)
  (tG:keepIn K (.ref sM)=true)
  (Cq:PySem.W.nsIn K mainGlobals "_law_cell_at"=some (some (.ref zv)))
  (Cr:K.lookup zv=some ⟨ajc,ai_, .func (fnOf "_law_cell_at" "_law_cell_at" (bp kA) (az kA) (au kA) .none ajd aje ajf aja LF ajg),ajb⟩)
  (Cs:codeIn K LF "_law_cell_at"=true)
  (Ct:keepIn K (.ref zv)=true)
  (Cu:PySem.W.nsIn K mainGlobals "_law_whole"=some (some (.ref zw)))
  (Cv:K.lookup zw=some ⟨ajk,ajh, .func (fnOf "_law_whole" "_law_whole" (bp kD) (az kD) (au kD) .none ajl ajm ajn aji LG ajo),ajj⟩)
  (Cw:codeIn K LG "_law_whole"=true)
  (Cy:keepIn K (.ref zw)=true)
  (Cz:PySem.W.nsIn K mainGlobals "_law_mixed"=some (some (.ref zx)))
  (CA:K.lookup zx=some ⟨ajs,ajp, .func (fnOf "_law_mixed" "_law_mixed" (bp kE) (az kE) (au kE) .none ajt aju ajv ajq LH ajw),ajr⟩)
  (CC:codeIn K LH "_law_mixed"=true)
  (CD:keepIn K (.ref zx)=true)
  (CG:PySem.W.nsIn K mainGlobals "_law_text_by"=some (some (.ref zy)))
  (CH:K.lookup zy=some ⟨ajA,ajx, .func (fnOf "_law_text_by" "_law_text_by" (bp kH) (az kH) (au kH) .none ajB ajC ajD ajy LJ ajE),ajz⟩)
  (CI:codeIn K LJ "_law_text_by"=true)
  (CJ:keepIn K (.ref zy)=true)
  (CK:PySem.W.nsIn K mainGlobals "_law_neat"=some (some (.ref zz)))
  (CL:K.lookup zz=some ⟨ajI,ajF, .func (fnOf "_law_neat" "_law_neat" (bp kI) (az kI) (au kI) .none ajJ ajK ajL ajG LK ajM),ajH⟩)
  (CM:codeIn K LK "_law_neat"=true)
  (CN:keepIn K (.ref zz)=true)
  (CO:PySem.W.nsIn K mainGlobals "_law_change_by"=some (some (.ref zA)))
  (CQ:K.lookup zA=some ⟨ajQ,ajN, .func (fnOf "_law_change_by" "_law_change_by" (bp cu) (az cu) (au cu) .none ajR ajS ajT ajO LL ajU),ajP⟩)
  (CS:codeIn K LL "_law_change_by"=true)
  (CU:keepIn K (.ref zA)=true)
  (CV:PySem.W.nsIn K mainGlobals "_law_done"=some (some (.ref zB)))
  (CW:K.lookup zB=some ⟨ajY,ajV, .func (fnOf "_law_done" "_law_done" (bp kJ) (az kJ) (au kJ) .none ajZ aj0 aj1 ajW LM aj2),ajX⟩)
  (CY:codeIn K LM "_law_done"=true)
  (CZ:keepIn K (.ref zB)=true)
  (C0:PySem.W.nsIn K mainGlobals "_law_told"=some (some (.ref zC)))
  (C1:K.lookup zC=some ⟨aj6,aj3, .func (fnOf "_law_told" "_law_told" (bp kN) (az kN) (au kN) .none aj7 aj8 aj9 aj4 LN aj_),aj5⟩)
  (C2:codeIn K LN "_law_told"=true)
  (C3:keepIn K (.ref zC)=true)
  (C4:PySem.W.nsIn K mainGlobals "law"=some (some (.ref zD)))
  (C5:K.lookup zD=some ⟨akc,aka, .func (fnOf "law" "law" (bp bU) (az bU) (au bU) .none LP LQ LR LO zE LS),akb⟩)
  (C6:codeIn K zE "law"=true)
  (C7:keepIn K (.ref zD)=true)
  (C8:PySem.W.nsIn K mainGlobals "SIGNS"=some (some (Value.str SG akd)))
  (C9:PySem.W.nsIn K mainGlobals "bool"=some none)
  (C_:PySem.W.nsIn K mainGlobals "enumerate"=some none)
  (Dc:PySem.W.nsIn K mainGlobals "int"=some none)
  (Dd:PySem.W.nsIn K mainGlobals "isinstance"=some none)
  (De:PySem.W.nsIn K mainGlobals "len"=some none)
  (Df:PySem.W.nsIn K mainGlobals "list"=some none)
  (Dg:PySem.W.nsIn K mainGlobals "max"=some none)
  (Dh:PySem.W.nsIn K mainGlobals "min"=some none)
  (Di:PySem.W.nsIn K mainGlobals "range"=some none)
  (Dj:PySem.W.nsIn K mainGlobals "str"=some none)
  (Dk:PySem.W.nsIn K mainGlobals "sum"=some none)
  (Dl:PySem.W.nsIn K mainGlobals "tuple"=some none)
  : ∃fd:FuncData,(∀(s:Shared) (v:Value),BindsTo s fd ⟨[v],[]⟩ [("_law_script",v)])∧ ∀base:Heap,K.In base→base.Ns mainGlobals mg→cn l.prog w K mg base qe 106 fa fd ["_law_script"] (fun vs H Q _=> (sr K) vs H Q E0):=by
 have e:=hfa.symm.trans (PySem.W.mg_of X G C4)
 cases e
 have y_bool:mg "bool"=none:=mg_none_of X G C9
 have ake:mg "enumerate"=none:=mg_none_of X G C_
 have Dm:mg "int"=none:=mg_none_of X G Dc
 have i5:mg "isinstance"=none:=mg_none_of X G Dd
 have eV:mg "len"=none:=mg_none_of X G De
 have Dp:mg "list"=none:=mg_none_of X G Df
 have akf:mg "max"=none:=mg_none_of X G Dg
 have akg:mg "min"=none:=mg_none_of X G Dh
 have LU:mg "range"=none:=mg_none_of X G Di
 have LV:mg "str"=none:=mg_none_of X G Dj
 have akh:mg "sum"=none:=mg_none_of X G Dk
 have aki:mg "tuple"=none:=mg_none_of X G Dl
 have akj:jx mg ("SIGNS", .str SG):=⟨_,PySem.W.mg_of X G C8,⟨_,rfl⟩⟩
 have amk:jx mg ("BadText", .ref gm):=⟨_,PySem.W.mg_of X G sO,rfl⟩
 have aml:jx mg ("BadChange", .ref pq):=⟨_,PySem.W.mg_of X G sQ,rfl⟩
 have amm:jx mg ("BadFit", .ref pw):=⟨_,PySem.W.mg_of X G sR,rfl⟩
 have amn:jx mg ("NoPlace", .ref i0):=⟨_,PySem.W.mg_of X G sS,rfl⟩
 have akk:jx mg ("Paper", .ref aR):=⟨_,PySem.W.mg_of X G sN,rfl⟩
 have lQ:ou K a_:=⟨⟨zG,zH,zI,zJ⟩,zM,zN,zO,zP⟩
 have dt:fi K aR:=⟨⟨zQ,zR,zS,zT⟩,zW,zX⟩
 have akl:qZ K aR:=⟨dt.cl,z7,e5,e6,z8,z9⟩
 refine⟨fnOf "law" "law" (bp bU) (az bU) (au bU) .none LP LQ LR LO zE LS,fun s v=> .of_eq rfl,fun base X2 G2=> ?_⟩
 have akm:mD mg base ("BadText",gm):=rE X2 G2 sO zY
 have akn:mD mg base ("BadChange",pq):=rE X2 G2 sQ zZ
 have ako:mD mg base ("BadFit",pw):=rE X2 G2 sR z5
 have LW:mD mg base ("NoPlace",i0):=rE X2 G2 sS z6
 have F0:=bz (st:=jG) l0 c0 k0
 have B0:=F0.binds (ps:=G4) fun _ _ _ _ _ _ us hl=>match us,hl with | [_],_=>rfl
 have T0:bA l.prog w K mg base 1 "is_whole" (kW):=⟨_,_,_,(bB (k:=0) F0 Yk [] [] G5 [] [] [] [] vW Yl ae ae (aA i5 (aA Dm (aA y_bool ae))) [] ae ae ae ae ae (by rintro vs H Q E ⟨_,rfl,_⟩;rfl) aaO),PySem.W.mg_of X G a0,F0.kp,B0⟩
 have F1:=bz (st:=jH) l1 c1 k1
 have B1:=F1.binds (ps:=Ho) fun _ _ _ _ _ _ us hl=>match us,hl with | [_,_,_],_=>rfl
 have T1:bA l.prog w K mg base 2 "is_between" (eA):=⟨_,_,_,(bB (k:=1) F1 Ym [("is_whole",kW)] [] Hq [] [] [] [] wk Yn (aA (T0.mono (by omega)) ae) ae ae [] ae ae ae ae ae (by rintro vs H Q E ⟨_,_,_,rfl,_⟩;rfl) aa1),PySem.W.mg_of X G a1,F1.kp,B1⟩
 have F2:=bz (st:=jI) l2 c2 k2
 have B2:=F2.binds (ps:=G6) fun _ _ _ _ _ _ us hl=>match us,hl with | [_,_],_=>rfl
 have T2:bA l.prog w K mg base 1 "is_word" (rB K):=⟨_,_,_,(bB (k:=0) F2 Yo [] [] G7 [] [] [] [] qR Yp ae ae (aA i5 (aA LV ae)) [] ae ae ae ae ae (by rintro vs H Q E ⟨_,_,_,rfl,_⟩;rfl) aaS),PySem.W.mg_of X G a2,F2.kp,B2⟩
 have F3:=bz (st:=jJ) l3 c3 k3
 have B3:=F3.binds (ps:=G8) fun _ _ _ _ _ _ us hl=>match us,hl with | [_],_=>rfl
 have T3:bA l.prog w K mg base 1 "is_text" (mK):=⟨_,_,_,(bB (k:=0) F3 Yq [] [("SIGNS", .str SG)] G9 [] [] [] [] qT Yr ae (aA akj ae) (aA i5 (aA LV ae)) [] ae ae ae ae ae (by rintro vs H Q E ⟨_,rfl,_⟩;rfl) aaP),PySem.W.mg_of X G a3,F3.kp,B3⟩
 have F4:=bz (st:=jK) l4 c4 k4
 have B4:=F4.binds (ps:=G_) fun _ _ _ _ _ _ us hl=>match us,hl with | [_],_=>rfl
 have T4:bA l.prog w K mg base 2 "need_text" (kY gm):=⟨_,_,_,(bB (k:=1) F4 Ys [("is_text",mK)] [] Ha [] [] [("BadText",gm)] [] vY Yt (aA (T3.mono (by omega)) ae) ae ae [] ae ae ae (aA akm ae) ae (by rintro vs H Q E ⟨_,rfl,_⟩;rfl) aaR),PySem.W.mg_of X G a4,F4.kp,B4⟩
 have F5:=bz (st:=jL) l5 c5 k5
 have B5:=F5.binds (ps:=Hb) fun _ _ _ _ _ _ us hl=>match us,hl with | [_],_=>rfl
 have T5:bA l.prog w K mg base 2 "is_part" (yh):=⟨_,_,_,(bB (k:=1) F5 Yu [("is_word",rB K),("is_whole",kW),("is_text",mK)] [] Hc [] [] [] [] oo Yv (aA (T2.mono (by omega)) (aA (T0.mono (by omega)) (aA (T3.mono (by omega)) ae))) ae (aA i5 (aA aki (aA eV ae))) [] ae ae ae ae ae (by rintro vs H Q E ⟨_,rfl,_⟩;rfl) aaU),PySem.W.mg_of X G a5,F5.kp,B5⟩
 have F6:=bz (st:=jM) l6 c6 k6
 have B6:=F6.binds (ps:=He) fun _ _ _ _ _ _ us hl=>match us,hl with | [_,_],_=>rfl
 have T6:bA l.prog w K mg base 1 "may_follow" (rg):=⟨_,_,_,(bB (k:=0) F6 Yw [] [] Hf [] [] [] [] v7 Yx ae ae ae [] ae ae ae ae ae (by rintro vs H Q E ⟨_,_,rfl,_⟩;rfl) aan),PySem.W.mg_of X G a6,F6.kp,B6⟩
 have F7:=bz (st:=jN) l7 c7 k7
 have B7:=F7.binds (ps:=Hg) fun _ _ _ _ _ _ us hl=>match us,hl with | [_],_=>rfl
 have T7:bA l.prog w K mg base 3 "need_change" (rj):=⟨_,_,_,(bB (k:=2) F7 Yy [("is_part",yc),("may_follow",rg)] [] Hh [] [] [("BadChange",pq)] [] v9 Yz (aA ((T5.weak fun _ _ _ _ h=>aaW h).mono (by omega)) (aA (T6.mono (by omega)) ae)) ae (aA i5 (aA Dp ae)) [] ae ae ae (aA akn ae) ae (by rintro vs H Q E ⟨_,_,_,rfl,_⟩;rfl) aaw),PySem.W.mg_of X G a7,F7.kp,B7⟩
 have F8:=bz (st:=jO) l8 c8 k8
 have B8:=F8.binds (ps:=Hi) fun _ _ _ _ _ _ us hl=>match us,hl with | [_],_=>rfl
 have T8:bA l.prog w K mg base 1 "part_size" (eM):=⟨_,_,_,(bB (k:=0) F8 YA [] [] Hj [] [] [] [] wa YB ae ae (aA eV ae) [] ae ae ae ae ae (by rintro vs H Q E ⟨_,_,rfl,_⟩;rfl) aao),PySem.W.mg_of X G a8,F8.kp,B8⟩
 have F9:=bz (st:=jP) l9 c9 k9
 have B9:=F9.binds (ps:=Hk) fun _ _ _ _ _ _ us hl=>match us,hl with | [_],_=>rfl
 have T9:bA l.prog w K mg base 4 "sizes" (oE):=⟨_,_,_,(bB (k:=3) F9 YC [("need_change",rj),("part_size",eM)] [] Hl [] [] [] [] wc YD (aA (T7.mono (by omega)) (aA (T8.mono (by omega)) ae)) ae (aA akh ae) [] ae ae ae ae ae (by rintro vs H Q E ⟨_,_,_,rfl,_⟩;rfl) aaz),PySem.W.mg_of X G a9,F9.kp,B9⟩
 have Dq:=bz (st:=jQ) Aa Ab Ac
 have B10:=Dq.binds (ps:=HB) fun _ _ _ _ _ _ us hl=>match us,hl with | [_],_=>rfl
 have m8:bA l.prog w K mg base 1 "height_of" (N.d0):=⟨_,_,_,(bB (k:=0) Dq YE [] [] HC [] [] [] [] wC YF ae ae ae [] ae ae ae ae ae (by rintro vs H Q E ⟨_,_,rfl,_⟩;rfl) N.abu),PySem.W.mg_of X G z_,Dq.kp,B10⟩
 have Dr:=bz (st:=jR) Ae Af Ag
 have B11:=Dr.binds (ps:=HD) fun _ _ _ _ _ _ us hl=>match us,hl with | [_],_=>rfl
 have Ds:bA l.prog w K mg base 1 "size_of" (N.g4):=⟨_,_,_,(bB (k:=0) Dr YG [] [] HE [] [] [] [] wF YH ae ae ae [] ae ae ae ae ae (by rintro vs H Q E ⟨_,_,rfl,_⟩;rfl) N.abv),PySem.W.mg_of X G Ad,Dr.kp,B11⟩
 have Dt:=bz (st:=jS) Ai Aj Ak
 have B12:=Dt.binds (ps:=HF) fun _ _ _ _ _ _ us hl=>match us,hl with | [_],_=>rfl
 have LX:bA l.prog w K mg base 1 "ends_of" (N.lg):=⟨_,_,_,(bB (k:=0) Dt YI [] [] HG [] [] [] [] wH YJ ae ae ae [] ae ae ae ae ae (by rintro vs H Q E ⟨_,_,rfl,_⟩;rfl) N.abw),PySem.W.mg_of X G Ah,Dt.kp,B12⟩
 have Du:=bz (st:=jT) Am An Ao
 have B13:=Du.binds (ps:=HH) fun _ _ _ _ _ _ us hl=>match us,hl with | [_,_,_],_=>rfl
 have tH:bA l.prog w K mg base 2 "made" (N.g5):=⟨_,_,_,(bB (k:=1) Du YK [("height_of",N.d0),("size_of",N.g4),("ends_of",N.lg)] [] HI [] [] [] [] wJ YL (aA (m8.mono (by omega)) (aA (Ds.mono (by omega)) (aA (LX.mono (by omega)) ae))) ae (aA akf ae) [] ae ae ae ae ae (by rintro vs H Q E ⟨_,_,_,_,_,_,_,_,rfl,_⟩;rfl) N.aby),PySem.W.mg_of X G Al,Du.kp,B13⟩
 have Dv:=bz (st:=jU) Aq Ar As
 have B14:=Dv.binds (ps:=HJ) fun _ _ _ _ _ _ us hl=>match us,hl with | [_,_,_],_=>rfl
 have T14:bA l.prog w K mg base 3 "turned_right" (N.rK):=⟨_,_,_,(bB (k:=2) Dv YM [("height_of",N.d0),("made",N.g5)] [] HK [] [] [] [] wL YN (aA (m8.mono (by omega)) (aA (tH.mono (by omega)) ae)) ae ae [] ae ae ae ae ae (by rintro vs H Q E ⟨_,_,_,_,_,_,_,_,rfl,_⟩;rfl) N.abz),PySem.W.mg_of X G Ap,Dv.kp,B14⟩
 have Dw:=bz (st:=jV) Av Aw Ax
 have B15:=Dw.binds (ps:=HL) fun _ _ _ _ _ _ us hl=>match us,hl with | [_,_,_],_=>rfl
 have T15:bA l.prog w K mg base 3 "turned_left" (N.rL):=⟨_,_,_,(bB (k:=2) Dw YO [("height_of",N.d0),("made",N.g5)] [] HM [] [] [] [] wN YQ (aA (m8.mono (by omega)) (aA (tH.mono (by omega)) ae)) ae ae [] ae ae ae ae ae (by rintro vs H Q E ⟨_,_,_,_,_,_,_,_,rfl,_⟩;rfl) N.abA),PySem.W.mg_of X G Au,Dw.kp,B15⟩
 have Dx:=bz (st:=jW) Az AA AD
 have B16:=Dx.binds (ps:=HN) fun _ _ _ _ _ _ us hl=>match us,hl with | [_,_,_],_=>rfl
 have T16:bA l.prog w K mg base 4 "leveled" (N.rN):=⟨_,_,_,(bB (k:=3) Dx YR [("height_of",N.d0),("turned_right",N.rK),("turned_left",N.rL),("made",N.g5)] [] HP [] [] [] [] wQ YS (aA (m8.mono (by omega)) (aA (T14.mono (by omega)) (aA (T15.mono (by omega)) (aA (tH.mono (by omega)) ae)))) ae ae [] ae ae ae ae ae (by rintro vs H Q E ⟨_,_,_,_,_,_,_,_,rfl,_⟩;rfl) N.abC),PySem.W.mg_of X G Ay,Dx.kp,B16⟩
 have tI:=bz (st:=jX) AE AF AG
 have LY:=tI.binds (ps:=HQ) fun _ _ _ _ _ _ us hl=>match us,hl with | [_,_,_],_=>rfl
 have R17: ∀n,bA l.prog w K mg base (4+n+1) "joined" (N.da n):=by
  intro n
  induction n with
  | zero=>exact oj tI IX (PySem.W.mg_of X G sT) LY N.abE
  | succ n ih=>exact⟨_,_,_,(bB (k:=4+n+1) tI IX [("height_of",N.d0),("leveled",N.rN),("joined",N.da n),("made",N.g5)] [] HR [] [] [] [] wU YT (aA (m8.mono (by omega)) (aA (T16.mono (by omega)) (aA ih (aA (tH.mono (by omega)) ae)))) ae ae [] ae ae ae ae ae (by rintro vs H Q E ⟨_,_,_,_,_,_,_,_,rfl,_⟩;rfl) (N.abG n)),PySem.W.mg_of X G sT,tI.kp,LY⟩
 have pA:bA l.prog w K mg base 69 "joined" (N.da 64):=R17 64
 have tJ:=bz (st:=jY) AH AI AJ
 have LZ:=tJ.binds (ps:=HS) fun _ _ _ _ _ _ us hl=>match us,hl with | [_],_=>rfl
 have R18: ∀n,bA l.prog w K mg base (69+n+1) "last_out" (N.iQ n):=by
  intro n
  induction n with
  | zero=>exact oj tJ IY (PySem.W.mg_of X G sU) LZ N.abH
  | succ n ih=>exact⟨_,_,_,(bB (k:=69+n+1) tJ IY [("last_out",N.iQ n),("joined",N.da 64)] [] HU [] [] [] [] wW YU (aA ih (aA (pA.mono (by omega)) ae)) ae ae [] ae ae ae ae ae (by rintro vs H Q E ⟨_,_,_,_,_,_,rfl,_⟩;rfl) (N.abJ n)),PySem.W.mg_of X G sU,tJ.kp,LZ⟩
 have T18:bA l.prog w K mg base 102 "last_out" (N.iQ 32):=R18 32
 have tK:=bz (st:=jZ) AK AL AM
 have L0:=tK.binds (ps:=HV) fun _ _ _ _ _ _ us hl=>match us,hl with | [_],_=>rfl
 have R19: ∀n,bA l.prog w K mg base (69+n+1) "first_out" (N.iU n):=by
  intro n
  induction n with
  | zero=>exact oj tK IZ (PySem.W.mg_of X G sV) L0 N.ab0
  | succ n ih=>exact⟨_,_,_,(bB (k:=69+n+1) tK IZ [("first_out",N.iU n),("joined",N.da 64)] [] HW [] [] [] [] wY YV (aA ih (aA (pA.mono (by omega)) ae)) ae ae [] ae ae ae ae ae (by rintro vs H Q E ⟨_,_,_,_,_,_,rfl,_⟩;rfl) (N.ab2 n)),PySem.W.mg_of X G sV,tK.kp,L0⟩
 have T19:bA l.prog w K mg base 102 "first_out" (N.iU 32):=R19 32
 have Dy:=bz (st:=j4) AO AQ AR
 have B20:=Dy.binds (ps:=HX) fun _ _ _ _ _ _ us hl=>match us,hl with | [_,_],_=>rfl
 have T20:bA l.prog w K mg base 103 "sewn" (N.mU):=⟨_,_,_,(bB (k:=102) Dy YW [("last_out",N.iQ 32),("first_out",N.iU 32),("joined",N.da 64)] [] HY [] [] [] [] w4 YX (aA (T18.mono (by omega)) (aA (T19.mono (by omega)) (aA (pA.mono (by omega)) ae))) ae ae [] ae ae ae ae ae (by rintro vs H Q E ⟨_,_,_,_,_,rfl,_⟩;rfl) N.ab4),PySem.W.mg_of X G AN,Dy.kp,B20⟩
 have Dz:=bz (st:=j8) A8 A9 A_
 have B24:=Dz.binds (ps:=Hs) fun _ _ _ _ _ _ us hl=>match us,hl with | [_,_],_=>rfl
 have L1:bA l.prog w K mg base 1 "many_upto" (kT):=⟨_,_,_,(bB (k:=0) Dz Y2 [] [] Ht [] [] [] [] wq Y3 ae ae (aA eV ae) [] ae ae ae ae ae (by rintro vs H Q E ⟨_,_,_,rfl,_⟩;rfl) aaJ),PySem.W.mg_of X G A7,Dz.kp,B24⟩
 have L3:=bz (st:=kd) Bp Bq s_
 have B28:=L3.binds (ps:=Ig) fun _ _ _ _ _ _ us hl=>match us,hl with | [_,_],_=>rfl
 have T28:dX l.prog w K mg base 2 ("ends_ahead",a_,N.rO a_):=⟨lQ.cl,_,_,_,⟨Bn,Bo,s_⟩,(bB (k:=1) L3 Y_ [("many_upto",kT)] [] Ih [] [] [] [] xg Za (aA (L1.mono (by omega)) ae) ae ae [] ae ae ae ae ae (by rintro vs H Q E ⟨_,_,_,_,_,_,_,rfl,_⟩;rfl) (N.abQ lQ)),B28⟩
 have DA:=bz (st:=j5) AU AV AW
 have B21:=DA.binds (ps:=HZ) fun _ _ _ _ _ _ us hl=>match us,hl with | [_,_,_],_=>rfl
 have T21:bA l.prog w K mg base 3 "cut_in_two" (N.rP a_):=⟨_,_,_,(bB (k:=2) DA YY [] [] H_ [("ends_ahead",a_,N.rO a_)] [] [] [] w6 YZ ae ae ae [] ae (aA (T28.mono (by omega)) ae) ae ae ae (by rintro vs H Q E ⟨_,_,_,_,_,_,_,_,_,_,_,rfl,_⟩;rfl) N.abS),PySem.W.mg_of X G AS,DA.kp,B21⟩
 have tL:=bz (st:=j6) AX AY AZ
 have L4:=tL.binds (ps:=Ia) fun _ _ _ _ _ _ us hl=>match us,hl with | [_,_,_],_=>rfl
 have R22: ∀n,bA l.prog w K mg base (69+n+1) "parted" (N.d5 a_ n):=by
  intro n
  induction n with
  | zero=>exact oj tL I0 (PySem.W.mg_of X G sW) L4 (N.abT a_)
  | succ n ih=>exact⟨_,_,_,(bB (k:=69+n+1) tL I0 [("size_of",N.g4),("parted",N.d5 a_ n),("joined",N.da 64),("cut_in_two",N.rP a_)] [] Ib [] [] [] [] w_ Y0 (aA (Ds.mono (by omega)) (aA ih (aA (pA.mono (by omega)) (aA (T21.mono (by omega)) ae)))) ae ae [] ae ae ae ae ae (by rintro vs H Q E ⟨_,_,_,_,_,_,_,_,_,rfl,_⟩;rfl) (N.abV n)),PySem.W.mg_of X G sW,tL.kp,L4⟩
 have L5:bA l.prog w K mg base 102 "parted" (N.d5 a_ 32):=R22 32
 have tM:=bz (st:=j7) A2 A3 A6
 have L6:=tM.binds (ps:=Ic) fun _ _ _ _ _ _ us hl=>match us,hl with | [_],_=>rfl
 have R23: ∀n,bA l.prog w K mg base (0+n+1) "pieces_of" (N.g6 n):=by
  intro n
  induction n with
  | zero=>exact oj tM I_ (PySem.W.mg_of X G sX) L6 N.abL
  | succ n ih=>exact⟨_,_,_,(bB (k:=0+n+1) tM I_ [("pieces_of",N.g6 n)] [] Ie [] [] [] [] xb Y1 (aA ih ae) ae ae [] ae ae ae ae ae (by rintro vs H Q E ⟨_,_,rfl,_⟩;rfl) (N.abM n)),PySem.W.mg_of X G sX,tM.kp,L6⟩
 have T23:bA l.prog w K mg base 33 "pieces_of" (N.g6 32):=R23 32
 have L7:=bz (st:=j9) Bc Bd Be
 have B25:=L7.binds (ps:=Hu) fun _ _ _ _ _ _ us hl=>match us,hl with | [_],_=>rfl
 have T25:mB l.prog w K mg base 2 ("Stock",a_,oJ a_):=⟨0+1,_,_,_,Nat.le_refl _,⟨zK,Ba,Bb,zL⟩,(bB (k:=0) L7 Y4 [] [] Hv [] [] [] [] wu Y5 ae ae ae [] ae ae ae ae ae (by rintro vs H Q E ⟨_,_,rfl,_⟩;rfl) (aa4 lQ)),PySem.W.mg_of X G zF,B25⟩
 have L8:=bz (st:=j_) Bh Bi sY
 have B26:=L8.binds (ps:=Hw) fun _ _ _ _ _ _ us hl=>match us,hl with | [_,_],_=>rfl
 have T26:dX l.prog w K mg base 3 ("put",a_,oM gm a_):=⟨lQ.cl,_,_,_,⟨Bf,Bg,sY⟩,(bB (k:=2) L8 Y6 [("need_text",kY gm)] [] Hx [] [] [] [] wx Y7 (aA (T4.mono (by omega)) ae) ae (aA eV ae) [] ae ae ae ae ae (by rintro vs H Q E ⟨_,_,_,_,_,_,_,rfl,_⟩;rfl) (aa6 lQ)),B26⟩
 have L9:=bz (st:=kc) Bl Bm sZ
 have B27:=L9.binds (ps:=Hy) fun _ _ _ _ _ _ us hl=>match us,hl with | [_,_,_],_=>rfl
 have T27:dX l.prog w K mg base 3 ("read",a_,oP i0 a_):=⟨lQ.cl,_,_,_,⟨Bj,Bk,sZ⟩,(bB (k:=2) L9 Y8 [("is_between",eA),("many_upto",kT)] [] Hz [] [] [("NoPlace",i0)] [] wz Y9 (aA (T1.mono (by omega)) (aA (L1.mono (by omega)) ae)) ae (aA eV ae) [] ae ae ae (aA LW ae) ae (by rintro vs H Q E ⟨_,_,_,_,_,_,_,_,rfl,_⟩;rfl) (abn lQ)),B27⟩
 have DB:=bz (st:=ke) Bs Bt Bu
 have B29:=DB.binds (ps:=Ii) fun _ _ _ _ _ _ us hl=>match us,hl with | [_,_],_=>rfl
 have L_:bA l.prog w K mg base 70 "node_put" (N.iV a_):=⟨_,_,_,(bB (k:=69) DB Zb [("joined",N.da 64)] [] Ij [("put",a_,oM gm a_)] [] [] [] xi Zc (aA (pA.mono (by omega)) ae) ae (aA eV ae) [] ae (aA (T26.mono (by omega)) ae) ae ae ae (by rintro vs H Q E ⟨_,_,_,_,_,_,_,rfl,_⟩;rfl) N.acb),PySem.W.mg_of X G Br,DB.kp,B29⟩
 have Ma:=bz (st:=km) BJ BK BL
 have B33:=Ma.binds (ps:=Ir) fun _ _ _ _ _ _ us hl=>match us,hl with | [_,_,_],_=>rfl
 have Mb:mB l.prog w K mg base 2 ("Paper",aR,N.gi aR):=⟨0+1,_,_,_,Nat.le_refl _,⟨zU,BH,BI,zV⟩,(bB (k:=0) Ma Zj [] [] Iu [] [] [] [] xr Zk ae ae ae [] ae ae ae ae ae (by rintro vs H Q E ⟨_,_,_,_,rfl,_⟩;rfl) (N.aci dt)),PySem.W.mg_of X G sN,B33⟩
 have DC:=bz (st:=kf) Bw Bx By
 have B30:=DC.binds (ps:=Ik) fun _ _ _ _ _ _ us hl=>match us,hl with | [_],_=>rfl
 have T30:bA l.prog w K mg base 71 "paper_of" (N.o6 aR a_):=⟨_,_,_,(bB (k:=70) DC Zd [("need_text",kY gm),("node_put",N.iV a_)] [] Il [] [("Stock",a_,oJ a_),("Paper",aR,N.gi aR)] [] [] xk Ze (aA (T4.mono (by omega)) (aA (L_.mono (by omega)) ae)) ae ae [] ae ae (aA (T25.mono (by omega)) (aA (Mb.mono (by omega)) ae)) ae ae (by rintro vs H Q E ⟨_,rfl,_⟩;rfl) N.acI),PySem.W.mg_of X G Bv,DC.kp,B30⟩
 have Mc:=bz (st:=ko) BO BP tm
 have B34:=Mc.binds (ps:=Iv) fun _ _ _ _ _ _ us hl=>match us,hl with | [_],_=>rfl
 have DD:dX l.prog w K mg base 2 ("size",aR,N.eT aR):=⟨dt.cl,_,_,_,⟨BM,BN,tm⟩,(bB (k:=1) Mc Zl [("size_of",N.g4)] [] Iw [] [] [] [] xv Zm (aA (Ds.mono (by omega)) ae) ae ae [] ae ae ae ae ae (by rintro vs H Q E ⟨_,_,_,_,_,_,rfl,_⟩;rfl) (N.acj dt)),B34⟩
 have DE:=bz (st:=kj) BE BF BG
 have B32:=DE.binds (ps:=Ip) fun _ _ _ _ _ _ us hl=>match us,hl with | [_,_],_=>rfl
 have DF:bA l.prog w K mg base 34 "texts_of" (N.fq a_):=⟨_,_,_,(bB (k:=33) DE Zh [("pieces_of",N.g6 32)] [] Iq [("read",a_,oP i0 a_)] [] [] [] xp Zi (aA (T23.mono (by omega)) ae) ae ae [] ae (aA (T27.mono (by omega)) ae) ae ae ae (by rintro vs H Q E ⟨_,_,_,_,_,_,_,_,rfl,_⟩;rfl) N.ace),PySem.W.mg_of X G BD,DE.kp,B32⟩
 have Md:=bz (st:=ky) Cj Ck tF
 have B39:=Md.binds (ps:=IG) fun _ _ _ _ _ _ us hl=>match us,hl with | [_,_,_],_=>rfl
 have Me:dX l.prog w K mg base 103 ("part",aR,N.iX aR a_):=⟨dt.cl,_,_,_,⟨Cg,Ci,tF⟩,(bB (k:=102) Md Zv [("is_between",eA),("parted",N.d5 a_ 32),("texts_of",N.fq a_)] [] IH [("size",aR,N.eT aR)] [] [("NoPlace",i0)] [] xI Zw (aA (T1.mono (by omega)) (aA (L5.mono (by omega)) (aA (DF.mono (by omega)) ae))) ae ae [] ae (aA (DD.mono (by omega)) ae) ae (aA LW ae) ae (by rintro vs H Q E ⟨_,_,_,_,_,_,_,_,_,_,_,_,rfl,_⟩;rfl) (N.acq dt)),B39⟩
 have DG:=bz (st:=ki) BA BB BC
 have B31:=DG.binds (ps:=Im) fun _ _ _ _ _ _ us hl=>match us,hl with | [_,_],_=>rfl
 have T31:bA l.prog w K mg base 104 "need_fit" (N.oZ aR a_):=⟨_,_,_,(bB (k:=103) DG Zf [("sizes",oE),("part_size",eM)] [] Io [("size",aR,N.eT aR),("part",aR,N.iX aR a_)] [] [("BadFit",pw)] [] xn Zg (aA (T9.mono (by omega)) (aA (T8.mono (by omega)) ae)) ae (aA eV ae) [] ae (aA (DD.mono (by omega)) (aA (Me.mono (by omega)) ae)) ae (aA ako ae) ae (by rintro vs H Q E ⟨_,_,_,_,_,_,_,_,_,_,_,_,_,_,rfl,_⟩;rfl) (N.acy dt)),PySem.W.mg_of X G Bz,DG.kp,B31⟩
 have Mf:=bz (st:=kq) BS BU tq
 have B35:=Mf.binds (ps:=Iy) fun _ _ _ _ _ _ us hl=>match us,hl with | [_],_=>rfl
 have T35:dX l.prog w K mg base 2 ("lines",aR,N.oV aR):=⟨dt.cl,_,_,_,⟨BQ,BR,tq⟩,(bB (k:=1) Mf Zn [("ends_of",N.lg)] [] Iz [] [] [] [] xy Zo (aA (LX.mono (by omega)) ae) ae ae [] ae ae ae ae ae (by rintro vs H Q E ⟨_,_,_,_,_,_,rfl,_⟩;rfl) (N.ack dt)),B35⟩
 have Mg:=bz (st:=kr) BX BY tw
 have B36:=Mg.binds (ps:=IA) fun _ _ _ _ _ _ us hl=>match us,hl with | [_],_=>rfl
 have T36:dX l.prog w K mg base 35 ("text",aR,N.oX aR a_):=⟨dt.cl,_,_,_,⟨BV,BW,tw⟩,(bB (k:=34) Mg Zp [("texts_of",N.fq a_)] [] IB [] [] [] [] xC Zq (aA (DF.mono (by omega)) ae) ae ae [] ae ae ae ae ae (by rintro vs H Q E ⟨_,_,_,_,_,_,_,_,_,_,rfl,_⟩;rfl) (N.acp dt)),B36⟩
 have Mh:=bz (st:=ku) Ca Cb tD
 have B37:=Mh.binds (ps:=IC) fun _ _ _ _ _ _ us hl=>match us,hl with | [_],_=>rfl
 have Mi:dX l.prog w K mg base 35 ("pieces",aR,N.iW aR a_):=⟨dt.cl,_,_,_,⟨BZ,B_,tD⟩,(bB (k:=34) Mh Zr [("texts_of",N.fq a_)] [] ID [] [] [] [] xE Zs (aA (DF.mono (by omega)) ae) ae ae [] ae ae ae ae ae (by rintro vs H Q E ⟨_,_,_,_,_,_,_,_,_,_,rfl,_⟩;rfl) (N.aco dt)),B37⟩
 have Mj:=bz (st:=kx) Ce Cf tE
 have B38:=Mj.binds (ps:=IE) fun _ _ _ _ _ _ us hl=>match us,hl with | [_],_=>rfl
 have T38:dX l.prog w K mg base 2 ("height",aR,N.oW aR):=⟨dt.cl,_,_,_,⟨Cc,Cd,tE⟩,(bB (k:=1) Mj Zt [("height_of",N.d0)] [] IF [] [] [] [] xG Zu (aA (m8.mono (by omega)) ae) ae ae [] ae ae ae ae ae (by rintro vs H Q E ⟨_,_,_,_,_,_,rfl,_⟩;rfl) (N.acm dt)),B38⟩
 have Ml:=bz (st:=kz) Co Cp tG
 have B40:=Ml.binds (ps:=II) fun _ _ _ _ _ _ us hl=>match us,hl with | [_,_],_=>rfl
 have T40:dX l.prog w K mg base 105 ("changed",aR,N.o5 aR a_):=⟨dt.cl,_,_,_,⟨Cm,Cn,tG⟩,(bB (k:=104) Ml Zx [("need_fit",N.oZ aR a_),("sewn",N.mU),("node_put",N.iV a_),("parted",N.d5 a_ 32),("part_size",eM)] [] IJ [] [("Paper",aR,N.gi aR)] [] [] xM Zy (aA (T31.mono (by omega)) (aA (T20.mono (by omega)) (aA (L_.mono (by omega)) (aA (L5.mono (by omega)) (aA (T8.mono (by omega)) ae))))) ae ae [] ae ae (aA (Mb.mono (by omega)) ae) ae ae (by rintro vs H Q E ⟨_,_,_,_,_,_,_,_,_,_,_,_,_,_,rfl,_⟩;rfl) (N.acH dt)),B40⟩
 have DH:=bz (st:=kA) Cr Cs Ct
 have B41:=DH.binds (ps:=Hm) fun _ _ _ _ _ _ us hl=>match us,hl with | [_,_],_=>rfl
 have T41:bA l.prog w K mg base 1 "_law_cell_at" (oC K):=⟨_,_,_,(bB (k:=0) DH Zz [] [] Hn [] [] [] [] wg ZA ae ae (aA eV ae) [] ae ae ae ae ae (by rintro vs H Q E ⟨_,_,_,rfl,_⟩;rfl) aap),PySem.W.mg_of X G Cq,DH.kp,B41⟩
 have DI:=bz (st:=kD) Cv Cw Cy
 have B42:=DI.binds (ps:=Ja) fun _ _ _ _ _ _ us hl=>match us,hl with | [_],_=>rfl
 have T42:bA l.prog w K mg base 1 "_law_whole" (rf):=⟨_,_,_,(bB (k:=0) DI ZC [] [] Hr [] [] [] [] wm ZD ae ae (aA i5 (aA Dm (aA y_bool ae))) [] ae ae ae ae ae (by rintro vs H Q E ⟨_,rfl,_⟩;rfl) adl),PySem.W.mg_of X G Cu,DI.kp,B42⟩
 have DJ:=bz (st:=kE) CA CC CD
 have B43:=DJ.binds (ps:=IL) fun _ _ _ _ _ _ us hl=>match us,hl with | [_,_],_=>rfl
 have DK:bA l.prog w K mg base 1 "_law_mixed" (N.eF):=⟨_,_,_,(bB (k:=0) DJ ZE [] [] IM [] [] [] [] xQ ZF ae ae ae [] ae ae ae ae ae (by rintro vs H Q E ⟨_,_,rfl,_⟩;rfl) N.acJ),PySem.W.mg_of X G Cz,DJ.kp,B43⟩
 have DL:=bz (st:=kH) CH CI CJ
 have B44:=DL.binds (ps:=IP) fun _ _ _ _ _ _ us hl=>match us,hl with | [_,_],_=>rfl
 have Mm:bA l.prog w K mg base 2 "_law_text_by" (N.g8):=⟨_,_,_,(bB (k:=1) DL ZG [("_law_mixed",N.eF)] [] IQ [] [] [] [] xS ZH (aA (DK.mono (by omega)) ae) ae (aA LU ae) [] ae ae ae ae ae (by rintro vs H Q E ⟨_,_,rfl,_⟩;rfl) N.acP),PySem.W.mg_of X G CG,DL.kp,B44⟩
 have DM:=bz (st:=kI) CL CM CN
 have B45:=DM.binds (ps:=IS) fun _ _ _ _ _ _ us hl=>match us,hl with | [_],_=>rfl
 have T45:bA l.prog w K mg base 1 "_law_neat" (N.o_):=⟨_,_,_,(bB (k:=0) DM ZI [] [] IT [] [] [] [] xU ZJ ae ae (aA Dm ae) [] ae ae ae ae ae (by rintro vs H Q E ⟨_,_,_,_,_,rfl,_⟩;rfl) N.ac_),PySem.W.mg_of X G CK,DM.kp,B45⟩
 have DN:=bz (st:=cu) CQ CS CU
 have B46:=DN.binds (ps:=IU) fun _ _ _ _ _ _ us hl=>match us,hl with | [_,_],_=>rfl
 have T46:bA l.prog w K mg base 3 "_law_change_by" (N.pd):=⟨_,_,_,(bB (k:=2) DN ZK [("_law_mixed",N.eF),("_law_text_by",N.g8),("_law_neat",N.o_)] [] iC [] [] [] [] dB ZR (aA (DK.mono (by omega)) (aA (Mm.mono (by omega)) (aA (T45.mono (by omega)) ae))) ae (aA LU (aA akg (aA eV ae))) [] ae ae ae ae ae (by rintro vs H Q E ⟨_,_,rfl,_⟩;rfl) N.adi),PySem.W.mg_of X G CO,DN.kp,B46⟩
 have DO:=bz (st:=kJ) CW CY CZ
 have B47:=DO.binds (ps:=IV) fun _ _ _ _ _ _ us hl=>match us,hl with | [_,_],_=>rfl
 have T47:bA l.prog w K mg base 1 "_law_done" (oH):=⟨_,_,_,(bB (k:=0) DO ZS [] [] IW [] [] [] [] xW ZT ae ae (aA eV ae) [] ae ae ae ae ae (by rintro vs H Q E ⟨_,_,_,_,_,rfl,_⟩;rfl) N.acR),PySem.W.mg_of X G CV,DO.kp,B47⟩
 have DP:=bz (st:=kN) C1 C2 C3
 have B48:=DP.binds (ps:=Jb) fun _ _ _ _ _ _ us hl=>match us,hl with | [_,_,_,_],_=>rfl
 have T48:bA l.prog w K mg base 104 "_law_told" (lM aR a_):=⟨_,_,_,(bB (k:=103) DP Z0 [("_law_whole",rf)] [] Jc [("text",aR,N.oX aR a_),("part",aR,N.iX aR a_),("size",aR,N.eT aR),("lines",aR,N.oV aR),("height",aR,N.oW aR),("pieces",aR,N.iW aR a_)] [] [] [] oy Z1 (aA (T42.mono (by omega)) ae) ae (aA eV (aA i5 (aA Dp ae))) [] ae (aA (T36.mono (by omega)) (aA (Me.mono (by omega)) (aA (DD.mono (by omega)) (aA (T35.mono (by omega)) (aA (T38.mono (by omega)) (aA (Mi.mono (by omega)) ae)))))) ae ae ae (by rintro vs H Q E ⟨_,_,_,_,_,_,_,_,_,_,_,_,_,rfl,_⟩;rfl) adx),PySem.W.mg_of X G C0,DP.kp,B48⟩
 have Mn:=bz (st:=bU) C5 C6 C7
 have B49:=Mn.binds (ps:=Jd) fun _ _ _ _ _ _ us hl=>match us,hl with | [_],_=>rfl
 exact cn.top (bB (k:=105) Mn Z2 [("_law_cell_at",oC K),("_law_text_by",N.g8),("paper_of",N.o6 aR a_),("_law_change_by",N.pd),("_law_mixed",N.eF),("_law_done",oH),("_law_told",lM aR a_)] [("Paper", .ref aR)] gR [("changed",aR,N.o5 aR a_),("pieces",aR,N.iW aR a_)] [] [] [] cX Z_ (aA (T41.mono (by omega)) (aA (Mm.mono (by omega)) (aA (T30.mono (by omega)) (aA (T46.mono (by omega)) (aA (DK.mono (by omega)) (aA (T47.mono (by omega)) (aA (T48.mono (by omega)) ae))))))) (aA akk ae) (aA ake (aA Dp (aA i5 (aA eV ae)))) [] ae (aA (T40.mono (by omega)) (aA (Mi.mono (by omega)) ae)) ae ae ae (by rintro vs H Q E ⟨_,_,rfl,_⟩;rfl) (adS akl))
theorem walk{l:PySem.W.OpenLaw}{q:Program}{loose:List Str}{XP:(Str→Option Value)→Heap→Prop}{YP:World→Heap→Prop}{d:DefRec}{K:Params→PySem.W.Frag}(hn:l.most=some 63)(nK:d.params.defaults=[])
  (hY: ∀(w:World) (h:Heap),YP w h→(K w.params).In h)
  (F: ∀(w:World) (mg:Str→Option Value) (fa:Addr) (h:Heap),(K w.params).In h→h.Ns mainGlobals mg→mg d.name=some (.ref fa)→
   ∃fd:FuncData,(∀(s:Shared) (u:Value),BindsTo s fd ⟨[u],[]⟩ [("_law_script",u)])∧ ∀base:Heap,(K w.params).In base→base.Ns mainGlobals mg→cn l.prog w (K w.params) mg base qe 106 fa fd ["_law_script"] ((fun K=> (fun vs H Q _=> (sr K) vs H Q E0)) (K w.params))):
  PySem.W.WalkO q loose XP YP l.row.toRowW d [] (fun f vs=>PySem.call f vs):=
 L2.Pu (n:=63) (k:=106) (x:="_law_script") (CX:=fun _=>qe) (sp:=fun w=> (fun K=> (fun vs H Q _=> (sr K) vs H Q E0)) (K w.params)) hn (by decide) nK ⟨rfl,by decide,by decide⟩ hY F (fun _ _ a ns hl _ hS=> ⟨a,ns,rfl,hS,fun _=>rfl⟩) fun _ _ _ _ _ z=>z
end L2.gQ
namespace PySem.W.Fast
def tw15563754684162403448:Unit:=()
def tw2364120469148227600:Unit:=()
def tw9398091639495393211:Unit:=()
def tw15704923125333476579:Unit:=()
def tw5760169261045404282:Unit:=()
def tw7682382442113864982:Unit:=()
def tw6024764713970187092:Unit:=()
def tw16221541176091084091:Unit:=()
def tw9518479683251898441:Unit:=()
def tw18393095439631123985:Unit:=()
def tw13771281906622146757:Unit:=()
def tw7058776424871550181:Unit:=()
def tw17290664013020769887:Unit:=()
def tw17238904584435637387:Unit:=()
def tw14332978345216881320:Unit:=()
def tw6560951801041788859:Unit:=()
def tw9043917881455307691:Unit:=()
def tw896196606623284167:Unit:=()
def tw3541526424065373171:Unit:=()
def tw8072242697457213608:Unit:=()
def tw11361424009325534116:Unit:=()
def tw10953277684907648446:Unit:=()
def tw2912159541083145786:Unit:=()
def tw5253522074877309298:Unit:=()
def tw14037082215559189261:Unit:=()
def tw16695518177758021921:Unit:=()
def tw11111873388571265494:Unit:=()
def tw11995576212309256094:Unit:=()
def tw3654470328898094370:Unit:=()
def tw6282359604252034404:Unit:=()
def tw17661554401440034874:Unit:=()
def tw1322083990165070418:Unit:=()
def tw2075888083057423386:Unit:=()
def tw17427181915117777739:Unit:=()
def tw9682915746648062482:Unit:=()
def tw1411198917664295552:Unit:=()
def tw12391478844727912488:Unit:=()
def tw4654099602979494966:Unit:=()
def tw568547283712096496:Unit:=()
def tw11634698442765008914:Unit:=()
def tw13779202470083404891:Unit:=()
def tw2013317230286277032:Unit:=()
def tw5380161960826459087:Unit:=()
def tw11948273558828503743:Unit:=()
def tw14784380543694261508:Unit:=()
def tw6840781236605658057:Unit:=()
def tw3185478021990670130:Unit:=()
def tw6384587035148157544:Unit:=()
def tw3545105304243584600:Unit:=()
def tw11448929746185454446:Unit:=()
def tw9718318795613351810:Unit:=()
def tw4704857604816210073:Unit:=()
def tw14529708039799320518:Unit:=()
def tw7067174409804039519:Unit:=()
def tw16235094078774467533:Unit:=()
def tw1843604800390565132:Unit:=()
def tw3005806851141606668:Unit:=()
def tw11011300402178556197:Unit:=()
def tw15162195761958130001:Unit:=()
def tw9949932261328042197:Unit:=()
def tw17165211129471774180:Unit:=()
def tw3278485022067230936:Unit:=()
def tw9142439008396490064:Unit:=()
def tw17580529502130294023:Unit:=()
def tw11343815931373234837:Unit:=()
def tw13055375761598233116:Unit:=()
def tw7710031131665012953:Unit:=()
def tw12672095024266162194:Unit:=()
def tw8652052988082739754:Unit:=()
def tw7784764378548220825:Unit:=()
def tw1539476152641822643:Unit:=()
def tw6097621279505913921:Unit:=()
def tw3858303175245448036:Unit:=()
def tw16294619749622902567:Unit:=()
def tw8193831398305087553:Unit:=()
def tw8276234974200913324:Unit:=()
def tw281781830481414119:Unit:=()
def tw1255464430761796668:Unit:=()
def tw13375858967209656102:Unit:=()
def tw18124636114605503927:Unit:=()
def tw11847404400827553620:Unit:=()
def tw3134824055416344111:Unit:=()
def tw17501052076891130957:Unit:=()
def tw8871683519055924865:Unit:=()
def tw2218149279718425903:Unit:=()
def tw1822482754852689463:Unit:=()
def tw9236872275256203511:Unit:=()
end PySem.W.Fast
open PySem PySem.W PyProof.Rows
set_option maxRecDepth 100000 in
set_option maxHeartbeats 0 in
theorem PySem.Challenge.cw_inkloom_k15_papers_beside_texts_holds : PySem.Challenge.rw_inkloom_k15_papers_beside_texts.Holds := by
 w_on;o_law;k_head;(case hw=>w_witness2)
 k_fill
 refine L2.gQ.walk (l:=PySem.Challenge.rw_inkloom_k15_papers_beside_texts) rfl rfl (fun w h Y=>PySem.W.kIn_of Y) ?F
 case F=>
  intro w mg fa h KX G ji
  refine' L2.gQ.all_mk KX G ji ?zF ?zG ?zH ?zI ?zJ ?zK ?zL ?zM ?zN ?zO ?zP ?sN ?zQ ?zR ?zS ?zT ?zU ?zV ?zW ?zX ?sO ?sQ ?sR ?sS ?zY ?zZ ?z5 ?z6 ?z7 ?z8 ?z9 ?e5 ?e6 ?a0 ?l0 ?c0 ?k0 ?a1 ?l1 ?c1 ?k1 ?a2 ?l2 ?c2 ?k2 ?a3 ?l3 ?c3 ?k3 ?a4 ?l4 ?c4 ?k4 ?a5 ?l5 ?c5 ?k5 ?a6 ?l6 ?c6 ?k6 ?a7 ?l7 ?c7 ?k7 ?a8 ?l8 ?c8 ?k8 ?a9 ?l9 ?c9 ?k9 ?z_ ?Aa ?Ab ?Ac ?Ad ?Ae ?Af ?Ag ?Ah ?Ai ?Aj ?Ak ?Al ?Am ?An ?Ao ?Ap ?Aq ?Ar ?As ?Au ?Av ?Aw ?Ax ?Ay ?Az ?AA ?AD ?sT ?AE ?AF ?AG ?sU ?AH ?AI ?AJ ?sV ?AK ?AL ?AM ?AN ?AO ?AQ ?AR ?AS ?AU ?AV ?AW ?sW ?AX ?AY ?AZ ?sX ?A2 ?A3 ?A6 ?A7 ?A8 ?A9 ?A_ ?Ba ?Bb ?Bc ?Bd ?Be ?Bf ?Bg ?Bh ?Bi ?sY ?Bj ?Bk ?Bl ?Bm ?sZ ?Bn ?Bo ?Bp ?Bq ?s_ ?Br ?Bs ?Bt ?Bu ?Bv ?Bw ?Bx ?By ?Bz ?BA ?BB ?BC ?BD ?BE ?BF ?BG ?BH ?BI ?BJ ?BK ?BL ?BM ?BN ?BO ?BP ?tm ?BQ ?BR ?BS ?BU ?tq ?BV ?BW ?BX ?BY ?tw ?BZ ?B_ ?Ca ?Cb ?tD ?Cc ?Cd ?Ce ?Cf ?tE ?Cg ?Ci ?Cj ?Ck ?tF ?Cm ?Cn ?Co ?Cp ?tG ?Cq ?Cr ?Cs ?Ct ?Cu ?Cv ?Cw ?Cy ?Cz ?CA ?CC ?CD ?CG ?CH ?CI ?CJ ?CK ?CL ?CM ?CN ?CO ?CQ ?CS ?CU ?CV ?CW ?CY ?CZ ?C0 ?C1 ?C2 ?C3 ?C4 ?C5 ?C6 ?C7 ?C8 ?C9 ?C_ ?Dc ?Dd ?De ?Df ?Dg ?Dh ?Di ?Dj ?Dk ?Dl
  (case zF=>k_is)
  (case zG=>k_is)
  (case zH=>k_is)
  (case zI=>k_is)
  (case zJ=>k_is)
  (case zK=>k_is)
  (case zL=>k_is)
  (case zM=>k_is)
  (case zN=>k_is)
  (case zO=>k_is)
  (case zP=>k_is)
  (case sN=>k_is)
  (case zQ=>k_is)
  (case zR=>k_is)
  (case zS=>k_is)
  (case zT=>k_is)
  (case zU=>k_is)
  (case zV=>k_is)
  (case zW=>k_is)
  (case zX=>k_is)
  (case sO=>k_is)
  (case sQ=>k_is)
  (case sR=>k_is)
  (case sS=>k_is)
  (case zY=>k_exc)
  (case zZ=>k_exc)
  (case z5=>k_exc)
  (case z6=>k_exc)
  (case z7=>k_is)
  (case z8=>k_is)
  (case z9=>kernel_rfl)
  (case e5=>k_is)
  (case e6=>k_is)
  (case a0=>k_is)
  (case l0=>k_is)
  (case c0=>k_is)
  (case k0=>k_is)
  (case a1=>k_is)
  (case l1=>k_is)
  (case c1=>k_is)
  (case k1=>k_is)
  (case a2=>k_is)
  (case l2=>k_is)
  (case c2=>k_is)
  (case k2=>k_is)
  (case a3=>k_is)
  (case l3=>k_is)
  (case c3=>k_is)
  (case k3=>k_is)
  (case a4=>k_is)
  (case l4=>k_is)
  (case c4=>k_is)
  (case k4=>k_is)
  (case a5=>k_is)
  (case l5=>k_is)
  (case c5=>k_is)
  (case k5=>k_is)
  (case a6=>k_is)
  (case l6=>k_is)
  (case c6=>k_is)
  (case k6=>k_is)
  (case a7=>k_is)
  (case l7=>k_is)
  (case c7=>k_is)
  (case k7=>k_is)
  (case a8=>k_is)
  (case l8=>k_is)
  (case c8=>k_is)
  (case k8=>k_is)
  (case a9=>k_is)
  (case l9=>k_is)
  (case c9=>k_is)
  (case k9=>k_is)
  (case z_=>k_is)
  (case Aa=>k_is)
  (case Ab=>k_is)
  (case Ac=>k_is)
  (case Ad=>k_is)
  (case Ae=>k_is)
  (case Af=>k_is)
  (case Ag=>k_is)
  (case Ah=>k_is)
  (case Ai=>k_is)
  (case Aj=>k_is)
  (case Ak=>k_is)
  (case Al=>k_is)
  (case Am=>k_is)
  (case An=>k_is)
  (case Ao=>k_is)
  (case Ap=>k_is)
  (case Aq=>k_is)
  (case Ar=>k_is)
  (case As=>k_is)
  (case Au=>k_is)
  (case Av=>k_is)
  (case Aw=>k_is)
  (case Ax=>k_is)
  (case Ay=>k_is)
  (case Az=>k_is)
  (case AA=>k_is)
  (case AD=>k_is)
  (case sT=>k_is)
  (case AE=>k_is)
  (case AF=>k_is)
  (case AG=>k_is)
  (case sU=>k_is)
  (case AH=>k_is)
  (case AI=>k_is)
  (case AJ=>k_is)
  (case sV=>k_is)
  (case AK=>k_is)
  (case AL=>k_is)
  (case AM=>k_is)
  (case AN=>k_is)
  (case AO=>k_is)
  (case AQ=>k_is)
  (case AR=>k_is)
  (case AS=>k_is)
  (case AU=>k_is)
  (case AV=>k_is)
  (case AW=>k_is)
  (case sW=>k_is)
  (case AX=>k_is)
  (case AY=>k_is)
  (case AZ=>k_is)
  (case sX=>k_is)
  (case A2=>k_is)
  (case A3=>k_is)
  (case A6=>k_is)
  (case A7=>k_is)
  (case A8=>k_is)
  (case A9=>k_is)
  (case A_=>k_is)
  (case Ba=>k_is)
  (case Bb=>k_is)
  (case Bc=>k_is)
  (case Bd=>k_is)
  (case Be=>k_is)
  (case Bf=>k_is)
  (case Bg=>k_is)
  (case Bh=>k_is)
  (case Bi=>k_is)
  (case sY=>k_is)
  (case Bj=>k_is)
  (case Bk=>k_is)
  (case Bl=>k_is)
  (case Bm=>k_is)
  (case sZ=>k_is)
  (case Bn=>k_is)
  (case Bo=>k_is)
  (case Bp=>k_is)
  (case Bq=>k_is)
  (case s_=>k_is)
  (case Br=>k_is)
  (case Bs=>k_is)
  (case Bt=>k_is)
  (case Bu=>k_is)
  (case Bv=>k_is)
  (case Bw=>k_is)
  (case Bx=>k_is)
  (case By=>k_is)
  (case Bz=>k_is)
  (case BA=>k_is)
  (case BB=>k_is)
  (case BC=>k_is)
  (case BD=>k_is)
  (case BE=>k_is)
  (case BF=>k_is)
  (case BG=>k_is)
  (case BH=>k_is)
  (case BI=>k_is)
  (case BJ=>k_is)
  (case BK=>k_is)
  (case BL=>k_is)
  (case BM=>k_is)
  (case BN=>k_is)
  (case BO=>k_is)
  (case BP=>k_is)
  (case tm=>k_is)
  (case BQ=>k_is)
  (case BR=>k_is)
  (case BS=>k_is)
  (case BU=>k_is)
  (case tq=>k_is)
  (case BV=>k_is)
  (case BW=>k_is)
  (case BX=>k_is)
  (case BY=>k_is)
  (case tw=>k_is)
  (case BZ=>k_is)
  (case B_=>k_is)
  (case Ca=>k_is)
  (case Cb=>k_is)
  (case tD=>k_is)
  (case Cc=>k_is)
  (case Cd=>k_is)
  (case Ce=>k_is)
  (case Cf=>k_is)
  (case tE=>k_is)
  (case Cg=>k_is)
  (case Ci=>k_is)
  (case Cj=>k_is)
  (case Ck=>k_is)
  (case tF=>k_is)
  (case Cm=>k_is)
  (case Cn=>k_is)
  (case Co=>k_is)
  (case Cp=>k_is)
  (case tG=>k_is)
  (case Cq=>k_is)
  (case Cr=>k_is)
  (case Cs=>k_is)
  (case Ct=>k_is)
  (case Cu=>k_is)
  (case Cv=>k_is)
  (case Cw=>k_is)
  (case Cy=>k_is)
  (case Cz=>k_is)
  (case CA=>k_is)
  (case CC=>k_is)
  (case CD=>k_is)
  (case CG=>k_is)
  (case CH=>k_is)
  (case CI=>k_is)
  (case CJ=>k_is)
  (case CK=>k_is)
  (case CL=>k_is)
  (case CM=>k_is)
  (case CN=>k_is)
  (case CO=>k_is)
  (case CQ=>k_is)
  (case CS=>k_is)
  (case CU=>k_is)
  (case CV=>k_is)
  (case CW=>k_is)
  (case CY=>k_is)
  (case CZ=>k_is)
  (case C0=>k_is)
  (case C1=>k_is)
  (case C2=>k_is)
  (case C3=>k_is)
  (case C4=>k_is)
  (case C5=>k_is)
  (case C6=>k_is)
  (case C7=>k_is)
  (case C8=>k_is)
  (case C9=>k_is)
  (case C_=>k_is)
  (case Dc=>k_is)
  (case Dd=>k_is)
  (case De=>k_is)
  (case Df=>k_is)
  (case Dg=>k_is)
  (case Dh=>k_is)
  (case Di=>k_is)
  (case Dj=>k_is)
  (case Dk=>k_is)
  (case Dl=>k_is)
