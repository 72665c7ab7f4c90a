import PyProof.Rows.All
import Wide.All
import OpenK.AllK
import Wide.FinOn
import Lean
import PyProof.EqAt
import PyProof.EqKinds
import PyProof.TupleCall
import PyProof.Rows.EqDataRows
import PyProof.DictList
import PyProof.FactsAll.dict_1
import PyProof.FactsAll.subtypes_4
import KE.KTryMore
import PyProof.WalksEnum
import PyProof.EnumMake
import PyProof.ListStr
import PyProof.TupleOfStr
import PyProof.Dict
import PyProof.ToksMono
import PyProof.StrCalls6
import PyProof.StrWalks
import PyProof.ConsumeWalk
import PyProof.CallStr
import PyProof.MeetsStr
import KE.KIntText
import PyProof.StrCalls2
import PyProof.StrOps2
import PyProof.StrLawsIn
import PySem.Challenge.RW_inkloom_k18_papers_refused
set_option Elab.async false
set_option linter.all false
set_option maxRecDepth 100000
set_option compiler.extract_closed false
noncomputable section
open PySem.W (InstAt callWith_K callWith_K0 cellsFrom_some codeIn codeRec_of emptyDict exmOne fnOf handedIn hasDictIn hideAll hideAll_get instObj isFn keepIn kia_one kitOne kitx_dict kitx_list lookIn makesIn methodObj mg_none_of of_hideAll plainGet plainGet_of plainOver takerIn)
namespace L2
open PySem PySem.Spec PyProof.Rows
abbrev Key:=Sum Int Str
def pR:Key→Value→Bool
 | .inl k,v=>Value.isInt k v
 | .inr x,v=>Value.isStrOf x v
def WG(w:World):Key→Int
 | .inl k=>hashInt k
 | .inr x=>hashStr w x
theorem jM: ∀{k:Key} {v:Value},pR k v=true→(∃i t,k=Sum.inl i∧v=Value.int i t)∨(∃x t,k=Sum.inr x∧v=Value.str x t)
 | .inl i,v,h=>by
  obtain⟨t,e⟩:=Value.isInt_shape (k:=i) (v:=v) h
  exact .inl ⟨i,t,rfl,e⟩
 | .inr x,v,h=>by
  obtain⟨t,e⟩:=Value.isStrOf_shape (x:=x) (v:=v) h
  exact .inr ⟨x,t,rfl,e⟩
theorem WH(i:Int)(t:Tok):pR (.inl i) (.int i t)=true:=by simp[pR,Value.isInt]
theorem WI(x:Str)(t:Tok):pR (.inr x) (.str x t)=true:=by simp[pR,Value.isStrOf]
theorem WJ(a b:Int):decide ((Sum.inl a:Key)=Sum.inl b)=(a==b):=by
 by_cases e:a=b
 ·subst e;simp
 ·have h: ¬(Sum.inl a:Key)=Sum.inl b:=fun q=>e (Sum.inl.inj q)
  rw[decide_eq_false h]
  exact(beq_eq_false_iff_ne.mpr e).symm
theorem WK(a b:Str):decide ((Sum.inr a:Key)=Sum.inr b)=decide (a=b):=by
 by_cases e:a=b
 ·subst e;simp
 ·have h: ¬(Sum.inr a:Key)=Sum.inr b:=fun q=>e (Sum.inr.inj q)
  rw[decide_eq_false h,decide_eq_false e]
theorem WL(a:Int)(b:Str):decide ((Sum.inl a:Key)=Sum.inr b)=false:=decide_eq_false (fun q=>nomatch q)
theorem WM(a:Str)(b:Int):decide ((Sum.inr a:Key)=Sum.inl b)=false:=decide_eq_false (fun q=>nomatch q)
def i9(prog:Program)(w:World):PySem.KeyKind prog w Key where
 is:=pR
 hash:=WG w
 inj:=fun v a b ha hb=>by
  rcases jM ha with⟨i,t,rfl,rfl⟩ | ⟨x,t,rfl,rfl⟩
  ·rcases jM hb with⟨j,u,rfl,e⟩ | ⟨y,u,rfl,e⟩
   ·injection e with e1 _;rw[e1]
   ·exact nomatch e
  ·rcases jM hb with⟨j,u,rfl,e⟩ | ⟨y,u,rfl,e⟩
   ·exact nomatch e
   ·injection e with e1 _;rw[e1]
 byValue:=fun k v h=>by
  rcases jM h with⟨i,t,rfl,rfl⟩ | ⟨x,t,rfl,rfl⟩ <;>rfl
 pyHash:=fun hv h=>by
  rcases jM hv with⟨i,t,rfl,rfl⟩ | ⟨x,t,rfl,rfl⟩
  ·exact wpAny_pyHash_int h
  ·exact wpAny_pyHash_str h
 eqBool:=fun hu hv h=>by
  rcases jM hu with⟨i,t,rfl,rfl⟩ | ⟨x,t,rfl,rfl⟩
  ·rcases jM hv with⟨j,u,rfl,rfl⟩ | ⟨y,u,rfl,rfl⟩
   ·rw[WJ] at h;exact wpAny_eqBool_int h
   ·rw[WL] at h;exact SeqAt.EqAt.int_str i t y u _ _ _ _ h
  ·rcases jM hv with⟨j,u,rfl,rfl⟩ | ⟨y,u,rfl,rfl⟩
   ·rw[WM] at h;exact SeqAt.EqAt.str_int x t j u _ _ _ _ h
   ·rw[WK] at h;exact wpAny_eqBool_str h
 «strs»:=fun k x t v h=>by
  rcases jM h with⟨i,u,rfl,e⟩ | ⟨y,u,rfl,e⟩
  ·exact nomatch e
  ·injection e with e1 _
   subst e1
   cases v<;>rfl
theorem WN(prog:Program)(w:World)(i:Int)(t:Tok):(i9 prog w).is (.inl i) (.int i t)=true:=WH i t
theorem WO(prog:Program)(w:World)(x:Str)(t:Tok):(i9 prog w).is (.inr x) (.str x t)=true:=WI x t
inductive V where
 | az | bl (b:Bool) | int (i:Int) | str (x:Str) | eM (b:Array UInt8) | ky (b:UInt64) | ref (a:Addr) | ty (n:String)
 deriving DecidableEq
def RelV:V→Value→Prop
 | .az,u=>u=Value.none
 | .bl b,u=>u=Value.bool b
 | .int i,u=> ∃t,u=Value.int i t
 | .str x,u=> ∃t,u=Value.str x t
 | .eM b,u=> ∃t,u=Value.bytes b t
 | .ky b,u=> ∃t,u=Value.float b t
 | .ref a,u=>u=Value.ref a
 | .ty n,u=>u=Value.type n
abbrev Vals:List V→List Value→Prop:=Paired RelV
theorem Vals.length{xs:List V}{us:List Value}(r:Vals xs us):xs.length=us.length:=Paired.length r
theorem Vals.get: ∀{xs:List V} {us:List Value} {i:Nat} {x:V},Vals xs us→xs[i]?=some x→ ∃u,us[i]?=some u∧RelV x u
 | _,_,_,_, .nil,e=>by simp at e
 | _,_,0,_, .cons r _,e=>by simp at e;subst e;exact⟨_,rfl,r⟩
 | _,_,i+1,x, .cons _ t,e=>by
  obtain⟨u,h1,h2⟩:=Vals.get (i:=i) (x:=x) t (by simpa using e)
  exact⟨u,by simpa using h1,h2⟩
theorem Vals.set{x:V}{u:Value}(r:RelV x u): ∀{xs:List V} {us:List Value} (i:Nat),Vals xs us→Vals (xs.set i x) (us.set i u)
 | _,_,_, .nil=> .nil
 | _,_,0, .cons _ t=> .cons r t
 | _,_,i+1, .cons q t=> .cons q (Vals.set r i t)
theorem Vals.append: ∀{xs ys:List V} {us ws:List Value},Vals xs us→Vals ys ws→Vals (xs++ys) (us++ws)
 | _,_,_,_, .nil,s=>s
 | _,_,_,_, .cons r t,s=> .cons r (Vals.append t s)
theorem Vals.take: ∀{xs:List V} {us:List Value} (n:Nat),Vals xs us→Vals (xs.take n) (us.take n)
 | _,_,0,_=> .nil
 | _,_,_+1, .nil=> .nil
 | _,_,n+1, .cons r t=> .cons r (Vals.take n t)
theorem Vals.drop: ∀{xs:List V} {us:List Value} (n:Nat),Vals xs us→Vals (xs.drop n) (us.drop n)
 | _,_,0,r=>r
 | _,_,_+1, .nil=> .nil
 | _,_,n+1, .cons _ t=>Vals.drop n t
def i_:Option V→Option Value→Prop
 | some v,some u=>RelV v u
 | none,none=>True
 | _,_=>False
def KV{κ:Type}:List (κ×V)→List (κ×Value)→Prop:=Paired fun(p:κ×V) (q:κ×Value)=>p.1=q.1∧RelV p.2 q.2
def kV:Key→V
 | .inl i=> .int i
 | .inr x=> .str x
inductive HO where
 | lst (xs:List V)
 | tup (xs:List V)
 | dK (aX:List (Key×V)) | dT (aX:List (List Key×V))
 | set (S:Int→Bool) (n:Nat)
 | ins (C dx:Addr) (fs:List (Str×V))
 | own (x:Addr)
 | xd (fs:List (Str×V))
 | met (f x:Addr)
 | gu (lo hi:Int)
 | bV (o:Obj) (u:HO)
 | ja (ps:Array Value)
 | ext (φ:Heap→Prop)
abbrev Hp:=Addr→Option HO
def upd(H:Hp)(a:Addr)(o:HO):Hp:=fun b=>if b=a then some o else H b
theorem aO{H:Hp}{a:Addr}{o:HO}:upd H a o a=some o:=by unfold upd;rw[if_pos rfl]
theorem aV{H:Hp}{a b:Addr}{o:HO}(h:b≠a):upd H a o b=H b:=by unfold upd;rw[if_neg h]
theorem zt{H:Hp}{a b:Addr}{o u:HO}(h:H a=some o)(h':H b=some u)(d:o≠u):a≠b:=by
 intro e;subst e;rw[h] at h';exact d (Option.some.inj h')
theorem cn{H:Hp}{a b:Addr}{o:HO}(h:H a=some o)(h':H b=none):a≠b:=by
 intro e;subst e;rw[h] at h';cases h'
section
variable (P:Program) (w:World)
def cM(H:Hp)(h:Heap)(a:Addr):HO→Prop
 | .lst xs=>xs.length≤sizeLine∧ ∃(its:List Value) (n:Nat),Vals xs its∧h.get? a=some {cls:= .type "list",data:= .seq its.toArray n}
 | .tup xs=>xs.length≤sizeLine∧ ∃its:List Value,Vals xs its∧IsTup h a its.toArray
 | .dK aX=>aX.length≤sizeLine∧(a==sysModules)=false∧ ∃vs,KV aX vs∧h.DictOf (i9 P w) a vs
 | .dT aX=>aX.length≤sizeLine∧(a==sysModules)=false∧ ∃xs:List (List Key×Addr×Value),
   Paired (fun(p:List Key×V) (q:List Key×Addr×Value)=>p.1=q.1∧H q.2.1=some (.tup (p.1.map kV))∧RelV p.2 q.2.2) aX xs∧
   ∃o es ep,h.get? a=some o∧o.ExactDict∧o.data= .dict es ep∧es.toList=xs.map (entryOfKey (tupleKind (i9 P w)))∧(xs.map (·.1)).Nodup
 | .set S n=>h.SetOf (intKind P w) a S n
 | .ins C dx fs=>H dx=some (.own a)∧fs.length≤1000∧dx≠a∧h.get? a=some (instObj C dx)∧
   ∃mA,h.Ns1 dx mA∧(∀f,i_ (fs.lookup f) (mA f))∧PySem.Within mA (fs.map (·.1))
 | .own _=> ∃o,h.get? a=some o
 | .xd fs=> ∃mA,h.Ns1 a mA∧ ∀f,i_ (fs.lookup f) (mA f)
 | .gu lo hi=> ∃t u v,h.get? a=some {cls:= .type "range",data:= .fields #[.int lo t, .int hi u, .int 1 v]}
 | .bV o u=>h.get? a=some o∧cM H h a u
 | .ja ps=>h.get? a=some {cls:= .none,data:= .fields ps}
 | .met f x=>h.get? a=some (methodObj (.ref f) (.ref x))
 | .ext φ=>φ h∧(∃o,h.get? a=some o)∧ ∀h1 h2:Heap,φ h1→(∀o,h1.get? a=some o→h2.get? a=some o)→φ h2
def cy(H:Hp)(h:Heap):Prop:= ∀a o,H a=some o→cM P w H h a o
end
section
variable {P:Program} {w:World} {H H':Hp} {h h':Heap} {a:Addr} {o:HO}
theorem cM.lt(x:cM P w H h a o):a<h.objs.size:=by
 cases o with
 | lst xs=>obtain⟨_,_,_,_,e⟩:=x;exact Heap.lt_size e
 | tup xs=>obtain⟨_,_,_,p⟩:=x;exact p.lt
 | dK aX=>obtain⟨_,_,_,_,o,_,_,e,_⟩:=x;exact Heap.lt_size e
 | dT aX=>obtain⟨_,_,_,_,o,_,_,e,_⟩:=x;exact Heap.lt_size e
 | set S n=>obtain⟨o,_,_,_,e,_⟩:=x;exact Heap.lt_size e
 | ins C dx fs=>obtain⟨_,_,_,e,_⟩:=x;exact Heap.lt_size e
 | own y=>obtain⟨_,e⟩:=x;exact Heap.lt_size e
 | xd fs=>obtain⟨_,⟨_,_,_,e,_⟩,_⟩:=x;exact Heap.lt_size e
 | gu lo hi=>obtain⟨_,_,_,e⟩:=x;exact Heap.lt_size e
 | bV ob u=>obtain⟨e,_⟩:=x;exact Heap.lt_size e
 | ja ps=>exact Heap.lt_size (show h.get? a=some _ from x)
 | met f y=>exact Heap.lt_size (show h.get? a=some _ from x)
 | ext φ=>obtain⟨_,⟨_,e⟩,_⟩:=x;exact Heap.lt_size e
theorem Paired.Mp{α β:Type}{F G:α→β→Prop}: ∀{l₁:List α} {l₂:List β},Paired F l₁ l₂→(∀a b,F a b→G a b)→Paired G l₁ l₂
 | _,_, .nil,_=> .nil
 | _,_, .cons r t,f=> .cons (f _ _ r) (Paired.Mp t f)
theorem cM.jb(x:cM P w H h a o)(k: ∀b u,(b=a∨H b=some (.own a))→h.get? b=some u→h'.get? b=some u)
  (ho: ∀b,H b=some (.own a)→H' b=some (.own a)) (ht: ∀b xs,H b=some (.tup xs)→H' b=some (.tup xs)):cM P w H' h' a o:=by
 induction o with
 | lst xs=>obtain⟨z,its,n,r,e⟩:=x;exact⟨z,its,n,r,k _ _ (.inl rfl) e⟩
 | tup xs=>obtain⟨z,its,r,ob,e,c⟩:=x;exact⟨z,its,r,ob,k _ _ (.inl rfl) e,c⟩
 | dK aX=>obtain⟨z,y,vs,r,ob,es,ep,e,c⟩:=x;exact⟨z,y,vs,r,ob,es,ep,k _ _ (.inl rfl) e,c⟩
 | dT aX=>
  obtain⟨z,y,xs,r,ob,es,ep,e,c⟩:=x
  exact⟨z,y,xs,Paired.Mp r fun p q z=> ⟨z.1,ht _ _ z.2.1,z.2.2⟩,ob,es,ep,k _ _ (.inl rfl) e,c⟩
 | set S n=>obtain⟨ob,es,ep,t,e,c⟩:=x;exact⟨ob,es,ep,t,k _ _ (.inl rfl) e,c⟩
 | ins C dx fs=>
  obtain⟨d,z,ne,e,mA,⟨od,es,ep,e2,c⟩,r⟩:=x
  exact⟨ho _ d,z,ne,k _ _ (.inl rfl) e,mA,⟨od,es,ep,k _ _ (.inr d) e2,c⟩,r⟩
 | own y=>obtain⟨ob,e⟩:=x;exact⟨ob,k _ _ (.inl rfl) e⟩
 | xd fs=>obtain⟨mA,⟨od,es,ep,e,c⟩,r⟩:=x;exact⟨mA,⟨od,es,ep,k _ _ (.inl rfl) e,c⟩,r⟩
 | gu lo hi=>obtain⟨t,u,v,e⟩:=x;exact⟨t,u,v,k _ _ (.inl rfl) e⟩
 | bV ob u ih=>obtain⟨e,q⟩:=x;exact⟨k _ _ (.inl rfl) e,ih q⟩
 | ja ps=>
  have e:h.get? a=some {cls:= .none,data:= .fields ps}:=x
  show h'.get? a=some {cls:= .none,data:= .fields ps}
  exact k a _ (.inl rfl) e
 | met f y=>
  have e:h.get? a=some (methodObj (.ref f) (.ref y)):=x
  show h'.get? a=some (methodObj (.ref f) (.ref y))
  exact k a _ (.inl rfl) e
 | ext φ=>obtain⟨p,⟨o,e⟩,st⟩:=x;exact⟨st _ _ p fun o q=>k _ _ (.inl rfl) q,⟨o,k _ _ (.inl rfl) e⟩,st⟩
theorem cy.lt(x:cy P w H h)(e:H a=some o):a<h.objs.size:=(x a o e).lt
theorem cy.fresh(x:cy P w H h)(e:h.objs.size≤a):H a=none:=by
 cases q:H a with
 | none=>rfl
 | some u=>exact absurd (Nat.lt_of_lt_of_le (x.lt q) e) (Nat.lt_irrefl _)
theorem cy.kept(x:cy P w H h)(k: ∀b u,h.get? b=some u→h'.get? b=some u):cy P w H h':=fun a o e=>
 (x a o e).jb (fun b u _ q=>k b u q) (fun _ q=>q) fun _ _ q=>q
theorem cy.laid(x:cy P w H h)(k: ∀b u,h.get? b=some u→h'.get? b=some u)(hp:h.objs.size≤a)(new:cM P w (upd H a o) h' a o):cy P w (upd H a o) h':=fun b u e=>by
 have hn:=x.fresh hp
 by_cases hb:b=a
 ·subst hb;rw[aO] at e;cases e;exact new
 ·rw[aV hb] at e
  exact(x b u e).jb (fun c v _ q=>k c v q) (fun c q=>by rw[aV (cn q hn)];exact q) fun c xs q=>by rw[aV (cn q hn)];exact q
end
def Rd(H:Hp)(a:Addr)(u:HO):Prop:=H a=some u∨ ∃o,H a=some (.bV o u)
theorem Rd.ok{P:Program}{w:World}{H:Hp}{h:Heap}{a:Addr}{u:HO}(r:Rd H a u)(x:cy P w H h):cM P w H h a u:=by
 rcases r with r | ⟨o,r⟩
 ·exact x a u r
 ·obtain⟨_,q⟩:=x a _ r
  exact q
def vf:Option HO→Prop
 | some (.lst _)=>True
 | some (.dK _)=>True
 | some (.dT _)=>True
 | some (.set _ _)=>True
 | some (.ins _ _ _)=>True
 | some (.ext _)=>True
 | _=>False
section
variable {P:Program} {w:World} {H:Hp} {h h':Heap} {x e:Addr} {o':HO}
theorem cy.write(ok:cy P w H h)(mu:vf (H x))(he:e=x∨H e=some (.own x))(k: ∀b u,b≠e→h.get? b=some u→h'.get? b=some u)(pS: ∃u,h'.get? e=some u)
  (new:cM P w (upd H x o') h' x o'):cy P w (upd H x o') h':=fun b u q=>by
 have Mq: ∀c y,H c=some (.own y)→c≠x:=fun c y r z=>by subst z;rw[r] at mu;exact mu
 have WQ: ∀c xs,H c=some (.tup xs)→c≠x:=fun c xs r z=>by subst z;rw[r] at mu;exact mu
 by_cases hb:b=x
 ·subst hb;rw[aO] at q;cases q;exact new
 ·rw[aV hb] at q
  by_cases mx:b=e
  ·have q':H b=some (.own x):=by
    rcases he with z | z
    ·exact absurd (mx.trans z) hb
    ·rw[mx];exact z
   rw[q] at q';cases q'
   obtain⟨v,hv⟩:=pS
   exact⟨v,by rw[mx];exact hv⟩
  ·refine(ok b u q).jb (fun c v hc r=>k c v ?_ r) (fun c r=>by rw[aV (Mq c b r)];exact r) fun c xs r=>by rw[aV (WQ c xs r)];exact r
   rcases hc with rfl | hc
   ·exact mx
   ·rintro rfl
    rcases he with z | z
    ·exact Mq c b hc z
    ·rw[hc] at z;cases z;exact hb rfl
end
structure Un (fs ex:List Addr) (H H':Hp) (h h':Heap):Prop where
 keep: ∀b o,h.get? b=some o→H b=none→b∉fs→b∉ex→h'.get? b=some o
 slot: ∀b o,h.get? b=some o→H b=none→b∈fs→b∉ex→ ∃sl,h'.get? b=some {o with slots:=sl}
 free: ∀b o,h.get? b=some o→H b=none→b∉ex→H' b=none
 there: ∀b o,h.get? b=some o→b∉ex→ ∃o',h'.get? b=some o'
 cP: ∀b xs,H b=some (.tup xs)→H' b=some (.tup xs)
 eN: ∀b o u,H b=some (.bV o u)→H' b=some (.bV o u)
 eZ: ∀b ps,H b=some (.ja ps)→ ∃more,H' b=some (.ja (ps++more))
section
variable {fs WR ex ex':List Addr} {H H1 H2:Hp} {h h1 h2 h':Heap} {a x e:Addr} {o:HO}
theorem Un.any(u:Un fs ex H H1 h h1){b:Addr}{ob:Obj}(q:h.get? b=some ob)(n:H b=none)(hx:b∉ex): ∃sl,h1.get? b=some {ob with slots:=sl}:=by
 by_cases hb:b∈fs
 ·exact u.slot b ob q n hb hx
 ·exact⟨ob.slots,u.keep b ob q n hb hx⟩
theorem Un.kept(k: ∀b u,h.get? b=some u→h'.get? b=some u):Un fs ex H H h h':=
 ⟨fun b ob q _ _ _=>k b ob q,fun b ob q _ _ _=> ⟨ob.slots,k b ob q⟩,fun _ _ _ n _=>n,fun b ob q _=> ⟨ob,k b ob q⟩,fun _ _ q=>q,fun _ _ _ q=>q,fun _ ps q=> ⟨#[],by rw[q];simp⟩⟩
theorem Un.refl:Un fs ex H H h h:=Un.kept fun _ _ q=>q
theorem Un.laid(k: ∀b u,h.get? b=some u→h'.get? b=some u)(hp:h.objs.size≤a)(hn:H a=none):Un fs ex H (upd H a o) h h' where
 keep:=fun b u q _ _ _=>k b u q
 slot:=fun b u q _ _ _=> ⟨u.slots,k b u q⟩
 free:=fun b u q n _=>by rw[aV (Nat.ne_of_lt (Nat.lt_of_lt_of_le (Heap.lt_size q) hp))];exact n
 there:=fun b u q _=> ⟨u,k b u q⟩
 cP:=fun b xs q=>by rw[aV (cn q hn)];exact q
 eN:=fun b u xs q=>by rw[aV (cn q hn)];exact q
 eZ:=fun b ps q=> ⟨#[],by rw[aV (cn q hn),q];simp⟩
theorem Un.write(mu:vf (H x))(he:e=x∨H e=some (.own x))(k: ∀b u,b≠e→h.get? b=some u→h'.get? b=some u)(pS: ∃u,h'.get? e=some u):Un fs ex H (upd H x o) h h':=by
 have hx: ∀b,H b=none→b≠x:=fun b n z=>by subst z;rw[n] at mu;exact mu
 have hb: ∀b,H b=none→b≠e:=fun b n z=>by
  subst z
  rcases he with r | r
  ·exact hx b n r
  ·rw[n] at r;cases r
 have hm: ∀b u,H b=some u→ ¬vf (some u)→b≠x:=fun b u q nm z=>by subst z;rw[q] at mu;exact nm mu
 refine⟨fun b u q n _ _=>k b u (hb b n) q,fun b u q n _ _=> ⟨u.slots,k b u (hb b n) q⟩,fun b u q n _=>by rw[aV (hx b n)];exact n,fun b u q _=> ?_,
  fun b xs q=>by rw[aV (hm b _ q fun z=>z)];exact q,fun b u xs q=>by rw[aV (hm b _ q fun z=>z)];exact q,fun b ps q=> ⟨#[],by rw[aV (hm b _ q fun z=>z),q];simp⟩⟩
 by_cases mx:b=e
 ·subst mx;exact pS
 ·exact⟨u,k b u mx q⟩
end
def jc(h:Heap)(H:Hp):List Addr:=(List.range h.objs.size).filter fun a=> (H a).isSome
def jN(h:Heap)(H:Hp):Heap:=hideAll h (jc h H)
theorem WS(h:Heap)(H:Hp):(jN h H).objs.size=h.objs.size:=PySem.W.hideAll_size _ _
theorem WT{h:Heap}{H:Hp}{b:Addr}{o:Obj}(e:h.get? b=some o)(n:H b=none):(jN h H).get? b=some o:=
 hideAll_get _ e fun hm=>by
  have q:(H b).isSome=true:=(List.mem_filter.mp hm).2
  rw[n] at q;simp at q
theorem WU{h:Heap}{H:Hp}{b:Addr}{o:Obj}(e:(jN h H).get? b=some o):h.get? b=some o∧H b=none:=by
 have e':h.get? b=some o:=of_hideAll (jc h H) e
 refine⟨e', ?_⟩
 cases q:H b with
 | none=>rfl
 | some x=>
  have hm:b∈jc h H:=List.mem_filter.mpr ⟨List.mem_range.mpr (Heap.lt_size e'),by simp[q]⟩
  have z:(jN h H).get? b=none:=PySem.W.hideAll_none (jc h H) hm
  rw[z] at e;cases e
structure Mod (K:PySem.W.Frag) (mg:Str→Option Value) (base:Heap):Prop where
 my:K.In base
 glob:base.Ns mainGlobals mg
 blt: ∃mb,base.Ns builtinsNs mb∧ ∀x:Str,x≠"__name__"→mb x=bootBuiltins x
 nolimit:base.NoLimit
structure Cx where
 prog:Program
 w:World
 K:PySem.W.Frag
 mg:Str→Option Value
 base:Heap
 A:Around
 N:List Str
 s₀:Shared
 H₀:Hp
 env:Env
 outer:List Env
 stack:List Env
 ex:List Addr
 fn:Str→Bool
 calm:Bool
 pn:List (Addr×Obj)
 xe:Value→Shared→Prop
def cb(l:List Env):List Addr:=l.filterMap (·.frame)
abbrev Cx.fs(X:Cx):List Addr:=cb X.outer
def vg(sc:Scope)(x:Str):Prop:=sc.names.lookup x=some .local∨sc.names.lookup x=some .cell∨sc.names.lookup x=some .free
def Loc(sc:Scope)(x:Str):Prop:=sc.names.lookup x=some .local∨sc.names.lookup x=some .cell
def Look(env:Env)(h:Heap)(m:Str→Option Value)(x:Str)(u:Value):Prop:=
 (env.kindOf x=some .local∧m x=some u)∨((env.kindOf x=some .cell∨env.kindOf x=some .free)∧ ∃c,env.cells.lookup x=some c∧h.IsCell c (some u))
structure Cx.Ok (X:Cx):Prop where
 mod:Mod X.K X.mg X.base
 kind:X.env.scope.kind= .function
 glob:X.env.globals=mainGlobals
 blt:X.env.builtins=builtinsNs
 above:X.s₀.heap.objs.size≤X.env.locals
 inj: ∀x y c,X.env.cells.lookup x=some c→X.env.cells.lookup y=some c→x=y
 has: ∀x,(X.env.kindOf x=some .cell∨X.env.kindOf x=some .free)→ ∃c,X.env.cells.lookup x=some c
 vh: ∀x c,X.fn x=true→X.env.cells.lookup x=some c→X.s₀.heap.objs.size≤c
 hd:X.calm=true→X.A.handled=none
 frames:X.A.frames=some X.stack
 hJ:X.stack=X.outer∨(X.stack=X.env::X.outer∧X.env.frame=some X.env.locals)
 WV: ∀b∈X.ex,b≠X.env.locals∧ ∀x c,X.env.cells.lookup x=some c→c≠b
 bs: ∀b o,X.base.get? b=some o→X.s₀.heap.get? b=some o∧X.H₀ b=none
 kz:X.base.objs.size≤X.s₀.heap.objs.size
 vi: ∀b o,X.base.get? b=some o→b∉X.ex
 vj: ∀b∈X.ex,b∉X.fs
 hU:X.s₀.heap.FunFrames X.base X.outer
 mz: ∀b∈X.fs,X.H₀ b=none
structure Inv (X:Cx) (pins:List (Addr×Obj)) (σ:List (Option V)) (H:Hp) (s:Shared):Prop where
 ok:X.Ok
 os:s.os=X.s₀.os
 bare:AllBare s.gens
 base:Un X.fs X.ex X.H₀ H X.s₀.heap s.heap
 loc: ∃m,s.heap.Ns X.env.locals m∧ ∀(i:Nat) (x:Str) (v:V),X.N[i]?=some x→σ[i]?=some (some v)→vg X.env.scope x→ ∃u,RelV v u∧Look X.env s.heap m x u
 cell: ∀x c,X.env.cells.lookup x=some c→ ∃v,s.heap.IsCell c v
 free:H X.env.locals=none
 fo: ∀x c,X.env.cells.lookup x=some c→H c=none
 pin: ∀p∈X.pn++pins,s.heap.get? p.1=some p.2∧H p.1=none∧p.1≠X.env.locals∧p.1∉X.fs∧ ∀v,p.2.data≠ .cell v
 aN:cy X.prog X.w H s.heap
 len:σ.length=X.N.length
section
variable {X:Cx} {pins:List (Addr×Obj)} {σ:List (Option V)} {H H':Hp} {s:Shared} {h':Heap}
theorem Cx.Ok.WW(ok:X.Ok){b:Addr}{o:Obj}(e:X.base.get? b=some o):b∉X.fs:=fun hb=>by
 have:=(ok.hU.mem hb).1
 rw[e] at this;cases this
theorem Inv.bs(I:Inv X pins σ H s): ∀b o,X.base.get? b=some o→s.heap.get? b=some o∧H b=none:=fun b o e=>
 ⟨I.base.keep b o (I.ok.bs b o e).1 (I.ok.bs b o e).2 (I.ok.WW e) (I.ok.vi b o e),I.base.free b o (I.ok.bs b o e).1 (I.ok.bs b o e).2 (I.ok.vi b o e)⟩
theorem Inv.bk(I:Inv X pins σ H s): ∀b o,X.base.get? b=some o→s.heap.get? b=some o:=fun b o e=> (I.bs b o e).1
theorem Inv.mod(I:Inv X pins σ H s):Mod X.K X.mg X.base:=I.ok.mod
theorem Inv.cI(I:Inv X pins σ H s):X.K.In s.heap:=I.ok.mod.my.keeps I.bk
theorem Inv.lt(I:Inv X pins σ H s):X.env.locals<s.heap.objs.size:=let ⟨_,hn,_⟩:=I.loc;hn.lt
theorem Inv.sz(I:Inv X pins σ H s):X.s₀.heap.objs.size≤s.heap.objs.size:=Nat.le_trans I.ok.above (Nat.le_of_lt I.lt)
theorem Inv.Mr(I:Inv X pins σ H s){a:Addr}(h:s.heap.objs.size≤a):a∉X.fs:=fun hb=>by
 obtain⟨_,o,ho,_⟩:=I.ok.hU.mem hb
 exact absurd (Nat.lt_of_lt_of_le (Heap.lt_size ho) (Nat.le_trans I.sz h)) (Nat.lt_irrefl _)
theorem Inv.mB(I:Inv X pins σ H s): ∀x c,X.env.cells.lookup x=some c→c≠X.env.locals:=fun x c e z=>by
 obtain⟨v,o,ho,hd⟩:=I.cell x c e
 obtain⟨m,⟨o',es,ep,dS,zu,_⟩,_⟩:=I.loc
 rw[z,dS] at ho;cases ho;rw[zu] at hd;cases hd
theorem Inv.hU(I:Inv X pins σ H s):s.heap.FunFrames X.base X.outer:=by
 have all: ∀(l:List Env),(∀b∈cb l,b∈X.fs)→X.s₀.heap.FunFrames X.base l→s.heap.FunFrames X.base l:=by
  intro l
  induction l with
  | nil=>intro _ _;trivial
  | cons env r ih=>
   intro hs hl
   obtain⟨hk,⟨L,o,hf,hn,ho,hd⟩,hr⟩:=hl
   have hL:L∈X.fs:=hs L (by unfold cb;rw[List.filterMap_cons,hf];exact List.mem_cons_self)
   obtain⟨sl,e⟩:=I.base.slot L o ho (I.ok.mz L hL) hL fun z=>I.ok.vj L z hL
   exact⟨hk,⟨L,_,hf,hn,e,hd⟩,ih (fun b hb=>hs b (by unfold cb;rw[List.filterMap_cons,hf];exact List.mem_cons_of_mem _ hb)) hr⟩
 exact all X.outer (fun _ hb=>hb) I.ok.hU
theorem Inv.stack(I:Inv X pins σ H s):s.heap.FunFrames X.base X.stack:=by
 rcases I.ok.hJ with e | ⟨e,hf⟩
 ·rw[e];exact I.hU
 ·rw[e]
  obtain⟨m,hn,_⟩:=I.loc
  refine .cons (by rw[I.ok.kind];decide) hf hn ?_ I.hU
  exact Heap.get?_none_of_le (Nat.le_trans I.ok.kz I.ok.above)
theorem Inv.vk(I:Inv X pins σ H s): ∀b∈cb X.stack,b∈X.env.locals::X.fs:=fun b hb=>by
 rcases I.ok.hJ with e | ⟨e,hf⟩
 ·rw[e] at hb;exact List.mem_cons_of_mem _ hb
 ·rw[e] at hb
  unfold cb at hb
  rw[List.filterMap_cons,hf] at hb
  exact hb
theorem Inv.vm(I:Inv X pins σ H s): ∀b∈cb X.stack,H b=none:=fun b hb=>by
 rcases List.mem_cons.mp (I.vk b hb) with e | hb
 ·rw[e];exact I.free
 ·obtain⟨_,o,ho,_⟩:=I.ok.hU.mem hb
  exact I.base.free b o ho (I.ok.mz b hb) fun z=>I.ok.vj b z hb
theorem Inv.step{g':Array GenState}{t':Nat}{d':Drawn}{ch:List Addr}(I:Inv X pins σ H s)
  (dz: ∀b∈ch,(b∈X.ex∨X.s₀.heap.objs.size≤b)∧b≠X.env.locals∧(∀x c,X.env.cells.lookup x=some c→c≠b)∧ ∀p∈X.pn++pins,p.1≠b)
  (keep: ∀b o,b≠X.env.locals→b∉X.fs→b∉ch→s.heap.get? b=some o→H b=none→h'.get? b=some o)
  (slot: ∀b o,b≠X.env.locals→b∈X.fs→b∉ch→s.heap.get? b=some o→H b=none→ ∃sl,h'.get? b=some {o with slots:=sl}) (free: ∀b o,b∉ch→s.heap.get? b=some o→H b=none→H' b=none)
  (there: ∀b o,b∉ch→s.heap.get? b=some o→ ∃o',h'.get? b=some o')
  (cP: ∀b xs,H b=some (.tup xs)→H' b=some (.tup xs)) (eN: ∀b o u,H b=some (.bV o u)→H' b=some (.bV o u)) (eZ: ∀b ps,H b=some (.ja ps)→ ∃more,H' b=some (.ja (ps++more)))
  (ns: ∀m,s.heap.Ns X.env.locals m→h'.Ns X.env.locals m) (aN:cy X.prog X.w H' h') (hg:AllBare g'):
  Inv X pins σ H' {s with heap:=h',gens:=g',drawn:=d',toks:=t'}:=by
 have Ms: ∀b o,X.s₀.heap.get? b=some o→b≠X.env.locals:=fun b o e=>Nat.ne_of_lt (Nat.lt_of_lt_of_le (Heap.lt_size e) I.ok.above)
 have vo: ∀b o,X.s₀.heap.get? b=some o→b∉X.ex→b∉ch:=fun b o e hx hb=>by
  rcases (dz b hb).1 with z | z
  ·exact hx z
  ·exact absurd (Nat.lt_of_lt_of_le (Heap.lt_size e) z) (Nat.lt_irrefl _)
 have cellK: ∀x c,X.env.cells.lookup x=some c→ ∀v,s.heap.IsCell c v→h'.IsCell c v:=fun x c e v ⟨o,ho,hd⟩=>by
  have rT:c∉ch:=fun z=> (dz c z).2.2.1 x c e rfl
  by_cases hc:c∈X.fs
  ·obtain⟨sl,q⟩:=slot c o (I.mB x c e) hc rT ho (I.fo x c e)
   exact⟨_,q,hd⟩
  ·exact⟨o,keep c o (I.mB x c e) hc rT ho (I.fo x c e),hd⟩
 refine⟨I.ok,I.os,hg,⟨fun b o e n hb hx=> ?_,fun b o e n hb hx=> ?_,fun b o e n hx=> ?_,fun b o e hx=> ?_,fun b xs e=>cP b xs (I.base.cP b xs e),fun b o xs e=>eN b o xs (I.base.eN b o xs e),fun b ps e=> ?_⟩, ?_,fun x c e=> ?_, ?_,fun x c e=> ?_,fun p hp=> ?_,aN,I.len⟩
 ·exact keep b o (Ms b o e) hb (vo b o e hx) (I.base.keep b o e n hb hx) (I.base.free b o e n hx)
 ·obtain⟨sl,e1⟩:=I.base.slot b o e n hb hx
  obtain⟨zv,e2⟩:=slot b _ (Ms b o e) hb (vo b o e hx) e1 (I.base.free b o e n hx)
  exact⟨zv,e2⟩
 ·obtain⟨o',e1⟩:=I.base.there b o e hx
  exact free b o' (vo b o e hx) e1 (I.base.free b o e n hx)
 ·obtain⟨o',e1⟩:=I.base.there b o e hx
  exact there b o' (vo b o e hx) e1
 ·obtain⟨m1,e1⟩:=I.base.eZ b ps e
  obtain⟨m2,e2⟩:=eZ b _ e1
  exact⟨m1++m2,by rw[e2,Array.append_assoc]⟩
 ·obtain⟨m,hn,hl⟩:=I.loc
  refine⟨m,ns m hn,fun i x v e1 e2 e3=> ?_⟩
  obtain⟨u,r,l⟩:=hl i x v e1 e2 e3
  refine⟨u,r, ?_⟩
  rcases l with l | ⟨k,c,e,z⟩
  ·exact .inl l
  ·exact .inr ⟨k,c,e,cellK x c e _ z⟩
 ·obtain⟨v,z⟩:=I.cell x c e
  exact⟨v,cellK x c e v z⟩
 ·obtain⟨m,⟨o,_,_,ho,_⟩,_⟩:=I.loc
  exact free _ o (fun z=> (dz _ z).2.1 rfl) ho I.free
 ·obtain⟨v,o,ho,hd⟩:=I.cell x c e
  exact free c o (fun z=> (dz c z).2.2.1 x c e rfl) ho (I.fo x c e)
 ·obtain⟨e,n,ne,nf,d⟩:=I.pin p hp
  have rT:p.1∉ch:=fun z=> (dz p.1 z).2.2.2 p hp rfl
  exact⟨keep p.1 p.2 ne nf rT e n,free p.1 p.2 rT e n,ne,nf,d⟩
theorem Inv.un{t':Nat}(I:Inv X pins σ H s)(u:Un X.fs [] H H' s.heap h')(aN:cy X.prog X.w H' h'):Inv X pins σ H' {s with heap:=h',toks:=t'}:=by
 obtain⟨m,⟨o,es,ep,ho,r⟩,_⟩:=id I.loc
 obtain⟨sl,hL⟩:=u.any ho I.free (by simp)
 exact I.step (g':=s.gens) (d':=s.drawn) (ch:=[]) (fun _ z=>nomatch z) (fun b o _ hb _ e n=>u.keep b o e n hb (by simp)) (fun b o _ hb _ e n=>u.slot b o e n hb (by simp)) (fun b o _ e n=>u.free b o e n (by simp)) (fun b o _ e=>u.there b o e (by simp)) u.cP u.eN u.eZ (fun m' hm=>by
  obtain⟨o',zw,zx,dS,r'⟩:=hm
  rw[ho] at dS;cases dS
  exact⟨_,zw,zx,hL,r'⟩) aN I.bare
theorem Inv.call{g':Array GenState}{t':Nat}{d':Drawn}{ch:List Addr}(I:Inv X pins σ H s)(u:Un (cb X.stack) ch H H' s.heap h')(aN:cy X.prog X.w H' h')(hg:AllBare g')
  (dz: ∀b∈ch,(b∈X.ex∨X.s₀.heap.objs.size≤b)∧b≠X.env.locals∧(∀x c,X.env.cells.lookup x=some c→c≠b)∧ ∀p∈X.pn++pins,p.1≠b):
  Inv X pins σ H' {s with heap:=h',gens:=g',drawn:=d',toks:=t'}:=by
 obtain⟨m,⟨o,es,ep,ho,r⟩,_⟩:=id I.loc
 obtain⟨sl,hL⟩:=u.any ho I.free fun z=> (dz _ z).2.1 rfl
 exact I.step (ch:=ch) dz (fun b o hL hb hc e n=>u.keep b o e n (fun z=> (List.mem_cons.mp (I.vk b z)).elim hL hb) hc) (fun b o _ _ hc e n=>u.any e n hc) (fun b o hc e n=>u.free b o e n hc) (fun b o hc e=>u.there b o e hc) u.cP u.eN u.eZ (fun m' hm=>by
  obtain⟨o',zw,zx,dS,r'⟩:=hm
  rw[ho] at dS;cases dS
  exact⟨_,zw,zx,hL,r'⟩) aN hg
theorem Inv.turned{t':Nat}{it:Addr}(I:Inv X pins σ H s)(k: ∀b o,b≠it→s.heap.get? b=some o→h'.get? b=some o)(hn:H it=none)(hL:it≠X.env.locals)
  (h1:it∈X.ex∨X.s₀.heap.objs.size≤it) (h2: ∀x c,X.env.cells.lookup x=some c→c≠it) (h3: ∀p∈X.pn++pins,p.1≠it):Inv X pins σ H {s with heap:=h',toks:=t'}:=by
 have Mt: ∀b u,H b=some u→b≠it:=fun b u e z=>by rw[z,hn] at e;cases e
 refine I.step (g':=s.gens) (d':=s.drawn) (ch:=[it]) (fun b hb=> ?_) (fun b o _ _ hc e _=>k b o (fun z=>hc (by simp[z])) e) (fun b o _ _ hc e _=> ⟨o.slots,k b o (fun z=>hc (by simp[z])) e⟩) (fun _ _ _ _ n=>n)
  (fun b o hc e=> ⟨o,k b o (fun z=>hc (by simp[z])) e⟩) (fun _ _ e=>e) (fun _ _ _ e=>e) (fun b ps e=> ⟨#[],by rw[e];simp⟩) (fun m hm=> ?_) (fun b u e=> ?_) I.bare
 ·have e:b=it:=by simpa using hb
  subst e
  exact⟨h1,hL,h2,h3⟩
 ·obtain⟨o,es,ep,ho,r⟩:=hm
  exact⟨o,es,ep,k _ o (Ne.symm hL) ho,r⟩
 ·refine(I.aN b u e).jb (fun c v hc q=>k c v ?_ q) (fun _ q=>q) fun _ _ q=>q
  rcases hc with z | z
  ·rw[z];exact Mt b u e
  ·exact Mt c _ z
theorem Inv.tok(I:Inv X pins σ H s)(t:Nat):Inv X pins σ H {s with toks:=t}:=I.un (h':=s.heap) (t':=t) Un.refl I.aN
theorem Inv.kept{t':Nat}(I:Inv X pins σ H s)(k: ∀b u,s.heap.get? b=some u→h'.get? b=some u):Inv X pins σ H {s with heap:=h',toks:=t'}:=I.un (Un.kept k) (I.aN.kept k)
theorem Inv.laid{a:Addr}{o:HO}{t':Nat}(I:Inv X pins σ H s)(k: ∀b u,s.heap.get? b=some u→h'.get? b=some u)(hp:s.heap.objs.size≤a)(new:cM X.prog X.w (upd H a o) h' a o):
  Inv X pins σ (upd H a o) {s with heap:=h',toks:=t'}:=I.un (Un.laid k hp (I.aN.fresh hp)) (I.aN.laid k hp new)
theorem Inv.write{x e:Addr}{o:HO}{t':Nat}(I:Inv X pins σ H s)(mu:vf (H x))(he:e=x∨H e=some (.own x))(k: ∀b u,b≠e→s.heap.get? b=some u→h'.get? b=some u)(pS: ∃u,h'.get? e=some u)
  (new:cM X.prog X.w (upd H x o) h' x o):Inv X pins σ (upd H x o) {s with heap:=h',toks:=t'}:=I.un (Un.write mu he k pS) (I.aN.write mu he k pS new)
theorem Inv.pT{hV:List (Addr×Obj)}(I:Inv X pins σ H s)(h: ∀p∈hV,s.heap.get? p.1=some p.2∧H p.1=none∧p.1≠X.env.locals∧p.1∉X.fs∧ ∀v,p.2.data≠ .cell v):Inv X hV σ H s:=
 ⟨I.ok,I.os,I.bare,I.base,I.loc,I.cell,I.free,I.fo,fun p hp=> (List.mem_append.mp hp).elim (fun z=>I.pin p (List.mem_append_left _ z)) (h p),I.aN,I.len⟩
theorem Mu{N:List Str}(hN:N.Nodup){i j:Nat}{x:Str}(a:N[i]?=some x)(b:N[j]?=some x):i=j:=by
 obtain⟨h1,e1⟩:=List.getElem?_eq_some_iff.mp a
 obtain⟨h2,e2⟩:=List.getElem?_eq_some_iff.mp b
 exact(List.getElem_inj hN).mp (e1.trans e2.symm)
theorem WX{M:Model}{A:Around}{E:Value→Shared→Prop}{i:Nat}{x:Str}{v:V}{u:Value}{Q:Unit→Shared→Prop}(I:Inv X pins σ H s)(hN:X.N.Nodup)(hi:X.N[i]?=some x)(hx:Loc X.env.scope x)(r:RelV v u)
  (h: ∀s',Inv X pins (σ.set i (some v)) H s'→(∃a,Heap.SameBut a s.heap s'.heap∧(a=X.env.locals∨X.env.cells.lookup x=some a))→Q () s') (hf:X.fn x=true∨X.env.scope.names.lookup x=some .local:=by first | exact .inl rfl | exact .inr rfl | assumption):wpAny M A (storeName X.env x u) Q E s:=by
 obtain⟨m,hn,hl⟩:=id I.loc
 have WY:(X.env.scope.kind== .class || (X.env.scope.kind== .module && X.env.locals !=X.env.globals))=false:=by rw[I.ok.kind];rfl
 have Mv:i<σ.length:=by rw[I.len];exact(List.getElem?_eq_some_iff.mp hi).1
 have mB:=I.mB
 have tracked: ∀{a:Addr} {h':Heap},(∃o,s.heap.get? a=some o∧H a=none)→Heap.SameBut a s.heap h'→cy X.prog X.w H h':=fun {a h'} ha hs b ob e=>by
  obtain⟨_,_,Mw⟩:=ha
  refine(I.aN b ob e).jb (fun c w' hc q=> (hs.2 c ?_).trans q) (fun _ q=>q) fun _ _ q=>q
  rintro rfl
  rcases hc with rfl | hc
  ·rw[Mw] at e;cases e
  ·rw[Mw] at hc;cases hc
 rcases hx with hk | hk
 ·refine wpAny_storeName_local hk hn (fun h' zy hs=> ?_) WY
  obtain⟨oL,_,_,WZ,_⟩:=id hn
  refine h _ ⟨I.ok,I.os,I.bare,⟨fun b o e n hb hx=> ?_,fun b o e n hb hx=> ?_,I.base.free,fun b o e hx=> ?_,I.base.cP,I.base.eN,I.base.eZ⟩,⟨_,zy,fun j y v' e1 e2 e3=> ?_⟩,fun y c e=> ?_,I.free,I.fo,fun p hp=> ?_,tracked ⟨oL,WZ,I.free⟩ hs,by simpa using I.len⟩ ⟨_,hs, .inl rfl⟩
  ·exact(hs.2 b (Nat.ne_of_lt (Nat.lt_of_lt_of_le (Heap.lt_size e) I.ok.above))).trans (I.base.keep b o e n hb hx)
  ·obtain⟨sl,e1⟩:=I.base.slot b o e n hb hx
   exact⟨sl,(hs.2 b (Nat.ne_of_lt (Nat.lt_of_lt_of_le (Heap.lt_size e) I.ok.above))).trans e1⟩
  ·obtain⟨o',e1⟩:=I.base.there b o e hx
   exact⟨o',(hs.2 b (Nat.ne_of_lt (Nat.lt_of_lt_of_le (Heap.lt_size e) I.ok.above))).trans e1⟩
  ·by_cases hj:j=i
   ·subst hj
    rw[hi] at e1;cases e1
    rw[List.getElem?_set_self Mv] at e2
    cases e2
    exact⟨u,r, .inl ⟨hk,by simp⟩⟩
   ·rw[List.getElem?_set_ne (Ne.symm hj)] at e2
    obtain⟨u',r',q⟩:=hl j y v' e1 e2 e3
    refine⟨u',r', ?_⟩
    rcases q with⟨k,e⟩ | ⟨k,c,e,z⟩
    ·refine .inl ⟨k, ?_⟩
     have:y≠x:=fun e=>hj (Mu hN e1 (e ▸ hi))
     simp[this,e]
    ·exact .inr ⟨k,c,e,z.sameBut hs (mB y c e)⟩
  ·obtain⟨w',z⟩:=I.cell y c e
   exact⟨w',z.sameBut hs (mB y c e)⟩
  ·obtain⟨e,n,ne,nf,d⟩:=I.pin p hp
   exact⟨(hs.2 p.1 ne).trans e,n,ne,nf,d⟩
 ·have zz:X.fn x=true:=by
   rcases hf with z | z
   ·exact z
   ·rw[z] at hk;cases hk
  obtain⟨c,hc⟩:=I.ok.has x (.inl hk)
  obtain⟨w',z⟩:=I.cell x c hc
  refine wpAny_storeName_cell I.ok.kind hk hc z (fun h' fY hs=> ?_)
  obtain⟨oc,Mx,W0⟩:=id z
  refine h {s with heap:=h'} ⟨I.ok,I.os,I.bare,⟨fun b o e n hb hx=> ?_,fun b o e n hb hx=> ?_,I.base.free,fun b o e hx=> ?_,I.base.cP,I.base.eN,I.base.eZ⟩,⟨m,hn.sameBut hs (Ne.symm (mB x c hc)),fun j y v' e1 e2 e3=> ?_⟩,fun y c' e=> ?_,I.free,I.fo,fun p hp=> ?_,tracked ⟨oc,Mx,I.fo x c hc⟩ hs,by simpa using I.len⟩ ⟨c,hs, .inr hc⟩
  ·exact(hs.2 b (Nat.ne_of_lt (Nat.lt_of_lt_of_le (Heap.lt_size e) (I.ok.vh x c zz hc)))).trans (I.base.keep b o e n hb hx)
  ·obtain⟨sl,e1⟩:=I.base.slot b o e n hb hx
   exact⟨sl,(hs.2 b (Nat.ne_of_lt (Nat.lt_of_lt_of_le (Heap.lt_size e) (I.ok.vh x c zz hc)))).trans e1⟩
  ·obtain⟨o',e1⟩:=I.base.there b o e hx
   exact⟨o',(hs.2 b (Nat.ne_of_lt (Nat.lt_of_lt_of_le (Heap.lt_size e) (I.ok.vh x c zz hc)))).trans e1⟩
  ·by_cases hj:j=i
   ·subst hj
    rw[hi] at e1;cases e1
    rw[List.getElem?_set_self Mv] at e2
    cases e2
    exact⟨u,r, .inr ⟨.inl hk,c,hc,fY⟩⟩
   ·rw[List.getElem?_set_ne (Ne.symm hj)] at e2
    obtain⟨u',r',q⟩:=hl j y v' e1 e2 e3
    refine⟨u',r', ?_⟩
    rcases q with q | ⟨k,c',e,z'⟩
    ·exact .inl q
    ·refine .inr ⟨k,c',e,z'.sameBut hs ?_⟩
     rintro rfl
     exact hj (Mu hN e1 (I.ok.inj _ _ _ e hc ▸ hi))
  ·by_cases My:c'=c
   ·subst My;exact⟨_,fY⟩
   ·obtain⟨w2,z2⟩:=I.cell y c' e
    exact⟨w2,z2.sameBut hs My⟩
  ·obtain⟨e,n,ne,nf,d⟩:=I.pin p hp
   refine⟨(hs.2 p.1 ?_).trans e,n,ne,nf,d⟩
   intro q
   rw[q,Mx] at e
   have q':oc=p.2:=Option.some.inj e
   exact d w' (by rw[←q'];exact W0)
theorem zA{M:Model}{A:Around}{E:Value→Shared→Prop}{i:Nat}{x:Str}{v:V}{u:Value}{Q:Unit→Shared→Prop}(I:Inv X pins σ H s)(hN:X.N.Nodup)(hi:X.N[i]?=some x)(hx:Loc X.env.scope x)(r:RelV v u)
  (h: ∀s',Inv X pins (σ.set i (some v)) H s'→Q () s') (hf:X.fn x=true∨X.env.scope.names.lookup x=some .local:=by first | exact .inl rfl | exact .inr rfl | assumption):wpAny M A (storeName X.env x u) Q E s:=
 WX I hN hi hx r (fun s' I' _=>h s' I') hf
theorem Inv.zB{s':Shared}{ch:List Addr}(I:Inv X pins σ H s)(ho:s'.os=s.os)(u:Un (cb X.stack) ch H H' s.heap s'.heap)(aN:cy X.prog X.w H' s'.heap)(hg:AllBare s'.gens)
  (dz: ∀b∈ch,(b∈X.ex∨X.s₀.heap.objs.size≤b)∧b≠X.env.locals∧(∀x c,X.env.cells.lookup x=some c→c≠b)∧ ∀p∈X.pn++pins,p.1≠b):Inv X pins σ H' s':=by
 obtain⟨h',g',d',t',o'⟩:=s'
 have e:o'=s.os:=ho
 subst e
 exact I.call (g':=g') (t':=t') (d':=d') u aN hg dz
end
abbrev XK:=Value→Option Addr→Hp→Prop
abbrev St:=List (Option V)
abbrev VK:=V→Hp→Prop
abbrev TE:=St→Hp→VK→Prop
abbrev TT:=St→Hp→(Bool→Hp→Prop)→Prop
abbrev TA:=St→Hp→(List V→Hp→Prop)→Prop
structure Ends where
 nx:St→Hp→Prop
 rt:VK
 bk:St→Hp→Prop:=fun _ _=>False
 ct:St→Hp→Prop:=fun _ _=>False
abbrev TS:=Ends→St→Hp→Prop
def EP(X:Cx)(pins:List (Addr×Obj))(σ:St)(Q:VK)(u:Value)(s':Shared):Prop:= ∃v H',Inv X pins σ H' s'∧RelV v u∧Q v H'
def TP(X:Cx)(pins:List (Addr×Obj))(σ:St)(Q:Bool→Hp→Prop)(b:Bool)(s':Shared):Prop:= ∃H',Inv X pins σ H' s'∧Q b H'
def AP(X:Cx)(pins:List (Addr×Obj))(σ:St)(Q:List V→Hp→Prop)(us:List Value)(s':Shared):Prop:= ∃vs H',Inv X pins σ H' s'∧Vals vs us∧Q vs H'
def SP(X:Cx)(pins:List (Addr×Obj))(D:Ends)(f:Flow)(s':Shared):Prop:=
 match f with
 | .next=> ∃σ' H',Inv X pins σ' H' s'∧D.nx σ' H'
 | .brk=> ∃σ' H',Inv X pins σ' H' s'∧D.bk σ' H'
 | .cont=> ∃σ' H',Inv X pins σ' H' s'∧D.ct σ' H'
 | .ret u=> ∃v σ' H',Inv X pins σ' H' s'∧RelV v u∧D.rt v H'
def PE(X:Cx)(e:Expr)(t:TE):Prop:=
 ∀(pins:List (Addr×Obj)) (s:Shared) (σ:St) (H:Hp) (Q:VK),Inv X pins σ H s→t σ H Q→wpAny (model X.prog X.w) X.A (eval e X.env) (EP X pins σ Q) X.xe s
def PT(X:Cx)(e:Expr)(t:TT):Prop:=
 ∀(pins:List (Addr×Obj)) (s:Shared) (σ:St) (H:Hp) (Q:Bool→Hp→Prop),Inv X pins σ H s→t σ H Q→wpAny (model X.prog X.w) X.A (isTrue e X.env (eval e X.env)) (TP X pins σ Q) X.xe s
def PW(X:Cx)(e:Expr)(t:TT):Prop:=
 ∀(whole:Sem Value) (pins:List (Addr×Obj)) (s:Shared) (σ:St) (H:Hp) (Q:Bool→Hp→Prop),Inv X pins σ H s→t σ H Q→wpAny (model X.prog X.w) X.A (isTrue e X.env whole) (TP X pins σ Q) X.xe s
theorem PW.pt{X:Cx}{e:Expr}{t:TT}(h:PW X e t):PT X e t:=h _
def PA(X:Cx)(es:List Expr)(t:TA):Prop:=
 ∀(pos:Pos) (pins:List (Addr×Obj)) (s:Shared) (σ:St) (H:Hp) (Q:List V→Hp→Prop),Inv X pins σ H s→t σ H Q→wpAny (model X.prog X.w) X.A (spliced (backTo pos (starEach es X.env))) (AP X pins σ Q) X.xe s
def PS(X:Cx)(st:Stmt)(t:TS):Prop:=
 ∀(pins:List (Addr×Obj)) (s:Shared) (σ:St) (H:Hp) (D:Ends),Inv X pins σ H s→t D σ H→wpAny (model X.prog X.w) X.A (exec st X.env) (SP X pins D) X.xe s
def a_(X:Cx)(st:List Stmt)(t:TS):Prop:=
 ∀(pins:List (Addr×Obj)) (s:Shared) (σ:St) (H:Hp) (D:Ends),Inv X pins σ H s→t D σ H→wpAny (model X.prog X.w) X.A (execs st X.env) (SP X pins D) X.xe s
theorem bj{α:Type}{t:Sem α}{Q Q':α→Shared→Prop}{M:Model}{A:Around}{E:Value→Shared→Prop}{s:Shared}(h:wpAny M A t Q E s)(hQ: ∀a s,Q a s→Q' a s):wpAny M A t Q' E s:=wpAny_mono h hQ fun _ _ x=>x
section
variable {X:Cx}
def zC(i:Nat):TE:=fun σ H Q=> ∃v,σ[i]?=some (some v)∧Q v H
def tC(v:V):TE:=fun _ H Q=>Q v H
theorem W2{i:Nat}{x:Str}{pos:Pos}(hN:X.N[i]?=some x)(hv:vg X.env.scope x)(hd:(x==("__debug__":Str))=false:=by decide)(fq:(x==("__classdict__":Str))=false:=by decide):PE X (.Name x pos) (zC i):=by
 intro pins s σ H Q I h
 obtain⟨v,e,h⟩:=h
 obtain⟨m,hn,hl⟩:=I.loc
 obtain⟨u,r,l⟩:=hl i x v hN e hv
 have fin:EP X pins σ Q u s:=⟨v,H,I,r,h⟩
 rcases l with⟨hk,hm⟩ | ⟨hk,c,hc,Mz⟩
 ·exact wpAny_Name (wpAny_loadName_local I.ok.kind hk hn hm fin) hd
 ·rcases hk with hk | hk
  ·exact wpAny_Name (wpAny_loadName_cell I.ok.kind hk hc Mz fin) hd
  ·exact wpAny_Name (wpAny_loadName_free I.ok.kind hk hc Mz fin fq) hd
theorem W3{i j pos}:PE X (.Constant (.int i) j pos) (tC (.int i)):=fun _ _ _ H _ I h=>wpAny_Constant_int ⟨.int i,H,I.tok _,⟨_,rfl⟩,h⟩
theorem W4{b j pos}:PE X (.Constant (.bool b) j pos) (tC (.bl b)):=fun _ _ _ H _ I h=>Constant_bool ⟨.bl b,H,I,rfl,h⟩
theorem W5{j pos}:PE X (.Constant .none j pos) (tC .az):=fun _ _ _ H _ I h=>Constant_none ⟨.az,H,I,rfl,h⟩
theorem W6{x j pos}:PE X (.Constant (.str x) j pos) (tC (.str x)):=fun _ _ _ H _ I h=>Calls.Constant_str ⟨.str x,H,I.tok _,⟨_,rfl⟩,h⟩
def Gl(X:Cx)(x:Str):Prop:=X.env.kindOf x=some .globalImplicit
theorem pU{E:Value→Shared→Prop}{pins:List (Addr×Obj)}{s:Shared}{σ:St}{H:Hp}{x:Str}{u:Value}{pos:Pos}{Q:Value→Shared→Prop}(I:Inv X pins σ H s)(hg:Gl X x)(hm:X.mg x=some u)(h:Q u s)
  (hd:(x==("__debug__":Str))=false:=by decide):wpAny (model X.prog X.w) X.A (eval (.Name x pos) X.env) Q E s:=
 Calls.Name_function_global I.ok.kind hg (Calls.loadGlobal_global (by rw[I.ok.glob];exact I.mod.glob.keeps I.bk) hm h) hd
theorem rV{E:Value→Shared→Prop}{pins:List (Addr×Obj)}{s:Shared}{σ:St}{H:Hp}{x:Str}{u:Value}{pos:Pos}{Q:Value→Shared→Prop}(I:Inv X pins σ H s)(hg:Gl X x)(hm:X.mg x=none)(hv:bootBuiltins x=some u)(h:Q u s)
  (hn:x≠"__name__":=by decide) (hd:(x==("__debug__":Str))=false:=by decide):wpAny (model X.prog X.w) X.A (eval (.Name x pos) X.env) Q E s:=by
 obtain⟨mb,h1,h2⟩:=I.mod.blt
 exact Calls.Name_function_global I.ok.kind hg (Calls.loadGlobal_builtin (by rw[I.ok.glob];exact I.mod.glob.keeps I.bk) hm (by rw[I.ok.blt];exact h1.keeps I.bk) ((h2 x hn).trans hv) h) hd
theorem MA{x:Str}{v:V}{u:Value}{pos:Pos}(hg:Gl X x)(hm:X.mg x=some u)(r:RelV v u)(hd:(x==("__debug__":Str))=false:=by decide):PE X (.Name x pos) (tC v):=
 fun _ _ _ H _ I h=>pU I hg hm ⟨v,H,I,r,h⟩ hd
theorem MB{x:Str}{v:V}{u:Value}{pos:Pos}(hg:Gl X x)(hm:X.mg x=none)(hv:bootBuiltins x=some u)(r:RelV v u)(hn:x≠"__name__":=by decide)(hd:(x==("__debug__":Str))=false:=by decide):PE X (.Name x pos) (tC v):=
 fun _ _ _ H _ I h=>rV I hg hm hv ⟨v,H,I,r,h⟩ hn hd
variable {a b:Expr} {ta tb:TE} {pos:Pos}
def tB(t:TE):TT:=fun σ H Q=>t σ H fun x H1=> ∃c,x= .bl c∧Q c H1
variable {tA vp:TT} {rest:List Expr}
def MC(t u:TT):TT:=fun σ H Q=>t σ H fun c H1=>if c=true then u σ H1 Q else Q false H1
def MD(t u:TT):TT:=fun σ H Q=>t σ H fun c H1=>if c=true then Q true H1 else u σ H1 Q
def ME(t:TT):TT:=fun σ H Q=>t σ H fun c H1=>Q (!c) H1
theorem pw_and1(ha:PT X a tA):PW X (.BoolOp .And [a] pos) tA:=by
 intro wh pins s σ H Q I h
 refine isTrue_and (bj (ha pins s σ H Q I h) fun c s1 e=> ?_)
 cases c with
 | true=>exact isTrue_and_nil e
 | false=>exact e
theorem pw_or1(ha:PT X a tA):PW X (.BoolOp .Or [a] pos) tA:=by
 intro wh pins s σ H Q I h
 refine isTrue_or (bj (ha pins s σ H Q I h) fun c s1 e=> ?_)
 cases c with
 | false=>exact isTrue_or_nil e
 | true=>exact e
theorem pw_and(ha:PT X a tA)(hb:PW X (.BoolOp .And (b::rest) pos) vp):PW X (.BoolOp .And (a::b::rest) pos) (MC tA vp):=by
 intro wh pins s σ H Q I h
 refine isTrue_and (bj (ha pins s σ H _ I h) fun c s1 ⟨H1,I1,q1⟩=> ?_)
 cases c with
 | true=>exact hb wh pins s1 σ H1 Q I1 q1
 | false=>exact⟨H1,I1,q1⟩
theorem pw_or(ha:PT X a tA)(hb:PW X (.BoolOp .Or (b::rest) pos) vp):PW X (.BoolOp .Or (a::b::rest) pos) (MD tA vp):=by
 intro wh pins s σ H Q I h
 refine isTrue_or (bj (ha pins s σ H _ I h) fun c s1 ⟨H1,I1,q1⟩=> ?_)
 cases c with
 | true=>exact⟨H1,I1,q1⟩
 | false=>exact hb wh pins s1 σ H1 Q I1 q1
theorem W7(ha:PT X a tA):PT X (.UnaryOp .Not a pos) (ME tA):=by
 intro pins s σ H Q I h
 exact isTrue_not (ha pins s σ H (fun c H1=>Q (!c) H1) I h)
def MF(ta tb:TE):TE:=fun σ H Q=>ta σ H fun x H1=> ∃c,x= .bl c∧if c=true then tb σ H1 Q else Q (.bl false) H1
def MG(ta tb:TE):TE:=fun σ H Q=>ta σ H fun x H1=> ∃c,x= .bl c∧if c=true then Q (.bl true) H1 else tb σ H1 Q
theorem MH{op}{t:TE}(h:PE X a t):PE X (.BoolOp op [a] pos) t:=fun pins s σ H Q I hw=>BoolOp_one (h pins s σ H Q I hw)
theorem W8(ha:PE X a ta)(hb:PE X (.BoolOp .And (b::rest) pos) tb):PE X (.BoolOp .And (a::b::rest) pos) (MF ta tb):=by
 intro pins s σ H Q I h
 refine BoolOp_and (bj (ha pins s σ H _ I h) fun v s1 ⟨x,H1,I1,r1,q1⟩=> ?_)
 obtain⟨c,rfl,q1⟩:=q1
 cases r1
 refine wpAny_truthy_bool ?_
 cases c with
 | true=>exact hb pins s1 σ H1 Q I1 q1
 | false=>exact⟨.bl false,H1,I1,rfl,q1⟩
theorem W9(ha:PE X a ta)(hb:PE X (.BoolOp .Or (b::rest) pos) tb):PE X (.BoolOp .Or (a::b::rest) pos) (MG ta tb):=by
 intro pins s σ H Q I h
 refine BoolOp_or (bj (ha pins s σ H _ I h) fun v s1 ⟨x,H1,I1,r1,q1⟩=> ?_)
 obtain⟨c,rfl,q1⟩:=q1
 cases r1
 refine wpAny_truthy_bool ?_
 cases c with
 | false=>exact hb pins s1 σ H1 Q I1 q1
 | true=>exact⟨.bl true,H1,I1,rfl,q1⟩
def MI(t:TT)(ta tb:TE):TE:=fun σ H Q=>t σ H fun c H1=>if c=true then ta σ H1 Q else tb σ H1 Q
theorem W_{c:Expr}(hc:PT X c tA)(ha:PE X a ta)(hb:PE X b tb):PE X (.IfExp c a b pos) (MI tA ta tb):=by
 intro pins s σ H Q I h
 refine wpAny_IfExp (bj (hc pins s σ H _ I h) fun d s1 ⟨H1,I1,q1⟩=> ?_)
 cases d with
 | true=>exact ha pins s1 σ H1 Q I1 q1
 | false=>exact hb pins s1 σ H1 Q I1 q1
end
def aP(K:PySem.W.Frag)(H:Hp)(a:Addr)(xs:List V):Prop:=
 Rd H a (.lst xs)∨
  ∃(o:Obj) (its:Array Value) (n:Nat),K.lookup a=some o∧o.cls= .type "list"∧o.dict=none∧o.data= .seq its n∧its.size≤sizeLine∧Vals xs its.toList
def bq(K:PySem.W.Frag)(H:Hp)(a:Addr)(xs:List V):Prop:=
 Rd H a (.tup xs)∨
  ∃(o:Obj) (its:Array Value) (n:Nat),K.lookup a=some o∧o.cls= .type "tuple"∧o.data= .seq its n∧its.size≤sizeLine∧Vals xs its.toList
def Xa:Value→Option V
 | .none=>some .az
 | .bool b=>some (.bl b)
 | .int i _=>some (.int i)
 | .str x _=>some (.str x)
 | .bytes b _=>some (.eM b)
 | .float b _=>some (.ky b)
 | .ref a=>some (.ref a)
 | .type n=>some (.ty n)
 | _=>none
theorem RelV.abs{x:V}{u:Value}(r:RelV x u):Xa u=some x:=by
 cases x with
 | az=>cases r;rfl
 | bl _=>cases r;rfl
 | int _=>obtain⟨t,rfl⟩:=r;rfl
 | str _=>obtain⟨t,rfl⟩:=r;rfl
 | eM _=>obtain⟨t,rfl⟩:=r;rfl
 | ky _=>obtain⟨t,rfl⟩:=r;rfl
 | ref _=>cases r;rfl
 | ty _=>cases r;rfl
theorem RelV.inj{x y:V}{u:Value}(r:RelV x u)(q:RelV y u):x=y:=Option.some.inj (r.abs.symm.trans q.abs)
theorem Vals.inj: ∀{xs ys:List V} {us:List Value},Vals xs us→Vals ys us→xs=ys
 | _,_,_, .nil, .nil=>rfl
 | _,_,_, .cons r t, .cons r' t'=>by rw[r.inj r',Vals.inj t t']
section
variable {X:Cx} {pins:List (Addr×Obj)} {σ:St} {H:Hp} {s:Shared} {a:Addr} {xs ys:List V}
theorem aP.of{K:PySem.W.Frag}(h:H a=some (.lst xs)):aP K H a xs:= .inl (.inl h)
theorem bq.of{K:PySem.W.Frag}(h:H a=some (.tup xs)):bq K H a xs:= .inl (.inl h)
theorem Inv.list(I:Inv X pins σ H s)(h:aP X.K H a xs): ∃its:List Value,Vals xs its∧PlainL s.heap a its.toArray∧xs.length≤sizeLine:=by
 rcases h with h | ⟨o,its,n,hk,hc,hd,hs,hz,r⟩
 ·obtain⟨z,its,n,r,e⟩:=h.ok I.aN
  exact⟨its,r,⟨_,n,e,rfl,rfl,rfl⟩,z⟩
 ·refine⟨its.toList,r,⟨o,n,I.cI a o hk,hc,hd,by simpa using hs⟩, ?_⟩
  have e:=r.length
  simp only[Array.length_toList] at e
  omega
theorem Inv.tuple(I:Inv X pins σ H s)(h:bq X.K H a xs): ∃its:List Value,Vals xs its∧IsTup s.heap a its.toArray∧xs.length≤sizeLine:=by
 rcases h with h | ⟨o,its,n,hk,hc,hs,hz,r⟩
 ·obtain⟨z,its,r,p⟩:=h.ok I.aN
  exact⟨its,r,p,z⟩
 ·refine⟨its.toList,r,⟨o,I.cI a o hk,hc,n,by simpa using hs⟩, ?_⟩
  have e:=r.length
  simp only[Array.length_toList] at e
  omega
theorem Inv.MJ(I:Inv X pins σ H s)(h:aP X.K H a xs)(h':aP X.K H a ys):xs=ys:=by
 obtain⟨its,r,⟨o,n,e,_,_,d⟩,_⟩:=I.list h
 obtain⟨eO,r',⟨o',n',e',_,_,d'⟩,_⟩:=I.list h'
 rw[e] at e';cases e'
 rw[d] at d'
 injection d' with d1 _
 have:its=eO:=by simpa using congrArg Array.toList d1
 subst this
 exact r.inj r'
end
section
variable {X:Cx} {pins:List (Addr×Obj)} {σ:St} {H:Hp} {s:Shared} {E:Value→Shared→Prop}
end
section
variable {X:Cx} {st:Stmt} {rest:List Stmt} {t u:TS} {e:Expr} {te:TE} {pos:Pos}
def zD:TS:=fun D σ H=>D.nx σ H
def MK(t u:TS):TS:=fun D σ H=>t {D with nx:=u D} σ H
theorem ML:a_ X [] zD:=fun _ _ σ H _ I h=>wpAny_execs_nil ⟨σ,H,I,h⟩
theorem Xb(h1:PS X st t)(h2:a_ X rest u):a_ X (st::rest) (MK t u):=by
 intro pins s σ H D I h
 refine wpAny_execs_cons (bj (h1 pins s σ H {D with nx:=u D} I h) fun f s1 q=> ?_)
 cases f with
 | next=>
  obtain⟨σ',H',I',q⟩:=q
  exact h2 pins s1 σ' H' D I' q
 | ret v=>exact q
 | brk=>exact q
 | cont=>exact q
def Xd:TS:=fun D σ H=>D.bk σ H
def MM:TS:=fun D σ H=>D.ct σ H
theorem Xe:PS X (.Continue pos) MM:=fun _ _ σ H _ I h=>wpAny_Continue ⟨σ,H,I,h⟩
theorem Inv.quiet{pins:List (Addr×Obj)}{σ:St}{H:Hp}{s:Shared}(I:Inv X pins σ H s):interactive X.env=false:=by simp[interactive,I.ok.kind]
def MN(te:TE):TS:=fun D σ H=>te σ H fun _ H1=>D.nx σ H1
theorem Xf(he:PE X e te)(hs:swapsWith e none pos.line X.env=pure false:=by rfl):PS X (.Expr e pos) (MN te):=by
 intro pins s σ H D I h
 exact wpAny_Expr_any (bj (he pins s σ H _ I h) fun v s1 ⟨x,H1,I1,r1,q1⟩=> ⟨σ,H1,I1,q1⟩) I.quiet hs
def MO(te:TE):TS:=fun D σ H=>te σ H D.rt
theorem Xg(he:PE X e te):PS X (.Return (some e) pos) (MO te):=by
 intro pins s σ H D I h
 exact wpAny_Return_some (bj (he pins s σ H _ I h) fun v s1 ⟨x,H1,I1,r1,q1⟩=> ⟨x,σ,H1,I1,r1,q1⟩)
def Xh:TS:=fun D _ H=>D.rt .az H
def MP(c:TT)(t u:TS):TS:=fun D σ H=>c σ H fun b H1=>if b=true then t D σ H1 else u D σ H1
theorem Xi{c:Expr}{a b:List Stmt}{tc:TT}(hc:PT X c tc)(ha:a_ X a t)(hb:a_ X b u):PS X (.If c a b pos) (MP tc t u):=by
 intro pins s σ H D I h
 refine wpAny_If (bj (hc pins s σ H _ I h) fun d s1 ⟨H1,I1,q1⟩=> ?_)
 cases d with
 | true=>exact ha pins s1 σ H1 D I1 q1
 | false=>exact hb pins s1 σ H1 D I1 q1
def Xj:TS:=fun _ _ _=>False
end
abbrev TG:=V→St→Hp→(St→Hp→Prop)→Prop
abbrev jd:=List V→St→Hp→(St→Hp→Prop)→Prop
def PG(X:Cx)(target:Expr)(t:TG):Prop:=
 ∀(pins:List (Addr×Obj)) (s:Shared) (σ:St) (H:Hp) (v:V) (u:Value) (Q:St→Hp→Prop),Inv X pins σ H s→RelV v u→t v σ H Q→
  wpAny (model X.prog X.w) X.A (assign target X.env u) (fun _ s'=> ∃σ' H',Inv X pins σ' H' s'∧Q σ' H') X.xe s
def pV(X:Cx)(ts:List Expr)(t:jd):Prop:=
 ∀(pins:List (Addr×Obj)) (s:Shared) (σ:St) (H:Hp) (vs:List V) (us:List Value) (Q:St→Hp→Prop),Inv X pins σ H s→Vals vs us→t vs σ H Q→
  wpAny (model X.prog X.w) X.A (assignInOrder ((assignEach ts X.env).map (·.2)) us) (fun _ s'=> ∃σ' H',Inv X pins σ' H' s'∧Q σ' H') X.xe s
abbrev zE:=V→V→V→Hp→(Hp→Prop)→Prop
def MQ(X:Cx)(t:zE):Prop:=
 ∀(pins:List (Addr×Obj)) (s:Shared) (σ:St) (H:Hp) (o i v:V) (ov iv u:Value) (Q:Hp→Prop),Inv X pins σ H s→RelV o ov→RelV i iv→RelV v u→t o i v H Q→
  wpAny (model X.prog X.w) X.A (setItem ov iv u) (fun _ s'=> ∃H',Inv X pins σ H' s'∧Q H') X.xe s
section
variable {X:Cx} {pos:Pos}
def fZ(i:Nat):TG:=fun v σ H Q=>Q (σ.set i (some v)) H
theorem vq{i:Nat}{x:Str}(hN:X.N.Nodup)(hi:X.N[i]?=some x)(hx:Loc X.env.scope x)(hf:X.fn x=true∨X.env.scope.names.lookup x=some .local:=by first | exact .inl rfl | exact .inr rfl | assumption):PG X (.Name x pos) (fZ i):=by
 intro pins s σ H v u Q I r h
 exact wpAny_assign_Name (zA I hN hi hx r (fun s' I'=> ⟨_,H,I',h⟩) hf)
def zF:jd:=fun vs σ H Q=>vs=[]∧Q σ H
def vv(t:TG)(u:jd):jd:=fun vs σ H Q=> ∃v r,vs=v::r∧t v σ H fun σ' H'=>u r σ' H' Q
theorem MR:pV X [] zF:=by
 intro pins s σ H vs us Q I r h
 obtain⟨e,h⟩:=h
 subst e
 cases r
 exact assignInOrder_nil ⟨σ,H,I,h⟩
theorem zG{e:Expr}{es:List Expr}{t:TG}{u:jd}(h1:PG X e t)(h2:pV X es u)
  (hs:(assignEach (e::es) X.env).map (·.2)=assign e X.env::(assignEach es X.env).map (·.2):=by rfl):pV X (e::es) (vv t u):=by
 intro pins s σ H vs us Q I r h
 obtain⟨v,vr,e1,h⟩:=h
 subst e1
 cases r with
 | cons r rr=>
  rw[hs]
  refine assignInOrder_cons (bj (h1 pins s σ H _ _ _ I r h) fun _ s1 ⟨σ1,H1,I1,q1⟩=> ?_)
  exact h2 pins s1 σ1 H1 _ _ Q I1 rr q1
def MS(K:PySem.W.Frag)(n:Nat)(t:jd):TG:=fun v σ H Q=> ∃a xs,v= .ref a∧bq K H a xs∧xs.length=n∧t xs σ H Q
theorem MT{es:List Expr}{k:Nat}{t:jd}{n:Nat}(hc:X.calm=true)(h:pV X es t)
  (hn:(assignEach es X.env).length=n:=by rfl) (kA:(assignEach es X.env).findIdx? (·.1)=none:=by rfl):PG X (.Tuple es k pos) (MS X.K n t):=by
 intro pins s σ H v u Q I r hw
 obtain⟨a,xs,e1,hq,hl,hw⟩:=hw
 subst e1
 cases r
 obtain⟨its,rv,ht,hz⟩:=I.tuple hq
 refine assign_Tuple_tuple (I.ok.hd hc) ht (by simp[hn,←hl,rv.length]) kA fun h' hx=> ?_
 have I1:Inv X pins σ H {s with heap:=h'}:=I.kept (t':=s.toks) fun b o e=>hx b o (Nat.ne_of_lt (Heap.lt_size e)) e
 exact h pins _ σ H xs _ Q I1 (by simpa using rv) hw
def MU(to ti:TE)(t:zE):TG:=fun v σ H Q=>to σ H fun o H1=>ti σ H1 fun i H2=>t o i v H2 fun H3=>Q σ H3
theorem Xk{o i:Expr}{to ti:TE}{t:zE}(ho:PE X o to)(hi:PE X i ti)(hs:MQ X t)
  (ha: ∀v,assign (.Subscript o i pos) X.env v=(do
   let ov ←holding [v] (eval o X.env)
   let iv ←holding [v,ov] (eval i X.env)
   standAt pos
   holding [v,ov,iv] (setItem ov iv v)
   release [v,ov,iv] []):=by intro _;rfl):PG X (.Subscript o i pos) (MU to ti t):=by
 intro pins s σ H v u Q I r h
 rw[ha]
 refine wpAny_bind (wpAny_holding (bj (ho pins s σ H _ I h) fun ov s1 ⟨x,H1,I1,r1,q1⟩=> ?_))
 refine wpAny_bind (wpAny_holding (bj (hi pins s1 σ H1 _ I1 q1) fun iv s2 ⟨y,H2,I2,r2,q2⟩=> ?_))
 refine wpAny_bind (wpAny_standAt (wpAny_bind (wpAny_holding (bj (hs pins s2 σ H2 x y v ov iv u _ I2 r1 r2 r q2) fun _ s3 ⟨H3,I3,q3⟩=> ?_))))
 exact wpAny_release ⟨σ,H3,I3,q3⟩
def mD(te:TE)(g:TG):TS:=fun D σ H=>te σ H fun x H1=>g x σ H1 D.nx
theorem Xl{tg e:Expr}{te:TE}{g:TG}(he:PE X e te)(hg:PG X tg g)(hs:swapsWithSole [tg] e pos.line X.env=pure false:=by rfl)(hw:swappedStores [tg] e X.env=pure none:=by rfl)
  (h1:(assignEach [tg] X.env).map (·.2)=[assign tg X.env]:=by rfl):PS X (.Assign [tg] e pos) (mD te g):=by
 intro pins s σ H D I h
 refine wpAny_Assign_stores (bj (he pins s σ H _ I h) fun v s1 ⟨x,H1,I1,r1,q1⟩=> ?_) hs hw
 rw[h1]
 exact bj (hg pins s1 σ H1 x v _ I1 r1 q1) fun _ s2 q=>q
theorem Xm{i:Nat}{x:Str}{e:Expr}{te:TE}{pos':Pos}(hN:X.N.Nodup)(hi:X.N[i]?=some x)(hx:Loc X.env.scope x)(he:PE X e te)(hs:swapsWith e (some (.Name x pos')) pos.line X.env=pure false:=by rfl)(hf:X.fn x=true∨X.env.scope.names.lookup x=some .local:=by first | exact .inl rfl | exact .inr rfl | assumption):
  PS X (.Assign [.Name x pos'] e pos) (mD te (fZ i)):=by
 intro pins s σ H D I h
 refine wpAny_Assign_Name (bj (he pins s σ H _ I h) fun v s1 ⟨y,H1,I1,r1,q1⟩=> ?_) hs
 exact zA I1 hN hi hx r1 (fun s2 I2=> ⟨_,H1,I2,q1⟩) hf
end
section
variable {X:Cx} {pos:Pos}
def MV(c:TT)(tb:TS):TS:=fun D σ H=> ∃W:Nat→St→Hp→Prop,(∃m,W m σ H)∧ ∀m σ H,W m σ H→
 c σ H fun b H1=>if b=true then ∃N:St→Hp→Prop,(∀σ' H',N σ' H'→ ∃m',m'<m∧W m' σ' H')∧tb {D with nx:=N,ct:=N,bk:=D.nx} σ H1 else D.nx σ H1
theorem Xn{c:Expr}{body:List Stmt}{tc:TT}{tb:TS}(hp:PassesOwn (model X.prog X.w) X.A X.env X.xe)(hc:PT X c tc)(hb:a_ X body tb):PS X (.While c body [] pos) (MV tc tb):=by
 intro pins s σ H D I h
 obtain⟨W,⟨m0,w0⟩,turn⟩:=h
 refine wpAny_While (codeAny_whileLoop (fun n s'=> ∃σ' H',Inv X pins σ' H' s'∧W n σ' H') ?_ m0 ⟨σ,H,I,w0⟩)
 rintro n s1 ⟨σ1,H1,I1,w1⟩
 refine wpAny_passesOwn hp (bj (hc pins s1 σ1 H1 _ I1 (turn n σ1 H1 w1)) fun b s2 ⟨H2,I2,q2⟩=> ?_)
 cases b with
 | true=>
  obtain⟨N,hN,q2⟩:=q2
  rw[if_pos rfl]
  refine wpAny_passesOwn hp (bj (hb pins s2 σ1 H2 _ I2 q2) fun f s3 q3=> ?_)
  cases f with
  | next=>
   obtain⟨σ3,H3,I3,n3⟩:=q3
   obtain⟨m',hm,w3⟩:=hN σ3 H3 n3
   exact⟨m',hm,σ3,H3,I3,w3⟩
  | cont=>
   obtain⟨σ3,H3,I3,n3⟩:=q3
   obtain⟨m',hm,w3⟩:=hN σ3 H3 n3
   exact⟨m',hm,σ3,H3,I3,w3⟩
  | brk=>exact q3
  | ret v=>exact q3
 | false=>
  rw[if_neg Bool.false_ne_true]
  exact wpAny_execs_nil ⟨σ1,H2,I2,q2⟩
end
structure It where
 go:Nat→Hp→Prop
 gw:Nat→Hp→V→Hp→Prop
 stop:Nat→Hp→Prop
def hX(X:Cx)(pins:List (Addr×Obj))(H:Hp)(b:Addr):Prop:=
 H b=none∧b≠X.env.locals∧b∉X.fs∧(b∈X.ex∨X.s₀.heap.objs.size≤b)∧(∀x c,X.env.cells.lookup x=some c→c≠b)∧ ∀p∈X.pn++pins,p.1≠b
theorem Inv.zH{X:Cx}{pins:List (Addr×Obj)}{σ:St}{H H':Hp}{s:Shared}{b:Addr}(I:Inv X pins σ H s)(hb:s.heap.objs.size≤b)(hn:H' b=none):hX X pins H' b:=by
 refine⟨hn,Nat.ne_of_gt (Nat.lt_of_lt_of_le I.lt hb),I.Mr hb, .inr (Nat.le_trans I.sz hb),fun x c e z=> ?_,fun p hp z=> ?_⟩
 ·obtain⟨v,q⟩:=I.cell x c e
  exact absurd (Nat.lt_of_lt_of_le q.lt (by rw[z];exact hb)) (Nat.lt_irrefl _)
 ·exact absurd (Nat.lt_of_lt_of_le (Heap.lt_size (I.pin p hp).1) (by rw[z];exact hb)) (Nat.lt_irrefl _)
structure Turn (P:Program) (w:World) (K:PySem.W.Frag) (tg:Expr) (J:It) (fp:List Addr) (it:Addr) (tn:Nat→Heap→Prop):Prop where
 mem:it∈fp
 obj: ∀i h,tn i h→ ∀b∈fp,∃o,h.get? b=some o∧ ∀v,o.data≠ .cell v
 keep: ∀i h h',tn i h→(∀b∈fp,∀o,h.get? b=some o→h'.get? b=some o)→tn i h'
 item: ∀(X:Cx),X.prog=P→X.w=w→X.K=K→X.calm=true→ ∀(i:Nat) (pins:List (Addr×Obj)) (s:Shared) (σ:St) (H:Hp) (E:Value→Shared→Prop),Inv X pins σ H s→(∀b∈fp,hX X pins H b)→tn i s.heap→J.go i H→
  wpAny (model P w) X.A (pyNext (.ref it)) (fun r s1=> ∃u,r=some u∧
   wpAny (model P w) X.A (letOwnedTupleGo tg (.ref it) u) (fun _ s2=> ∃x H',Inv X pins σ H' s2∧RelV x u∧J.gw i H x H'∧tn (i+1) s2.heap∧ ∀b∈fp,H' b=none) E s1) E s
 done: ∀(X:Cx),X.prog=P→X.w=w→X.K=K→X.calm=true→ ∀(i:Nat) (pins:List (Addr×Obj)) (s:Shared) (σ:St) (H:Hp) (E:Value→Shared→Prop),Inv X pins σ H s→(∀b∈fp,hX X pins H b)→tn i s.heap→J.stop i H→
  wpAny (model P w) X.A (pyNext (.ref it)) (fun r s1=>r=none∧Inv X pins σ H s1) E s
 self: ∀(A:Around) (i:Nat) (s:Shared) (Q:Value→Shared→Prop) (E:Value→Shared→Prop),tn i s.heap→Q (.ref it) s→wpAny (model P w) A (pyIter (.ref it)) Q E s
abbrev TI:=St→Hp→(It→Hp→Prop)→Prop
def MW(X:Cx)(pins:List (Addr×Obj))(σ:St)(tg:Expr)(R:It→Hp→Prop)(pW:Value)(s2:Shared):Prop:=
 ∃(it:Addr) (fp:List Addr) (tn:Nat→Heap→Prop) (J:It) (H':Hp),pW= .ref it∧Inv X pins σ H' s2∧Turn X.prog X.w X.K tg J fp it tn∧tn 0 s2.heap∧(∀b∈fp,hX X pins H' b)∧R J H'
def PI(X:Cx)(tg iter:Expr)(wi:TI):Prop:=
 ∀(pins:List (Addr×Obj)) (s:Shared) (σ:St) (H:Hp) (R:It→Hp→Prop),Inv X pins σ H s→wi σ H R→
  wpAny (model X.prog X.w) X.A (eval iter X.env) (fun v s1=>wpAny (model X.prog X.w) X.A (pyIter v) (MW X pins σ tg R) X.xe s1) X.xe s
theorem MX{M:Model}{A:Around}{E:Value→Shared→Prop}{s:Shared}{tg:Expr}{it:Addr}{u:Value}{o:Obj}{n:String}{vs:Array Value}{Q:Unit→Shared→Prop}(ho:s.heap.get? it=some o)(hc:o.cls= .type n)(hd:o.data= .fields vs)
    (hn:["enumerate","zip","dict_itemiterator","dict_reverseitemiterator","odict_iterator","itertools.zip_longest","itertools.pairwise"].contains n=false) (hQ:Q () s):wpAny M A (letOwnedTupleGo tg (.ref it) u) Q E s:=by
  unfold letOwnedTupleGo
  cases tg<;>first
    | exact wpAny_pure hQ
    | (cases u<;>first
        | exact wpAny_pure hQ
        | (refine wpAny_bind (wpAny_load ho ?_)
           rw[hc,hd]
           show wpAny M A (if (["enumerate","zip","dict_itemiterator","dict_reverseitemiterator","odict_iterator","itertools.zip_longest","itertools.pairwise"].contains n && vs[0]?==some (rawInt _))=true then _ else _) Q E s
           rw[if_neg (by intro h;rw[hn,Bool.false_and] at h;cases h)]
           exact wpAny_pure hQ))
def eP(K:PySem.W.Frag)(a:Addr):It:=
 ⟨fun i H=> ∃xs x,aP K H a xs∧xs[i]?=some x,fun i H x H'=>H'=H∧ ∀xs,aP K H a xs→xs[i]?=some x,fun i H=> ∃xs,aP K H a xs∧xs.length≤i⟩
def Xo(K:PySem.W.Frag)(a:Addr):It:=
 ⟨fun i H=> ∃xs x,bq K H a xs∧xs[i]?=some x,fun i H x H'=>H'=H∧ ∀xs,bq K H a xs→xs[i]?=some x,fun i H=> ∃xs,bq K H a xs∧xs.length≤i⟩
def je(lo:Int)(n:Nat):It:=⟨fun i _=>i<n,fun i H x H'=>H'=H∧x= .int (lo+i),fun i _=>n≤i⟩
theorem Xp{P:Program}{w:World}{K:PySem.W.Frag}{tg:Expr}(a it:Addr):Turn P w K tg (eP K a) [it] it (fun i h=>h.IsListIter it a i) where
 mem:=by simp
 obj:=fun i h st b hb=>by
  have e:b=it:=by simpa using hb
  subst e
  obtain⟨o,e,c,d⟩:=st
  exact⟨o,e,fun v z=>by rw[d] at z;cases z⟩
 keep:=fun i h h' st k=>st.at fun o e=>k it (by simp) o e
 item:=by
  intro X hP hw hK hc i pins s σ H E I hf st hg
  subst hP hw hK
  obtain⟨xs,x,hq,hx⟩:=hg
  obtain⟨its,rv,p,hz⟩:=I.list hq
  obtain⟨u,hu,ru⟩:=rv.get hx
  obtain⟨f0,f1,f2,f3,f4,f5⟩:=hf it (by simp)
  refine wpAny_pyNext_list_item st p.isList (x:=u) (by simpa using hu) fun h' kD sb=> ?_
  have I1:Inv X pins σ H {s with heap:=h'}:=I.turned (t':=s.toks) (fun b o hb e=> (sb.2 b hb).trans e) f0 f1 f3 f4 f5
  obtain⟨o,e,c,d⟩:=id kD
  exact⟨u,rfl,MX (s:={s with heap:=h'}) e c d (by decide) ⟨x,H,I1,ru,⟨rfl,fun ys hy=>by rw[I.MJ hy hq];exact hx⟩,kD,fun b hb=> (hf b hb).1⟩⟩
 done:=by
  intro X hP hw hK hc i pins s σ H E I hf st hg
  subst hP hw hK
  obtain⟨xs,hq,hx⟩:=hg
  obtain⟨its,rv,p,hz⟩:=I.list hq
  obtain⟨f0,f1,f2,f3,f4,f5⟩:=hf it (by simp)
  have hl:=rv.length
  exact wpAny_pyNext_list_end (I.ok.hd hc) st p.isList (by simp;omega) fun h' eb=> ⟨rfl,I.turned (t':=s.toks) (fun b o hb e=>eb b o hb e) f0 f1 f3 f4 f5⟩
 self:=fun _ _ _ _ _ st h=>wpAny_pyIter_listiter st h
theorem Xq{P:Program}{w:World}{K:PySem.W.Frag}{tg:Expr}(it:Addr)(lo:Int)(n:Nat):Turn P w K tg (je lo n) [it] it (fun i h=>IsRangeIter h it (lo+ (i:Nat)*1) ((n:Int) - (i:Nat)) 1) where
 mem:=by simp
 obj:=fun i h st b hb=>by
  have e:b=it:=by simpa using hb
  subst e
  exact⟨_,st,fun v z=>by
   have z':Data.fields _=Data.cell v:=z
   cases z'⟩
 keep:=fun i h h' st k=>k it (by simp) _ st
 item:=by
  intro X hP hw hK hc i pins s σ H E I hf st hg
  subst hP hw hK
  obtain⟨f0,f1,f2,f3,f4,f5⟩:=hf it (by simp)
  have W:=Walks.range (prog:=X.prog) (w:=X.w) (I.ok.hd hc) it lo 1 n
  refine W.item i s _ _ hg st fun v h' tk hv kD kk=> ?_
  obtain⟨t,rfl⟩:=hv
  have I1:Inv X pins σ H {s with heap:=h',toks:=tk}:=I.turned (fun b o hb e=>kk b o (by simpa using hb) e) f0 f1 f3 f4 f5
  refine⟨_,rfl,MX (s:={s with heap:=h',toks:=tk}) (n:="range_iterator") kD rfl rfl (by decide) ⟨.int (lo+i),H,I1,⟨t, ?_⟩,⟨rfl,rfl⟩,kD,fun b hb=> (hf b hb).1⟩⟩
  rw[Int.mul_one]
 done:=by
  intro X hP hw hK hc i pins s σ H E I hf st hg
  subst hP hw hK
  obtain⟨f0,f1,f2,f3,f4,f5⟩:=hf it (by simp)
  exact wpAny_pyNext_range_end (I.ok.hd hc) st (by have:n≤i:=hg;omega) fun h' eb=> ⟨rfl,I.turned (t':=s.toks) (fun b o hb e=>eb b o hb e) f0 f1 f3 f4 f5⟩
 self:=fun _ _ _ _ _ st h=>wpAny_pyIter_rangeiter st h
section
variable {X:Cx} {tg:Expr}
def zI(K:PySem.W.Frag)(tl:TE):TI:=fun σ H R=>tl σ H fun x H1=> ∃a,x= .ref a∧(∃xs,aP K H1 a xs)∧R (eP K a) H1
def Xr(K:PySem.W.Frag)(tl:TE):TI:=fun σ H R=>tl σ H fun x H1=> ∃a,x= .ref a∧(∃xs,bq K H1 a xs)∧R (Xo K a) H1
theorem Xs{l:Expr}{tl:TE}(hl:PE X l tl):PI X tg l (zI X.K tl):=by
 intro pins s σ H R I h
 refine bj (hl pins s σ H _ I h) fun v s1 ⟨x,H1,I1,r1,q1⟩=> ?_
 obtain⟨a,e,⟨xs,hq⟩,q⟩:=q1
 subst e
 cases r1
 obtain⟨its,rv,p,hz⟩:=I1.list hq
 refine wpAny_pyIter_list p.isList ?_
 refine⟨s1.heap.objs.size,[s1.heap.objs.size],_,_,H1,rfl,I1.kept (t':=s1.toks) fun b o e=>Heap.get?_push_of_some _ e,Xp a _,⟨_,Heap.get?_push_size _ rfl,rfl,rfl⟩,fun b hb=> ?_,q⟩
 have e:b=s1.heap.objs.size:=by simpa using hb
 subst e
 exact I1.zH (Nat.le_refl _) (I1.aN.fresh (Nat.le_refl _))
theorem Xt{pins:List (Addr×Obj)}{σ:St}{H:Hp}{s:Shared}{R:It→Hp→Prop}{E:Value→Shared→Prop}{lo hi:Int}{t u v:Tok}{tk:Nat}(I:Inv X pins σ H s)(h1: -(2 ^ 62)≤lo)(h2:lo<2 ^ 62)(h3: -(2 ^ 62)≤hi)(h4:hi<2 ^ 62)
  (q:R (je lo (hi - lo).toNat) H):wpAny (model X.prog X.w) X.A (pyIter (.ref s.heap.objs.size)) (MW X pins σ tg R) E {s with heap:=s.heap.push {cls:= .type "range",data:= .fields #[.int lo t, .int hi u, .int 1 v]},toks:=tk}:=by
 refine wpAny_pyIter_range (IsRange.new ..) (small_one h1 h2 h3 h4) ?_
 have I1:Inv X pins σ H {s with heap:=s.heap.push {cls:= .type "range",data:= .fields #[.int lo t, .int hi u, .int 1 v]},toks:=tk}:=I.kept fun b o e=>Heap.get?_push_of_some _ e
 refine⟨(s.heap.push {cls:= .type "range",data:= .fields #[.int lo t, .int hi u, .int 1 v]}).objs.size,[(s.heap.push {cls:= .type "range",data:= .fields #[.int lo t, .int hi u, .int 1 v]}).objs.size],_,_,H,rfl,
  I1.kept (t':=tk) fun b o e=>Heap.get?_push_of_some _ e,Xq _ lo (hi - lo).toNat, ?_,fun b hb=> ?_,q⟩
 ·have e1:lo+ ((0:Nat):Int)*1=lo:=by simp
  have e2:(((hi - lo).toNat:Nat):Int) - ((0:Nat):Int)=Builtin.Range.rangeSize lo hi 1:=by rw[rangeSize_one];split<;>omega
  show IsRangeIter _ _ (lo+ ((0:Nat):Int)*1) ((((hi - lo).toNat:Nat):Int) - ((0:Nat):Int)) 1
  rw[e1,e2]
  exact Heap.get?_push_size _ rfl
 ·have e:b=(s.heap.push {cls:= .type "range",data:= .fields #[.int lo t, .int hi u, .int 1 v]}).objs.size:=by simpa using hb
  subst e
  exact I1.zH (Nat.le_refl _) (I1.aN.fresh (Nat.le_refl _))
def MY(ta:TA):TI:=fun σ H R=>ta σ H fun vs H1=> ∃j:Int,vs=[.int j]∧ -(2 ^ 62)≤j∧j<2 ^ 62∧R (je 0 j.toNat) H1
def Xu(ta:TA):TI:=fun σ H R=>ta σ H fun vs H1=> ∃i j:Int,vs=[.int i, .int j]∧(-(2 ^ 62)≤i∧i<2 ^ 62∧ -(2 ^ 62)≤j∧j<2 ^ 62)∧R (je i (j - i).toNat) H1
theorem Xv{a:Expr}{ta:TA}{p pos:Pos}(hg:Gl X "range")(hm:X.mg "range"=none)(ha:PA X [a] ta)(hs:starEach [a] X.env=[(false,eval a X.env)]:=by rfl):PI X tg (.Call (.Name "range" p) [a] [] pos) (MY ta):=by
 intro pins s σ H R I h
 refine Call_ (rV I hg hm boot_range (PyProof.Rows.callWith_type1 (bj (ha pos pins s σ H _ I h) fun us s1 ⟨vs,H1,I1,r1,q1⟩=> ?_) hs rfl))
 obtain⟨j,e,q1,q2,q⟩:=q1
 subst e
 cases r1 with
 | cons r rr=>
  cases rr
  obtain⟨t,rfl⟩:=r
  exact call_range_1 (Xt I1 (by omega) (by omega) q1 q2 (by simpa using q))
def vw(wi:TI)(g:TG)(tb:TS):TS:=fun D σ H=>wi σ H fun J H1=> ∃W:Nat→Nat→St→Hp→Prop,(∃m,W 0 m σ H1)∧ ∀i m σ H,W i m σ H→
 (J.stop i H∧D.nx σ H)∨(J.go i H∧ ∃N:St→Hp→Prop,(∀σ' H',N σ' H'→ ∃m',m'<m∧W (i+1) m' σ' H')∧ ∀x H',J.gw i H x H'→g x σ H' fun σ2 H2=>tb {D with nx:=N,ct:=N,bk:=D.nx} σ2 H2)
def pX(fp:List Addr)(h:Heap):List (Addr×Obj):=fp.filterMap fun b=> (h.get? b).map fun o=> (b,o)
theorem vx{fp:List Addr}{h:Heap}{b:Addr}{o:Obj}(hb:b∈fp)(e:h.get? b=some o):(b,o)∈pX fp h:=List.mem_filterMap.mpr ⟨b,hb,by rw[e];rfl⟩
theorem Xw{fp:List Addr}{h:Heap}{p:Addr×Obj}(hp:p∈pX fp h):p.1∈fp∧h.get? p.1=some p.2:=by
 obtain⟨b,hb,e⟩:=List.mem_filterMap.mp hp
 cases q:h.get? b with
 | none=>rw[q] at e;cases e
 | some o=>
  rw[q] at e
  have e':(b,o)=p:=Option.some.inj e
  subst e'
  exact⟨hb,q⟩
theorem Inv.pinned{pins:List (Addr×Obj)}{σ:St}{H:Hp}{s:Shared}{fp:List Addr}(I:Inv X pins σ H s)(hf: ∀b∈fp,hX X pins H b)(ho: ∀b∈fp,∃o,s.heap.get? b=some o∧ ∀v,o.data≠ .cell v):Inv X (pins++pX fp s.heap) σ H s:=
 I.pT fun p hp=> (List.mem_append.mp hp).elim (fun z=>I.pin p (List.mem_append_right _ z)) fun z=>by
  obtain⟨hb,e⟩:=Xw z
  obtain⟨f0,f1,f2,_⟩:=hf p.1 hb
  obtain⟨o,e',d⟩:=ho p.1 hb
  rw[e] at e';cases e'
  exact⟨e,f0,f1,f2,d⟩
theorem Inv.zJ{pins pl:List (Addr×Obj)}{σ:St}{H:Hp}{s:Shared}(I:Inv X (pins++pl) σ H s):Inv X pins σ H s:=I.pT fun p hp=>I.pin p (List.mem_append_right _ (List.mem_append_left _ hp))
theorem MZ{iter:Expr}{body:List Stmt}{wi:TI}{g:TG}{tb:TS}{pos:Pos}(hp:PassesOwn (model X.prog X.w) X.A X.env X.xe)(hc:X.calm=true)(hi:PI X tg iter wi)(hg:PG X tg g)(hb:a_ X body tb)
  (hs: ∀x,foldedSetIterable iter X.env x=pure x:=by intro _;rfl):PS X (.For tg iter body [] pos) (vw wi g tb):=by
 intro pins s σ H D I h
 refine wpAny_For (bj (hi pins s σ H _ I h) fun v s1 h1=>bj h1 fun pW s2 h2=> ?_) hs
 obtain⟨it,fp,tn,J,H2,e,I2,T,zK,f2,W,⟨m0,w0⟩,turn⟩:=h2
 subst e
 have mE: ∀{H':Hp},(∀b∈fp,H' b=none)→ ∀b∈fp,hX X pins H' b:=fun hn b hb=> ⟨hn b hb,(f2 b hb).2⟩
 refine codeAny_forLoop_any (fun n s'=> ∃i σ' H',Inv X pins σ' H' s'∧tn i s'.heap∧(∀b∈fp,H' b=none)∧W i n σ' H') ?_ m0 ⟨0,σ,H2,I2,zK,fun b hb=> (f2 b hb).1,w0⟩
 rintro n s3 ⟨i,σ3,H3,I3,M0,M1,w3⟩
 rcases turn i n σ3 H3 w3 with⟨stop,qn⟩ | ⟨go,N,hN,step⟩
 ·refine wpAny_passesOwn hp (bj (T.done X rfl rfl rfl hc i pins s3 σ3 H3 X.xe I3 (mE M1) M0 stop) fun r s4 ⟨hr,I4⟩=> ?_)
  subst hr
  exact wpAny_execs_nil ⟨σ3,H3,I4,qn⟩
 ·refine wpAny_passesOwn hp (bj (T.item X rfl rfl rfl hc i pins s3 σ3 H3 X.xe I3 (mE M1) M0 go) fun r s4 ⟨u,hr,h4⟩=> ?_)
  subst hr
  refine wpAny_passesOwn hp (bj h4 fun _ s5 ⟨x,H5,I5,r5,y5,mF,zL⟩=> ?_)
  have rW:=I5.pinned (mE zL) (T.obj _ _ mF)
  refine wpAny_passesOwn hp (bj (hg _ s5 σ3 H5 x u _ rW r5 (step x H5 y5)) fun _ s6 ⟨σ6,H6,I6,q6⟩=> ?_)
  refine wpAny_passesOwn hp (bj (hb _ s6 σ6 H6 _ I6 q6) fun f s7 q7=> ?_)
  have again: ∀{σ7:St} {H7:Hp},Inv X (pins++pX fp s5.heap) σ7 H7 s7→N σ7 H7→ ∃m,m<n∧ ∃i σ' H',Inv X pins σ' H' s7∧tn i s7.heap∧(∀b∈fp,H' b=none)∧W i m σ' H':=fun {σ7 H7} I7 n7=>by
   obtain⟨m',hm,w7⟩:=hN σ7 H7 n7
   refine⟨m',hm,i+1,σ7,H7,I7.zJ,T.keep _ _ _ mF fun b hb o e=> (I7.pin (b,o) (List.mem_append_right _ (List.mem_append_right _ (vx hb e)))).1,fun b hb=> ?_,w7⟩
   obtain⟨o,e,d⟩:=T.obj _ _ mF b hb
   exact(I7.pin (b,o) (List.mem_append_right _ (List.mem_append_right _ (vx hb e)))).2.1
  cases f with
  | next=>obtain⟨σ7,H7,I7,n7⟩:=q7;exact again I7 n7
  | cont=>obtain⟨σ7,H7,I7,n7⟩:=q7;exact again I7 n7
  | brk=>obtain⟨σ7,H7,I7,q7⟩:=q7;exact⟨σ7,H7,I7.zJ,q7⟩
  | ret v=>obtain⟨x7,σ7,H7,I7,r7,q7⟩:=q7;exact⟨x7,σ7,H7,I7.zJ,r7,q7⟩
end
theorem mG{K:PySem.W.Frag}{a:Addr}{xs:List V}{g:TG}{tb:TS}{D:Ends}{σ:St}{H:Hp}(Pv:Nat→St→Hp→Prop)(h0:Pv 0 σ H)(hl: ∀i σ H,i≤xs.length→Pv i σ H→aP K H a xs)
  (hs: ∀i x σ H,xs[i]?=some x→Pv i σ H→g x σ H fun σ2 H2=>tb {D with nx:=Pv (i+1),ct:=Pv (i+1),bk:=D.nx} σ2 H2) (hd: ∀σ H,Pv xs.length σ H→D.nx σ H):
  ∃W:Nat→Nat→St→Hp→Prop,(∃m,W 0 m σ H)∧ ∀i m σ H,W i m σ H→
   ((eP K a).stop i H∧D.nx σ H)∨((eP K a).go i H∧ ∃N:St→Hp→Prop,(∀σ' H',N σ' H'→ ∃m',m'<m∧W (i+1) m' σ' H')∧ ∀x H',(eP K a).gw i H x H'→g x σ H' fun σ2 H2=>tb {D with nx:=N,ct:=N,bk:=D.nx} σ2 H2):=by
 refine⟨fun i m σ H=>m=xs.length - i∧i≤xs.length∧Pv i σ H,⟨xs.length,by simp,Nat.zero_le _,h0⟩, ?_⟩
 rintro i m σ H ⟨rfl,hi,p⟩
 have q:=hl i σ H hi p
 by_cases bG:i<xs.length
 ·refine .inr ⟨⟨xs,xs[i],q,by simp[bG]⟩,Pv (i+1),fun σ' H' p'=> ⟨xs.length - (i+1),by omega,rfl,bG,p'⟩,fun x H' y=> ?_⟩
  obtain⟨e,y⟩:=y
  subst e
  exact hs i x σ _ (y xs q) p
 ·have e:i=xs.length:=by omega
  subst e
  exact .inl ⟨⟨xs,q,Nat.le_refl _⟩,hd σ H p⟩
theorem zM{lo:Int}{n:Nat}{g:TG}{tb:TS}{D:Ends}{σ:St}{H:Hp}(Pv:Nat→St→Hp→Prop)(h0:Pv 0 σ H)
  (hs: ∀i σ H,i<n→Pv i σ H→g (.int (lo+i)) σ H fun σ2 H2=>tb {D with nx:=Pv (i+1),ct:=Pv (i+1),bk:=D.nx} σ2 H2) (hd: ∀σ H,Pv n σ H→D.nx σ H):
  ∃W:Nat→Nat→St→Hp→Prop,(∃m,W 0 m σ H)∧ ∀i m σ H,W i m σ H→
   ((je lo n).stop i H∧D.nx σ H)∨((je lo n).go i H∧ ∃N:St→Hp→Prop,(∀σ' H',N σ' H'→ ∃m',m'<m∧W (i+1) m' σ' H')∧ ∀x H',(je lo n).gw i H x H'→g x σ H' fun σ2 H2=>tb {D with nx:=N,ct:=N,bk:=D.nx} σ2 H2):=by
 refine⟨fun i m σ H=>m=n - i∧i≤n∧Pv i σ H,⟨n,by simp,Nat.zero_le _,h0⟩, ?_⟩
 rintro i m σ H ⟨rfl,hi,p⟩
 by_cases bG:i<n
 ·refine .inr ⟨bG,Pv (i+1),fun σ' H' p'=> ⟨n - (i+1),by omega,rfl,bG,p'⟩,fun x H' y=> ?_⟩
  obtain⟨e,y⟩:=y
  subst e y
  exact hs i σ _ bG p
 ·have e:i=n:=by omega
  subst e
  exact .inl ⟨Nat.le_refl _,hd σ H p⟩
abbrev R2:=V→V→Hp→VK→Prop
def bL(X:Cx)(f:Value→Value→Sem Value)(r:R2):Prop:=
 ∀(pins:List (Addr×Obj)) (s:Shared) (σ:St) (H:Hp) (x y:V) (v u:Value) (Q:VK),Inv X pins σ H s→RelV x v→RelV y u→r x y H Q→
  wpAny (model X.prog X.w) X.A (f v u) (EP X pins σ Q) X.xe s
def vy(X:Cx)(f:Value→Sem Value)(r:V→Hp→VK→Prop):Prop:=
 ∀(pins:List (Addr×Obj)) (s:Shared) (σ:St) (H:Hp) (x:V) (v:Value) (Q:VK),Inv X pins σ H s→RelV x v→r x H Q→
  wpAny (model X.prog X.w) X.A (f v) (EP X pins σ Q) X.xe s
def cz(X:Cx)(f:Value)(r:List V→Hp→VK→Prop):Prop:=
 ∀(pins:List (Addr×Obj)) (s:Shared) (σ:St) (H:Hp) (xs:List V) (us:List Value) (Q:VK),Inv X pins σ H s→Vals xs us→r xs H Q→
  wpAny (model X.prog X.w) X.A (call f us) (EP X pins σ Q) X.xe s
def Xx(X:Cx)(r:V→Hp→(Bool→Hp→Prop)→Prop):Prop:=
 ∀(pins:List (Addr×Obj)) (s:Shared) (σ:St) (H:Hp) (x:V) (v:Value) (Q:Bool→Hp→Prop),Inv X pins σ H s→RelV x v→r x H Q→
  wpAny (model X.prog X.w) X.A (truthy v) (TP X pins σ Q) X.xe s
def d9(r:R2)(ta tb:TE):TE:=fun σ H Q=>ta σ H fun x H1=>tb σ H1 fun y H2=>r x y H2 Q
def M3(r:V→Hp→VK→Prop)(ta:TE):TE:=fun σ H Q=>ta σ H fun x H1=>r x H1 Q
def rI(C:Int→Int→Prop)(g:Int→Int→V):R2:=fun x y H Q=> ∃i j,x= .int i∧y= .int j∧C i j∧Q (g i j) H
def jO(g:Int→Int→V):R2:=fun x y H Q=> ∃i j,x= .int i∧y= .int j∧Q (g i j) H
def rU(g:Int→V):V→Hp→VK→Prop:=fun x H Q=> ∃i,x= .int i∧Q (g i) H
section
variable {X:Cx} {a b c:Expr} {ta tb tc:TE} {pos:Pos}
theorem zN(ha:PE X a ta)(hb:PE X b tb){pins:List (Addr×Obj)}{s:Shared}{σ:St}{H:Hp}{R:V→V→Hp→Prop}(I:Inv X pins σ H s)
  (h:ta σ H fun x H1=>tb σ H1 fun y H2=>R x y H2) {Q:Value→Shared→Prop} {f:Value→Value→Sem Value}
  (hf: ∀v u s2 x y H2,Inv X pins σ H2 s2→RelV x v→RelV y u→R x y H2→wpAny (model X.prog X.w) X.A (f v u) Q X.xe s2):
  wpAny (model X.prog X.w) X.A (eval a X.env) (fun v s₁=>wpAny (model X.prog X.w) X.A (eval b X.env) (fun u s₂=>wpAny (model X.prog X.w) X.A (f v u) Q X.xe s₂) X.xe s₁) X.xe s:=by
 refine bj (ha pins s σ H _ I h) fun v s1 ⟨x,H1,I1,r1,q1⟩=> ?_
 refine bj (hb pins s1 σ H1 _ I1 q1) fun u s2 ⟨y,H2,I2,r2,q2⟩=> ?_
 exact hf v u s2 x y H2 I2 r1 r2 q2
theorem Xy{op:Operator}{r:R2}(ho:bL X (binaryOp op) r)(ha:PE X a ta)(hb:PE X b tb):PE X (.BinOp a op b pos) (d9 r ta tb):=by
 intro pins s σ H Q I h
 exact wpAny_BinOp (zN ha hb I h fun v u s2 x y H2 I2 rx ry q=>ho pins s2 σ H2 x y v u Q I2 rx ry q)
theorem Xz{op:UnaryOp}{r:V→Hp→VK→Prop}(ho:vy X (unaryOp op) r)(ha:PE X a ta):PE X (.UnaryOp op a pos) (M3 r ta):=by
 intro pins s σ H Q I h
 exact UnaryOp_ (bj (ha pins s σ H _ I h) fun v s1 ⟨x,H1,I1,r1,q1⟩=>ho pins s1 σ H1 x v Q I1 r1 q1)
theorem vz{f:Value→Value→Sem Value}{C:Int→Int→Prop}{g:Int→Int→Int}
  (rule: ∀(i j:Int) (t u:Tok) (s:Shared) (Q:Value→Shared→Prop) (E:Value→Shared→Prop),C i j→Q (.int (g i j) s.toks) {s with toks:=s.toks+1}→wpAny (model X.prog X.w) X.A (f (.int i t) (.int j u)) Q E s):
  bL X f (rI C fun i j=> .int (g i j)):=by
 intro pins s σ H x y v u Q I rx ry h
 obtain⟨i,j,rfl,rfl,hc,q⟩:=h
 obtain⟨t,rfl⟩:=rx
 obtain⟨t',rfl⟩:=ry
 exact rule i j t t' s _ _ hc ⟨.int (g i j),H,I.tok _,⟨_,rfl⟩,q⟩
theorem M4{f:Value→Value→Sem Value}{g:Int→Int→Int}
  (rule: ∀(i j:Int) (t u:Tok) (s:Shared) (Q:Value→Shared→Prop) (E:Value→Shared→Prop),Q (.int (g i j) s.toks) {s with toks:=s.toks+1}→wpAny (model X.prog X.w) X.A (f (.int i t) (.int j u)) Q E s):
  bL X f (jO fun i j=> .int (g i j)):=by
 intro pins s σ H x y v u Q I rx ry h
 obtain⟨i,j,rfl,rfl,q⟩:=h
 obtain⟨t,rfl⟩:=rx
 obtain⟨t',rfl⟩:=ry
 exact rule i j t t' s _ _ ⟨.int (g i j),H,I.tok _,⟨_,rfl⟩,q⟩
theorem vA{f:Value→Value→Sem Value}{g:Int→Int→Bool}
  (rule: ∀(i j:Int) (t u:Tok) (s:Shared) (Q:Value→Shared→Prop) (E:Value→Shared→Prop),Q (.bool (g i j)) s→wpAny (model X.prog X.w) X.A (f (.int i t) (.int j u)) Q E s):
  bL X f (jO fun i j=> .bl (g i j)):=by
 intro pins s σ H x y v u Q I rx ry h
 obtain⟨i,j,rfl,rfl,q⟩:=h
 obtain⟨t,rfl⟩:=rx
 obtain⟨t',rfl⟩:=ry
 exact rule i j t t' s _ _ ⟨.bl (g i j),H,I,rfl,q⟩
def zO(i j:Int):Prop:=0<j∧j<1073741824
def M5(i j:Int):Prop:=0≤j∧j≤1000000∧i.natAbs<2 ^ 64
def vB(i j:Int):Prop:=(-(2 ^ 64) <i∧i<2 ^ 64)∨(-(2 ^ 64) <j∧j<2 ^ 64)
theorem vB.ok{i j:Int}(h:vB i j):IntMulOk i j:=by
 rcases h with⟨h1,h2⟩ | ⟨h1,h2⟩
 ·exact .of_left (intBits_le_64 h1 h2)
 ·exact .of_right (intBits_le_64 h1 h2)
theorem XA:bL X (binaryOp .Add) (jO fun i j=> .int (i+j)):=M4 fun _ _ _ _ _ _ _ q=>add_int q
theorem XB:bL X (binaryOp .Sub) (jO fun i j=> .int (i - j)):=M4 fun _ _ _ _ _ _ _ q=>sub_int q
theorem XC:bL X (binaryOp .Mult) (rI vB fun i j=> .int (i*j)):=vz fun _ _ _ _ _ _ _ hc q=>mul_int q hc.ok
theorem XD:bL X (binaryOp .FloorDiv) (rI zO fun i j=> .int (i / j)):=vz fun i j _ _ _ _ _ hc q=>by
 have h1:(0:Int) <j:=hc.1
 have h2:j<1073741824:=hc.2
 exact floordiv_int (by omega) (by rw[Int.fdiv_eq_ediv_of_nonneg i (by omega)];exact q) (.inl (PyProof.noPylong_small (by omega)))
theorem XE:bL X (binaryOp .Mod) (rI (fun _ j=>0<j) fun i j=> .int (i % j)):=vz fun i j _ _ _ _ _ hc q=>by
 have h1:(0:Int) <j:=hc
 exact mod_int' (by omega) (by rw[Int.fmod_eq_emod_of_nonneg i (by omega)];exact q)
theorem XF:bL X (binaryOp .Pow) (rI M5 fun i j=> .int (i ^ j.toNat)):=vz fun _ _ _ _ _ _ _ hc q=>pow_int_small hc.1 hc.2.1 hc.2.2 q
theorem XG{f:Value→Sem Value}{g:Int→Int}
  (rule: ∀(i:Int) (t:Tok) (s:Shared) (Q:Value→Shared→Prop) (E:Value→Shared→Prop),Q (.int (g i) s.toks) {s with toks:=s.toks+1}→wpAny (model X.prog X.w) X.A (f (.int i t)) Q E s):
  vy X f (rU fun i=> .int (g i)):=by
 intro pins s σ H x v Q I rx h
 obtain⟨i,rfl,q⟩:=h
 obtain⟨t,rfl⟩:=rx
 exact rule i t s _ _ ⟨.int (g i),H,I.tok _,⟨_,rfl⟩,q⟩
theorem XH:vy X (unaryOp .USub) (rU fun i=> .int (-i)):=XG fun _ _ _ _ _ q=>neg_int q
end
def mH:V→V→Bool
 | .az, .az=>true | .az, .int _=>true | .int _, .az=>true | .az, .bl _=>true | .bl _, .az=>true | .az, .str _=>true | .str _, .az=>true
 | .int _, .int _=>true | .bl _, .bl _=>true | .str _, .str _=>true | .eM _, .eM _=>true
 | .int _, .str _=>true | .str _, .int _=>true | .bl _, .str _=>true | .str _, .bl _=>true
 | _,_=>false
def XI:R2:=fun x y H Q=>mH x y=true∧Q (.bl (decide (x=y))) H
def XJ:R2:=fun x y H Q=>mH x y=true∧Q (.bl (!decide (x=y))) H
theorem M6{i j:Int}:decide (V.int i=V.int j)=(i==j):=by
 rw[Bool.eq_iff_iff]
 simp
theorem M7{i j:Bool}:decide (V.bl i=V.bl j)=(i==j):=by
 rw[Bool.eq_iff_iff]
 simp
theorem iC{i j:Str}:decide (V.str i=V.str j)=(i==j):=by
 rw[Bool.eq_iff_iff]
 simp
theorem M8{i j:Array UInt8}:decide (V.eM i=V.eM j)=(i.toList==j.toList):=by
 rw[Bool.eq_iff_iff]
 cases i
 cases j
 simp
section
variable {X:Cx} {a b c:Expr} {ta tb tc:TE} {pos:Pos}
theorem cv{pins:List (Addr×Obj)}{σ:St}{H:Hp}{s:Shared}{Q:VK}{k k':Bool}(I:Inv X pins σ H s)(q:Q (.bl k) H)(e:k=k'):EP X pins σ Q (.bool k') s:=by
 subst e
 exact⟨.bl k,H,I,rfl,q⟩
theorem XM:bL X (compareOp .Eq) XI:=by
 intro pins s σ H x y v u Q I rx ry h
 obtain⟨hs,q⟩:=h
 cases x with
 | az=>
  cases rx
  cases y with
  | az=>cases ry;exact PySem.EqNone.eq_none_none (cv I q (by simp))
  | bl j=>cases ry;exact PySem.EqNone.eq_none_bool (cv I q (by simp))
  | int j=>obtain⟨t',rfl⟩:=ry;exact PySem.EqNone.eq_none_int (cv I q (by simp))
  | str j=>obtain⟨t',rfl⟩:=ry;exact PySem.EqNone.eq_none_str (cv I q (by simp))
  | _=>exact absurd (show false=true from hs) Bool.false_ne_true
 | bl i=>
  cases rx
  cases y with
  | az=>cases ry;exact PySem.EqNone.eq_bool_none (cv I q (by simp))
  | bl j=>cases ry;exact eq_bool (cv I q M7)
  | str j=>obtain⟨t',rfl⟩:=ry;exact PySem.EqMixed.eq_bool_str (cv I q (by simp))
  | _=>exact absurd (show false=true from hs) Bool.false_ne_true
 | int i=>
  obtain⟨t,rfl⟩:=rx
  cases y with
  | az=>cases ry;exact PySem.EqNone.eq_int_none (cv I q (by simp))
  | int j=>obtain⟨t',rfl⟩:=ry;exact eq_int (cv I q M6)
  | str j=>obtain⟨t',rfl⟩:=ry;exact PySem.EqMixed.eq_int_str (cv I q (by simp))
  | _=>exact absurd (show false=true from hs) Bool.false_ne_true
 | str i=>
  obtain⟨t,rfl⟩:=rx
  cases y with
  | az=>cases ry;exact PySem.EqNone.eq_str_none (cv I q (by simp))
  | bl j=>cases ry;exact PySem.EqMixed.eq_str_bool (cv I q (by simp))
  | int j=>obtain⟨t',rfl⟩:=ry;exact PySem.EqMixed.eq_str_int (cv I q (by simp))
  | str j=>obtain⟨t',rfl⟩:=ry;exact eq_str (cv I q iC)
  | _=>exact absurd (show false=true from hs) Bool.false_ne_true
 | eM i=>
  obtain⟨t,rfl⟩:=rx
  cases y with
  | eM j=>obtain⟨t',rfl⟩:=ry;exact PySem.W.eq_bytes (cv I q M8)
  | _=>exact absurd (show false=true from hs) Bool.false_ne_true
 | _=>cases y<;>exact absurd (show false=true from hs) Bool.false_ne_true
theorem XN:bL X (compareOp .NotEq) XJ:=by
 intro pins s σ H x y v u Q I rx ry h
 obtain⟨hs,q⟩:=h
 cases x with
 | az=>
  cases rx
  cases y with
  | az=>cases ry;exact PySem.EqNone.ne_none_none (cv I q (by simp))
  | bl j=>cases ry;exact PySem.EqNone.ne_none_bool (cv I q (by simp))
  | int j=>obtain⟨t',rfl⟩:=ry;exact PySem.EqNone.ne_none_int (cv I q (by simp))
  | str j=>obtain⟨t',rfl⟩:=ry;exact PySem.EqNone.ne_none_str (cv I q (by simp))
  | _=>exact absurd (show false=true from hs) Bool.false_ne_true
 | bl i=>
  cases rx
  cases y with
  | az=>cases ry;exact PySem.EqNone.ne_bool_none (cv I q (by simp))
  | bl j=>cases ry;exact ne_bool (cv I q (congrArg not M7))
  | str j=>obtain⟨t',rfl⟩:=ry;exact PySem.EqMixed.ne_bool_str (cv I q (by simp))
  | _=>exact absurd (show false=true from hs) Bool.false_ne_true
 | int i=>
  obtain⟨t,rfl⟩:=rx
  cases y with
  | az=>cases ry;exact PySem.EqNone.ne_int_none (cv I q (by simp))
  | int j=>obtain⟨t',rfl⟩:=ry;exact ne_int (cv I q (congrArg not M6))
  | str j=>obtain⟨t',rfl⟩:=ry;exact PySem.EqMixed.ne_int_str (cv I q (by simp))
  | _=>exact absurd (show false=true from hs) Bool.false_ne_true
 | str i=>
  obtain⟨t,rfl⟩:=rx
  cases y with
  | az=>cases ry;exact PySem.EqNone.ne_str_none (cv I q (by simp))
  | bl j=>cases ry;exact PySem.EqMixed.ne_str_bool (cv I q (by simp))
  | int j=>obtain⟨t',rfl⟩:=ry;exact PySem.EqMixed.ne_str_int (cv I q (by simp))
  | str j=>obtain⟨t',rfl⟩:=ry;exact ne_str (cv I q (congrArg not iC))
  | _=>exact absurd (show false=true from hs) Bool.false_ne_true
 | eM i=>
  obtain⟨t,rfl⟩:=rx
  cases y with
  | eM j=>obtain⟨t',rfl⟩:=ry;exact PySem.W.ne_bytes (cv I q (congrArg not M8))
  | _=>exact absurd (show false=true from hs) Bool.false_ne_true
 | _=>cases y<;>exact absurd (show false=true from hs) Bool.false_ne_true
theorem XO:bL X (compareOp .Lt) (jO fun i j=> .bl (decide (i<j))):=vA fun _ _ _ _ _ _ _ q=>lt_int q
theorem XQ:bL X (compareOp .LtE) (jO fun i j=> .bl (decide (i≤j))):=vA fun _ _ _ _ _ _ _ q=>le_int q
theorem XR:bL X (compareOp .Gt) (jO fun i j=> .bl (decide (j<i))):=vA fun _ _ _ _ _ _ _ q=>gt_int q
theorem XS:bL X (compareOp .GtE) (jO fun i j=> .bl (decide (j≤i))):=vA fun _ _ _ _ _ _ _ q=>ge_int q
theorem XT:bL X (compareOp .In) (fun x y H Q=> ∃i j,x= .str i∧y= .str j∧Q (.bl (!(Builtin.Str.occurrences j i 0 j.length 1).isEmpty)) H):=by
 intro pins s σ H x y v u Q I rx ry h
 obtain⟨i,j,rfl,rfl,q⟩:=h
 obtain⟨t,rfl⟩:=rx
 obtain⟨t',rfl⟩:=ry
 exact in_str (cv I q rfl)
theorem XU:bL X (compareOp .Is) (fun x y H Q=>y= .az∧Q (.bl (decide (x= .az))) H):=by
 intro pins s σ H x y v u Q I rx ry h
 obtain⟨rfl,q⟩:=h
 cases ry
 refine is_none_gen (cv I q ?_)
 cases x<;>first
  | (cases rx;rfl)
  | (obtain⟨t,rfl⟩:=rx;rfl)
theorem XW:bL X (compareOp .IsNot) (fun x y H Q=>y= .az∧Q (.bl (!decide (x= .az))) H):=by
 intro pins s σ H x y v u Q I rx ry h
 obtain⟨rfl,q⟩:=h
 cases ry
 refine isnot_none_gen (cv I q ?_)
 cases x<;>first
  | (cases rx;rfl)
  | (obtain⟨t,rfl⟩:=rx;rfl)
theorem XX:bL X (compareOp .NotIn) (fun x y H Q=> ∃i j,x= .str i∧y= .str j∧Q (.bl (!(!(Builtin.Str.occurrences j i 0 j.length 1).isEmpty))) H):=by
 intro pins s σ H x y v u Q I rx ry h
 obtain⟨i,j,rfl,rfl,q⟩:=h
 obtain⟨t,rfl⟩:=rx
 obtain⟨t',rfl⟩:=ry
 exact notIn_str (cv I q rfl)
theorem bL.or{f:Value→Value→Sem Value}{r r':R2}(h:bL X f r)(h':bL X f r'):bL X f (fun x y H Q=>r x y H Q∨r' x y H Q):=by
 intro pins s σ H x y v u Q I rx ry q
 rcases q with q | q
 ·exact h pins s σ H x y v u Q I rx ry q
 ·exact h' pins s σ H x y v u Q I rx ry q
theorem XY{op:CmpOp}{r:R2}(ho:bL X (compareOp op) r)(ha:PE X a ta)(hb:PE X b tb)(hm:behindInMarks op b=false):PE X (.Compare a [op] [b] pos) (d9 r ta tb):=by
 intro pins s σ H Q I h
 exact wpAny_Compare1 (zN ha hb I h fun v u s2 x y H2 I2 rx ry q=>ho pins s2 σ H2 x y v u Q I2 rx ry q) hm
def pY(t:TE):TT:=fun σ H Q=>t σ H fun x H'=> ∃k,x= .bl k∧Q k H'
theorem XZ{op:CmpOp}{r:R2}(ho:bL X (compareOp op) r)(ha:PE X a ta)(hb:PE X b tb)(hm:behindInMarks op b=false):PT X (.Compare a [op] [b] pos) (pY (d9 r ta tb)):=by
 intro pins s σ H Q I h
 refine wpAny_isTrue_Compare1 (bj (ha pins s σ H _ I h) fun v s1 ⟨x,H1,I1,r1,q1⟩=>bj (hb pins s1 σ H1 _ I1 q1) fun u s2 ⟨y,H2,I2,r2,q2⟩=>
  bj (ho pins s2 σ H2 x y v u _ I2 r1 r2 q2) fun c s3 ⟨z,H3,I3,r3,k,e,q3⟩=> ?_) hm
 subst e
 cases r3
 exact wpAny_truthy_bool ⟨H3,I3,q3⟩
def vC(r r':R2)(ta tb tc:TE):TE:=fun σ H Q=>ta σ H fun x H1=>tb σ H1 fun y H2=>r x y H2 fun z H3=> ∃k,z= .bl k∧
 (if k=true then tc σ H3 fun w' H4=>r' y w' H4 Q else Q (.bl false) H3)
theorem X0{op dU:CmpOp}{r r':R2}(ho:bL X (compareOp op) r)(dS:bL X (compareOp dU) r')(ha:PE X a ta)(hb:PE X b tb)(hc:PE X c tc)
  (hm:lastMarks [op,dU] [b,c]=false:=by with_unfolding_all rfl):PE X (.Compare a [op,dU] [b,c] pos) (vC r r' ta tb tc):=by
 intro pins s σ H Q I h
 refine Compare_chain (bj (ha pins s σ H _ I h) fun v s1 ⟨x,H1,I1,r1,q1⟩=>chain_link (bj (hb pins s1 σ H1 _ I1 q1) fun u s2 ⟨y,H2,I2,r2,q2⟩=>
  bj (ho pins s2 σ H2 x y v u _ I2 r1 r2 q2) fun d s3 ⟨z,H3,I3,r3,k,e,q3⟩=> ?_)) hm
 subst e
 cases r3
 refine wpAny_truthy_bool ?_
 cases k with
 | false=>exact ite_ff ⟨.bl false,H3,I3,rfl,q3⟩
 | true=>exact ite_tt (chain_last (bj (hc pins s3 σ H3 _ I3 q3) fun w' s4 ⟨z',H4,I4,r4,q4⟩=>dS pins s4 σ H4 y z' u w' Q I4 r2 r4 q4))
def M9(K:PySem.W.Frag)(x:V)(H:Hp)(k:Bool):Prop:=
 match x with
 | .az=>k=false
 | .bl b=>k=b
 | .int i=>k=(i !=0)
 | .str y=>y.length≤sizeLine∧k=((y.length:Int) !=0)
 | .eM y=>y.size≤sizeLine∧k=((y.size:Int) !=0)
 | .ref p=> (∃xs,aP K H p xs∧k= !xs.isEmpty)∨(∃xs,bq K H p xs∧k= !xs.isEmpty)∨ ∃aX,H p=some (.dK aX)∧k= !aX.isEmpty
 | _=>False
theorem X1{κ:Type}{aX:List (κ×V)}{vs:List (κ×Value)}(r:KV aX vs):(!vs.isEmpty)= !aX.isEmpty:=by
 cases r<;>rfl
theorem M_{xs:List V}{its:List Value}(r:Vals xs its):(!its.toArray.isEmpty)= !xs.isEmpty:=by
 cases r<;>simp
theorem kI:(sizeLine:Nat) <2 ^ 63:=by rw[sizeLine_eq];decide
theorem Na:Xx X (fun x H Q=> ∃k,M9 X.K x H k∧Q k H):=by
 intro pins s σ H x v Q I rx h
 obtain⟨k,e,q⟩:=h
 have hl:=kI
 have hs:sizeLine=16777216:=sizeLine_eq
 cases x with
 | az=>
  cases rx
  have e':k=false:=e
  subst e'
  exact truthy_none ⟨H,I,q⟩
 | bl b=>
  cases rx
  have e':k=b:=e
  subst e'
  exact wpAny_truthy_bool ⟨H,I,q⟩
 | int i=>
  obtain⟨t,rfl⟩:=rx
  have e':k=(i !=0):=e
  subst e'
  exact PySem.P.truthy_int ⟨H,I,q⟩
 | str y=>
  obtain⟨t,rfl⟩:=rx
  obtain⟨hy,e'⟩:y.length≤sizeLine∧k=((y.length:Int) !=0):=e
  subst e'
  exact PySem.P.truthy_str (by omega) ⟨H,I.tok _,q⟩
 | eM y=>
  obtain⟨t,rfl⟩:=rx
  obtain⟨hy,e'⟩:y.size≤sizeLine∧k=((y.size:Int) !=0):=e
  subst e'
  exact PySem.W.truthy_bytes (by omega) ⟨H,I.tok _,q⟩
 | ref p=>
  cases rx
  have e':(∃xs,aP X.K H p xs∧k= !xs.isEmpty)∨(∃xs,bq X.K H p xs∧k= !xs.isEmpty)∨ ∃aX,H p=some (.dK aX)∧k= !aX.isEmpty:=e
  rcases e' with⟨xs,hx,e'⟩ | ⟨xs,hx,e'⟩ | ⟨aX,hx,e'⟩
  ·subst e'
   obtain⟨its,r,pl,hz⟩:=I.list hx
   have hlen:=r.length
   exact wpAny_truthy_list pl.isList (by simp only[List.size_toArray];omega) ⟨H,I.tok _,by rw[M_ r];exact q⟩
  ·subst e'
   obtain⟨its,r,pl,hz⟩:=I.tuple hx
   have hlen:=r.length
   exact truthy_tuple pl (by simp only[List.size_toArray];omega) ⟨H,I.tok _,by rw[M_ r];exact q⟩
  ·subst e'
   obtain⟨hz,hS,vs,r,m⟩:aX.length≤sizeLine∧(p==sysModules)=false∧ ∃vs,KV aX vs∧s.heap.DictOf (i9 X.prog X.w) p vs:=I.aN p _ hx
   have hlen:aX.length=vs.length:=Paired.length r
   exact wpAny_truthy_dict hS m (by omega) ⟨H,I.tok _,by rw[X1 r];exact q⟩
 | _=>exact(show False from e).elim
theorem X3:bL X (binaryOp .Add) (fun x y H Q=> ∃i j,x= .str i∧y= .str j∧i.length+j.length≤sizeLine∧Q (.str (i++j)) H):=by
 intro pins s σ H x y v u Q I rx ry h
 obtain⟨i,j,rfl,rfl,hz,q⟩:=h
 obtain⟨t,rfl⟩:=rx
 obtain⟨t',rfl⟩:=ry
 exact add_str (fun t' tk=> ⟨.str (i++j),H,I.tok _,⟨_,rfl⟩,q⟩) hz
theorem vals1{x:V}{us:List Value}(r:Vals [x] us): ∃u,us=[u]∧RelV x u:=by
 cases r with
 | cons r1 r2=>cases r2;exact⟨_,rfl,r1⟩
theorem vals2{x y:V}{us:List Value}(r:Vals [x,y] us): ∃u w',us=[u,w']∧RelV x u∧RelV y w':=by
 cases r with
 | cons r1 r2=>
  cases r2 with
  | cons r3 r4=>cases r4;exact⟨_,_,rfl,r1,r3⟩
theorem X4:cz X (.builtin "abs") (fun xs H Q=> ∃i,xs=[.int i]∧Q (.int (if i<0 then -i else i)) H):=by
 intro pins s σ H xs us Q I r h
 obtain⟨i,rfl,q⟩:=h
 obtain⟨u,rfl,t,rfl⟩:=vals1 r
 exact call_abs_int fun u tk=> ⟨.int (if i<0 then -i else i),H,I.tok _,⟨_,rfl⟩,q⟩
theorem X5(hc:X.calm=true):cz X (.builtin "max") (fun xs H Q=> ∃i j,xs=[.int i, .int j]∧Q (.int (if j>i then j else i)) H):=by
 intro pins s σ H xs us Q I r h
 obtain⟨i,j,rfl,q⟩:=h
 obtain⟨u,w',rfl,⟨t,rfl⟩,⟨t',rfl⟩⟩:=vals2 r
 refine max_two_ints (I.ok.hd hc) fun h' tk k=> ⟨_,H,I.kept k, ?_,q⟩
 by_cases hj:j>i
 ·rw[if_pos hj,if_pos hj];exact⟨_,rfl⟩
 ·rw[if_neg hj,if_neg hj];exact⟨_,rfl⟩
theorem X6(hc:X.calm=true):cz X (.builtin "min") (fun xs H Q=> ∃i j,xs=[.int i, .int j]∧Q (.int (if j<i then j else i)) H):=by
 intro pins s σ H xs us Q I r h
 obtain⟨i,j,rfl,q⟩:=h
 obtain⟨u,w',rfl,⟨t,rfl⟩,⟨t',rfl⟩⟩:=vals2 r
 refine min_two_ints (I.ok.hd hc) fun h' tk k=> ⟨_,H,I.kept k, ?_,q⟩
 by_cases hj:j<i
 ·rw[if_pos hj,if_pos hj];exact⟨_,rfl⟩
 ·rw[if_neg hj,if_neg hj];exact⟨_,rfl⟩
theorem X7:cz X (.type "int") (fun xs H Q=> (∃i,xs=[.int i]∧Q (.int i) H)∨ ∃k,xs=[.bl k]∧Q (.int (if k then 1 else 0)) H):=by
 intro pins s σ H xs us Q I r h
 rcases h with⟨i,rfl,q⟩ | ⟨k,rfl,q⟩
 ·obtain⟨u,rfl,t,rfl⟩:=vals1 r
  exact call_int_int ⟨.int i,H,I,⟨_,rfl⟩,q⟩
 ·obtain⟨u,rfl,r1⟩:=vals1 r
  cases r1
  exact call_int_bool ⟨.int (if k then 1 else 0),H,I.tok _,⟨_,rfl⟩,q⟩
def Nb(K:PySem.W.Frag)(x:V)(H:Hp)(n:Nat):Prop:=
 match x with
 | .str y=>y.length≤sizeLine∧n=y.length
 | .eM y=>y.size≤sizeLine∧n=y.size
 | .ref p=> (∃xs,aP K H p xs∧n=xs.length)∨ ∃xs,bq K H p xs∧n=xs.length
 | _=>False
theorem X8:cz X (.builtin "len") (fun xs H Q=> ∃x n,xs=[x]∧Nb X.K x H n∧Q (.int n) H):=by
 intro pins s σ H xs us Q I r h
 obtain⟨x,n,rfl,e,q⟩:=h
 obtain⟨u,rfl,rx⟩:=vals1 r
 have hl:=kI
 have hs:sizeLine=16777216:=sizeLine_eq
 cases x with
 | str y=>
  obtain⟨t,rfl⟩:=rx
  obtain⟨hy,e'⟩:y.length≤sizeLine∧n=y.length:=e
  subst e'
  exact len_str (by omega) ⟨.int _,H,I.tok _,⟨_,rfl⟩,q⟩
 | eM y=>
  obtain⟨t,rfl⟩:=rx
  obtain⟨hy,e'⟩:y.size≤sizeLine∧n=y.size:=e
  subst e'
  exact PySem.W.len_bytes (by omega) ⟨.int _,H,I.tok _,⟨_,rfl⟩,q⟩
 | ref p=>
  cases rx
  have e':(∃xs,aP X.K H p xs∧n=xs.length)∨ ∃xs,bq X.K H p xs∧n=xs.length:=e
  rcases e' with⟨xs,hx,e'⟩ | ⟨xs,hx,e'⟩
  ·subst e'
   obtain⟨its,r',pl,hz⟩:=I.list hx
   have hlen:=r'.length
   exact Calls.call_len_list pl.isList (by simp only[List.size_toArray];omega) ⟨.int xs.length,H,I.tok _,⟨_,by simp only[List.size_toArray];rw[hlen]⟩,q⟩
  ·subst e'
   obtain⟨its,r',pl,hz⟩:=I.tuple hx
   have hlen:=r'.length
   exact len_tuple pl (by simp only[List.size_toArray];omega) ⟨.int xs.length,H,I.tok _,⟨_,by simp only[List.size_toArray];rw[hlen]⟩,q⟩
 | _=>exact(show False from e).elim
end
structure mI (h:Heap) (x dx C:Addr) (mA:Str→Option Value):Prop where
 obj:h.get? x=some (instObj C dx)
 ns:h.Ns1 dx mA
 ne:dx≠x
theorem X9{h:Heap}{dx:Addr}{mA:Str→Option Value}(n:h.Ns1 dx mA): ∃od,h.get? dx=some od∧ ∀name,lookIn name od=some (mA name):=by
 obtain⟨o,es,ep,ho,hd,hk,_,hm⟩:=n
 refine⟨o,ho,fun name=> ?_⟩
 have e:=hm name
 unfold nsFind findBy at e
 rw[←Array.find?_toList] at e
 unfold lookIn
 rw[hd]
 dsimp only
 split
 ·rename_i y q
  rw[q] at e
  exact congrArg some e
 ·rename_i q
  rw[q] at e
  have a:es.toList.any (·.refKey)=false:=by
   rw[List.any_eq_false]
   intro y hy
   obtain⟨z,t,X_⟩:=hk y (Array.mem_toList_iff.mp hy)
   simp[DictEntry.refKey,X_]
  have a': ¬es.toList.any (·.refKey)=true:=by rw[a];exact Bool.false_ne_true
  rw[if_neg a']
  exact congrArg some e
theorem mI.look{h:Heap}{x dx C:Addr}{mA:Str→Option Value}(I:mI h x dx C mA): ∃od,InstAt h x (instObj C dx) C (some od)∧ ∀name,lookIn name od=some (mA name):=
 let ⟨od,ho,hl⟩:=X9 I.ns
 ⟨od,⟨I.obj,rfl,rfl,ho⟩,hl⟩
section
variable {prog:Program} {w:World} {A:Around} {E:Value→Shared→Prop} {s:Shared} {K:PySem.W.Frag} {x dx C f:Addr} {mA:Str→Option Value} {name:Str} {v:Value}
theorem get_map{expr:Bool}{Q:Value→Shared→Prop}(X:K.In s.heap)(I:mI s.heap x dx C mA)(hg:plainGet K C name=true)(hh:hasDictIn K C=true)
  (ha:PySem.W.findIn K (.ref C) name=some none) (hv:mA name=some v) (zP:handedIn v=true) (h:Q v {s with toks:=s.toks+1}):
  wpAny (model prog w) A (getAttr (.ref x) name expr) Q E s:=by
 obtain⟨od,J,hl⟩:=I.look
 exact PySem.W.get_value X J (plainGet_of hg).1 (PySem.W.findObj_own hh ha rfl (by rw[hl,hv])) zP h
theorem Ya{pl:Sem Bool}{Q:Value×List Value→Shared→Prop}(X:K.In s.heap)(I:mI s.heap x dx C mA)(hg:plainGet K C name=true)
  (hf:PySem.W.findIn K (.ref C) name=some (some (.ref f))) (ht:isFn K (.ref f)=true) (hv:mA name=none) (h:Q (.ref f,[.ref x]) s):
  wpAny (model prog w) A (getMethod (.ref x) name pl) Q E s:=by
 obtain⟨od,J,hl⟩:=I.look
 exact PySem.W.method_fn X J (plainGet_of hg).1 (plainGet_of hg).2 hf (beq_iff_eq.mp ht) (by show(lookIn name od).map (·.isSome)=some false;rw[hl,hv];rfl) h
theorem Yb{ns:List Str}{Q:Unit→Shared→Prop}(X:K.In s.heap)(I:mI s.heap x dx C mA)
  (hs:PySem.W.findIn K (.ref C) "__setattr__"=some (some (.builtin "object.__setattr__"))) (hp:plainOver K C=true) (ht:takerIn K C name=some none) (hh:hasDictIn K C=true)
  (hw:PySem.Within mA ns) (kJ:ns.length≤sizeLine)
  (h: ∀h',mI h' x dx C (fun y=>if y=name then some v else mA y)→Heap.SameBut dx s.heap h'→Q () {s with heap:=h',toks:=s.toks+2}):
  wpAny (model prog w) A (setAttr (.ref x) name v) Q E s:=by
 obtain⟨od,J,hl⟩:=I.look
 refine PySem.W.set_plain X J hs (PySem.W.osa_open (s:={s with toks:=s.toks+1}) (r:=none) X J hp ht fun b=> ?_)
 obtain⟨cd,hc,zu⟩:=PySem.W.any_some hh
 have hx:s.heap.get? x=some ⟨.ref C,some dx, .plain,#[]⟩:=I.obj
 refine wpAny_bind (wpAny_pure (wpAny_bind (wpAny_bind (wpAny_loadPart hx (wpAny_bind (PySem.W.Looks.here (s:={s with toks:=s.toks+1}) (PySem.W.looks_clsIn X hc) ?_))))))
 rw[zu]
 refine wpAny_pure (a:=some dx) (wpAny_bind (wpAny_pure (wpAny_bind ?_)))
 refine wpAny_nsSet1 (s:={s with toks:=s.toks+1}) I.ns fun h' jP Nc=> ?_
 obtain⟨oD,esD,epD,Yc,Yd,jQ⟩:=jP.count (PySem.Within.cons name v hw)
 refine wpAny_bind (wpAny_lookBehind Yc (by rw[Yd];exact pastItsLine_dict (Nat.le_trans jQ (by rw[List.length_cons];omega))) ?_)
 exact wpAny_pure (h _ ⟨(Nc.2 _ (Ne.symm I.ne)).trans I.obj,jP,I.ne⟩ Nc)
theorem Ye{R:Result→Shared→Prop}{vs:List Value}{kw:List (Str×Value)}(X:K.In s.heap)(hm:makesIn K C=true)
  (hi:PySem.W.findIn K (.ref C) "__init__"=some (some (.ref f))) (hf:PySem.W.typeIn K (.ref f)=some (.type "function"))
  (h:codeAny (model prog w) (A.under (.builtin "type.__call__" ⟨.ref C::vs,kw⟩)) (.call (.ref f) ⟨.ref (s.heap.objs.size+1)::vs,kw⟩) (PySem.W.InitBack (s.heap.objs.size+1) R)
   {s with heap:=(s.heap.push emptyDict).push (instObj C s.heap.objs.size)}):
  codeAny (model prog w) A (.call (.ref C) ⟨vs,kw⟩) R s:=by
 obtain⟨hh,g,d,t,os⟩:=s
 exact PySem.W.make_core (PySem.W.makes_of X hm) (PySem.W.looks_findIn X hi) (fun self=>PySem.W.bind_fn X self hf) (.inl rfl) h
end
def cA(f:Str)(v:V):List (Str×V)→List (Str×V)
 | []=> [(f,v)]
 | (g,x)::r=>if g=f then (g,v)::r else (g,x)::cA f v r
theorem Nf(f g:Str)(v:V): ∀fs:List (Str×V),(cA f v fs).lookup g=if g=f then some v else fs.lookup g
 | []=>by
  show List.lookup g [(f,v)]=_
  by_cases h:g=f
  ·have hb:(g==f)=true:=beq_iff_eq.mpr h
   simp only[List.lookup,hb,if_pos h]
  ·have hb:(g==f)=false:=beq_eq_false_iff_ne.mpr h
   simp only[List.lookup,hb,if_neg h]
 | (k,x)::r=>by
  have ih:=Nf f g v r
  rw[show cA f v ((k,x)::r)=(if k=f then (k,v)::r else (k,x)::cA f v r) from rfl]
  by_cases hk:k=f
  ·rw[if_pos hk]
   by_cases h:g=k
   ·have hb:(g==k)=true:=beq_iff_eq.mpr h
    simp only[List.lookup,hb,if_pos (h.trans hk)]
   ·have hb:(g==k)=false:=beq_eq_false_iff_ne.mpr h
    simp only[List.lookup,hb,if_neg (fun e:g=f=>h (e.trans hk.symm))]
  ·rw[if_neg hk]
   by_cases h:g=k
   ·have hb:(g==k)=true:=beq_iff_eq.mpr h
    simp only[List.lookup,hb,if_neg (fun e:g=f=>hk (h.symm.trans e))]
   ·have hb:(g==k)=false:=beq_eq_false_iff_ne.mpr h
    simp only[List.lookup,hb]
    exact ih
theorem zQ(f:Str)(v:V): ∀fs:List (Str×V),f∈ (cA f v fs).map (·.1)∧ ∀g,g∈fs.map (·.1)→g∈ (cA f v fs).map (·.1)
 | []=> ⟨by simp[cA],fun g h=>by simp at h⟩
 | (k,x)::r=>by
  obtain⟨i1,i2⟩:=zQ f v r
  rw[show cA f v ((k,x)::r)=(if k=f then (k,v)::r else (k,x)::cA f v r) from rfl]
  by_cases hk:k=f
  ·rw[if_pos hk]
   subst hk
   exact⟨by simp,fun g h=>by simpa using h⟩
  ·rw[if_neg hk]
   refine⟨?_,fun g h=> ?_⟩
   ·rw[List.map_cons]
    exact List.mem_cons_of_mem _ i1
   ·rw[List.map_cons] at h⊢
    rcases List.mem_cons.mp h with e | e
    ·exact List.mem_cons.mpr (.inl e)
    ·exact List.mem_cons_of_mem _ (i2 g e)
theorem Ng(f:Str)(v:V): ∀fs:List (Str×V),(cA f v fs).length≤fs.length+1
 | []=>by simp[cA]
 | (k,x)::r=>by
  have ih:=Ng f v r
  rw[show cA f v ((k,x)::r)=(if k=f then (k,v)::r else (k,x)::cA f v r) from rfl]
  by_cases hk:k=f
  ·rw[if_pos hk,List.length_cons,List.length_cons];omega
  ·rw[if_neg hk,List.length_cons,List.length_cons];omega
theorem i_.some_of{v:V}{o:Option Value}(r:i_ (some v) o): ∃u,o=some u∧RelV v u:=by
 cases o with
 | none=>exact(show False from r).elim
 | some u=>exact⟨u,rfl,r⟩
theorem i_.none_of{o:Option Value}(r:i_ none o):o=none:=by
 cases o with
 | none=>rfl
 | some u=>exact(show False from r).elim
theorem Yf{v:V}{u:Value}(r:RelV v u):handedIn u=true:=by
 cases v with
 | az=>cases (show u=Value.none from r);rfl
 | bl b=>cases (show u=Value.bool b from r);rfl
 | int i=>obtain⟨t,e⟩:=(show ∃t,u=Value.int i t from r);cases e;rfl
 | str x=>obtain⟨t,e⟩:=(show ∃t,u=Value.str x t from r);cases e;rfl
 | eM b=>obtain⟨t,e⟩:=(show ∃t,u=Value.bytes b t from r);cases e;rfl
 | ky b=>obtain⟨t,e⟩:=(show ∃t,u=Value.float b t from r);cases e;rfl
 | ref a=>cases (show u=Value.ref a from r);rfl
 | ty n=>cases (show u=Value.type n from r);rfl
section
variable {P:Program} {w:World} {H H':Hp} {h h':Heap} {a C dx:Addr} {fs WR:List (Str×V)}
theorem vD(aN:cy P w H h)(e:H a=some (.ins C dx fs)): ∃mA,mI h a dx C mA∧(∀f,i_ (fs.lookup f) (mA f))∧PySem.Within mA (fs.map (·.1))∧fs.length≤1000∧H dx=some (.own a):=by
 obtain⟨d,z,ne,ob,mA,n,r,q⟩:=(show cM P w H h a (.ins C dx fs) from aN a _ e)
 exact⟨mA,⟨ob,n,ne⟩,r,q,z,d⟩
end
structure fu (K:PySem.W.Frag) (C:Addr):Prop where
 pg:plainGet K C Str.empty=true
 hd:hasDictIn K C=true
 po:plainOver K C=true
 sa:PySem.W.findIn K (.ref C) "__setattr__"=some (some (.builtin "object.__setattr__"))
theorem fu.get{K:PySem.W.Frag}{C:Addr}(c:fu K C)(f:Str):plainGet K C f=true:=c.pg
def f_(K:PySem.W.Frag)(C:Addr)(f:Str):Prop:=PySem.W.findIn K (.ref C) f=some none
theorem f_.Yg{K:PySem.W.Frag}{C:Addr}{f:Str}(n:f_ K C f):takerIn K C f=some none:=by
 unfold takerIn
 rw[show PySem.W.findIn K (.ref C) f=some none from n]
 rfl
structure Meth (K:PySem.W.Frag) (C:Addr) (m:Str) (f:Addr):Prop where
 at_:PySem.W.findIn K (.ref C) m=some (some (.ref f))
 fn:isFn K (.ref f)=true
 kp:keepIn K (.ref f)=true
section
variable {X:Cx} {pins:List (Addr×Obj)} {σ:St} {H:Hp} {s:Shared} {a C dx:Addr} {fs:List (Str×V)} {f:Str} {v:V} {A:Around} {E:Value→Shared→Prop}
theorem Yh{b:Bool}{Q:Value→Shared→Prop}(I:Inv X pins σ H s)(e:H a=some (.ins C dx fs))(c:fu X.K C)(n:f_ X.K C f)(l:fs.lookup f=some v)
  (h: ∀u s',Inv X pins σ H s'→RelV v u→Q u s'):wpAny (model X.prog X.w) A (getAttr (.ref a) f b) Q E s:=by
 obtain⟨mA,O,r,_,_,_⟩:=vD I.aN e
 obtain⟨u,hu,ru⟩:=i_.some_of (v:=v) (o:=mA f) (by rw[←l];exact r f)
 exact get_map I.cI O (c.get f) c.hd n hu (Yf ru) (h u _ (I.tok _) ru)
theorem Nh{m:Str}{g:Addr}{pl:Sem Bool}{Q:Value×List Value→Shared→Prop}(I:Inv X pins σ H s)(e:H a=some (.ins C dx fs))(c:fu X.K C)(k:Meth X.K C m g)(l:fs.lookup m=none)
  (h:Q (.ref g,[.ref a]) s):wpAny (model X.prog X.w) A (getMethod (.ref a) m pl) Q E s:=by
 obtain⟨mA,O,r,_,_,_⟩:=vD I.aN e
 have hn:mA m=none:=i_.none_of (by rw[←l];exact r m)
 exact Ya I.cI O (c.get m) k.at_ k.fn hn h
theorem Yi{y:V}{u:Value}{Q:Unit→Shared→Prop}(I:Inv X pins σ H s)(e:H a=some (.ins C dx fs))(c:fu X.K C)(n:f_ X.K C f)(hl:fs.length<1000)(ry:RelV y u)
  (h: ∀s',Inv X pins σ (upd H a (.ins C dx (cA f y fs))) s'→Q () s'):wpAny (model X.prog X.w) A (setAttr (.ref a) f u) Q E s:=by
 obtain⟨mA,O,r,wi,_,ho⟩:=vD I.aN e
 have hz:(fs.map (·.1)).length≤sizeLine:=by rw[List.length_map,sizeLine_eq];omega
 refine Yb I.cI O c.sa c.po n.Yg c.hd wi hz fun h' O' sb=>h _ ?_
 have hd: ∃o,h'.get? dx=some o:=let ⟨o,_,_,e',_⟩:=O'.ns;⟨o,e'⟩
 refine I.write (x:=a) (e:=dx) (by rw[e];exact True.intro) (.inr ho) (fun b q hb z=> (sb.2 b hb).trans z) hd ?_
 refine⟨by rw[aV O.ne];exact ho, ?_,O.ne,O'.obj,_,O'.ns,fun g=> ?_,fun g hg=> ?_⟩
 ·have:=Ng f y fs;omega
 ·show i_ ((cA f y fs).lookup g) (if g=f then some u else mA g)
  rw[Nf]
  by_cases q:g=f
  ·rw[if_pos q,if_pos q];exact ry
  ·rw[if_neg q,if_neg q];exact r g
 ·by_cases q:g=f
  ·rw[q];exact(zQ f y fs).1
  ·refine(zQ f y fs).2 g (wi g fun z=>hg ?_)
   show(if g=f then some u else mA g)=none
   rw[if_neg q];exact z
theorem Inv.made(I:Inv X pins σ H s):Inv X pins σ (upd (upd H s.heap.objs.size (.own (s.heap.objs.size+1))) (s.heap.objs.size+1) (.ins C s.heap.objs.size []))
  {s with heap:=(s.heap.push emptyDict).push (instObj C s.heap.objs.size)}:=by
 have e1:(s.heap.push emptyDict).get? s.heap.objs.size=some emptyDict:=Heap.get?_push_size s.heap rfl
 have e2:((s.heap.push emptyDict).push (instObj C s.heap.objs.size)).get? (s.heap.objs.size+1)=some (instObj C s.heap.objs.size):=by
  have:=Heap.get?_push_size (s.heap.push emptyDict) (o:=instObj C s.heap.objs.size) rfl
  rwa [Heap.size_push] at this
 have e3:(s.heap.push emptyDict).Ns s.heap.objs.size (fun _=>none):=⟨emptyDict,#[],_,e1,rfl,(fun e he=>absurd he (by simp)),fun _=>rfl⟩
 have I1:=I.laid (a:=s.heap.objs.size) (o:= .own (s.heap.objs.size+1)) (h':=s.heap.push emptyDict) (t':=s.toks) (fun b u q=>Heap.get?_push_of_some _ q) (Nat.le_refl _) ⟨_,e1⟩
 refine I1.laid (a:=s.heap.objs.size+1) (o:= .ins C s.heap.objs.size []) (t':=s.toks) (fun b u q=>Heap.get?_push_of_some _ q) (Nat.le_of_eq (Heap.size_push _ _)) ?_
 have ne:s.heap.objs.size≠s.heap.objs.size+1:=Nat.ne_of_lt (Nat.lt_succ_self _)
 refine⟨by rw[aV ne,aO],Nat.zero_le _,ne,e2,fun _=>none,(Heap.Ns1.of_empty e3).at fun o q=>Heap.get?_push_of_some _ q,fun _=>True.intro,fun y hy=>absurd rfl hy⟩
theorem Yj{prog:Program}{w:World}{env:Env}{e:Expr}{f:Str}{pos:Pos}{s:Shared}{Q:Value→Shared→Prop}(hb:attributeBase e f env (eval e env)=eval e env)
  (h:wpAny (model prog w) A (eval e env) (fun o s₁=>wpAny (model prog w) A (getAttr o f true) Q E s₁) E s):wpAny (model prog w) A (eval (.Attribute e f pos) env) Q E s:=
 Attribute_any_ h (by rw[arm_eval_Attribute,hb])
end
def vE(K:PySem.W.Frag)(ta:TE)(f:Str):TE:=fun σ H Q=>ta σ H fun x H1=> ∃a C dx fs v,x= .ref a∧H1 a=some (.ins C dx fs)∧fu K C∧f_ K C f∧fs.lookup f=some v∧Q v H1
def zR(K:PySem.W.Frag)(ta tv:TE)(f:Str):TS:=fun D σ H=>tv σ H fun y H1=>ta σ H1 fun x H2=> ∃a C dx fs,x= .ref a∧H2 a=some (.ins C dx fs)∧fu K C∧f_ K C f∧fs.length<1000∧
 D.nx σ (upd H2 a (.ins C dx (cA f y fs)))
section
variable {X:Cx} {o e value:Expr} {f:Str} {pos pos' zS:Pos} {ta tv:TE}
theorem Yk(he:PE X e ta)(hb:attributeBase e f X.env (eval e X.env)=eval e X.env):PE X (.Attribute e f pos) (vE X.K ta f):=by
 intro pins s σ H Q I h
 refine Yj hb (bj (he pins s σ H _ I h) fun u s1 ⟨x,H1,I1,rx,a,C,dx,fs,v,ex,ea,c,n,l,q⟩=> ?_)
 subst ex
 obtain rfl:u=Value.ref a:=rx
 exact Yh I1 ea c n l fun u' s2 I2 ru=> ⟨v,H1,I2,ru,q⟩
theorem Yl(ha:PE X o ta)(hv:PE X value tv)(hs:swapsWith value (some (.Attribute o f pos')) pos.line X.env=pure false):PS X (.Assign [.Attribute o f pos'] value pos) (zR X.K ta tv f):=by
 intro pins s σ H D I h
 refine plainObj_wpAny_Assign_Attribute (bj (hv pins s σ H _ I h) fun u s1 ⟨y,H1,I1,ry,q⟩=>bj (ha pins s1 σ H1 _ I1 q) fun ov s2 ⟨x,H2,I2,rx,a,C,dx,fs,ex,ea,c,n,l,q2⟩=> ?_) hs
 subst ex
 obtain rfl:ov=Value.ref a:=rx
 exact Yi I2 ea c n l ry fun s3 I3=> ⟨σ,_,I3,q2⟩
end
section
variable {X:Cx} {pins:List (Addr×Obj)} {σ:St} {H:Hp} {s:Shared} {A:Around} {E:Value→Shared→Prop} {Q:Value→Shared→Prop} {c:Value} {b:Bool}
inductive gy (K:PySem.W.Frag) (H:Hp):V→Value→Prop where
 | az:gy K H .az (.type "NoneType")
 | bl (x:Bool):gy K H (.bl x) (.type "bool")
 | int (i:Int):gy K H (.int i) (.type "int")
 | str (x:Str):gy K H (.str x) (.type "str")
 | ky (x:UInt64):gy K H (.ky x) (.type "float")
 | lst {a:Addr} {xs:List V} (e:H a=some (.lst xs)):gy K H (.ref a) (.type "list")
 | bV {a:Addr} {o:Obj} {xs:List V} (e:H a=some (.bV o (.lst xs))):gy K H (.ref a) (.type "list")
 | tup {a:Addr} {xs:List V} (e:H a=some (.tup xs)):gy K H (.ref a) (.type "tuple")
 | dK {a:Addr} {aX:List (Key×V)} (e:H a=some (.dK aX)):gy K H (.ref a) (.type "dict")
 | dT {a:Addr} {aX:List (List Key×V)} (e:H a=some (.dT aX)):gy K H (.ref a) (.type "dict")
 | ins {a C dx:Addr} {fs:List (Str×V)} (e:H a=some (.ins C dx fs)) (cl:fu K C) (ha:PySem.W.findIn K (.ref C) "__class__"=some (some (.builtin "object.__class__")))
   (hn:PySem.W.specialIn K (.builtin "object.__class__") "__get__"=some (some (.builtin "getset_descriptor.__get__"))) (jf:PySem.W.takesIn K (.builtin "object.__class__")=some true)
   (hm:PySem.W.mroIn K C (.type "object")=some true):gy K H (.ref a) (.ref C)
theorem jg{x:V}{u t:Value}(I:Inv X pins σ H s)(rx:RelV x u)(ty:gy X.K H x t)(e:kitOne X.K t c=some b)(h: ∀tk,Q (.bool b) {s with toks:=tk}):
  wpAny (model X.prog X.w) A (call (.builtin "isinstance") [u,c]) Q E s:=by
 cases ty with
 | az=>cases (show u=Value.none from rx);exact kia_one PySem.W.kitx_none I.cI True.intro e (fun z=>nomatch z) h
 | bl y=>cases (show u=Value.bool y from rx);exact kia_one PySem.W.kitx_bool I.cI True.intro e (fun z=>nomatch z) h
 | int i=>obtain⟨t,q⟩:=(show ∃t,u=Value.int i t from rx);cases q;exact kia_one PySem.W.kitx_int I.cI True.intro e (fun z=>nomatch z) h
 | str y=>obtain⟨t,q⟩:=(show ∃t,u=Value.str y t from rx);cases q;exact kia_one PySem.W.kitx_str I.cI True.intro e (fun z=>nomatch z) h
 | ky y=>obtain⟨t,q⟩:=(show ∃t,u=Value.float y t from rx);cases q;exact kia_one PySem.W.kitx_float I.cI True.intro e (fun z=>nomatch z) h
 | @lst a xs ea=>
  cases (show u=Value.ref a from rx)
  obtain⟨_,_,n,_,h1⟩:=(show cM X.prog X.w H s.heap a (.lst xs) from I.aN a _ ea)
  exact kia_one kitx_list I.cI ⟨_,h1,rfl⟩ e (fun z=>nomatch z) h
 | @bV a ob xs ea=>
  cases (show u=Value.ref a from rx)
  obtain⟨_,_,_,n,_,h1⟩:=(show cM X.prog X.w H s.heap a (.bV ob (.lst xs)) from I.aN a _ ea)
  exact kia_one kitx_list I.cI ⟨_,h1,rfl⟩ e (fun z=>nomatch z) h
 | @tup a xs ea=>
  cases (show u=Value.ref a from rx)
  obtain⟨_,_,_,p⟩:=(show cM X.prog X.w H s.heap a (.tup xs) from I.aN a _ ea)
  obtain⟨o,h1,h2,_⟩:=p
  exact kia_one PySem.W.kitx_tuple I.cI ⟨o,h1,h2⟩ e (fun z=>nomatch z) h
 | @dK a aX ea=>
  cases (show u=Value.ref a from rx)
  obtain⟨_,_,vs,_,p⟩:=(show cM X.prog X.w H s.heap a (.dK aX) from I.aN a _ ea)
  obtain⟨o,es,ep,h1,h2,_⟩:=p
  exact kia_one kitx_dict I.cI ⟨o,h1,h2.1⟩ e (fun z=>nomatch z) h
 | @dT a aX ea=>
  cases (show u=Value.ref a from rx)
  obtain⟨_,_,xs,_,o,es,ep,h1,h2,_⟩:=(show cM X.prog X.w H s.heap a (.dT aX) from I.aN a _ ea)
  exact kia_one kitx_dict I.cI ⟨o,h1,h2.1⟩ e (fun z=>nomatch z) h
 | @ins a C dx fs ea cl ha hn jf hm=>
  cases (show u=Value.ref a from rx)
  obtain⟨mA,O,_⟩:=vD I.aN ea
  obtain⟨od,J,_⟩:=O.look
  exact kia_one (PySem.W.kitx_own (cl.get _) cl.hd ha hn jf hm) I.cI J e (fun z=>nomatch z) h
end
structure cU (k:Nat) (A:Around):Prop where
 hd:A.handled=none
 dp:A.depth+3*k+5<recursionLimit
 un:A.units+16*k+200<cLine
theorem cU.mono{j k:Nat}{A:Around}(r:cU k A)(h:j≤k):cU j A:=⟨r.hd,by have:=r.dp;omega,by have:=r.un;omega⟩
theorem cU.deeper{k:Nat}{A:Around}(r:cU (k+1) A)(env:Env):cU k (A.deeper env):=
 ⟨r.hd,by have:=r.dp;show A.depth+1+3*k+5<_;omega,by have:=r.un;show A.units+3+16*k+200<_;omega⟩
theorem Ym{A:Around}{C:Addr}{us:List Value}{kw:List (Str×Value)}:(A.under (.builtin "type.__call__" ⟨.ref C::us,kw⟩)).depth=A.depth+1:=by
 first | rfl | simp[Around.under,Code.weight,Code.isCreation,Code.isGuard,Code.isCaller,Code.frames,Code.isFrame,guardIds]
theorem Yn{A:Around}{C:Addr}{us:List Value}{kw:List (Str×Value)}:(A.under (.builtin "type.__call__" ⟨.ref C::us,kw⟩)).units=A.units+1:=by
 first | rfl | simp[Around.under,Code.cUnits,Code.frames,Code.isFrame]
theorem cU.make{k:Nat}{A:Around}(r:cU (k+1) A)(C:Addr)(us:List Value)(kw:List (Str×Value)):cU k (A.under (.builtin "type.__call__" ⟨.ref C::us,kw⟩)):=
 ⟨r.hd,by have:=r.dp;rw[Ym];omega,by have:=r.un;rw[Yn];omega⟩
theorem cU.depth{k:Nat}{A:Around}(r:cU k A):A.depth<recursionLimit:=by have:=r.dp;omega
theorem cU.units{k:Nat}{A:Around}(r:cU k A):A.units+64<cLine:=by have:=r.un;omega
def gb:TA:=fun _ H Q=>Q [] H
def dc(ta:TE)(tr:TA):TA:=fun σ H Q=>ta σ H fun x H1=>tr σ H1 fun xs H2=>Q (x::xs) H2
section
variable {X:Cx} {e:Expr} {es:List Expr} {te:TE} {t:TA} {pos:Pos}
theorem pZ:PA X [] gb:=fun _ _ _ _ H Q I h=>Calls.spliced_nil ⟨[],H,I, .nil,h⟩
theorem kN(ha:PE X e te)(hr:PA X es t)(hs:starEach (e::es) X.env=(false,eval e X.env)::starEach es X.env:=by rfl):PA X (e::es) (dc te t):=by
 intro pos pins s σ H Q I h
 rw[hs]
 show wpAny _ _ (spliced ((false,eval e X.env)::backTo pos (starEach es X.env))) _ _ s
 refine Calls.spliced_cons (bj (ha pins s σ H _ I h) fun u s1 ⟨x,H1,I1,r1,q1⟩=> ?_)
 exact bj (hr pos pins s1 σ H1 _ I1 q1) fun us s2 ⟨xs,H2,I2,r2,q2⟩=> ⟨x::xs,H2,I2, .cons r1 r2,q2⟩
def Ni(t:TA):TE:=fun σ H Q=>t σ H fun xs H1=>xs.length≤sizeLine∧ ∀p,H1 p=none→Q (.ref p) (upd H1 p (.tup xs))
def Nj(t:TA):TE:=fun σ H Q=>t σ H fun xs H1=>xs.length≤sizeLine∧ ∀p,H1 p=none→Q (.ref p) (upd H1 p (.lst xs))
theorem Yo{x1}(h:PA X es t):PE X (.Tuple es x1 pos) (Ni t):=by
 intro pins s σ H Q I hq
 refine wpAny_Tuple_spliced (bj (h pos pins s σ H _ I hq) fun us s1 ⟨xs,H1,I1,r,z,q⟩=> ⟨by rw[←r.length];exact z, ?_⟩)
 have hf:H1 s1.heap.objs.size=none:=I1.aN.fresh (Nat.le_refl _)
 refine⟨.ref s1.heap.objs.size,upd H1 s1.heap.objs.size (.tup xs),I1.laid (t':=s1.toks) (fun b u e=>Heap.get?_push_of_some _ e) (Nat.le_refl _) ?_,rfl,q _ hf⟩
 exact⟨z,us,r,⟨_,Heap.get?_push_size _ rfl,rfl,_,rfl⟩⟩
theorem Yp(h:PA X es t):PE X (.List es pos) (Nj t):=by
 intro pins s σ H Q I hq
 refine wpAny_List_spliced (bj (h pos pins s σ H _ I hq) fun us s1 ⟨xs,H1,I1,r,z,q⟩=> ⟨by rw[←r.length];exact z, ?_⟩)
 have hf:H1 s1.heap.objs.size=none:=I1.aN.fresh (Nat.le_refl _)
 refine⟨.ref s1.heap.objs.size,upd H1 s1.heap.objs.size (.lst xs),I1.laid (t':=s1.toks) (fun b u e=>Heap.get?_push_of_some _ e) (Nat.le_refl _) ?_,rfl,q _ hf⟩
 exact⟨z,us,0,r,Heap.get?_push_size _ rfl⟩
end
abbrev Sp:=List V→Hp→VK→XK→Prop
abbrev aK:=List Env→Hp→Shared→XK→Value→Shared→Prop
structure jR (P:Program) (w:World) (K:PySem.W.Frag) (mg:Str→Option Value) (base:Heap) (A:Around) (outer:List Env) (s:Shared) (H:Hp):Prop where
 frames:A.frames=some outer
 mod:Mod K mg base
 bs: ∀b o,base.get? b=some o→s.heap.get? b=some o∧H b=none
 kz:base.objs.size≤s.heap.objs.size
 hU:s.heap.FunFrames base outer
 mz: ∀b∈cb outer,H b=none
 aN:cy P w H s.heap
 bare:AllBare s.gens
def CE(outer:List Env)(P:Program)(w:World)(H:Hp)(s:Shared)(Q:VK)(u:Value)(s':Shared):Prop:=
 ∃v H',s'.os=s.os∧AllBare s'.gens∧Un (cb outer) [] H H' s.heap s'.heap∧cy P w H' s'.heap∧RelV v u∧Q v H'
def CR(CX:aK)(outer:List Env)(P:Program)(w:World)(H:Hp)(s:Shared)(Q:VK)(E:XK)(r:Result)(s':Shared):Prop:=
 match r with
 | .ok (.ret u)=>CE outer P w H s Q u s'
 | .ok _=>False
 | .error e=>CX outer H s E e s'
structure ck (P:Program) (w:World) (K:PySem.W.Frag) (mg:Str→Option Value) (base:Heap) (CX:aK) (k:Nat) (f:Addr) (fd:FuncData) (ps:List Str) (sp:Sp):Prop where
 len: ∀vs H Q E,sp vs H Q E→vs.length=ps.length
 run: ∀(A:Around) (outer:List Env) (s:Shared) (H:Hp) (args:Args) (us:List Value) (vs:List V) (Q:VK) (E:XK),cU k A→jR P w K mg base A outer s H→BindsTo s fd args (ps.zip us)→Vals vs us→sp vs H Q E→
  codeAny (model P w) A (.call (.ref f) args) (CR CX outer P w H s Q E) s
theorem ck.mono{P:Program}{w:World}{K:PySem.W.Frag}{mg:Str→Option Value}{base:Heap}{CX:aK}{j k:Nat}{f:Addr}{fd:FuncData}{ps:List Str}{sp:Sp}(F:ck P w K mg base CX j f fd ps sp)(h:j≤k):
  ck P w K mg base CX k f fd ps sp:=⟨F.len,fun A outer s H args us vs Q E hr=>F.run A outer s H args us vs Q E (hr.mono h)⟩
theorem jR.make{P:Program}{w:World}{K:PySem.W.Frag}{mg:Str→Option Value}{base:Heap}{A:Around}{outer:List Env}{s:Shared}{H:Hp}(e:jR P w K mg base A outer s H)(C:Addr)(us:List Value)(kw:List (Str×Value)):
  jR P w K mg base (A.under (.builtin "type.__call__" ⟨.ref C::us,kw⟩)) outer s H:=⟨by first | exact e.frames | (simpa[Around.under,Code.envs,Code.isFrame,pushEnvs] using e.frames),e.mod,e.bs,e.kz,e.hU,e.mz,e.aN,e.bare⟩
section
variable {X:Cx} {pins:List (Addr×Obj)} {σ:St} {H:Hp} {s s':Shared}
theorem Inv.zT(I:Inv X pins σ H s):jR X.prog X.w X.K X.mg X.base X.A X.stack s H:=
 ⟨I.ok.frames,I.ok.mod,I.bs,Nat.le_trans I.ok.kz I.sz,I.stack,I.vm,I.aN,I.bare⟩
theorem Inv.after{Q:VK}{u:Value}(I:Inv X pins σ H s)(h:CE X.stack X.prog X.w H s Q u s'):EP X pins σ Q u s':=by
 obtain⟨v,H',os,bare,un,aN,r,q⟩:=h
 obtain⟨hh,g,d,t,Yq⟩:=s'
 obtain rfl:Yq=s.os:=os
 exact⟨v,H',I.call (h':=hh) (g':=g) (d':=d) (t':=t) (ch:=[]) un aN bare (fun b z=>absurd z (by simp)),r,q⟩
end
def zU(sp:Sp)(d_:List V)(E:XK)(t:TA):TE:=fun σ H Q=>t σ H fun vs H1=>sp (vs++d_) H1 Q E
def mJ(C:Addr)(m:Str)(sp:Sp)(d_:List V)(E:XK)(ta:TE)(t:TA):TE:=fun σ H Q=>ta σ H fun x H1=> ∃a dx fs,x= .ref a∧H1 a=some (.ins C dx fs)∧fs.lookup m=none∧
 t σ H1 fun vs H2=>sp (x::(vs++d_)) H2 Q E
def rX(C:Addr)(sp:Sp)(d_:List V)(E:XK)(t:TA):TE:=fun σ H Q=>t σ H fun vs H1=> ∀x dx,H1 x=none→H1 dx=none→dx≠x→
 sp (.ref x::(vs++d_)) (upd (upd H1 dx (.own x)) x (.ins C dx [])) (fun v H2=>v= .az∧Q (.ref x) H2) E
def Binds(K:PySem.W.Frag)(fd:FuncData)(ps:List Str)(ds:List Value):Prop:=
 ∀(s:Shared) (us:List Value),K.In s.heap→(us++ds).length=ps.length→BindsTo s fd ⟨us,[]⟩ (ps.zip (us++ds))
theorem Binds.all{K:PySem.W.Frag}{fd:FuncData}{ps:List Str}(h: ∀us:List Value,us.length=ps.length→bindArgs fd ⟨us,[]⟩=pure (ps.zip us)):Binds K fd ps []:=fun s us _ hl=>by
 rw[List.append_nil] at hl⊢
 exact .of_eq (h us hl)
def Passes(CX:aK)(X:Cx)(E:XK):Prop:= ∀(pins:List (Addr×Obj)) (σ:St) (H:Hp) (s:Shared) (e:Value) (s':Shared),Inv X pins σ H s→CX X.stack H s E e s'→X.xe e s'
section
variable {X:Cx} {CX:aK} {k:Nat} {f C:Addr} {fd:FuncData} {ps:List Str} {sp:Sp} {d_:List V} {ds:List Value} {E:XK} {x m:Str} {p pos apos:Pos} {e o:Expr} {es:List Expr} {ta:TE} {t:TA}
theorem zV{pins:List (Addr×Obj)}{σ:St}{H:Hp}{s:Shared}{Q:VK}{us:List Value}{vs:List V}(F:ck X.prog X.w X.K X.mg X.base CX k f fd ps sp)(hr:cU k X.A)(hb:Binds X.K fd ps ds)(hd:Vals d_ ds)(hx:Passes CX X E)
  (I:Inv X pins σ H s) (r:Vals vs us) (h:sp (vs++d_) H Q E):wpAny (model X.prog X.w) X.A (call (.ref f) us) (EP X pins σ Q) X.xe s:=by
 have r2:Vals (vs++d_) (us++ds):=r.append hd
 have hl:(us++ds).length=ps.length:=by rw[←r2.length];exact F.len _ _ _ _ h
 refine wpAny_call (codeAny_mono (F.run X.A X.stack s H ⟨us,[]⟩ (us++ds) (vs++d_) Q E hr I.zT (hb s us I.cI hl) r2 h) fun r s' hq=> ?_)
 cases r with
 | error e=>exact hx pins σ H s e s' I hq
 | ok fl=>
  cases fl with
  | ret u=>exact I.after hq
  | next=>exact False.elim hq
  | brk=>exact False.elim hq
  | cont=>exact False.elim hq
theorem Yr(F:ck X.prog X.w X.K X.mg X.base CX k f fd ps sp)(hr:cU k X.A)(hg:Gl X x)(hm:X.mg x=some (.ref f))(hk:keepIn X.K (.ref f)=true)(hb:Binds X.K fd ps ds)(hd:Vals d_ ds)(hx:Passes CX X E)
  (ha:PA X (e::es) t) (iD:(x==("__debug__":Str))=false:=by decide) (he:starEach (e::es) X.env=(false,eval e X.env)::starEach es X.env:=by rfl) (jS:(backTo pos (starEach es X.env)).any (·.1)=false:=by rfl):
  PE X (.Call (.Name x p) (e::es) [] pos) (zU sp d_ E t):=by
 intro pins s σ H Q I h
 refine wpAny_Call_Name_kw (pU I hg hm ?_ iD)
 refine callWith_K (h₀:=X.base) I.ok.mod.my hk (bj (ha pos pins s σ H _ I h) fun us s1 ⟨vs,H1,I1,r,q⟩=> ⟨I1.cI, ?_⟩) he jS
 exact zV F hr hb hd hx I1 r q
structure Mk (K:PySem.W.Frag) (C f:Addr):Prop where
 makes:makesIn K C=true
 init:PySem.W.findIn K (.ref C) "__init__"=some (some (.ref f))
 fn:isFn K (.ref f)=true
 kp:keepIn K (.ref C)=true
theorem Nk{pins:List (Addr×Obj)}{σ:St}{H:Hp}{s:Shared}{Q:VK}{us:List Value}{vs:List V}(M:Mk X.K C f)(F:ck X.prog X.w X.K X.mg X.base CX k f fd ps sp)(hr:cU (k+1) X.A)(hb:Binds X.K fd ps ds)(hd:Vals d_ ds)
  (hx:Passes CX X E) (I:Inv X pins σ H s) (r:Vals vs us)
  (h: ∀x dx,H x=none→H dx=none→dx≠x→sp (.ref x::(vs++d_)) (upd (upd H dx (.own x)) x (.ins C dx [])) (fun v H2=>v= .az∧Q (.ref x) H2) E):
  wpAny (model X.prog X.w) X.A (call (.ref C) us) (EP X pins σ Q) X.xe s:=by
 have hq:=h (s.heap.objs.size+1) s.heap.objs.size (I.aN.fresh (Nat.le_succ _)) (I.aN.fresh (Nat.le_refl _)) (Nat.ne_of_lt (Nat.lt_succ_self _))
 have I2:=Inv.made (C:=C) I
 have r2:Vals (V.ref (s.heap.objs.size+1)::(vs++d_)) (Value.ref (s.heap.objs.size+1)::(us++ds)):= .cons rfl (r.append hd)
 have hl:(Value.ref (s.heap.objs.size+1)::us++ds).length=ps.length:=by
  have e:=r2.length
  rw[F.len _ _ _ _ hq] at e
  exact e.symm
 refine wpAny_call (Ye (f:=f) I.cI M.makes M.init (beq_iff_eq.mp M.fn) (codeAny_mono (F.run _ X.stack _ _ ⟨Value.ref (s.heap.objs.size+1)::us,[]⟩ (Value.ref (s.heap.objs.size+1)::(us++ds)) _ _ E (hr.make C us [])
  (I2.zT.make C us []) (hb _ (Value.ref (s.heap.objs.size+1)::us) I2.cI hl) r2 hq) fun r s' rY=> ?_))
 cases r with
 | error e=>exact hx pins σ _ _ e s' I2 rY
 | ok fl=>
  cases fl with
  | ret u=>
   obtain⟨v,H',I3,rv,ev,q3⟩:=I2.after rY
   subst ev
   exact⟨rv,⟨V.ref (s.heap.objs.size+1),H',I3,rfl,q3⟩⟩
  | next=>exact False.elim rY
  | brk=>exact False.elim rY
  | cont=>exact False.elim rY
theorem Ys(M:Mk X.K C f)(F:ck X.prog X.w X.K X.mg X.base CX k f fd ps sp)(hr:cU (k+1) X.A)(hg:Gl X x)(hm:X.mg x=some (.ref C))(hb:Binds X.K fd ps ds)(hd:Vals d_ ds)(hx:Passes CX X E)
  (ha:PA X (e::es) t) (iD:(x==("__debug__":Str))=false:=by decide) (he:starEach (e::es) X.env=(false,eval e X.env)::starEach es X.env:=by rfl) (jS:(backTo pos (starEach es X.env)).any (·.1)=false:=by rfl):
  PE X (.Call (.Name x p) (e::es) [] pos) (rX C sp d_ E t):=by
 intro pins s σ H Q I h
 refine wpAny_Call_Name_kw (pU I hg hm ?_ iD)
 refine callWith_K (h₀:=X.base) I.ok.mod.my M.kp (bj (ha pos pins s σ H _ I h) fun us s1 ⟨vs,H1,I1,r,q⟩=> ⟨I1.cI, ?_⟩) he jS
 exact Nk M F hr hb hd hx I1 r q
theorem Yt(M:Mk X.K C f)(F:ck X.prog X.w X.K X.mg X.base CX k f fd ps sp)(hr:cU (k+1) X.A)(hg:Gl X x)(hm:X.mg x=some (.ref C))(hb:Binds X.K fd ps ds)(hd:Vals d_ ds)(hx:Passes CX X E)
  (iD:(x==("__debug__":Str))=false:=by decide):PE X (.Call (.Name x p) [] [] pos) (rX C sp d_ E gb):=by
 intro pins s σ H Q I h
 refine wpAny_Call_Name_kw (pU I hg hm ?_ iD)
 exact callWith_K0 I.cI M.kp (Nk (us:=[]) M F hr hb hd hx I .nil h)
end
section
variable {X:Cx} {CX:aK} {k:Nat} {f C:Addr} {fd:FuncData} {ps ks:List Str} {sp:Sp} {E:XK} {x m:Str} {p pos apos ayE:Pos} {e o:Expr} {es:List Expr} {kws:List Keyword} {te ta:TE} {t tk:TA} {nm:Option Str}
variable {g:List Value→List Value→List Value} {gV:List V→List V→List V}
end
structure bw (N P:List Str) (sc:Scope):Prop where
 kind:sc.kind= .function
 co:sc.isCoroutine=false
 gen:sc.isGenerator=false
 nd:N.Nodup
 pre:N.take P.length=P
 par: ∀x∈P,sc.names.lookup x=some .local∨sc.names.lookup x=some .cell
 Yu: ∀y∈sc.names,y.2≠ .free
theorem bD{N P:List Str}{sc:Scope}(a:sc.kind= .function:=by kernel_rfl)(b:sc.isCoroutine=false:=by kernel_rfl)(c:sc.isGenerator=false:=by kernel_rfl)(d:N.Nodup:=by decide+kernel)(e:N.take P.length=P:=by kernel_rfl)(f: ∀x∈P,sc.names.lookup x=some .local∨sc.names.lookup x=some .cell:=by decide+kernel)(g: ∀y∈sc.names,y.2≠ .free:=by decide+kernel):bw N P sc:=⟨a,b,c,d,e,f,g⟩
theorem Nl{kindOf:Str→Option NameKind}{x:Str}: ∀{binds:List (Str×Value)} {m:Str→Option Value},(∀v,(x,v)∉binds)→bindL kindOf binds m x=m x
 | [],_,_=>rfl
 | (n,v)::r,m,h=>by
  unfold bindL
  rw[Nl fun w hw=>h w (List.mem_cons_of_mem _ hw)]
  split
  ·have:x≠n:=by rintro rfl;exact h v List.mem_cons_self
   simp[this]
  ·rfl
theorem Nm{kindOf:Str→Option NameKind}{x:Str}: ∀{binds:List (Str×Value)} {m:Str→Option Value},(∀v,(x,v)∉binds)→bindC kindOf binds m x=m x
 | [],_,_=>rfl
 | (n,v)::r,m,h=>by
  unfold bindC
  rw[Nm fun w hw=>h w (List.mem_cons_of_mem _ hw)]
  split
  ·rfl
  ·have:x≠n:=by rintro rfl;exact h v List.mem_cons_self
   simp[this]
theorem Nn{kindOf:Str→Option NameKind}{x:Str}{v:Value}: ∀{P:List Str} {vs:List Value} {i:Nat} {m:Str→Option Value},P.Nodup→P[i]?=some x→vs[i]?=some v→kindOf x=some .local→
  bindL kindOf (P.zip vs) m x=some v
 | [],_,_,_,_,h,_,_=>by simp at h
 | _::_,[],_,_,_,_,h,_=>by simp at h
 | p::P,w::vs,0,m,nd,h1,h2,hk=>by
  simp at h1 h2;subst h1;subst h2
  show bindL kindOf ((p,w)::P.zip vs) m p=_
  unfold bindL
  rw[Nl fun v hv=> (List.nodup_cons.mp nd).1 (List.of_mem_zip hv).1,if_pos hk]
  simp
 | p::P,w::vs,i+1,m,nd,h1,h2,hk=>by
  show bindL kindOf ((p,w)::P.zip vs) m x=_
  unfold bindL
  exact Nn (i:=i) (List.nodup_cons.mp nd).2 (by simpa using h1) (by simpa using h2) hk
theorem Np{kindOf:Str→Option NameKind}{x:Str}{v:Value}: ∀{P:List Str} {vs:List Value} {i:Nat} {m:Str→Option Value},P.Nodup→P[i]?=some x→vs[i]?=some v→kindOf x≠some .local→
  bindC kindOf (P.zip vs) m x=some v
 | [],_,_,_,_,h,_,_=>by simp at h
 | _::_,[],_,_,_,_,h,_=>by simp at h
 | p::P,w::vs,0,m,nd,h1,h2,hk=>by
  simp at h1 h2;subst h1;subst h2
  show bindC kindOf ((p,w)::P.zip vs) m p=_
  unfold bindC
  rw[Nm fun v hv=> (List.nodup_cons.mp nd).1 (List.of_mem_zip hv).1,if_neg hk]
  simp
 | p::P,w::vs,i+1,m,nd,h1,h2,hk=>by
  show bindC kindOf ((p,w)::P.zip vs) m x=_
  unfold bindC
  exact Np (i:=i) (List.nodup_cons.mp nd).2 (by simpa using h1) (by simpa using h2) hk
def start(N:List Str)(vs:List V):St:=vs.map some++List.replicate (N.length - vs.length) none
def jT(CX:aK)(P:Program)(w:World)(K:PySem.W.Frag)(mg:Str→Option Value)(base:Heap)(N:List Str)(qual:Str)(scope:Scope)(f:Addr)(cd:Value)(A:Around)(outer:List Env)(s:Shared)(H:Hp)(E:XK):Cx where
 prog:=P
 w:=w
 K:=K
 mg:=mg
 base:=base
 A:=A.deeper (envOfC qual scope s.heap.objs.size f cd)
 N:=N
 s₀:=s
 H₀:=H
 env:=envOfC qual scope s.heap.objs.size f cd
 outer:=outer
 stack:=envOfC qual scope s.heap.objs.size f cd::outer
 ex:=[]
 calm:=true
 fn:=fun _=>true
 pn:=[]
 xe:=fun e s'=>wpAny (model P w) (A.deeper (envOfC qual scope s.heap.objs.size f cd)) (leaving (envOfC qual scope s.heap.objs.size f cd) e) (fun _ fz=>CX outer H s E e fz) (fun e' fz=>CX outer H s E e' fz) s'
theorem Nq{sc:Scope}{n:Nat}{x:Str}(h:sc.names.lookup x=some .cell): ∃c,(cellsFrom n sc.names []).lookup x=some c:=by
 have q:=cellsFrom_some sc.names n [] (.inl h)
 exact Option.isSome_iff_exists.mp q
theorem Nr{CX:aK}{P:Program}{w:World}{K:PySem.W.Frag}{mg:Str→Option Value}{base:Heap}{N ps:List Str}{qual:Str}{scope:Scope}{f:Addr}{cd:Value}{A:Around}{outer:List Env}{s s1:Shared}{H:Hp}{E:XK}{us:List Value}{vs:List V}
  (S:bw N ps scope) (hd:A.handled=none) (e0:jR P w K mg base A outer s H) (hl:vs.length=ps.length) (r:Vals vs us)
  (x:InCallC s s.heap.objs.size (bindL (envOfC qual scope s.heap.objs.size f cd).kindOf (ps.zip us) fun _=>none) (cellsFrom (s.heap.objs.size+1) scope.names []) (bindC (envOfC qual scope s.heap.objs.size f cd).kindOf (ps.zip us) fun _=>none) s1):
  Inv (jT CX P w K mg base N qual scope f cd A outer s H E) [] (start N vs) H s1:=by
 have jS:ps.length≤N.length:=by have:=congrArg List.length S.pre;rw[List.length_take] at this;omega
 obtain⟨h1,tk,rfl,hk⟩:=x.done
 have r9: ∀b:Addr,b∉ (jT CX P w K mg base N qual scope f cd A outer s H E).ex:=fun b z=>absurd (show b∈ ([]:List Addr) from z) (by simp)
 refine⟨⟨e0.mod,S.kind,rfl,rfl,Nat.le_refl _,fun y z c h1 h2=> ?_,fun y hy=> ?_,fun y c _ h=> ?_,fun _=>hd,Around.frames_deeper e0.frames, .inr ⟨rfl,rfl⟩,fun b z=>absurd z (r9 b),e0.bs,e0.kz,fun b _ _=>r9 b,fun b z=>absurd z (r9 b),e0.hU,e0.mz⟩,
  rfl,e0.bare,Un.kept hk,⟨_,x.toInCall.ns,fun i y v h1 h2 h3=> ?_⟩,fun y c h=> ⟨_,x.cell y c h⟩,e0.aN.fresh (Nat.le_refl _),fun y c h=> ?_,fun p hp=>absurd (show p∈ ([]:List (Addr×Obj)) from hp) (by simp),e0.aN.kept hk, ?_⟩
 ·exact name_of_addr x.apart (PySem.mem_of_lookup h1) (PySem.mem_of_lookup h2)
 ·have hy:scope.names.lookup y=some .cell∨scope.names.lookup y=some .free:=hy
  rcases hy with hy | hy
  ·exact Nq hy
  ·exact absurd rfl (S.Yu _ (PySem.mem_of_lookup hy))
 ·exact Nat.le_of_lt (x.above y c (PySem.mem_of_lookup h))
 ·have hi:i<vs.length:=by
   unfold start at h2
   by_cases hi:i<vs.length
   ·exact hi
   ·rw[List.getElem?_append_right (by simpa using hi)] at h2
    rw[List.getElem?_replicate] at h2
    split at h2<;>cases h2
  have ha:vs[i]?=some v:=by
   unfold start at h2
   rw[List.getElem?_append_left (by simpa using hi),List.getElem?_map] at h2
   cases e:vs[i]? with
   | none=>rw[e] at h2;cases h2
   | some a=>rw[e] at h2;cases h2;rfl
  obtain⟨u,hu,rv⟩:=r.get ha
  have hp:ps[i]?=some y:=by
   rw[←S.pre,List.getElem?_take_of_lt (by omega)];exact h1
  have Nt:ps.Nodup:=by rw[←S.pre];exact S.nd.sublist (List.take_sublist _ _)
  refine⟨u,rv, ?_⟩
  rcases S.par y (List.mem_of_getElem? hp) with k | k
  ·exact .inl ⟨k,Nn Nt hp hu k⟩
  ·obtain⟨c,e⟩:=Nq (n:=s.heap.objs.size+1) k
   refine .inr ⟨.inl k,c,e, ?_⟩
   have q:=x.cell y c e
   rw[Np Nt hp hu (by show scope.names.lookup y≠_;rw[k];decide)] at q
   exact q
 ·exact e0.aN.fresh (Nat.le_of_lt (x.above y c (PySem.mem_of_lookup h)))
 ·unfold start
  show _=N.length
  rw[List.length_append,List.length_map,List.length_replicate]
  omega
theorem Nu{CX:aK}{P:Program}{w:World}{K:PySem.W.Frag}{mg:Str→Option Value}{base:Heap}{k:Nat}{f:Addr}{name qual:Str}{params:Arguments}{body:List Stmt}{scope:Scope}{dV kV doc pm bQ ct oc:Value}{an od:Option Addr}
  {hZ:Array (Option Value)} {N ps:List Str} {sp:Sp} (lk:K.lookup f=some ⟨oc,od, .func (fnOf name qual params body scope dV kV doc pm an bQ ct),hZ⟩) (fq:codeIn K bQ qual=true) (S:bw N ps scope)
  (len: ∀vs H Q E,sp vs H Q E→vs.length=ps.length)
  (zW: ∀(A:Around) (outer:List Env) (s:Shared) (H:Hp) (vs:List V) (Q:VK) (E:XK),cU k (A.deeper (envOfC qual scope s.heap.objs.size f bQ))→sp vs H Q E→
   ∃t,a_ (jT CX P w K mg base N qual scope f bQ A outer s H E) body t∧t {nx:=fun _ H'=>Q .az H',rt:=Q} (start N vs) H):
  ck P w K mg base CX (k+1) f (fnOf name qual params body scope dV kV doc pm an bQ ct) ps sp:=by
 refine⟨len,fun A outer s H args us vs Q E hr e0 hb r gA=> ?_⟩
 have hl:=len _ _ _ _ gA
 have KX:K.In s.heap:=e0.mod.my.keeps fun b o e=> (e0.bs b o e).1
 have lim:s.heap.NoLimit:=e0.mod.nolimit.keeps fun b o e=> (e0.bs b o e).1
 have zX: ∀y∈ps.zip us,scope.names.lookup y.1=some .local∨(scope.names.lookup y.1=some .cell∧((cellsFrom (s.heap.objs.size+1) scope.names []).lookup y.1).isSome=true):=fun⟨n,v⟩ hy=>by
  rcases S.par n (List.of_mem_zip hy).1 with q | q
  ·exact .inl q
  ·exact .inr ⟨q,cellsFrom_some _ _ _ (.inl q)⟩
 refine codeAny_call_function hr.depth (KX _ _ lk) rfl S.co S.gen rfl (codeRec_of KX fq) (hb _ _ _ _ ?_)
 refine wpAny_newFunctionEnv_cells S.kind zX fun env he s1 x=> ?_
 subst he
 refine⟨lim.keeps x.toInCall.keep,codeAny_func ?_⟩
 obtain⟨t,ht,hq⟩:=zW A outer s H vs Q E (hr.deeper _) gA
 have I:Inv (jT CX P w K mg base N qual scope f bQ A outer s H E) [] (start N vs) H s1:=Nr S hr.hd e0 hl r x
 refine wpAny_mono (ht [] s1 (start N vs) H _ I hq) (fun fl s' hs=> ?_) fun e s' hs=>hs
 have fin: ∀{σ':St} {H':Hp} {v:V} {u:Value},Inv (jT CX P w K mg base N qual scope f bQ A outer s H E) [] σ' H' s'→RelV v u→Q v H'→CE outer P w H s Q u s':=
  fun {σ' H' v u} J rv q=> ⟨v,H',J.os,J.bare,J.base,J.aN,rv,q⟩
 cases fl with
 | ret u=>
  obtain⟨v,σ',H',J,rv,q⟩:=hs
  exact fin J rv q
 | next=>
  obtain⟨σ',H',J,q⟩:=hs
  exact fin (v:=V.az) (u:=Value.none) J rfl q
 | brk=>
  obtain⟨_,_,_,q⟩:=hs
  exact False.elim q
 | cont=>
  obtain⟨_,_,_,q⟩:=hs
  exact False.elim q
section
variable {X:Cx} {x:Str} {p pos:Pos} {e:Expr} {es:List Expr} {t:TA} {id T:String} {r:List V→Hp→VK→Prop}
def dD(r:List V→Hp→VK→Prop)(t:TA):TE:=fun σ H Q=>t σ H fun vs H1=>r vs H1 Q
theorem vF(hc:cz X (.builtin id) r)(hg:Gl X x)(hm:X.mg x=none)(hv:bootBuiltins x=some (.builtin id))(ha:PA X (e::es) t)(hn:x≠"__name__":=by decide)(iD:(x==("__debug__":Str))=false:=by decide)
  (he:starEach (e::es) X.env=(false,eval e X.env)::starEach es X.env:=by rfl) (jS:(backTo pos (starEach es X.env)).any (·.1)=false:=by rfl):PE X (.Call (.Name x p) (e::es) [] pos) (dD r t):=by
 intro pins s σ H Q I h
 refine wpAny_Call_Name_kw (rV I hg hm hv ?_ hn iD)
 exact PyProof.Rows.callWith_builtin1 (bj (ha pos pins s σ H _ I h) fun us s1 ⟨vs,H1,I1,r1,q1⟩=>hc pins s1 σ H1 vs us Q I1 r1 q1) he jS
theorem Yv(hc:cz X (.type T) r)(hg:Gl X x)(hm:X.mg x=none)(hv:bootBuiltins x=some (.type T))(ha:PA X (e::es) t)(hn:x≠"__name__":=by decide)(iD:(x==("__debug__":Str))=false:=by decide)
  (he:starEach (e::es) X.env=(false,eval e X.env)::starEach es X.env:=by rfl) (jS:(backTo pos (starEach es X.env)).any (·.1)=false:=by rfl):PE X (.Call (.Name x p) (e::es) [] pos) (dD r t):=by
 intro pins s σ H Q I h
 refine wpAny_Call_Name_kw (rV I hg hm hv ?_ hn iD)
 exact PyProof.Rows.callWith_type1 (bj (ha pos pins s σ H _ I h) fun us s1 ⟨vs,H1,I1,r1,q1⟩=>hc pins s1 σ H1 vs us Q I1 r1 q1) he jS
end
end L2
namespace HT
open PySem PyProof.Rows
section
open PySem.SeqAt
open PySem.AutoSeq1 (wpAny_loadPart')
open PySem.MeetsSeq PySem.MeetsSeq2 PySem.MeetsSeq3
end
section
variable {prog:Program} {w:World} {A:Around} {E:Value→Shared→Prop} {s:Shared}
theorem Yw{t b:Addr}{vs ws:List Value}{Q:Value→Shared→Prop}(ht:IsTup s.heap t vs.toArray)(hb:IsTup s.heap b ws.toArray)(hv:vs≠ [])
  (h1:ws=[]→Q (.ref t) s) (h2:ws≠ []→Q (.ref s.heap.objs.size) {s with heap:=s.heap.push {cls:= .type "tuple",data:= .seq (vs++ws).toArray}})
  (kJ:vs.length+ws.length≤sizeLine):wpAny (model prog w) A (binaryOp .Add (.ref t) (.ref b)) Q E s:=by
 obtain⟨⟨cls,dd,data,sl⟩,ho,hc,n,hd⟩:=id ht
 obtain⟨⟨ayG,Nv,data2,mK⟩,gB,Nw,n2,hd2⟩:=id hb
 simp only at hc hd Nw hd2
 subst hc hd Nw hd2
 have e:vs.toArray++ws.toArray=(vs++ws).toArray:=by simp
 by_cases hw:ws=[]
 ·exact concat_meets ⟨_,ho,rfl⟩ ⟨_,gB,rfl⟩ noFill_tuple_add seq_tuple_add PySem.F.slot_tuple_add PySem.F.entry_tuple_add (PySem.F.args_tuple_add_2 _ _)
   (tuple_addW1 t b vs.toArray ws.toArray n n2 dd Nv sl mK (by simpa using hv) (by simp[hw])) ⟨ho,gB,h1 hw⟩
 ·refine concat_meets ⟨_,ho,rfl⟩ ⟨_,gB,rfl⟩ noFill_tuple_add seq_tuple_add PySem.F.slot_tuple_add PySem.F.entry_tuple_add (PySem.F.args_tuple_add_2 _ _)
   (tuple_addW2 t b vs.toArray ws.toArray n n2 dd Nv sl mK (by simpa using hv) (by simpa using hw) (by rw[List.size_toArray,List.size_toArray];exact kJ)) ⟨ho,gB, ?_⟩
  rw[e]
  exact h2 hw
def bx(n d:Nat):Option Int→Nat
 | none=>d
 | some v=>if v<0 then (v+ (n:Int)).toNat else min v.toNat n
theorem Nx(n d:Nat):bx n d none=d:=rfl
theorem mL(n d k:Nat):bx n d (some (k:Int))=min k n:=by
 show(if (k:Int) <0 then ((k:Int)+ (n:Int)).toNat else min (k:Int).toNat n)=min k n
 rw[if_neg (by omega),Int.toNat_natCast]
theorem zY(n d:Nat)(hd:d≤n)(o:Option Int):bx n d o≤n:=by
 cases o with
 | none=>exact hd
 | some v=>
  show(if v<0 then (v+ (n:Int)).toNat else min v.toNat n)≤n
  by_cases hv:v<0
  ·rw[if_pos hv];omega
  ·rw[if_neg hv];exact Nat.min_le_right _ _
theorem Ny(v:Int)(n d:Nat):(if v<0 then max (v+ (n:Int)) 0 else min v (n:Int))=((bx n d (some v):Nat):Int):=by
 show(if v<0 then max (v+ (n:Int)) 0 else min v (n:Int))=(((if v<0 then (v+ (n:Int)).toNat else min v.toNat n):Nat):Int)
 by_cases hv:v<0
 ·simp only[if_pos hv];omega
 ·simp only[if_neg hv];omega
theorem Yx(lo hi:Option Int)(n:Nat):Builtin.Slice.sliceAdjust lo hi 1 (n:Int)=(((bx n 0 lo:Nat):Int),((bx n n hi:Nat):Int)):=by
 have h1: ¬((1:Int) <0):=by omega
 unfold Builtin.Slice.sliceAdjust
 simp only[h1,if_false]
 refine Prod.ext ?_ ?_
 ·cases lo with
  | none=>rfl
  | some v=>exact Ny v n 0
 ·cases hi with
  | none=>rfl
  | some v=>exact Ny v n n
theorem Yy(i j:Nat):Builtin.Slice.slicePlaces (i:Int) (j:Int) 1=j - i:=by
 unfold Builtin.Slice.slicePlaces
 have h1:(1:Int) >0:=by omega
 simp only[h1,if_true,Int.ediv_one]
 split<;>omega
theorem Nz{v:Value}{o:Option Int}{Q:Option Int→Shared→Prop}(p:IsPart v o)(h:Q o s):wpAny (model prog w) A (Builtin.Slice.slicePartIndex v) Q E s:=by
 cases p with
 | none=>exact slicePart_none h
 | int i t=>exact slicePart_int h
theorem Yz{sl:Addr}{vl vu:Value}{lo hi:Option Int}{n:Nat}{Q:Int×Int×Nat→Shared→Prop}(hs:s.heap.IsSliceOf sl vl vu .none)(pl:IsPart vl lo)(pu:IsPart vu hi)
  (h:Q (((bx n 0 lo:Nat):Int),1,bx n n hi - bx n 0 lo) s):wpAny (model prog w) A (Builtin.Slice.sliceApplied (.ref sl) (pure (n:Int))) Q E s:=by
 obtain⟨os,r_,NA,vG⟩:=id hs
 unfold Builtin.Slice.sliceApplied Builtin.Slice.sliceFields
 refine wpAny_bind (wpAny_bind (wpAny_field r_ vG (x:=vl) rfl (wpAny_bind (wpAny_field r_ vG (x:=vu) rfl (wpAny_bind (wpAny_field r_ vG (x:= .none) rfl (wpAny_pure ?_)))))))
 refine wpAny_bind (slicePart_none ?_)
 show wpAny _ _ (if ((1:Int)==0)=true then _ else _) _ _ s
 rw[if_neg (by decide)]
 refine wpAny_bind (Nz pl (wpAny_bind (Nz pu (wpAny_bind (wpAny_pure ?_)))))
 show wpAny _ _ (match Builtin.Slice.sliceAdjust lo hi 1 (n:Int) with | (lo,hi)=>pure (lo,(1:Int),Builtin.Slice.slicePlaces lo hi 1)) _ _ s
 rw[Yx lo hi n]
 show wpAny _ _ (pure (((bx n 0 lo:Nat):Int),(1:Int),Builtin.Slice.slicePlaces ((bx n 0 lo:Nat):Int) ((bx n n hi:Nat):Int) 1)) _ _ s
 rw[Yy]
 exact wpAny_pure h
theorem YA(xs:Array Value)(i k:Nat):((List.range k).filterMap fun(m:Nat)=>xs[((i:Int)+ (m:Int)*1).toNat]?).toArray=((xs.toList.drop i).take k).toArray:=by
 have e:(fun(m:Nat)=>xs[((i:Int)+ (m:Int)*1).toNat]?)=fun m=>xs[i+m]?:=by
  funext m
  have:((i:Int)+ (m:Int)*1).toNat=i+m:=by omega
  rw[this]
 rw[e]
 have:=pick_run xs i k
 rw[List.filterMap_map] at this
 have e2:((fun x=>xs[x]?)∘fun x=>i+x)=fun m=>xs[i+m]?:=rfl
 rw[e2] at this
 rw[this]
theorem YB{t sl:Addr}{items:Array Value}{vl vu:Value}{lo hi:Option Int}{Q:Value→Shared→Prop}(ht:IsTup s.heap t items)(hs:s.heap.IsSliceOf sl vl vu .none)(pl:IsPart vl lo)(pu:IsPart vu hi)
  (hw: ¬(bx items.size 0 lo=0∧bx items.size items.size hi=items.size))
  (h:Q (.ref s.heap.objs.size) {s with heap:=s.heap.push {cls:= .type "tuple",data:= .seq ((items.toList.drop (bx items.size 0 lo)).take (bx items.size items.size hi - bx items.size 0 lo)).toArray}})
  (kJ:items.size≤sizeLine):wpAny (model prog w) A (getItem (.ref t) (.ref sl)) Q E s:=by
 have vH:sizeOk (.seq ((items.toList.drop (bx items.size 0 lo)).take (bx items.size items.size hi - bx items.size 0 lo)).toArray):=by
  show((items.toList.drop (bx items.size 0 lo)).take (bx items.size items.size hi - bx items.size 0 lo)).toArray.size≤sizeLine
  rw[List.size_toArray,List.length_take,List.length_drop,Array.length_toList]
  omega
 have hj:bx items.size items.size hi≤items.size:=zY _ _ (Nat.le_refl _) hi
 obtain⟨os,r_,NA,vG⟩:=id hs
 have YC:s.TypeIs (.ref sl) "slice":=⟨os,r_,NA⟩
 unfold getItem
 try with_reducible refine wpAny_holding ?_
 first | refine wpAny_bind (wpAny_pure ?_) | skip
 refine wpAny_bind (wpAny_sequenceKey ht.typeIs (by decide) ?_)
 refine wpAny_bind (wpAny_callSpecial?_slot (name:=Str.ofString "__getitem__") ht.typeIs PyProof.Rows.slot_tuple_getitem
  (wpAny_call_entry PyProof.Rows.slot_tuple_getitem ht.typeIs entry_tuple_getitem ?_ (args_tuple_getitem _ _)))
 show wpAny _ _ (Builtin.Tuple.tupleItemsOf (.ref t) >>=_) _ _ s
 refine wpAny_bind (tupleItemsOf_ ht ?_)
 refine wpAny_bind (wpAny_typeOf YC ?_)
 rw[if_pos (by decide)]
 refine wpAny_bind (Yz hs pl pu ?_)
 have YD: ¬((((bx items.size 0 lo:Nat):Int)==0 && (1:Int)==1 && (bx items.size items.size hi - bx items.size 0 lo)==items.size)=true):=by
  intro q
  rw[Bool.and_eq_true,Bool.and_eq_true] at q
  have q1:((bx items.size 0 lo:Nat):Int)=0:=eq_of_beq q.1.1
  have q2:bx items.size items.size hi - bx items.size 0 lo=items.size:=eq_of_beq q.2
  exact hw ⟨by omega,by omega⟩
 show wpAny _ _ (if (((bx items.size 0 lo:Nat):Int)==0 && (1:Int)==1 && (bx items.size items.size hi - bx items.size 0 lo)==items.size)=true then _ else _) _ _ s
 rw[if_neg YD,YA]
 first
  | exact wpAny_bind (m:=Builtin.Tuple.tupleExact _) (wpAny_newObj_type (wpAny_pure ⟨_,rfl,wpAny_pure h⟩) vH)
  | exact wpAny_bind (m:=Builtin.Tuple.tupleExact _) (wpAny_newObj_type (wpAny_bind (wpAny_pure (wpAny_pure ⟨_,rfl,wpAny_pure h⟩))) vH)
  | exact wpAny_bind (wpAny_bind (m:=Builtin.Tuple.tupleExact _) (wpAny_newObj_type (wpAny_pure (wpAny_pure ⟨_,rfl,wpAny_pure h⟩)) vH))
  | exact wpAny_bind (wpAny_bind (m:=Builtin.Tuple.tupleExact _) (wpAny_newObj_type (wpAny_pure ⟨_,rfl,wpAny_pure h⟩) vH))
end
end HT
namespace L2
open PySem PySem.Spec PyProof.Rows
abbrev TO:=St→Hp→(Option Int→Hp→Prop)→Prop
def PO(X:Cx)(e:Option Expr)(t:TO):Prop:=
 ∀(pins:List (Addr×Obj)) (s:Shared) (σ:St) (H:Hp) (Q:Option Int→Hp→Prop),Inv X pins σ H s→t σ H Q→
  wpAny (model X.prog X.w) X.A (evalPart e X.env) (fun u s'=> ∃o H',Inv X pins σ H' s'∧IsPart u o∧Q o H') X.xe s
def NB:TO:=fun _ H Q=>Q none H
def vI(t:TE):TO:=fun σ H Q=>t σ H fun x H1=> ∃i,x= .int i∧Q (some i) H1
theorem intsAre_of{ns:List Int}: ∀{us:List Value},Vals (ns.map V.int) us→IntsAre us ns:=by
 induction ns with
 | nil=>intro us r;rw[List.map_nil] at r;cases r;exact .nil
 | cons n ns ih=>
  intro us r
  rw[List.map_cons] at r
  cases r with
  | cons r1 r2=>
   obtain⟨t,e⟩:=r1
   subst e
   exact .cons n t (ih r2)
section
variable {X:Cx} {e:Expr} {te:TE} {lo hi:Option Expr} {tl th:TO} {pos p2:Pos}
theorem YE:PO X none NB:=by
 intro pins s σ H Q I h
 rw[evalPart_none]
 exact wpAny_pure ⟨none,H,I, .none,h⟩
theorem YF(h:PE X e te):PO X (some e) (vI te):=by
 intro pins s σ H Q I hw
 rw[evalPart_some]
 refine bj (h pins s σ H _ I hw) fun u s1 ⟨x,H1,I1,r1,q1⟩=> ?_
 obtain⟨i,rfl,q⟩:=q1
 obtain⟨t,rfl⟩:=r1
 exact⟨some i,H1,I1, .int i t,q⟩
def vJ(X:Cx)(r:V→Option Int→Option Int→Hp→VK→Prop):Prop:=
 ∀(pins:List (Addr×Obj)) (s:Shared) (σ:St) (H:Hp) (x:V) (v vl vu:Value) (lo hi:Option Int) (sl:Addr) (Q:VK),Inv X pins σ H s→RelV x v→s.heap.IsSliceOf sl vl vu .none→IsPart vl lo→IsPart vu hi→r x lo hi H Q→
  ∃T id,typeLookup (.type T) "__getitem__"=pure (some (.builtin id))∧s.TypeIs v T∧wpAny (model X.prog X.w) X.A (getItem v (.ref sl)) (EP X pins σ Q) X.xe s
def zZ(r:V→Option Int→Option Int→Hp→VK→Prop)(te:TE)(tl th:TO):TE:=fun σ H Q=>te σ H fun x H1=>tl σ H1 fun l H2=>th σ H2 fun u H3=>r x l u H3 Q
theorem YG{r:V→Option Int→Option Int→Hp→VK→Prop}(hr:vJ X r)(he:PE X e te)(hl:PO X lo tl)(hu:PO X hi th):PE X (.Subscript e (.Slice lo hi none p2) pos) (zZ r te tl th):=by
 intro pins s σ H Q I h
 refine Subscript_ (bj (he pins s σ H _ I h) fun v s1 ⟨x,H1,I1,r1,q1⟩=> ?_)
 refine wpAny_Slice (bj (hl pins s1 σ H1 _ I1 q1) fun vl s2 ⟨l,H2,I2,pl,q2⟩=>bj (hu pins s2 σ H2 _ I2 q2) fun vu s3 ⟨u,H3,I3,pu,q3⟩=> ?_)
 rw[evalPart_none]
 refine wpAny_pure ?_
 have I4:Inv X pins σ H3 {s3 with heap:=s3.heap.push {cls:= .type "slice",data:= .fields #[vl,vu, .none]}}:=I3.kept (t':=s3.toks) fun b ob q=>Heap.get?_push_of_some _ q
 obtain⟨T,id,hT,ht,hg⟩:=hr pins {s3 with heap:=s3.heap.push {cls:= .type "slice",data:= .fields #[vl,vu, .none]}} σ H3 x v vl vu l u s3.heap.objs.size Q I4 r1 (Heap.IsSliceOf.new ..) pl pu q3
 show wpAny (model X.prog X.w) X.A (subscriptTail e (.Slice lo hi none p2) v (.ref s3.heap.objs.size)) (EP X pins σ Q) X.xe {s3 with heap:=s3.heap.push {cls:= .type "slice",data:= .fields #[vl,vu, .none]}}
 exact tail_any (ops:=[.ref s3.heap.objs.size,v]) ht hT hg (by with_unfolding_all rfl)
def gc(xs:List V)(lo hi:Option Int):List V:=(xs.drop (HT.bx xs.length 0 lo)).take (HT.bx xs.length xs.length hi - HT.bx xs.length 0 lo)
theorem NC(xs:List V)(lo hi:Option Int):(gc xs lo hi).length≤xs.length:=by
 unfold gc
 rw[List.length_take,List.length_drop]
 omega
def YH(K:PySem.W.Frag):V→Option Int→Option Int→Hp→VK→Prop:=fun x lo hi H Q=> ∃a xs,x= .ref a∧bq K H a xs∧
 ¬(HT.bx xs.length 0 lo=0∧HT.bx xs.length xs.length hi=xs.length)∧ ∀p,H p=none→Q (.ref p) (upd H p (.tup (gc xs lo hi)))
theorem YI:vJ X (YH X.K):=by
 intro pins s σ H x v vl vu lo hi sl Q I rx hs pl pu h
 obtain⟨a,xs,rfl,hx,hw,q⟩:=h
 cases rx
 obtain⟨its,r,ht,hz⟩:=I.tuple hx
 have hlen:its.toArray.size=xs.length:=by rw[List.size_toArray];exact r.length.symm
 refine⟨"tuple",_,PyProof.Rows.slot_tuple_getitem.lookup,ht.typeIs, ?_⟩
 refine HT.YB ht hs pl pu (by rw[hlen];exact hw) ?_ (by rw[hlen];exact hz)
 rw[hlen]
 refine⟨.ref s.heap.objs.size,_,I.laid (t':=s.toks) (o:= .tup (gc xs lo hi)) (fun b ob q=>Heap.get?_push_of_some _ q) (Nat.le_refl _) ?_,rfl,q _ (I.aN.fresh (Nat.le_refl _))⟩
 exact⟨Nat.le_trans (NC xs lo hi) hz,_,(r.drop (HT.bx xs.length 0 lo)).take (HT.bx xs.length xs.length hi - HT.bx xs.length 0 lo),IsTup.new _ _⟩
def ND(K:PySem.W.Frag):R2:=fun x y H Q=> ∃a b xs ys,x= .ref a∧y= .ref b∧bq K H a xs∧bq K H b ys∧xs≠ []∧xs.length+ys.length≤sizeLine∧
 (ys=[]→Q (.ref a) H)∧(ys≠ []→ ∀p,H p=none→Q (.ref p) (upd H p (.tup (xs++ys))))
theorem Vals.z5{xs:List V}{us:List Value}(r:Vals xs us):us=[]↔xs=[]:=by
 cases r with
 | nil=>simp
 | cons _ _=>simp
theorem YJ:bL X (binaryOp .Add) (ND X.K):=by
 intro pins s σ H x y v u Q I rx ry h
 obtain⟨a,b,xs,ys,rfl,rfl,ha,hb,hx,hz,q1,q2⟩:=h
 cases rx
 cases ry
 obtain⟨its,r1,p1,_⟩:=I.tuple ha
 obtain⟨h9,r2,p2,_⟩:=I.tuple hb
 refine HT.Yw p1 p2 (fun z=>hx (r1.z5.mp z)) (fun z=> ⟨.ref a,H,I,rfl,q1 (r2.z5.mp z)⟩) (fun z=> ?_) (by rw[←r1.length,←r2.length];exact hz)
 refine⟨.ref s.heap.objs.size,_,I.laid (t':=s.toks) (o:= .tup (xs++ys)) (fun b ob q=>Heap.get?_push_of_some _ q) (Nat.le_refl _) ?_,rfl,q2 (fun w=>z (r2.z5.mpr w)) _ (I.aN.fresh (Nat.le_refl _))⟩
 exact⟨by rw[List.length_append];exact hz,_,r1.append r2,IsTup.new _ _⟩
end
def h_(n:Nat)(i:Int):Option Nat:=if 0≤i then (if i<n then some i.toNat else none) else if -(n:Int)≤i then some (i+n).toNat else none
def dW{α:Type}(xs:List α)(i:Int):Option α:=(h_ xs.length i).bind fun j=>xs[j]?
theorem NG{n:Nat}{i:Int}{j:Nat}(h:h_ n i=some j):seqIndex? i n=some j∧j<n∧ -(n:Int)≤i∧i<n:=by
 unfold h_ at h
 by_cases h0:0≤i
 ·rw[if_pos h0] at h
  by_cases h1:i<n
  ·rw[if_pos h1] at h
   have e:i.toNat=j:=Option.some.inj h
   exact⟨by rw[seqIndex_of h0 h1,e],by omega,by omega,h1⟩
  ·rw[if_neg h1] at h;cases h
 ·rw[if_neg h0] at h
  by_cases h1: -(n:Int)≤i
  ·rw[if_pos h1] at h
   have e:(i+n).toNat=j:=Option.some.inj h
   exact⟨by rw[seqIndex_neg (by omega) h1,e],by omega,h1,by omega⟩
  ·rw[if_neg h1] at h;cases h
theorem z6{α:Type}{xs:List α}{i:Int}{v:α}(h:dW xs i=some v): ∃j,seqIndex? i xs.length=some j∧xs[j]?=some v∧j<xs.length∧ -(xs.length:Int)≤i∧i<xs.length:=by
 unfold dW at h
 cases e:h_ xs.length i with
 | none=>rw[e] at h;cases h
 | some j=>
  rw[e] at h
  obtain⟨h1,h2,h3,h4⟩:=NG e
  exact⟨j,h1,h,h2,h3,h4⟩
theorem kO{α:Type}{xs:List α}{j:Nat}{v:α}(h:xs[j]?=some v):dW xs (j:Int)=some v:=by
 have hj:j<xs.length:=(List.getElem?_eq_some_iff.mp h).1
 have e:h_ xs.length (j:Int)=some j:=by
  unfold h_
  rw[if_pos (by omega),if_pos (by omega)];simp
 unfold dW;rw[e];exact h
theorem NH{α:Type}(xs:List α)(v:α):dW (xs++ [v]) (-1)=some v:=by
 have hl:(xs++ [v]).length=xs.length+1:=by simp
 have e:h_ (xs++ [v]).length (-1)=some xs.length:=by
  unfold h_
  rw[hl,if_neg (by decide),if_pos (by omega)]
  congr 1
  omega
 unfold dW
 rw[e]
 show(xs++ [v])[xs.length]?=some v
 simp
def NJ(b:Expr):Prop:= ∀o i,subscripted b false o i=operate [o,i] (getItem o i)
def ji(X:Cx)(r:R2):Prop:=
 ∀(value slice:Expr) (pins:List (Addr×Obj)) (s:Shared) (σ:St) (H:Hp) (x y:V) (v u:Value) (Q:VK),Inv X pins σ H s→RelV x v→RelV y u→r x y H Q→
  subscripted slice false v u=operate [v,u] (getItem v u)→wpAny (model X.prog X.w) X.A (subscriptTail value slice v u) (EP X pins σ Q) X.xe s
def jU(X:Cx)(id:String)(r:V→List V→Hp→VK→Prop):Prop:=
 ∀(pins:List (Addr×Obj)) (s:Shared) (σ:St) (H:Hp) (x:V) (xs:List V) (v:Value) (us:List Value) (Q:VK),Inv X pins σ H s→RelV x v→Vals xs us→r x xs H Q→
  wpAny (model X.prog X.w) X.A (call (.builtin id) (v::us)) (EP X pins σ Q) X.xe s
section
variable {X:Cx} {a b:Expr} {ta tb:TE} {pos:Pos}
theorem ji.or{r r':R2}(h:ji X r)(h':ji X r'):ji X (fun x y H Q=>r x y H Q∨r' x y H Q):=by
 intro value slice pins s σ H x y v u Q I rx ry q hs
 rcases q with q | q
 ·exact h value slice pins s σ H x y v u Q I rx ry q hs
 ·exact h' value slice pins s σ H x y v u Q I rx ry q hs
theorem YK{r:R2}(hr:ji X r)(ha:PE X a ta)(hb:PE X b tb)(hs:NJ b):PE X (.Subscript a b pos) (d9 r ta tb):=by
 intro pins s σ H Q I h
 exact Subscript_ (zN ha hb I h fun v u s2 x y H2 I2 rx ry q=>hr a b pins s2 σ H2 x y v u Q I2 rx ry q (hs _ _))
def NK(K:PySem.W.Frag):R2:=fun x y H Q=> ∃p xs i v,x= .ref p∧y= .int i∧aP K H p xs∧dW xs i=some v∧Q v H
def NL(K:PySem.W.Frag):R2:=fun x y H Q=> ∃p xs i v,x= .ref p∧y= .int i∧bq K H p xs∧dW xs i=some v∧Q v H
def NM:R2:=fun x y H Q=> ∃z i c,x= .str z∧y= .int i∧z.length≤sizeLine∧dW z.cps.toList i=some c∧Q (.str ⟨#[c]⟩) H
theorem YL:ji X (NK X.K):=by
 intro value slice pins s σ H x y v u Q I rx ry h hs
 obtain⟨p,xs,i,z,rfl,rfl,hq,he,q⟩:=h
 cases rx
 obtain⟨t,rfl⟩:=ry
 obtain⟨its,r,pl,hz⟩:=I.list hq
 obtain⟨j,h1,h2,h3,h4,h5⟩:=z6 he
 obtain⟨w,ew,mM⟩:=r.get h2
 have hl:=r.length
 have hn:=kI
 have fin:EP X pins σ Q w s:=⟨z,H,I,mM,q⟩
 by_cases h0:0≤i
 ·have hj:i.toNat=j:=by
   rw[seqIndex_of h0 h5] at h1
   exact Option.some.inj h1
  exact item_listR pl.isList h0 (by omega) (by rw[hj];simpa using ew) fin hs
 ·have hj:(i+ (its.toArray.size:Int)).toNat=j:=by
   rw[seqIndex_neg (by omega) h4] at h1
   rw[List.size_toArray,←hl]
   exact Option.some.inj h1
  exact subscriptTail_builtinR (x:=w) pl.isList.typeIs slot_list_getitem.lookup
   (wpAny_getItem_list_neg (Q:=fun r s'=>r=w∧EP X pins σ Q r s') pl.isList (by omega) (by rw[List.size_toArray] <;>omega) (by omega) (by rw[hj];simpa using ew) ⟨rfl,fin⟩) hs
theorem YM:ji X (NL X.K):=by
 intro value slice pins s σ H x y v u Q I rx ry h hs
 obtain⟨p,xs,i,z,rfl,rfl,hq,he,q⟩:=h
 cases rx
 obtain⟨t,rfl⟩:=ry
 obtain⟨its,r,pl,hz⟩:=I.tuple hq
 obtain⟨j,h1,h2,h3,h4,h5⟩:=z6 he
 obtain⟨w,ew,mM⟩:=r.get h2
 have hl:=r.length
 have hn:=kI
 have fin:EP X pins σ Q w s:=⟨z,H,I,mM,q⟩
 exact subscriptTail_builtinR (x:=w) pl.typeIs slot_tuple_getitem.lookup
  (getItem_tuple (j:=j) (Q:=fun r s'=>r=w∧EP X pins σ Q r s') pl (by omega) (by omega) (by rw[List.size_toArray,←hl];exact h1) (by simpa using ew) ⟨rfl,fin⟩) hs
theorem YN:ji X NM:=by
 intro value slice pins s σ H x y v u Q I rx ry h hs
 obtain⟨z,i,c,rfl,rfl,hz,he,q⟩:=h
 obtain⟨t,rfl⟩:=rx
 obtain⟨t',rfl⟩:=ry
 obtain⟨j,h1,h2,h3,h4,h5⟩:=z6 he
 have hl:z.cps.toList.length=z.length:=by simp[Str.length]
 rw[hl] at h1 h4 h5
 have hn:=kI
 exact tail_any (typeIs_str s z t) slot_str_getitem.lookup (getItem_str (c:=c) (by
  have e1:decide (i< -(2 ^ 63:Int))=false:=decide_eq_false (by omega)
  have e2:decide (i≥2 ^ 63)=false:=decide_eq_false (by omega)
  rw[e1,e2,Bool.or_false]) (by rw[h1];simpa using h2) ⟨.str ⟨#[c]⟩,H,I.tok _,⟨_,rfl⟩,q⟩) hs
theorem YO(its:List Value)(n j:Nat)(u:Value):Obj.mapSeq (·.setIfInBounds j u) {cls:= .type "list",data:= .seq its.toArray n}={cls:= .type "list",data:= .seq (its.set j u).toArray n}:=by
 simp[Obj.mapSeq]
theorem Inv.lst{pins:List (Addr×Obj)}{σ:St}{H:Hp}{s:Shared}{p:Addr}{xs:List V}(I:Inv X pins σ H s)(h:H p=some (.lst xs)):
  ∃(its:List Value) (n:Nat),Vals xs its∧s.heap.get? p=some {cls:= .type "list",data:= .seq its.toArray n}∧xs.length≤sizeLine:=by
 obtain⟨z,its,n,r,e⟩:=I.aN p _ h
 exact⟨its,n,r,e,z⟩
theorem Inv.YQ{pins:List (Addr×Obj)}{σ:St}{H:Hp}{s:Shared}{p:Addr}{xs ys:List V}{its eO:List Value}{n n':Nat}{f:Obj→Obj}(I:Inv X pins σ H s)(h:H p=some (.lst xs))
  (ho:s.heap.get? p=some {cls:= .type "list",data:= .seq its.toArray n}) (hf:f {cls:= .type "list",data:= .seq its.toArray n}={cls:= .type "list",data:= .seq eO.toArray n'}) (r:Vals ys eO) (hz:ys.length≤sizeLine) (t:Nat):
  Inv X pins σ (upd H p (.lst ys)) {s with heap:=s.heap.update p f,toks:=t}:=by
 have e:(s.heap.update p f).get? p=some {cls:= .type "list",data:= .seq eO.toArray n'}:=by
  rw[Heap.get?_update_self f ho (by rw[hf] <;>rfl),hf]
 refine I.write (x:=p) (e:=p) (by rw[h];trivial) (.inl rfl) (fun b u hb q=> (Heap.get?_update_other _ _ (Ne.symm hb)).trans q) ⟨_,e⟩ ?_
 exact⟨hz,eO,n',r,e⟩
def z7:V→V→V→Hp→(Hp→Prop)→Prop:=fun o i v H Q=> ∃p xs k j,o= .ref p∧i= .int k∧H p=some (.lst xs)∧h_ xs.length k=some j∧Q (upd H p (.lst (xs.set j v)))
theorem set_list:MQ X z7:=by
 intro pins s σ H o i v ov iv u Q I ro ri rv h
 obtain⟨p,xs,k,j,rfl,rfl,hp,hj,q⟩:=h
 cases ro
 obtain⟨t,rfl⟩:=ri
 obtain⟨its,n,r,ho,hz⟩:=I.lst hp
 obtain⟨h1,h2,h3,h4⟩:=NG hj
 have hl:=r.length
 have hn:=kI
 have I':Inv X pins σ (upd H p (.lst (xs.set j v))) {s with heap:=s.heap.update p (Obj.mapSeq (·.setIfInBounds j u))}:=
  I.YQ hp ho (YO its n j u) (r.set rv j) (by rw[List.length_set];exact hz) s.toks
 by_cases h0:0≤k
 ·have hk:k.toNat=j:=by
   rw[seqIndex_of h0 h4] at h1
   exact Option.some.inj h1
  exact PySem.W.ki_setAt ho h0 (by omega) (by rw[List.size_toArray,←hl];exact h4) (by rw[hk];exact⟨_,I',q⟩)
 ·have hk:(k+ (its.toArray.size:Int)).toNat=j:=by
   rw[seqIndex_neg (by omega) h3] at h1
   rw[List.size_toArray,←hl]
   exact Option.some.inj h1
  exact PySem.W.ki_setBack ho (by omega) (by rw[List.size_toArray,←hl];exact h3) (by omega) (by rw[hk];exact⟨_,I',q⟩)
theorem z8(lo hi:Option Int)(n:Nat):(sliceBounds lo hi none n).1=((HT.bx n 0 lo:Nat):Int)∧(sliceBounds lo hi none n).2.1=((HT.bx n n hi:Nat):Int)∧(sliceBounds lo hi none n).2.2=1:=by
 refine⟨?_, ?_,rfl⟩
 ·cases lo with
  | none=>simp[sliceBounds,HT.bx]
  | some i=>
   simp only[sliceBounds,HT.bx,Option.getD_none,show(1:Int) >0 by decide,if_true]
   by_cases h:i<0
   ·simp only[h,if_true] <;>omega
   ·simp only[h,if_false] <;>omega
 ·cases hi with
  | none=>simp[sliceBounds,HT.bx]
  | some i=>
   simp only[sliceBounds,HT.bx,Option.getD_none,show(1:Int) >0 by decide,if_true]
   by_cases h:i<0
   ·simp only[h,if_true] <;>omega
   ·simp only[h,if_false] <;>omega
theorem YR(its:List Value)(lo hi:Option Int):slicePick its.toArray lo hi none=((its.drop (HT.bx its.length 0 lo)).take (HT.bx its.length its.length hi - HT.bx its.length 0 lo)).toArray:=by
 obtain⟨h1,h2,h3⟩:=z8 lo hi its.toArray.size
 unfold slicePick
 rw[h1,h2,h3]
 simp only[sliceRange_one,pick_run,List.size_toArray] <;>rfl
def YS(K:PySem.W.Frag):V→Option Int→Option Int→Hp→VK→Prop:=fun x lo hi H Q=> ∃a xs,x= .ref a∧aP K H a xs∧ ∀p,H p=none→Q (.ref p) (upd H p (.lst (gc xs lo hi)))
theorem YT:vJ X (YS X.K):=by
 intro pins s σ H x v vl vu lo hi sl Q I rx hs pl pu h
 obtain⟨a,xs,rfl,hx,q⟩:=h
 cases rx
 obtain⟨its,r,ht,hz⟩:=I.list hx
 have hlen:=r.length
 refine⟨"list",_,slot_list_getitem.lookup,ht.isList.typeIs, ?_⟩
 refine wpAny_getItem_list_slice ht.isList hs pl pu .none (by simp) ?_ (by rw[List.size_toArray] <;>omega)
 rw[YR,←hlen]
 refine⟨.ref s.heap.objs.size,_,I.laid (t':=s.toks) (o:= .lst (gc xs lo hi)) (fun b ob q=>Heap.get?_push_of_some _ q) (Nat.le_refl _) ?_,rfl,q _ (I.aN.fresh (Nat.le_refl _))⟩
 exact⟨Nat.le_trans (NC xs lo hi) hz,_,0,(r.drop (HT.bx xs.length 0 lo)).take (HT.bx xs.length xs.length hi - HT.bx xs.length 0 lo),Heap.get?_push_size _ rfl⟩
def dX:V→Bool
 | .az=>true
 | .bl _=>true
 | .int _=>true
 | .str _=>true
 | _=>false
def dY:V→V→Bool
 | .az, .az=>true
 | .bl a, .bl b=>a==b
 | .bl a, .int b=> (if a then 1 else 0)==b
 | .int a, .bl b=>a==(if b then 1 else 0)
 | .int a, .int b=>a==b
 | .str a, .str b=>a==b
 | _,_=>false
theorem YU{A:Around}{s:Shared}{y x:V}{u v:Value}(ry:RelV y u)(rx:RelV x v)(fy:dX y=true)(fx:dX x=true):SeqAt.EqAt A s u v (dY y x):=by
 cases y with
 | az=>
  cases ry
  cases x with
  | az=>cases rx;exact SeqAt.EqAt.same _
  | bl b=>cases rx;exact SeqAt.EqAt.none_bool b
  | int b=>obtain⟨t,rfl⟩:=rx;exact SeqAt.EqAt.none_int b t
  | str b=>obtain⟨t,rfl⟩:=rx;exact SeqAt.EqAt.none_str b t
  | _=>exact absurd (show false=true from fx) Bool.false_ne_true
 | bl a=>
  cases ry
  cases x with
  | az=>cases rx;exact SeqAt.EqAt.bool_none a
  | bl b=>cases rx;exact SeqAt.EqAt.bool_bool a b
  | int b=>obtain⟨t,rfl⟩:=rx;exact SeqAt.EqAt.bool_int a b t
  | str b=>obtain⟨t,rfl⟩:=rx;exact SeqAt.EqAt.bool_str a b t
  | _=>exact absurd (show false=true from fx) Bool.false_ne_true
 | int a=>
  obtain⟨t',rfl⟩:=ry
  cases x with
  | az=>cases rx;exact SeqAt.EqAt.int_none a t'
  | bl b=>cases rx;exact SeqAt.EqAt.int_bool a t' b
  | int b=>obtain⟨t,rfl⟩:=rx;exact SeqAt.EqAt.int_int a t' b t
  | str b=>obtain⟨t,rfl⟩:=rx;exact SeqAt.EqAt.int_str a t' b t
  | _=>exact absurd (show false=true from fx) Bool.false_ne_true
 | str a=>
  obtain⟨t',rfl⟩:=ry
  cases x with
  | az=>cases rx;exact SeqAt.EqAt.str_none a t'
  | bl b=>cases rx;exact SeqAt.EqAt.str_bool a t' b
  | int b=>obtain⟨t,rfl⟩:=rx;exact SeqAt.EqAt.str_int a t' b t
  | str b=>obtain⟨t,rfl⟩:=rx;exact SeqAt.EqAt.str_str a t' b t
  | _=>exact absurd (show false=true from fx) Bool.false_ne_true
 | _=>exact absurd (show false=true from fy) Bool.false_ne_true
def dE(x:V)(u:Value):Bool:=match u with
 | .none=>dY .az x
 | .bool b=>dY (.bl b) x
 | .int i _=>dY (.int i) x
 | .str z _=>dY (.str z) x
 | _=>false
theorem vK{x y:V}{u:Value}(r:RelV y u)(f:dX y=true):dE x u=dY y x:=by
 cases y with
 | az=>cases r;rfl
 | bl b=>cases r;rfl
 | int i=>obtain⟨t,rfl⟩:=r;rfl
 | str z=>obtain⟨t,rfl⟩:=r;rfl
 | _=>exact absurd (show false=true from f) Bool.false_ne_true
theorem se{x:V}: ∀{xs:List V} {us:List Value},Vals xs us→xs.all dX=true→us.any (dE x)=xs.any fun y=>dY y x
 | _,_, .nil,_=>rfl
 | y::xs,u::us, .cons r t,f=>by
  rw[List.all_cons,Bool.and_eq_true] at f
  rw[List.any_cons,List.any_cons,vK r f.1,se t f.2]
theorem mO{A:Around}{s:Shared}{x:V}{v:Value}(rx:RelV x v)(fx:dX x=true): ∀{xs:List V} {us:List Value},Vals xs us→xs.all dX=true→ ∀u∈us,SeqAt.EqAt A s u v (dE x u)
 | _,_, .nil,_=>fun u hu=>by cases hu
 | y::xs,u::us, .cons r t,f=>fun u' hu=>by
  rw[List.all_cons,Bool.and_eq_true] at f
  rcases List.mem_cons.mp hu with rfl | hu
  ·rw[vK r f.1];exact YU r rx f.1 fx
  ·exact mO rx fx t f.2 u' hu
def eB(x:V)(xs:List V):Bool:=xs.any fun y=>dY y x
def z_(K:PySem.W.Frag)(neg:Bool):R2:=fun x y H Q=> ∃p xs,y= .ref p∧(aP K H p xs∨bq K H p xs)∧dX x=true∧xs.all dX=true∧Q (.bl (if neg then !eB x xs else eB x xs)) H
theorem YV:bL X (compareOp .In) (z_ X.K false):=by
 intro pins s σ H x y v u Q I rx ry h
 obtain⟨p,xs,rfl,hq,fx,fs,q⟩:=h
 cases ry
 rcases hq with hq | hq
 ·obtain⟨its,r,pl,hz⟩:=I.list hq
  refine SeqAt.in_listAt (dE x) pl.isList (fun w hw=>mO rx fx r fs w (by simpa using hw)) ⟨.bl _,H,I,rfl, ?_⟩
  rw[show its.toArray.any (dE x)=its.any (dE x) by simp,se r fs]
  exact q
 ·obtain⟨its,r,pl,hz⟩:=I.tuple hq
  refine SeqAt.in_tupleAt (dE x) pl (fun w hw=>mO rx fx r fs w (by simpa using hw)) ⟨.bl _,H,I,rfl, ?_⟩
  rw[show its.toArray.any (dE x)=its.any (dE x) by simp,se r fs]
  exact q
theorem YW:bL X (compareOp .NotIn) (z_ X.K true):=by
 intro pins s σ H x y v u Q I rx ry h
 obtain⟨p,xs,rfl,hq,fx,fs,q⟩:=h
 cases ry
 rcases hq with hq | hq
 ·obtain⟨its,r,pl,hz⟩:=I.list hq
  refine SeqAt.notIn_listAt (dE x) pl.isList (fun w hw=>mO rx fx r fs w (by simpa using hw)) ⟨.bl _,H,I,rfl, ?_⟩
  rw[show its.toArray.any (dE x)=its.any (dE x) by simp,se r fs]
  exact q
 ·obtain⟨its,r,pl,hz⟩:=I.tuple hq
  refine SeqAt.notIn_tupleAt (dE x) pl (fun w hw=>mO rx fx r fs w (by simpa using hw)) ⟨.bl _,H,I,rfl, ?_⟩
  rw[show its.toArray.any (dE x)=its.any (dE x) by simp,se r fs]
  exact q
theorem cz.or{f:Value}{r r':List V→Hp→VK→Prop}(h:cz X f r)(h':cz X f r'):cz X f (fun xs H Q=>r xs H Q∨r' xs H Q):=by
 intro pins s σ H xs us Q I rs q
 rcases q with q | q
 ·exact h pins s σ H xs us Q I rs q
 ·exact h' pins s σ H xs us Q I rs q
theorem YX:cz X (.type "list") (fun xs H Q=> ∃p ys,xs=[.ref p]∧(aP X.K H p ys∨bq X.K H p ys)∧ ∀l,H l=none→Q (.ref l) (upd H l (.lst ys))):=by
 intro pins s σ H xs us Q I r h
 obtain⟨p,ys,rfl,hq,q⟩:=h
 obtain⟨u,rfl,rx⟩:=vals1 r
 cases rx
 have fin: ∀(its:List Value),Vals ys its→ys.length≤sizeLine→ ∀(h':Heap) (c':Nat),(∀b o',s.heap.get? b=some o'→h'.get? b=some o')→
   h'.get? s.heap.objs.size=some {cls:= .type "list",dict:=none,data:= .seq its.toArray c',slots:= #[]}→EP X pins σ Q (.ref s.heap.objs.size) {s with heap:=h'}:=fun its r' hz h' c' kp e=>
  ⟨.ref s.heap.objs.size,_,I.laid (t':=s.toks) kp (Nat.le_refl _) (show cM X.prog X.w _ h' _ (.lst ys) from⟨hz,its,c',r',e⟩),rfl,q _ (I.aN.fresh (Nat.le_refl _))⟩
 rcases hq with hq | hq
 ·obtain⟨its,r',pl,hz⟩:=I.list hq
  have hlen:=r'.length
  obtain⟨o,ho,hc,n,hd⟩:=pl.isList
  exact call_list_seq p (.inl rfl) ho hc hd (fun h' c' kp e=>fin its r' hz h' c' kp e) (by simp only[List.size_toArray] <;>omega)
 ·obtain⟨its,r',pl,hz⟩:=I.tuple hq
  have hlen:=r'.length
  obtain⟨o,ho,hc,n,hd⟩:=pl
  exact call_list_seq p (.inr rfl) ho hc hd (fun h' c' kp e=>fin its r' hz h' c' kp e) (by simp only[List.size_toArray] <;>omega)
theorem YY:cz X (.type "tuple") (fun xs H Q=> ∃p ys,xs=[.ref p]∧((aP X.K H p ys∧ ∀l,H l=none→Q (.ref l) (upd H l (.tup ys)))∨(bq X.K H p ys∧Q (.ref p) H))):=by
 intro pins s σ H xs us Q I r h
 obtain⟨p,ys,rfl,h⟩:=h
 obtain⟨u,rfl,rx⟩:=vals1 r
 cases rx
 rcases h with⟨hq,q⟩ | ⟨hq,q⟩
 ·obtain⟨its,r',pl,hz⟩:=I.list hq
  have hlen:=r'.length
  refine call_tuple_list pl.isList (fun h' kp=> ?_) (by simp only[List.size_toArray] <;>omega)
  have I1:Inv X pins σ H {s with heap:=h'}:=I.kept (t':=s.toks) kp
  have I2:Inv X pins σ (upd H h'.objs.size (.tup ys)) {s with heap:=h'.push {cls:= .type "tuple",data:= .seq its.toArray}}:=
   I1.laid (t':=s.toks) (fun b o e=>Heap.get?_push_of_some _ e) (Nat.le_refl _) (show cM X.prog X.w _ _ _ (.tup ys) from⟨hz,its,r',IsTup.new _ _⟩)
  exact⟨.ref h'.objs.size,_,I2,rfl,q _ (I1.aN.fresh (Nat.le_refl _))⟩
 ·obtain⟨its,r',pl,hz⟩:=I.tuple hq
  exact call_tuple_same pl ⟨.ref p,H,I,rfl,q⟩
def sf(K:PySem.W.Frag)(T:String)(x:V)(H:Hp):Prop:=match x with
 | .str _=>T="str"
 | .int _=>T="int"
 | .ref p=> (T="list"∧ ∃xs,aP K H p xs)∨(T="tuple"∧ ∃o,K.lookup p=some o∧o.cls= .type "tuple"∧o.dict=none)∨
   (T="dict"∧((∃aX,H p=some (.dK aX))∨ ∃aX,H p=some (.dT aX)))∨(T="set"∧ ∃S n,H p=some (.set S n))
 | _=>False
theorem YZ{pins:List (Addr×Obj)}{σ:St}{H:Hp}{s:Shared}{T:String}{x:V}{v:Value}(I:Inv X pins σ H s)(r:RelV x v)(ty:sf X.K T x H):
  s.TypeIs v T∧ ∀a,v= .ref a→ ∃ob,s.heap.get? a=some ob∧ob.dict=none:=by
 cases x with
 | str z=>
  obtain⟨t,rfl⟩:=r
  cases (show T="str" from ty)
  exact⟨typeIs_str s z t,fun _ e=>nomatch e⟩
 | int i=>
  obtain⟨t,rfl⟩:=r
  cases (show T="int" from ty)
  exact⟨typeIs_int s i t,fun _ e=>nomatch e⟩
 | ref p=>
  cases r
  rcases ty with⟨rfl,xs,hq⟩ | ⟨rfl,o,hk,hc,hd⟩ | ⟨rfl,hk⟩ | ⟨rfl,S,n,hk⟩
  ·obtain⟨its,_,pl,_⟩:=I.list hq
   refine⟨pl.isList.typeIs,fun a e=> ?_⟩
   cases e
   obtain⟨o,n,e,c,hd,_⟩:=pl
   exact⟨o,e,hd⟩
  ·refine⟨⟨o,I.cI p o hk,hc⟩,fun a e=> ?_⟩
   cases e
   exact⟨o,I.cI _ o hk,hd⟩
  ·have z: ∃o,s.heap.get? p=some o∧o.ExactDict:=by
    rcases hk with⟨aX,hk⟩ | ⟨aX,hk⟩
    ·obtain⟨_,_,_,_,o,_,_,e,ex,_⟩:=I.aN p _ hk
     exact⟨o,e,ex⟩
    ·obtain⟨_,_,_,_,o,_,_,e,ex,_⟩:=I.aN p _ hk
     exact⟨o,e,ex⟩
   obtain⟨o,e,ex⟩:=z
   refine⟨⟨o,e,ex.1⟩,fun a e2=> ?_⟩
   cases e2
   exact⟨o,e,ex.2.1⟩
  ·obtain⟨o,_,_,_,e,ex,_⟩:=I.aN p _ hk
   refine⟨⟨o,e,ex.1⟩,fun a e2=> ?_⟩
   cases e2
   exact⟨o,e,ex.2.1⟩
 | _=>exact False.elim ty
def Aa(K:PySem.W.Frag)(T:String)(r:V→List V→Hp→VK→Prop)(to:TE)(t:TA):TE:=fun σ H Q=>to σ H fun x H1=>sf K T x H1∧t σ H1 fun xs H2=>r x xs H2 Q
variable {o e:Expr} {es:List Expr} {to:TE} {t:TA} {name:Str} {apos dZ:Pos} {T id:String} {r:V→List V→Hp→VK→Prop}
theorem NN(pa:PlainAttrs T)(slot:Slot T name id)(Y0:typeOf (.builtin id)=pure (.type "method_descriptor"))(hm:jU X id r)(ho:PE X o to)(ha:PA X (e::es) t)
  (Y1:attributeBase o name X.env (eval o X.env)=eval o X.env:=by rfl)
  (Y2:((backTo dZ (starEach (e::es) X.env)).all (fun x=> !x.1) && (backToKw dZ (keywordEach [] X.env)).all (fun x=>x.1.isSome)
   && decide ((e::es).length+ ([]:List Keyword).length+ (if ([]:List Keyword).isEmpty then 0 else 1) <30))=true:=by rfl)
  (Y3:(apos.endLine==dZ.line)=true:=by rfl) (hs:starEach (e::es) X.env=(false,eval e X.env)::starEach es X.env:=by rfl) (Y4:(backTo dZ (starEach es X.env)).any (·.1)=false:=by rfl):
  PE X (.Call (.Attribute o name apos) (e::es) [] dZ) (Aa X.K T r to t):=by
 intro pins s σ H Q I h
 refine wpAny_Call_method_late Y1 Y2 Y3 rfl (bj (ho pins s σ H _ I h) fun v s1 ⟨x,H1,I1,r1,ty,q1⟩=> ?_)
 obtain⟨h1,h2⟩:=YZ I1 r1 ty
 refine⟨T,id,pa,slot,Y0,h1,h2, ?_⟩
 have hA:=ha dZ pins s1 σ H1 _ I1 q1
 rw[hs] at hA⊢
 refine Calls.callWith_builtin (by show(false || (backTo dZ (starEach es X.env)).any (·.1))=false;rw[Y4] <;>rfl) (Calls.evalArgs_plain ?_)
 exact bj hA fun us s2 ⟨vs,H2,I2,r2,q2⟩=>hm pins s2 σ H2 x vs v us Q I2 r1 r2 q2
end
def si(X:Cx)(id:String)(r:V→List V→Hp→VK→Prop):Prop:=
 ∀(pins:List (Addr×Obj)) (s:Shared) (σ:St) (H:Hp) (x:V) (xs:List V) (v:Value) (us:List Value) (Q:VK),Inv X pins σ H s→RelV x v→Vals xs us→r x xs H Q→
  wpAny (model X.prog X.w) X.A (call (.builtin id) (v::us)) (EP X pins σ Q) X.xe s
theorem Vals.one: ∀{x:V} {us:List Value},Vals [x] us→ ∃u,us=[u]∧RelV x u
 | _,_, .cons r .nil=> ⟨_,rfl,r⟩
theorem Vals.zero: ∀{us:List Value},Vals [] us→us=[]
 | _, .nil=>rfl
theorem Vals.dropLast{xs:List V}{us:List Value}(h:Vals xs us):Vals xs.dropLast us.dropLast:=by
 induction h with
 | nil=>exact .nil
 | cons r t ih=>
  cases t with
  | nil=>exact .nil
  | cons q t'=>exact .cons r ih
theorem Vals.reverse{xs:List V}{us:List Value}(h:Vals xs us):Vals xs.reverse us.reverse:=by
 induction h with
 | nil=>exact .nil
 | cons r t ih=>rw[List.reverse_cons,List.reverse_cons];exact Vals.append ih (.cons r .nil)
theorem Vals.rep{xs:List V}{us:List Value}(h:Vals xs us): ∀k:Nat,Vals (List.replicate k xs).flatten (List.replicate k us).flatten
 | 0=> .nil
 | k+1=>by
  rw[List.replicate_succ,List.replicate_succ,List.flatten_cons,List.flatten_cons]
  exact Vals.append h (Vals.rep h k)
theorem Y5{α:Type}(l:List α):l.eraseIdx (l.length - 1)=l.dropLast:=by
 induction l with
 | nil=>rfl
 | cons a r ih=>
  cases r with
  | nil=>rfl
  | cons b r=>
   have e:(a::b::r).length - 1=((b::r).length - 1)+1:=by
    have h1:(a::b::r).length=r.length+2:=rfl
    have h2:(b::r).length=r.length+1:=rfl
    omega
   rw[e,List.eraseIdx_cons_succ,ih]
   all_goals rfl
theorem foldl_rep(its:List Value): ∀(k:Nat) (acc:List Value),
  List.foldl (fun x1 x2=>x1++x2) acc.toArray (List.replicate k its.toArray)=(acc++ (List.replicate k its).flatten).toArray
 | 0,acc=>by simp
 | k+1,acc=>by
  have e:acc.toArray++its.toArray=(acc++its).toArray:=by simp
  have e2:(acc++its)++ (List.replicate k its).flatten=acc++ (List.replicate (k+1) its).flatten:=by
   rw[List.replicate_succ,List.flatten_cons,List.append_assoc]
  rw[←e2,←foldl_rep its k (acc++its),←e,List.replicate_succ,List.foldl_cons]
section
variable {X:Cx} {pins:List (Addr×Obj)} {σ:St} {H:Hp} {s:Shared} {l b:Addr} {xs ys zs:List V}
theorem Inv.sj{its eO:List Value}{n:Nat}{f:Array Value→Array Value}{t':Nat}(I:Inv X pins σ H s)(hH:H l=some (.lst xs))
  (e:s.heap.get? l=some {cls:= .type "list",data:= .seq its.toArray n}) (hf:f its.toArray=eO.toArray) (hv:Vals ys eO) (hz:ys.length≤sizeLine):
  Inv X pins σ (upd H l (.lst ys)) {s with heap:=s.heap.update l (Obj.mapSeq f),toks:=t'}:=by
 have q:=PySem.IsL.update e f
 rw[hf] at q
 refine I.write (x:=l) (e:=l) (by rw[hH];exact trivial) (.inl rfl) (fun b' u hb hu=> (Heap.get?_update_other s.heap (Obj.mapSeq f) (Ne.symm hb)).trans hu) ⟨_,q⟩ ?_
 exact⟨hz,eO,_,hv,q⟩
theorem Inv.NO{its:List Value}{t':Nat}(I:Inv X pins σ H s)(hv:Vals ys its)(hz:ys.length≤sizeLine):
  Inv X pins σ (upd H s.heap.objs.size (.lst ys)) {s with heap:=s.heap.push {cls:= .type "list",data:= .seq its.toArray},toks:=t'}:=
 I.laid (fun _ _ q=>Heap.get?_push_of_some _ q) (Nat.le_refl _) ⟨hz,its,0,hv,Heap.get?_push_size _ rfl⟩
theorem Inv.fresh(I:Inv X pins σ H s):H s.heap.objs.size=none:=I.aN.fresh (Nat.le_refl _)
theorem Inv.jV(I:Inv X pins σ H s)(hH:H l=some (.lst xs)):xs.length≤sizeLine∧ ∃(its:List Value) (n:Nat),Vals xs its∧xs.length=its.length∧s.heap.get? l=some {cls:= .type "list",data:= .seq its.toArray n}:=by
 obtain⟨z,its,n,r,e⟩:=I.aN l _ hH
 exact⟨z,its,n,r,r.length,e⟩
theorem NP{n:Nat}(h:n≤sizeLine):Builtin.List.listTooLong n=false:=by
 unfold Builtin.List.listTooLong
 exact decide_eq_false (by omega)
end
section
variable {X:Cx}
def Y6:V→List V→Hp→VK→Prop:=fun x vs H Q=> ∃l xs y,x= .ref l∧vs=[y]∧H l=some (.lst xs)∧xs.length<sizeLine∧Q .az (upd H l (.lst (xs++ [y])))
theorem Y7:si X "list.append" Y6:=by
 intro pins s σ H x vs v us Q I rx rv h
 obtain⟨l,xs,y,rfl,rfl,hH,hz,q⟩:=h
 cases rx
 obtain⟨u,rfl,ru⟩:=rv.one
 obtain⟨z,its,n,r,hl,e⟩:=I.jV hH
 refine call_meets F.slot_list_append ⟨_,e,rfl⟩ F.entry_list_append (F.args_list_append_2 _ _) (PySem.list_append l its.toArray n u (by rw[List.size_toArray];omega)) ⟨e, ?_⟩
 refine⟨.az,_,I.sj (eO:=its++ [u]) hH e (by simp) (r.append (.cons ru .nil)) ?_,rfl,q⟩
 rw[List.length_append,List.length_singleton]
 omega
def Y8:V→List V→Hp→VK→Prop:=fun x vs H Q=> ∃l b xs zs,x= .ref l∧vs=[.ref b]∧H l=some (.lst xs)∧H b=some (.lst zs)∧xs.length+zs.length≤sizeLine∧Q .az (upd H l (.lst (xs++zs)))
theorem Y9:si X "list.extend" Y8:=by
 intro pins s σ H x vs v us Q I rx rv h
 obtain⟨l,b,xs,zs,rfl,rfl,hH,hB,hz,q⟩:=h
 cases rx
 obtain⟨u,rfl,ru⟩:=rv.one
 cases ru
 obtain⟨z,its,n,r,hl,e⟩:=I.jV hH
 obtain⟨z2,h9,n2,r2,NQ,e2⟩:=I.jV hB
 have kJ:its.toArray.size+h9.toArray.size≤sizeLine:=by rw[List.size_toArray,List.size_toArray];omega
 have Ab: ¬(!its.toArray.isEmpty && Builtin.List.listTooLong (its.toArray.size+h9.toArray.size))=true:=by
  rw[NP kJ,Bool.and_false]
  exact Bool.false_ne_true
 refine call_meets F.slot_list_extend ⟨_,e,rfl⟩ F.entry_list_extend (F.args_list_extend_2 _ _)
  (AutoSeq1.list_extend_list_list_0 l its.toArray n b h9.toArray n2 Ab (by rw[List.size_toArray];omega) (by omega)) ⟨e,e2, ?_⟩
 refine⟨.az,_,I.sj (eO:=its++h9) hH e (by simp) (r.append r2) ?_,rfl,q⟩
 rw[List.length_append]
 omega
def Y_:V→List V→Hp→VK→Prop:=fun x vs H Q=> ∃l xs y,x= .ref l∧vs=[]∧H l=some (.lst xs)∧xs[xs.length - 1]?=some y∧Q y (upd H l (.lst xs.dropLast))
theorem Za:si X "list.pop" Y_:=by
 intro pins s σ H x vs v us Q I rx rv h
 obtain⟨l,xs,y,rfl,rfl,hH,hy,q⟩:=h
 cases rx
 have sk:=rv.zero
 subst sk
 obtain⟨z,its,n,r,hl,e⟩:=I.jV hH
 obtain⟨u,hu,ru⟩:=r.get hy
 have Zb:its.toArray[its.toArray.size - 1]?=some u:=by
  show its.toArray[its.length - 1]?=some u
  rw[←Array.getElem?_toList,←hl]
  exact hu
 refine call_meets F.slot_list_pop ⟨_,e,rfl⟩ F.entry_list_pop (F.args_list_pop_1 _) (MeetsSeq.list_pop_last l its.toArray n u Zb (by rw[List.size_toArray];omega)) ⟨e, ?_⟩
 refine⟨y,_,I.sj (eO:=its.dropLast) hH e ?_ r.dropLast ?_,ru,q⟩
 ·show its.toArray.eraseIdxIfInBounds (its.toArray.size - 1)=its.dropLast.toArray
  rw[List.size_toArray,List.eraseIdxIfInBounds_toArray,Y5]
 ·rw[List.length_dropLast]
  omega
def Zc:V→List V→Hp→VK→Prop:=fun x vs H Q=> ∃l xs,x= .ref l∧vs=[]∧H l=some (.lst xs)∧Q .az (upd H l (.lst xs.reverse))
theorem Zd:si X "list.reverse" Zc:=by
 intro pins s σ H x vs v us Q I rx rv h
 obtain⟨l,xs,rfl,rfl,hH,q⟩:=h
 cases rx
 have sk:=rv.zero
 subst sk
 obtain⟨z,its,n,r,hl,e⟩:=I.jV hH
 refine call_meets F.slot_list_reverse ⟨_,e,rfl⟩ F.entry_list_reverse (F.args_list_reverse_1 _) (AutoSeq1.list_reverse_list_0 l its.toArray n (by rw[List.size_toArray];omega)) ⟨e, ?_⟩
 refine⟨.az,_,I.sj (eO:=its.reverse) hH e (by simp) r.reverse ?_,rfl,q⟩
 rw[List.length_reverse]
 omega
def Ze:V→List V→Hp→VK→Prop:=fun x vs H Q=> ∃l xs,x= .ref l∧vs=[]∧H l=some (.lst xs)∧Q .az (upd H l (.lst []))
theorem Zf:si X "list.clear" Ze:=by
 intro pins s σ H x vs v us Q I rx rv h
 obtain⟨l,xs,rfl,rfl,hH,q⟩:=h
 cases rx
 have sk:=rv.zero
 subst sk
 obtain⟨z,its,n,r,hl,e⟩:=I.jV hH
 refine call_meets F.slot_list_clear ⟨_,e,rfl⟩ F.entry_list_clear (F.args_list_clear_1 _) (AutoSeq1.list_clear_list_0 l its.toArray n (by rw[List.size_toArray];omega)) ⟨e, ?_⟩
 exact⟨.az,_,I.sj (eO:=[]) (ys:=[]) hH e rfl .nil (Nat.zero_le _),rfl,q⟩
def NR:R2:=fun x y H Q=> ∃l b xs zs,x= .ref l∧y= .ref b∧H l=some (.lst xs)∧H b=some (.lst zs)∧xs.length+zs.length≤sizeLine∧ ∀p,H p=none→Q (.ref p) (upd H p (.lst (xs++zs)))
theorem Zg:bL X (binaryOp .Add) NR:=by
 intro pins s σ H x y v u Q I rx ry h
 obtain⟨l,b,xs,zs,rfl,rfl,hH,hB,hz,q⟩:=h
 cases rx
 cases ry
 obtain⟨z,its,n,r,hl,e⟩:=I.jV hH
 obtain⟨z2,h9,n2,r2,NQ,e2⟩:=I.jV hB
 refine PySem.P.add_list e e2 ?_ (by rw[List.size_toArray,List.size_toArray];omega)
 have ea:its.toArray++h9.toArray=(its++h9).toArray:=by simp
 rw[ea]
 exact⟨.ref _,_,I.NO (t':=s.toks) (r.append r2) (by rw[List.length_append];omega),rfl,q _ I.fresh⟩
def NS:R2:=fun x y H Q=> ∃l k xs,x= .ref l∧y= .int k∧H l=some (.lst xs)∧ -(2 ^ 63)≤k∧k<2 ^ 63∧xs.length*k.toNat≤sizeLine∧
 ∀p,H p=none→Q (.ref p) (upd H p (.lst (List.replicate k.toNat xs).flatten))
theorem len_rep{α:Type}(xs:List α)(k:Nat):(List.replicate k xs).flatten.length=k*xs.length:=by
 induction k with
 | zero=>simp
 | succ k ih=>rw[List.replicate_succ,List.flatten_cons,List.length_append,ih,Nat.succ_mul,Nat.add_comm]
theorem Zh:bL X (binaryOp .Mult) NS:=by
 intro pins s σ H x y v u Q I rx ry h
 obtain⟨l,k,xs,rfl,rfl,hH,h1,h2,hz,q⟩:=h
 cases rx
 obtain⟨t,rfl⟩:=ry
 obtain⟨z,its,n,r,hl,e⟩:=I.jV hH
 have hlen:its.toArray.size*k.toNat≤sizeLine:=by rw[List.size_toArray,←hl];exact hz
 have Zi: ¬its.toArray.size*k.toNat> (2 ^ 63 - 1) / 8:=by
  have:(sizeLine:Nat)≤ (2 ^ 63 - 1) / 8:=by decide
  omega
 have Zj: ¬(!Builtin.List.listFitsIndex k)=true:=by
  rw[fitsIndex_both h1 h2]
  exact Bool.false_ne_true
 have Ab: ¬Builtin.List.listTooLong (its.toArray.size*k.toNat)=true:=by
  rw[NP hlen]
  exact Bool.false_ne_true
 have Zk:List.foldl (fun x1 x2=>x1++x2) #[] (List.replicate (if its.toArray.isEmpty=true then 0 else k.toNat) its.toArray)=(List.replicate k.toNat its).flatten.toArray:=by
  have f0: ∀m:Nat,List.foldl (fun x1 x2=>x1++x2) #[] (List.replicate m its.toArray)=(List.replicate m its).flatten.toArray:=fun m=>by
   have:=foldl_rep its m []
   rw[List.nil_append] at this
   exact this
  rw[f0]
  cases its with
  | nil=>simp
  | cons a r'=>rw[if_neg (by simp)]
 refine wpAny_binaryOp_repeat_ref (T:="list") (U:="int") (by decide) ⟨_,e,rfl⟩ (fun s'=>typeIs_int s' k t) noFill_list_mul F.fills_int_mul F.slot_int_rmul repeat_list F.slot_int_index.lookup
  (call_meets F.slot_int_rmul (typeIs_int s k t) F.entry_int_rmul (F.args_int_rmul_2 _ _) (int___rmul___int_list k t l its.toArray n)
   ⟨e,rfl,⟨_,e,rfl⟩,call_meets F.slot_list_mul ⟨_,e,rfl⟩ F.entry_list_mul (F.args_list_mul_2 _ _) (AutoListH.list___mul___list_int_3 l its.toArray n k t Zj Zi Ab) ⟨e, ?_⟩⟩)
 rw[Zk]
 exact⟨.ref _,_,I.NO (t':=s.toks) (r.rep k.toNat) (by rw[len_rep,Nat.mul_comm];exact hz),rfl,q _ I.fresh⟩
end
section
variable {prog:Program} {w:World} {A:Around} {E:Value→Shared→Prop} {s:Shared}
end
section
variable {X:Cx}
end
end L2
namespace NT
open PySem PySem.W PySem.Calls PyProof.Rows
theorem Zl{P:Params}{h:Heap}: ∀(ns:List Int) (vs:List Value),WellAll P h vs (ns.map WData.int)→IntsAre vs ns:=by
 intro ns
 induction ns with
 | nil=>
  intro vs w
  rw[List.map_nil] at w
  cases w
  exact .nil
 | cons n ns ih=>
  intro vs w
  rw[List.map_cons] at w
  cases w with
  | cons a b=>
   cases a
   exact .cons _ _ (ih _ b)
theorem Zm{l:OpenLaw}{n:Nat}(hn:l.most=some n){P:Params}{h:Heap}{args:List WData}{vals:List Value}
  (p9:l.row.toRowW.claim.pre args=true) (Ac:WellAll P h vals args):
  ∃a vs ns,vals=[Value.ref a]∧args=[WData.list (ns.map WData.int)]∧h.get? a=some {cls:= .type "list",data:= .seq vs.toArray}∧IntsAre vs ns∧ns.length≤n:=by
 have Zn:WShape.hasAll [] args [.list .int]=true:=(pre_splitW p9).1
 have hc:l.pre.holds [] {args:=args}=true:=(pre_splitW p9).2
 obtain⟨d,r,rfl,h1,h2⟩:=hasAllW_cons Zn
 obtain rfl:=hasAllW_nil h2
 obtain⟨xs,rfl,h3⟩:=hasW_list h1
 obtain⟨ns,rfl⟩:=items_int h3
 have hlen:ns.length≤n:=by
  unfold OpenLaw.pre at hc
  have h4:(WTm.not (.lt (.lit (.int (n:Int))) (.len (.arg 0)))).holds [] {args:=[.list (ns.map .int)]}=true:=by
   have h4:=(holds_andW hc).1
   rw[hn] at h4
   exact h4
  have h5:=condW_of h4 (w_not (w_lt w_lit (w_len_list (w_arg rfl))))
  rw[List.length_map] at h5
  refine Nat.le_of_not_lt fun q=> ?_
  have q':(n:Int) < ((ns.length:Nat):Int):=by omega
  first
   | (rw[decide_eq_true q'] at h5;exact absurd h5 (by decide))
   | (simp at h5;omega)
 cases Ac with
 | cons w1 w2=>
  cases w2
  cases w1 with
  | list ho Ad=>exact⟨_,_,ns,rfl,rfl,ho,Zl ns _ Ad,hlen⟩
theorem Zo(l:OpenLaw)(args:List WData):l.row.toRowW.claim.post args (.bool true) args=true:=
 postW_of (r:=l.row.toRowW) (X:=(true==true))
  (show WShape.has [] (.bool true) .bool=true by first | rfl | decide | simp[WShape.has,WShape.arms,WShape.armsAll])
  (show(WTm.eq .res (.lit (.bool true))).value [] {args:=args,res:=some (.bool true),after:=args}=some (.bool (true==true)) from w_eq_bool (w_res rfl) w_lit) rfl
theorem Zp{l:OpenLaw}{n:Nat}{q:Program}{loose:List Str}{XP:(Str→Option Value)→Heap→Prop}{YP:World→Heap→Prop}{d:DefRec}
  (hn:l.most=some n) (so:d.params.defaults=[])
  (call: ∀(w:World) (s₀ s₁:Shared) (mg mb:Str→Option Value) (fa:Addr) (o:Obj) (pm cd doc:Value) (a:Addr) (vs:List Value) (ns:List Int),
   Ground q loose [] XP w s₀ mg mb s₁.heap→YP w s₁.heap→
   s₁.heap.get? fa=some o→o.data= .func (docDef d.name d.params d.body d.scope pm cd doc)→s₁.heap.CodeRec cd d.name→mg d.name=some (.ref fa)→
   s₁.heap.get? a=some {cls:= .type "list",data:= .seq vs.toArray}→IntsAre vs ns→ns.length≤n→s₁.gens= #[]→
   codeAny (model l.prog w) callerA (.call (.ref fa) ⟨[.ref a],[]⟩) (fun r s'=>r= .ok (.ret (.bool true))∧OldK s₁.heap s'.heap∧s'.os=s₁.os∧AllBare s'.gens) s₁):
  WalkO q loose XP YP l.row.toRowW d [] (fun f vs=>PySem.call f vs):=by
 intro w s₀ s₁ mg mb G Y fa o pm cd doc dV kV ho hd fq hD iE hg args vals as p9 ayH hrd Ac vL
 obtain rfl:dV= .none:=Dflts.none hD so
 obtain rfl:kV= .none:=Dflts.noKw hD
 obtain⟨a,vs,ns,rfl,rfl,Ae,hints,hlen⟩:=Zm hn p9 Ac
 refine enter_call (codeAny_mono (call w s₀ s₁ mg mb fa o pm cd doc a vs ns G Y ho (fd_plain hd) fq iE Ae hints hlen hg) fun r s' hq=> ?_)
 obtain⟨rfl,h2,h3,h4⟩:=hq
 exact⟨.inl ⟨.bool true, .bool true,[],rfl,fun _=>rfl, .bool true,Zo l _,fun _=> ⟨List.Pairwise.nil,fun _ hm=> (nomatch hm)⟩⟩,h2,h3,h4⟩
section
variable {prog:Program} {w:World} {A:Around} {E:Value→Shared→Prop} {s:Shared} {K:Frag}
end
end NT
namespace L2
open PySem PySem.Spec PyProof.Rows
theorem NU: ∀{vs:List Value} {ns:List Int},IntsAre vs ns→Vals (ns.map V.int) vs
 | _,_, .nil=> .nil
 | _,_, .cons n t h=> .cons ⟨t,rfl⟩ (NU h)
def Af(H:Hp):Prop:= ∀b,H b=none∨ ∃o xs,H b=some (.bV o (.lst xs))
theorem Zq{P:Program}{w:World}{K:PySem.W.Frag}{mg mb:Str→Option Value}{CX:aK}{k:Nat}{fa a:Addr}{fd:FuncData}{x:Str}{sp:Sp}{s₁:Shared}{vs:List Value}{ns:List Int}
  (KX:K.In s₁.heap) (vM:s₁.heap.Ns mainGlobals mg) (hb:s₁.heap.Ns builtinsNs mb) (Zr: ∀x:Str,x≠"__name__"→mb x=bootBuiltins x) (Zs:s₁.heap.NoLimit) (hg:s₁.gens= #[])
  (ha:s₁.heap.get? a=some {cls:= .type "list",data:= .seq vs.toArray}) (hi:IntsAre vs ns) (hl:ns.length≤sizeLine) (hr:cU k callerA)
  (F: ∀base:Heap,K.In base→base.Ns mainGlobals mg→ck P w K mg base CX k fa fd [x] sp) (Zt: ∀(s:Shared) (u:Value),BindsTo s fd ⟨[u],[]⟩ [(x,u)])
  (gA: ∀H:Hp,Af H→aP K H a (ns.map V.int)→sp [.ref a] H (fun v _=>v= .bl true) fun _ _ _=>False)
  (Ag: ∀H e s',CX [] H s₁ (fun _ _ _=>False) e s'→False):
  codeAny (model P w) callerA (.call (.ref fa) ⟨[.ref a],[]⟩) (fun r s'=>r= .ok (.ret (.bool true))∧OldK s₁.heap s'.heap∧s'.os=s₁.os∧AllBare s'.gens) s₁:=by
 have rv:=NU hi
 have sq:=hi.length
 have core: ∀H:Hp,Af H→aP K H a (ns.map V.int)→cy P w H s₁.heap→(∀b,H b≠none→b=a)→(H a≠none→K.lookup a=none)→
   codeAny (model P w) callerA (.call (.ref fa) ⟨[.ref a],[]⟩) (fun r s'=>r= .ok (.ret (.bool true))∧OldK s₁.heap s'.heap∧s'.os=s₁.os∧AllBare s'.gens) s₁:=by
  intro H hO hS aN hA hK
  have mP: ∀{b:Addr} {o:Obj},s₁.heap.get? b=some o→H b=none→(jN s₁.heap H).get? b=some o:=fun e n=>WT e n
  have r9: ∀{b:Addr} {o:Obj} {es:Array DictEntry} {ep:Nat},s₁.heap.get? b=some o→o.data= .dict es ep→H b=none:=fun {b o es ep} e d=>by
   cases q:H b with
   | none=>rfl
   | some u=>
    have e':b=a:=hA b (by rw[q];simp)
    subst e'
    rw[ha] at e;cases e
    have d':Data.seq vs.toArray _=Data.dict es ep:=d
    cases d'
  have vN: ∀{b:Addr} {m:Str→Option Value},s₁.heap.Ns b m→(jN s₁.heap H).Ns b m:=fun {b m} ⟨o,es,ep,e,d,r⟩=> ⟨o,es,ep,mP e (r9 e d),d,r⟩
  have NV:K.In (jN s₁.heap H):=fun b o e=>mP (KX b o e) (by
   cases q:H b with
   | none=>rfl
   | some u=>
    have e':b=a:=hA b (by rw[q];simp)
    subst e'
    rw[hK (by rw[q];simp)] at e;cases e)
  have hM:Mod K mg (jN s₁.heap H):=⟨NV,vN vM,⟨mb,vN hb,Zr⟩,let ⟨mc,h1,h2⟩:=Zs;⟨mc,vN h1,h2⟩⟩
  have e0:jR P w K mg (jN s₁.heap H) callerA [] s₁ H:=⟨rfl,hM,fun b o e=>WU e,Nat.le_of_eq (WS _ _),trivial,fun b hb=>absurd (show b∈ ([]:List Addr) from hb) (by simp),aN, .of_eq hg⟩
  refine codeAny_mono ((F _ NV (vN vM)).run callerA [] s₁ H ⟨[.ref a],[]⟩ [.ref a] [.ref a] _ _ hr e0 (Zt s₁ (.ref a)) (.cons rfl .nil) (gA H hO hS)) fun r s' h=> ?_
  cases r with
  | error e=>exact(Ag H e s' h).elim
  | ok fl=>
   cases fl with
   | next=>exact False.elim h
   | brk=>exact False.elim h
   | cont=>exact False.elim h
   | ret u=>
    obtain⟨v,H',os,bare,un,Zu,r',q⟩:=h
    have q':v= .bl true:=q
    subst q'
    obtain rfl:u=Value.bool true:=r'
    refine⟨rfl,OldK.of_keep fun b o e=> ?_,os,bare⟩
    cases q:H b with
    | none=>exact un.keep b o e q (by intro z;exact absurd (show b∈ ([]:List Addr) from z) (by simp)) (by simp)
    | some u=>
     rcases hO b with z | ⟨ob,xs,z⟩
     ·rw[q] at z;cases z
     ·have z2:=un.eN b ob _ z
      obtain⟨e1,_⟩:=aN b _ z
      obtain⟨e2,_⟩:=Zu b _ z2
      rw[e] at e1;cases e1
      exact e2
 cases hk:K.lookup a with
 | some o=>
  have e:=KX a o hk
  rw[ha] at e
  cases e
  refine core (fun _=>none) (fun _=> .inl rfl) (.inr ⟨_,vs.toArray,_,hk,rfl,rfl,rfl,by rw[List.size_toArray,sq];exact hl,by simpa using rv⟩) (fun b u z=>by have z':(none:Option HO)=some u:=z;cases z') (fun b z=>absurd rfl z) fun z=>absurd rfl z
 | none=>
  refine core (fun b=>if b=a then some (.bV {cls:= .type "list",data:= .seq vs.toArray} (.lst (ns.map V.int))) else none) (fun b=> ?_) (.inl (.inr ⟨{cls:= .type "list",data:= .seq vs.toArray},if_pos rfl⟩)) (fun b u z=> ?_) (fun b z=> ?_) fun _=>hk
  ·by_cases hb:b=a
   ·exact .inr ⟨_,_,if_pos hb⟩
   ·exact .inl (if_neg hb)
  ·by_cases hb:b=a
   ·have z':=(if_pos hb).symm.trans z
    cases z'
    subst hb
    exact⟨ha,by rw[List.length_map];exact hl,vs,_,rv,ha⟩
   ·have z':=(if_neg hb).symm.trans z
    cases z'
  ·by_cases hb:b=a
   ·exact hb
   ·exact absurd (if_neg hb) z
theorem Zv{l:PySem.W.OpenLaw}{n k:Nat}{q:Program}{loose:List Str}{XP:(Str→Option Value)→Heap→Prop}{YP:World→Heap→Prop}{d:DefRec}{K:Params→PySem.W.Frag}{CX:World→aK}{sp:World→Sp}{x:Str}
  (hn:l.most=some n) (jP:n≤sizeLine) (so:d.params.defaults=[]) (hr:cU k callerA)
  (hY: ∀(w:World) (h:Heap),YP w h→(K w.params).In h)
  (F: ∀(w:World) (mg:Str→Option Value) (fa:Addr) (h:Heap),(K w.params).In h→h.Ns mainGlobals mg→mg d.name=some (.ref fa)→
   ∃fd:FuncData,(∀(s:Shared) (u:Value),BindsTo s fd ⟨[u],[]⟩ [(x,u)])∧
    ∀base:Heap,(K w.params).In base→base.Ns mainGlobals mg→ck l.prog w (K w.params) mg base (CX w) k fa fd [x] (sp w))
  (gA: ∀(w:World) (H:Hp) (a:Addr) (ns:List Int),ns.length≤n→Af H→aP (K w.params) H a (ns.map V.int)→sp w [.ref a] H (fun v _=>v= .bl true) fun _ _ _=>False)
  (Ag: ∀(w:World) (H:Hp) (s:Shared) (e:Value) (s':Shared),CX w [] H s (fun _ _ _=>False) e s'→False):
  PySem.W.WalkO q loose XP YP l.row.toRowW d [] (fun f vs=>PySem.call f vs):=by
 refine NT.Zp hn so fun w s₀ s₁ mg mb fa o pm cd doc a vs ns G Y ho hd fq iE Ae hints hlen hg=> ?_
 have KX:=hY w _ Y
 obtain⟨fd,hb,hF⟩:=F w mg fa _ KX G.T.g iE
 exact Zq KX G.T.g G.T.b G.T.builtins G.T.nolimit hg Ae hints (Nat.le_trans hlen jP) hr hF hb (fun H hO hS=>gA w H a ns hlen hO hS) fun H e s'=>Ag w H s₁ e s'
end L2
namespace L2
open PySem PySem.Spec PyProof.Rows
def inClass(s:Stmt)(j:Nat):Stmt:=match s with
 | .ClassDef _ _ _ body _ _ _ _ _ _ _=>body.getD j (.Pass ⟨0,0,0,0⟩)
 | _=> .Pass ⟨0,0,0,0⟩
def bp(s:Stmt):Arguments:=match s with
 | .FunctionDef _ a _ _ _ _ _ _ _ _=>a
 | _=> {posonlyargs:=[],args:=[],vararg:=none,kwonlyargs:=[],kw_defaults:=[],kwarg:=none,defaults:=[]}
def aA(s:Stmt):List Stmt:=match s with
 | .FunctionDef _ _ b _ _ _ _ _ _ _=>b
 | _=> []
def ax(s:Stmt):Scope:=match s with
 | .FunctionDef _ _ _ _ _ _ sc _ _ _=>sc
 | _=> {kind:= .function,names:=[],isGenerator:=false,isCoroutine:=false}
abbrev vO:aK:=fun _ _ _ _ _ _=>False
abbrev E0:XK:=fun _ _ _=>False
structure iG (K:PySem.W.Frag) (x qual:Str) (st:Stmt) (f:Addr) (fd:FuncData):Prop where
 ex: ∃(oc:Value) (od:Option Addr) (kV doc pm:Value) (an:Option Addr) (bQ ct:Value) (hZ:Array (Option Value)),
  fd=fnOf x qual (bp st) (aA st) (ax st) .none kV doc pm an bQ ct∧K.lookup f=some ⟨oc,od, .func fd,hZ⟩∧codeIn K bQ qual=true
 kp:keepIn K (.ref f)=true
section
variable {P:Program} {w:World} {K:PySem.W.Frag} {mg:Str→Option Value} {base:Heap}
theorem iG.binds{x qual:Str}{st:Stmt}{f:Addr}{fd:FuncData}{ps:List Str}(F:iG K x qual st f fd)
  (h: ∀(kV doc pm:Value) (an:Option Addr) (bQ ct:Value) (us:List Value),us.length=ps.length→bindArgs (fnOf x qual (bp st) (aA st) (ax st) .none kV doc pm an bQ ct) ⟨us,[]⟩=pure (ps.zip us)):Binds K fd ps []:=by
 obtain⟨oc,od,kV,doc,pm,an,bQ,ct,hZ,rfl,lk,fq⟩:=F.ex
 exact .all (h kV doc pm an bQ ct)
theorem bE{x qual:Str}{st:Stmt}{f:Addr}{oc:Value}{od an:Option Addr}{hZ:Array (Option Value)}{kV doc pm bQ ct:Value}(l:K.lookup f=some ⟨oc,od, .func (fnOf x qual (bp st) (aA st) (ax st) .none kV doc pm an bQ ct),hZ⟩)
  (c:codeIn K bQ qual=true) (k:keepIn K (.ref f)=true):iG K x qual st f (fnOf x qual (bp st) (aA st) (ax st) .none kV doc pm an bQ ct):=⟨⟨oc,od,kV,doc,pm,an,bQ,ct,hZ,rfl,l,c⟩,k⟩
end
section
variable {X:Cx}
end
theorem jj{A B:Prop}(h:B):if false=true then A else B:=by
 rw[if_neg Bool.false_ne_true]
 exact h
theorem fA{A B:Prop}(h:A):if true=true then A else B:=by
 rw[if_pos rfl]
 exact h
theorem eE{c A B:Prop}[Decidable c](h1:c→A)(h2: ¬c→B):if c then A else B:=by
 by_cases h:c
 ·rw[if_pos h]
  exact h1 h
 ·rw[if_neg h]
  exact h2 h
def aE(H H':Hp):Prop:= ∀b o,H b=some o→H' b=some o
theorem aE.refl(H:Hp):aE H H:=fun _ _ h=>h
theorem aE.trans{H H1 H2:Hp}(a:aE H H1)(b:aE H1 H2):aE H H2:=fun c o h=>b c o (a c o h)
theorem aE.free{H H':Hp}(e:aE H H'){l:Addr}(h:H' l=Option.none):H l=Option.none:=by
 cases q:H l with
 | none=>rfl
 | some o=>
  rw[e l o q] at h
  cases h
theorem aE.seq{K:PySem.W.Frag}{H H':Hp}{a:Addr}{xs:List V}(e:aE H H')(h:aP K H a xs):aP K H' a xs:=by
 rcases h with(h | ⟨o,h⟩) | h
 ·exact .inl (.inl (e _ _ h))
 ·exact .inl (.inr ⟨o,e _ _ h⟩)
 ·exact .inr h
section
variable {κ:Type} [DecidableEq κ]
def NW(aX:List (κ×V))(k:κ):Option V:=(aX.find? fun kv=>decide (kv.1=k)).map (·.2)
def putK(aX:List (κ×V))(k:κ)(v:V):List (κ×V):=
 if (aX.any fun kv=>decide (kv.1=k))=true then aX.map (fun kv=>if kv.1=k then (kv.1,v) else kv) else aX++ [(k,v)]
end
section
variable {P:Program} {w:World} {H:Hp} {h:Heap} {a:Addr}
end
def vP(H:Hp)(a:Addr)(y:V)(r:Option V):Prop:=
 (∃aX k,Rd H a (.dK aX)∧y=kV k∧r=NW aX k)∨ ∃aX k b,Rd H a (.dT aX)∧y= .ref b∧H b=some (.tup (k.map kV))∧r=NW aX k
def Zw(H:Hp)(a:Addr)(y v:V)(H':Hp):Prop:=
 (∃aX k,H a=some (.dK aX)∧y=kV k∧aX.length<sizeLine∧H'=upd H a (.dK (putK aX k v)))∨
 ∃aX k b,H a=some (.dT aX)∧y= .ref b∧H b=some (.tup (k.map kV))∧aX.length<sizeLine∧H'=upd H a (.dT (putK aX k v))
section
variable {X:Cx} {pins:List (Addr×Obj)} {σ:St} {H:Hp} {s:Shared} {a:Addr} {y v:V} {u r:Value} {o:Option V} {A:Around} {E:Value→Shared→Prop}
end
section
variable {X:Cx} {pins:List (Addr×Obj)} {σ:St} {H:Hp} {s:Shared} {a:Addr} {aX:List (Key×V)} {k:Key} {u:Value} {A:Around} {E:Value→Shared→Prop}
end
def Zx(td ty:TE):TE:=fun σ H Q=>td σ H fun x H1=>ty σ H1 fun y H2=> ∃a v,x= .ref a∧vP H2 a y (some v)∧Q v H2
def NY(ty td:TE):TE:=fun σ H Q=>ty σ H fun y H1=>td σ H1 fun x H2=> ∃a o,x= .ref a∧vP H2 a y o∧Q (.bl o.isSome) H2
def NZ(ty td:TE):TE:=fun σ H Q=>ty σ H fun y H1=>td σ H1 fun x H2=> ∃a o,x= .ref a∧vP H2 a y o∧Q (.bl (!o.isSome)) H2
def Zy(td ty tv:TE):TS:=fun D σ H=>tv σ H fun v H1=>td σ H1 fun x H2=>ty σ H2 fun y H3=> ∃a H4,x= .ref a∧Zw H3 a y v H4∧D.nx σ H4
section
variable {X:Cx} {o i e value:Expr} {pos pos' zS:Pos} {td ty tv:TE}
end
def Zz:TE:=fun _ H Q=> ∀p,H p=none→Q (.ref p) (upd H p (.dT []))
section
variable {X:Cx} {pos:Pos}
end
def ZA(H:Hp)(a:Addr):Prop:=(∃aX,Rd H a (.dK aX))∨ ∃aX,Rd H a (.dT aX)
section
variable {X:Cx} {pins:List (Addr×Obj)} {σ:St} {H:Hp} {s:Shared} {a:Addr} {y d:V} {u r:Value} {o:Option V} {A:Around} {E:Value→Shared→Prop}
end
def ZC(td ty tx:TE):TE:=fun σ H Q=>td σ H fun x H1=> ∃a,x= .ref a∧ZA H1 a∧ty σ H1 fun y H2=>tx σ H2 fun z H3=> ∃o,vP H3 a y o∧Q (o.getD z) H3
section
variable {X:Cx} {o e f:Expr} {apos dZ:Pos} {td ty tx:TE}
end
end L2
set_option maxHeartbeats 4000000
namespace L2
open PySem PySem.Spec PyProof.Rows
section
variable {X:Cx} {pins:List (Addr×Obj)} {σ:St} {H:Hp} {s:Shared} {a:Addr} {o:HO}
theorem Inv.N0(I:Inv X pins σ H s)(hn:H a=none)(h0:X.s₀.heap.objs.size≤a)(hL:a≠X.env.locals)(hC: ∀x c,X.env.cells.lookup x=some c→c≠a)
  (hp: ∀p∈X.pn++pins,p.1≠a) (new:cM X.prog X.w (upd H a o) s.heap a o):Inv X pins σ (upd H a o) s:=by
 have ZD: ∀b u,X.s₀.heap.get? b=some u→b≠a:=fun b u e=>Nat.ne_of_lt (Nat.lt_of_lt_of_le (Heap.lt_size e) h0)
 have sr: ∀b u,H b=some u→b≠a:=fun b u e=>cn e hn
 refine⟨I.ok,I.os,I.bare,⟨I.base.keep,I.base.slot,fun b u e n hx=> ?_,I.base.there,fun b xs e=> ?_,fun b u xs e=> ?_,fun b ps e=> ?_⟩,I.loc,I.cell, ?_,fun x c e=> ?_,fun p q=> ?_,fun b u e=> ?_,I.len⟩
 ·rw[aV (ZD b u e)];exact I.base.free b u e n hx
 ·have z:=I.base.cP b xs e
  rw[aV (sr b _ z)];exact z
 ·have z:=I.base.eN b u xs e
  rw[aV (sr b _ z)];exact z
 ·obtain⟨m,z⟩:=I.base.eZ b ps e
  exact⟨m,by rw[aV (sr b _ z)];exact z⟩
 ·rw[aV (Ne.symm hL)];exact I.free
 ·rw[aV (hC x c e)];exact I.fo x c e
 ·obtain⟨z1,z2,z3⟩:=I.pin p q
  exact⟨z1,by rw[aV (hp p q)];exact z2,z3⟩
 ·by_cases hb:b=a
  ·subst hb;rw[aO] at e;cases e;exact new
  ·rw[aV hb] at e
   exact(I.aN b u e).jb (fun _ _ _ q=>q) (fun c q=>by rw[aV (sr c _ q)];exact q) fun c xs q=>by rw[aV (sr c _ q)];exact q
end
def dh(cells:List (Str×Addr)):List (Str×NameKind)→List (Str×Addr)→List (Str×Addr)
 | [],acc=>acc
 | (n,k)::r,acc=>dh cells r (if k= .free then (n,(cells.lookup n).getD 0)::acc else acc)
theorem N1(env:Env): ∀(names:List (Str×NameKind)) (acc:List (Str×Addr)),(∀y∈names,y.2= .free→ ∃c,env.cells.lookup y.1=some c)→
  (forIn names acc (fun(x:Str×NameKind) (cs:List (Str×Addr))=>match x with
   | (name,kind)=>if (kind==NameKind.free)=true then do let a ←cellOf env name;pure (ForInStep.yield ((name,a)::cs)) else pure (ForInStep.yield cs)):Sem (List (Str×Addr)))=pure (dh env.cells names acc)
 | [],acc,_=>rfl
 | (n,k)::r,acc,h=>by
  have hr:=fun Ah=>N1 env r Ah fun y hy=>h y (List.mem_cons_of_mem _ hy)
  rw[List.forIn_cons]
  by_cases hk:k= .free
  ·subst hk
   obtain⟨c,e⟩:=h (n, .free) List.mem_cons_self rfl
   have e':cellOf env n=pure c:=by unfold cellOf;rw[e]
   have ec:dh env.cells ((n, .free)::r) acc=dh env.cells r ((n,c)::acc):=by simp[dh,e]
   rw[ec,←hr]
   simp[e']
  ·have hb:(k==NameKind.free)=false:=by simpa using hk
   have ec:dh env.cells ((n,k)::r) acc=dh env.cells r acc:=by simp[dh,hk]
   rw[ec,←hr]
   simp[hb]
theorem ZE{scope:Scope}{env:Env}(h: ∀y∈scope.names,y.2= .free→ ∃c,env.cells.lookup y.1=some c):closureFor scope env=pure (dh env.cells scope.names []):=by
 have:=N1 env scope.names [] h
 simp only[closureFor]
 rw[←this]
 simp
theorem N2{cells:List (Str×Addr)}: ∀(names:List (Str×NameKind)) (acc:List (Str×Addr)) (x:Str) (c:Addr),(dh cells names acc).lookup x=some c→(acc.lookup x=some c)∨((x, .free)∈names∧(cells.lookup x).getD 0=c)
 | [],acc,x,c,h=> .inl h
 | (n,k)::r,acc,x,c,h=>by
  simp only[dh] at h
  rcases N2 r _ x c h with z | ⟨z1,z2⟩
  ·by_cases hk:k= .free
   ·subst hk
    simp only[if_true] at z
    rw[List.lookup_cons] at z
    by_cases hx:x==n
    ·simp only[hx] at z
     have ZF:x=n:=eq_of_beq hx
     subst ZF
     exact .inr ⟨List.mem_cons_self,Option.some.inj z⟩
    ·have mQ:(x==n)=false:=by simpa using hx
     simp only[mQ] at z
     exact .inl z
   ·simp only[if_neg hk] at z
    exact .inl z
  ·exact .inr ⟨List.mem_cons_of_mem _ z1,z2⟩
theorem Ai{cells:List (Str×Addr)}: ∀(names:List (Str×NameKind)) (acc:List (Str×Addr)) (x:Str),((x,NameKind.free)∈names∨ ∃c,acc.lookup x=some c)→ ∃c,(dh cells names acc).lookup x=some c
 | [],acc,x,h=>by
  rcases h with h | h
  ·cases h
  ·exact h
 | (n,k)::r,acc,x,h=>by
  simp only[dh]
  refine Ai r _ x ?_
  rcases h with h | ⟨c,h⟩
  ·rcases List.mem_cons.mp h with e | h
   ·cases e
    refine .inr ?_
    simp[List.lookup_cons]
   ·exact .inl h
  ·refine .inr ?_
   by_cases hk:k= .free
   ·simp only[if_pos hk,List.lookup_cons]
    cases hx:x==n
    ·exact⟨c,h⟩
    ·exact⟨_,rfl⟩
   ·simp only[if_neg hk];exact⟨c,h⟩
theorem N3{env:Env}: ∀(names:List (Str×NameKind)) (x:Str),
  (names.map fun(n,k)=>if (k==NameKind.free && env.scope.kind== .function && env.kindOf n==some .cell) then (n,NameKind.cell) else (n,k)).lookup x=
   (names.lookup x).map fun k=>if (k==NameKind.free && env.scope.kind== .function && env.kindOf x==some .cell) then NameKind.cell else k
 | [],_=>rfl
 | (n,k)::r,x=>by
  have ih:=N3 (env:=env) r x
  show List.lookup x ((if (k==NameKind.free && env.scope.kind== .function && env.kindOf n==some .cell)=true then (n,NameKind.cell) else (n,k))::_)=_
  cases hx:x==n with
  | true=>
   have e:x=n:=eq_of_beq hx
   subst e
   by_cases hc:(k==NameKind.free && env.scope.kind== .function && env.kindOf x==some .cell)=true
   ·rw[if_pos hc];simp only[List.lookup_cons,beq_self_eq_true,Option.map_some];rw[if_pos hc]
   ·rw[if_neg hc];simp only[List.lookup_cons,beq_self_eq_true,Option.map_some];rw[if_neg hc]
  | false=>
   by_cases hc:(k==NameKind.free && env.scope.kind== .function && env.kindOf n==some .cell)=true
   ·rw[if_pos hc];simp only[List.lookup_cons,hx];exact ih
   ·rw[if_neg hc];simp only[List.lookup_cons,hx];exact ih
section
variable {prog:Program} {w:World} {A:Around} {R:Result→Shared→Prop} {s:Shared}
theorem ZG{elt target iter:Expr}{ifs:List Expr}{scope:Scope}{pos:Pos}{it acc:Value}{env:Env}(I:Nat→Shared→Prop)
  (turn: ∀n s,I n s→wpAny (model prog w) A (pyNext it) (fun r s₁=>match r with
   | none=>R (.ok .next) s₁
   | some v=>wpAny (model prog w) A (letOwnedTupleGo target it v) (fun _ N4=>wpAny (model prog w) A (assign target env v) (fun _ s₂=>
     wpAny (model prog w) A (forIn ifs true fun c r=>if r=true then do let ok ←isTrue c env (eval c env);pure (ForInStep.yield ok) else pure (ForInStep.yield r)) (fun ok s₃=>
      if ok=true then wpAny (model prog w) A (eval elt env) (fun x s₄=>
       wpAny (model prog w) A (call (.builtin "list.append") [acc,x]) (fun _ s₅=> ∃m,m<n∧I m s₅) (fun _ _=>False) s₄) (fun _ _=>False) s₃
      else ∃m,m<n∧I m s₃) (fun _ _=>False) s₂) (fun _ _=>False) N4) (fun _ _=>False) s₁) (fun _ _=>False) s)
  (n:Nat) (h:I n s):codeAny (model prog w) A (.compLoop (.ListComp elt [⟨target,iter,ifs,0⟩] scope pos) 0 it acc env) R s:=by
 refine codeAny_loop rfl I (fun n s hI=> ?_) n h
 show wpAny _ A ((compTurn (.ListComp elt [⟨target,iter,ifs,0⟩] scope pos) 0 it acc env).onRaise (fun x=>do noteFrame x env;theTreesLotGoes x)) _ _ s
 refine wpAny_noted ?_
 rw[compTurn_list]
 refine wpAny_bind (wpAny_standAt (wpAny_bind (wpAny_mono (turn n s hI) (fun r s₁ h₁=> ?_) fun _ _ h'=>h'.elim)))
 cases r with
 | none=>exact wpAny_pure h₁
 | some v=>
  refine wpAny_bind (wpAny_mono h₁ (fun _ N4 ZH=> ?_) fun _ _ h'=>h'.elim)
  refine wpAny_bind (wpAny_mono ZH (fun _ s₂ h₂=>wpAny_bind (wpAny_mono h₂ (fun ok s₃ h₃=> ?_) fun _ _ h'=>h'.elim)) fun _ _ h'=>h'.elim)
  cases ok with
  | false=>exact wpAny_pure ⟨rfl,h₃⟩
  | true=>
   exact wpAny_bind (wpAny_bind (wpAny_mono h₃ (fun x s₄ h₄=>wpAny_bind (wpAny_mono h₄ (fun _ s₅ h₅=>wpAny_pure (wpAny_pure ⟨rfl,h₅⟩)) fun _ _ h'=>h'.elim)) fun _ _ h'=>h'.elim))
end
def gC(X:Cx)(scope:Scope)(N:List Str)(ex:List Addr)(C:Addr)(s:Shared)(H:Hp):Cx where
 prog:=X.prog
 w:=X.w
 K:=X.K
 mg:=X.mg
 base:=X.base
 A:=X.A
 N:=N
 s₀:=s
 H₀:=H
 env:=compEnvC scope (dh X.env.cells scope.names []) C X.env
 outer:=X.stack
 stack:=X.stack
 ex:=ex
 fn:=fun _=>false
 calm:=X.calm
 pn:=[]
 xe:=fun _ _=>False
structure jW (X:Cx) (scope:Scope) (ln:List Str) (fv:List (Str×Nat)):Prop where
 kind:scope.kind= .function
 N5: ∀y∈scope.names,y.2≠ .cell
 locals: ∀y∈scope.names,y.2= .local→scope.names.lookup y.1=some .local
 free: ∀y∈scope.names,y.2= .free→(X.env.kindOf y.1=some .cell∨X.env.kindOf y.1=some .free)
 ZI: ∀p∈fv,X.N[p.2]?=some p.1∧scope.names.lookup p.1=some .free
def dA(σ:St)(fv:List (Str×Nat)):St:=fv.map fun p=> (σ[p.2]?).join
def p_(K:PySem.W.Frag):Option Nat→V→Hp→(List V→Prop)→Prop
 | none,x,_,Q=>Q [x]
 | some n,x,H,Q=> ∃a xs,x= .ref a∧bq K H a xs∧xs.length=n∧Q xs
def sv:Option TT→TT
 | none=>fun _ H k=>k true H
 | some t=>t
def vQ(K:PySem.W.Frag)(wi:TI)(tk:Option Nat)(fv:List (Str×Nat))(tc:Option TT)(te:TE):TE:=fun σ H Q=>
 wi σ H fun J H1=> ∃W:Nat→Nat→List V→Hp→Prop,(∃m,W 0 m [] H1)∧ ∀i m ys H2,W i m ys H2→
  (J.stop i H2∧ ∀p,H2 p=none→Q (.ref p) (upd H2 p (.lst ys)))∨
  (J.go i H2∧ ∀x H3,J.gw i H2 x H3→p_ K tk x H3 fun xs=>
   sv tc (xs.map some++dA σ fv) H3 fun b H5=>
    if b=true then te (xs.map some++dA σ fv) H5 fun y H6=>ys.length<sizeLine∧ ∃m',m'<m∧W (i+1) m' (ys++ [y]) H6
    else ∃m',m'<m∧W (i+1) m' ys H5)
section
variable {X:Cx} {pins:List (Addr×Obj)} {σ:St} {H:Hp} {s₂ s₃:Shared} {scope:Scope} {ln:List Str} {fv:List (Str×Nat)} {fp:List Addr} {h₁:Heap} {D C:Addr} {m:Str→Option Value} {t:Nat}
theorem jW.cells(S:jW X scope ln fv)(I:Inv X pins σ H s₂){x:Str}{c:Addr}(h:(dh X.env.cells scope.names []).lookup x=some c):X.env.cells.lookup x=some c∧(x,NameKind.free)∈scope.names:=by
 rcases N2 _ _ _ _ h with z | ⟨z1,z2⟩
 ·cases z
 ·obtain⟨c',e⟩:=I.ok.has x (S.free _ z1 rfl)
  rw[e] at z2
  have z3:c'=c:=z2
  subst z3
  exact⟨e,z1⟩
theorem jW.ZJ(S:jW X scope ln fv)(I:Inv X pins σ H s₂):closureFor scope X.env=pure (dh X.env.cells scope.names []):=
 ZE fun y hy hk=>I.ok.has y.1 (S.free y hy hk)
theorem ZK(S:jW X scope ln fv)(I:Inv X pins σ H s₂)(f2: ∀b∈fp,hX X pins H b)(iH: ∀b∈fp,∃o,s₂.heap.get? b=some o)
  (os:s₃.os=s₂.os) (gens:s₃.gens=s₂.gens) (k3: ∀b o,s₂.heap.get? b=some o→s₃.heap.get? b=some o) (hD:D=s₂.heap.objs.size) (h3:s₃.heap.objs.size=s₂.heap.objs.size+1) (hC:C=s₃.heap.objs.size)
  (k4: ∀b o,s₃.heap.get? b=some o→h₁.get? b=some o) (vM:h₁.Ns C m):
  Inv (gC X scope (ln++fv.map (·.1)) (D::fp) C s₃ H) [] (ln.map (fun _=>none)++dA σ fv) H {s₃ with heap:=h₁,toks:=t}:=by
 have cl: ∀{x c},(dh X.env.cells scope.names []).lookup x=some c→X.env.cells.lookup x=some c:=fun h=> (S.cells I h).1
 have ZL: ∀{x c},(dh X.env.cells scope.names []).lookup x=some c→c<s₂.heap.objs.size:=fun h=>by
  obtain⟨v,q⟩:=I.cell _ _ (cl h)
  exact q.lt
 have ZM: ∀b∈fp,b<s₂.heap.objs.size:=fun b hb=>by obtain⟨o,e⟩:=iH b hb;exact Heap.lt_size e
 have ZN: ∀b∈D::fp,b≤s₂.heap.objs.size:=fun b hb=>by
  rcases List.mem_cons.mp hb with e | hb
  ·rw[e,hD];exact Nat.le_refl _
  ·exact Nat.le_of_lt (ZM b hb)
 have N6: ∀x,(relabel scope X.env).names.lookup x=(scope.names.lookup x).map fun k=>if (k==NameKind.free && X.env.scope.kind== .function && X.env.kindOf x==some .cell) then NameKind.cell else k:=fun x=>N3 scope.names x
 have ZO: ∀x,scope.names.lookup x=some .free→((relabel scope X.env).names.lookup x=some .cell∨(relabel scope X.env).names.lookup x=some .free):=fun x e=>by
  rw[N6,e]
  simp only[Option.map_some]
  split
  ·exact .inl rfl
  ·exact .inr rfl
 have ZP: ∀x,((relabel scope X.env).names.lookup x=some .cell∨(relabel scope X.env).names.lookup x=some .free)→(x,NameKind.free)∈scope.names:=fun x e=>by
  rw[N6] at e
  cases q:scope.names.lookup x with
  | none=>rw[q] at e;rcases e with e | e<;>cases e
  | some k=>
   rw[q] at e
   have hm:(x,k)∈scope.names:=PySem.mem_of_lookup q
   simp only[Option.map_some] at e
   by_cases hk:k= .free
   ·rw[hk] at hm;exact hm
   ·have hb:(k==NameKind.free)=false:=by simpa using hk
    simp only[hb,Bool.false_and,Bool.false_eq_true,if_false] at e
    rcases e with e | e
    ·exact absurd (Option.some.inj e) (S.N5 _ hm)
    ·exact absurd (Option.some.inj e) hk
 refine⟨⟨I.ok.mod,S.kind,I.ok.glob,I.ok.blt,Nat.le_of_eq hC.symm,fun x y c h1 h2=>I.ok.inj x y c (cl h1) (cl h2),fun x hx=>Ai _ _ x (.inl (ZP x hx)),fun x c h _=> (by cases h),I.ok.hd,I.ok.frames, .inl rfl,fun b hb=> ⟨?_,fun x c e=> ?_⟩,fun b o e=> ⟨k3 b o (I.bs b o e).1,(I.bs b o e).2⟩, ?_,fun b o e hb=> ?_,fun b hb hf=> ?_, ?_,I.vm⟩,
  rfl, ?_,Un.kept fun b u e=>k4 b u e,⟨m,vM,fun i x v e1 e2 e3=> ?_⟩,fun x c e=> ?_,I.aN.fresh ?_,fun x c e=>I.fo x c (cl e),fun p hp=>absurd (show p∈ ([]:List (Addr×Obj)) from hp) (by simp),I.aN.kept fun b u e=>k4 b u (k3 b u e), ?_⟩
 ·show b≠C
  have:=ZN b hb
  rw[hC,h3];exact Nat.ne_of_lt (Nat.lt_succ_of_le this)
 ·have q1:=ZL e
  rcases List.mem_cons.mp hb with z | z
  ·rw[z,hD];exact Nat.ne_of_lt q1
  ·exact(f2 b z).2.2.2.2.1 x c (cl e)
 ·show X.base.objs.size≤s₃.heap.objs.size
  have:=Nat.le_trans I.ok.kz I.sz
  omega
 ·have e2:=(I.bs b o e).1
  have kQ:b∈D::fp:=hb
  rcases List.mem_cons.mp kQ with z | z
  ·have:=Heap.lt_size e2
   rw[z,hD] at this;exact Nat.lt_irrefl _ this
  ·rcases (f2 b z).2.2.2.1 with q | q
   ·exact I.ok.vi b o e q
   ·exact absurd (Nat.lt_of_lt_of_le (Heap.lt_size (I.ok.bs b o e).1) q) (Nat.lt_irrefl _)
 ·have N7:b∈cb X.stack:=hf
  have kQ:b∈D::fp:=hb
  rcases List.mem_cons.mp kQ with z | z
  ·rcases List.mem_cons.mp (I.vk b N7) with q | q
   ·have:=I.lt
    rw[←q,z,hD] at this;exact Nat.lt_irrefl _ this
   ·exact I.Mr (by rw[z,hD];exact Nat.le_refl _) q
  ·rcases List.mem_cons.mp (I.vk b N7) with q | q
   ·exact(f2 b z).2.1 q
   ·exact(f2 b z).2.2.1 q
 ·exact PySem.Heap.FunFrames.of_keeps (fun b o e _=> ⟨o,k3 b o e,rfl⟩) I.stack
 ·show AllBare s₃.gens
  rw[gens];exact I.bare
 ·have hi:ln.length≤i:=by
   by_cases hi:i<ln.length
   ·exfalso
    rw[List.getElem?_append_left (by simpa using hi),List.getElem?_map] at e2
    cases q:ln[i]? with
    | none=>rw[q] at e2;cases e2
    | some y=>rw[q] at e2;cases e2
   ·omega
  have mR:(ln++fv.map (·.1))[i]?=some x:=e1
  rw[List.getElem?_append_right hi,List.getElem?_map] at mR
  rw[List.getElem?_append_right (by simpa using hi),List.length_map] at e2
  unfold dA at e2
  rw[List.getElem?_map] at e2
  cases q:fv[i - ln.length]? with
  | none=>rw[q] at mR;cases mR
  | some p=>
   rw[q] at mR e2
   have ex:p.1=x:=Option.some.inj mR
   have ev:(σ[p.2]?).join=some v:=Option.some.inj e2
   obtain⟨g1,g2⟩:=S.ZI p (List.mem_of_getElem? q)
   rw[ex] at g1 g2
   have ZQ:σ[p.2]?=some (some v):=by
    cases z:σ[p.2]? with
    | none=>rw[z] at ev;cases ev
    | some o=>rw[z] at ev;rw[show o=some v from ev]
   have hk:=S.free _ (PySem.mem_of_lookup g2) rfl
   obtain⟨m2,jP,hl⟩:=I.loc
   obtain⟨u,r,l⟩:=hl p.2 x v g1 ZQ (by rcases hk with k | k;exact .inr (.inl k);exact .inr (.inr k))
   refine⟨u,r, .inr ?_⟩
   rcases l with⟨k,_⟩ | ⟨_,c,ec,z⟩
   ·rcases hk with k' | k'<;> (rw[k] at k';cases k')
   ·refine⟨ZO x g2,c, ?_, ?_⟩
    ·obtain⟨c',e'⟩:=Ai (cells:=X.env.cells) scope.names [] x (.inl (PySem.mem_of_lookup g2))
     have:=cl e'
     rw[ec] at this;cases this
     exact e'
    ·obtain⟨o,ho,hd⟩:=z
     exact⟨o,k4 c o (k3 c o ho),hd⟩
 ·obtain⟨v,o,ho,hd⟩:=I.cell x c (cl e)
  exact⟨v,o,k4 c o (k3 c o ho),hd⟩
 ·show s₂.heap.objs.size≤C
  rw[hC,h3];exact Nat.le_succ _
 ·show(ln.map (fun _=>none)++dA σ fv).length=(ln++fv.map (·.1)).length
  simp[dA]
end
structure N8 (Φ:Cx→Prop) (P:Program) (w:World) (K:PySem.W.Frag) (tg:Expr) (J:It) (fp:List Addr) (it:Addr) (tn:Nat→Heap→Prop):Prop where
 mem:it∈fp
 obj: ∀i h,tn i h→ ∀b∈fp,∃o,h.get? b=some o∧ ∀v,o.data≠ .cell v
 keep: ∀i h h',tn i h→(∀b∈fp,∀o,h.get? b=some o→h'.get? b=some o)→tn i h'
 item: ∀(X:Cx),X.prog=P→X.w=w→X.K=K→Φ X→ ∀(i:Nat) (pins:List (Addr×Obj)) (s:Shared) (σ:St) (H:Hp) (E:Value→Shared→Prop),Inv X pins σ H s→(∀b∈fp,hX X pins H b)→tn i s.heap→J.go i H→
  wpAny (model P w) X.A (pyNext (.ref it)) (fun r s1=> ∃u,r=some u∧
   wpAny (model P w) X.A (letOwnedTupleGo tg (.ref it) u) (fun _ s2=> ∃x H',Inv X pins σ H' s2∧RelV x u∧J.gw i H x H'∧tn (i+1) s2.heap∧ ∀b∈fp,H' b=none) E s1) E s
 done: ∀(X:Cx),X.prog=P→X.w=w→X.K=K→Φ X→ ∀(i:Nat) (pins:List (Addr×Obj)) (s:Shared) (σ:St) (H:Hp) (E:Value→Shared→Prop),Inv X pins σ H s→(∀b∈fp,hX X pins H b)→tn i s.heap→J.stop i H→
  wpAny (model P w) X.A (pyNext (.ref it)) (fun r s1=>r=none∧Inv X pins σ H s1) E s
 self: ∀(A:Around) (i:Nat) (s:Shared) (Q:Value→Shared→Prop) (E:Value→Shared→Prop),tn i s.heap→Q (.ref it) s→wpAny (model P w) A (pyIter (.ref it)) Q E s
def N9(Φ:Cx→Prop)(X:Cx)(tg iter:Expr)(wi:TI):Prop:=
 ∀(pins:List (Addr×Obj)) (s:Shared) (σ:St) (H:Hp) (R:It→Hp→Prop),Inv X pins σ H s→wi σ H R→
  wpAny (model X.prog X.w) X.A (eval iter X.env) (fun v s1=>wpAny (model X.prog X.w) X.A (pyIter v) (fun pW s2=>
   ∃(it:Addr) (fp:List Addr) (tn:Nat→Heap→Prop) (J:It) (H':Hp),pW= .ref it∧Inv X pins σ H' s2∧N8 Φ X.prog X.w X.K tg J fp it tn∧tn 0 s2.heap∧(∀b∈fp,hX X pins H' b)∧R J H') X.xe s1) X.xe s
abbrev Calm(X:Cx):Prop:=X.calm=true
theorem PI.p{X:Cx}{tg iter:Expr}{wi:TI}(h:PI X tg iter wi):N9 Calm X tg iter wi:=fun pins s σ H R I q=>
 bj (h pins s σ H R I q) fun v s1 h1=>bj h1 fun pW s2 ⟨it,fp,tn,J,H',e,I',T,st,f,r⟩=> ⟨it,fp,tn,J,H',e,I',⟨T.mem,T.obj,T.keep,T.item,T.done,T.self⟩,st,f,r⟩
section
variable {X:Cx} {pins:List (Addr×Obj)} {σ:St} {H:Hp} {s₂:Shared} {scope:Scope} {ln:List Str} {fv:List (Str×Nat)} {elt tg iter:Expr} {ifs:List Expr} {pos:Pos}
 {J:It} {fp:List Addr} {it:Addr} {tn:Nat→Heap→Prop} {tk:Option Nat} {tc:Option TT} {te:TE} {Qv:VK} {RR:Value→Addr→Result→Shared→Prop} {E:Value→Shared→Prop}
def N_(Ψ:Hp→Prop)(X:Cx)(scope:Scope)(ln:List Str)(fv:List (Str×Nat))(tg:Expr)(tk:Option Nat):Prop:=
 ∀(ex:List Addr) (C:Addr) (s:Shared) (H:Hp),Ψ H→ ∃g,PG (gC X scope (ln++fv.map (·.1)) ex C s H) tg g∧
  ∀(x:V) (pre φ:St) (H':Hp) (Q:St→Hp→Prop),pre.length=ln.length→p_ X.K tk x H' (fun xs=>xs.length=ln.length→Q (xs.map some++φ) H')→g x (pre++φ) H' Q
def vR(X:Cx)(scope:Scope)(ln:List Str)(fv:List (Str×Nat))(tg:Expr)(tk:Option Nat):Prop:=
 ∀(ex:List Addr) (C:Addr) (s:Shared) (H:Hp),∃g,PG (gC X scope (ln++fv.map (·.1)) ex C s H) tg g∧
  ∀(x:V) (pre φ:St) (H':Hp) (Q:St→Hp→Prop),pre.length=ln.length→p_ X.K tk x H' (fun xs=>xs.length=ln.length→Q (xs.map some++φ) H')→g x (pre++φ) H' Q
def Aj(X:Cx)(scope:Scope)(N:List Str)(ifs:List Expr)(tc:Option TT):Prop:=
 match tc with
 | none=>ifs=[]
 | some t=> ∃c,ifs=[c]∧ ∀(ex:List Addr) (C:Addr) (s:Shared) (H:Hp),PT (gC X scope N ex C s H) c t
theorem ZR{Φ:Cx→Prop}{Ψ:Hp→Prop}(S:jW X scope ln fv)(hc: ∀Xc:Cx,Xc.A=X.A→Xc.calm=X.calm→Xc.H₀=H→Φ Xc)(hΨ:Ψ H)(hg:N_ Ψ X scope ln fv tg tk)(ht:Aj X scope (ln++fv.map (·.1)) ifs tc)
  (he: ∀(ex:List Addr) (C:Addr) (s:Shared) (H:Hp),PE (gC X scope (ln++fv.map (·.1)) ex C s H) elt te)
  (I:Inv X pins σ H s₂) (T:N8 Φ X.prog X.w X.K tg J fp it tn) (st:tn 0 s₂.heap) (f2: ∀b∈fp,hX X pins H b)
  (h: ∃W:Nat→Nat→List V→Hp→Prop,(∃m,W 0 m [] H)∧ ∀i m ys H2,W i m ys H2→
   (J.stop i H2∧ ∀p,H2 p=none→Qv (.ref p) (upd H2 p (.lst ys)))∨
   (J.go i H2∧ ∀x H3,J.gw i H2 x H3→p_ X.K tk x H3 fun xs=>
    sv tc (xs.map some++dA σ fv) H3 fun b H5=>
     if b=true then te (xs.map some++dA σ fv) H5 fun y H6=>ys.length<sizeLine∧ ∃m',m'<m∧W (i+1) m' (ys++ [y]) H6
     else ∃m',m'<m∧W (i+1) m' ys H5))
  (ZS: ∀D C H' s' m,Inv X pins σ H' s'→s'.heap.Ns C m→H' C=none→C≠X.env.locals→X.s₀.heap.objs.size≤C→(∀x c,X.env.cells.lookup x=some c→c≠C)→(∀p∈X.pn++pins,p.1≠C)→Qv (.ref D) H'→RR (.ref D) C (.ok .next) s'):
  wpAny (model X.prog X.w) X.A (newList []) (fun acc s₃=>wpAny (model X.prog X.w) X.A (newFunctionEnv scope X.env.globals (dh X.env.cells scope.names []) [] X.env.qual none .none (some X.env)) (fun Oa s₄=>
   codeAny (model X.prog X.w) X.A (.compStart (.ListComp elt [⟨tg,iter,ifs,0⟩] scope pos) 0 (.ref it) acc {Oa with scope:=relabel scope X.env}) (RR acc Oa.locals) s₄) E s₃) E s₂:=by
 obtain⟨W,⟨m0,w0⟩,turn⟩:=h
 refine wpAny_newObj_type (wpAny_newFunctionEnv S.N5 (by intro y hy;simp at hy) (fun h₁ vS vT=> ?_) S.kind)
 dsimp only at vS vT⊢
 generalize vU:({s₂ with heap:=s₂.heap.push {cls:= .type "list",dict:=none,data:= .seq ([]:List Value).toArray}}:Shared)=s₃
 have jk:s₂.heap.push {cls:= .type "list",dict:=none,data:= .seq ([]:List Value).toArray}=s₃.heap:=by rw[←vU]
 rw[jk] at vS vT⊢
 have Ob:s₃.os=s₂.os:=by rw[←vU]
 have ZT:s₃.gens=s₂.gens:=by rw[←vU]
 have mS:s₃.heap.objs.size=s₂.heap.objs.size+1:=by rw[←jk,Heap.size_push]
 have k3: ∀b o,s₂.heap.get? b=some o→s₃.heap.get? b=some o:=fun b o e=>by rw[←jk];exact Heap.get?_push_of_some _ e
 have k4: ∀b o,s₃.heap.get? b=some o→h₁.get? b=some o:=fun b o e=>vT.extBut b o (Nat.ne_of_lt (Heap.lt_size e)) (Heap.get?_push_of_some _ e)
 have gD:s₃.heap.get? s₂.heap.objs.size=some {cls:= .type "list",dict:=none,data:= .seq ([]:List Value).toArray}:=by rw[←jk];exact Heap.get?_push_size _ rfl
 generalize eD:s₂.heap.objs.size=D at gD
 generalize eC:s₃.heap.objs.size=C at vS vT⊢
 have vV:D≠C:=by rw[←eD,←eC,mS];exact Nat.ne_of_lt (Nat.lt_succ_self _)
 have iH: ∀b∈fp,∃o,s₂.heap.get? b=some o:=fun b hb=>by obtain⟨o,e,_⟩:=T.obj 0 _ st b hb;exact⟨o,e⟩
 have Oc: ∀b∈fp,b≠D:=fun b hb=>by obtain⟨o,e⟩:=iH b hb;rw[←eD];exact Nat.ne_of_lt (Heap.lt_size e)
 have ZU: ∀b∈fp,b≠C:=fun b hb=>by
  obtain⟨o,e⟩:=iH b hb
  have:=Heap.lt_size e
  rw[←eC,mS];exact Nat.ne_of_lt (Nat.lt_succ_of_lt this)
 generalize eX:gC X scope (ln++fv.map (·.1)) (D::fp) C s₃ H=Xc
 have I4: ∀t,Inv Xc [] (ln.map (fun _=>none)++dA σ fv) H {s₃ with heap:=h₁,toks:=t}:=fun t=>by
  rw[←eX]
  exact ZK S I f2 iH Ob ZT k3 eD.symm mS eC.symm k4 vS
 have xL:Xc.env.locals=C:=by rw[←eX];rfl
 have vW:Xc.ex=D::fp:=by rw[←eX];rfl
 have ZV:Xc.fs=cb X.stack:=by rw[←eX];rfl
 have xP:Xc.prog=X.prog:=by rw[←eX];rfl
 have xw:Xc.w=X.w:=by rw[←eX];rfl
 have xK:Xc.K=X.K:=by rw[←eX];rfl
 have xA:Xc.A=X.A:=by rw[←eX];rfl
 have xc:Φ Xc:=hc Xc xA (by rw[←eX];rfl) (by rw[←eX];rfl)
 have Od:Xc.pn=[]:=by rw[←eX];rfl
 have Ak:Xc.xe=fun _ _=>False:=by rw[←eX];rfl
 have Oe:Xc.env.cells=dh X.env.cells scope.names []:=by rw[←eX];rfl
 have Al:Xc.env=compEnvC scope (dh X.env.cells scope.names []) C X.env:=by rw[←eX];rfl
 have cD: ∀x c,Xc.env.cells.lookup x=some c→c≠D:=fun x c e=>by
  rw[Oe] at e
  obtain⟨v,q⟩:=I.cell x c (S.cells I e).1
  rw[←eD];exact Nat.ne_of_lt q.lt
 have cF: ∀x c,Xc.env.cells.lookup x=some c→ ∀b∈fp,c≠b:=fun x c e b hb=>by
  rw[Oe] at e
  exact(f2 b hb).2.2.2.2.1 x c (S.cells I e).1
 have sF: ∀b∈D::fp,b∉Xc.fs:=fun b hb hf=>by
  have:=(I4 0).ok.vj b (by rw[vW];exact hb)
  exact this hf
 have mE: ∀{H':Hp} {oD:Obj},(∀b∈fp,H' b=none)→ ∀b∈fp,hX Xc [(D,oD)] H' b:=fun hn b hb=>
  ⟨hn b hb,by rw[xL];exact ZU b hb,sF b (List.mem_cons_of_mem _ hb), .inl (by rw[vW];exact List.mem_cons_of_mem _ hb),fun x c e=>cF x c e b hb,fun p hp=>by
   rw[Od] at hp
   rcases List.mem_singleton.mp (show p∈ [(D,_)] from hp) with rfl
   exact(Oc b hb).symm⟩
 have loop: ∀s₄:Shared,s₄={s₃ with heap:=h₁,toks:=s₃.toks+ ([]:List (Str×Value)).length}→
   codeAny (model X.prog X.w) X.A (.compLoop (.ListComp elt [⟨tg,iter,ifs,0⟩] scope pos) 0 (.ref it) (.ref D) (compEnvC scope (dh X.env.cells scope.names []) C X.env)) (RR (.ref D) C) s₄:=by
  rintro s₄ rfl
  refine ZG (fun n s'=> ∃i pre ys its nn H',Inv Xc [(D,{cls:= .type "list",data:= .seq (List.toArray its) nn})] (pre++dA σ fv) H' s'∧pre.length=ln.length∧tn i s'.heap∧(∀b∈fp,H' b=none)∧Vals ys its∧ys.length≤sizeLine∧W i n ys H') ?_ m0
   ⟨0,ln.map (fun _=>none),[],[],0,H,(I4 _).pT (fun p hp=> ?_),by simp,T.keep 0 _ _ st (fun b _ o e=>k4 b o (k3 b o e)),fun b hb=> (f2 b hb).1, .nil,Nat.zero_le _,w0⟩
  rotate_left
  ·have Am:=List.mem_singleton.mp hp
   subst Am
   refine⟨k4 _ _ gD,I.aN.fresh (Nat.le_of_eq eD),by rw[xL];exact vV,sF D List.mem_cons_self,fun v z=>by cases z⟩
  rintro n s' ⟨i,pre,ys,its,nn,H',I',p9,kD,Of,hv,hz,w'⟩
  have ayJ:=I'.pin (D,_) (List.mem_append_right _ List.mem_cons_self)
  rcases turn i n ys H' w' with⟨stop,qn⟩ | ⟨go,step⟩
  ·have td:=T.done Xc xP xw xK xc i _ s' _ H' (fun _ _=>False) I' (mE Of) kD stop
   rw[xA] at td
   refine bj td fun r s1 ⟨hr,I1⟩=> ?_
   subst hr
   have An:=I1.pin (D,_) (List.mem_append_right _ List.mem_cons_self)
   have b1:=I1.base
   rw[ZV,vW] at b1
   have Og:Xc.s₀=s₃:=by rw[←eX];rfl
   have ZW:Xc.H₀=H:=by rw[←eX];rfl
   rw[Og,ZW] at b1
   have nD: ∀b o,s₂.heap.get? b=some o→b∉fp→b∉D::fp:=fun b o e hb hm=>by
    rcases List.mem_cons.mp hm with z | z
    ·have:=Heap.lt_size e
     rw[z,eD] at this;exact Nat.lt_irrefl _ this
    ·exact hb z
   have un:Un (cb X.stack) fp H H' s₂.heap s1.heap:=⟨fun b o e nb hb hx=>b1.keep b o (k3 b o e) nb hb (nD b o e hx),fun b o e nb hb hx=>b1.slot b o (k3 b o e) nb hb (nD b o e hx),fun b o e nb hx=>b1.free b o (k3 b o e) nb (nD b o e hx),
    fun b o e hx=>b1.there b o (k3 b o e) (nD b o e hx),b1.cP,b1.eN,b1.eZ⟩
   have ZX:s1.os=s₂.os:=by rw[I1.os,Og,Ob]
   have Oh:=I1.aN
   rw[xP,xw] at Oh
   have J1:Inv X pins σ H' s1:=I.zB ZX un Oh I1.bare fun b hb=> ⟨(f2 b hb).2.2.2.1,(f2 b hb).2.1,(f2 b hb).2.2.2.2.1,(f2 b hb).2.2.2.2.2⟩
   have ZY: ∀x c,X.env.cells.lookup x=some c→c≠D:=fun x c e=>by
    obtain⟨v,q⟩:=I.cell x c e
    rw[←eD];exact Nat.ne_of_lt q.lt
   have ZZ: ∀x c,X.env.cells.lookup x=some c→c≠C:=fun x c e=>by
    obtain⟨v,q⟩:=I.cell x c e
    rw[←eC,mS];exact Nat.ne_of_lt (Nat.lt_succ_of_lt q.lt)
   have pD: ∀p∈X.pn++pins,p.1≠D:=fun p hp=>by rw[←eD];exact Nat.ne_of_lt (Heap.lt_size (I.pin p hp).1)
   have pC: ∀p∈X.pn++pins,p.1≠C:=fun p hp=>by
    rw[←eC,mS];exact Nat.ne_of_lt (Nat.lt_succ_of_lt (Heap.lt_size (I.pin p hp).1))
   have lD:D≠X.env.locals:=by rw[←eD];exact Nat.ne_of_gt I.lt
   have lC:C≠X.env.locals:=by
    rw[←eC,mS];exact Nat.ne_of_gt (Nat.lt_succ_of_lt I.lt)
   have J2:Inv X pins σ (upd H' D (.lst ys)) s1:=Inv.N0 J1 An.2.1 (by rw[←eD];exact I.sz) lD ZY pD ⟨hz,its,nn,hv,An.1⟩
   obtain⟨mC,Oi,_⟩:=I1.loc
   rw[xL] at Oi
   have fC:H' C=none:=by have:=I1.free;rw[xL] at this;exact this
   exact ZS D C _ s1 mC J2 Oi (by rw[aV (Ne.symm vV)];exact fC) lC (by rw[←eC,mS];exact Nat.le_succ_of_le I.sz) ZZ pC (qn D An.2.1)
  ·have ti:=T.item Xc xP xw xK xc i _ s' _ H' (fun _ _=>False) I' (mE Of) kD go
   rw[xA] at ti
   refine bj ti fun r s4 ⟨u,hr,h4⟩=> ?_
   subst hr
   refine bj h4 fun _ s5 ⟨x,H5,I5,r5,y5,mF,zL⟩=> ?_
   have rW:=I5.pinned (mE zL) (T.obj _ _ mF)
   obtain⟨g,pg,gq⟩:=hg (D::fp) C s₃ H hΨ
   rw[eX] at pg
   have rd:=step x H5 y5
   have Oj:=pg _ s5 _ H5 x u (fun σ6 H6=> ∃xs:List V,σ6=xs.map some++dA σ fv∧xs.length=ln.length∧H6=H5∧
     sv tc (xs.map some++dA σ fv) H5 fun b H5=>
     if b=true then te (xs.map some++dA σ fv) H5 fun y H6=>ys.length<sizeLine∧ ∃m',m'<n∧W (i+1) m' (ys++ [y]) H6
     else ∃m',m'<n∧W (i+1) m' ys H5) rW r5 (gq x pre (dA σ fv) H5 _ p9 (by
      cases tk with
      | none=>exact fun hl=> ⟨_,rfl,hl,rfl,rd⟩
      | some k=>
       obtain⟨a,xs,e1,e2,e3,rd⟩:=rd
       exact⟨a,xs,e1,e2,e3,fun hl=> ⟨xs,rfl,hl,rfl,rd⟩⟩))
   rw[xA,xP,xw,Ak,Al] at Oj
   refine bj Oj fun _ s6 ⟨σ6,H6,I6,xs,e6,Ol,eH,Om⟩=> ?_
   subst e6 eH
   have Oo: ∀{H7:Hp} {σ7:St} {s7:Shared},Inv Xc ([(D,{cls:= .type "list",data:= .seq (List.toArray its) nn})]++pX fp s5.heap) σ7 H7 s7→tn (i+1) s7.heap∧(∀b∈fp,H7 b=none)∧s7.heap.get? D=some {cls:= .type "list",data:= .seq (List.toArray its) nn}∧H7 D=none:=fun {H7 σ7 s7} I7=>by
    refine⟨T.keep _ _ _ mF fun b hb o e=> (I7.pin (b,o) (List.mem_append_right _ (List.mem_append_right _ (vx hb e)))).1,fun b hb=> ?_, ?_, ?_⟩
    ·obtain⟨o,e,d⟩:=T.obj _ _ mF b hb
     exact(I7.pin (b,o) (List.mem_append_right _ (List.mem_append_right _ (vx hb e)))).2.1
    ·exact(I7.pin (D,_) (List.mem_append_right _ (List.mem_append_left _ List.mem_cons_self))).1
    ·exact(I7.pin (D,_) (List.mem_append_right _ (List.mem_append_left _ List.mem_cons_self))).2.1
   have tests:wpAny (model X.prog X.w) X.A (forIn ifs true fun c r=>if r=true then do let ok ←isTrue c (compEnvC scope (dh X.env.cells scope.names []) C X.env) (eval c (compEnvC scope (dh X.env.cells scope.names []) C X.env));pure (ForInStep.yield ok) else pure (ForInStep.yield r))
     (fun ok s7=> ∃H7,Inv Xc ([(D,{cls:= .type "list",data:= .seq (List.toArray its) nn})]++pX fp s5.heap) (xs.map some++dA σ fv) H7 s7∧
      if ok=true then te (xs.map some++dA σ fv) H7 fun y H6=>ys.length<sizeLine∧ ∃m',m'<n∧W (i+1) m' (ys++ [y]) H6
      else ∃m',m'<n∧W (i+1) m' ys H7) (fun _ _=>False) s6:=by
    cases tc with
    | none=>
     have Ao:ifs=[]:=ht
     subst Ao
     exact wpAny_tests_nil ⟨_,I6,Om⟩
    | some t=>
     obtain⟨c,Ao,pt⟩:=(show ∃c,ifs=[c]∧ ∀(ex:List Addr) (C:Addr) (s:Shared) (H:Hp),PT (gC X scope (ln++fv.map (·.1)) ex C s H) c t from ht)
     subst Ao
     have Oq:=pt (D::fp) C s₃ H
     rw[eX] at Oq
     have q:=Oq _ s6 _ _ _ I6 Om
     rw[xA,xP,xw,Ak,Al] at q
     exact wpAny_tests_one (bj q fun b s7 ⟨H7,I7,q7⟩=> ⟨H7,I7,q7⟩)
   refine bj tests fun ok s7 ⟨H7,I7,q7⟩=> ?_
   cases ok with
   | false=>
    simp only[Bool.false_eq_true,if_false] at q7⊢
    obtain⟨m',hm,w7⟩:=q7
    obtain⟨t7,f7,d7,n7⟩:=Oo I7
    refine⟨m',hm,i+1,xs.map some,ys,its,nn,H7,I7.pT (fun p hp=> ?_),by simpa using Ol,t7,f7,hv,hz,w7⟩
    exact I7.pin p (List.mem_append_right _ (List.mem_append_left _ hp))
   | true=>
    simp only[if_true] at q7⊢
    have q:=he (D::fp) C s₃ H
    rw[eX] at q
    have q:=q _ s7 _ H7 _ I7 q7
    rw[xA,xP,xw,Ak,Al] at q
    refine bj q fun uy s8 ⟨y,H8,I8,r8,bG,m',hm,w8⟩=> ?_
    obtain⟨t8,f8,d8,n8⟩:=Oo I8
    have hl:=hv.length
    refine call_meets F.slot_list_append ⟨_,d8,rfl⟩ F.entry_list_append (F.args_list_append_2 _ _) (PySem.list_append D its.toArray nn uy (by rw[List.size_toArray];omega)) ⟨d8, ?_⟩
    have I9: ∀t,Inv Xc [] (xs.map some++dA σ fv) H8 {s8 with heap:=s8.heap.update D (Obj.mapSeq (·.push uy)),toks:=t}:=fun t=>
     (I8.pT (hV:=[]) (fun p hp=>absurd hp (by simp))).turned (it:=D) (t':=t) (fun b o hb e=> (Heap.get?_update_other s8.heap (Obj.mapSeq (·.push uy)) (Ne.symm hb)).trans e) n8 (by rw[xL];exact vV) (.inl (by rw[vW];exact List.mem_cons_self)) cD
      (fun p hp=>by rw[Od] at hp;exact absurd hp (by simp))
    have g9:=PySem.IsL.update d8 (·.push uy)
    obtain⟨n9,Z0⟩: ∃n9,(s8.heap.update D (Obj.mapSeq (·.push uy))).get? D=some {cls:= .type "list",data:= .seq (its++ [uy]).toArray n9}:=
     ⟨_,by rw[show(its++ [uy]).toArray=its.toArray.push uy by simp];exact g9⟩
    refine⟨m',hm,i+1,xs.map some,ys++ [y],its++ [uy],n9,H8,(I9 _).pT (fun p hp=> ?_),by simpa using Ol, ?_,f8,hv.append (.cons r8 .nil), ?_,w8⟩
    ·have Am:=List.mem_singleton.mp hp
     subst Am
     exact⟨Z0,n8,by rw[xL];exact vV,sF D List.mem_cons_self,fun v z=>by cases z⟩
    ·exact T.keep _ _ _ t8 fun b hb o e=> (Heap.get?_update_other s8.heap (Obj.mapSeq (·.push uy)) (Ne.symm (Oc b hb))).trans e
    ·rw[List.length_append,List.length_singleton];omega
 have Z1:tn 0 h₁:=T.keep 0 _ _ st fun b _ o e=>k4 b o (k3 b o e)
 have e4:({s₂ with heap:=h₁,toks:=s₂.toks+ ([]:List (Str×Value)).length}:Shared)={s₃ with heap:=h₁,toks:=s₃.toks+ ([]:List (Str×Value)).length}:=by rw[←vU]
 exact codeAny_compStart_list (loop _ e4) (T.self X.A 0 _ _ _ Z1 (loop _ e4))
end
section
variable {X:Cx} {scope:Scope} {ln:List Str} {fv:List (Str×Nat)} {elt tg iter:Expr} {ifs:List Expr} {pos:Pos} {wi:TI} {tk:Option Nat} {tc:Option TT} {te:TE}
theorem Z2{Φ:Cx→Prop}{Ψ:Hp→Prop}(S:jW X scope ln fv)(hc: ∀H,Ψ H→ ∀Xc:Cx,Xc.A=X.A→Xc.calm=X.calm→Xc.H₀=H→Φ Xc)(hΨ: ∀pins σ H s,Inv X pins σ H s→Ψ H)(hi:N9 Φ X tg iter wi)(hg:N_ Ψ X scope ln fv tg tk)(ht:Aj X scope (ln++fv.map (·.1)) ifs tc)
  (he: ∀(ex:List Addr) (C:Addr) (s:Shared) (H:Hp),PE (gC X scope (ln++fv.map (·.1)) ex C s H) elt te) (hs: ∀x,foldedSetIterable iter X.env x=pure x:=by intro _;rfl):
  PE X (.ListComp elt [⟨tg,iter,ifs,0⟩] scope pos) (vQ X.K wi tk fv tc te):=by
 intro pins s σ H Q I h
 rw[eval_ListComp]
 refine wpAny_comprehension_free (use:=none) rfl hs (S.ZJ I) S.kind S.locals (bj (hi pins s σ H _ I h) fun v s1 h1=>bj h1 fun pW s2 h2=> ?_)
 obtain⟨it,fp,tn,J,H2,e,I2,T,zK,f2,hW⟩:=h2
 subst e
 refine ZR (RR:=fun acc C=>compPost (model X.prog X.w) X.A X.xe none (EP X pins σ Q) acc C) S (hc H2 (hΨ _ _ _ _ I2)) (hΨ _ _ _ _ I2) hg ht he I2 T zK f2 hW ?_
 intro D C H' s' m I' ns hn hL h0 Z3 hp q
 refine⟨m,ns,fun h' sb=> ⟨.ref D,H', ?_,rfl,q⟩⟩
 exact I'.turned (it:=C) (t':=s'.toks) (fun b o hb e=>sb.extBut b o hb e) hn hL (.inr h0) Z3 hp
theorem Z4(S:jW X scope ln fv)(hc:X.calm=true)(hi:PI X tg iter wi)(hg:vR X scope ln fv tg tk)(ht:Aj X scope (ln++fv.map (·.1)) ifs tc)
  (he: ∀(ex:List Addr) (C:Addr) (s:Shared) (H:Hp),PE (gC X scope (ln++fv.map (·.1)) ex C s H) elt te) (hs: ∀x,foldedSetIterable iter X.env x=pure x:=by intro _;rfl):
  PE X (.ListComp elt [⟨tg,iter,ifs,0⟩] scope pos) (vQ X.K wi tk fv tc te):=
 Z2 (Φ:=Calm) (Ψ:=fun _=>True) S (fun _ _ Xc _ e _=>e.trans hc) (fun _ _ _ _ _=>trivial) hi.p (fun ex C s H _=>hg ex C s H) ht he hs
end
section
variable {X:Cx} {scope:Scope} {fv:List (Str×Nat)}
theorem Z5{x:Str}{px:Pos}(hl:scope.names.lookup x=some .local)(vX:(x::fv.map (·.1)).Nodup):vR X scope [x] fv (.Name x px) none:=by
 intro ex C s H
 have Z6:Loc (gC X scope ([x]++fv.map (·.1)) ex C s H).env.scope x:= .inl (lookup_relabel_local hl)
 refine⟨fZ 0,vq (X:=gC X scope ([x]++fv.map (·.1)) ex C s H) vX rfl Z6 (.inr (lookup_relabel_local hl)),fun v pre φ H' Q hp h=> ?_⟩
 obtain⟨a,rfl⟩: ∃a,pre=[a]:=by
  match pre,hp with
  | [a],_=>exact⟨a,rfl⟩
 exact h rfl
theorem Z7{x y:Str}{px py pos:Pos}{k:Nat}(hc:X.calm=true)(hx:scope.names.lookup x=some .local)(hy:scope.names.lookup y=some .local)(vX:(x::y::fv.map (·.1)).Nodup):vR X scope [x,y] fv (.Tuple [.Name x px, .Name y py] k pos) (some 2):=by
 intro ex C s H
 generalize eX:gC X scope ([x,y]++fv.map (·.1)) ex C s H=Xc
 have xN:Xc.N=x::y::fv.map (·.1):=by rw[←eX];rfl
 have xc:Xc.calm=true:=by rw[←eX];exact hc
 have lx:Xc.env.scope.names.lookup x=some .local:=by rw[←eX];exact lookup_relabel_local hx
 have ly:Xc.env.scope.names.lookup y=some .local:=by rw[←eX];exact lookup_relabel_local hy
 have p1:PG Xc (.Name x px) (fZ 0):=vq (by rw[xN];exact vX) (by rw[xN];rfl) (.inl lx) (.inr lx)
 have p2:PG Xc (.Name y py) (fZ 1):=vq (by rw[xN];exact vX) (by rw[xN];rfl) (.inl ly) (.inr ly)
 have xK:Xc.K=X.K:=by rw[←eX];rfl
 refine⟨MS Xc.K 2 (vv (fZ 0) (vv (fZ 1) zF)),MT xc (zG p1 (zG p2 MR)),fun v pre φ H' Q hp h=> ?_⟩
 obtain⟨a,b,rfl⟩: ∃a b,pre=[a,b]:=by
  match pre,hp with
  | [a,b],_=>exact⟨a,b,rfl⟩
 obtain⟨a',xs,rfl,e2,e3,q⟩:=h
 obtain⟨v1,v2,rfl⟩: ∃v1 v2,xs=[v1,v2]:=by
  match xs,e3 with
  | [v1,v2],_=>exact⟨v1,v2,rfl⟩
 exact⟨a',_,rfl,by rw[xK];exact e2,rfl,v1,_,rfl,v2,_,rfl,rfl,q rfl⟩
end
section
variable {X:Cx}
theorem bL.imp{f:Value→Value→Sem Value}{r r':R2}(h:bL X f r)(i: ∀x y H Q,r' x y H Q→r x y H Q):bL X f r':=fun pins s σ H x y v u Q I rx ry q=>h pins s σ H x y v u Q I rx ry (i _ _ _ _ q)
theorem cz.imp{f:Value}{r r':List V→Hp→VK→Prop}(h:cz X f r)(i: ∀xs H Q,r' xs H Q→r xs H Q):cz X f r':=fun pins s σ H xs us Q I rv q=>h pins s σ H xs us Q I rv (i _ _ _ q)
def Ot(K:PySem.W.Frag):R2:=fun x y H Q=>match x,y with
 | .int i, .int j=>Q (.int (i+j)) H
 | .str i, .str j=>i.length+j.length≤sizeLine∧Q (.str (i++j)) H
 | .ref l, .ref b=>NR (.ref l) (.ref b) H Q∨ND K (.ref l) (.ref b) H Q
 | _,_=>False
theorem Z8:bL X (binaryOp .Add) (Ot X.K):=by
 refine bL.imp ((XA.or X3).or (Zg.or YJ)) fun x y H Q h=> ?_
 cases x<;>cases y<;>first
  | exact False.elim h
  | exact .inl (.inl ⟨_,_,rfl,rfl,h⟩)
  | exact .inl (.inr ⟨_,_,rfl,rfl,h⟩)
  | exact .inr h
def jl(C:Int→Int→Prop)(g:Int→Int→V):R2:=fun x y H Q=>match x,y with
 | .int i, .int j=>C i j∧Q (g i j) H
 | _,_=>False
theorem Ap{C:Int→Int→Prop}{g:Int→Int→V}(x y:V)(H:Hp)(Q:VK)(h:jl C g x y H Q):rI C g x y H Q:=by
 cases x<;>cases y<;>first
  | exact False.elim h
  | exact⟨_,_,rfl,rfl,h⟩
theorem sx{g:Int→Int→V}(x y:V)(H:Hp)(Q:VK)(h:jl (fun _ _=>True) g x y H Q):jO g x y H Q:=by
 cases x<;>cases y<;>first
  | exact False.elim h
  | exact⟨_,_,rfl,rfl,h.2⟩
def Aq:R2:=fun x y H Q=>match x,y with
 | .int i, .int j=>vB i j∧Q (.int (i*j)) H
 | .ref l, .int k=>NS (.ref l) (.int k) H Q
 | _,_=>False
theorem Z9:bL X (binaryOp .Mult) Aq:=by
 refine bL.imp (XC.or Zh) fun x y H Q h=> ?_
 cases x<;>cases y<;>first
  | exact False.elim h
  | exact .inl ⟨_,_,rfl,rfl,h⟩
  | exact .inr h
def mT(K:PySem.W.Frag):Operator→R2
 | .Add=>Ot K
 | .Sub=>jl (fun _ _=>True) fun i j=> .int (i - j)
 | .Mult=>Aq
 | .FloorDiv=>jl zO fun i j=> .int (i / j)
 | .Mod=>jl (fun _ j=>0<j) fun i j=> .int (i % j)
 | .Pow=>jl M5 fun i j=> .int (i ^ j.toNat)
 | _=>fun _ _ _ _=>False
theorem Z_(op:Operator):bL X (binaryOp op) (mT X.K op):=by
 cases op<;>first
  | exact Z8
  | exact bL.imp XB sx
  | exact Z9
  | exact bL.imp XD Ap
  | exact bL.imp XE Ap
  | exact bL.imp XF Ap
  | exact fun _ _ _ _ _ _ _ _ _ _ _ _ h=>False.elim h
mutual
def Is(H:Hp):PyData→V→Prop
 | .none,v=>v= .az
 | .bool b,v=>v= .bl b
 | .int i,v=>v= .int i
 | .str x,v=>v= .str x
 | .list xs,v=> ∃a vs,v= .ref a∧H a=some (.lst vs)∧IsL H xs vs
 | .tuple xs,v=> ∃a vs,v= .ref a∧H a=some (.tup vs)∧IsL H xs vs
 | .dict _,_=>False
def IsL(H:Hp):List PyData→List V→Prop
 | [],vs=>vs=[]
 | d::ds,vs=> ∃v r,vs=v::r∧Is H d v∧IsL H ds r
end
mutual
theorem Is.reads{pins:List (Addr×Obj)}{σ:St}{H:Hp}{s:Shared}(I:Inv X pins σ H s): ∀(d:PyData) (v:V) (u:Value),Is H d v→RelV v u→ ∃as,Reads s.heap u d as
 | .none,v,u,h,r=>by rw[show v= .az from h] at r;rw[show u= .none from r];exact⟨_, .none⟩
 | .bool b,v,u,h,r=>by rw[show v= .bl b from h] at r;rw[show u= .bool b from r];exact⟨_, .bool b⟩
 | .int i,v,u,h,r=>by rw[show v= .int i from h] at r;obtain⟨t,e⟩:=r;rw[e];exact⟨_, .int i t⟩
 | .str x,v,u,h,r=>by rw[show v= .str x from h] at r;obtain⟨t,e⟩:=r;rw[e];exact⟨_, .str x t⟩
 | .list xs,v,u,h,r=>by
  obtain⟨a,vs,e,hH,hl⟩:=(show ∃a vs,v= .ref a∧H a=some (.lst vs)∧IsL H xs vs by simpa only[Is] using h)
  rw[e] at r
  rw[show u= .ref a from r]
  obtain⟨_,its,n,hv,hg⟩:=I.aN a _ hH
  obtain⟨as,q⟩:=IsL.reads I xs vs its hl hv
  exact⟨_, .list hg rfl rfl (by simpa using q)⟩
 | .tuple xs,v,u,h,r=>by
  obtain⟨a,vs,e,hH,hl⟩:=(show ∃a vs,v= .ref a∧H a=some (.tup vs)∧IsL H xs vs by simpa only[Is] using h)
  rw[e] at r
  rw[show u= .ref a from r]
  obtain⟨_,its,hv,o,hg,hc,n,hd⟩:=I.aN a _ hH
  obtain⟨as,q⟩:=IsL.reads I xs vs its hl hv
  exact⟨_, .tuple hg hc hd (by simpa using q)⟩
 | .dict _,v,u,h,r=>by simp only[Is] at h
theorem IsL.reads{pins:List (Addr×Obj)}{σ:St}{H:Hp}{s:Shared}(I:Inv X pins σ H s): ∀(ds:List PyData) (vs:List V) (us:List Value),IsL H ds vs→Vals vs us→ ∃as,ReadsAll s.heap us ds as
 | [],vs,us,h,r=>by
  rw[show vs=[] from h] at r
  cases r
  exact⟨_, .nil⟩
 | d::ds,vs,us,h,r=>by
  obtain⟨v,q,e,h1,h2⟩:=(show ∃v r,vs=v::r∧Is H d v∧IsL H ds r by simpa only[IsL] using h)
  rw[e] at r
  cases r with
  | cons r1 r2=>
   obtain⟨as,q1⟩:=Is.reads I d v _ h1 r1
   obtain⟨bs,q2⟩:=IsL.reads I ds q _ h2 r2
   exact⟨_, .cons q1 q2⟩
end
def aaa:V→Bool
 | .ky _=>false
 | .eM _=>false
 | _=>true
def aab:R2:=fun x y H Q=> ∃a b xs,x= .ref a∧y= .ref b∧H a=some (.lst xs)∧H b=some (.lst xs)∧xs.all aaa=true∧Q (.bl true) H
def mU(neg:Bool):R2:=fun x y H Q=>match mH x y with
 | true=>Q (.bl (neg ^^ decide (x=y))) H
 | false=> ∃d e,Is H d x∧Is H e y∧SeqAt.shaped d=true∧SeqAt.shaped e=true∧Q (.bl (neg ^^ PyData.eqv d e)) H
def aac:R2:=fun x y H Q=>mU false x y H Q∨aab x y H Q
theorem aad(hu:X.A.units+64<cLine):bL X (compareOp .Eq) (mU false):=by
 intro pins s σ H x y v u Q I rx ry h
 unfold mU at h
 by_cases hs:mH x y=true
 ·rw[hs] at h
  simp only[Bool.false_xor] at h
  exact XM pins s σ H x y v u Q I rx ry ⟨hs,h⟩
 ·rw[show mH x y=false by simpa using hs] at h
  obtain⟨d,e,h1,h2,h3,h4,q⟩:=h
  rw[Bool.false_xor] at q
  obtain⟨as,r1⟩:=Is.reads I d x v h1 rx
  obtain⟨bs,r2⟩:=Is.reads I e y u h2 ry
  exact eq_dataH r1 r2 h3 h4 hu ⟨.bl _,H,I,rfl,q⟩
theorem aae(hu:X.A.units+64<cLine):bL X (compareOp .NotEq) (mU true):=by
 intro pins s σ H x y v u Q I rx ry h
 unfold mU at h
 by_cases hs:mH x y=true
 ·rw[hs] at h
  simp only[Bool.true_xor] at h
  exact XN pins s σ H x y v u Q I rx ry ⟨hs,h⟩
 ·rw[show mH x y=false by simpa using hs] at h
  obtain⟨d,e,h1,h2,h3,h4,q⟩:=h
  rw[Bool.true_xor] at q
  obtain⟨as,r1⟩:=Is.reads I d x v h1 rx
  obtain⟨bs,r2⟩:=Is.reads I e y u h2 ry
  exact ne_dataH r1 r2 h3 h4 hu ⟨.bl _,H,I,rfl,q⟩
theorem aaf(l:Addr)(o:Obj)(es:Array DictEntry)(ep:Nat)(hc:o.cls= .type "dict")(hd:o.data= .dict es ep)(b:Str)(u:Tok):
  Meets (Builtin.«dict.__eq__» ⟨[.ref l, .str b u],[]⟩) (fun _ R s=>s.heap.get? l=some o∧R (.ok (.ret .notImplemented)) s):=
 .of_wp fun prog w A R s h=>by obtain⟨hp,g,d,tk,os⟩:=s;obtain⟨hl,h⟩:=h;obtain⟨cls,dd,data,sl⟩:=o;simp only at hc hd;subst hc hd;have f1:=F.sub_str_dict;wp_walk using AutoSeq1.wpAny_loadPart' hl;exact⟨_,rfl,h⟩
theorem aag(b:Str)(u:Tok)(l:Addr)(o:Obj)(es:Array DictEntry)(ep:Nat)(hc:o.cls= .type "dict")(hd:o.data= .dict es ep):
  Meets (Builtin.«str.__eq__» ⟨[.str b u, .ref l],[]⟩) (fun _ R s=>s.heap.get? l=some o∧R (.ok (.ret .notImplemented)) s):=
 .of_wp fun prog w A R s h=>by obtain⟨hp,g,d,tk,os⟩:=s;obtain⟨hl,h⟩:=h;obtain⟨cls,dd,data,sl⟩:=o;simp only at hc hd;subst hc hd;wp_walk using AutoSeq1.wpAny_loadPart' hl,wpAny_load hl;exact⟨_,rfl,h⟩
theorem aah{A:Around}{s:Shared}{l:Addr}{o:Obj}{es:Array DictEntry}{ep:Nat}(b:Str)(u:Tok)(ho:s.heap.get? l=some o)(hc:o.cls= .type "dict")(hd:o.data= .dict es ep)(hu:A.units<cLine):SeqAt.EqAt A s (.str b u) (.ref l) false:=fun prog w E Q h=>by
 have rc:SeqAt.RcAt A s (.str b u) (.ref l) false:=fun prog w E Q h=>
  SeqAt.rc_eq_decline_or (k:=false) (typeIs_str s b u) ⟨_,ho,hc⟩ (by decide) F.sub_dict_str F.slot_str_eq F.slot_dict_eq_refl
   (fun _ hq=>call_meets F.slot_str_eq (typeIs_str s b u) F.entry_str_eq (F.args_str_eq_2 _ _) (aag b u l o es ep hc hd) ⟨ho,hq⟩)
   (fun _ hq=>call_meets F.slot_dict_eq_refl ⟨_,ho,hc⟩ F.entry_dict_eq (F.args_dict_eq_2 _ _) (aaf l o es ep hc hd b u) ⟨ho,hq⟩)
   (fun _ hq=>wpAny_of_eq (rfl:isSame (.str b u) (.ref l)=pure false) hq) (.inr hu) h
 unfold eqBool
 refine wpAny_holding ?_
 refine wpAny_ite_split (fun Ar=>absurd (eq_of_beq Ar) nofun) (fun _=> ?_)
 exact wpAny_bind (rc prog w E _ (wpAny_truthy_bool h))
def Ou(K:PySem.W.Frag)(H:Hp)(a:Addr):Prop:=(∃xs,aP K H a xs)∨(∃xs,bq K H a xs)∨ ∃aX,H a=some (.dK aX)
theorem sy{pins:List (Addr×Obj)}{σ:St}{H:Hp}{s:Shared}{a:Addr}(I:Inv X pins σ H s)(hc:Ou X.K H a)(hu:X.A.units+64<cLine): ∀{ts:List Str} {us:List Value},Vals (ts.map V.str) us→ ∀u∈us,SeqAt.EqAt X.A.in1 s u (.ref a) false
 | [],_, .nil=>fun u hu=>by cases hu
 | t::ts,u::us, .cons r rs=>fun u' sA=>by
  rcases List.mem_cons.mp sA with rfl | sA
  ·obtain⟨k,rfl⟩:=(show ∃k,_=Value.str t k from r)
   have As:X.A.in1.units<cLine:=by show X.A.units+1<cLine;omega
   rcases hc with⟨xs,hc⟩ | ⟨xs,hc⟩ | ⟨aX,hc⟩
   ·obtain⟨its,_,pl,_⟩:=I.list hc
    exact SeqAt.EqAt.str_list t k pl.isList As
   ·obtain⟨its,_,pl,_⟩:=I.tuple hc
    exact SeqAt.EqAt.str_tuple t k pl As
   ·obtain⟨_,_,vs,_,o,es,ep,ho,hx,hd,_⟩:=(show cM X.prog X.w H s.heap a (.dK aX) from I.aN a _ hc)
    exact aah t k ho hx.1 hd As
  ·exact sy I hc hu rs u' sA
def vY(K:PySem.W.Frag)(neg:Bool):R2:=fun x y H Q=>match y with
 | .str j=> ∃i,x= .str i∧Q (.bl (if neg then !(!(Builtin.Str.occurrences j i 0 j.length 1).isEmpty) else !(Builtin.Str.occurrences j i 0 j.length 1).isEmpty)) H
 | .ref p=>match x with
  | .ref a=> ∃ts:List Str,(aP K H p (ts.map V.str)∨bq K H p (ts.map V.str))∧Ou K H a∧Q (.bl neg) H
  | x=>z_ K neg x (.ref p) H Q
 | _=>False
theorem aai(hu:X.A.units+64<cLine):bL X (compareOp .In) (vY X.K false):=by
 intro pins s σ H x y v u Q I rx ry h
 cases y with
 | str j=>
  obtain⟨i,e,q⟩:=h
  exact XT pins s σ H x _ v u Q I rx ry ⟨i,j,e,rfl,q⟩
 | ref p=>
  cases x with
  | ref a=>
   obtain⟨ts,hq,hc,q⟩:=h
   cases rx
   cases ry
   rcases hq with hq | hq
   ·obtain⟨its,r,pl,hz⟩:=I.list hq
    refine SeqAt.in_listAt (fun _=>false) pl.isList (fun w hw=>sy I hc hu r w (by simpa using hw)) ⟨.bl _,H,I,rfl, ?_⟩
    rw[show(its.toArray.any fun _=>false)=false by simp];exact q
   ·obtain⟨its,r,pl,hz⟩:=I.tuple hq
    refine SeqAt.in_tupleAt (fun _=>false) pl (fun w hw=>sy I hc hu r w (by simpa using hw)) ⟨.bl _,H,I,rfl, ?_⟩
    rw[show(its.toArray.any fun _=>false)=false by simp];exact q
  | _=>exact YV pins s σ H _ _ v u Q I rx ry h
 | _=>exact False.elim h
theorem aaj(hu:X.A.units+64<cLine):bL X (compareOp .NotIn) (vY X.K true):=by
 intro pins s σ H x y v u Q I rx ry h
 cases y with
 | str j=>
  obtain⟨i,e,q⟩:=h
  exact XX pins s σ H x _ v u Q I rx ry ⟨i,j,e,rfl,q⟩
 | ref p=>
  cases x with
  | ref a=>
   obtain⟨ts,hq,hc,q⟩:=h
   cases rx
   cases ry
   rcases hq with hq | hq
   ·obtain⟨its,r,pl,hz⟩:=I.list hq
    refine SeqAt.notIn_listAt (fun _=>false) pl.isList (fun w hw=>sy I hc hu r w (by simpa using hw)) ⟨.bl _,H,I,rfl, ?_⟩
    rw[show(its.toArray.any fun _=>false)=false by simp];exact q
   ·obtain⟨its,r,pl,hz⟩:=I.tuple hq
    refine SeqAt.notIn_tupleAt (fun _=>false) pl (fun w hw=>sy I hc hu r w (by simpa using hw)) ⟨.bl _,H,I,rfl, ?_⟩
    rw[show(its.toArray.any fun _=>false)=false by simp];exact q
  | _=>exact YW pins s σ H _ _ v u Q I rx ry h
 | _=>exact False.elim h
theorem aak{M:Model}{A:Around}{E:Value→Shared→Prop}{s:Shared}{Q:Value→Shared→Prop}{v:Value}{d:Bool}(hv: ∀id,v≠ .builtin id)(h:Q (.bool (v== .bool d)) s):wpAny M A (compareOp .Is v (.bool d)) Q E s:=by
 cases v<;>first | exact wpAny_pure h | exact absurd rfl (hv _)
theorem aal{M:Model}{A:Around}{E:Value→Shared→Prop}{s:Shared}{Q:Value→Shared→Prop}{v:Value}{d:Bool}(hv: ∀id,v≠ .builtin id)(h:Q (.bool (!(v== .bool d))) s):wpAny M A (compareOp .IsNot v (.bool d)) Q E s:=by
 cases v<;>first | exact wpAny_pure h | exact absurd rfl (hv _)
def Ov:R2:=fun x y H Q=>match y with
 | .bl b=>Q (.bl (decide (x= .bl b))) H
 | _=>y= .az∧Q (.bl (decide (x= .az))) H
def Ow:R2:=fun x y H Q=>match y with
 | .bl b=>Q (.bl (!decide (x= .bl b))) H
 | _=>y= .az∧Q (.bl (!decide (x= .az))) H
theorem aam:bL X (compareOp .Is) Ov:=by
 intro pins s σ H x y v u Q I rx ry h
 cases y with
 | bl b=>
  cases ry
  have nb: ∀id,v≠ .builtin id:=fun id z=>by
   subst z
   cases x<;>first
    | (obtain⟨t,e⟩:=rx;cases e;done)
    | (cases rx;done)
  refine aak nb (cv I (show Q (.bl (decide (x= .bl b))) H from h) ?_)
  cases x<;>first
   | (cases rx;rfl)
   | (obtain⟨t,rfl⟩:=rx;rfl)
   | (cases rx;rename_i a;cases a<;>cases b<;>rfl)
 | _=>exact XU pins s σ H x _ v u Q I rx ry h
theorem aan:bL X (compareOp .IsNot) Ow:=by
 intro pins s σ H x y v u Q I rx ry h
 cases y with
 | bl b=>
  cases ry
  have nb: ∀id,v≠ .builtin id:=fun id z=>by
   subst z
   cases x<;>first
    | (obtain⟨t,e⟩:=rx;cases e;done)
    | (cases rx;done)
  refine aal nb (cv I (show Q (.bl (!decide (x= .bl b))) H from h) ?_)
  cases x<;>first
   | (cases rx;rfl)
   | (obtain⟨t,rfl⟩:=rx;rfl)
   | (cases rx;rename_i a;cases a<;>cases b<;>rfl)
 | _=>exact XW pins s σ H x _ v u Q I rx ry h
def cC(K:PySem.W.Frag):CmpOp→R2
 | .Eq=>mU false
 | .NotEq=>mU true
 | .Lt=>jl (fun _ _=>True) fun i j=> .bl (decide (i<j))
 | .LtE=>jl (fun _ _=>True) fun i j=> .bl (decide (i≤j))
 | .Gt=>jl (fun _ _=>True) fun i j=> .bl (decide (j<i))
 | .GtE=>jl (fun _ _=>True) fun i j=> .bl (decide (j≤i))
 | .In=>vY K false
 | .NotIn=>vY K true
 | .Is=>Ov
 | .IsNot=>Ow
theorem vZ(hu:X.A.units+64<cLine)(op:CmpOp):bL X (compareOp op) (cC X.K op):=by
 cases op with
 | Eq=>exact aad hu
 | NotEq=>exact aae hu
 | Lt=>exact bL.imp XO sx
 | LtE=>exact bL.imp XQ sx
 | Gt=>exact bL.imp XR sx
 | GtE=>exact bL.imp XS sx
 | In=>exact aai hu
 | NotIn=>exact aaj hu
 | Is=>exact aam
 | IsNot=>exact aan
inductive Ty where | int | str | bool | list | tuple | dict
 deriving DecidableEq
def Ty.nm:Ty→String
 | .int=> "int" | .str=> "str" | .bool=> "bool" | .list=> "list" | .tuple=> "tuple" | .dict=> "dict"
def b_(T:Ty)(x:V)(H:Hp)(Q:Bool→Prop):Prop:=match x with
 | .az=>Q false
 | .bl _=>Q (T== .bool || T== .int)
 | .int _=>Q (T== .int)
 | .str _=>Q (T== .str)
 | .ref a=>match H a with
  | some (.lst _)=>Q (T== .list)
  | some (.bV _ (.lst _))=>Q (T== .list)
  | some (.tup _)=>Q (T== .tuple)
  | some (.dK _)=>Q (T== .dict)
  | some (.dT _)=>Q (T== .dict)
  | _=>False
 | _=>False
theorem kR(K:PySem.W.Frag)(S T:Ty):kitOne K (.type S.nm) (.type T.nm)=some (S==T || (S== .bool && T== .int)):=by
 cases S<;>cases T<;>rfl
theorem aao(K:PySem.W.Frag)(T:Ty):kitOne K (.type "NoneType") (.type T.nm)=some false:=by
 cases T<;>rfl
theorem aap(hc:X.calm=true):cz X (.builtin "sum") (fun xs H Q=> ∃(p:Addr) (ns:List Int),xs=[.ref p]∧aP X.K H p (ns.map V.int)∧Q (.int ns.sum) H):=by
 intro pins s σ H xs us Q I r h
 obtain⟨p,ns,rfl,hq,q⟩:=h
 obtain⟨u,rfl,ru⟩:=vals1 r
 cases ru
 obtain⟨its,rv,pl,hz⟩:=I.list hq
 have hi:=intsAre_of rv
 obtain⟨xs,hx⟩:=hi.allInts.items
 have Ox:s.heap.IsList p (intItems xs):=hx ▸ pl.isList
 refine sum_intListG (I.ok.hd hc) Ox fun h' tk t' hk=> ?_
 have e1:ns=xs.toList.map (·.1):=by
  rw[←nums_intItems,←hx]
  exact(show numsOf its.toArray.toList=ns from hi.numsOf).symm
 have e2:preSum (numAt xs) xs.size=ns.sum:=by
  rw[preSum_eq,List.take_of_length_le (by simp),e1]
 rw[e2]
 exact⟨.int ns.sum,H,I.kept (t':=tk) hk,⟨t',rfl⟩,q⟩
theorem Oy: ∀{ts:List Str} {us:List Value},Vals (ts.map V.str) us→ ∃l:List (Str×Tok),us=strValues l∧l.map (·.1)=ts
 | [],_, .nil=> ⟨[],rfl,rfl⟩
 | x::ts,_, .cons ⟨t,e⟩ r=>by
  obtain⟨l,e1,e2⟩:=Oy r
  subst e e1
  exact⟨(x,t)::l,rfl,by simp[e2]⟩
def rJoin(K:PySem.W.Frag):V→List V→Hp→VK→Prop:=fun x vs H Q=> ∃(sep:Str) (p:Addr) (ts:List Str),x= .str sep∧vs=[.ref p]∧aP K H p (ts.map V.str)∧JoinOk sep ts=true∧Q (.str (Txt.join sep ts)) H
theorem aaq:jU X "str.join" (rJoin X.K):=by
 intro pins s σ H x vs v us Q I rx rv h
 obtain⟨sep,p,ts,rfl,rfl,hq,hj,q⟩:=h
 obtain⟨t,rfl⟩:=rx
 obtain⟨u,rfl,ru⟩:=vals1 rv
 cases ru
 obtain⟨its,rv,pl,hz⟩:=I.list hq
 obtain⟨l,rfl,e2⟩:=Oy rv
 exact SC.join pl.isList e2 hj fun t' k=> ⟨.str _,H,I.tok k,⟨t',rfl⟩,q⟩
def aar:V→List V→Hp→VK→Prop:=fun x vs H Q=> ∃z y,x= .str z∧vs=[.str y]∧z.length≤sizeLine∧Q (.str (Txt.lstripChars z y)) H
theorem aas:jU X "str.lstrip" aar:=by
 intro pins s σ H x vs v us Q I rx rv h
 obtain⟨z,y,rfl,rfl,hz,q⟩:=h
 obtain⟨t,rfl⟩:=rx
 obtain⟨u,rfl,⟨t2,rfl⟩⟩:=vals1 rv
 refine call_gives F.slot_str_lstrip (typeIs_str _ _ _) F.entry_str_lstrip (F.args_str_lstrip_2 _ _) (gives_str_lstrip_chars z y t t2) (post_val_or_made (fun _=>fits_stripped _ _ _ hz) fun t' k=> ?_)
 exact⟨.str _,H,I.tok k,⟨t',rfl⟩,q⟩
def aat:V→List V→Hp→VK→Prop:=fun x vs H Q=> ∃z y i,x= .str z∧vs=[.str y, .int i]∧Q (.bl (decide (fromIndex z.length i+y.length≤z.length) && Builtin.Str.subAt z y (fromIndex z.length i))) H
theorem aau:jU X "str.startswith" aat:=by
 intro pins s σ H x vs v us Q I rx rv h
 obtain⟨z,y,i,rfl,rfl,q⟩:=h
 obtain⟨t,rfl⟩:=rx
 obtain⟨u,w,rfl,⟨t2,rfl⟩,⟨t3,rfl⟩⟩:=vals2 rv
 exact call_gives F.slot_str_startswith (typeIs_str _ _ _) F.entry_str_startswith (F.args_str_startswith_3 _ _ _) (gives_str_startswith_from z y i t t2 t3) ⟨.bl _,H,I,rfl,q⟩
def iI{α:Type}(xs:List α)(lo hi:Option Int):List α:=(xs.drop (HT.bx xs.length 0 lo)).take (HT.bx xs.length xs.length hi - HT.bx xs.length 0 lo)
def fB(z:Str)(lo hi:Option Int):Str:=⟨(iI z.cps.toList lo hi).toArray⟩
theorem aav(z:Str)(lo hi:Option Int):((Builtin.Str.strSliceIndices lo hi 1 z.length).filterMap (z.cps[·]?))=iI z.cps.toList lo hi:=by
 obtain⟨h1,h2,h3⟩:=z8 lo hi z.length
 have e0:Builtin.Str.strSliceIndices lo hi 1 z.length=sliceRange (sliceBounds lo hi none z.length).1 (sliceBounds lo hi none z.length).2.1 (sliceBounds lo hi none z.length).2.2:=rfl
 have hz:z.cps.toList.length=z.length:=by simp[Str.length]
 rw[e0,h1,h2,h3,sliceRange_one,pick_run]
 unfold iI
 rw[hz]
end
section
variable {X:Cx}
def v7(K:PySem.W.Frag)(neg:Bool):R2:=fun x y H Q=> ∃p xs d es,y= .ref p∧aP K H p xs∧Is H d x∧IsL H es xs∧SeqAt.shaped d=true∧d.depth≤60∧(∀e∈es,SeqAt.shaped e=true)∧Q (.bl (neg ^^ es.any fun e=>PyData.eqv e d)) H
open Classical in
end
def iJ:HO:= .ext fun _=>True
structure Au (ob:Obj) (cls:Value) (vs:Array Value):Prop where
 cls:ob.cls=cls
 data:ob.data= .fields vs
 ayK:vs[2]?=some .none
 dict:ob.dict=none
def ExcAt(H:Hp)(ea D:Addr):Prop:= ∃ob vs,H ea=some (.bV ob iJ)∧Au ob (.ref D) vs
structure sD (K:PySem.W.Frag) (D:Addr):Prop where
 sE:PySem.W.findIn K (.ref D) "__getattribute__"=some (some (.builtin "BaseException.__getattribute__"))
 sG:PySem.W.findIn K (.ref D) "__getattr__"=some none
 hk:(PySem.W.clsIn K D).isSome=true
 ha:PySem.W.findIn K (.ref D) "__class__"=some (some (.builtin "object.__class__"))
 hn:PySem.W.specialIn K (.builtin "object.__class__") "__get__"=some (some (.builtin "getset_descriptor.__get__"))
 jf:PySem.W.takesIn K (.builtin "object.__class__")=some true
 hm:PySem.W.mroIn K D (.type "object")=some true
 hb:PySem.W.mroIn K D (.type "BaseException")=some true
def cV:V→Value
 | .ref a=> .ref a
 | .ty n=> .type n
 | _=> .none
def jm(K:PySem.W.Frag):List V→Hp→VK→Prop
 | [.ref ea,c],H,Q=> ∃D b,ExcAt H ea D∧sD K D∧((∃C,c= .ref C)∨ ∃n,c= .ty n)∧kitOne K (.ref D) (cV c)=some b∧Q (.bl b) H
 | _,_,_=>False
def Oz(sp:Sp)(hv:Option Addr)(t:TA):TE:=fun σ H Q=>t σ H fun vs H1=> (∃ea D,hv=some ea∧ExcAt H1 ea D)∧sp vs H1 Q E0
def Av(C:Addr)(E:XK)(t:TA):TS:=fun _ σ H=>t σ H fun vs H1=>vs.length≤sizeLine∧E (.ref C) none H1
def sH(K:PySem.W.Frag)(C:Addr)(i n:Nat)(th:Addr→TS)(D:Ends):XK:=fun cls _ H'=>exmOne K cls (.ref C)=some true∧
 ∀(ea:Addr) (ob:Obj) (vs:Array Value) (σ':St),H' ea=none→σ'.length=n→Au ob cls vs→th ea {nx:=fun _ _=>False,rt:=D.rt} (σ'.set i (some (.ref ea))) (upd H' ea (.bV ob iJ))
def v8(K:PySem.W.Frag)(C:Addr)(i n:Nat)(tb:XK→TS)(th:Addr→TS):TS:=fun D σ H=>tb (sH K C i n th D) {nx:=D.nx,rt:=D.rt} σ H
inductive jX where | len | min | max | sum | int | list | tuple | abs
 deriving DecidableEq
inductive iK where | append | pop | extend | join | lstrip | starts | reverse | clear | index | find | count | v9 | v_
 deriving DecidableEq
inductive IK where | list | tup | gu | aaw | zip | Aw | txt | aax
 deriving DecidableEq
inductive RE where
 | v (i:Nat) | c (x:V) | g (j:Nat)
 | bin (op:Operator) (a b:RE) | neg (a:RE)
 | cmp (op:CmpOp) (a b:RE) | jn (op dU:CmpOp) (a b d:RE) | OA (op dU OB:CmpOp) (a b d f:RE)
 | and (as:List RE) | or (as:List RE) | not (a:RE) | jY (t a b:RE)
 | call (j:Nat) (as:List RE) | blt (b:jX) (as:List RE) | dF (T:Ty) (a:RE)
 | cx (m:iK) (o:RE) (as:List RE)
 | ix (a b:RE) | sl (a:RE) (lo hi:Option RE)
 | tup (as:List RE) | lst (as:List RE)
 | comp (tk:Option Nat) (fv:List (Str×Nat)) (k:IK) (its:List RE) (cond:Option RE) (elt:RE)
 | de (a c:RE) | kS (j:Nat) (a:RE) | qc | same (a b:RE)
 | aay | aaz (a b:RE) | OC (a b:RE) | OD (a b:RE) | aaA (o a b:RE) | inD (a b:RE) | OE (a b:RE)
 | xt (T:PySem.W.Frag→TA→TE) (as:List RE) | xm (T:PySem.W.Frag→TE→TA→TE) (o:RE) (as:List RE)
 | fld (o:RE) (f:Str) | cm (j:Nat) (m:Str) (o:RE) (as:List RE) | make (j:Nat) (as:List RE)
inductive RS where
 | asg (i:Nat) (e:RE) | aaB (i:Nat) (e:RE) | set (o ix e:RE)
 | drop (e:RE) | ret (e:RE) | aaC
 | ite (c:RE) (t e:List RS)
 | jo (i:Nat) (k:IK) (its:List RE) (body:List RS)
 | qd (is:List Nat) (k:IK) (its:List RE) (body:List RS)
 | kU (c:RE) (body:List RS)
 | pass | brk | cont | never
 | aaD (o lo hi e:RE) | jq (o:RE) (f:Str) (e:RE)
 | aaE (is:List Nat) (e:RE) | dput (o i e:RE) | gE (j:Nat) (as:List RE) | sI (n i j:Nat) (body su:List RS)
structure aC where
 K:PySem.W.Frag
 fs:Nat→Sp
 gv:Nat→V
 E:XK
 sd:Addr→List (Key×V)→Prop
 ms:Nat→Addr×Sp
 kt:Nat→Addr×Sp
 ex:Nat→Addr
 hs:Nat→Sp
 hv:Option Addr
abbrev aC.calm(Γ:aC):aC:={Γ with E:=E0}
def iL(K:PySem.W.Frag)(x:V)(H:Hp)(Q:Bool→Prop):Prop:=match x with
 | .az=>Q false
 | .bl b=>Q b
 | .int i=>Q (i !=0)
 | .str y=>y.length≤sizeLine∧Q ((y.length:Int) !=0)
 | .ref p=> (∃xs,aP K H p xs∧Q (!xs.isEmpty))∨(∃xs,bq K H p xs∧Q (!xs.isEmpty))∨ ∃aX,H p=some (.dK aX)∧Q (!aX.isEmpty)
 | _=>False
theorem OF{K:PySem.W.Frag}{x:V}{H:Hp}{Q:Bool→Prop}(h:iL K x H Q): ∃k,M9 K x H k∧Q k:=by
 cases x with
 | az=>exact⟨_,rfl,h⟩
 | bl b=>exact⟨_,rfl,h⟩
 | int i=>exact⟨_,rfl,h⟩
 | str y=>exact⟨_,⟨h.1,rfl⟩,h.2⟩
 | ref p=>
  rcases h with⟨xs,h1,h2⟩ | ⟨xs,h1,h2⟩ | ⟨xs,h1,h2⟩
  ·exact⟨_, .inl ⟨xs,h1,rfl⟩,h2⟩
  ·exact⟨_, .inr (.inl ⟨xs,h1,rfl⟩),h2⟩
  ·exact⟨_, .inr (.inr ⟨xs,h1,rfl⟩),h2⟩
 | _=>exact False.elim h
def eF(K:PySem.W.Frag)(t:TE):TT:=fun σ H Q=>t σ H fun x H1=>iL K x H1 fun b=>Q b H1
def Ax(K:PySem.W.Frag)(t:TE):TE:=fun σ H Q=>t σ H fun x H1=>iL K x H1 fun b=>Q (.bl (!b)) H1
def OG:V→Hp→VK→Prop:=fun x H Q=>match x with | .int i=>Q (.int (-i)) H | _=>False
def sq(K:PySem.W.Frag)(x:V)(H:Hp)(Q:Nat→Prop):Prop:=match x with
 | .str y=>y.length≤sizeLine∧Q y.length
 | .ref p=> (∃xs,aP K H p xs∧Q xs.length)∨ ∃xs,bq K H p xs∧Q xs.length
 | _=>False
def signs(x:Str):List V:=x.cps.toList.map fun c=>V.str ⟨#[c]⟩
def OH:TE:=fun _ H Q=> ∀p,H p=none→Q (.ref p) (upd H p (.dK []))
def mV(K:PySem.W.Frag):jX→List V→Hp→VK→Prop
 | .len,[x],H,Q=>sq K x H fun n=>Q (.int n) H
 | .min,[.int i, .int j],H,Q=>Q (.int (if j<i then j else i)) H
 | .max,[.int i, .int j],H,Q=>Q (.int (if j>i then j else i)) H
 | .min,[.ref p],H,Q=> ∃ns:List Int,aP K H p (ns.map V.int)∧ns≠ []∧ ∀m:Int,m∈ns→(∀n∈ns,m≤n)→Q (.int m) H
 | .max,[.ref p],H,Q=> ∃ns:List Int,aP K H p (ns.map V.int)∧ns≠ []∧ ∀m:Int,m∈ns→(∀n∈ns,n≤m)→Q (.int m) H
 | .sum,[.ref p],H,Q=> ∃ns:List Int,aP K H p (ns.map V.int)∧Q (.int ns.sum) H
 | .int,[.int i],H,Q=>Q (.int i) H
 | .int,[.bl k],H,Q=>Q (.int (if k then 1 else 0)) H
 | .list,[.ref p],H,Q=> ∃ys,(aP K H p ys∨bq K H p ys)∧ ∀l,H l=none→Q (.ref l) (upd H l (.lst ys))
 | .list,[.str x],H,Q=>x.length≤sizeLine∧ ∀l,H l=none→Q (.ref l) (upd H l (.lst (signs x)))
 | .tuple,[.str x],H,Q=>x.length≤sizeLine∧ ∀l,H l=none→Q (.ref l) (upd H l (.tup (signs x)))
 | .abs,[.int i],H,Q=>Q (.int (if i<0 then -i else i)) H
 | .tuple,[.ref p],H,Q=> ∃ys,(aP K H p ys∧ ∀l,H l=none→Q (.ref l) (upd H l (.tup ys)))∨(bq K H p ys∧Q (.ref p) H)
 | _,_,_,_=>False
def kW(T:Ty):List V→Hp→VK→Prop
 | [x, .ty n],H,Q=>n=T.nm∧b_ T x H fun b=>Q (.bl b) H
 | _,_,_=>False
def sJ(K:PySem.W.Frag):iK→V→List V→Hp→VK→Prop
 | .append, .ref l,[y],H,Q=> ∃xs,H l=some (.lst xs)∧xs.length<sizeLine∧Q .az (upd H l (.lst (xs++ [y])))
 | .pop, .ref l,[],H,Q=> ∃xs y,H l=some (.lst xs)∧xs[xs.length - 1]?=some y∧Q y (upd H l (.lst xs.dropLast))
 | .extend, .ref l,[.ref b],H,Q=> ∃xs zs,H l=some (.lst xs)∧H b=some (.lst zs)∧xs.length+zs.length≤sizeLine∧Q .az (upd H l (.lst (xs++zs)))
 | .join, .str sep,[.ref p],H,Q=> ∃ts:List Str,aP K H p (ts.map V.str)∧JoinOk sep ts=true∧Q (.str (Txt.join sep ts)) H
 | .lstrip, .str z,[.str y],H,Q=>z.length≤sizeLine∧Q (.str (Txt.lstripChars z y)) H
 | .starts, .str z,[.str y, .int i],H,Q=>Q (.bl (decide (fromIndex z.length i+y.length≤z.length) && Builtin.Str.subAt z y (fromIndex z.length i))) H
 | .find, .str z,[.str y],H,Q=>Q (.int (match Builtin.Str.occurrences z y 0 z.length 1 with | i::_=> (i:Int) | []=> -1)) H
 | .find, .str z,[.str y, .int i],H,Q=>Q (.int (match Builtin.Str.occurrences z y (fromIndex z.length i) z.length 1 with | k::_=> (k:Int) | []=> -1)) H
 | .count, .str z,[.str y],H,Q=>Q (.int (Builtin.Str.occurrences z y 0 z.length (z.length+1)).length) H
 | .reverse, .ref l,[],H,Q=> ∃xs,H l=some (.lst xs)∧Q .az (upd H l (.lst xs.reverse))
 | .index, .ref l,[.str y],H,Q=> ∃ts:List Str,aP K H l (ts.map V.str)∧y∈ts∧Q (.int (ts.idxOf y:Nat)) H
 | .clear, .ref l,[],H,Q=> ∃xs,H l=some (.lst xs)∧Q .az (upd H l (.lst []))
 | .v9, .ref l,[y],H,Q=> ∃xs,aP K H l xs∧dX y=true∧xs.all dX=true∧Q (.int (xs.countP (fun z=>dY z y):Nat)) H
 | .v_, .ref l,[y],H,Q=> ∃xs,aP K H l xs∧dX y=true∧xs.all dX=true∧eB y xs=true∧Q (.int (xs.findIdx (fun z=>dY z y):Nat)) H
 | _,_,_,_,_=>False
def wa:iK→String
 | .join | .lstrip | .starts | .find | .count=> "str"
 | _=> "list"
def wb(K:PySem.W.Frag)(m:iK)(to:TE)(t:TA):TE:=fun σ H Q=>to σ H fun x H1=>sf K (wa m) x H1∧t σ H1 fun xs H2=>sJ K m x xs H2 Q
def sL(K:PySem.W.Frag):V→Option Int→Option Int→Hp→VK→Prop:=fun x lo hi H Q=>match x with
 | .str z=>z.length≤sizeLine∧Q (.str (fB z lo hi)) H
 | .ref a=> (∃xs,aP K H a xs∧ ∀p,H p=none→Q (.ref p) (upd H p (.lst (gc xs lo hi))))∨
  (∃xs,bq K H a xs∧ ¬(HT.bx xs.length 0 lo=0∧HT.bx xs.length xs.length hi=xs.length)∧ ∀p,H p=none→Q (.ref p) (upd H p (.tup (gc xs lo hi))))
 | _=>False
def mW(aX:List (Key×V))(k:Key):Option V:=(aX.find? fun kv=>decide (kv.1=k)).map (·.2)
def OI(sd:Addr→List (Key×V)→Prop):R2:=fun x y H Q=> ∃p aX k v,x= .ref p∧y=kV k∧sd p aX∧mW aX k=some v∧Q v H
def kY(K:PySem.W.Frag)(sd:Addr→List (Key×V)→Prop):R2:=fun x y H Q=>NK K x y H Q∨NL K x y H Q∨NM x y H Q∨OI sd x y H Q
def aaF(r r' r2:R2)(ta tb tc td:TE):TT:=fun σ H Q=>ta σ H fun x H1=>tb σ H1 fun y H2=>r x y H2 fun z H3=> ∃k,z= .bl k∧
 (if k=true then tc σ H3 fun w H4=>r' y w H4 fun z2 H5=> ∃k2,z2= .bl k2∧(if k2=true then td σ H5 fun u H6=>r2 w u H6 fun z3 H7=> ∃k3,z3= .bl k3∧Q k3 H7 else Q false H5) else Q false H3)
def Itz(K:PySem.W.Frag)(a b:Addr):It:=
  ⟨fun i H=> ∃xs ys,aP K H a xs∧aP K H b ys∧i<xs.length∧i<ys.length,
   fun i H x H'=> ∃T,H T=none∧x= .ref T∧ ∀xs ys u v,aP K H a xs→aP K H b ys→xs[i]?=some u→ys[i]?=some v→H'=upd H T (.tup [u,v]),
   fun i H=> ∃xs ys,aP K H a xs∧aP K H b ys∧i=min xs.length ys.length⟩
def sM(K:PySem.W.Frag)(a:Addr):It:=
  ⟨fun i H=> ∃xs,aP K H a xs∧i<xs.length,
   fun i H x H'=> ∃T,H T=none∧x= .ref T∧ ∀xs u,aP K H a xs→xs[i]?=some u→H'=upd H T (.tup [.int (i:Nat),u]),
   fun i H=> ∃xs,aP K H a xs∧i=xs.length⟩
def Ay(K:PySem.W.Frag)(ta:TA):TI:=fun σ H R=>ta σ H fun vs H1=> ∃a,vs=[.ref a]∧(∃xs,aP K H1 a xs)∧R (sM K a) H1
def aaH(K:PySem.W.Frag)(ta:TA):TI:=fun σ H R=>ta σ H fun vs H1=> ∃a b,vs=[.ref a, .ref b]∧(∃xs,aP K H1 a xs)∧(∃ys,aP K H1 b ys)∧R (Itz K a b) H1
def aaI(K:PySem.W.Frag)(a b:Addr):It:=
  ⟨fun i H=> ∃xs ys,bq K H a xs∧bq K H b ys∧i<xs.length∧i<ys.length,
   fun i H x H'=> ∃T,H T=none∧x= .ref T∧ ∀xs ys u v,bq K H a xs→bq K H b ys→xs[i]?=some u→ys[i]?=some v→H'=upd H T (.tup [u,v]),
   fun i H=> ∃xs ys,bq K H a xs∧bq K H b ys∧i=min xs.length ys.length⟩
def aaJ(K:PySem.W.Frag)(ta:TA):TI:=fun σ H R=>ta σ H fun vs H1=> ∃a b,vs=[.ref a, .ref b]∧(∃xs,bq K H1 a xs)∧(∃ys,bq K H1 b ys)∧R (aaI K a b) H1
def Its(z:Str):It:=⟨fun i _=>i<z.length,fun i H x H'=>H'=H∧ ∃c,z.cps[i]?=some c∧x= .str ⟨#[c]⟩,fun i _=>i=z.length⟩
def aaL(ta:TE):TI:=fun σ H R=>ta σ H fun x H1=> ∃z,x= .str z∧R (Its z) H1
mutual
def ak(Γ:aC):RE→TE
 | .v i=>zC i
 | .c x=>tC x
 | .g j=>tC (Γ.gv j)
 | .bin op a b=>d9 (mT Γ.K op) (ak Γ a) (ak Γ b)
 | .neg a=>M3 OG (ak Γ a)
 | .cmp op a b=>d9 (cC Γ.K op) (ak Γ a) (ak Γ b)
 | .jn op dU a b d=>vC (cC Γ.K op) (cC Γ.K dU) (ak Γ a) (ak Γ b) (ak Γ d)
 | .OA _ _ _ _ _ _ _=>fun _ _ _=>False
 | .and as=>OJ Γ as
 | .or as=>OK Γ as
 | .not a=>Ax Γ.K (ak Γ a)
 | .jY t a b=>MI (bH Γ t) (ak Γ a) (ak Γ b)
 | .call j as=>zU (Γ.fs j) [] Γ.E (bI Γ as)
 | .blt b as=>dD (mV Γ.K b) (bI Γ as)
 | .dF T a=>dD (kW T) (dc (ak Γ a) (dc (tC (.ty T.nm)) gb))
 | .cx m o as=>wb Γ.K m (ak Γ o) (bI Γ as)
 | .ix a b=>d9 (kY Γ.K Γ.sd) (ak Γ a) (ak Γ b)
 | .sl a lo hi=>zZ (sL Γ.K) (ak Γ a) (kZ Γ lo) (kZ Γ hi)
 | .tup as=>Ni (bI Γ as)
 | .lst as=>Nj (bI Γ as)
 | .comp tk fv k its cond elt=>vQ Γ.K (iM Γ k its) tk fv (OL Γ.calm cond) (ak Γ.calm elt)
 | .de a c=>dD (jm Γ.K) (dc (ak Γ a) (dc (ak Γ c) gb))
 | .qc=>OH
 | .same a b=>d9 aac (ak Γ a) (ak Γ b)
 | .inD a b=>d9 (v7 Γ.K false) (ak Γ a) (ak Γ b)
 | .OE a b=>d9 (v7 Γ.K true) (ak Γ a) (ak Γ b)
 | .aay=>Zz
 | .aaz a b=>Zx (ak Γ a) (ak Γ b)
 | .OC a b=>NY (ak Γ a) (ak Γ b)
 | .OD a b=>NZ (ak Γ a) (ak Γ b)
 | .aaA o a b=>ZC (ak Γ o) (ak Γ a) (ak Γ b)
 | .xt T as=>T Γ.K (bI Γ as)
 | .xm T o as=>T Γ.K (ak Γ o) (bI Γ as)
 | .kS j a=>Oz (Γ.hs j) Γ.hv (dc (ak Γ a) gb)
 | .fld o f=>vE Γ.K (ak Γ o) f
 | .cm j m o as=>mJ (Γ.ms j).1 m (Γ.ms j).2 [] Γ.E (ak Γ o) (bI Γ as)
 | .make j as=>rX (Γ.kt j).1 (Γ.kt j).2 [] Γ.E (bI Γ as)
def bH(Γ:aC):RE→TT
 | .not a=>ME (bH Γ a)
 | .inD a b=>pY (d9 (v7 Γ.K false) (ak Γ a) (ak Γ b))
 | .OE a b=>pY (d9 (v7 Γ.K true) (ak Γ a) (ak Γ b))
 | .OC a b=>tB (NY (ak Γ a) (ak Γ b))
 | .OD a b=>tB (NZ (ak Γ a) (ak Γ b))
 | .and as=>OM Γ as
 | .or as=>ON Γ as
 | .cmp op a b=>pY (d9 (cC Γ.K op) (ak Γ a) (ak Γ b))
 | .jn op dU a b d=>pY (vC (cC Γ.K op) (cC Γ.K dU) (ak Γ a) (ak Γ b) (ak Γ d))
 | .OA op dU OB a b d f=>aaF (cC Γ.K op) (cC Γ.K dU) (cC Γ.K OB) (ak Γ a) (ak Γ b) (ak Γ d) (ak Γ f)
 | .v i=>eF Γ.K (zC i)
 | .call j as=>eF Γ.K (zU (Γ.fs j) [] Γ.E (bI Γ as))
 | .dF T a=>eF Γ.K (dD (kW T) (dc (ak Γ a) (dc (tC (.ty T.nm)) gb)))
 | .de a c=>eF Γ.K (dD (jm Γ.K) (dc (ak Γ a) (dc (ak Γ c) gb)))
 | .cx m o as=>eF Γ.K (wb Γ.K m (ak Γ o) (bI Γ as))
 | .ix a b=>eF Γ.K (d9 (kY Γ.K Γ.sd) (ak Γ a) (ak Γ b))
 | .bin op a b=>eF Γ.K (d9 (mT Γ.K op) (ak Γ a) (ak Γ b))
 | .fld o f=>eF Γ.K (vE Γ.K (ak Γ o) f)
 | .xt T as=>eF Γ.K (T Γ.K (bI Γ as))
 | .xm T o as=>eF Γ.K (T Γ.K (ak Γ o) (bI Γ as))
 | .cm j m o as=>eF Γ.K (mJ (Γ.ms j).1 m (Γ.ms j).2 [] Γ.E (ak Γ o) (bI Γ as))
 | _=>fun _ _ _=>False
def bI(Γ:aC):List RE→TA
 | []=>gb
 | a::r=>dc (ak Γ a) (bI Γ r)
def OJ(Γ:aC):List RE→TE
 | []=>fun _ _ _=>False
 | [a]=>ak Γ a
 | a::r=>MF (ak Γ a) (OJ Γ r)
def OK(Γ:aC):List RE→TE
 | []=>fun _ _ _=>False
 | [a]=>ak Γ a
 | a::r=>MG (ak Γ a) (OK Γ r)
def OM(Γ:aC):List RE→TT
 | []=>fun _ _ _=>False
 | [a]=>bH Γ a
 | a::r=>MC (bH Γ a) (OM Γ r)
def ON(Γ:aC):List RE→TT
 | []=>fun _ _ _=>False
 | [a]=>bH Γ a
 | a::r=>MD (bH Γ a) (ON Γ r)
def kZ(Γ:aC):Option RE→TO
 | none=>NB
 | some a=>vI (ak Γ a)
def OL(Γ:aC):Option RE→Option TT
 | none=>none
 | some a=>some (bH Γ a)
def iM(Γ:aC)(k:IK):List RE→TI
 | []=>fun _ _ _=>False
 | a::r=>match k with
  | .list=>zI Γ.K (ak Γ a)
  | .tup=>Xr Γ.K (ak Γ a)
  | .gu=>MY (dc (ak Γ a) (bI Γ r))
  | .aaw=>Xu (dc (ak Γ a) (bI Γ r))
  | .zip=>aaH Γ.K (dc (ak Γ a) (bI Γ r))
  | .Aw=>Ay Γ.K (dc (ak Γ a) (bI Γ r))
  | .txt=>aaL (ak Γ a)
  | .aax=>aaJ Γ.K (dc (ak Γ a) (bI Γ r))
end
structure cN where
 N:List Str
 sc:Scope
 fn:List Str
 gn:List Str
 bl:List Str
 mn:List Str
 kn:List Str
 en:List Str
 hn:List Str
 md:Nat
def Az(sc:Scope)(x:Str):Bool:=match sc.names.lookup x with
 | some .local=>true | some .cell=>true | some .free=>true | _=>false
def loc(sc:Scope)(x:Str):Bool:=match sc.names.lookup x with
 | some .local=>true | some .cell=>true | _=>false
def jZ(sc:Scope)(x:Str):Bool:=match sc.names.lookup x with
 | some .globalImplicit=>true | _=>false
theorem aaM{sc:Scope}{x:Str}(h:Az sc x=true):vg sc x:=by
 unfold Az at h
 unfold vg
 cases e:sc.names.lookup x with
 | none=>rw[e] at h;cases h
 | some k=>rw[e] at h;cases k<;>first | exact .inl rfl | exact .inr (.inl rfl) | exact .inr (.inr rfl) | cases h
theorem OO{sc:Scope}{x:Str}(h:loc sc x=true):Loc sc x:=by
 unfold loc at h
 unfold Loc
 cases e:sc.names.lookup x with
 | none=>rw[e] at h;cases h
 | some k=>rw[e] at h;cases k<;>first | exact .inl rfl | exact .inr rfl | cases h
theorem aaN{sc:Scope}{x:Str}(h:jZ sc x=true):sc.names.lookup x=some .globalImplicit:=by
 unfold jZ at h
 cases e:sc.names.lookup x with
 | none=>rw[e] at h;cases h
 | some k=>rw[e] at h;cases k<;>first | rfl | cases h
structure sN where
 elt:Expr
 tg:Expr
 iter:Expr
 ifs:List Expr
 sc:Scope
def jX.nm:jX→Str
 | .len=> "len" | .min=> "min" | .max=> "max" | .sum=> "sum" | .int=> "int" | .list=> "list" | .tuple=> "tuple" | .abs=> "abs"
def iK.nm:iK→Str
 | .append=> "append" | .pop=> "pop" | .extend=> "extend" | .join=> "join" | .lstrip=> "lstrip" | .starts=> "startswith" | .reverse=> "reverse" | .clear=> "clear" | .index=> "index" | .find=> "find" | .count=> "count" | .v9=> "count" | .v_=> "index"
def mX:Expr→Bool
 | .Call (.Name _ _) [] [] _=>false
 | _=>true
def noStar:Expr→Bool
 | .Starred ..=>false
 | _=>true
def sO:Expr→Bool
 | .Set ..=>false
 | _=>true
def AA(OP sc:Scope):Scope:=
 {OP with names:=OP.names.map fun(n,k)=>if (k== .free && sc.kind== .function && sc.names.lookup n==some .cell) then (n, .cell) else (n,k)}
def AD(tk:Option Nat)(tg:Expr):Option (List Str):=match tk,tg with
 | none, .Name x _=>some [x]
 | some 2, .Tuple [.Name x _, .Name y _] _ _=>some [x,y]
 | _,_=>none
def OQ(S:cN)(c:sN)(ln:List Str)(fv:List (Str×Nat)):cN:={S with N:=ln++fv.map (·.1),sc:=AA c.sc S.sc,en:=[],md:=if S.md=0 then 0 else 2}
def AE(S:cN)(c:sN)(ln:List Str)(fv:List (Str×Nat)):Bool:=
 decide (c.sc.kind= .function) && c.sc.names.all (fun y=>decide (y.2≠ .cell)) && c.sc.names.all (fun y=>decide (y.2≠ .local) || decide (c.sc.names.lookup y.1=some .local))
 && c.sc.names.all (fun y=>decide (y.2≠ .free) || decide (S.sc.names.lookup y.1=some .cell) || decide (S.sc.names.lookup y.1=some .free))
 && fv.all (fun p=>decide (S.N[p.2]?=some p.1) && decide (c.sc.names.lookup p.1=some .free))
 && ln.all (fun x=>decide (c.sc.names.lookup x=some .local)) && decide ((ln++fv.map (·.1)).Nodup) && sO c.iter
theorem aaO{P:Program}{w:World}{K:PySem.W.Frag}{elts:List Expr}{k:Nat}{pos:Pos}{z it l:Addr}(d1:z≠it)(d2:l≠z)(d3:l≠it):
  Turn P w K (.Tuple elts k pos) (sM K l) [z,it] z
   (fun i h=> (∃old,IsEnum h z it i old)∧h.IsListIter it l i) where
 mem:=by simp
 obj:=fun i h st b hb=>by
  obtain⟨⟨old,hz⟩,⟨o2,e2,c2,d2⟩⟩:=st
  simp only[List.mem_cons,List.not_mem_nil,or_false] at hb
  rcases hb with rfl | rfl
  ·exact⟨_,hz,fun v q=>by cases q⟩
  ·exact⟨_,e2,fun v q=>by rw[d2] at q;cases q⟩
 keep:=fun i h h' st hk=>by
  obtain⟨⟨old,hz⟩,h1⟩:=st
  exact⟨⟨old,hk z (by simp) _ hz⟩,h1.at fun o e=>hk it (by simp) o e⟩
 item:=by
  intro X hP hw hK hc i pins s σ H E I hf st hg
  subst hP hw hK
  obtain⟨xs,hx,hi1⟩:=hg
  obtain⟨mY,r1,p1,z1⟩:=I.list hx
  have hl1:=r1.length
  have W:=WalksT.enumerate (prog:=X.prog) (w:=X.w) (A:=X.A) (I.ok.hd hc) z it l d1 d2 d3 mY.toArray
  obtain⟨hz,h1⟩:=id st
  have hn:i<mY.toArray.size:=by simp only[List.size_toArray];omega
  refine W.item i s _ _ hn ⟨hz,h1,p1.isList⟩ fun T vals h' tk hv hT hIs mid hk=> ?_
  refine⟨.ref T,rfl, ?_⟩
  refine W.go elts k pos i T _ _ _ mid fun wc aaR OR=> ?_
  obtain⟨t0,u,eu,rfl⟩:=hv
  have kk: ∀b o,b∉ [z,it]→s.heap.get? b=some o→wc.get? b=some o:=fun b o hb e=>OR b o hb (hk b o hb e)
  have I1:Inv X pins σ H {s with heap:=wc,toks:=tk}:=by
   refine I.step (g':=s.gens) (d':=s.drawn) (ch:=[z,it]) (fun b hb=> ?_) (fun b o _ _ hc e _=>kk b o hc e) (fun b o _ _ hc e _=> ⟨o.slots,kk b o hc e⟩) (fun _ _ _ _ n=>n)
    (fun b o hc e=> ⟨o,kk b o hc e⟩) (fun _ _ e=>e) (fun _ _ _ e=>e) (fun b ps e=> ⟨#[],by rw[e];simp⟩) (fun m hm=> ?_) (fun b o e=> ?_) I.bare
   ·obtain⟨f0,f1,f2,f3,f4,f5⟩:=hf b hb
    exact⟨f3,f1,f4,f5⟩
   ·obtain⟨o,es,ep,ho,r⟩:=hm
    exact⟨o,es,ep,kk _ o (fun hb=> (hf _ hb).2.1 rfl) ho,r⟩
   ·have nb: ∀c o',H c=some o'→c∉ [z,it]:=fun c o' e hb=>by
     rw[(hf c hb).1] at e;cases e
    refine(I.aN b o e).jb (fun c q fY e'=>kk c q ?_ e') (fun _ q=>q) fun _ _ q=>q
    rcases fY with rfl | fY
    ·exact nb _ _ e
    ·exact nb _ _ fY
  have qe:s.heap.objs.size≤T:=hT
  have fT:H T=none:=I.aN.fresh qe
  have aT:T∉ [z,it]:=W.apart i T h' mid
  have tT:wc.IsTuple T #[.int (i:Nat) t0,u]:=by
   obtain⟨o,ho,q⟩:=hIs
   exact⟨o,OR T o aT ho,q⟩
  obtain⟨a,hxa,ra⟩: ∃a,xs[i]?=some a∧RelV a u:=by
   have e:mY[i]?=some u:=by simpa using eu
   have:i<xs.length:=by omega
   obtain⟨u',e',r'⟩:=r1.get (i:=i) (x:=xs[i]) (by simp[this])
   rw[e] at e';cases e'
   exact⟨xs[i],by simp[this],r'⟩
  have sz0:=I.sz
  have I2:Inv X pins σ (upd H T (.tup [.int (i:Nat),a])) {s with heap:=wc,toks:=tk}:=by
   refine Inv.N0 I1 fT (Nat.le_trans I.sz qe) (Nat.ne_of_gt (Nat.lt_of_lt_of_le I.lt qe)) (fun x c e q=> ?_) (fun p hp q=> ?_) ⟨by show 2≤sizeLine;decide,[.int (i:Nat) t0,u], .cons ⟨t0,rfl⟩ (.cons ra .nil),tT⟩
   ·obtain⟨v',q'⟩:=I.cell x c e
    have:=q'.lt
    rw[q] at this
    exact absurd (Nat.lt_of_lt_of_le this qe) (Nat.lt_irrefl _)
   ·have:=Heap.lt_size (I.pin p hp).1
    rw[q] at this
    exact absurd (Nat.lt_of_lt_of_le this qe) (Nat.lt_irrefl _)
  refine⟨.ref T,_,I2,rfl,⟨T,fT,rfl,fun mZ a' mQ ea=> ?_⟩, ?_,fun c fY=> ?_⟩
  ·rw[I.MJ mQ hx,hxa] at ea
   cases ea;rfl
  ·obtain⟨⟨q0,q1⟩,q2,_⟩:=aaR
   exact⟨⟨q0,q1⟩,q2⟩
  ·have n0:=(hf c fY).1
   have:c≠T:=fun q=>by
    obtain⟨o,e,_⟩: ∃o,s.heap.get? c=some o∧True:=by
     obtain⟨⟨old,hz⟩,⟨o2,e2,_⟩⟩:=st
     simp only[List.mem_cons,List.not_mem_nil,or_false] at fY
     rcases fY with rfl | rfl
     ·exact⟨_,hz,trivial⟩
     ·exact⟨_,e2,trivial⟩
    have:=Heap.lt_size e
    rw[q] at this
    exact absurd (Nat.lt_of_lt_of_le this qe) (Nat.lt_irrefl _)
   rw[aV this];exact n0
 done:=by
  intro X hP hw hK hc i pins s σ H E I hf st hg
  subst hP hw hK
  obtain⟨xs,hx,hi⟩:=hg
  obtain⟨mY,r1,p1,z1⟩:=I.list hx
  have hl1:=r1.length
  have W:=WalksT.enumerate (prog:=X.prog) (w:=X.w) (A:=X.A) (I.ok.hd hc) z it l d1 d2 d3 mY.toArray
  obtain⟨hz,h1⟩:=id st
  have hn:i=mY.toArray.size:=by simp only[List.size_toArray];omega
  subst hn
  refine W.done s _ _ ⟨hz,h1,p1.isList⟩ fun h' tk hk=> ⟨rfl, ?_⟩
  refine I.step (g':=s.gens) (d':=s.drawn) (ch:=[z,it]) (fun b hb=> ?_) (fun b o _ _ hc e _=>hk b o hc e) (fun b o _ _ hc e _=> ⟨o.slots,hk b o hc e⟩) (fun _ _ _ _ n=>n)
   (fun b o hc e=> ⟨o,hk b o hc e⟩) (fun _ _ e=>e) (fun _ _ _ e=>e) (fun b ps e=> ⟨#[],by rw[e];simp⟩) (fun m hm=> ?_) (fun b o e=> ?_) I.bare
  ·obtain⟨f0,f1,f2,f3,f4,f5⟩:=hf b hb
   exact⟨f3,f1,f4,f5⟩
  ·obtain⟨o,es,ep,ho,r⟩:=hm
   exact⟨o,es,ep,hk _ o (fun hb=> (hf _ hb).2.1 rfl) ho,r⟩
  ·have nb: ∀c o',H c=some o'→c∉ [z,it]:=fun c o' e hb=>by
    rw[(hf c hb).1] at e;cases e
   refine(I.aN b o e).jb (fun c q fY e'=>hk c q ?_ e') (fun _ q=>q) fun _ _ q=>q
   rcases fY with rfl | fY
   ·exact nb _ _ e
   ·exact nb _ _ fY
 self:=fun A i s Q E st hQ=>by
  obtain⟨⟨old,hz⟩,_⟩:=st
  exact wpAny_pyIter_enum hz hQ
theorem aaT:bootBuiltins "enumerate"=some (.type "enumerate"):=by decide+kernel
theorem aaU{X:Cx}{elts:List Expr}{k:Nat}{zS:Pos}{a:Expr}{ta:TA}{p pos:Pos}(hg:Gl X "enumerate")(hm:X.mg "enumerate"=none)(ha:PA X [a] ta)
  (hs:starEach [a] X.env=[(false,eval a X.env)]):PI X (.Tuple elts k zS) (.Call (.Name "enumerate" p) [a] [] pos) (Ay X.K ta):=by
 intro pins s σ H R I h
 refine Call_ (rV I hg hm aaT (PyProof.Rows.callWith_type1 (bj (ha pos pins s σ H _ I h) fun us s1 ⟨vs,H1,I1,r1,q1⟩=> ?_) hs rfl))
 obtain⟨l1,e,⟨xs,hx⟩,q⟩:=q1
 subst e
 obtain⟨u,rfl,ru⟩:=vals1 r1
 cases ru
 obtain⟨mY,rr1,p1,z1⟩:=I1.list hx
 refine call_enumerate_list p1.isList fun h' a1 a2 a3 hk=> ?_
 refine wpAny_pyIter_enum a1 ?_
 have lt1: @LT.lt Nat _ l1 s1.heap.objs.size:=by obtain⟨_,e,_⟩:=p1.isList;exact Heap.lt_size e
 have I2:Inv X pins σ H1 {s1 with heap:=h'}:=I1.kept (t':=s1.toks) hk
 refine⟨_,_,_,_,H1,rfl,I2,aaO (z:=s1.heap.objs.size+1) (it:=s1.heap.objs.size) (l:=l1) (by show @Ne Nat _ _;omega) (by show @Ne Nat _ _;omega) (by show @Ne Nat _ _;omega),⟨⟨_,a1⟩,a2⟩,fun b' hb=> ?_,q⟩
 have hle:s1.heap.objs.size≤b':=by
  simp only[List.mem_cons,List.not_mem_nil,or_false] at hb
  rcases hb with rfl | rfl
  ·exact Nat.le_add_right _ _
  ·exact Nat.le_refl _
 have:=I1.zH (b:=b') (H':=H1) hle (I1.aN.fresh hle)
 exact this
theorem aaV{K:PySem.W.Frag}{a:Addr}{xs:List V}{g:TG}{tb:TS}{D:Ends}{σ:St}{H:Hp}(Pv:Nat→St→Hp→Prop)(h0:Pv 0 σ H)(ha: ∀i σ H,Pv i σ H→aP K H a xs)
  (hs: ∀i x σ H T,xs[i]?=some x→Pv i σ H→H T=none→g (.ref T) σ (upd H T (.tup [.int (i:Nat),x])) fun σ2 H2=>tb {D with nx:=Pv (i+1),ct:=Pv (i+1),bk:=D.nx} σ2 H2) (hd: ∀σ H,Pv xs.length σ H→D.nx σ H):
  ∃W:Nat→Nat→St→Hp→Prop,(∃m,W 0 m σ H)∧ ∀i m σ H,W i m σ H→
   ((sM K a).stop i H∧D.nx σ H)∨((sM K a).go i H∧ ∃N:St→Hp→Prop,(∀σ' H',N σ' H'→ ∃m',m'<m∧W (i+1) m' σ' H')∧ ∀x H',(sM K a).gw i H x H'→g x σ H' fun σ2 H2=>tb {D with nx:=N,ct:=N,bk:=D.nx} σ2 H2):=by
 refine⟨fun i m σ H=>m=xs.length - i∧i≤xs.length∧Pv i σ H,⟨xs.length,by simp,Nat.zero_le _,h0⟩, ?_⟩
 rintro i m σ H ⟨rfl,hi,p⟩
 have q1:=ha i σ H p
 by_cases bG:i<xs.length
 ·refine .inr ⟨⟨xs,q1,bG⟩,Pv (i+1),fun σ' H' p'=> ⟨xs.length - (i+1),by omega,rfl,bG,p'⟩,fun x H' y=> ?_⟩
  obtain⟨T,hT,rfl,y⟩:=y
  have e:=y xs xs[i] q1 (by simp[bG])
  subst e
  exact hs i xs[i] σ H T (by simp[bG]) p hT
 ·have e:i=xs.length:=by omega
  subst e
  exact .inl ⟨⟨xs,q1,rfl⟩,hd σ H p⟩
end L2
set_option maxHeartbeats 400000
namespace L2
open PySem PySem.Spec PyProof.Rows
section
variable {prog:Program} {w:World} {A:Around} {E:Value→Shared→Prop} {s:Shared}
end
end L2
set_option maxHeartbeats 1000000
namespace L2
open PySem PySem.Spec PyProof.Rows PySem.W
section
variable {prog:Program} {w:World} {A:Around} {E:Value→Shared→Prop} {s:Shared} {K:Frag} {x D:Addr} {ox:Obj}
theorem aaW{Q:Option Value→Shared→Prop}(X:K.In s.heap)(I:InstAt s.heap x ox D none)(sE:findIn K (.ref D) "__getattribute__"=some (some (.builtin "BaseException.__getattribute__")))(sG:findIn K (.ref D) "__getattr__"=some none)
  (hk:(clsIn K D).isSome=true) (ha:findIn K (.ref D) "__class__"=some (some (.builtin "object.__class__"))) (hn:specialIn K (.builtin "object.__class__") "__get__"=some (some (.builtin "getset_descriptor.__get__"))) (jf:takesIn K (.builtin "object.__class__")=some true)
  (hm:mroIn K D (.type "object")=some true) (hb:mroIn K D (.type "BaseException")=some true)
  (h:Q (some (.ref D)) {s with toks:=s.toks+1}):wpAny (model prog w) A (getAttr? (.ref x) "__class__") Q E s:=by
 have hf:findObj K D none "__class__"=some (.bind (.builtin "getset_descriptor.__get__") (.builtin "object.__class__")):=by
  obtain⟨cd,hc⟩:=Option.isSome_iff_exists.mp hk
  unfold findObj
  rw[hc,Option.bind_some,ha,Option.bind_some]
  simp only[hn,jf,Option.bind_some]
 obtain⟨hh,g,d,t,os⟩:=s
 have L0:=I.type (M:=model prog w)
 have L1:=looks_findIn (M:=model prog w) X sE
 have L2:=looks_findIn (M:=model prog w) X sG
 have L3:=looks_find (M:=model prog w) X I hf
 unfold getAttr? getAttrBy? getAttrBy
 refine wpAny_bind (wpAny_mkText (wpAny_bind (wpAny_attempt (wpAny_holding (wpAny_bind (L0.at (wpAny_bind (L1.at ?_))))))))
 have hx2:(Value.builtin "BaseException.__getattribute__"==Value.builtin "object.__getattribute__")=false:=by decide+kernel
 show wpAny _ _ (if (onTheHeap (Value.ref D) && Value.builtin "BaseException.__getattribute__"==Value.builtin "object.__getattribute__")=true then _ else _) _ _ _
 rw[hx2,Bool.and_false,if_neg (by decide)]
 unfold getAttrByItsOwn hookBefore
 refine wpAny_bind (L2.at ?_)
 refine wpAny_bind (wpAny_attempt (wpAny_holding ?_))
 show wpAny _ _ (boundAndCalled _ _ _) _ _ _
 unfold boundAndCalled
 rw[F.excAttr_ValueError.ga.bind (.ref x)]
 refine wpAny_bind (wpAny_pure ?_)
 refine wpAny_call (codeAny_call_builtin F.excAttr_ValueError.ga.plain F.entry_bexc_ga ?_)
 have L4:=looks_mroIn (M:=model prog w) X hb
 have hk':builtinKind "BaseException.__getattribute__"=some .slot:=by decide+kernel
 have aaZ:splitId "BaseException.__getattribute__"=some ("BaseException","__getattribute__"):=by decide+kernel
 have ayP:=F.args_bexc_ga (.ref x) (.str "__class__" t)
 simp only[checkBuiltinCall,hk',aaZ]
 have L5:Looks (model prog w) hh (isInstance (.ref x) (.type "BaseException")) true:=L0.andThen L4
 refine wpAny_bind (L5.at ?_)
 repeat (any_goals (first | assumption | (with_reducible refine wpAny_loadPart_at I.at_ ?_;rw[I.cls];refine wpAny_pure (wpAny_bind (L3.at ?_))) | wp_step))
 refine class_get (s:=⟨hh,g,d,t+1,os⟩) (ox:=ox) (od:=none) X I hm ?_
 exact wpAny_pure (wpAny_pure (wpAny_pure h))
theorem aa0(sE:findIn K (.ref D) "__getattribute__"=some (some (.builtin "BaseException.__getattribute__")))(sG:findIn K (.ref D) "__getattr__"=some none)
  (hk:(clsIn K D).isSome=true) (ha:findIn K (.ref D) "__class__"=some (some (.builtin "object.__class__"))) (hn:specialIn K (.builtin "object.__class__") "__get__"=some (some (.builtin "getset_descriptor.__get__"))) (jf:takesIn K (.builtin "object.__class__")=some true)
  (hm:mroIn K D (.type "object")=some true) (hb:mroIn K D (.type "BaseException")=some true):KitX K (.ref x) (.ref D) (fun h=>InstAt h x ox D none) where
 ty:=fun _ _ _ I=>I.type
 it:=fun _ _ X _=>by
  obtain⟨cdD,jQ⟩:=Option.isSome_iff_exists.mp hk
  unfold clsIn at jQ
  split at jQ
  ·rename_i c' d' cd' zv ho
   intro A' Q' E' s' k q
   unfold isType loadHead
   exact wpAny_bind (wpAny_loadPart (k _ _ (X _ _ ho)) (wpAny_pure q))
  ·cases jQ
 ne:=fun h tp dd its n sl X htp=>by
  obtain⟨cdD,jQ⟩:=Option.isSome_iff_exists.mp hk
  refine Bool.eq_false_iff.mpr fun q=> ?_
  have e:D=tp:=Value.ref.inj (beq_iff_eq.mp q)
  subst e
  unfold clsIn at jQ
  split at jQ
  ·rename_i c' d' cd' zv ho
   have z:=(X _ _ ho).symm.trans htp
   cases z
  ·cases jQ
 ca:=fun X I k=>aaW X I sE sG hk ha hn jf hm hb k
end
end L2
set_option maxHeartbeats 400000
namespace L2
open PySem PySem.Spec PyProof.Rows
inductive cf (J:Shared→Prop) {α:Type}:Sem α→Prop
 | pure (a:α):cf J (.pure a)
 | raise (e:Value):cf J (.raise e)
 | unsupported (w:String):cf J (.unsupported w)
 | rule {t:String} {k:Unit→Sem α}:cf J (k ())→cf J (.rule t k)
 | load {a:Addr} {p:Option Value} {k:Obj→Sem α}:(∀o,cf J (k o))→cf J (.load a p k)
 | update {a:Addr} {p:Option Value} {f:Obj→Obj} {k:Unit→Sem α}:(∀s,J s→J {s with heap:=s.heap.update a f})→cf J (k ())→cf J (.update a p f k)
 | alloc {o:Obj} {k:Addr→Sem α}:(∀s,J s→J {s with heap:=s.heap.push o})→(∀a,cf J (k a))→cf J (.alloc o k)
 | stack {k:List (Code×Pos)→Sem α}:(∀t,cf J (k t))→cf J (.stack k)
theorem aa4{M:Model}{Γ:PySem.Ctx}{J:Shared→Prop}{α:Type}{t:Sem α}(kt:cf J t): ∀{Q:α→Pos→Shared→Prop} {E:Value→Pos→Shared→Prop} {p:Pos} {s:Shared},J s→Sem.wp M Γ t Q E p s→
  Sem.wp M Γ t (fun a p s=>Q a p s∧J s) (fun e p s=>E e p s∧J s) p s:=by
 induction kt with
 | pure a=>intro Q E p s j h;rw[Sem.wp] at h⊢;exact⟨h,j⟩
 | raise e=>intro Q E p s j h;rw[Sem.wp] at h⊢;exact⟨h,j⟩
 | unsupported w=>intro Q E p s j h;rw[Sem.wp] at h;exact h.elim
 | rule _ ih=>intro Q E p s j h;rw[Sem.wp] at h⊢;exact ih j h
 | load _ ih=>intro Q E p s j h;rw[Sem.wp] at h⊢;obtain⟨o,e,h⟩:=h;exact⟨o,e,ih o j h⟩
 | update f _ ih=>intro Q E p s j h;rw[Sem.wp] at h⊢;exact⟨h.1,ih (f _ j) h.2⟩
 | alloc f _ ih=>intro Q E p s j h;rw[Sem.wp] at h⊢;exact ih _ (f _ j) h
 | stack _ ih=>intro Q E p s j h;rw[Sem.wp] at h⊢;exact ih _ j h
theorem sQ{M:Model}{A:Around}{J:Shared→Prop}{α:Type}{t:Sem α}{Q:α→Shared→Prop}{E:Value→Shared→Prop}{s:Shared}(k:cf J t)(j:J s)(h:wpAny M A t Q E s):
  wpAny M A t (fun a s=>Q a s∧J s) (fun e s=>E e s∧J s) s:=fun Γ p hΓ=>aa4 k j (h Γ p hΓ)
def dB(e:Addr)(s:Shared):Prop:= ∃o vs,s.heap.get? e=some o∧o.data= .fields vs∧vs[2]?=some .none∧o.dict=none
theorem aa5(f:Array Value→Array Value)(o:Obj):(Obj.mapFields f o).dict=o.dict:=by
 unfold Obj.mapFields
 split<;>rfl
theorem aa6{e a:Addr}{i:Nat}{v:Value}(hi:i≠2)(s:Shared)(j:dB e s):dB e {s with heap:=s.heap.update a (Obj.mapFields (·.setIfInBounds i v))}:=by
 obtain⟨o,vs,h1,h2,h3,h4⟩:=j
 by_cases z:a=e
 ·subst z
  have d:=Obj.data_mapFields h2 (·.setIfInBounds i v)
  exact⟨_,_,Heap.get?_update_self _ h1 (Obj.isFreed_of_fields d),d,by rw[Array.getElem?_setIfInBounds_ne hi];exact h3,(aa5 _ _).trans h4⟩
 ·exact⟨o,vs,(Heap.get?_update_other _ _ z).trans h1,h2,h3,h4⟩
theorem aa7{e a:Addr}{f:Obj→Obj}(hf: ∀o,(f o).data=o.data∧(f o).dict=o.dict)(s:Shared)(j:dB e s):dB e {s with heap:=s.heap.update a f}:=by
 obtain⟨o,vs,h1,h2,h3,h4⟩:=j
 by_cases z:a=e
 ·subst z
  exact⟨_,vs,Heap.get?_update_self _ h1 (Obj.isFreed_of_fields ((hf o).1.trans h2)),(hf o).1.trans h2,h3,(hf o).2.trans h4⟩
 ·exact⟨o,vs,(Heap.get?_update_other _ _ z).trans h1,h2,h3,h4⟩
theorem aa8{e:Addr}{ob:Obj}(s:Shared)(j:dB e s):dB e {s with heap:=s.heap.push ob}:=by
 obtain⟨o,vs,h1,h2,h3,h4⟩:=j
 exact⟨o,vs,Heap.get?_push_of_some _ h1,h2,h3,h4⟩
theorem cf.bind{J:Shared→Prop}{α β:Type}{t:Sem α}{f:α→Sem β}(kt:cf J t)(h: ∀a,cf J (f a)):cf J (t>>=f):=by
 show cf J (t.bind f)
 induction kt with
 | pure a=>exact h a
 | raise e=>exact .raise e
 | unsupported w=>exact .unsupported w
 | rule _ ih=>exact .rule ih
 | load _ ih=>exact .load ih
 | update g _ ih=>exact .update g ih
 | alloc g _ ih=>exact .alloc g ih
 | stack _ ih=>exact .stack ih
section
variable {e:Addr}
theorem AF{a:Addr}:cf (dB e) (load a):= .load fun o=> .pure o
theorem AG{v x:Value}{i:Nat}(hi:i≠2):cf (dB e) (setField v i x):=by
 unfold setField
 split
 ·rename_i a
  unfold updateField
  refine AF.bind fun o=> ?_
  split
  ·split
   ·exact .update (fun s j=>aa6 hi s j) (.pure ())
   ·exact .unsupported _
  ·exact .unsupported _
 ·exact .unsupported _
theorem aa9{v:Value}:cf (dB e) (fieldsOf v):=by
 unfold fieldsOf
 split
 ·refine AF.bind fun o=> ?_
  split
  ·exact .pure _
  ·exact .unsupported _
 ·exact .unsupported _
theorem we{v:Value}{i:Nat}:cf (dB e) (field v i):=by
 unfold field
 refine aa9.bind fun vs=> ?_
 split
 ·exact .pure _
 ·exact .unsupported _
theorem AH{v:Value}{f:Option Addr}:cf (dB e) (setFlight v f):=by
 unfold setFlight
 refine we.bind fun tb=> ?_
 split
 ·exact AG (by decide)
 ·exact .pure _
theorem AI:cf (dB e) stack:= .stack fun t=> .pure t
theorem aa_{ty:String}{vs:List Value}:cf (dB e) (newFields ty vs):=by
 unfold newFields newObj newObjAsIs
 show cf (dB e) (if vs.toArray.size>sizeLine+2 then (unsupported "record:memory" >>=_) else _)
 split
 ·exact .unsupported _
 ·exact cf.bind (.alloc (fun s j=>aa8 s j) fun a=> .pure a) fun a=> .pure _
theorem aba{f:Addr}{b:Bool}:cf (dB e) (entryPlaceOf f b):=by
 unfold entryPlaceOf
 refine AI.bind fun ayQ=> ?_
 split
 ·exact .pure _
 ·exact .pure _
theorem OS: ∀l:List Env,cf (dB e) (readyFrames l)
 | []=> .pure _
 | env::outer=>by
  unfold readyFrames
  split
  ·refine AF.bind fun o=> ?_
   split
   ·exact .pure _
   ·refine cf.bind ?_ fun im=>cf.bind ?_ fun bk=>cf.bind (.update (fun s j=>aa7 (by intro o;exact⟨rfl,rfl⟩) s j) (.pure ())) fun _=>OS outer
    ·unfold behindIsImport
     split
     ·exact .pure _
     ·split
      ·exact .pure _
      ·exact we.bind fun _=> .pure _
    ·unfold keptBack
     split
     ·split
      ·exact .pure _
      ·unfold underTheClaimsCaller
       exact cf.bind (AI.bind fun _=> .pure _) fun _=> .pure _
     ·exact .pure _
  ·exact .unsupported _
theorem abb{env:Env}:cf (dB e) (PySem.frameOf env):=by
 unfold PySem.frameOf frameEnvs
 refine cf.bind (AI.bind fun _=> .pure _) fun l=> ?_
 refine cf.bind ?_ fun r=> ?_
 ·unfold frameObject
  split
  ·exact .pure _
  ·exact(OS _).bind fun _=> .pure _
 ·split
  ·exact .pure _
  ·exact .unsupported _
theorem OT{v:Value}{env:Env}:cf (dB e) (noteFrame v env):=by
 unfold noteFrame
 split
 ·rename_i x d hq
  refine we.bind fun hd=> ?_
  have tail:cf (dB e) (do let a ←PySem.frameOf env;let pl ←entryPlaceOf d (hd != .none);let b ←EntryCells.newEntry hd a .none (rawInt d) .none pl;setField v 1 b):=
   abb.bind fun a=>aba.bind fun pl=>cf.bind aa_ fun b=>AG (by decide)
  dsimp only
  split
  ·refine we.bind fun x=> ?_
   split
   ·exact .pure _
   ·exact(AG (by decide)).bind fun _=>tail
  ·exact tail
 ·exact .unsupported _
theorem OU{v:Value}{env:Env}:cf (dB e) (leaving env v):=by
 unfold leaving
 exact OT.bind fun _=>AH
end
end L2
set_option maxHeartbeats 4000000
namespace L2
open PySem PySem.Spec PyProof.Rows
theorem cM.wg{P:Program}{w:World}{H:Hp}{h:Heap}{a:Addr}{o:HO}(x:cM P w H h a o): ∃ob,h.get? a=some ob:=by
 cases o with
 | lst xs=>obtain⟨_,_,_,_,e⟩:=x;exact⟨_,e⟩
 | tup xs=>obtain⟨_,_,_,ob,e,_⟩:=x;exact⟨_,e⟩
 | dK aX=>obtain⟨_,_,_,_,o,_,_,e,_⟩:=x;exact⟨_,e⟩
 | dT aX=>obtain⟨_,_,_,_,o,_,_,e,_⟩:=x;exact⟨_,e⟩
 | set S n=>obtain⟨o,_,_,_,e,_⟩:=x;exact⟨_,e⟩
 | ins C dx fs=>obtain⟨_,_,_,e,_⟩:=x;exact⟨_,e⟩
 | own y=>obtain⟨_,e⟩:=x;exact⟨_,e⟩
 | xd fs=>obtain⟨_,⟨_,_,_,e,_⟩,_⟩:=x;exact⟨_,e⟩
 | gu lo hi=>obtain⟨_,_,_,e⟩:=x;exact⟨_,e⟩
 | bV ob u=>obtain⟨e,_⟩:=x;exact⟨_,e⟩
 | ja ps=>exact⟨_,(show h.get? a=some _ from x)⟩
 | met f y=>exact⟨_,(show h.get? a=some _ from x)⟩
 | ext φ=>obtain⟨_,⟨_,e⟩,_⟩:=x;exact⟨_,e⟩
theorem cy.wj{P:Program}{w:World}{H:Hp}{h h':Heap}(ok:cy P w H h)(k: ∀b u,H b≠none→h.get? b=some u→h'.get? b=some u):cy P w H h':=fun a o e=>
 (ok a o e).jb (fun b u hb hu=>k b u (by
  rcases hb with rfl | hb
  ·rw[e];exact Option.some_ne_none _
  ·rw[hb];exact Option.some_ne_none _) hu) (fun _ z=>z) (fun _ _ z=>z)
def ef(P:Program)(w:World):aK:=fun outer H s E e s'=> ∃(ea:Addr) (cls:Value) (t:Addr) (B:Heap) (H':Hp),
 e= .ref ea∧s'.os=s.os∧AllBare s'.gens∧Un (cb outer) [] H H' s.heap s'.heap∧cy P w H' s'.heap∧Heap.FlyingW B outer ea cls (.ref t) s'.heap∧dB ea s'∧H' ea=none∧
 (∀b,H' b≠none→ ∀o,s'.heap.get? b=some o→B.get? b=some o)∧(∀b o,s.heap.get? b=some o→b∉cb outer→ ∀o',s'.heap.get? b=some o'→B.get? b=some o')∧E cls none H'
theorem wk{P:Program}{w:World}{outer:List Env}{H:Hp}{s:Shared}{e:Value}{s':Shared}(h:ef P w outer H s E0 e s'):False:=by
 obtain⟨_,_,_,_,_,_,_,_,_,_,_,_,_,_,_,h⟩:=h
 exact h
section
variable {P:Program} {w:World} {K:PySem.W.Frag} {mg:Str→Option Value} {base:Heap} {N:List Str} {qual:Str} {scope:Scope} {f:Addr} {cd:Value} {A:Around} {outer:List Env} {s₀:Shared} {H₀:Hp} {E:XK}
theorem abc:Passes (ef P w) (jT (ef P w) P w K mg base N qual scope f cd A outer s₀ H₀ E) E:=by
 intro pins σ H s e s' I hx
 obtain⟨ea,cls,t,B,H',rfl,os,bare,u,aN,fl,sR,ia,c1,c2,hE⟩:=hx
 have sS:=I.ok.frames
 have hL:s₀.heap.objs.size≤ (envOfC qual scope s₀.heap.objs.size f cd).locals:=I.ok.above
 have nL: ∀b o,s₀.heap.get? b=some o→b∉cb outer→b∉cb (envOfC qual scope s₀.heap.objs.size f cd::outer):=fun b o hb hn hm=>by
  have AJ:b∈ (envOfC qual scope s₀.heap.objs.size f cd).locals::cb outer:=hm
  rcases List.mem_cons.mp AJ with rfl | z
  ·exact absurd (Heap.lt_size hb) (Nat.not_lt.mpr hL)
  ·exact hn z
 have hJ: ∀b∈cb (envOfC qual scope s₀.heap.objs.size f cd::outer),H' b=none:=fun b hb=>by
  obtain⟨o,ho,_⟩:=(I.stack.mem hb).2
  exact u.free b o ho (I.vm b hb) List.not_mem_nil
 refine wpAny_mono (sQ OU sR (wpAny_leaves_onW (Q:=fun _ fz=> ∃h',fz={s' with heap:=h'}∧Heap.FlyingW B outer ea cls (.ref t) h'∧s'.heap.UpToSlots h') (E:=fun _ _=>False) sS rfl fl fun h' ib up=> ⟨h',rfl,ib,up⟩))
  (fun _ fz hq=> ?_) (fun _ _ z=>z.1.elim)
 obtain⟨⟨h',rfl,ib,up⟩,AK⟩:=hq
 have into: ∀b o,s.heap.get? b=some o→b∉cb (envOfC qual scope s₀.heap.objs.size f cd::outer)→ ∀o',s'.heap.get? b=some o'→h'.get? b=some o':=fun b o hb hn o' dS=>ib.1 b o' (c2 b o hb hn o' dS)
 have jc: ∀b o,H' b≠none→s'.heap.get? b=some o→h'.get? b=some o:=fun b o hb ho=>ib.1 b o (c1 b hb o ho)
 have e7: ∀b∈cb (envOfC qual scope s₀.heap.objs.size f cd::outer),∀o,s'.heap.get? b=some o→ ∃sl,h'.get? b=some {o with slots:=sl}:=fun b hb o ho=>by
  obtain⟨o1,k_,hd⟩:=(fl.2.2.1.mem hb).2
  rw[ho] at k_
  cases k_
  exact up b o ho hd
 refine⟨ea,cls,t,B,H',rfl,os.trans I.os,bare,⟨fun b o q n hn _=> ?_,fun b o q n hn _=> ?_,fun b o q n _=> ?_,fun b o q _=> ?_,fun b xs q=>u.cP b xs (I.base.cP b xs q),fun b o v q=>u.eN b o v (I.base.eN b o v q),fun b ps q=> ?_⟩,
  aN.wj (fun b o hb ho=>jc b o hb ho),ib,AK,ia,fun b hb o ho=> ?_,fun b o q hn o' dS=> ?_,hE⟩
 ·have q1:=I.base.keep b o q n hn List.not_mem_nil
  have n1:=I.base.free b o q n List.not_mem_nil
  have ic:=nL b o q hn
  exact into b o q1 ic o (u.keep b o q1 n1 ic List.not_mem_nil)
 ·obtain⟨sl,q1⟩:=I.base.slot b o q n hn List.not_mem_nil
  have n1:=I.base.free b o q n List.not_mem_nil
  have ic:b∈cb (envOfC qual scope s₀.heap.objs.size f cd::outer):=List.mem_cons_of_mem _ hn
  obtain⟨mK,q2⟩:=u.slot b _ q1 n1 ic List.not_mem_nil
  obtain⟨sT,q3⟩:=e7 b ic _ q2
  exact⟨sT,q3⟩
 ·obtain⟨o1,q1⟩:=I.base.there b o q List.not_mem_nil
  exact u.free b o1 q1 (I.base.free b o q n List.not_mem_nil) List.not_mem_nil
 ·obtain⟨o1,q1⟩:=I.base.there b o q List.not_mem_nil
  obtain⟨o2,q2⟩:=u.there b o1 q1 List.not_mem_nil
  by_cases hm:b∈cb (envOfC qual scope s₀.heap.objs.size f cd::outer)
  ·obtain⟨sl,q3⟩:=e7 b hm o2 q2
   exact⟨_,q3⟩
  ·exact⟨o2,into b o1 q1 hm o2 q2⟩
 ·obtain⟨m1,e1⟩:=I.base.eZ b ps q
  obtain⟨m2,e2⟩:=u.eZ b _ e1
  exact⟨m1++m2,by rw[e2,Array.append_assoc]⟩
 ·obtain⟨gB,hH⟩:=Option.ne_none_iff_exists'.mp hb
  obtain⟨o2,q2⟩:=(aN b gB hH).wg
  have q3:=jc b o2 hb q2
  have iN:h'.get? b=some o:=ho
  rw[q3] at iN
  cases iN
  exact c1 b hb _ q2
 ·obtain⟨o1,q1⟩:=I.base.there b o q List.not_mem_nil
  obtain⟨o2,q2⟩:=u.there b o1 q1 List.not_mem_nil
  have ic:=nL b o q hn
  have q3:=into b o1 q1 ic o2 q2
  have iN:h'.get? b=some o':=dS
  rw[q3] at iN
  cases iN
  exact c2 b o1 q1 ic _ q2
def Raises(X:Cx)(E:XK):Prop:= ∀(pins:List (Addr×Obj)) (σ:St) (H:Hp) (s:Shared) (h':Heap) (e:Addr) (cls:Value) (vs:List Value),Inv X pins σ H s→Heap.MadeExcOf s.heap h' e cls vs→E cls none H→X.xe (.ref e) {s with heap:=h'}
theorem abd:Raises (jT (ef P w) P w K mg base N qual scope f cd A outer s₀ H₀ E) E:=by
 intro pins σ H s h1 e cls vs I hx hE
 have sS:=I.ok.frames
 have hL:s₀.heap.objs.size≤ (envOfC qual scope s₀.heap.objs.size f cd).locals:=I.ok.above
 have nL: ∀b o,s₀.heap.get? b=some o→b∉cb outer→b∉cb (envOfC qual scope s₀.heap.objs.size f cd::outer):=fun b o hb hn hm=>by
  have AJ:b∈ (envOfC qual scope s₀.heap.objs.size f cd).locals::cb outer:=hm
  rcases List.mem_cons.mp AJ with rfl | z
  ·exact absurd (Heap.lt_size hb) (Nat.not_lt.mpr hL)
  ·exact hn z
 have lg: ∀env∈ (envOfC qual scope s₀.heap.objs.size f cd::outer),∀b,env.frame=some b→b∈cb (envOfC qual scope s₀.heap.objs.size f cd::outer):=fun env he b hb=>List.mem_filterMap.mpr ⟨env,he,hb⟩
 have sR:dB e {s with heap:=h1}:=by
  obtain⟨t,ht,_,_⟩:=hx.there
  exact⟨_,_,ht,rfl,rfl,rfl⟩
 refine wpAny_mono (sQ OU sR (wpAny_leaves_madeW (Q:=fun _ fz=> ∃h' t,fz={s with heap:=h'}∧Heap.FlyingW (hideAll s.heap (cb (envOfC qual scope s₀.heap.objs.size f cd::outer))) outer e cls (.ref t) h'∧h1.UpToSlots h') (E:=fun _ _=>False)
  sS rfl (fun b o q=>of_hideAll _ q) (PySem.W.funFrames_hide I.stack lg) hx fun h' t ib _ _ up=> ⟨h',t,rfl,ib,up⟩)) (fun _ fz hq=> ?_) (fun _ _ z=>z.1.elim)
 obtain⟨⟨h',t,rfl,ib,up⟩,AK⟩:=hq
 have into: ∀b o,s.heap.get? b=some o→b∉cb (envOfC qual scope s₀.heap.objs.size f cd::outer)→h'.get? b=some o:=fun b o hb hn=>ib.1 b o (hideAll_get _ hb hn)
 have AL: ∀b,H b≠none→b∉cb (envOfC qual scope s₀.heap.objs.size f cd::outer):=fun b hb hm=>hb (I.vm b hm)
 have e7: ∀b∈cb (envOfC qual scope s₀.heap.objs.size f cd::outer),∀o,s.heap.get? b=some o→ ∃sl,h'.get? b=some {o with slots:=sl}:=fun b hb o ho=>by
  obtain⟨o1,k_,hd⟩:=(I.stack.mem hb).2
  rw[ho] at k_
  cases k_
  exact up b o (hx.keeps b o ho) hd
 refine⟨e,cls,t,_,H,rfl,I.os,I.bare,⟨fun b o q n hn _=> ?_,fun b o q n hn _=> ?_,fun b o q n _=>I.base.free b o q n List.not_mem_nil,fun b o q _=> ?_,I.base.cP,I.base.eN,I.base.eZ⟩,
  I.aN.wj (fun b o hb ho=>into b o ho (AL b hb)),ib,AK, ?_,fun b hb o ho=> ?_,fun b o q hn o' dS=> ?_,hE⟩
 ·exact into b o (I.base.keep b o q n hn List.not_mem_nil) (nL b o q hn)
 ·obtain⟨sl,q1⟩:=I.base.slot b o q n hn List.not_mem_nil
  obtain⟨sT,q3⟩:=e7 b (List.mem_cons_of_mem _ hn) _ q1
  exact⟨sT,q3⟩
 ·obtain⟨o1,q1⟩:=I.base.there b o q List.not_mem_nil
  by_cases hm:b∈cb (envOfC qual scope s₀.heap.objs.size f cd::outer)
  ·obtain⟨sl,q3⟩:=e7 b hm o1 q1
   exact⟨_,q3⟩
  ·exact⟨o1,into b o1 q1 hm⟩
 ·cases q:H e with
  | none=>rfl
  | some ho=>
   obtain⟨o2,q2⟩:=(I.aN e ho q).wg
   rw[hx.new] at q2
   cases q2
 ·obtain⟨gB,hH⟩:=Option.ne_none_iff_exists'.mp hb
  obtain⟨o2,q2⟩:=(I.aN b gB hH).wg
  have q3:=into b o2 q2 (AL b hb)
  have iN:h'.get? b=some o:=ho
  rw[q3] at iN
  cases iN
  exact hideAll_get _ q2 (AL b hb)
 ·obtain⟨o1,q1⟩:=I.base.there b o q List.not_mem_nil
  have ic:=nL b o q hn
  have q3:=into b o1 q1 ic
  have iN:h'.get? b=some o':=dS
  rw[q3] at iN
  cases iN
  exact hideAll_get _ q1 ic
end
section
variable {X:Cx}
theorem abe{x:Str}{C:Addr}{bm:List Value}{B newId qg:String}{e:Expr}{es:List Expr}{t:TA}{np dZ pos:Pos}{E:XK}(hc:X.calm=true)(O:OwnCls x C bm newId X.mg X.base)(FB:ExcBaseFacts B newId qg bm)(AM:Gl X x)
  (hd:(x==("__debug__":Str))=false) (ha:PA X (e::es) t) (hs:starEach (e::es) X.env=(false,eval e X.env)::starEach es X.env) (h1:(backTo dZ (starEach es X.env)).any (·.1)=false) (hR:Raises X E):
  PS X (.Raise (some (.Call (.Name x np) (e::es) [] dZ)) none pos) (Av C E t):=by
 intro pins s σ H D I h
 obtain⟨tl,N,nm,q,bs,hdct,sn,sub,ab,col,dd,k0,k1,k2,k3,k5,mN,hC,hN,wm,T⟩:=O.obj
 have hg:PE X (.Name x np) (tC (.ref C)):=MA AM O.bound rfl hd
 refine wpAny_Raise_call_subT (C:=C) (nm:=nm) (q:=q) (N:=N) (bs:=bs) (bm:=tl) (hdct:=hdct) (sn:=sn) (sub:=sub) (ab:=ab) (col:=col) (dd:=dd) (k0:=k0) (k1:=k1) (k2:=k2) (k3:=k3) (k5:=k5)
  FB (mN:=mN) (T.hasType FB.hasBase) (I.ok.hd hc) (by rw[hs];show(false || (backTo dZ (starEach es X.env)).any (·.1))=false;rw[h1];rfl) wm
  (bj (hg pins s σ H (fun v H1=>v= .ref C∧Av C E t D σ H1) I ⟨rfl,h⟩) fun f s1 ⟨v,H1,I1,r1,ev,q1⟩=> ?_)
 subst ev
 obtain rfl:f=Value.ref C:=r1
 refine⟨rfl, ?_⟩
 have hA:=ha dZ pins s1 σ H1 _ I1 q1
 rw[hs] at hA⊢
 refine Calls.evalArgs_plain (bj hA fun us s2 ⟨vs,H2,I2,r2,hl,q2⟩=> ⟨rfl, ?_,I2.bk _ _ hC,hN.keeps I2.bk,T.keeps I2.bk,fun h' e' hm=>hR pins σ H2 s2 h' e' _ _ I2 hm q2⟩)
 have:=r2.length
 show us.length≤sizeLine
 omega
end
theorem OV{P:Program}{w:World}{l:List Env}{H H':Hp}{h h1 h' B:Heap}(u:Un (cb l) [] H H' h h1)(aN:cy P w H' h1)(fr:h1.FunFrames B l)
  (c1: ∀b,H' b≠none→ ∀o,h1.get? b=some o→B.get? b=some o) (c2: ∀b o,h.get? b=some o→b∉cb l→ ∀o',h1.get? b=some o'→B.get? b=some o') (st:B.StaysIn h') (up:h1.UpToSlots h'):
  Un (cb l) [] H H' h h'∧cy P w H' h'∧(∀b,H' b≠none→ ∀o,h'.get? b=some o→B.get? b=some o)∧(∀b o,h.get? b=some o→b∉cb l→ ∀o',h'.get? b=some o'→B.get? b=some o'):=by
 have jc: ∀b o,H' b≠none→h1.get? b=some o→h'.get? b=some o:=fun b o hb ho=>st b o (c1 b hb o ho)
 have into: ∀b o,h.get? b=some o→b∉cb l→ ∀o',h1.get? b=some o'→h'.get? b=some o':=fun b o hb hn o' dS=>st b o' (c2 b o hb hn o' dS)
 have e7: ∀b∈cb l,∀o,h1.get? b=some o→ ∃sl,h'.get? b=some {o with slots:=sl}:=fun b hb o ho=>by
  obtain⟨o1,k_,hd⟩:=(fr.mem hb).2
  rw[ho] at k_
  cases k_
  exact up b o ho hd
 refine⟨⟨fun b o q n hn _=>into b o q hn o (u.keep b o q n hn List.not_mem_nil),fun b o q n hn _=> ?_,u.free,fun b o q _=> ?_,u.cP,u.eN,u.eZ⟩,aN.wj (fun b o hb ho=>jc b o hb ho),fun b hb o ho=> ?_,fun b o q hn o' dS=> ?_⟩
 ·obtain⟨sl,q1⟩:=u.slot b o q n hn List.not_mem_nil
  obtain⟨mK,q2⟩:=e7 b hn _ q1
  exact⟨mK,q2⟩
 ·obtain⟨o1,q1⟩:=u.there b o q List.not_mem_nil
  by_cases hm:b∈cb l
  ·obtain⟨sl,q3⟩:=e7 b hm o1 q1
   exact⟨_,q3⟩
  ·exact⟨o1,into b o q hm o1 q1⟩
 ·obtain⟨gB,hH⟩:=Option.ne_none_iff_exists'.mp hb
  obtain⟨o2,q2⟩:=(aN b gB hH).wg
  have q3:=jc b o2 hb q2
  rw[q3] at ho
  cases ho
  exact c1 b hb _ q2
 ·obtain⟨o2,q2⟩:=u.there b o q List.not_mem_nil
  have q3:=into b o q hn o2 q2
  rw[q3] at dS
  cases dS
  exact c2 b o q hn _ q2
def Cx.alt(X:Cx)(A:Around)(calm:Bool)(pn:List (Addr×Obj))(xe:Value→Shared→Prop):Cx:={X with A:=A,calm:=calm,pn:=pn,xe:=xe}
theorem Inv.alt{X:Cx}{pins hV m3:List (Addr×Obj)}{σ:St}{H:Hp}{s:Shared}{A':Around}{qh:Bool}{AN:Value→Shared→Prop}(I:Inv X pins σ H s)(hf:A'.frames=X.A.frames)(hc:qh=true→A'.handled=none)(hp: ∀p∈m3++hV,p∈X.pn++pins):
  Inv (X.alt A' qh m3 AN) hV σ H s where
 ok:=⟨I.ok.mod,I.ok.kind,I.ok.glob,I.ok.blt,I.ok.above,I.ok.inj,I.ok.has,I.ok.vh,hc,hf.trans I.ok.frames,I.ok.hJ,I.ok.WV,I.ok.bs,I.ok.kz,I.ok.vi,I.ok.vj,I.ok.hU,I.ok.mz⟩
 os:=I.os
 bare:=I.bare
 base:=I.base
 loc:=I.loc
 cell:=I.cell
 free:=I.free
 fo:=I.fo
 pin:=fun p h=>I.pin p (hp p h)
 aN:=I.aN
 len:=I.len
theorem Inv.AO{X:Cx}{pins hV m3:List (Addr×Obj)}{σ:St}{H:Hp}{s:Shared}{A':Around}{qh:Bool}{AN:Value→Shared→Prop}(ok:X.Ok)(I:Inv (X.alt A' qh m3 AN) hV σ H s)(hp: ∀p∈X.pn++pins,p∈m3++hV):
  Inv X pins σ H s where
 ok:=ok
 os:=I.os
 bare:=I.bare
 base:=I.base
 loc:=I.loc
 cell:=I.cell
 free:=I.free
 fo:=I.fo
 pin:=fun p h=>I.pin p (hp p h)
 aN:=I.aN
 len:=I.len
theorem abf{P:Program}{w:World}{H:Hp}{h:Heap}{ea:Addr}{ob:Obj}(h1:h.get? ea=some ob):cM P w H h ea (.bV ob iJ):=
 ⟨h1,trivial,⟨ob,h1⟩,fun _ _ _ _=>trivial⟩
theorem cy.more{P:Program}{w:World}{H:Hp}{h:Heap}{a:Addr}{o:HO}(ok:cy P w H h)(ha:H a=none)(x:cM P w (upd H a o) h a o):cy P w (upd H a o) h:=fun b u e=>by
 by_cases z:b=a
 ·subst z
  rw[aO] at e
  cases e
  exact x
 ·rw[aV z] at e
  exact(ok b u e).jb (fun _ _ _ q=>q) (fun c q=>by rw[aV (cn q ha)];exact q) (fun c xs q=>by rw[aV (cn q ha)];exact q)
section
variable {X:Cx}
theorem Inv.abg{pins:List (Addr×Obj)}{σ:St}{H:Hp}{s:Shared}{h':Heap}{m':Str→Option Value}{tk:Nat}(I:Inv X pins σ H s)(hn:h'.Ns X.env.locals m')(sb:Heap.SameBut X.env.locals s.heap h'):
  Inv X pins (List.replicate X.N.length none) H {s with heap:=h',toks:=tk} where
 ok:=I.ok
 os:=I.os
 bare:=I.bare
 base:=by
  have ne: ∀b o,X.s₀.heap.get? b=some o→b≠X.env.locals:=fun b o q z=>by
   rw[z] at q
   exact absurd (Heap.lt_size q) (Nat.not_lt.mpr I.ok.above)
  refine⟨fun b o q n hn hx=> (sb.2 b (ne b o q)).trans (I.base.keep b o q n hn hx),fun b o q n hn hx=> ?_,I.base.free,fun b o q hx=> ?_,I.base.cP,I.base.eN,I.base.eZ⟩
  ·obtain⟨sl,e⟩:=I.base.slot b o q n hn hx
   exact⟨sl,(sb.2 b (ne b o q)).trans e⟩
  ·obtain⟨o',e⟩:=I.base.there b o q hx
   exact⟨o',(sb.2 b (ne b o q)).trans e⟩
 loc:=⟨m',hn,fun i x v h1 h2=>by
  rw[List.getElem?_replicate] at h2
  split at h2<;>cases h2⟩
 cell:=fun x c h=>by
  obtain⟨v,o,e,d⟩:=I.cell x c h
  refine⟨v,o,(sb.2 c (fun z=> ?_)).trans e,d⟩
  obtain⟨m,⟨o2,es,ep,e2,d2,_⟩,_⟩:=I.loc
  rw[z,e2] at e
  cases e
  rw[d] at d2
  cases d2
 free:=I.free
 fo:=I.fo
 pin:=fun p hp=>by
  obtain⟨a,b,c,d,e⟩:=I.pin p hp
  exact⟨(sb.2 _ c).trans a,b,c,d,e⟩
 aN:=I.aN.wj fun b u hb hu=> (sb.2 b (fun z=>hb (by rw[z];exact I.free))).trans hu
 len:=List.length_replicate
theorem abh{x n:Str}{C:Addr}{i:Nat}{body:List Stmt}{b₀:Stmt}{AQ:List Stmt}{tb:XK→TS}{th:Addr→TS}{np qj pos:Pos}(kA:X.stack=X.env::X.outer)(sS:X.env.frame=some X.env.locals)(hex:X.ex=[])
  (AM:Gl X x) (hd:(x==("__debug__":Str))=false) (iE:X.mg x=some (.ref C)) (nd:X.N.Nodup) (hN:X.N[i]?=some n) (vL:X.env.scope.names.lookup n=some .local)
  (hb: ∀(pn:List (Addr×Obj)) (xe:Value→Shared→Prop) (E:XK),PassesOwn (model X.prog X.w) X.A X.env xe→Passes (ef X.prog X.w) (X.alt X.A X.calm pn xe) E→a_ (X.alt X.A X.calm pn xe) body (tb E))
  (hh: ∀(ea:Addr) (pn:List (Addr×Obj)),a_ (X.alt (X.A.mark (some (.ref ea))) false pn fun _ _=>False) (b₀::AQ) (th ea)):
  PS X (.Try body [.ExceptHandler (some (.Name x np)) (some n) (b₀::AQ) qj] [] [] pos) (v8 X.K C i X.N.length tb th):=by
 intro pins s σ H D I h
 refine wpAny_Try_except ?_
 have P1:Passes (ef X.prog X.w) (X.alt X.A X.calm (X.pn++pins) fun e s₁=>wpAny (model X.prog X.w) X.A (noteFrame e X.env) (fun _ s₂=>wpAny (model X.prog X.w) X.A (setFlight e none) (fun _ s₃=>wpAny (model X.prog X.w) X.A (handleBy e X.env [.ExceptHandler (some (.Name x np)) (some n) (b₀::AQ) qj]) (SP X pins D) X.xe s₃) X.xe s₂) X.xe s₁) (sH X.K C i X.N.length th D):=by
  intro hV σ' H1 s1 e' s' I1 hx
  obtain⟨ea,cls,t,B,H',rfl,os,bare,u,aN,fl,sR,ia,c1,c2,hm,hth⟩:=hx
  have abj:X.A.frames=some (X.env::X.outer):=by rw[I.ok.frames,kA]
  have ib:Heap.FlyingW B (X.env::X.outer) ea cls (.ref t) s'.heap:=by rw[←kA];exact fl
  refine wpAny_mono (sQ OT sR (wpAny_looks_onW (Q:=fun _ fz=> ∃h',fz={s' with heap:=h'}∧Heap.HeldW B (X.env::X.outer) ea cls (.ref t) X.env.locals h'∧s'.heap.UpToSlots h') (E:=fun _ _=>False) abj sS ib fun h4 AR AS=> ⟨h4,rfl,AR,AS⟩))
   (fun _ s4 hq=> ?_) (fun _ _ z=>z.1.elim)
  obtain⟨⟨h4,rfl,AR,AS⟩,nc4⟩:=hq
  refine wpAny_mono (sQ AH nc4 (wpAny_landsW (s:={s' with heap:=h4}) (Q:=fun _ fz=> ∃h',fz={s' with heap:=h'}∧Heap.FlyingW B (X.env::X.outer) ea cls (.ref t) h'∧h4.UpToSlots h') (E:=fun _ _=>False) AR fun h5 qk AU=> ⟨h5,rfl,qk,AU⟩))
   (fun _ s5 hq=> ?_) (fun _ _ z=>z.1.elim)
  obtain⟨⟨h5,rfl,abl,AU⟩,nc5⟩:=hq
  have qk:Heap.FlyingW B X.stack ea cls (.ref t) h5:=by rw[kA];exact abl
  obtain⟨u5,wo,sU,sV⟩:=OV (l:=X.stack) u aN fl.2.2.1 c1 c2 qk.1 (AS.trans AU)
  obtain⟨oe,ws,hoe,abo,ayR,ayS⟩:=qk.first
  have I5:=I1.zB (s':={s' with heap:=h5}) (ch:=[]) os u5 wo bare (fun b z=>absurd z List.not_mem_nil)
  refine wpAny_handleBy_cons (codeAny_handlers_test ?_) (by intro q;cases q)
  have rW:Inv (X.alt (X.A.mark (some (.ref ea))) false (X.pn++pins) fun _ _=>False) [] σ' H' {s' with heap:=h5}:=I5.alt (A':=X.A.mark (some (.ref ea))) (qh:=false) (m3:=X.pn++pins) (hV:=[]) rfl (fun z=>nomatch z) (fun p hp=>List.mem_append.mpr (.inl (by rw[List.append_nil] at hp;exact hp)))
  refine pU rW AM iE ?_ hd
  have LT:PySem.W.Looks (model X.prog X.w) h5 (typeOf (.ref ea)) cls:=by
   subst abo
   exact(PySem.W.Looks.ld hoe).andThen .now
  refine(PySem.W.exm_one I5.cI LT hm).here ?_
  refine codeAny_handlers_suite_as ?_
  refine wpAny_mono (sQ AH nc5 (lands_againW (s:={s' with heap:=h5}) (Q:=fun _ fz=> ∃h',fz={s' with heap:=h'}∧Heap.FlyingW B X.stack ea cls (.ref t) h'∧h5.UpToSlots h') (E:=fun _ _=>False) qk fun h6 qm AV=> ⟨h6,rfl,qm,AV⟩))
   (fun _ s6 hq=> ?_) (fun _ _ z=>z.1.elim)
  obtain⟨⟨h6,rfl,qm,AV⟩,nc6⟩:=hq
  obtain⟨u6,ok6,wq,sW⟩:=OV (l:=X.stack) u5 wo qk.2.2.1 sU sV qm.1 AV
  obtain⟨qo,OW,wt,abr,AW,_⟩:=qm.first
  have hn6:Au qo cls OW:=by
   obtain⟨o',vs',q1,q2,q3,q4⟩:=nc6
   have OX:h6.get? ea=some o':=q1
   rw[wt] at OX
   cases OX
   rw[AW] at q2
   cases q2
   exact⟨abr,AW,q3,q4⟩
  have ne1:s1.heap.get? ea=none:=by
   cases q:s1.heap.get? ea with
   | none=>rfl
   | some o1=>
    by_cases OY:ea∈cb X.stack
    ·obtain⟨o2,gB,hd2⟩:=(qm.2.2.1.mem OY).2
     rw[wt] at gB
     cases gB
     exact(hd2 _ AW).elim
    ·have:=sW ea o1 q OY qo wt
     rw[qm.2.1] at this
     cases this
  have u7:Un (cb X.stack) [] H1 (upd H' ea (.bV qo iJ)) s1.heap h6:=⟨u6.keep,u6.slot,fun b o q n hx=>by
    rw[aV (fun z=>by rw[z,ne1] at q;cases q)];exact u6.free b o q n hx,u6.there,fun b xs q=>by
    have q':=u6.cP b xs q
    rw[aV (cn q' ia)];exact q',fun b o v q=>by
    have q':=u6.eN b o v q
    rw[aV (cn q' ia)];exact q',fun b ps q=>by
    obtain⟨more,q'⟩:=u6.eZ b ps q
    exact⟨more,by rw[aV (cn q' ia)];exact q'⟩⟩
  have ok7:cy X.prog X.w (upd H' ea (.bV qo iJ)) h6:=ok6.more ia (abf wt)
  have I7:=I1.zB (s':={s' with heap:=h6}) (ch:=[]) os u7 ok7 bare (fun b z=>absurd z List.not_mem_nil)
  have I8:Inv (X.alt (X.A.mark (some (.ref ea))) false (X.pn++pins) fun _ _=>False) [] σ' (upd H' ea (.bV qo iJ)) {s' with heap:=h6}:=I7.alt (A':=X.A.mark (some (.ref ea))) (qh:=false) (m3:=X.pn++pins) (hV:=[]) rfl (fun z=>nomatch z) (fun p hp=>List.mem_append.mpr (.inl (by rw[List.append_nil] at hp;exact hp)))
  refine zA (X:=X.alt (X.A.mark (some (.ref ea))) false (X.pn++pins) fun _ _=>False) (v:= .ref ea) I8 nd hN (.inl vL) rfl (fun s9 I9=> ?_) (.inr vL)
  refine wpAny_mono (hh ea (X.pn++pins) [] s9 _ _ {nx:=fun _ _=>False,rt:=D.rt} I9 (hth ea qo OW σ' ia I1.len hn6)) (fun f s10 hs=> ?_) fun _ _ z=>z.elim
  cases f with
  | next=>obtain⟨_,_,_,z⟩:=hs;exact z.elim
  | brk=>obtain⟨_,_,_,z⟩:=hs;exact z.elim
  | cont=>obtain⟨_,_,_,z⟩:=hs;exact z.elim
  | ret v=>
   obtain⟨v',σ'',OZ,I10,r,q⟩:=hs
   have O0:Inv X pins σ'' OZ s10:=I10.AO I.ok (fun p hp=>by simpa using hp)
   obtain⟨m,hn,_⟩:=O0.loc
   refine wpAny_nameGoes vL hn (by rw[I.ok.kind];rfl) fun h' m' zy sb=> ?_
   exact⟨v',_,OZ,O0.abg zy sb,r,q⟩
 refine wpAny_mono (hb _ _ _ PassesOwn.looking P1 [] s σ H {nx:=D.nx,rt:=D.rt} (I.alt rfl I.ok.hd (fun p hp=>by simpa using hp)) h) (fun f s1 hs=> ?_) fun e' s' hx=>hx
 cases f with
 | next=>
  obtain⟨σ',H',I',q⟩:=hs
  exact ML pins s1 σ' H' D (I'.AO I.ok (fun p hp=>by simpa using hp)) q
 | brk=>obtain⟨_,_,_,z⟩:=hs;exact z.elim
 | cont=>obtain⟨_,_,_,z⟩:=hs;exact z.elim
 | ret v=>
  obtain⟨v',σ',H',I',r,q⟩:=hs
  exact⟨v',σ',H',I'.AO I.ok (fun p hp=>by simpa using hp),r,q⟩
end
def wu(A:Around)(H:Hp):Prop:= ∃e D,A.handled=some (.ref e)∧ExcAt H e D
def Hd(X:Cx):Prop:=wu X.A X.H₀
theorem ExcAt.keeps{H H':Hp}{e D:Addr}(h:ExcAt H e D)(k: ∀b o u,H b=some (.bV o u)→H' b=some (.bV o u)):ExcAt H' e D:=by
 obtain⟨ob,vs,h1,h2⟩:=h
 exact⟨ob,vs,k _ _ _ h1,h2⟩
section
variable {X:Cx} {pins:List (Addr×Obj)} {σ:St} {H:Hp} {s:Shared}
end
section
variable {X:Cx} {tg:Expr}
theorem aby:cz X (.builtin "isinstance") (jm X.K):=by
 intro pins s σ H xs us Q I r h
 match xs,h with
 | [.ref ea,c],h=>
  obtain⟨D,b,⟨ob,vs,h1,h2⟩,hC,hc,hk,hq⟩:=h
  cases r with
  | cons r1 r=>
   cases r with
   | cons r2 r=>
    cases r
    rename_i u1 u2
    cases (show u1=Value.ref ea from r1)
    have e2:u2=cV c:=by
     rcases hc with⟨C,rfl⟩ | ⟨n,rfl⟩
     ·exact r2
     ·exact r2
    subst e2
    have at_:=(I.aN ea _ h1).1
    have inst:InstAt s.heap ea ob D none:=⟨at_,h2.cls,by unfold PySem.W.notCls;rw[h2.data],by rw[h2.dict];trivial⟩
    exact kia_one (aa0 hC.sE hC.sG hC.hk hC.ha hC.hn hC.jf hC.hm hC.hb) I.cI inst hk (fun z=>nomatch z) fun tk=> ⟨.bl b,H,I.tok tk,rfl,hq⟩
end
structure fD (k:Nat) (A:Around):Prop where
 dp:A.depth+3*k+5<recursionLimit
 un:A.units+16*k+200<cLine
theorem cU.h{k:Nat}{A:Around}(r:cU k A):fD k A:=⟨r.dp,r.un⟩
theorem fD.mark{k:Nat}{A:Around}(r:fD k A)(v:Option Value):fD k (A.mark v):=⟨r.dp,r.un⟩
theorem fD.deeper{k:Nat}{A:Around}(r:fD (k+1) A)(env:Env):fD k (A.deeper env):=
 ⟨by have:=r.dp;show A.depth+1+3*k+5<_;omega,by have:=r.un;show A.units+3+16*k+200<_;omega⟩
theorem fD.depth{k:Nat}{A:Around}(r:fD k A):A.depth<recursionLimit:=by have:=r.dp;omega
theorem fD.units{k:Nat}{A:Around}(r:fD k A):A.units+64<cLine:=by have:=r.un;omega
def CRH(outer:List Env)(P:Program)(w:World)(H:Hp)(s:Shared)(Q:VK)(r:Result)(s':Shared):Prop:=
 match r with
 | .ok (.ret u)=>CE outer P w H s Q u s'
 | _=>False
structure m4 (P:Program) (w:World) (K:PySem.W.Frag) (mg:Str→Option Value) (base:Heap) (k:Nat) (f:Addr) (fd:FuncData) (ps:List Str) (sp:Sp):Prop where
 len: ∀vs H Q E,sp vs H Q E→vs.length=ps.length
 run: ∀(A:Around) (outer:List Env) (s:Shared) (H:Hp) (args:Args) (us:List Value) (vs:List V) (Q:VK),fD k A→wu A H→jR P w K mg base A outer s H→BindsTo s fd args (ps.zip us)→Vals vs us→sp vs H Q E0→
  codeAny (model P w) A (.call (.ref f) args) (CRH outer P w H s Q) s
theorem m4.mono{P:Program}{w:World}{K:PySem.W.Frag}{mg:Str→Option Value}{base:Heap}{j k:Nat}{f:Addr}{fd:FuncData}{ps:List Str}{sp:Sp}(F:m4 P w K mg base j f fd ps sp)(h:j≤k):m4 P w K mg base k f fd ps sp:=
 ⟨F.len,fun A outer s H args us vs Q hr=>F.run A outer s H args us vs Q ⟨by have:=hr.dp;omega,by have:=hr.un;omega⟩⟩
def wx(CX:aK)(P:Program)(w:World)(K:PySem.W.Frag)(mg:Str→Option Value)(base:Heap)(N:List Str)(qual:Str)(scope:Scope)(f:Addr)(cd:Value)(A:Around)(outer:List Env)(s:Shared)(H:Hp):Cx:=
 (jT CX P w K mg base N qual scope f cd {A with handled:=none} outer s H E0).alt (A.deeper (envOfC qual scope s.heap.objs.size f cd)) false [] fun _ _=>False
theorem abA{CX:aK}{P:Program}{w:World}{K:PySem.W.Frag}{mg:Str→Option Value}{base:Heap}{k:Nat}{f:Addr}{name qual:Str}{params:Arguments}{body:List Stmt}{scope:Scope}{dV kV doc pm bQ ct oc:Value}{an od:Option Addr}
  {hZ:Array (Option Value)} {N ps:List Str} {sp:Sp} (lk:K.lookup f=some ⟨oc,od, .func (fnOf name qual params body scope dV kV doc pm an bQ ct),hZ⟩) (fq:codeIn K bQ qual=true) (S:bw N ps scope)
  (len: ∀vs H Q E,sp vs H Q E→vs.length=ps.length)
  (zW: ∀(A:Around) (outer:List Env) (s:Shared) (H:Hp) (vs:List V) (Q:VK),fD k (A.deeper (envOfC qual scope s.heap.objs.size f bQ))→wu A H→sp vs H Q E0→
   ∃t,a_ (wx CX P w K mg base N qual scope f bQ A outer s H) body t∧t {nx:=fun _ H'=>Q .az H',rt:=Q} (start N vs) H):
  m4 P w K mg base (k+1) f (fnOf name qual params body scope dV kV doc pm an bQ ct) ps sp:=by
 refine⟨len,fun A outer s H args us vs Q hr hh e0 hb r gA=> ?_⟩
 have hl:=len _ _ _ _ gA
 have KX:K.In s.heap:=e0.mod.my.keeps fun b o e=> (e0.bs b o e).1
 have lim:s.heap.NoLimit:=e0.mod.nolimit.keeps fun b o e=> (e0.bs b o e).1
 have zX: ∀y∈ps.zip us,scope.names.lookup y.1=some .local∨(scope.names.lookup y.1=some .cell∧((cellsFrom (s.heap.objs.size+1) scope.names []).lookup y.1).isSome=true):=fun⟨n,v⟩ hy=>by
  rcases S.par n (List.of_mem_zip hy).1 with q | q
  ·exact .inl q
  ·exact .inr ⟨q,cellsFrom_some _ _ _ (.inl q)⟩
 refine codeAny_call_function hr.depth (KX _ _ lk) rfl S.co S.gen rfl (codeRec_of KX fq) (hb _ _ _ _ ?_)
 refine wpAny_newFunctionEnv_cells S.kind zX fun env he s1 x=> ?_
 subst he
 refine⟨lim.keeps x.toInCall.keep,codeAny_func ?_⟩
 obtain⟨t,ht,hq⟩:=zW A outer s H vs Q (hr.deeper _) hh gA
 have e00:jR P w K mg base {A with handled:=none} outer s H:=⟨e0.frames,e0.mod,e0.bs,e0.kz,e0.hU,e0.mz,e0.aN,e0.bare⟩
 have I0:Inv (jT CX P w K mg base N qual scope f bQ {A with handled:=none} outer s H E0) [] (start N vs) H s1:=Nr S rfl e00 hl r x
 have I:Inv (wx CX P w K mg base N qual scope f bQ A outer s H) [] (start N vs) H s1:=I0.alt rfl (fun z=>nomatch z) (fun p hp=>hp)
 refine wpAny_mono (ht [] s1 (start N vs) H _ I hq) (fun fl s' hs=> ?_) fun e s' hs=>hs.elim
 have fin: ∀{σ':St} {H':Hp} {v:V} {u:Value},Inv (wx CX P w K mg base N qual scope f bQ A outer s H) [] σ' H' s'→RelV v u→Q v H'→CE outer P w H s Q u s':=
  fun {σ' H' v u} J rv q=> ⟨v,H',J.os,J.bare,J.base,J.aN,rv,q⟩
 cases fl with
 | ret u=>
  obtain⟨v,σ',H',J,rv,q⟩:=hs
  exact fin J rv q
 | next=>
  obtain⟨σ',H',J,q⟩:=hs
  exact fin (v:=V.az) (u:=Value.none) J rfl q
 | brk=>
  obtain⟨_,_,_,q⟩:=hs
  exact False.elim q
 | cont=>
  obtain⟨_,_,_,q⟩:=hs
  exact False.elim q
theorem abC{CX:aK}{P:Program}{w:World}{K:PySem.W.Frag}{mg:Str→Option Value}{base:Heap}{N:List Str}{qual:Str}{scope:Scope}{f:Addr}{cd:Value}{A:Around}{outer:List Env}{s:Shared}{H:Hp}(h:wu A H):Hd (wx CX P w K mg base N qual scope f cd A outer s H):=h
section
variable {X:Cx} {k:Nat} {f:Addr} {fd:FuncData} {ps:List Str} {sp:Sp} {x:Str} {p pos:Pos} {e:Expr} {ta:TE} {hv:Option Addr}
theorem abD(F:m4 X.prog X.w X.K X.mg X.base k f fd ps sp)(hr:fD k X.A)(hg:Gl X x)(hm:X.mg x=some (.ref f))(hk:keepIn X.K (.ref f)=true)(hb:Binds X.K fd ps [])(hh: ∀e,hv=some e→X.A.handled=some (.ref e))
  (ha:PE X e ta) (hs:noStar e=true) (iD:(x==("__debug__":Str))=false):PE X (.Call (.Name x p) [e] [] pos) (Oz sp hv (dc ta gb)):=by
 intro pins s σ H Q I h
 have he:starEach [e] X.env=(false,eval e X.env)::starEach [] X.env:=by cases e<;>first | rfl | cases hs
 refine wpAny_Call_Name_kw (pU I hg hm ?_ iD)
 have hA:PA X [e] (dc ta gb):=kN ha pZ he
 refine callWith_K (h₀:=X.base) I.ok.mod.my hk (bj (hA pos pins s σ H _ I h) fun us s1 ⟨vs,H1,I1,r,⟨ea,D,h1,h2⟩,q⟩=> ⟨I1.cI, ?_⟩) he rfl
 have r2:Vals vs us:=r
 have hl:us.length=ps.length:=by rw[←r2.length];exact F.len _ _ _ _ q
 have kQ:=hb s1 us I1.cI (by rw[List.append_nil];exact hl)
 rw[List.append_nil] at kQ
 refine wpAny_call (codeAny_mono (F.run X.A X.stack s1 H1 ⟨us,[]⟩ us vs Q hr ⟨ea,D,hh ea h1,h2⟩ I1.zT kQ r2 q) fun r s' hq=> ?_)
 cases r with
 | error e=>exact False.elim hq
 | ok fl=>
  cases fl with
  | ret u=>exact I1.after hq
  | next=>exact False.elim hq
  | brk=>exact False.elim hq
  | cont=>exact False.elim hq
end
def O1(CX:aK)(X:Cx)(x:Str)(sp:Sp):Prop:=
 ∃k f fd ps,ck X.prog X.w X.K X.mg X.base CX k f fd ps sp∧cU k X.A∧X.mg x=some (.ref f)∧keepIn X.K (.ref f)=true∧Binds X.K fd ps []
def wy(CX:aK)(X:Cx)(C:Addr)(m:Str)(sp:Sp):Prop:=
 fu X.K C∧ ∃k f fd ps,Meth X.K C m f∧ck X.prog X.w X.K X.mg X.base CX k f fd ps sp∧cU k X.A∧Binds X.K fd ps []
def O2(CX:aK)(X:Cx)(x:Str)(C:Addr)(sp:Sp):Prop:=
 ∃k f fd ps,Mk X.K C f∧ck X.prog X.w X.K X.mg X.base CX k f fd ps sp∧cU (k+1) X.A∧X.mg x=some (.ref C)∧Binds X.K fd ps []
def O3(X:Cx)(x:Str)(sp:Sp):Prop:=
 ∃k f fd ps,m4 X.prog X.w X.K X.mg X.base k f fd ps sp∧fD k X.A∧X.mg x=some (.ref f)∧keepIn X.K (.ref f)=true∧Binds X.K fd ps []
def O4(X:Cx)(x:Str)(C:Addr):Prop:= ∃bm B newId qg,OwnCls x C bm newId X.mg X.base∧ExcBaseFacts B newId qg bm
structure Good (CX:aK) (S:cN) (Γ:aC) (X:Cx):Prop where
 N:X.N=S.N
 sc:X.env.scope=S.sc
 K:X.K=Γ.K
 calm:S.md=0→X.calm=true
 units:X.A.units+64<cLine
 fns:S.md=0→ ∀j x,S.fn[j]?=some x→O1 CX X x (Γ.fs j)
 jr: ∀j x,S.gn[j]?=some x→ ∃u,X.mg x=some u∧RelV (Γ.gv j) u
 dj: ∀x,S.bl.contains x=true→X.mg x=none
 pass:Passes CX X Γ.E
 js: ∀outer H s e s',CX outer H s E0 e s'→False
 j4: ∀p aX,Γ.sd p aX→ ∀h:Heap,X.K.In h→ ∃vs,KV aX vs∧h.DictOf (i9 X.prog X.w) p vs
 j5:S.md=0→ ∀j m,S.mn[j]?=some m→wy CX X (Γ.ms j).1 m (Γ.ms j).2
 j6:S.md=0→ ∀j x,S.kn[j]?=some x→O2 CX X x (Γ.kt j).1 (Γ.kt j).2
 qp: ∀j x,S.en[j]?=some x→O4 X x (Γ.ex j)
 j7: ∀j x,S.hn[j]?=some x→O3 X x (Γ.hs j)
 lh: ∀e,Γ.hv=some e→X.A.handled=some (.ref e)
 qu:S.md=1→Hd X
theorem wz{S:cN}(h:(if S.md=0 then 0 else 2)=0):S.md=0:=by
 split at h
 ·assumption
 ·cases h
section
variable {CX:aK} {S:cN} {Γ:aC} {X:Cx}
theorem Good.inner(G:Good CX S Γ X)(c:sN)(ln:List Str)(fv:List (Str×Nat))(ex:List Addr)(C:Addr)(s:Shared)(H:Hp):
  Good CX (OQ S c ln fv) Γ.calm (gC X c.sc (ln++fv.map (·.1)) ex C s H) where
 N:=rfl
 sc:=by
  show relabel c.sc X.env=AA c.sc S.sc
  rw[←G.sc];rfl
 K:=G.K
 calm:=fun h=>G.calm (wz h)
 units:=G.units
 fns:=fun m j x h=>G.fns (wz m) j x h
 jr:=G.jr
 dj:=G.dj
 pass:=fun _ _ _ _ _ _ _ h=> (G.js _ _ _ _ _ h).elim
 js:=G.js
 j4:=G.j4
 j5:=fun z j m h=>G.j5 (wz z) j m h
 j6:=fun z j x h=>G.j6 (wz z) j x h
 qp:=fun j x h=>by simp[OQ] at h
 j7:=fun j x h=>G.j7 j x h
 lh:=fun e h=>G.lh e h
 qu:=fun h=>by
  have h':(if S.md=0 then 0 else 2)=1:=h
  split at h'<;>cases h'
theorem Good.gl(G:Good CX S Γ X){x:Str}(h:jZ S.sc x=true):Gl X x:=by
 show X.env.scope.names.lookup x=_
 rw[G.sc];exact aaN h
theorem dG{e:Expr}{es:List Expr}{env:Env}(h:noStar e=true):starEach (e::es) env=(false,eval e env)::starEach es env:=by
 cases e<;>first | rfl | cases h
theorem mP{o:Expr}{x:Str}{env:Env}(h:mX o=true):attributeBase o x env (eval o env)=eval o env:=by
 unfold attributeBase
 split
 ·cases h
 ·rfl
theorem AX{e:Expr}{env:Env}(h:sO e=true): ∀x,foldedSetIterable e env x=pure x:=by
 intro x
 cases e<;>first | rfl | cases h
def e8(es:List Expr):Bool:=es.all noStar
theorem iO(env:Env)(pos:Pos): ∀(es:List Expr),e8 es=true→(backTo pos (starEach es env)).any (·.1)=false
 | [],h=>rfl
 | e::es,h=>by
  simp only[e8,List.all_cons,Bool.and_eq_true] at h
  rw[dG h.1]
  have ih:=iO env pos es h.2
  show(false || (backTo pos (starEach es env)).any (·.1))=false
  rw[ih];rfl
theorem wA(env:Env)(pos:Pos): ∀(es:List Expr),e8 es=true→(backTo pos (starEach es env)).all (fun x=> !x.1)=true
 | [],h=>rfl
 | e::es,h=>by
  simp only[e8,List.all_cons,Bool.and_eq_true] at h
  rw[dG h.1]
  have ih:=wA env pos es h.2
  show(!false && (backTo pos (starEach es env)).all (fun x=> !x.1))=true
  rw[ih];rfl
theorem dm{e:Expr}{es:List Expr}(h:e8 (e::es)=true):noStar e=true∧e8 es=true:=by
 simp only[e8,List.all_cons,Bool.and_eq_true] at h
 exact h
theorem abE(G:Good CX S Γ X){c:sN}{ln:List Str}{fv:List (Str×Nat)}(h:AE S c ln fv=true):
  jW X c.sc ln fv∧(∀x∈ln,c.sc.names.lookup x=some .local)∧(ln++fv.map (·.1)).Nodup∧sO c.iter=true:=by
 simp only[AE,Bool.and_eq_true,decide_eq_true_eq,List.all_eq_true,Bool.or_eq_true] at h
 obtain⟨⟨⟨⟨⟨⟨⟨h1,h2⟩,h3⟩,h4⟩,h5⟩,h6⟩,h7⟩,h8⟩:=h
 refine⟨⟨h1,fun y hy=>h2 y hy,fun y hy hl=> ?_,fun y hy hf=> ?_,fun p hp=> ?_⟩,h6,h7,h8⟩
 ·rcases h3 y hy with z | z
  ·exact absurd hl z
  ·exact z
 ·show X.env.scope.names.lookup y.1=_∨X.env.scope.names.lookup y.1=_
  rw[G.sc]
  rcases h4 y hy with(z | z) | z
  ·exact absurd hf z
  ·exact .inl z
  ·exact .inr z
 ·rw[G.N];exact h5 p hp
theorem abF(hc:X.calm=true){c:sN}{tk:Option Nat}{ln:List Str}{fv:List (Str×Nat)}(h:AD tk c.tg=some ln)(hl: ∀x∈ln,c.sc.names.lookup x=some .local)(hn:(ln++fv.map (·.1)).Nodup):
  vR X c.sc ln fv c.tg tk:=by
 unfold AD at h
 split at h
 ·rename_i x p he
  cases h
  rw[he]
  exact Z5 (hl x (by simp)) hn
 ·rename_i x p y q k pos he
  cases h
  rw[he]
  exact Z7 hc (hl x (by simp)) (hl y (by simp)) hn
 ·cases h
theorem abG{xs:List V}{H:Hp}{Q:VK}{K:PySem.W.Frag}(h:mV K .int xs H Q):(∃i,xs=[.int i]∧Q (.int i) H)∨ ∃k,xs=[.bl k]∧Q (.int (if k then 1 else 0)) H:=by
 match xs,h with
 | [.int i],h=>exact .inl ⟨i,rfl,h⟩
 | [.bl k],h=>exact .inr ⟨k,rfl,h⟩
theorem abH{K:PySem.W.Frag}{x:V}{H:Hp}{Q:Nat→Prop}(h:sq K x H Q): ∃n,Nb K x H n∧Q n:=by
 match x,h with
 | .str y,h=>exact⟨_,⟨h.1,rfl⟩,h.2⟩
 | .ref p, .inl ⟨xs,a,b⟩=>exact⟨_, .inl ⟨xs,a,rfl⟩,b⟩
 | .ref p, .inr ⟨xs,a,b⟩=>exact⟨_, .inr ⟨xs,a,rfl⟩,b⟩
inductive abI (X:Cx) (b:jX):Prop where
 | fn (id:String) (hv:bootBuiltins b.nm=some (.builtin id)) (hc:cz X (.builtin id) (mV X.K b))
 | ty (T:String) (hv:bootBuiltins b.nm=some (.type T)) (hc:cz X (.type T) (mV X.K b))
theorem boot_min:bootBuiltins "min"=some (.builtin "min"):=by decide+kernel
theorem boot_max:bootBuiltins "max"=some (.builtin "max"):=by decide+kernel
theorem boot_abs:bootBuiltins "abs"=some (.builtin "abs"):=by decide+kernel
theorem boot_sum:bootBuiltins "sum"=some (.builtin "sum"):=by decide+kernel
theorem AY:bootBuiltins "isinstance"=some (.builtin "isinstance"):=by decide+kernel
theorem abJ:bootBuiltins "int"=some (.type "int"):=by decide+kernel
theorem abK:bootBuiltins "list"=some (.type "list"):=by decide+kernel
theorem abL:bootBuiltins "tuple"=some (.type "tuple"):=by decide+kernel
theorem AZ(f:Nat→Int)(lt:Nat→Nat→Bool)(h: ∀i j,lt i j=decide (f i<f j)): ∀n,argBest lt n≤n∧ ∀i,i≤n→f (argBest lt n)≤f i
 | 0=> ⟨Nat.le_refl _,fun i hi=>by
   obtain rfl:i=0:=by omega
   exact Int.le_refl _⟩
 | n+1=>by
  obtain⟨a,b⟩:=AZ f lt h n
  have e:argBest lt (n+1)=if lt (n+1) (argBest lt n)=true then n+1 else argBest lt n:=rfl
  rw[e,h]
  split
  ·rename_i q
   have q:=of_decide_eq_true q
   refine⟨Nat.le_refl _,fun i hi=> ?_⟩
   by_cases z:i=n+1
   ·rw[z];exact Int.le_refl _
   ·have:=b i (by omega);omega
  ·rename_i q
   have q: ¬f (n+1) <f (argBest lt n):=fun z=>q (decide_eq_true z)
   refine⟨by omega,fun i hi=> ?_⟩
   by_cases z:i=n+1
   ·rw[z];omega
   ·exact b i (by omega)
theorem O5{xs:Array (Int×Tok)}{i:Nat}(h:i<xs.size):numAt xs i=xs[i].1:=by
 unfold numAt
 rw[Array.getElem?_eq_getElem h];rfl
theorem O6{xs:Array (Int×Tok)}{i:Nat}(h:i<xs.size):numAt xs i∈xs.toList.map (·.1):=by
 rw[O5 h]
 exact List.mem_map.mpr ⟨xs[i],by simp,rfl⟩
theorem O7{xs:Array (Int×Tok)}{n:Int}(h:n∈xs.toList.map (·.1)): ∃i,i<xs.size∧n=numAt xs i:=by
 obtain⟨y,hy,rfl⟩:=List.mem_map.mp h
 obtain⟨i,hi,rfl⟩:=List.getElem_of_mem hy
 have gd:i<xs.size:=by simpa using hi
 exact⟨i,gd,by rw[O5 gd];simp⟩
theorem O8{pins:List (Addr×Obj)}{σ:St}{H:Hp}{s:Shared}{p:Addr}{ns:List Int}(I:Inv X pins σ H s)(hq:aP X.K H p (ns.map V.int)): ∃xs:Array (Int×Tok),s.heap.IsList p (intItems xs)∧ns=xs.toList.map (·.1):=by
 obtain⟨its,rv,pl,hz⟩:=I.list hq
 have hi:=intsAre_of rv
 obtain⟨xs,hx⟩:=hi.allInts.items
 refine⟨xs,hx ▸ pl.isList, ?_⟩
 rw[←nums_intItems,←hx]
 exact(show numsOf its.toArray.toList=ns from hi.numsOf).symm
theorem abM(hc:X.calm=true):cz X (.builtin "min") (fun xs H Q=> ∃(p:Addr) (ns:List Int),xs=[.ref p]∧aP X.K H p (ns.map V.int)∧ns≠ []∧ ∀m:Int,m∈ns→(∀n∈ns,m≤n)→Q (.int m) H):=by
 intro pins s σ H xs us Q I r h
 obtain⟨p,ns,rfl,hq,lj,q⟩:=h
 obtain⟨u,rfl,ru⟩:=vals1 r
 cases ru
 obtain⟨xs,hl,rfl⟩:=O8 I hq
 have sz:0<xs.size:=Nat.pos_of_ne_zero fun z=>lj (by rw[Array.eq_empty_of_size_eq_zero z];rfl)
 refine min_intList (I.ok.hd hc) hl sz fun v h' tk hv hk=> ?_
 obtain⟨t,rfl⟩:=intItems_at hv
 obtain⟨b1,b2⟩:=AZ (numAt xs) (fun i j=>decide (numAt xs i<numAt xs j)) (fun _ _=>rfl) (xs.size - 1)
 refine⟨.int _,H,I.kept (t':=tk) hk,⟨t,rfl⟩,q _ (O6 (by omega)) fun n hn=> ?_⟩
 obtain⟨i,hi,rfl⟩:=O7 hn
 exact b2 i (by omega)
theorem abN(hc:X.calm=true):cz X (.builtin "max") (fun xs H Q=> ∃(p:Addr) (ns:List Int),xs=[.ref p]∧aP X.K H p (ns.map V.int)∧ns≠ []∧ ∀m:Int,m∈ns→(∀n∈ns,n≤m)→Q (.int m) H):=by
 intro pins s σ H xs us Q I r h
 obtain⟨p,ns,rfl,hq,lj,q⟩:=h
 obtain⟨u,rfl,ru⟩:=vals1 r
 cases ru
 obtain⟨xs,hl,rfl⟩:=O8 I hq
 have sz:0<xs.size:=Nat.pos_of_ne_zero fun z=>lj (by rw[Array.eq_empty_of_size_eq_zero z];rfl)
 refine max_intList (I.ok.hd hc) hl sz fun v h' tk hv hk=> ?_
 obtain⟨t,rfl⟩:=intItems_at hv
 obtain⟨b1,b2⟩:=AZ (fun i=> - numAt xs i) (fun i j=>decide (numAt xs i>numAt xs j)) (fun i j=>decide_eq_decide.mpr (by omega)) (xs.size - 1)
 refine⟨.int _,H,I.kept (t':=tk) hk,⟨t,rfl⟩,q _ (O6 (by omega)) fun n hn=> ?_⟩
 obtain⟨i,hi,rfl⟩:=O7 hn
 have:=b2 i (by omega)
 omega
theorem O9{x:Str}{acc:Array Value}(h:ItemsOf (SignAt x) acc x.cps.size):Vals (signs x) acc.toList:=by
 have go: ∀(l:List Nat) (us:List Value),us.length=l.length→(∀(j:Nat) (v:Value),us[j]?=some v→ ∃(c:Nat) (t:Tok),l[j]?=some c∧v=Value.str ⟨#[c]⟩ t)→Vals (l.map fun c=>V.str ⟨#[c]⟩) us:=by
  intro l
  induction l with
  | nil=>
   intro us hl _
   rw[List.length_eq_zero_iff.mp hl]
   exact .nil
  | cons c l ih=>
   intro us hl hv
   cases us with
   | nil=>cases hl
   | cons u us=>
    obtain⟨c',t,e1,e2⟩:=hv 0 u rfl
    have mR:c=c':=by simpa using e1
    subst mR
    exact .cons ⟨t,e2⟩ (ih us (by simpa using hl) fun j v hj=>by
     obtain⟨c2,t2,g1,g2⟩:=hv (j+1) v (by simpa using hj)
     exact⟨c2,t2,by simpa using g1,g2⟩)
 refine go x.cps.toList acc.toList ?_ fun j v hj=> ?_
 ·have:=h.1;simpa using this
 ·obtain⟨c,t,e1,e2⟩:=h.2 j v (by simpa using hj)
  exact⟨c,t,by simpa using e1,e2⟩
theorem O_(x:Str):(signs x).length=x.length:=by simp[signs,Str.length]
theorem abO(hc:X.calm=true):cz X (.type "list") (fun xs H Q=> ∃x,xs=[.str x]∧x.length≤sizeLine∧ ∀l,H l=none→Q (.ref l) (upd H l (.lst (signs x)))):=by
 intro pins s σ H xs us Q I r h
 obtain⟨x,rfl,hx,q⟩:=h
 obtain⟨u,rfl,t,rfl⟩:=vals1 r
 refine call_list_str (I.ok.hd hc) x t (fun h' tk Ah c' hk e A2=> ?_) hx
 have rv:=O9 A2
 exact⟨.ref s.heap.objs.size,_,I.laid (t':=tk) hk (Nat.le_refl _) (show cM X.prog X.w _ h' _ (.lst (signs x)) from⟨by rw[O_];exact hx,Ah.toList,c',rv,by simpa using e⟩),rfl,q _ (I.aN.fresh (Nat.le_refl _))⟩
theorem abP(hc:X.calm=true):cz X (.type "tuple") (fun xs H Q=> ∃x,xs=[.str x]∧x.length≤sizeLine∧ ∀l,H l=none→Q (.ref l) (upd H l (.tup (signs x)))):=by
 intro pins s σ H xs us Q I r h
 obtain⟨x,rfl,hx,q⟩:=h
 obtain⟨u,rfl,t,rfl⟩:=vals1 r
 refine call_tuple_str (I.ok.hd hc) x t (fun h' tk acc hk A2=> ?_) hx
 have rv:=O9 A2
 have I1:Inv X pins σ H {s with heap:=h',toks:=tk}:=I.kept (t':=tk) hk
 have I2:Inv X pins σ (upd H h'.objs.size (.tup (signs x))) {s with heap:=h'.push {cls:= .type "tuple",data:= .seq acc},toks:=tk}:=
  I1.laid (t':=tk) (fun b o e=>Heap.get?_push_of_some _ e) (Nat.le_refl _) (show cM X.prog X.w _ _ _ (.tup (signs x)) from⟨by rw[O_];exact hx,acc.toList,rv,by simpa using IsTup.new _ _⟩)
 exact⟨.ref h'.objs.size,_,I2,rfl,q _ (I1.aN.fresh (Nat.le_refl _))⟩
theorem abQ{pos:Pos}:PE X (.Dict [] [] pos) OH:=fun pins s σ H Q I h=>by
 have big:sysModules<s.heap.objs.size:=Nat.lt_trans (by decide) (I.mod.glob.keeps I.bk).lt
 have ok:cM X.prog X.w (upd H s.heap.objs.size (.dK [])) (s.heap.push {cls:= .type "dict",data:= .dict #[]}) s.heap.objs.size (.dK []):=
  ⟨Nat.zero_le _,beq_eq_false_iff_ne.mpr (Ne.symm (Nat.ne_of_lt big)),[], .nil,Heap.DictOf.new s.heap⟩
 exact wpAny_Dict_empty ⟨.ref s.heap.objs.size,_,I.laid (t':=s.toks) (fun _ _ q=>Heap.get?_push_of_some _ q) (Nat.le_refl _) ok,rfl,h _ (I.aN.fresh (Nat.le_refl _))⟩
theorem abR(hc:X.calm=true)(b:jX):abI X b:=by
 cases b with
 | len=>exact .fn "len" boot_len (cz.imp X8 fun xs H Q h=>by
   match xs,h with
   | [x],h=>obtain⟨n,h1,h2⟩:=abH (Q:=fun n=>Q (.int n) H) h;exact⟨x,n,rfl,h1,h2⟩)
 | min=>exact .fn "min" boot_min (cz.imp ((X6 hc).or (abM hc)) fun xs H Q h=>by
   match xs,h with
   | [.int i, .int j],h=>exact .inl ⟨i,j,rfl,h⟩
   | [.ref p],⟨ns,h1,h2,h3⟩=>exact .inr ⟨p,ns,rfl,h1,h2,h3⟩)
 | max=>exact .fn "max" boot_max (cz.imp ((X5 hc).or (abN hc)) fun xs H Q h=>by
   match xs,h with
   | [.int i, .int j],h=>exact .inl ⟨i,j,rfl,h⟩
   | [.ref p],⟨ns,h1,h2,h3⟩=>exact .inr ⟨p,ns,rfl,h1,h2,h3⟩)
 | sum=>exact .fn "sum" boot_sum (cz.imp (aap hc) fun xs H Q h=>by
   match xs,h with
   | [.ref p],⟨ns,h1,h2⟩=>exact⟨p,ns,rfl,h1,h2⟩)
 | abs=>exact .fn "abs" boot_abs (cz.imp X4 fun xs H Q h=>by
   match xs,h with
   | [.int i],h=>exact⟨i,rfl,h⟩)
 | int=>exact .ty "int" abJ (cz.imp X7 fun xs H Q h=>abG h)
 | list=>exact .ty "list" abK (cz.imp (YX.or (abO hc)) fun xs H Q h=>by
   match xs,h with
   | [.ref p],⟨ys,h1,h2⟩=>exact .inl ⟨p,ys,rfl,h1,h2⟩
   | [.str x],⟨h1,h2⟩=>exact .inr ⟨x,rfl,h1,h2⟩)
 | tuple=>exact .ty "tuple" abL (cz.imp (YY.or (abP hc)) fun xs H Q h=>by
   match xs,h with
   | [.ref p],⟨ys,h1⟩=>exact .inl ⟨p,ys,rfl,h1⟩
   | [.str x],⟨h1,h2⟩=>exact .inr ⟨x,rfl,h1,h2⟩)
structure abS (X:Cx) (m:iK) (id:String):Prop where
 pa:PlainAttrs (wa m)
 slot:Slot (wa m) m.nm id
 ty:typeOf (.builtin id)=pure (.type "method_descriptor")
 mt:jU X id (sJ X.K m)
theorem abT{P:Program}{w:World}{k:Key}{u:Value}(r:RelV (kV k) u):(i9 P w).is k u=true:=by
 cases k with
 | inl i=>obtain⟨t,e⟩:=(show ∃t,u=Value.int i t from r);subst e;exact WN P w i t
 | inr x=>obtain⟨t,e⟩:=(show ∃t,u=Value.str x t from r);subst e;exact WO P w x t
theorem abU{aX:List (Key×V)}{vs:List (Key×Value)}(r:KV aX vs)(k:Key){v:V}(h:mW aX k=some v): ∃u,valueAt vs k=some u∧RelV v u:=by
 unfold KV at r
 induction r with
 | nil=>cases h
 | @cons p q ps qs hh t ih=>
  obtain⟨h1,h2⟩:=hh
  by_cases e:p.1=k
  ·have e':q.1=k:=h1.symm.trans e
   have b:valueAt (q::qs) k=some q.2:=by simp[valueAt,List.find?_cons,e']
   have a:mW (p::ps) k=some p.2:=by simp[mW,List.find?_cons,e]
   rw[a] at h
   cases h
   exact⟨_,b,h2⟩
  ·have e': ¬q.1=k:=fun z=>e (h1.trans z)
   have b:valueAt (q::qs) k=valueAt qs k:=by simp[valueAt,List.find?_cons,e']
   have a:mW (p::ps) k=mW ps k:=by simp[mW,List.find?_cons,e]
   rw[a] at h
   rw[b]
   exact ih h
theorem abV{sd:Addr→List (Key×V)→Prop}(A3: ∀p aX,sd p aX→ ∀h:Heap,X.K.In h→ ∃vs,KV aX vs∧h.DictOf (i9 X.prog X.w) p vs):ji X (OI sd):=by
 intro value slice pins s σ H x y v u Q I rx ry h hs
 obtain⟨p,aX,k,z,rfl,rfl,hq,he,q⟩:=h
 cases rx
 obtain⟨vs,r,dd⟩:=A3 p aX hq s.heap I.cI
 obtain⟨w,ew,mM⟩:=abU r k he
 exact subscriptTail_builtinR (x:=w) dd.mapOf.typeIs PySem.F.slot_dict_getitem.lookup
  (wpAny_getItem_of (Q:=fun r s'=>r=w∧EP X pins σ Q r s') (abT ry) dd.mapOf ew ⟨rfl,z,H,I.tok _,mM,q⟩) hs
theorem abW{sd:Addr→List (Key×V)→Prop}(A3: ∀p aX,sd p aX→ ∀h:Heap,X.K.In h→ ∃vs,KV aX vs∧h.DictOf (i9 X.prog X.w) p vs):ji X (kY X.K sd):=YL.or (YM.or (YN.or (abV A3)))
theorem wB(y:Str): ∀{ts:List Str} {us:List Value},Vals (ts.map V.str) us→ ∀(j:Nat) (h1:j<us.length) (h2:j<ts.length),(Value.isStrOf y us[j]=(ts[j]==y))
 | [],_, .nil,j,h1,_=>absurd h1 (Nat.not_lt_zero _)
 | t::ts,_, .cons r rs,0,_,_=>by
  obtain⟨k,rfl⟩:=(show ∃k,_=Value.str t k from r)
  rfl
 | t::ts,_, .cons r rs,j+1,h1,h2=>wB y rs j (Nat.lt_of_succ_lt_succ h1) (Nat.lt_of_succ_lt_succ h2)
theorem Pa{y:Str}: ∀{ts:List Str} {j:Nat},j<ts.idxOf y→ ∀(h2:j<ts.length),(ts[j]==y)=false
 | n::r,0,h,_=>by
  by_cases e:n=y
  ·subst e;simp at h
  ·simpa using e
 | n::r,j+1,h,h2=>by
  by_cases e:n=y
  ·subst e;simp at h
  ·have hb:(n==y)=false:=by simpa using e
   have h':j<r.idxOf y:=by
    rw[List.idxOf_cons,hb] at h
    exact Nat.lt_of_succ_lt_succ h
   exact Pa h' (Nat.lt_of_succ_lt_succ h2)
theorem abX:jU X "list.index" (fun x vs H Q=> ∃(l:Addr) (y:Str) (ts:List Str),x= .ref l∧vs=[.str y]∧aP X.K H l (ts.map V.str)∧y∈ts∧Q (.int (ts.idxOf y:Nat)) H):=by
 intro pins s σ H x vs v us Q I rx rv h
 obtain⟨l,y,ts,rfl,rfl,hq,hy,q⟩:=h
 cases rx
 obtain⟨u,rfl,⟨t,rfl⟩⟩:=vals1 rv
 obtain⟨its,r,⟨⟨cls,dd,data,sl⟩,n,ho,hc,Pb,hd⟩,hz⟩:=I.list hq
 simp only at hc hd
 subst hc hd
 have hlen:=r.length
 rw[List.length_map] at hlen hz
 have hj:ts.idxOf y<ts.length:=List.idxOf_lt_length_iff.mpr hy
 have hn:=kI
 refine call_meets PySem.F.slot_list_index ⟨_,ho,rfl⟩ PySem.F.entry_list_index (PySem.F.args_list_index_2 _ _)
  (PySem.SeqAt.list_indexAt l its.toArray n dd sl (.str y t) (Value.isStrOf y) (ts.idxOf y) (by simp;omega) (by omega) ?_ ?_) ⟨ho,fun z sX=> ?_,⟨.int _,H,I.tok _,⟨_,rfl⟩,q⟩⟩
 ·show Value.isStrOf y its[ts.idxOf y]=true
  rw[wB y r _ (by omega) hj]
  simpa using List.getElem_idxOf hj
 ·intro j A6 bG
  show Value.isStrOf y its[j]=false
  rw[wB y r j (by simpa using A6) (by omega)]
  exact Pa bG _
 ·have hm:z∈its:=by simpa using sX
  obtain⟨j,wC,rfl⟩:=List.getElem_of_mem hm
  have Pd:j<ts.length:=by omega
  have e:=wB y r j wC Pd
  obtain⟨k,ek⟩:=(r.get (i:=j) (x:= .str ts[j]) (by simp[Pd]))
  obtain⟨ek1,k2,ek2⟩:=ek
  have ek3:its[j]= .str ts[j] k2:=by
   have:=List.getElem?_eq_getElem wC
   rw[ek1] at this
   exact(Option.some.inj this).symm.trans ek2
  rw[e,ek3]
  exact PySem.SeqAt.EqAt.str_str _ _ _ _
theorem Pe{x:V}: ∀{xs:List V} {us:List Value},Vals xs us→xs.all dX=true→us.countP (dE x)=xs.countP fun y=>dY y x
 | _,_, .nil,_=>rfl
 | y::xs,u::us, .cons r t,f=>by
  rw[List.all_cons,Bool.and_eq_true] at f
  rw[List.countP_cons,List.countP_cons,vK r f.1,Pe t f.2]
theorem ab1:jU X "list.count" (fun x vs H Q=> ∃(l:Addr) (y:V) (xs:List V),x= .ref l∧vs=[y]∧aP X.K H l xs∧dX y=true∧xs.all dX=true∧Q (.int (xs.countP (fun z=>dY z y):Nat)) H):=by
 intro pins s σ H x vs v us Q I rx rv h
 obtain⟨l,y,xs,rfl,rfl,hq,fy,fs,q⟩:=h
 cases rx
 obtain⟨u,rfl,ru⟩:=vals1 rv
 obtain⟨its,r,⟨⟨cls,dd,data,sl⟩,n,ho,hc,Pb,hd⟩,hz⟩:=I.list hq
 simp only at hc hd
 subst hc hd
 rw[←Pe r fs] at q
 exact call_meets PySem.F.slot_list_count ⟨_,ho,rfl⟩ PySem.F.entry_list_count (PySem.F.args_list_count_2 _ _)
  (PySem.SeqAt.list_countAt l its.toArray n dd sl u (dE y)) ⟨ho,fun z sX=>mO ru fy r fs z (by simpa using sX),⟨.int _,H,I.tok _,⟨_,rfl⟩,q⟩⟩
theorem ab2:jU X "list.index" (fun x vs H Q=> ∃(l:Addr) (y:V) (xs:List V),x= .ref l∧vs=[y]∧aP X.K H l xs∧dX y=true∧xs.all dX=true∧eB y xs=true∧Q (.int (xs.findIdx (fun z=>dY z y):Nat)) H):=by
 intro pins s σ H x vs v us Q I rx rv h
 obtain⟨l,y,xs,rfl,rfl,hq,fy,fs,lg,q⟩:=h
 cases rx
 obtain⟨u,rfl,ru⟩:=vals1 rv
 obtain⟨its,r,⟨⟨cls,dd,data,sl⟩,n,ho,hc,Pb,hd⟩,hz⟩:=I.list hq
 simp only at hc hd
 subst hc hd
 have hlen:=r.length
 have e: ∀j (h1:j<its.length) (h2:j<xs.length),dE y its[j]=dY xs[j] y:=fun j h1 h2=>by
  obtain⟨w,e1,r1⟩:=r.get (i:=j) (x:=xs[j]) (by simp[h2])
  have e2:=List.getElem?_eq_getElem h1
  rw[e1] at e2
  rw[←Option.some.inj e2]
  exact vK r1 (List.all_eq_true.mp fs _ (List.getElem_mem h2))
 have hj:xs.findIdx (fun z=>dY z y) <xs.length:=List.findIdx_lt_length.mpr (List.any_eq_true.mp lg)
 have hn:=kI
 refine call_meets PySem.F.slot_list_index ⟨_,ho,rfl⟩ PySem.F.entry_list_index (PySem.F.args_list_index_2 _ _)
  (PySem.SeqAt.list_indexAt l its.toArray n dd sl u (dE y) (xs.findIdx fun z=>dY z y) (by simp;omega) (by omega) ?_ ?_) ⟨ho,fun z sX=>mO ru fy r fs z (by simpa using sX),⟨.int _,H,I.tok _,⟨_,rfl⟩,q⟩⟩
 ·show dE y its[xs.findIdx fun z=>dY z y]=true
  rw[e _ (by omega) hj]
  exact List.findIdx_getElem (w:=hj)
 ·intro j A6 bG
  show dE y its[j]=false
  rw[e j (by simpa using A6) (by omega)]
  simpa using List.not_of_lt_findIdx bG
theorem ab3(m:iK): ∃id,abS X m id:=by
 cases m with
 | append=>exact⟨_,F.plainAttrs_list,F.slot_list_append,F.type_list_append,fun pins s σ H x xs v us Q I rx rv h=>by
   match x,xs,h with
   | .ref l,[y],⟨zs,h1,h2,h3⟩=>exact Y7 pins s σ H _ _ v us Q I rx rv ⟨l,zs,y,rfl,rfl,h1,h2,h3⟩⟩
 | pop=>exact⟨_,F.plainAttrs_list,F.slot_list_pop,F.type_list_pop,fun pins s σ H x xs v us Q I rx rv h=>by
   match x,xs,h with
   | .ref l,[],⟨zs,y,h1,h2,h3⟩=>exact Za pins s σ H _ _ v us Q I rx rv ⟨l,zs,y,rfl,rfl,h1,h2,h3⟩⟩
 | extend=>exact⟨_,F.plainAttrs_list,F.slot_list_extend,F.type_list_extend,fun pins s σ H x xs v us Q I rx rv h=>by
   match x,xs,h with
   | .ref l,[.ref b],⟨ys,zs,h1,h2,h3,h4⟩=>exact Y9 pins s σ H _ _ v us Q I rx rv ⟨l,b,ys,zs,rfl,rfl,h1,h2,h3,h4⟩⟩
 | join=>exact⟨_,F.plainAttrs_str,F.slot_str_join,F.type_str_join,fun pins s σ H x xs v us Q I rx rv h=>by
   match x,xs,h with
   | .str z,[.ref p],⟨ts,h1,h2,h3⟩=>exact aaq pins s σ H _ _ v us Q I rx rv ⟨z,p,ts,rfl,rfl,h1,h2,h3⟩⟩
 | lstrip=>exact⟨_,F.plainAttrs_str,F.slot_str_lstrip,F.type_str_lstrip,fun pins s σ H x xs v us Q I rx rv h=>by
   match x,xs,h with
   | .str z,[.str y],⟨h1,h2⟩=>exact aas pins s σ H _ _ v us Q I rx rv ⟨z,y,rfl,rfl,h1,h2⟩⟩
 | starts=>exact⟨_,F.plainAttrs_str,F.slot_str_startswith,F.type_str_startswith,fun pins s σ H x xs v us Q I rx rv h=>by
   match x,xs,h with
   | .str z,[.str y, .int i],h1=>exact aau pins s σ H _ _ v us Q I rx rv ⟨z,y,i,rfl,rfl,h1⟩⟩
 | find=>exact⟨_,F.plainAttrs_str,F.slot_str_find,F.type_str_find,fun pins s σ H x xs v us Q I rx rv h=>by
   match x,xs,h with
   | .str z,[.str y],h1=>
    obtain⟨t,rfl⟩:=rx
    obtain⟨u,rfl,⟨t2,rfl⟩⟩:=vals1 rv
    exact call_gives F.slot_str_find (typeIs_str _ _ _) F.entry_str_find (F.args_str_find_2 _ _) (gives_str_find z y t t2) ⟨.int _,H,I.tok _,⟨_,rfl⟩,h1⟩
   | .str z,[.str y, .int i],h1=>
    obtain⟨t,rfl⟩:=rx
    obtain⟨u,w',rfl,⟨t2,rfl⟩,⟨t3,rfl⟩⟩:=vals2 rv
    exact call_gives F.slot_str_find (typeIs_str _ _ _) F.entry_str_find (F.args_str_find_3 _ _ _) (gives_str_find_from z y i t t2 t3) ⟨.int _,H,I.tok _,⟨_,rfl⟩,h1⟩⟩
 | count=>exact⟨_,F.plainAttrs_str,F.slot_str_count,F.type_str_count,fun pins s σ H x xs v us Q I rx rv h=>by
   match x,xs,h with
   | .str z,[.str y],h1=>
    obtain⟨t,rfl⟩:=rx
    obtain⟨u,rfl,⟨t2,rfl⟩⟩:=vals1 rv
    exact call_gives F.slot_str_count (typeIs_str _ _ _) F.entry_str_count (F.args_str_count_2 _ _) (gives_str_count z y t t2) ⟨.int _,H,I.tok _,⟨_,rfl⟩,h1⟩⟩
 | reverse=>exact⟨_,F.plainAttrs_list,F.slot_list_reverse,F.type_list_reverse,fun pins s σ H x xs v us Q I rx rv h=>by
   match x,xs,h with
   | .ref l,[],⟨zs,h1,h2⟩=>exact Zd pins s σ H _ _ v us Q I rx rv ⟨l,zs,rfl,rfl,h1,h2⟩⟩
 | index=>exact⟨_,F.plainAttrs_list,F.slot_list_index,F.type_list_index,fun pins s σ H x xs v us Q I rx rv h=>by
   match x,xs,h with
   | .ref l,[.str y],⟨ts,h1,h2,h3⟩=>exact abX pins s σ H _ _ v us Q I rx rv ⟨l,y,ts,rfl,rfl,h1,h2,h3⟩⟩
 | v9=>exact⟨_,F.plainAttrs_list,F.slot_list_count,F.type_list_count,fun pins s σ H x xs v us Q I rx rv h=>by
   match x,xs,h with
   | .ref l,[y],⟨zs,h1,h2,h3,h4⟩=>exact ab1 pins s σ H _ _ v us Q I rx rv ⟨l,y,zs,rfl,rfl,h1,h2,h3,h4⟩⟩
 | v_=>exact⟨_,F.plainAttrs_list,F.slot_list_index,F.type_list_index,fun pins s σ H x xs v us Q I rx rv h=>by
   match x,xs,h with
   | .ref l,[y],⟨zs,h1,h2,h3,h4,h5⟩=>exact ab2 pins s σ H _ _ v us Q I rx rv ⟨l,y,zs,rfl,rfl,h1,h2,h3,h4,h5⟩⟩
 | clear=>exact⟨_,F.plainAttrs_list,F.slot_list_clear,F.type_list_clear,fun pins s σ H x xs v us Q I rx rv h=>by
   match x,xs,h with
   | .ref l,[],⟨zs,h1,h2⟩=>exact Zf pins s σ H _ _ v us Q I rx rv ⟨l,zs,rfl,rfl,h1,h2⟩⟩
theorem ab4{pins:List (Addr×Obj)}{σ:St}{H:Hp}{s:Shared}{T:Ty}{x:V}{u:Value}{Qb:Bool→Prop}{Q:Value→Shared→Prop}{E:Value→Shared→Prop}(I:Inv X pins σ H s)(rx:RelV x u)(h:b_ T x H Qb)
  (hq: ∀b tk,Qb b→Q (.bool b) {s with toks:=tk}):wpAny (model X.prog X.w) X.A (call (.builtin "isinstance") [u, .type T.nm]) Q E s:=by
 match x,rx,h with
 | .az,rx,h=>exact jg I rx (.az) (aao _ T) fun tk=>hq _ _ h
 | .bl b,rx,h=>exact jg I rx (.bl b) (kR X.K .bool T) fun tk=>hq _ _ (by cases T<;>exact h)
 | .int i,rx,h=>exact jg I rx (.int i) (kR X.K .int T) fun tk=>hq _ _ (by cases T<;>exact h)
 | .str i,rx,h=>exact jg I rx (.str i) (kR X.K .str T) fun tk=>hq _ _ (by cases T<;>exact h)
 | .ref a,rx,h=>
  cases e:H a with
  | none=>simp only[b_,e] at h
  | some o=>
   match o,e with
   | .lst xs,e=>simp only[b_,e] at h;exact jg I rx (.lst e) (kR X.K .list T) fun tk=>hq _ _ (by cases T<;>exact h)
   | .bV ob (.lst xs),e=>simp only[b_,e] at h;exact jg I rx (.bV e) (kR X.K .list T) fun tk=>hq _ _ (by cases T<;>exact h)
   | .tup xs,e=>simp only[b_,e] at h;exact jg I rx (.tup e) (kR X.K .tuple T) fun tk=>hq _ _ (by cases T<;>exact h)
   | .dK xs,e=>simp only[b_,e] at h;exact jg I rx (.dK e) (kR X.K .dict T) fun tk=>hq _ _ (by cases T<;>exact h)
   | .dT xs,e=>simp only[b_,e] at h;exact jg I rx (.dT e) (kR X.K .dict T) fun tk=>hq _ _ (by cases T<;>exact h)
   | .set _ _,e=>simp only[b_,e] at h
   | .ins _ _ _,e=>simp only[b_,e] at h
   | .own _,e=>simp only[b_,e] at h
   | .xd _,e=>simp only[b_,e] at h
   | .met _ _,e=>simp only[b_,e] at h
   | .gu _ _,e=>simp only[b_,e] at h
   | .ja _,e=>simp only[b_,e] at h
   | .ext _,e=>simp only[b_,e] at h
   | .bV ob (.tup xs),e=>simp only[b_,e] at h
   | .bV ob (.dK xs),e=>simp only[b_,e] at h
   | .bV ob (.dT xs),e=>simp only[b_,e] at h
   | .bV ob (.set _ _),e=>simp only[b_,e] at h
   | .bV ob (.ins _ _ _),e=>simp only[b_,e] at h
   | .bV ob (.own _),e=>simp only[b_,e] at h
   | .bV ob (.xd _),e=>simp only[b_,e] at h
   | .bV ob (.met _ _),e=>simp only[b_,e] at h
   | .bV ob (.gu _ _),e=>simp only[b_,e] at h
   | .bV ob (.ja _),e=>simp only[b_,e] at h
   | .bV ob (.ext _),e=>simp only[b_,e] at h
   | .bV ob (.bV _ _),e=>simp only[b_,e] at h
theorem ab5(T:Ty):bootBuiltins (Str.ofString T.nm)=some (.type T.nm):=by cases T<;>decide+kernel
theorem ab6(T:Ty):cz X (.builtin "isinstance") (kW T):=by
 intro pins s σ H xs us Q I r h
 match xs,r,h with
 | [x, .ty n],r,⟨e,h⟩=>
  subst e
  obtain⟨u,w',rfl,ru,mM⟩:=vals2 r
  cases mM
  exact ab4 I ru h fun b tk hb=> ⟨.bl b,H,I.tok tk,rfl,hb⟩
theorem ab7{T:Ty}{a:Expr}{ta:TE}{p q pos:Pos}(ha:PE X a ta)(hs:noStar a=true)(hg:Gl X "isinstance")(hm:X.mg "isinstance"=none)(hgT:Gl X (Str.ofString T.nm))(hmT:X.mg (Str.ofString T.nm)=none):
  PE X (.Call (.Name "isinstance" p) [a, .Name (Str.ofString T.nm) q] [] pos) (dD (kW T) (dc ta (dc (tC (.ty T.nm)) gb))):=by
 have hT:PE X (.Name (Str.ofString T.nm) q) (tC (.ty T.nm)):=MB hgT hmT (ab5 T) rfl (by cases T<;>decide) (by cases T<;>decide)
 exact vF (ab6 T) hg hm AY (kN ha (kN hT pZ rfl) (dG hs)) (by decide) (by decide) (dG hs) rfl
end
section
variable {X:Cx}
theorem ab_:vJ X (sL X.K):=by
 intro pins s σ H x v vl vu lo hi sl Q I rx hs pl pu h
 match x,rx,h with
 | .ref a,rx, .inl ⟨xs,h1,h2⟩=>exact YT pins s σ H _ v vl vu lo hi sl Q I rx hs pl pu ⟨a,xs,rfl,h1,h2⟩
 | .ref a,rx, .inr ⟨xs,h1,h2,h3⟩=>exact YI pins s σ H _ v vl vu lo hi sl Q I rx hs pl pu ⟨a,xs,rfl,h1,h2,h3⟩
 | .str z,rx,⟨h1,h2⟩=>
  obtain⟨t,rfl⟩:=rx
  obtain⟨l,el,ml⟩: ∃l:Option (Int×Tok),vl=partValue l∧l.map (·.1)=lo:=by
   cases pl with
   | none=>exact⟨none,rfl,rfl⟩
   | int i t=>exact⟨some (i,t),rfl,rfl⟩
  obtain⟨u,eu,mu⟩: ∃u:Option (Int×Tok),vu=partValue u∧u.map (·.1)=hi:=by
   cases pu with
   | none=>exact⟨none,rfl,rfl⟩
   | int i t=>exact⟨some (i,t),rfl,rfl⟩
  subst el eu
  refine⟨"str",_,F.slot_str_getitem.lookup,typeIs_str _ _ _, ?_⟩
  refine wpAny_getItem_str_slice (l:=l) (u:=u) (st:=none) hs rfl ?_
  obtain⟨b1,b2,b3⟩:=z8 lo hi z.length
  have hp:slicePicked z l u none=(List.range (HT.bx z.length z.length hi - HT.bx z.length 0 lo)).map (HT.bx z.length 0 lo+ ·):=by
   show Builtin.Str.strSliceIndices (l.map (·.1)) (u.map (·.1)) 1 z.length=_
   rw[ml,mu]
   have e0:Builtin.Str.strSliceIndices lo hi 1 z.length=sliceRange (sliceBounds lo hi none z.length).1 (sliceBounds lo hi none z.length).2.1 (sliceBounds lo hi none z.length).2.2:=rfl
   rw[e0,b1,b2,b3,sliceRange_one]
  have hc:((slicePicked z l u none).filterMap (z.cps[·]?))=iI z.cps.toList lo hi:=by
   show(Builtin.Str.strSliceIndices (l.map (·.1)) (u.map (·.1)) 1 z.length).filterMap (z.cps[·]?)=_
   rw[ml,mu,aav]
  have hz:z.cps.toList.length=z.length:=by simp[Str.length]
  have hA:=HT.zY z.length 0 (Nat.zero_le _) lo
  have hB:=HT.zY z.length z.length (Nat.le_refl _) hi
  unfold sliceMade
  refine post_val_or_made (fun _=> ?_) fun t' k=> ?_
  ·show(List.toArray ((slicePicked z l u none).filterMap (z.cps[·]?))).size≤sizeLine
   rw[hc,List.size_toArray]
   have:(iI z.cps.toList lo hi).length≤z.cps.toList.length:=by unfold iI;simp only[List.length_take,List.length_drop];omega
   omega
  ·have e:(if (((none:Option (Int×Tok)).map (·.1)).getD 1==1 && (slicePicked z l u none).length==z.length)=true then z else ⟨((slicePicked z l u none).filterMap (z.cps[·]?)).toArray⟩)=fB z lo hi:=by
    split
    ·rename_i hq
     simp only[Bool.and_eq_true,beq_iff_eq] at hq
     have ie:=hq.2
     rw[hp,List.length_map,List.length_range] at ie
     have a0:HT.bx z.length 0 lo=0:=by omega
     have b0:HT.bx z.length z.length hi=z.length:=by omega
     unfold fB iI
     rw[hz,a0,b0,←hz,Nat.sub_zero,List.drop_zero,List.take_length]
    ·rw[hc];rfl
   rw[e]
   exact⟨.str _,H,I.tok k,⟨t',rfl⟩,h2⟩
theorem aca:vy X (unaryOp .USub) OG:=by
 intro pins s σ H x v Q I rx h
 match x,rx,h with
 | .int i,rx,h=>exact XH pins s σ H _ v Q I rx ⟨i,rfl,h⟩
theorem acb{a:Expr}{ta:TE}{pos:Pos}(ha:PE X a ta):PE X (.UnaryOp .Not a pos) (Ax X.K ta):=by
 intro pins s σ H Q I h
 refine UnaryOp_ (bj (ha pins s σ H _ I h) fun v s1 ⟨x,H1,I1,r1,q1⟩=>not_of ?_)
 exact bj (Na pins s1 σ H1 x v (fun b H2=>Q (.bl (!b)) H2) I1 r1 (OF q1)) fun b s2 ⟨H2,I2,q2⟩=> ⟨.bl (!b),H2,I2,rfl,q2⟩
theorem sY{a:Expr}{ta:TE}(ha:PE X a ta)(he: ∀whole,isTrue a X.env whole=(do let v ←whole;standAt a.pos;holding [v] (truthy v))):PT X a (eF X.K ta):=by
 intro pins s σ H Q I h
 exact isTrue_plain (bj (ha pins s σ H _ I h) fun v s1 ⟨x,H1,I1,r1,q1⟩=>Na pins s1 σ H1 x v Q I1 r1 (OF q1)) (he _)
theorem acd{m:iK}{o e:Expr}{es:List Expr}{to:TE}{t:TA}{apos dZ:Pos}(ho:PE X o to)(ha:PA X (e::es) t)(hb:mX o=true)(hl:(apos.endLine==dZ.line)=true)(hn:(e::es).length<29)
  (hs:starEach (e::es) X.env=(false,eval e X.env)::starEach es X.env) (h1:(backTo dZ (starEach es X.env)).any (·.1)=false) (h2:(backTo dZ (starEach (e::es) X.env)).all (fun x=> !x.1)=true):
  PE X (.Call (.Attribute o m.nm apos) (e::es) [] dZ) (wb X.K m to t):=by
 obtain⟨id,M⟩:=ab3 (X:=X) m
 exact NN M.pa M.slot M.ty M.mt ho ha (mP hb) (by
  rw[h2]
  show(true && true && decide ((e::es).length+0+0<30))=true
  rw[decide_eq_true (by omega)];rfl) hl hs h1
end
section
variable {X:Cx} {CX:aK}
theorem Pf{o:Expr}{m:Str}{apos pos:Pos}{args:List Expr}{Q:Value→Shared→Prop}{E:Value→Shared→Prop}{A:Around}{s:Shared}{env:Env}{prog:Program}{w:World}
  (hb:mX o=true) (hl:(apos.endLine==pos.line)=true) (hn:args.length<29) (hf:(backTo pos (starEach args env)).all (fun x=> !x.1)=true)
  (h:wpAny (model prog w) A (eval o env) (fun ov s1=> ∀pl,wpAny (model prog w) A (getMethod ov m pl) (fun fx s2=>wpAny (model prog w) A (callWith pos fx.1 fx.2 (backTo pos (starEach args env)) (backToKw pos (keywordEach [] env))) Q E s2) E s1) E s):
  wpAny (model prog w) A (eval (.Call (.Attribute o m apos) args [] pos) env) Q E s:=by
 have ace:methodCallForm (args.length+0) (backTo pos (starEach args env)) (backToKw pos (keywordEach [] env))=true:=by
  show((backTo pos (starEach args env)).all (fun x=> !x.1) && true && decide (args.length+0+0<30))=true
  rw[hf,decide_eq_true (by omega)];rfl
 have line:methodCallPos true o env apos pos=pure pos:=by unfold methodCallPos;simp[hl]
 rw[arm_eval_Call,mP hb]
 refine wpAny_bind (wpAny_mono h (fun ov s1 h1=>wpAny_bind (wpAny_standAt ?_)) fun _ _ e=>e)
 unfold methodCall
 rw[show([]:List Keyword).length=0 from rfl,ace]
 refine wpAny_bind (wpAny_holding (wpAny_mono (h1 _) (fun fx s2 h2=> ?_) fun _ _ e=>e))
 exact wpAny_bind (wpAny_of_eq line h2)
theorem acf{o e:Expr}{es:List Expr}{to:TE}{t:TA}{apos pos:Pos}{C:Addr}{m:Str}{sp:Sp}{E:XK}(M:wy CX X C m sp)(hx:Passes CX X E)(ho:PE X o to)(ha:PA X (e::es) t)(hb:mX o=true)(hl:(apos.endLine==pos.line)=true)(hn:(e::es).length<29)
  (hs:starEach (e::es) X.env=(false,eval e X.env)::starEach es X.env) (h1:(backTo pos (starEach es X.env)).any (·.1)=false) (h2:(backTo pos (starEach (e::es) X.env)).all (fun x=> !x.1)=true):
  PE X (.Call (.Attribute o m apos) (e::es) [] pos) (mJ C m sp [] E to t):=by
 obtain⟨c,k,f,fd,ps,hm,F,hr,A7⟩:=M
 intro pins s σ H Q I h
 refine Pf hb hl hn h2 (bj (ho pins s σ H _ I h) fun u s1 ⟨x,H1,I1,rx,a,dx,fs,ex,ea,l,q⟩=>fun pl=> ?_)
 subst ex
 obtain rfl:u=Value.ref a:=rx
 refine Nh I1 ea c hm l ?_
 refine callWith_K (first:=[.ref a]) (h₀:=X.base) I.ok.mod.my hm.kp (bj (ha pos pins s1 σ H1 _ I1 q) fun us s2 ⟨vs,H2,I2,r,q2⟩=> ⟨I2.cI, ?_⟩) hs h1
 exact zV (us:= .ref a::us) (vs:= .ref a::vs) F hr A7 .nil hx I2 (.cons rfl r) q2
theorem acg{o:Expr}{to:TE}{apos pos:Pos}{C:Addr}{m:Str}{sp:Sp}{E:XK}(M:wy CX X C m sp)(hx:Passes CX X E)(ho:PE X o to)(hb:mX o=true)(hl:(apos.endLine==pos.line)=true):
  PE X (.Call (.Attribute o m apos) [] [] pos) (mJ C m sp [] E to gb):=by
 obtain⟨c,k,f,fd,ps,hm,F,hr,A7⟩:=M
 intro pins s σ H Q I h
 refine Pf hb hl (by decide) rfl (bj (ho pins s σ H _ I h) fun u s1 ⟨x,H1,I1,rx,a,dx,fs,ex,ea,l,q⟩=>fun pl=> ?_)
 subst ex
 obtain rfl:u=Value.ref a:=rx
 refine Nh I1 ea c hm l ?_
 exact callWith_K0 (first:=[.ref a]) I1.cI hm.kp (zV (us:=[.ref a]) (vs:=[.ref a]) F hr A7 .nil hx I1 (.cons rfl .nil) q)
end
section
variable {prog:Program} {w:World} {A:Around} {E:Value→Shared→Prop} {s:Shared}
theorem Pg{it l:Addr}{items:Array Value}(lj:l≠it): ∀(n i:Nat) (s:Shared) (Q:List Value→Shared→Prop),s.heap.IsListIter it l i→s.heap.IsList l items→i+n≤items.size→
  (∀h',h'.IsListIter it l (i+n)→Heap.SameBut it s.heap h'→Q ((items.toList.drop i).take n) {s with heap:=h'})→wpAny (model prog w) A (draw (.ref it) n) Q E s
 | 0,i,s,Q,hit,_,_,hQ=>by
  show wpAny _ _ (pure []) Q E s
  exact wpAny_pure (by simpa using hQ s.heap hit (Heap.SameBut.refl ..))
 | n+1,i,s,Q,hit,ht,hle,hQ=>by
  have bG:i<items.size:=by omega
  show wpAny _ _ (pyNext (.ref it) >>=_) Q E s
  refine wpAny_bind (wpAny_pyNext_list_item hit ht (x:=items[i]) (by simp[bG]) fun h₁ A8 sZ=> ?_)
  refine wpAny_bind (wpAny_holding (Pg lj n (i+1) _ _ A8 (ht.extBut sZ.extBut lj) (by omega) fun h₂ ach hs₂=>wpAny_pure ?_))
  have hd:items.toList.drop i=items[i]::items.toList.drop (i+1):=by simp[List.drop_eq_getElem_cons,bG]
  have:=hQ h₂ (by rw[show i+ (n+1)=i+1+n by omega];exact ach) (sZ.trans hs₂)
  rw[hd,List.take_succ_cons] at this
  exact this
theorem acj{t:Addr}{items:Array Value}{Q:List Value→Shared→Prop}(hh:A.handled=none)(ht:s.heap.IsList t items)
  (hQ: ∀h',Heap.ExtBut s.heap.objs.size s.heap h'→Q items.toList {s with heap:=h'}):wpAny (model prog w) A (unpackItems (.ref t) items.size none) Q E s:=by
 have bG:t≠s.heap.objs.size:=by obtain⟨o,ho,_⟩:=ht;exact Nat.ne_of_lt (Heap.lt_size ho)
 unfold unpackItems
 refine wpAny_bind ?_
 ·unfold notIterableAtAll
  refine wpAny_bind (wpAny_specialOf ht.typeIs slot_list_iter.lookup ?_)
  refine wpAny_pure ?_
  simp only[Bool.false_eq_true,if_false]
  refine wpAny_bind (wpAny_holding (wpAny_pyIter_list ht ?_))
  refine wpAny_bind (wpAny_holding (Pg bG items.size 0 _ _ ⟨_,Heap.get?_push_size _ rfl,rfl,rfl⟩ (ht.push _) (by omega) fun h₁ A8 sZ=> ?_))
  have Ad:List.take items.size (List.drop 0 items.toList)=items.toList:=by
   rw[List.drop_zero];exact List.take_of_length_le (by simp)
  rw[Ad]
  rw[if_neg (by simp)]
  have ht₁:h₁.IsList t items:=(ht.push _).extBut sZ.extBut bG
  refine wpAny_bind (wpAny_holding (wpAny_pyNext_list_end hh A8 ht₁ (by simp) fun h₂ he₂=> ?_))
  simp only[Option.isSome_none,Bool.false_eq_true,if_false]
  refine wpAny_pure (hQ h₂ fun b o hb e=>he₂ b o hb (sZ.extBut b o hb (Heap.get?_push_of_some _ e)))
theorem acn{env:Env}{elts:List Expr}{x1}{pos:Pos}{t:Addr}{items:Array Value}{Q:Unit→Shared→Prop}(hh:A.handled=none)(ht:s.heap.IsList t items)
  (hn:(assignEach elts env).length=items.size) (aco:(assignEach elts env).findIdx? (·.1)=none)
  (h: ∀h',Heap.ExtBut s.heap.objs.size s.heap h'→wpAny (model prog w) A (assignInOrder ((assignEach elts env).map (·.2)) items.toList) Q E {s with heap:=h'}):
  wpAny (model prog w) A (assign (.Tuple elts x1 pos) env (.ref t)) Q E s:=by
 rw[assign_Tuple]
 refine wpAny_bind (wpAny_standAt ?_)
 unfold unpack
 rw[hn,aco]
 exact wpAny_bind (wpAny_holding (acj hh ht h))
end
def qv(K:PySem.W.Frag)(n:Nat)(t:jd):TG:=fun v σ H Q=> ∃a xs,v= .ref a∧(bq K H a xs∨aP K H a xs)∧xs.length=n∧t xs σ H Q
theorem acp{X:Cx}{es:List Expr}{k:Nat}{t:jd}{n:Nat}{pos:Pos}(hc:X.calm=true)(h:pV X es t)
  (hn:(assignEach es X.env).length=n) (kA:(assignEach es X.env).findIdx? (·.1)=none):PG X (.Tuple es k pos) (qv X.K n t):=by
 intro pins s σ H v u Q I r hw
 obtain⟨a,xs,e1,hq,hl,hw⟩:=hw
 rcases hq with hq | hq
 ·exact MT hc h hn kA pins s σ H v u Q I r ⟨a,xs,e1,hq,hl,hw⟩
 ·subst e1
  cases r
  obtain⟨its,rv,ht,hz⟩:=I.list hq
  refine acn (I.ok.hd hc) ht.isList (by simp[hn,←hl,rv.length]) kA fun h' hx=> ?_
  have I1:Inv X pins σ H {s with heap:=h'}:=I.kept (t':=s.toks) fun b o e=>hx b o (Nat.ne_of_lt (Heap.lt_size e)) e
  exact h pins _ σ H xs _ Q I1 (by simpa using rv) hw
def m5:List Nat→jd
 | []=>zF
 | i::r=>vv (fZ i) (m5 r)
def gSl(to:TE)(tl th:TO):TG:=fun v σ H Q=>to σ H fun o H1=>tl σ H1 fun i H2=>th σ H2 fun j H3=> ∃l b xs ys a c,o= .ref l∧v= .ref b∧i=some a∧j=some c∧H3 l=some (.lst xs)∧H3 b=some (.lst ys)∧l≠b∧
 0≤a∧a≤c∧c≤xs.length∧xs.length+ys.length≤sizeLine∧Q σ (upd H3 l (.lst (xs.take a.toNat++ys++xs.drop c.toNat)))
mutual
def bh(Γ:aC):RS→TS
 | .asg i e=>mD (ak Γ e) (fZ i)
 | .aaB i e=>mD (ak Γ e) (fZ i)
 | .set o ix e=>mD (ak Γ e) (MU (ak Γ o) (ak Γ ix) z7)
 | .dput o i e=>Zy (ak Γ o) (ak Γ i) (ak Γ e)
 | .drop e=>MN (ak Γ e)
 | .ret e=>MO (ak Γ e)
 | .aaC=>Xh
 | .ite c t e=>MP (bH Γ c) (aw Γ t) (aw Γ e)
 | .jo i k its body=>vw (iM Γ k its) (fZ i) (aw Γ body)
 | .qd is k its body=>vw (iM Γ k its) (qv Γ.K is.length (m5 is)) (aw Γ body)
 | .kU c body=>MV (bH Γ c) (aw Γ body)
 | .pass=>zD
 | .brk=>Xd
 | .cont=>MM
 | .never=>Xj
 | .aaD o lo hi e=>mD (ak Γ e) (gSl (ak Γ o) (vI (ak Γ lo)) (vI (ak Γ hi)))
 | .jq o f e=>zR Γ.K (ak Γ o) (ak Γ e) f
 | .aaE is e=>mD (ak Γ e) (qv Γ.K is.length (m5 is))
 | .gE j as=>Av (Γ.ex j) Γ.E (bI Γ as)
 | .sI n i j body su=>fun D σ H=> ∃C,Γ.gv j= .ref C∧v8 Γ.K C i n (fun E=>aw {Γ with E:=E} body) (fun ea=>aw {Γ with E:=E0,hv:=some ea} su) D σ H
def aw(Γ:aC):List RS→TS
 | []=>zD
 | s::r=>MK (bh Γ s) (aw Γ r)
end
def A9:Expr→Bool
 | .Slice ..=>false | _=>true
def wD:Expr→Bool
 | .ListComp ..=>false | .SetComp ..=>false | .DictComp ..=>false | _=>true
def qw(N:List Str)(sc:Scope):List Nat→List Str→Bool
 | [],xs=>xs.isEmpty
 | i::r,xs=>match xs with
  | []=>false
  | x::t=>decide (N[i]?=some x) && loc sc x && qw N sc r t
structure aQ (CX:aK) (S:cN) (Γ:aC) (X:Cx):Prop extends Good CX S Γ X where
 nd:S.N.Nodup
 lA: ∀x,X.fn x=true
 own:PassesOwn (model X.prog X.w) X.A X.env X.xe
 qx:X.env.scope.kind= .function
 rs: ∀(j:Nat) (x:Str),S.en[j]?=some x→Raises X Γ.E
 hJ:X.stack=X.env::X.outer
 e7:X.env.frame=some X.env.locals
 m6:X.ex=[]
 m8:CX=ef X.prog X.w
def qV(S:cN)(i:Nat)(x:Str):Bool:=decide (S.N[i]?=some x) && Az S.sc x && !(x==("__debug__":Str)) && !(x==("__classdict__":Str))
def kG(S:cN)(j:Nat)(x:Str):Bool:=decide (S.gn[j]?=some x) && jZ S.sc x && !(x==("__debug__":Str))
def kF(S:cN)(j:Nat)(x:Str):Bool:=decide (S.fn[j]?=some x) && jZ S.sc x && !(x==("__debug__":Str))
def kK(S:cN)(j:Nat)(x:Str):Bool:=decide (S.kn[j]?=some x) && jZ S.sc x && !(x==("__debug__":Str))
def kB(S:cN)(x y:Str):Bool:=decide (x=y) && jZ S.sc x && S.bl.contains x
def kM(o:Expr)(m:Str)(x:Str)(n:Nat)(a c:Pos):Bool:=decide (x=m) && mX o && (a.endLine==c.line) && decide (n<29)
def kL(S:cN)(i:Nat)(x:Str):Bool:=decide (S.N[i]?=some x) && loc S.sc x
section
variable {CX:aK} {S:cN} {Γ:aC} {X:Cx} {e e2 a b c d:Expr} {es:List Expr} {x:Str} {p q pos:Pos} {r ra rb rc:RE} {rs:List RE} {i j:Nat}
theorem aa(G:Good CX S Γ X)(h:qV S i x=true:=by kernel_rfl):PE X (.Name x p) (ak Γ (.v i)):=by
 simp only[qV,Bool.and_eq_true,decide_eq_true_eq,Bool.not_eq_true'] at h
 exact W2 (by rw[G.N];exact h.1.1.1) (by rw[G.sc];exact aaM h.1.1.2) h.1.2 h.2
theorem aq{v:Int}{k:Nat}:PE X (.Constant (.int v) k p) (ak Γ (.c (.int v))):=W3
theorem aI{v:Str}{k:Nat}:PE X (.Constant (.str v) k p) (ak Γ (.c (.str v))):=W6
theorem fE{v:Bool}{k:Nat}:PE X (.Constant (.bool v) k p) (ak Γ (.c (.bl v))):=W4
theorem d0{k:Nat}:PE X (.Constant .none k p) (ak Γ (.c .az)):=W5
theorem fF(G:Good CX S Γ X)(h:kG S j x=true:=by kernel_rfl):PE X (.Name x p) (ak Γ (.g j)):=by
 simp only[kG,Bool.and_eq_true,decide_eq_true_eq,Bool.not_eq_true'] at h
 obtain⟨u,hm,r⟩:=G.jr j x h.1.1
 exact MA (G.gl h.1.2) hm r h.2
theorem aD{op:Operator}(G:Good CX S Γ X)(ha:PE X a (ak Γ ra))(hb:PE X b (ak Γ rb)):PE X (.BinOp a op b p) (ak Γ (.bin op ra rb)):=by
 show PE X _ (d9 (mT Γ.K op) (ak Γ ra) (ak Γ rb))
 rw[←G.K]
 exact Xy (Z_ op) ha hb
theorem m9(ha:PE X a (ak Γ ra)):PE X (.UnaryOp .USub a p) (ak Γ (.neg ra)):=Xz aca ha
theorem e9{op:CmpOp}(G:Good CX S Γ X)(ha:PE X a (ak Γ ra))(hb:PE X b (ak Γ rb))(hm:behindInMarks op b=false:=by kernel_rfl):PE X (.Compare a [op] [b] p) (ak Γ (.cmp op ra rb)):=by
 show PE X _ (d9 (cC Γ.K op) (ak Γ ra) (ak Γ rb))
 rw[←G.K]
 exact XY (vZ G.units op) ha hb hm
theorem A_{op dU:CmpOp}(G:Good CX S Γ X)(ha:PE X a (ak Γ ra))(hb:PE X b (ak Γ rb))(hc:PE X c (ak Γ rc))(hm:lastMarks [op,dU] [b,c]=false:=by kernel_rfl):PE X (.Compare a [op,dU] [b,c] p) (ak Γ (.jn op dU ra rb rc)):=by
 show PE X _ (vC (cC Γ.K op) (cC Γ.K dU) (ak Γ ra) (ak Γ rb) (ak Γ rc))
 rw[←G.K]
 exact X0 (vZ G.units op) (vZ G.units dU) ha hb hc hm
theorem j8(h:PE X e (ak Γ r)):PE X (.BoolOp .And [e] p) (ak Γ (.and [r])):=MH h
theorem jt{r2:RE}(h:PE X e (ak Γ r))(t:PE X (.BoolOp .And (e2::es) p) (ak Γ (.and (r2::rs)))):PE X (.BoolOp .And (e::e2::es) p) (ak Γ (.and (r::r2::rs))):=W8 h t
theorem acr(h:PE X e (ak Γ r)):PE X (.BoolOp .Or [e] p) (ak Γ (.or [r])):=MH h
theorem acs{r2:RE}(h:PE X e (ak Γ r))(t:PE X (.BoolOp .Or (e2::es) p) (ak Γ (.or (r2::rs)))):PE X (.BoolOp .Or (e::e2::es) p) (ak Γ (.or (r::r2::rs))):=W9 h t
theorem Ba(G:Good CX S Γ X)(ha:PE X a (ak Γ ra)):PE X (.UnaryOp .Not a p) (ak Γ (.not ra)):=by
 show PE X _ (Ax Γ.K (ak Γ ra))
 rw[←G.K]
 exact acb ha
theorem qy(hc:PT X c (bH Γ rc))(ha:PE X a (ak Γ ra))(hb:PE X b (ak Γ rb)):PE X (.IfExp c a b p) (ak Γ (.jY rc ra rb)):=W_ hc ha hb
theorem Ph:PE X (.Dict [] [] p) (ak Γ .qc):=abQ
theorem ai:PA X [] (bI Γ []):=pZ
theorem ae(h:PE X e (ak Γ r))(t:PA X es (bI Γ rs))(hs:noStar e=true:=by kernel_rfl):PA X (e::es) (bI Γ (r::rs)):=kN h t (dG hs)
theorem aH(G:Good CX S Γ X)(hA:PA X (e::es) (bI Γ (r::rs)))(h:kF S j x=true:=by kernel_rfl)(hn:e8 (e::es)=true:=by kernel_rfl)(hq:S.md=0:=by rfl):PE X (.Call (.Name x p) (e::es) [] pos) (ak Γ (.call j (r::rs))):=by
 simp only[kF,Bool.and_eq_true,decide_eq_true_eq,Bool.not_eq_true'] at h
 obtain⟨k,f,fd,ps,F,hr,hm,hk,hb⟩:=G.fns hq j x h.1.1
 exact Yr F hr (G.gl h.1.2) hm hk hb .nil G.pass hA h.2 (dG (dm hn).1) (iO _ _ es (dm hn).2)
theorem acu(G:Good CX S Γ X)(h:kK S j x=true:=by kernel_rfl)(hq:S.md=0:=by rfl):PE X (.Call (.Name x p) [] [] pos) (ak Γ (.make j [])):=by
 simp only[kK,Bool.and_eq_true,decide_eq_true_eq,Bool.not_eq_true'] at h
 obtain⟨k,f,fd,ps,M,F,hr,hm,hb⟩:=G.j6 hq j x h.1.1
 exact Yt M F hr (G.gl h.1.2) hm hb .nil G.pass h.2
theorem Pj(G:Good CX S Γ X)(hA:PA X (e::es) (bI Γ (r::rs)))(h:kK S j x=true:=by kernel_rfl)(hn:e8 (e::es)=true:=by kernel_rfl)(hq:S.md=0:=by rfl):PE X (.Call (.Name x p) (e::es) [] pos) (ak Γ (.make j (r::rs))):=by
 simp only[kK,Bool.and_eq_true,decide_eq_true_eq,Bool.not_eq_true'] at h
 obtain⟨k,f,fd,ps,M,F,hr,hm,hb⟩:=G.j6 hq j x h.1.1
 exact Ys M F hr (G.gl h.1.2) hm hb .nil G.pass hA h.2 (dG (dm hn).1) (iO _ _ es (dm hn).2)
theorem cw{t:jX}(G:Good CX S Γ X)(hA:PA X (e::es) (bI Γ (r::rs)))(h:kB S x t.nm=true:=by kernel_rfl)(hn:e8 (e::es)=true:=by kernel_rfl)(hq:S.md=0:=by rfl):PE X (.Call (.Name x p) (e::es) [] pos) (ak Γ (.blt t (r::rs))):=by
 simp only[kB,Bool.and_eq_true,decide_eq_true_eq] at h
 obtain⟨⟨rfl,h2⟩,h3⟩:=h
 have n1:t.nm≠"__name__":=by cases t<;>decide
 have n2:(t.nm==("__debug__":Str))=false:=by cases t<;>decide
 show PE X _ (dD (mV Γ.K t) (bI Γ (r::rs)))
 rw[←G.K]
 cases abR (X:=X) (G.calm hq) t with
 | fn id hv hc=>exact vF hc (G.gl h2) (G.dj _ h3) hv hA n1 n2 (dG (dm hn).1) (iO _ _ es (dm hn).2)
 | ty T hv hc=>exact Yv hc (G.gl h2) (G.dj _ h3) hv hA n1 n2 (dG (dm hn).1) (iO _ _ es (dm hn).2)
theorem ju{T:Ty}{y:Str}(G:Good CX S Γ X)(ha:PE X a (ak Γ ra))(h:kB S x "isinstance"=true:=by kernel_rfl)(h2:kB S y (Str.ofString T.nm)=true:=by kernel_rfl)(hs:noStar a=true:=by kernel_rfl):PE X (.Call (.Name x p) [a, .Name y q] [] pos) (ak Γ (.dF T ra)):=by
 simp only[kB,Bool.and_eq_true,decide_eq_true_eq] at h h2
 obtain⟨⟨rfl,g2⟩,g3⟩:=h
 obtain⟨⟨rfl,k2⟩,k3⟩:=h2
 exact ab7 ha hs (G.gl g2) (G.dj _ g3) (G.gl k2) (G.dj _ k3)
theorem gf(G:Good CX S Γ X)(ha:PE X a (ak Γ ra))(hb:PE X b (ak Γ rb))(h:kB S x "isinstance"=true:=by kernel_rfl)(hn:e8 [a,b]=true:=by kernel_rfl):PE X (.Call (.Name x p) [a,b] [] pos) (ak Γ (.de ra rb)):=by
 simp only[kB,Bool.and_eq_true,decide_eq_true_eq] at h
 obtain⟨⟨rfl,g2⟩,g3⟩:=h
 show PE X _ (dD (jm Γ.K) (dc (ak Γ ra) (dc (ak Γ rb) gb)))
 rw[←G.K]
 exact vF aby (G.gl g2) (G.dj _ g3) AY (kN ha (kN hb pZ (dG (dm (dm hn).2).1)) (dG (dm hn).1)) (by decide) (by decide) (dG (dm hn).1) (iO _ _ _ (dm hn).2)
theorem acv{n:String}(G:Good CX S Γ X)(hv:bootBuiltins (Str.ofString n)=some (.type n))(h1:Str.ofString n≠"__name__")(h2:(Str.ofString n==("__debug__":Str))=false)(h:kB S x (Str.ofString n)=true:=by kernel_rfl):PE X (.Name x p) (ak Γ (.c (.ty n))):=by
 simp only[kB,Bool.and_eq_true,decide_eq_true_eq] at h
 obtain⟨⟨rfl,g2⟩,g3⟩:=h
 exact MB (G.gl g2) (G.dj _ g3) hv rfl h1 h2
def kH(S:cN)(j:Nat)(x:Str):Bool:=decide (S.hn[j]?=some x) && jZ S.sc x && !(x==("__debug__":Str))
theorem Bb(G:Good CX S Γ X)(ha:PE X a (ak Γ ra))(h:kH S j x=true:=by kernel_rfl)(hs:noStar a=true:=by kernel_rfl):PE X (.Call (.Name x p) [a] [] pos) (ak Γ (.kS j ra)):=by
 simp only[kH,Bool.and_eq_true,decide_eq_true_eq,Bool.not_eq_true'] at h
 obtain⟨k,f,fd,ps,F,hr,hm,hk,hb⟩:=G.j7 j x h.1.1
 exact abD F hr (G.gl h.1.2) hm hk hb G.lh ha hs h.2
theorem dH{m:iK}{o:Expr}{ro:RE}{ap:Pos}(G:Good CX S Γ X)(ho:PE X o (ak Γ ro))(hA:PA X (e::es) (bI Γ (r::rs)))(h:kM o m.nm x (es.length+1) ap pos=true:=by kernel_rfl)(hn:e8 (e::es)=true:=by kernel_rfl):PE X (.Call (.Attribute o x ap) (e::es) [] pos) (ak Γ (.cx m ro (r::rs))):=by
 simp only[kM,Bool.and_eq_true,decide_eq_true_eq] at h
 obtain⟨⟨⟨rfl,h2⟩,h3⟩,h4⟩:=h
 show PE X _ (wb Γ.K m (ak Γ ro) (bI Γ (r::rs)))
 rw[←G.K]
 exact acd ho hA h2 h3 h4 (dG (dm hn).1) (iO _ _ es (dm hn).2) (wA _ _ (e::es) hn)
theorem cG{f:Str}{ro:RE}(G:Good CX S Γ X)(ho:PE X a (ak Γ ro))(h:mX a=true:=by kernel_rfl):PE X (.Attribute a f p) (ak Γ (.fld ro f)):=by
 show PE X _ (vE Γ.K (ak Γ ro) f)
 rw[←G.K]
 exact Yk ho (mP h)
theorem iP{m:Str}{o:Expr}{ro:RE}{ap:Pos}(G:Good CX S Γ X)(ho:PE X o (ak Γ ro))(h:(kM o m m 0 ap pos && decide (S.mn[j]?=some m))=true:=by kernel_rfl)(hq:S.md=0:=by rfl):PE X (.Call (.Attribute o m ap) [] [] pos) (ak Γ (.cm j m ro [])):=by
 simp only[kM,Bool.and_eq_true,decide_eq_true_eq] at h
 obtain⟨⟨⟨⟨-,h2⟩,h3⟩, -⟩,h5⟩:=h
 exact acg (G.j5 hq j _ h5) G.pass ho h2 h3
theorem eh{m:Str}{o:Expr}{ro:RE}{ap:Pos}(G:Good CX S Γ X)(ho:PE X o (ak Γ ro))(hA:PA X (e::es) (bI Γ (r::rs)))(h:(kM o m m (es.length+1) ap pos && decide (S.mn[j]?=some m))=true:=by kernel_rfl)(hn:e8 (e::es)=true:=by kernel_rfl)(hq:S.md=0:=by rfl):PE X (.Call (.Attribute o m ap) (e::es) [] pos) (ak Γ (.cm j m ro (r::rs))):=by
 simp only[kM,Bool.and_eq_true,decide_eq_true_eq] at h
 obtain⟨⟨⟨⟨-,h2⟩,h3⟩,h4⟩,h5⟩:=h
 exact acf (G.j5 hq j _ h5) G.pass ho hA h2 h3 h4 (dG (dm hn).1) (iO _ _ es (dm hn).2) (wA _ _ (e::es) hn)
theorem acw(h:A9 b=true):NJ b:=fun o i=>by cases b<;>first | rfl | cases h
theorem aF(G:Good CX S Γ X)(ha:PE X a (ak Γ ra))(hb:PE X b (ak Γ rb))(h:A9 b=true:=by kernel_rfl):PE X (.Subscript a b p) (ak Γ (.ix ra rb)):=by
 show PE X _ (d9 (kY Γ.K Γ.sd) (ak Γ ra) (ak Γ rb))
 rw[←G.K]
 exact YK (abW G.j4) ha hb (acw h)
theorem m_{lo hi:Option Expr}{rl rh:Option RE}(G:Good CX S Γ X)(ha:PE X a (ak Γ ra))(hl:PO X lo (kZ Γ rl))(hh:PO X hi (kZ Γ rh)):PE X (.Subscript a (.Slice lo hi none q) p) (ak Γ (.sl ra rl rh)):=by
 show PE X _ (zZ (sL Γ.K) (ak Γ ra) (kZ Γ rl) (kZ Γ rh))
 rw[←G.K]
 exact YG ab_ ha hl hh
theorem Pk:PO X none (kZ Γ none):=YE
theorem ig(ha:PE X a (ak Γ ra)):PO X (some a) (kZ Γ (some ra)):=YF ha
theorem bK{k}(hA:PA X es (bI Γ rs)):PE X (.Tuple es k p) (ak Γ (.tup rs)):=Yo hA
theorem bU(hA:PA X es (bI Γ rs)):PE X (.List es p) (ak Γ (.lst rs)):=Yp hA
def Bc(CX:aK)(S:cN)(Γ:aC)(cond:Option RE)(ifs:List Expr):Prop:=match cond with
 | none=>ifs=[]
 | some r=> ∃e0,ifs=[e0]∧ ∀X,Good CX S Γ X→PT X e0 (bH Γ r)
theorem acx:Bc CX S Γ none []:=rfl
theorem Pl(h: ∀X,Good CX S Γ X→PT X e (bH Γ r)):Bc CX S Γ (some r) [e]:=⟨e,rfl,h⟩
def kC(S:cN)(tk:Option Nat)(tg iter:Expr)(sc:Scope)(k:IK)(ln:List Str)(fv:List (Str×Nat)):Bool:=decide (AD tk tg=some ln) && (decide (k≠ .zip) || tk.isSome) && AE S ⟨.Constant .none 0 ⟨0,0,0,0⟩,tg,iter,[],sc⟩ ln fv
abbrev cS(S:cN)(sc:Scope)(ln:List Str)(fv:List (Str×Nat)):cN:={S with N:=ln++fv.map (·.1),sc:=AA sc S.sc,en:=[],md:=if S.md=0 then 0 else 2}
theorem Be{tk:Option Nat}{fv:List (Str×Nat)}{k:IK}{its:List RE}{cond:Option RE}{elt:RE}{el tg iter:Expr}{ifs:List Expr}{sc:Scope}{ln:List Str}(G:Good CX S Γ X)(h:kC S tk tg iter sc k ln fv=true)(hi:PI X tg iter (iM Γ k its))
  (hc:Bc CX (cS S sc ln fv) Γ.calm cond ifs) (he: ∀X,Good CX (cS S sc ln fv) Γ.calm X→PE X el (ak Γ.calm elt)) (hq:S.md=0:=by rfl):PE X (.ListComp el [⟨tg,iter,ifs,0⟩] sc p) (ak Γ (.comp tk fv k its cond elt)):=by
 simp only[kC,Bool.and_eq_true,decide_eq_true_eq] at h
 obtain⟨⟨h1,h2⟩,h3⟩:=h
 obtain⟨o1,o2,o3,o4⟩:=abE (c:=⟨.Constant .none 0 ⟨0,0,0,0⟩,tg,iter,[],sc⟩) G h3
 show PE X _ (vQ Γ.K (iM Γ k its) tk fv (OL Γ.calm cond) (ak Γ.calm elt))
 rw[←G.K]
 refine Z4 o1 (G.calm hq) hi (abF (c:=⟨.Constant .none 0 ⟨0,0,0,0⟩,tg,iter,[],sc⟩) (G.calm hq) h1 o2 o3) ?_ (fun ex C s H=>he _ (G.inner ⟨.Constant .none 0 ⟨0,0,0,0⟩,tg,iter,[],sc⟩ ln fv ex C s H)) (AX o4)
 cases cond with
 | none=>exact hc
 | some r=>
  obtain⟨e0,q,hq⟩:=hc
  exact⟨e0,q,fun ex C s H=>hq _ (G.inner ⟨.Constant .none 0 ⟨0,0,0,0⟩,tg,iter,[],sc⟩ ln fv ex C s H)⟩
theorem e_(h:PT X a (bH Γ ra)):PT X (.UnaryOp .Not a p) (bH Γ (.not ra)):=W7 h
theorem qA(h:PT X e (bH Γ r)):PW X (.BoolOp .And [e] p) (bH Γ (.and [r])):=pw_and1 h
theorem lB{r2:RE}(h:PT X e (bH Γ r))(t:PW X (.BoolOp .And (e2::es) p) (bH Γ (.and (r2::rs)))):PW X (.BoolOp .And (e::e2::es) p) (bH Γ (.and (r::r2::rs))):=pw_and h t
theorem jv(h:PT X e (bH Γ r)):PW X (.BoolOp .Or [e] p) (bH Γ (.or [r])):=pw_or1 h
theorem gF{r2:RE}(h:PT X e (bH Γ r))(t:PW X (.BoolOp .Or (e2::es) p) (bH Γ (.or (r2::rs)))):PW X (.BoolOp .Or (e::e2::es) p) (bH Γ (.or (r::r2::rs))):=pw_or h t
theorem bo{op:CmpOp}(G:Good CX S Γ X)(ha:PE X a (ak Γ ra))(hb:PE X b (ak Γ rb))(hm:behindInMarks op b=false:=by kernel_rfl):PT X (.Compare a [op] [b] p) (bH Γ (.cmp op ra rb)):=by
 show PT X _ (pY (d9 (cC Γ.K op) (ak Γ ra) (ak Γ rb)))
 rw[←G.K]
 exact XZ (vZ G.units op) ha hb hm
theorem t_v(G:Good CX S Γ X)(h:PE X (.Name x p) (ak Γ (.v i))):PT X (.Name x p) (bH Γ (.v i)):=by
 show PT X _ (eF Γ.K (ak Γ (.v i)))
 rw[←G.K]
 exact sY h fun _=>rfl
theorem gG(G:Good CX S Γ X)(h:PE X (.Call a es [] p) (ak Γ (.call j rs))):PT X (.Call a es [] p) (bH Γ (.call j rs)):=by
 show PT X _ (eF Γ.K (ak Γ (.call j rs)))
 rw[←G.K]
 exact sY h fun _=>rfl
theorem Pm(G:Good CX S Γ X)(h:PE X (.Call a es [] p) (ak Γ (.de ra rb))):PT X (.Call a es [] p) (bH Γ (.de ra rb)):=by
 show PT X _ (eF Γ.K (ak Γ (.de ra rb)))
 rw[←G.K]
 exact sY h fun _=>rfl
theorem wF{T:Ty}(G:Good CX S Γ X)(h:PE X (.Call a es [] p) (ak Γ (.dF T ra))):PT X (.Call a es [] p) (bH Γ (.dF T ra)):=by
 show PT X _ (eF Γ.K (ak Γ (.dF T ra)))
 rw[←G.K]
 exact sY h fun _=>rfl
theorem lE{tg:Expr}(G:Good CX S Γ X)(ha:PE X a (ak Γ ra)):PI X tg a (iM Γ .list [ra]):=by
 show PI X tg a (zI Γ.K (ak Γ ra))
 rw[←G.K]
 exact Xs ha
theorem Bf{tg:Expr}(G:Good CX S Γ X)(ha:PE X a (ak Γ ra))(h:kB S x "range"=true:=by kernel_rfl)(hs:noStar a=true:=by kernel_rfl):PI X tg (.Call (.Name x p) [a] [] pos) (iM Γ .gu [ra]):=by
 simp only[kB,Bool.and_eq_true,decide_eq_true_eq] at h
 obtain⟨⟨rfl,h2⟩,h3⟩:=h
 exact Xv (G.gl h2) (G.dj _ h3) (kN ha pZ (dG hs)) (dG hs)
theorem acz{ts:List Expr}{k}{tp:Pos}(G:Good CX S Γ X)(ha:PE X a (ak Γ ra))(h:kB S x "enumerate"=true:=by kernel_rfl)(hs:noStar a=true:=by kernel_rfl):PI X (.Tuple ts k tp) (.Call (.Name x p) [a] [] pos) (iM Γ .Aw [ra]):=by
 simp only[kB,Bool.and_eq_true,decide_eq_true_eq] at h
 obtain⟨⟨rfl,h2⟩,h3⟩:=h
 show PI X _ _ (Ay Γ.K (dc (ak Γ ra) (bI Γ [])))
 rw[←G.K]
 exact aaU (G.gl h2) (G.dj _ h3) (kN ha pZ (dG hs)) (dG hs)
end
section
variable {CX:aK} {S:cN} {Γ:aC} {X:Cx} {e a b c v:Expr} {es:List Expr} {x:Str} {p q pos:Pos} {r ra rb rc:RE} {i j:Nat} {st:Stmt} {Pn:List Stmt} {s:RS} {ss t u:List RS}
theorem Bg{v:Expr}{t:Option Expr}{l:Nat}{env:Env}(h:wD v=true):swapsWith v t l env=pure false:=by
 cases v<;>first | rfl | cases h
theorem acA{v:Expr}{x:Str}{p:Pos}{l:Nat}{env:Env}(h:env.kindOf x=some .cell):swapsWith v (some (.Name x p)) l env=pure false:=by
 cases v<;>first
  | rfl
  | (unfold swapsWith;simp only[h];have q:(some NameKind.cell==some NameKind.local)=false:=rfl;simp only[q,Bool.and_false,Bool.false_and])
theorem acB{v o i:Expr}{p:Pos}{l:Nat}{env:Env}:swapsWith v (some (.Subscript o i p)) l env=pure false:=by
 cases v<;>rfl
theorem acC{v o i:Expr}{p:Pos}{env:Env}:swappedStores [.Subscript o i p] v env=pure none:=by
 cases v<;>rfl
theorem aQ.name(G:aQ CX S Γ X)(h:kL S i x=true):PG X (.Name x p) (fZ i):=by
 simp only[kL,Bool.and_eq_true,decide_eq_true_eq] at h
 exact vq (by rw[G.N];exact G.nd) (by rw[G.N];exact h.1) (by rw[G.sc];exact OO h.2) (.inl (G.lA x))
theorem aB:a_ X [] (aw Γ []):=ML
theorem aj(h:PS X st (bh Γ s))(t:a_ X Pn (aw Γ ss)):a_ X (st::Pn) (aw Γ (s::ss)):=Xb h t
theorem aR(G:aQ CX S Γ X)(he:PE X v (ak Γ r))(h:kL S i x=true:=by kernel_rfl)(hc:(wD v || decide (S.sc.names.lookup x=some .cell))=true:=by kernel_rfl):PS X (.Assign [.Name x p] v q) (bh Γ (.asg i r)):=by
 simp only[kL,Bool.and_eq_true,decide_eq_true_eq,Bool.or_eq_true] at h hc
 refine Xm (by rw[G.N];exact G.nd) (by rw[G.N];exact h.1) (by rw[G.sc];exact OO h.2) he ?_ (.inl (G.lA x))
 rcases hc with h4 | h4
 ·exact Bg h4
 ·exact acA (by show X.env.scope.names.lookup x=_;rw[G.sc];exact h4)
theorem acD(he:PE X v (ak Γ r))(ha:PE X a (ak Γ ra))(hb:PE X b (ak Γ rb))(h:A9 b=true:=by kernel_rfl):PS X (.Assign [.Subscript a b p] v q) (bh Γ (.set ra rb r)):=
 Xl he (Xk ha hb set_list (by intro w;cases b<;>first | rfl | cases h)) (by exact acB (o:=a) (i:=b) (p:=p) (l:=q.line) (env:=X.env)) acC rfl
theorem nh{f:Str}(G:aQ CX S Γ X)(ho:PE X a (ak Γ ra))(he:PE X v (ak Γ r))(h:wD v=true:=by kernel_rfl):PS X (.Assign [.Attribute a f p] v q) (bh Γ (.jq ra f r)):=by
 show PS X _ (zR Γ.K (ak Γ ra) (ak Γ r) f)
 rw[←G.K]
 exact Yl ho he (Bg h)
theorem eQ(he:PE X v (ak Γ r))(h:wD v=true:=by kernel_rfl):PS X (.Expr v p) (bh Γ (.drop r)):=Xf he (Bg h)
theorem aY(he:PE X v (ak Γ r)):PS X (.Return (some v) p) (bh Γ (.ret r)):=Xg he
theorem bC{as bs:List Stmt}(hc:PT X c (bH Γ rc))(ha:a_ X as (aw Γ t))(hb:a_ X bs (aw Γ u)):PS X (.If c as bs p) (bh Γ (.ite rc t u)):=Xi hc ha hb
theorem s_{as:List Stmt}(G:aQ CX S Γ X)(hc:PT X c (bH Γ rc))(ha:a_ X as (aw Γ t)):PS X (.While c as [] p) (bh Γ (.kU rc t)):=Xn G.own hc ha
theorem qB{k:IK}{its:List RE}{iter:Expr}{as:List Stmt}(G:aQ CX S Γ X)(hi:PI X (.Name x p) iter (iM Γ k its))(ha:a_ X as (aw Γ t))(h:kL S i x=true:=by kernel_rfl)(hs:sO iter=true:=by kernel_rfl)(hq:S.md=0:=by rfl):PS X (.For (.Name x p) iter as [] q) (bh Γ (.jo i k its t)):=
 MZ G.own (G.calm hq) hi (G.name h) ha (AX hs)
theorem Po(G:aQ CX S Γ X): ∀(is:List Nat) (xs:List (Str×Pos)),qw S.N S.sc is (xs.map (·.1))=true→
  pV X (xs.map fun y=> .Name y.1 y.2) (m5 is)∧(assignEach (xs.map fun y=>Expr.Name y.1 y.2) X.env).length=is.length∧(assignEach (xs.map fun y=>Expr.Name y.1 y.2) X.env).findIdx? (·.1)=none
 | [],xs,h=>by
  simp only[qw,List.isEmpty_iff,List.map_eq_nil_iff] at h
  subst h;exact⟨MR,rfl,rfl⟩
 | i::r,[],h=>by simp only[List.map_nil,qw] at h;cases h
 | i::r,y::t,h=>by
  simp only[List.map_cons,qw,Bool.and_eq_true] at h
  obtain⟨i1,i2,i3⟩:=Po G r t h.2
  refine⟨zG (G.name (by simp only[kL,Bool.and_eq_true];exact h.1)) i1 rfl, ?_, ?_⟩
  ·show(assignEach _ X.env).length+1=r.length+1
   rw[i2]
  ·show List.findIdx? (·.1) ((false,assign (.Name y.1 y.2) X.env)::assignEach _ X.env)=none
   rw[List.findIdx?_cons,i3];rfl
theorem Bh{is:List Nat}{k:IK}{its:List RE}{iter:Expr}{as:List Stmt}{kt}{tp:Pos}(xs:List (Str×Pos))(G:aQ CX S Γ X)(hi:PI X (.Tuple (xs.map fun y=> .Name y.1 y.2) kt tp) iter (iM Γ k its))(ha:a_ X as (aw Γ t))(h:qw S.N S.sc is (xs.map (·.1))=true:=by kernel_rfl)(hs:sO iter=true:=by kernel_rfl)(hq:S.md=0:=by rfl):
  PS X (.For (.Tuple (xs.map fun y=> .Name y.1 y.2) kt tp) iter as [] q) (bh Γ (.qd is k its t)):=by
 obtain⟨i1,i2,i3⟩:=Po G is xs h
 show PS X _ (vw (iM Γ k its) (qv Γ.K is.length (m5 is)) (aw Γ t))
 rw[←G.K]
 exact MZ G.own (G.calm hq) hi (acp (G.calm hq) i1 i2 i3) ha (AX hs)
def kX(S:cN)(j:Nat)(x:Str):Bool:=decide (S.en[j]?=some x) && jZ S.sc x && !(x==("__debug__":Str))
theorem iQ{rs:List RE}{np dZ:Pos}(G:aQ CX S Γ X)(hA:PA X (e::es) (bI Γ (r::rs)))(h:kX S j x=true:=by kernel_rfl)(hn:e8 (e::es)=true:=by kernel_rfl)(hq:S.md=0:=by rfl):PS X (.Raise (some (.Call (.Name x np) (e::es) [] dZ)) none pos) (bh Γ (.gE j (r::rs))):=by
 simp only[kX,Bool.and_eq_true,decide_eq_true_eq,Bool.not_eq_true'] at h
 obtain⟨bm,B,newId,qg,O,FB⟩:=G.qp j x h.1.1
 exact abe (G.calm hq) O FB (G.gl h.1.2) h.2 hA (dG (dm hn).1) (iO _ _ es (dm hn).2) (G.rs j x h.1.1)
abbrev tS(S:cN):cN:={S with en:=[]}
abbrev hS(S:cN):cN:={S with en:=[],md:=2}
theorem aQ.acE(G:aQ CX S Γ X)(pn:List (Addr×Obj))(xe:Value→Shared→Prop)(E:XK)(ho:PassesOwn (model X.prog X.w) X.A X.env xe)(hp:Passes (ef X.prog X.w) (X.alt X.A X.calm pn xe) E):
  aQ CX (tS S) {Γ with E:=E} (X.alt X.A X.calm pn xe):=
 {N:=G.N,sc:=G.sc,K:=G.K,calm:=G.calm,units:=G.units,fns:=G.fns,jr:=G.jr,dj:=G.dj,pass:=by rw[G.m8];exact hp,js:=G.js,j4:=G.j4,j5:=G.j5,j6:=G.j6,
  qp:=fun _ _ h=> (by simp at h),j7:=G.j7,lh:=G.lh,qu:=G.qu,nd:=G.nd,lA:=G.lA,own:=ho,qx:=G.qx,rs:=fun _ _ h=> (by simp at h),hJ:=G.hJ,e7:=G.e7,m6:=G.m6,m8:=G.m8}
theorem aQ.held(G:aQ CX S Γ X)(ea:Addr)(pn:List (Addr×Obj)):
  aQ CX (hS S) {Γ with E:=E0,hv:=some ea} (X.alt (X.A.mark (some (.ref ea))) false pn fun _ _=>False):=
 {N:=G.N,sc:=G.sc,K:=G.K,calm:=fun h=> (nomatch h),units:=G.units,fns:=fun h=> (nomatch h),jr:=G.jr,dj:=G.dj,pass:=fun _ _ _ _ _ _ _ h=> (G.js _ _ _ _ _ h).elim,js:=G.js,j4:=G.j4,j5:=fun h=> (nomatch h),j6:=fun h=> (nomatch h),
  qp:=fun _ _ h=> (by simp at h),j7:=fun j x h=> (by
   obtain⟨k,f,fd,ps,F,r,m⟩:=G.j7 j x h
   exact⟨k,f,fd,ps,F,r.mark _,m⟩),
  lh:=fun e h=> (by cases h;rfl),qu:=fun h=> (nomatch h),nd:=G.nd,lA:=G.lA,own:=PassesOwn.never,qx:=G.qx,rs:=fun _ _ h=> (by simp at h),hJ:=G.hJ,e7:=G.e7,m6:=G.m6,m8:=G.m8}
theorem Bi{n:Nat}{y:Str}{np qj:Pos}{body su:List Stmt}{b₀:Stmt}{rb tm:List RS}(G:aQ CX S Γ X)(h:kG S j x=true)(hn:(decide (S.N.length=n) && decide (S.N[i]?=some y) && decide (S.sc.names.lookup y=some .local))=true)
  (hb: ∀{Γ:aC} {X:Cx},aQ CX (tS S) Γ X→a_ X body (aw Γ rb)) (hs: ∀{Γ:aC} {X:Cx},aQ CX (hS S) Γ X→a_ X (b₀::su) (aw Γ tm)):
  PS X (.Try body [.ExceptHandler (some (.Name x np)) (some y) (b₀::su) qj] [] [] pos) (bh Γ (.sI n i j rb tm)):=by
 simp only[kG,Bool.and_eq_true,decide_eq_true_eq,Bool.not_eq_true'] at h hn
 obtain⟨u,hm,hu⟩:=G.jr j x h.1.1
 intro pins s σ H D I q
 obtain⟨C,e,q⟩:=(show ∃C,Γ.gv j= .ref C∧v8 Γ.K C i n (fun E=>aw {Γ with E:=E} rb) (fun ea=>aw {Γ with E:=E0,hv:=some ea} tm) D σ H from q)
 rw[e] at hu
 have sA:u= .ref C:=hu
 subst sA
 have hl:X.N.length=n:=by rw[G.N];exact hn.1.1
 have q':v8 X.K C i X.N.length (fun E=>aw {Γ with E:=E} rb) (fun ea=>aw {Γ with E:=E0,hv:=some ea} tm) D σ H:=by rw[G.K,hl];exact q
 exact abh (tb:=fun E=>aw {Γ with E:=E} rb) (th:=fun ea=>aw {Γ with E:=E0,hv:=some ea} tm) G.hJ G.e7 G.m6 (G.gl h.1.2) h.2 hm (by rw[G.N];exact G.nd) (by rw[G.N];exact hn.1.2) (by rw[G.sc];exact hn.2)
  (fun pn xe E ho hp=>hb (G.acE pn xe E ho hp)) (fun ea pn=>hs (G.held ea pn)) pins s σ H D I q'
theorem acF:PS X (.Continue p) (bh Γ .cont):=Xe
end
section
variable {P:Program} {w:World} {K:PySem.W.Frag} {mg:Str→Option Value} {base:Heap}
def bM(P:Program)(w:World)(K:PySem.W.Frag)(mg:Str→Option Value)(base:Heap)(k:Nat)(x:Str)(sp:Sp):Prop:=
 ∃f fd ps,ck P w K mg base (ef P w) k f fd ps sp∧mg x=some (.ref f)∧keepIn K (.ref f)=true∧Binds K fd ps []
theorem bM.mono{j k:Nat}{x:Str}{sp:Sp}(h:bM P w K mg base j x sp)(hk:j≤k):bM P w K mg base k x sp:=by
 obtain⟨f,fd,ps,F,r⟩:=h
 exact⟨f,fd,ps,F.mono hk,r⟩
def lG(tab:List (Str×Sp))(j:Nat):Sp:=match tab[j]? with
 | some p=>p.2
 | none=>fun _ _ _ _=>False
def ni(tab:List (Str×V))(j:Nat):V:=match tab[j]? with
 | some p=>p.2
 | none=> .az
structure eG (mg:Str→Option Value) (p:Str×V):Prop where
 ex: ∃u,mg p.1=some u∧RelV p.2 u
def jw(tab:List (Str×Addr×Sp))(j:Nat):Addr×Sp:=match tab[j]? with
 | some p=>p.2
 | none=> (0,fun _ _ _ _=>False)
def wG(tab:List (Str×Addr))(j:Nat):Addr:=match tab[j]? with
 | some p=>p.2
 | none=>0
abbrev aW(K:PySem.W.Frag)(tab:List (Str×Sp))(gt:List (Str×V))(dk:List (Addr×List (Key×V)):=[])(mt kt:List (Str×Addr×Sp):=[])(et:List (Str×Addr):=[])(ht:List (Str×Sp):=[])(E:XK:=E0):aC:=
 {K:=K,fs:=lG tab,gv:=ni gt,E:=E,sd:=fun p aX=> (p,aX)∈dk,ms:=jw mt,kt:=jw kt,ex:=wG et,hs:=lG ht,hv:=none}
def dI(P:Program)(w:World)(K:PySem.W.Frag)(mg:Str→Option Value)(base:Heap)(k:Nat)(p:Str×Addr×Sp):Prop:=
 fu K p.2.1∧ ∃f fd ps,Meth K p.2.1 p.1 f∧ck P w K mg base (ef P w) k f fd ps p.2.2∧Binds K fd ps []
def qC(P:Program)(w:World)(K:PySem.W.Frag)(mg:Str→Option Value)(base:Heap)(k:Nat)(p:Str×Addr×Sp):Prop:=
 ∃j f fd ps,j+1≤k∧Mk K p.2.1 f∧ck P w K mg base (ef P w) j f fd ps p.2.2∧mg p.1=some (.ref p.2.1)∧Binds K fd ps []
theorem dI.mono{j k:Nat}{p:Str×Addr×Sp}(h:dI P w K mg base j p)(hk:j≤k):dI P w K mg base k p:=by
 obtain⟨c,f,fd,ps,m,F,b⟩:=h
 exact⟨c,f,fd,ps,m,F.mono hk,b⟩
theorem qC.mono{j k:Nat}{p:Str×Addr×Sp}(h:qC P w K mg base j p)(hk:j≤k):qC P w K mg base k p:=by
 obtain⟨i,f,fd,ps,m,r⟩:=h
 exact⟨i,f,fd,ps,Nat.le_trans m hk,r⟩
def DkT(P:Program)(w:World)(K:PySem.W.Frag)(q:Addr×List (Key×V)):Prop:= ∀h:Heap,K.In h→ ∃vs,KV q.2 vs∧h.DictOf (i9 P w) q.1 vs
abbrev aU(N:List Str)(sc:Scope)(tab:List Str)(gt:List Str)(bl:List Str)(mn kn:List Str:=[])(en hn:List Str:=[])(md:Nat:=0):cN:={N:=N,sc:=sc,fn:=tab,gn:=gt,bl:=bl,mn:=mn,kn:=kn,en:=en,hn:=hn,md:=md}
def qD(mg:Str→Option Value)(base:Heap)(p:Str×Addr):Prop:= ∃bm B newId qg,OwnCls p.1 p.2 bm newId mg base∧ExcBaseFacts B newId qg bm
def qE(P:Program)(w:World)(K:PySem.W.Frag)(mg:Str→Option Value)(base:Heap)(k:Nat)(x:Str)(sp:Sp):Prop:=
 ∃f fd ps,m4 P w K mg base k f fd ps sp∧mg x=some (.ref f)∧keepIn K (.ref f)=true∧Binds K fd ps []
theorem qE.mono{P:Program}{w:World}{K:PySem.W.Frag}{mg:Str→Option Value}{base:Heap}{j k:Nat}{x:Str}{sp:Sp}(h:qE P w K mg base j x sp)(hk:j≤k):qE P w K mg base k x sp:=by
 obtain⟨f,fd,ps,F,r⟩:=h
 exact⟨f,fd,ps,F.mono hk,r⟩
theorem br{x qual:Str}{st:Stmt}{f:Addr}{fd:FuncData}{N ps:List Str}{k:Nat}{sp:Sp}(F:iG K x qual st f fd)(S:bw N ps (ax st))
  (tab:List (Str×Sp)) (gt:List (Str×V)) (bl:List Str) (mt kt:List (Str×Addr×Sp)) (et:List (Str×Addr)) (ht:List (Str×Sp)) (body:List RS)
  (hm: ∀{CX:aK} {Γ:aC} {X:Cx},aQ CX (aU N (ax st) (tab.map (·.1)) (gt.map (·.1)) bl (mt.map (·.1)) (kt.map (·.1)) (et.map (·.1)) (ht.map (·.1))) Γ X→a_ X (aA st) (aw Γ body))
  (hfs: ∀p∈tab,bM P w K mg base k p.1 p.2) (Bj: ∀p∈gt,eG mg p) (Bk: ∀y∈bl,mg y=none) (dk:List (Addr×List (Key×V))) (hdk: ∀q∈dk,DkT P w K q)
  (hmt: ∀p∈mt,dI P w K mg base k p) (hkt: ∀p∈kt,qC P w K mg base k p) (het: ∀p∈et,qD mg base p) (hht: ∀p∈ht,qE P w K mg base k p.1 p.2)
  (len: ∀vs H Q E,sp vs H Q E→vs.length=ps.length)
  (Bl: ∀vs H Q E,sp vs H Q E→aw (aW K tab gt dk mt kt et ht E) body {nx:=fun _ H'=>Q .az H',rt:=Q} (start N vs) H):ck P w K mg base (ef P w) (k+1) f fd ps sp:=by
 obtain⟨oc,od,kV,doc,pm,an,bQ,ct,hZ,rfl,lk,fq⟩:=F.ex
 refine Nu lk fq S len fun A outer s H vs Q E hr gA=> ⟨_,hm (CX:=ef P w) (Γ:=aW K tab gt dk mt kt et ht E) ?_,Bl vs H Q E gA⟩
 refine {N:=rfl,sc:=rfl,K:=rfl,calm:=fun _=>rfl,units:=hr.units,fns:=fun _ j y hj=> ?_,jr:=fun j y hj=> ?_,dj:=fun y hy=> ?_,pass:=abc,js:=fun _ _ _ _ _ h=>wk h,j4:=fun p aX h=>hdk _ h,j5:=fun _ j y hj=> ?_,j6:=fun _ j y hj=> ?_,qp:=fun j y hj=> ?_,j7:=fun j y hj=> ?_,lh:=fun _ h=> (nomatch h),qu:=fun h=> (nomatch h),nd:=S.nd,lA:=fun _=>rfl,own:=PassesOwn.leaving,qx:=S.kind,rs:=fun _ _ _=>abd,hJ:=rfl,e7:=rfl,m6:=rfl,m8:=rfl}
 ·have bO:(tab.map (·.1))[j]?=some y:=hj
  rw[List.getElem?_map] at bO
  cases q:tab[j]? with
  | none=>rw[q] at bO;cases bO
  | some p=>
   rw[q] at bO
   have e:p.1=y:=Option.some.inj bO
   obtain⟨f',nj,nk,F',m',k',b'⟩:=hfs p (List.mem_of_getElem? q)
   have es:lG tab j=p.2:=by unfold lG;rw[q]
   show O1 (ef P w) _ y (lG tab j)
   rw[es,←e]
   exact⟨k,f',nj,nk,F',hr,m',k',b'⟩
 ·have bO:(gt.map (·.1))[j]?=some y:=hj
  rw[List.getElem?_map] at bO
  cases q:gt[j]? with
  | none=>rw[q] at bO;cases bO
  | some p=>
   rw[q] at bO
   have e:p.1=y:=Option.some.inj bO
   obtain⟨u,h1,h2⟩:=(Bj p (List.mem_of_getElem? q)).ex
   have es:ni gt j=p.2:=by unfold ni;rw[q]
   show ∃u,mg y=some u∧RelV (ni gt j) u
   rw[es,←e]
   exact⟨u,h1,h2⟩
 ·exact Bk y (by simpa using hy)
 ·have bO:(mt.map (·.1))[j]?=some y:=hj
  rw[List.getElem?_map] at bO
  cases q:mt[j]? with
  | none=>rw[q] at bO;cases bO
  | some p=>
   rw[q] at bO
   have e:p.1=y:=Option.some.inj bO
   obtain⟨c,f',nj,nk,m',F',b'⟩:=hmt p (List.mem_of_getElem? q)
   have es:jw mt j=p.2:=by unfold jw;rw[q]
   show wy (ef P w) _ (jw mt j).1 y (jw mt j).2
   rw[es,←e]
   exact⟨c,k,f',nj,nk,m',F',hr,b'⟩
 ·have bO:(kt.map (·.1))[j]?=some y:=hj
  rw[List.getElem?_map] at bO
  cases q:kt[j]? with
  | none=>rw[q] at bO;cases bO
  | some p=>
   rw[q] at bO
   have e:p.1=y:=Option.some.inj bO
   obtain⟨i,f',nj,nk,hi,m',F',g',b'⟩:=hkt p (List.mem_of_getElem? q)
   have es:jw kt j=p.2:=by unfold jw;rw[q]
   show O2 (ef P w) _ y (jw kt j).1 (jw kt j).2
   rw[es,←e]
   exact⟨i,f',nj,nk,m',F',hr.mono hi,g',b'⟩
 ·have bO:(et.map (·.1))[j]?=some y:=hj
  rw[List.getElem?_map] at bO
  cases q:et[j]? with
  | none=>rw[q] at bO;cases bO
  | some p=>
   rw[q] at bO
   have e:p.1=y:=Option.some.inj bO
   have es:wG et j=p.2:=by unfold wG;rw[q]
   show O4 _ y (wG et j)
   rw[es,←e]
   exact het p (List.mem_of_getElem? q)
 ·have bO:(ht.map (·.1))[j]?=some y:=hj
  rw[List.getElem?_map] at bO
  cases q:ht[j]? with
  | none=>rw[q] at bO;cases bO
  | some p=>
   rw[q] at bO
   have e:p.1=y:=Option.some.inj bO
   obtain⟨f',nj,nk,F',m',k',b'⟩:=hht p (List.mem_of_getElem? q)
   have es:lG ht j=p.2:=by unfold lG;rw[q]
   show O3 _ y (lG ht j)
   rw[es,←e]
   exact⟨k,f',nj,nk,F',hr.h,m',k',b'⟩
section
variable {x qual:Str} {st:Stmt} {f C:Addr} {fd:FuncData} {N ps:List Str} {k:Nat} {sp:Sp}
end
theorem tq{x qual:Str}{st:Stmt}{f:Addr}{fd:FuncData}{N ps:List Str}{k:Nat}{sp:Sp}(F:iG K x qual st f fd)(S:bw N ps (ax st))(iE:mg x=some (.ref f))(hb:Binds K fd ps [])
  (no: ∀vs H Q E,¬sp vs H Q E):bM P w K mg base (k+1) x sp:=
 by
 obtain⟨oc,od,kV,doc,pm,an,bQ,ct,hZ,rfl,lk,fq⟩:=F.ex
 exact⟨f,_,ps,Nu lk fq S (fun vs H Q E h=> (no vs H Q E h).elim) (fun A outer s H vs Q E hr h=> (no vs H Q E h).elim),iE,F.kp,hb⟩
end
section
variable {P:Program} {w:World} {K:PySem.W.Frag} {mg:Str→Option Value} {base:Heap} {x qual:Str} {st:Stmt} {f:Addr} {fd:FuncData} {N ps:List Str} {k:Nat} {sp:Sp}
theorem acM(F:iG K x qual st f fd)(S:bw N ps (ax st))(iE:mg x=some (.ref f))(hb:Binds K fd ps [])
  (gt:List (Str×V)) (bl:List Str) (body:List RS)
  (hm: ∀{CX:aK} {Γ:aC} {X:Cx},aQ CX (aU N (ax st) [] (gt.map (·.1)) bl (md:=1)) Γ X→a_ X (aA st) (aw Γ body))
  (Bj: ∀p∈gt,eG mg p) (Bk: ∀y∈bl,mg y=none) (len: ∀vs H Q E,sp vs H Q E→vs.length=ps.length)
  (Bl: ∀vs H Q,sp vs H Q E0→aw (aW K [] gt) body {nx:=fun _ H'=>Q .az H',rt:=Q} (start N vs) H):qE P w K mg base (k+1) x sp:=by
 obtain⟨oc,od,kV,doc,pm,an,bQ,ct,hZ,rfl,lk,fq⟩:=F.ex
 refine⟨f,_,ps,abA (CX:=ef P w) lk fq S len fun A outer s H vs Q hr hh gA=> ⟨_,hm (CX:=ef P w) (Γ:=aW K [] gt) ?_,Bl vs H Q gA⟩,iE,F.kp,hb⟩
 refine {N:=rfl,sc:=rfl,K:=rfl,calm:=fun h=> (nomatch h),units:=hr.units,fns:=fun h=> (nomatch h),jr:=fun j y hj=> ?_,dj:=fun y hy=> ?_,pass:=fun _ _ _ _ _ _ _ h=> (wk h).elim,js:=fun _ _ _ _ _ h=>wk h,j4:=fun p aX h=> (nomatch h),j5:=fun h=> (nomatch h),j6:=fun h=> (nomatch h),qp:=fun j y hj=> (nomatch hj),j7:=fun j y hj=> (nomatch hj),lh:=fun _ h=> (nomatch h),qu:=fun _=>abC hh,nd:=S.nd,lA:=fun _=>rfl,own:=PassesOwn.never,qx:=S.kind,rs:=fun _ _ hj=> (nomatch hj),hJ:=rfl,e7:=rfl,m6:=rfl,m8:=rfl}
 ·have bO:(gt.map (·.1))[j]?=some y:=hj
  rw[List.getElem?_map] at bO
  cases q:gt[j]? with
  | none=>rw[q] at bO;cases bO
  | some p=>
   rw[q] at bO
   have e:p.1=y:=Option.some.inj bO
   obtain⟨u,h1,h2⟩:=(Bj p (List.mem_of_getElem? q)).ex
   have es:ni gt j=p.2:=by unfold ni;rw[q]
   show ∃u,mg y=some u∧RelV (ni gt j) u
   rw[es,←e]
   exact⟨u,h1,h2⟩
 ·exact Bk y (by simpa using hy)
theorem ck.top{k:Nat}(F:ck P w K mg base (ef P w) k f fd ps sp):ck P w K mg base vO k f fd ps (fun vs H Q _=>sp vs H Q E0):=
 ⟨fun vs H Q E h=>F.len vs H Q E0 h,fun A outer s H args us vs Q E hr e0 hb hv hs=>codeAny_mono (F.run A outer s H args us vs Q E0 hr e0 hb hv hs) fun r s' h=>by
  cases r with
  | error e=>exact(wk h).elim
  | ok fl=>cases fl<;>exact h⟩
end
section
variable {Γ:aC} {D:Ends} {σ:St} {H:Hp} {r:List RS} {Q:VK}
theorem Pp{i:Nat}{e:RE}(h:ak Γ e σ H fun x H1=>aw Γ r D (σ.set i (some x)) H1):aw Γ (.asg i e::r) D σ H:=h
theorem Pq{b:jX}{as:List RE}(h:bI Γ as σ H fun vs H1=>mV Γ.K b vs H1 Q):ak Γ (.blt b as) σ H Q:=h
theorem Pr{a:RE}{Q:List V→Hp→Prop}(h:ak Γ a σ H fun x H1=>Q [x] H1):bI Γ [a] σ H Q:=h
end
end L2
namespace L2.B
open PySem PySem.Spec PyProof.Rows
def Bm:List Str:=["thing"]
def Pu:List Str:=["thing"]
noncomputable def Bn:List RS:=
 [.ret (.and [(.dF .int (.v 0)),(.not (.dF .bool (.v 0)))])]
def acN:List Str:=[]
def acO:List Str:=[]
def Pw:List Str:=["isinstance","int","bool"]
def acP:List Str:=[]
def acQ:List Str:=[]
def acR:List Str:=[]
def acS:List Str:=[]
def wH:List Str:=["thing","words"]
def Px:List Str:=["thing","words"]
noncomputable def wI:List RS:=
 [.ret (.and [(.dF .str (.v 0)),(.cmp .In (.v 0) (.v 1))])]
def acT:List Str:=[]
def acU:List Str:=[]
def Py:List Str:=["isinstance","str"]
def acV:List Str:=[]
def acW:List Str:=[]
def acX:List Str:=[]
def acY:List Str:=[]
def wJ:List Str:=["thing"]
def Pz:List Str:=["thing"]
noncomputable def wK:List RS:=
 [.ret (.and [(.dF .str (.v 0)),(.cmp .Eq (.cx .lstrip (.v 0) [(.g 0)]) (.c (.str "")))])]
def acZ:List Str:=[]
def ac0:List Str:=["SIGNS"]
def PB:List Str:=["isinstance","str"]
def ac1:List Str:=[]
def ac2:List Str:=[]
def ac3:List Str:=[]
def ac4:List Str:=[]
def Bo:List Str:=["thing"]
def PC:List Str:=["thing"]
noncomputable def Bp:List RS:=
 [.ite (.not (.call 0 [(.v 0)])) [.gE 0 [(.c (.str "a text is a str of signs from the blank to the tilde, and line feeds"))]] []]
def ac5:List Str:=["is_text"]
def ac6:List Str:=[]
def PD:List Str:=[]
def ac7:List Str:=[]
def ac8:List Str:=[]
def ac9:List Str:=["BadText"]
def ac_:List Str:=[]
def tw:List Str:=["thing"]
def PF:List Str:=["thing"]
noncomputable def tD:List RS:=
 [.ite (.or [(.not (.dF .tuple (.v 0))),(.cmp .NotEq (.blt .len [(.v 0)]) (.c (.int 2)))]) [.ret (.c (.bl false))] [],
 .ite (.call 0 [(.ix (.v 0) (.c (.int 0))),(.tup [(.c (.str "keep"))])]) [.ret (.and [(.call 1 [(.ix (.v 0) (.c (.int 1)))]),(.cmp .GtE (.ix (.v 0) (.c (.int 1))) (.c (.int 1)))])] [],
 .ret (.and [(.call 0 [(.ix (.v 0) (.c (.int 0))),(.tup [(.c (.str "cut")),(.c (.str "put"))])]),(.call 2 [(.ix (.v 0) (.c (.int 1)))]),(.cmp .NotEq (.ix (.v 0) (.c (.int 1))) (.c (.str "")))])]
def ada:List Str:=["is_word","is_whole","is_text"]
def adb:List Str:=[]
def PH:List Str:=["isinstance","tuple","len"]
def ade:List Str:=[]
def adf:List Str:=[]
def adg:List Str:=[]
def adh:List Str:=[]
def Bq:List Str:=["word","ahead"]
def PJ:List Str:=["word","ahead"]
noncomputable def Br:List RS:=
 [.ret (.and [(.cmp .NotEq (.v 0) (.v 1)),(.not (.and [(.cmp .Eq (.v 1) (.c (.str "cut"))),(.cmp .Eq (.v 0) (.c (.str "put")))]))])]
def adi:List Str:=[]
def adj:List Str:=[]
def PK:List Str:=[]
def adk:List Str:=[]
def adl:List Str:=[]
def adm:List Str:=[]
def adn:List Str:=[]
def wL:List Str:=["change","ahead","part"]
def PL:List Str:=["change"]
noncomputable def tE:List RS:=
 [.ite (.not (.dF .list (.v 0))) [.gE 0 [(.c (.str "a change is a list"))]] [],
 .asg 1 (.c (.str "")),
 .jo 2 .list [(.v 0)] [.ite (.not (.call 0 [(.v 2)])) [.gE 0 [(.c (.str "a part is a keep of 1 sign or more, or a cut or put of a text that is not empty"))]] [],
  .ite (.not (.call 1 [(.ix (.v 2) (.c (.int 0))),(.v 1)])) [.gE 0 [(.c (.str "neighbours have two words, and no put stands right behind a cut"))]] [],
  .asg 1 (.ix (.v 2) (.c (.int 0)))]]
def ado:List Str:=["is_part","may_follow"]
def adp:List Str:=[]
def Bs:List Str:=["isinstance","list"]
def adq:List Str:=[]
def ads:List Str:=[]
def adt:List Str:=["BadChange"]
def adu:List Str:=[]
def Bt:List Str:=["part"]
def PM:List Str:=["part"]
noncomputable def Bu:List RS:=
 [.ret (.jY (.cmp .Eq (.ix (.v 0) (.c (.int 0))) (.c (.str "keep"))) (.ix (.v 0) (.c (.int 1))) (.blt .len [(.ix (.v 0) (.c (.int 1)))]))]
def adv:List Str:=[]
def adw:List Str:=[]
def PN:List Str:=["len"]
def adx:List Str:=[]
def ady:List Str:=[]
def adz:List Str:=[]
def adA:List Str:=[]
def wM:List Str:=["change","over","gives"]
def PQ:List Str:=["change"]
noncomputable def tF:List RS:=
 [.drop (.call 0 [(.v 0)]),
 .asg 1 (.blt .sum [(.comp none [] .list [(.v 0)] (some (.cmp .NotEq (.ix (.v 0) (.c (.int 0))) (.c (.str "put")))) (.call 1 [(.v 0)]))]),
 .asg 2 (.blt .sum [(.comp none [] .list [(.v 0)] (some (.cmp .NotEq (.ix (.v 0) (.c (.int 0))) (.c (.str "cut")))) (.call 1 [(.v 0)]))]),
 .ret (.tup [(.v 1),(.v 2)])]
def adB:List Str:=["need_change","part_size"]
def adC:List Str:=[]
def Bv:List Str:=["sum"]
def adD:List Str:=[]
def adE:List Str:=[]
def adF:List Str:=[]
def adG:List Str:=[]
def Bw:List Str:=["_law_script","_law_k"]
def PR:List Str:=["_law_script","_law_k"]
noncomputable def Bx:List RS:=
 [.ite (.cmp .Lt (.v 1) (.blt .len [(.v 0)])) [.ret (.ix (.v 0) (.v 1))] [],
 .ret (.c (.int 0))]
def adH:List Str:=[]
def adI:List Str:=[]
def PU:List Str:=["len"]
def adJ:List Str:=[]
def adK:List Str:=[]
def adL:List Str:=[]
def adM:List Str:=[]
def By:List Str:=["thing","least","most"]
def PV:List Str:=["thing","least","most"]
noncomputable def Bz:List RS:=
 [.ret (.and [(.call 0 [(.v 0)]),(.jn .LtE .LtE (.v 1) (.v 0) (.v 2))])]
def adN:List Str:=["is_whole"]
def adO:List Str:=[]
def PX:List Str:=[]
def adP:List Str:=[]
def adQ:List Str:=[]
def adR:List Str:=[]
def adS:List Str:=[]
noncomputable def BA:List RS:=
 [.ret (.and [(.dF .int (.v 0)),(.not (.dF .bool (.v 0)))])]
def adT:List Str:=[]
def adU:List Str:=[]
def PY:List Str:=["isinstance","int","bool"]
def adV:List Str:=[]
def adW:List Str:=[]
def adX:List Str:=[]
def adY:List Str:=[]
def BB:List Str:=["row","most","least","beyond","middle"]
def PZ:List Str:=["row","most"]
noncomputable def BC:List RS:=
 [.asg 2 (.c (.int 0)),
 .asg 3 (.blt .len [(.v 0)]),
 .kU (.cmp .Lt (.v 2) (.v 3)) [.asg 4 (.bin .FloorDiv (.bin .Add (.v 2) (.v 3)) (.c (.int 2))),
  .ite (.cmp .LtE (.ix (.v 0) (.v 4)) (.v 1)) [.asg 2 (.bin .Add (.v 4) (.c (.int 1)))] [.asg 3 (.v 4)]],
 .ret (.v 2)]
def adZ:List Str:=[]
def ad0:List Str:=[]
def P0:List Str:=["len"]
def ad1:List Str:=[]
def ad2:List Str:=[]
def ad3:List Str:=[]
def ad4:List Str:=[]
def BD:List Str:=["self"]
def P4:List Str:=["self"]
noncomputable def BE:List RS:=
 [.jq (.v 0) "texts" (.lst []),
 .jq (.v 0) "begins" (.lst []),
 .jq (.v 0) "feeds" (.lst []),
 .jq (.v 0) "signs" (.c (.int 0))]
def ad5:List Str:=[]
def ad6:List Str:=[]
def P5:List Str:=[]
def ad7:List Str:=[]
def ad8:List Str:=[]
def ad9:List Str:=[]
def ad_:List Str:=[]
def wN:List Str:=["self","text","begin","feed"]
def P6:List Str:=["self","text"]
noncomputable def BF:List RS:=
 [.drop (.call 0 [(.v 1)]),
 .asg 2 (.fld (.v 0) "signs"),
 .drop (.cx .append (.fld (.v 0) "texts") [(.v 1)]),
 .drop (.cx .append (.fld (.v 0) "begins") [(.v 2)]),
 .jq (.v 0) "signs" (.bin .Add (.v 2) (.blt .len [(.v 1)])),
 .asg 3 (.cx .find (.v 1) [(.c (.str "\n"))]),
 .kU (.cmp .GtE (.v 3) (.c (.int 0))) [.drop (.cx .append (.fld (.v 0) "feeds") [(.bin .Add (.v 2) (.v 3))]),
  .asg 3 (.cx .find (.v 1) [(.c (.str "\n")),(.bin .Add (.v 3) (.c (.int 1)))])],
 .ret (.v 2)]
def aea:List Str:=["need_text"]
def aeb:List Str:=[]
def P7:List Str:=["len"]
def aec:List Str:=[]
def aed:List Str:=[]
def aee:List Str:=[]
def aef:List Str:=[]
def BG:List Str:=["self","begin","size","pieces","number","end","offset","piece"]
def P8:List Str:=["self","begin","size"]
noncomputable def BH:List RS:=
 [.ite (.or [(.not (.call 0 [(.v 1),(.c (.int 0)),(.fld (.v 0) "signs")])),(.not (.call 0 [(.v 2),(.c (.int 0)),(.bin .Sub (.fld (.v 0) "signs") (.v 1))]))]) [.gE 0 [(.c (.str "what is read lies within the stock"))]] [],
 .asg 3 (.lst []),
 .asg 4 (.bin .Sub (.call 1 [(.fld (.v 0) "begins"),(.v 1)]) (.c (.int 1))),
 .asg 5 (.bin .Add (.v 1) (.v 2)),
 .kU (.cmp .Lt (.v 1) (.v 5)) [.asg 6 (.bin .Sub (.v 1) (.ix (.fld (.v 0) "begins") (.v 4))),
  .asg 7 (.sl (.ix (.fld (.v 0) "texts") (.v 4)) (some (.v 6)) (some (.bin .Sub (.bin .Add (.v 6) (.v 5)) (.v 1)))),
  .drop (.cx .append (.v 3) [(.v 7)]),
  .asg 1 (.bin .Add (.v 1) (.blt .len [(.v 7)])),
  .asg 4 (.bin .Add (.v 4) (.c (.int 1)))],
 .ret (.cx .join (.c (.str "")) [(.v 3)])]
def aeg:List Str:=["is_between","many_upto"]
def aeh:List Str:=[]
def P9:List Str:=["len"]
def aei:List Str:=[]
def aej:List Str:=[]
def aek:List Str:=["NoPlace"]
def ael:List Str:=[]
def BI:List Str:=["self"]
def P_:List Str:=["self"]
noncomputable def BJ:List RS:=
 [.ret (.fld (.v 0) "signs")]
def aem:List Str:=[]
def aen:List Str:=[]
def Qa:List Str:=[]
def aeo:List Str:=[]
def aep:List Str:=[]
def aeq:List Str:=[]
def aer:List Str:=[]
structure nq (K:PySem.W.Frag) (C:Addr):Prop where
 cl:fu K C
 tG:f_ K C "texts"
 wO:f_ K C "begins"
 wQ:f_ K C "feeds"
 tH:f_ K C "signs"
def BK:List Str:=["node"]
def Qc:List Str:=["node"]
noncomputable def BL:List RS:=
 [.ret (.jY (.cmp .Is (.v 0) (.c .az)) (.c (.int 0)) (.ix (.v 0) (.c (.int 3))))]
def aes:List Str:=[]
def aet:List Str:=[]
def Qd:List Str:=[]
def aeu:List Str:=[]
def aev:List Str:=[]
def aew:List Str:=[]
def aex:List Str:=[]
def BM:List Str:=["node"]
def Qe:List Str:=["node"]
noncomputable def BN:List RS:=
 [.ret (.jY (.cmp .Is (.v 0) (.c .az)) (.c (.int 0)) (.ix (.v 0) (.c (.int 4))))]
def aey:List Str:=[]
def aez:List Str:=[]
def Qf:List Str:=[]
def aeA:List Str:=[]
def aeB:List Str:=[]
def aeC:List Str:=[]
def aeD:List Str:=[]
def BO:List Str:=["node"]
def Qg:List Str:=["node"]
noncomputable def BP:List RS:=
 [.ret (.jY (.cmp .Is (.v 0) (.c .az)) (.c (.int 0)) (.ix (.v 0) (.c (.int 5))))]
def aeE:List Str:=[]
def aeF:List Str:=[]
def Qh:List Str:=[]
def aeG:List Str:=[]
def aeH:List Str:=[]
def aeI:List Str:=[]
def aeJ:List Str:=[]
def BQ:List Str:=["left","piece","right","height","size"]
def Qi:List Str:=["left","piece","right"]
noncomputable def BR:List RS:=
 [.asg 3 (.bin .Add (.c (.int 1)) (.blt .max [(.call 0 [(.v 0)]),(.call 0 [(.v 2)])])),
 .asg 4 (.bin .Add (.bin .Add (.call 1 [(.v 0)]) (.ix (.v 1) (.c (.int 1)))) (.call 1 [(.v 2)])),
 .ret (.tup [(.v 0),(.v 1),(.v 2),(.v 3),(.v 4),(.bin .Add (.bin .Add (.call 2 [(.v 0)]) (.ix (.v 1) (.c (.int 2)))) (.call 2 [(.v 2)]))])]
def aeK:List Str:=["height_of","size_of","ends_of"]
def aeL:List Str:=[]
def Qj:List Str:=["max"]
def aeM:List Str:=[]
def aeN:List Str:=[]
def aeO:List Str:=[]
def aeP:List Str:=[]
def BS:List Str:=["left","piece","right","inner"]
def Qk:List Str:=["left","piece","right"]
noncomputable def BU:List RS:=
 [.asg 3 (.ix (.v 0) (.c (.int 2))),
 .ite (.cmp .GtE (.call 0 [(.ix (.v 0) (.c (.int 0)))]) (.call 0 [(.v 3)])) [.ret (.call 1 [(.ix (.v 0) (.c (.int 0))),(.ix (.v 0) (.c (.int 1))),(.call 1 [(.v 3),(.v 1),(.v 2)])])] [],
 .ret (.call 1 [(.call 1 [(.ix (.v 0) (.c (.int 0))),(.ix (.v 0) (.c (.int 1))),(.ix (.v 3) (.c (.int 0)))]),(.ix (.v 3) (.c (.int 1))),(.call 1 [(.ix (.v 3) (.c (.int 2))),(.v 1),(.v 2)])])]
def aeQ:List Str:=["height_of","made"]
def aeR:List Str:=[]
def Ql:List Str:=[]
def aeS:List Str:=[]
def aeT:List Str:=[]
def aeU:List Str:=[]
def aeV:List Str:=[]
def BV:List Str:=["left","piece","right","inner"]
def Qm:List Str:=["left","piece","right"]
noncomputable def BW:List RS:=
 [.asg 3 (.ix (.v 2) (.c (.int 0))),
 .ite (.cmp .GtE (.call 0 [(.ix (.v 2) (.c (.int 2)))]) (.call 0 [(.v 3)])) [.ret (.call 1 [(.call 1 [(.v 0),(.v 1),(.v 3)]),(.ix (.v 2) (.c (.int 1))),(.ix (.v 2) (.c (.int 2)))])] [],
 .ret (.call 1 [(.call 1 [(.v 0),(.v 1),(.ix (.v 3) (.c (.int 0)))]),(.ix (.v 3) (.c (.int 1))),(.call 1 [(.ix (.v 3) (.c (.int 2))),(.ix (.v 2) (.c (.int 1))),(.ix (.v 2) (.c (.int 2)))])])]
def aeW:List Str:=["height_of","made"]
def aeX:List Str:=[]
def Qn:List Str:=[]
def aeY:List Str:=[]
def aeZ:List Str:=[]
def ae0:List Str:=[]
def ae1:List Str:=[]
def BX:List Str:=["left","piece","right"]
def Qo:List Str:=["left","piece","right"]
noncomputable def BY:List RS:=
 [.ite (.cmp .Gt (.call 0 [(.v 0)]) (.bin .Add (.call 0 [(.v 2)]) (.c (.int 1)))) [.ret (.call 1 [(.v 0),(.v 1),(.v 2)])] [],
 .ite (.cmp .Gt (.call 0 [(.v 2)]) (.bin .Add (.call 0 [(.v 0)]) (.c (.int 1)))) [.ret (.call 2 [(.v 0),(.v 1),(.v 2)])] [],
 .ret (.call 3 [(.v 0),(.v 1),(.v 2)])]
def ae2:List Str:=["height_of","turned_right","turned_left","made"]
def ae3:List Str:=[]
def Qp:List Str:=[]
def ae4:List Str:=[]
def ae5:List Str:=[]
def ae6:List Str:=[]
def ae7:List Str:=[]
def BZ:List Str:=["left","piece","right"]
def Qq:List Str:=["left","piece","right"]
noncomputable def B_:List RS:=
 [.ite (.cmp .Gt (.call 0 [(.v 0)]) (.bin .Add (.call 0 [(.v 2)]) (.c (.int 1)))) [.ret (.call 1 [(.ix (.v 0) (.c (.int 0))),(.ix (.v 0) (.c (.int 1))),(.call 2 [(.ix (.v 0) (.c (.int 2))),(.v 1),(.v 2)])])] [],
 .ite (.cmp .Gt (.call 0 [(.v 2)]) (.bin .Add (.call 0 [(.v 0)]) (.c (.int 1)))) [.ret (.call 1 [(.call 2 [(.v 0),(.v 1),(.ix (.v 2) (.c (.int 0)))]),(.ix (.v 2) (.c (.int 1))),(.ix (.v 2) (.c (.int 2)))])] [],
 .ret (.call 3 [(.v 0),(.v 1),(.v 2)])]
def ae8:List Str:=["height_of","leveled","joined","made"]
def ae9:List Str:=[]
def Qr:List Str:=[]
def ae_:List Str:=[]
def afa:List Str:=[]
def afb:List Str:=[]
def afc:List Str:=[]
def Ca:List Str:=["node","out"]
def Qs:List Str:=["node"]
noncomputable def Cb:List RS:=
 [.ite (.cmp .Is (.ix (.v 0) (.c (.int 2))) (.c .az)) [.ret (.tup [(.ix (.v 0) (.c (.int 0))),(.ix (.v 0) (.c (.int 1)))])] [],
 .asg 1 (.call 0 [(.ix (.v 0) (.c (.int 2)))]),
 .ret (.tup [(.call 1 [(.ix (.v 0) (.c (.int 0))),(.ix (.v 0) (.c (.int 1))),(.ix (.v 1) (.c (.int 0)))]),(.ix (.v 1) (.c (.int 1)))])]
def afd:List Str:=["last_out","joined"]
def afe:List Str:=[]
def Qt:List Str:=[]
def aff:List Str:=[]
def afg:List Str:=[]
def afh:List Str:=[]
def afi:List Str:=[]
def Cc:List Str:=["node","out"]
def Qu:List Str:=["node"]
noncomputable def Cd:List RS:=
 [.ite (.cmp .Is (.ix (.v 0) (.c (.int 0))) (.c .az)) [.ret (.tup [(.ix (.v 0) (.c (.int 1))),(.ix (.v 0) (.c (.int 2)))])] [],
 .asg 1 (.call 0 [(.ix (.v 0) (.c (.int 0)))]),
 .ret (.tup [(.ix (.v 1) (.c (.int 0))),(.call 1 [(.ix (.v 1) (.c (.int 1))),(.ix (.v 0) (.c (.int 1))),(.ix (.v 0) (.c (.int 2)))])])]
def afj:List Str:=["first_out","joined"]
def afk:List Str:=[]
def Qw:List Str:=[]
def afl:List Str:=[]
def afm:List Str:=[]
def afn:List Str:=[]
def afo:List Str:=[]
def Ce:List Str:=["left","right","last","first","one","other"]
def Qx:List Str:=["left","right"]
noncomputable def Cf:List RS:=
 [.ite (.cmp .Is (.v 0) (.c .az)) [.ret (.v 1)] [],
 .asg 2 (.call 0 [(.v 0)]),
 .asg 3 (.call 1 [(.v 1)]),
 .asg 4 (.ix (.v 2) (.c (.int 1))),
 .asg 5 (.ix (.v 3) (.c (.int 0))),
 .ite (.cmp .Eq (.bin .Add (.ix (.v 4) (.c (.int 0))) (.ix (.v 4) (.c (.int 1)))) (.ix (.v 5) (.c (.int 0)))) [.ret (.call 2 [(.ix (.v 2) (.c (.int 0))),(.tup [(.ix (.v 4) (.c (.int 0))),(.bin .Add (.ix (.v 4) (.c (.int 1))) (.ix (.v 5) (.c (.int 1)))),(.bin .Add (.ix (.v 4) (.c (.int 2))) (.ix (.v 5) (.c (.int 2))))]),(.ix (.v 3) (.c (.int 1)))])] [],
 .ret (.call 2 [(.ix (.v 2) (.c (.int 0))),(.v 4),(.v 1)])]
def afp:List Str:=["last_out","first_out","joined"]
def afq:List Str:=[]
def Qy:List Str:=[]
def afr:List Str:=[]
def afs:List Str:=[]
def aft:List Str:=[]
def afu:List Str:=[]
def Cg:List Str:=["piece","size","stock","middle","ends"]
def Qz:List Str:=["piece","size","stock"]
noncomputable def Ci:List RS:=
 [.asg 3 (.bin .Add (.ix (.v 0) (.c (.int 0))) (.v 1)),
 .asg 4 (.bin .Sub (.cm 0 "ends_ahead" (.v 2) [(.v 3)]) (.cm 0 "ends_ahead" (.v 2) [(.ix (.v 0) (.c (.int 0)))])),
 .ret (.tup [(.tup [(.ix (.v 0) (.c (.int 0))),(.v 1),(.v 4)]),(.tup [(.v 3),(.bin .Sub (.ix (.v 0) (.c (.int 1))) (.v 1)),(.bin .Sub (.ix (.v 0) (.c (.int 2))) (.v 4))])])]
def afv:List Str:=[]
def afw:List Str:=[]
def QC:List Str:=[]
def afx:List Str:=["ends_ahead"]
def afy:List Str:=[]
def afz:List Str:=[]
def afA:List Str:=[]
def Cj:List Str:=["node","place","stock","piece","begin","end","sides","halves"]
def QD:List Str:=["node","place","stock"]
noncomputable def Ck:List RS:=
 [.ite (.cmp .Is (.v 0) (.c .az)) [.ret (.tup [(.c .az),(.c .az)])] [],
 .asg 3 (.ix (.v 0) (.c (.int 1))),
 .asg 4 (.call 0 [(.ix (.v 0) (.c (.int 0)))]),
 .asg 5 (.bin .Add (.v 4) (.ix (.v 3) (.c (.int 1)))),
 .ite (.cmp .LtE (.v 1) (.v 4)) [.asg 6 (.call 1 [(.ix (.v 0) (.c (.int 0))),(.v 1),(.v 2)]),
  .ret (.tup [(.ix (.v 6) (.c (.int 0))),(.call 2 [(.ix (.v 6) (.c (.int 1))),(.v 3),(.ix (.v 0) (.c (.int 2)))])])] [],
 .ite (.cmp .GtE (.v 1) (.v 5)) [.asg 6 (.call 1 [(.ix (.v 0) (.c (.int 2))),(.bin .Sub (.v 1) (.v 5)),(.v 2)]),
  .ret (.tup [(.call 2 [(.ix (.v 0) (.c (.int 0))),(.v 3),(.ix (.v 6) (.c (.int 0)))]),(.ix (.v 6) (.c (.int 1)))])] [],
 .asg 7 (.call 3 [(.v 3),(.bin .Sub (.v 1) (.v 4)),(.v 2)]),
 .ret (.tup [(.call 2 [(.ix (.v 0) (.c (.int 0))),(.ix (.v 7) (.c (.int 0))),(.c .az)]),(.call 2 [(.c .az),(.ix (.v 7) (.c (.int 1))),(.ix (.v 0) (.c (.int 2)))])])]
def afB:List Str:=["size_of","parted","joined","cut_in_two"]
def afC:List Str:=[]
def QE:List Str:=[]
def afD:List Str:=[]
def afE:List Str:=[]
def afF:List Str:=[]
def afG:List Str:=[]
def Cm:List Str:=["node","pieces"]
def QF:List Str:=["node"]
noncomputable def Cn:List RS:=
 [.ite (.cmp .Is (.v 0) (.c .az)) [.ret (.lst [])] [],
 .asg 1 (.call 0 [(.ix (.v 0) (.c (.int 0)))]),
 .drop (.cx .append (.v 1) [(.ix (.v 0) (.c (.int 1)))]),
 .drop (.cx .extend (.v 1) [(.call 0 [(.ix (.v 0) (.c (.int 2)))])]),
 .ret (.v 1)]
def afH:List Str:=["pieces_of"]
def afI:List Str:=[]
def QG:List Str:=[]
def afJ:List Str:=[]
def afK:List Str:=[]
def afL:List Str:=[]
def afM:List Str:=[]
def Co:List Str:=["self","place"]
def QH:List Str:=["self","place"]
noncomputable def Cp:List RS:=
 [.ret (.call 0 [(.fld (.v 0) "feeds"),(.bin .Sub (.v 1) (.c (.int 1)))])]
def afN:List Str:=["many_upto"]
def afO:List Str:=[]
def QI:List Str:=[]
def afP:List Str:=[]
def afQ:List Str:=[]
def afR:List Str:=[]
def afS:List Str:=[]
def Cq:List Str:=["stock","text"]
def QJ:List Str:=["stock","text"]
noncomputable def Cr:List RS:=
 [.ite (.cmp .Eq (.v 1) (.c (.str ""))) [.ret (.c .az)] [],
 .ret (.call 0 [(.c .az),(.tup [(.cm 0 "put" (.v 0) [(.v 1)]),(.blt .len [(.v 1)]),(.cx .count (.v 1) [(.c (.str "\n"))])]),(.c .az)])]
def afT:List Str:=["joined"]
def afU:List Str:=[]
def QK:List Str:=["len"]
def afV:List Str:=["put"]
def afW:List Str:=[]
def afX:List Str:=[]
def afY:List Str:=[]
def wR:List Str:=["text","stock"]
def QL:List Str:=["text"]
noncomputable def tI:List RS:=
 [.drop (.call 0 [(.v 0)]),
 .asg 1 (.make 0 []),
 .ret (.make 1 [(.v 1),(.call 1 [(.v 1),(.v 0)])])]
def afZ:List Str:=["need_text","node_put"]
def af0:List Str:=[]
def Cs:List Str:=[]
def af1:List Str:=[]
def af2:List Str:=["Stock","Paper"]
def af3:List Str:=[]
def af4:List Str:=[]
def wU:List Str:=["paper","change","place","part"]
def QM:List Str:=["paper","change"]
noncomputable def tJ:List RS:=
 [.ite (.cmp .NotEq (.ix (.call 0 [(.v 1)]) (.c (.int 0))) (.cm 0 "size" (.v 0) [])) [.gE 0 [(.c (.str "the change is over a text of another number of signs"))]] [],
 .asg 2 (.c (.int 0)),
 .jo 3 .list [(.v 1)] [.ite (.and [(.cmp .Eq (.ix (.v 3) (.c (.int 0))) (.c (.str "cut"))),(.cmp .NotEq (.cm 1 "part" (.v 0) [(.v 2),(.bin .Add (.v 2) (.blt .len [(.ix (.v 3) (.c (.int 1)))]))]) (.ix (.v 3) (.c (.int 1))))]) [.gE 0 [(.c (.str "what is cut is not what stands there"))]] [],
  .ite (.cmp .NotEq (.ix (.v 3) (.c (.int 0))) (.c (.str "put"))) [.asg 2 (.bin .Add (.v 2) (.call 1 [(.v 3)]))] []]]
def af5:List Str:=["sizes","part_size"]
def af6:List Str:=[]
def Ct:List Str:=["len"]
def af7:List Str:=["size","part"]
def af8:List Str:=[]
def af9:List Str:=["BadFit"]
def af_:List Str:=[]
def Cu:List Str:=["stock","node"]
def QN:List Str:=["stock","node"]
noncomputable def Cv:List RS:=
 [.ret (.comp none [("stock",0)] .list [(.call 0 [(.v 1)])] none (.cm 0 "read" (.v 1) [(.ix (.v 0) (.c (.int 0))),(.ix (.v 0) (.c (.int 1)))]))]
def aga:List Str:=["pieces_of"]
def agb:List Str:=[]
def QO:List Str:=[]
def agc:List Str:=["read"]
def agd:List Str:=[]
def age:List Str:=[]
def agf:List Str:=[]
def Cw:List Str:=["self","stock","node"]
def QP:List Str:=["self","stock","node"]
noncomputable def Cy:List RS:=
 [.jq (.v 0) "stock" (.v 1),
 .jq (.v 0) "node" (.v 2)]
def agg:List Str:=[]
def agh:List Str:=[]
def QR:List Str:=[]
def agi:List Str:=[]
def agj:List Str:=[]
def agk:List Str:=[]
def agl:List Str:=[]
def Cz:List Str:=["self"]
def QS:List Str:=["self"]
noncomputable def CA:List RS:=
 [.ret (.call 0 [(.fld (.v 0) "node")])]
def agm:List Str:=["size_of"]
def agn:List Str:=[]
def QU:List Str:=[]
def ago:List Str:=[]
def agp:List Str:=[]
def agq:List Str:=[]
def agr:List Str:=[]
def CD:List Str:=["self"]
def QV:List Str:=["self"]
noncomputable def CG:List RS:=
 [.ret (.bin .Add (.call 0 [(.fld (.v 0) "node")]) (.c (.int 1)))]
def ags:List Str:=["ends_of"]
def agt:List Str:=[]
def QW:List Str:=[]
def agu:List Str:=[]
def agv:List Str:=[]
def agw:List Str:=[]
def agx:List Str:=[]
def CH:List Str:=["self"]
def QX:List Str:=["self"]
noncomputable def CI:List RS:=
 [.ret (.cx .join (.c (.str "")) [(.call 0 [(.fld (.v 0) "stock"),(.fld (.v 0) "node")])])]
def agy:List Str:=["texts_of"]
def agz:List Str:=[]
def QY:List Str:=[]
def agA:List Str:=[]
def agB:List Str:=[]
def agC:List Str:=[]
def agD:List Str:=[]
def wV:List Str:=["self","begin","end","ahead"]
def QZ:List Str:=["self","begin","end"]
noncomputable def tK:List RS:=
 [.ite (.or [(.not (.call 0 [(.v 1),(.c (.int 0)),(.cm 0 "size" (.v 0) [])])),(.not (.call 0 [(.v 2),(.v 1),(.cm 0 "size" (.v 0) [])]))]) [.gE 0 [(.c (.str "a part leads from a place of the text to one that is no less"))]] [],
 .asg 3 (.ix (.call 1 [(.fld (.v 0) "node"),(.v 2),(.fld (.v 0) "stock")]) (.c (.int 0))),
 .ret (.cx .join (.c (.str "")) [(.call 2 [(.fld (.v 0) "stock"),(.ix (.call 1 [(.v 3),(.v 1),(.fld (.v 0) "stock")]) (.c (.int 1)))])])]
def agE:List Str:=["is_between","parted","texts_of"]
def agF:List Str:=[]
def CJ:List Str:=[]
def agG:List Str:=["size"]
def agH:List Str:=[]
def agI:List Str:=["NoPlace"]
def agJ:List Str:=[]
def wW:List Str:=["self","change","ahead","rest","part","sides"]
def Q0:List Str:=["self","change"]
noncomputable def tL:List RS:=
 [.drop (.call 0 [(.v 0),(.v 1)]),
 .asg 2 (.c .az),
 .asg 3 (.fld (.v 0) "node"),
 .jo 4 .list [(.v 1)] [.ite (.cmp .Eq (.ix (.v 4) (.c (.int 0))) (.c (.str "put"))) [.asg 2 (.call 1 [(.v 2),(.call 2 [(.fld (.v 0) "stock"),(.ix (.v 4) (.c (.int 1)))])]),
   .cont] [],
  .asg 5 (.call 3 [(.v 3),(.call 4 [(.v 4)]),(.fld (.v 0) "stock")]),
  .asg 3 (.ix (.v 5) (.c (.int 1))),
  .ite (.cmp .Eq (.ix (.v 4) (.c (.int 0))) (.c (.str "keep"))) [.asg 2 (.call 1 [(.v 2),(.ix (.v 5) (.c (.int 0)))])] []],
 .ret (.make 0 [(.fld (.v 0) "stock"),(.v 2)])]
def agK:List Str:=["need_fit","sewn","node_put","parted","part_size"]
def agL:List Str:=[]
def CK:List Str:=[]
def agM:List Str:=[]
def agN:List Str:=["Paper"]
def agO:List Str:=[]
def agP:List Str:=[]
structure fc (K:PySem.W.Frag) (C:Addr):Prop where
 cl:fu K C
 gH:f_ K C "stock"
 j9:f_ K C "node"
end L2.B
namespace L2
open PySem PySem.Spec PyProof.Rows
section
variable {X:Cx}
end
section
variable {CX:aK} {S:cN} {Γ:aC} {X:Cx} {e e2 a b c d:Expr} {es:List Expr} {x:Str} {p q pos:Pos} {r ra rb rc:RE} {rs:List RE} {i j:Nat}
theorem agQ{n:Nat}(h4:n<29)(hf:(backTo pos (starEach es X.env)).all (fun x=> !x.1)=true)(hn:n=es.length):((backTo pos (starEach es X.env)).all (fun x=> !x.1) && (backToKw pos (keywordEach [] X.env)).all (fun x=>x.1.isSome)
   && decide (es.length+ ([]:List Keyword).length+ (if ([]:List Keyword).isEmpty then 0 else 1) <30))=true:=by
 subst hn
 rw[hf]
 show(true && true && decide (es.length+0+0<30))=true
 rw[decide_eq_true (by omega)];rfl
theorem t_x{T:PySem.W.Frag→TA→TE}(G:Good CX S Γ X)(h:PE X (.Call a es [] p) (ak Γ (.xt T rs))):PT X (.Call a es [] p) (bH Γ (.xt T rs)):=by
 show PT X _ (eF Γ.K (ak Γ (.xt T rs)))
 rw[←G.K]
 exact sY h fun _=>rfl
end
structure tM (K:PySem.W.Frag) (C:Addr):Prop where
 cl:fu K C
 ha:PySem.W.findIn K (.ref C) "__class__"=some (some (.builtin "object.__class__"))
 hn:PySem.W.specialIn K (.builtin "object.__class__") "__get__"=some (some (.builtin "getset_descriptor.__get__"))
 jf:PySem.W.takesIn K (.builtin "object.__class__")=some true
 hm:PySem.W.mroIn K C (.type "object")=some true
 kt:kitOne K (.ref C) (.ref C)=some true
def wX(K:PySem.W.Frag):List V→Hp→VK→Prop:=fun xs H Q=> ∃a C dx fs,xs=[.ref a, .ref C]∧H a=some (.ins C dx fs)∧tM K C∧Q (.bl true) H
def CL:PySem.W.Frag→TA→TE:=fun K t=>dD (wX K) t
section
variable {CX:aK} {S:cN} {Γ:aC} {X:Cx} {a b:Expr} {x:Str} {p q pos:Pos} {ra rb:RE}
theorem agS:cz X (.builtin "isinstance") (wX X.K):=by
 intro pins s σ H xs us Q I r h
 obtain⟨a,C,dx,fs,rfl,e,O,q⟩:=h
 obtain⟨u,u',rfl,r1,r2⟩:=vals2 r
 cases (show u'=Value.ref C from r2)
 exact jg I r1 (gy.ins e O.cl O.ha O.hn O.jf O.hm) O.kt fun tk=> ⟨.bl true,H,I.tok tk,rfl,q⟩
theorem agT(G:Good CX S Γ X)(hA:PA X [a,b] (bI Γ [ra,rb]))(h:kB S x "isinstance"=true:=by kernel_rfl)(hn:e8 [a,b]=true:=by kernel_rfl):PE X (.Call (.Name x p) [a,b] [] pos) (ak Γ (.xt CL [ra,rb])):=by
 simp only[kB,Bool.and_eq_true,decide_eq_true_eq] at h
 obtain⟨⟨rfl,g2⟩,g3⟩:=h
 show PE X _ (dD (wX Γ.K) (bI Γ [ra,rb]))
 rw[←G.K]
 exact vF agS (G.gl g2) (G.dj _ g3) AY hA (by decide) (by decide) (dG (dm hn).1) (iO _ _ _ (dm hn).2)
end
end L2
namespace L2.B
open PySem PySem.Spec PyProof.Rows
def wY:List Str:=["_law_cell","_law_k","_law_number"]
def Q3:List Str:=["_law_cell","_law_k"]
noncomputable def CM:List RS:=
 [.asg 2 (.bin .Mod (.bin .Add (.bin .Add (.bin .Mult (.v 0) (.c (.int 48271))) (.bin .Mult (.c (.int 7919)) (.v 1))) (.c (.int 12345))) (.c (.int 2147483647))),
 .ret (.bin .Mod (.bin .Mult (.bin .Mod (.bin .Mult (.v 2) (.v 2)) (.c (.int 2147483647))) (.v 2)) (.c (.int 2147483647)))]
def agU:List Str:=[]
def agV:List Str:=[]
def Q4:List Str:=[]
def agW:List Str:=[]
def agX:List Str:=[]
def agY:List Str:=[]
def agZ:List Str:=[]
def wZ:List Str:=["_law_cell","_law_many","_law_some","_law_text","_law_k","_law_number"]
def Q5:List Str:=["_law_cell","_law_many"]
noncomputable def CN:List RS:=
 [.asg 2 (.c (.str " !\"#$&'()*+,-./0123456789:;<=>?@ABCDEFGHIJKLMNOPQRSTUVWXYZ[\\]^_`")),
 .asg 2 (.bin .Add (.v 2) (.c (.str "abcdefghijklmnopqrstuvwxyz{|}~"))),
 .asg 3 (.c (.str "")),
 .jo 4 .gu [(.v 1)] [.asg 5 (.call 0 [(.v 0),(.v 4)]),
  .asg 3 (.bin .Add (.v 3) (.ix (.lst [(.c (.str "\n")),(.ix (.c (.str "ab")) (.bin .Mod (.bin .FloorDiv (.v 5) (.c (.int 8))) (.c (.int 2)))),(.ix (.v 2) (.bin .Mod (.bin .FloorDiv (.v 5) (.c (.int 8))) (.c (.int 94)))),(.ix (.v 2) (.bin .Mod (.bin .FloorDiv (.v 5) (.c (.int 8))) (.c (.int 94))))]) (.bin .Mod (.v 5) (.c (.int 4)))))],
 .ret (.v 3)]
def ag0:List Str:=["_law_mixed"]
def ag1:List Str:=[]
def Q6:List Str:=["range"]
def ag2:List Str:=[]
def ag3:List Str:=[]
def ag4:List Str:=[]
def ag5:List Str:=[]
def w4:List Str:=["_law_parts","_law_found","_law_put","_law_cut","_law_word","_law_thing"]
def Q7:List Str:=["_law_parts"]
noncomputable def CO:List RS:=
 [.asg 1 (.lst []),
 .asg 2 (.c (.str "")),
 .asg 3 (.c (.str "")),
 .qd [4,5] .list [(.bin .Add (.v 0) (.lst [(.tup [(.c (.str "end")),(.c (.int 0))])]))] [.ite (.cmp .Eq (.v 4) (.c (.str "put"))) [.asg 2 (.bin .Add (.v 2) (.v 5))] [.ite (.cmp .Eq (.v 4) (.c (.str "cut"))) [.asg 3 (.bin .Add (.v 3) (.v 5))] [.ite (.or [(.cmp .Eq (.v 4) (.c (.str "end"))),(.cmp .Gt (.v 5) (.c (.int 0)))]) [.asg 1 (.bin .Add (.bin .Add (.v 1) (.bin .Mult (.lst [(.tup [(.c (.str "put")),(.v 2)])]) (.blt .int [(.cmp .NotEq (.v 2) (.c (.str "")))]))) (.bin .Mult (.lst [(.tup [(.c (.str "cut")),(.v 3)])]) (.blt .int [(.cmp .NotEq (.v 3) (.c (.str "")))]))),
     .asg 2 (.c (.str "")),
     .asg 3 (.c (.str "")),
     .ite (.and [(.cmp .Eq (.v 4) (.c (.str "keep"))),(.cmp .NotEq (.v 1) (.lst [])),(.cmp .Eq (.ix (.ix (.v 1) (.neg (.c (.int 1)))) (.c (.int 0))) (.c (.str "keep")))]) [.set (.v 1) (.neg (.c (.int 1))) (.tup [(.c (.str "keep")),(.bin .Add (.ix (.ix (.v 1) (.neg (.c (.int 1)))) (.c (.int 1))) (.v 5))])] [.ite (.cmp .Eq (.v 4) (.c (.str "keep"))) [.drop (.cx .append (.v 1) [(.tup [(.c (.str "keep")),(.v 5)])])] []]] []]]],
 .ret (.v 1)]
def ag6:List Str:=[]
def ag7:List Str:=[]
def Q8:List Str:=["int"]
def ag8:List Str:=[]
def ag9:List Str:=[]
def ag_:List Str:=[]
def aha:List Str:=[]
def jx:List Str:=["_law_cell","_law_text","_law_parts","_law_at","_law_k","_law_number","_law_size"]
def Q9:List Str:=["_law_cell","_law_text"]
noncomputable def fg:List RS:=
 [.asg 2 (.lst []),
 .asg 3 (.c (.int 0)),
 .jo 4 .gu [(.bin .Add (.c (.int 1)) (.bin .Mod (.v 0) (.c (.int 7))))] [.asg 5 (.call 0 [(.v 0),(.bin .Add (.c (.int 40)) (.v 4))]),
  .ite (.cmp .Eq (.bin .Mod (.v 5) (.c (.int 3))) (.c (.int 0))) [.drop (.cx .append (.v 2) [(.tup [(.c (.str "put")),(.call 1 [(.v 5),(.bin .Add (.c (.int 1)) (.bin .Mult (.bin .Mod (.bin .FloorDiv (.v 5) (.c (.int 3))) (.c (.int 4))) (.bin .Add (.c (.int 1)) (.bin .Mod (.bin .FloorDiv (.v 5) (.c (.int 12))) (.c (.int 3))))))])])])] [],
  .asg 6 (.blt .min [(.bin .Sub (.blt .len [(.v 1)]) (.v 3)),(.bin .Mod (.bin .FloorDiv (.v 5) (.c (.int 36))) (.bin .Add (.c (.int 2)) (.bin .FloorDiv (.blt .len [(.v 1)]) (.c (.int 3)))))]),
  .ite (.and [(.cmp .Eq (.bin .Mod (.bin .FloorDiv (.v 5) (.c (.int 5))) (.c (.int 3))) (.c (.int 0))),(.cmp .Gt (.v 6) (.c (.int 0)))]) [.drop (.cx .append (.v 2) [(.tup [(.c (.str "cut")),(.sl (.v 1) (some (.v 3)) (some (.bin .Add (.v 3) (.v 6))))])])] [.drop (.cx .append (.v 2) [(.tup [(.c (.str "keep")),(.v 6)])])],
  .asg 3 (.bin .Add (.v 3) (.v 6))],
 .drop (.cx .append (.v 2) [(.tup [(.c (.str "keep")),(.bin .Sub (.blt .len [(.v 1)]) (.v 3))])]),
 .ite (.cmp .Eq (.bin .Mod (.bin .FloorDiv (.v 0) (.c (.int 7))) (.c (.int 3))) (.c (.int 0))) [.drop (.cx .append (.v 2) [(.tup [(.c (.str "put")),(.call 1 [(.v 0),(.bin .Add (.c (.int 1)) (.bin .Mod (.bin .FloorDiv (.v 0) (.c (.int 21))) (.c (.int 5))))])])])] [],
 .ret (.call 2 [(.v 2)])]
def nu:List Str:=["_law_mixed","_law_text_by","_law_neat"]
def nv:List Str:=[]
def lH:List Str:=["range","min","len"]
def ny:List Str:=[]
def nz:List Str:=[]
def nA:List Str:=[]
def nB:List Str:=[]
def w5:List Str:=["_law_text","_law_change","_law_found","_law_at","_law_word","_law_thing"]
def Q_:List Str:=["_law_text","_law_change"]
noncomputable def CQ:List RS:=
 [.asg 2 (.c (.str "")),
 .asg 3 (.c (.int 0)),
 .qd [4,5] .list [(.v 1)] [.ite (.cmp .Eq (.v 4) (.c (.str "put"))) [.asg 2 (.bin .Add (.v 2) (.v 5))] [.ite (.cmp .Eq (.v 4) (.c (.str "keep"))) [.asg 2 (.bin .Add (.v 2) (.sl (.v 0) (some (.v 3)) (some (.bin .Add (.v 3) (.v 5))))),
    .asg 3 (.bin .Add (.v 3) (.v 5))] [.asg 3 (.bin .Add (.v 3) (.blt .len [(.v 5)]))]]],
 .ret (.v 2)]
def ahb:List Str:=[]
def ahc:List Str:=[]
def Ra:List Str:=["len"]
def ahd:List Str:=[]
def ahe:List Str:=[]
def ahf:List Str:=[]
def ahg:List Str:=[]
def CS:List Str:=["node","place","stock","ends","piece","begin","end","ahead"]
def Rb:List Str:=["node","place","stock"]
noncomputable def CU:List RS:=
 [.asg 3 (.c (.int 0)),
 .kU (.cmp .IsNot (.v 0) (.c .az)) [.asg 4 (.ix (.v 0) (.c (.int 1))),
  .asg 5 (.call 0 [(.ix (.v 0) (.c (.int 0)))]),
  .asg 6 (.bin .Add (.v 5) (.ix (.v 4) (.c (.int 1)))),
  .ite (.cmp .LtE (.v 1) (.v 5)) [.asg 0 (.ix (.v 0) (.c (.int 0)))] [.ite (.cmp .Lt (.v 1) (.v 6)) [.asg 7 (.bin .Sub (.cm 0 "ends_ahead" (.v 2) [(.bin .Sub (.bin .Add (.ix (.v 4) (.c (.int 0))) (.v 1)) (.v 5))]) (.cm 0 "ends_ahead" (.v 2) [(.ix (.v 4) (.c (.int 0)))])),
    .ret (.bin .Add (.bin .Add (.v 3) (.call 1 [(.ix (.v 0) (.c (.int 0)))])) (.v 7))] [.asg 3 (.bin .Add (.bin .Add (.v 3) (.call 1 [(.ix (.v 0) (.c (.int 0)))])) (.ix (.v 4) (.c (.int 2)))),
    .asg 1 (.bin .Sub (.v 1) (.v 6)),
    .asg 0 (.ix (.v 0) (.c (.int 2)))]]],
 .ret (.v 3)]
def ahh:List Str:=["size_of","ends_of"]
def ahi:List Str:=[]
def Rf:List Str:=[]
def ahj:List Str:=["ends_ahead"]
def ahk:List Str:=[]
def ahl:List Str:=[]
def ahm:List Str:=[]
def CV:List Str:=["node","number","stock","place","begin","end"]
def Rg:List Str:=["node","number","stock"]
noncomputable def CW:List RS:=
 [.asg 3 (.c (.int 0)),
 .kU (.or [(.cmp .Lt (.v 1) (.call 0 [(.ix (.v 0) (.c (.int 0)))])),(.cmp .GtE (.v 1) (.bin .Add (.call 0 [(.ix (.v 0) (.c (.int 0)))]) (.ix (.ix (.v 0) (.c (.int 1))) (.c (.int 2)))))]) [.ite (.cmp .Lt (.v 1) (.call 0 [(.ix (.v 0) (.c (.int 0)))])) [.asg 0 (.ix (.v 0) (.c (.int 0)))] [.asg 1 (.bin .Sub (.bin .Sub (.v 1) (.call 0 [(.ix (.v 0) (.c (.int 0)))])) (.ix (.ix (.v 0) (.c (.int 1))) (.c (.int 2)))),
   .asg 3 (.bin .Add (.bin .Add (.v 3) (.call 1 [(.ix (.v 0) (.c (.int 0)))])) (.ix (.ix (.v 0) (.c (.int 1))) (.c (.int 1)))),
   .asg 0 (.ix (.v 0) (.c (.int 2)))]],
 .asg 4 (.ix (.ix (.v 0) (.c (.int 1))) (.c (.int 0))),
 .asg 5 (.cm 0 "end_place" (.v 2) [(.bin .Sub (.bin .Add (.cm 1 "ends_ahead" (.v 2) [(.v 4)]) (.v 1)) (.call 0 [(.ix (.v 0) (.c (.int 0)))]))]),
 .ret (.bin .Sub (.bin .Add (.bin .Add (.v 3) (.call 1 [(.ix (.v 0) (.c (.int 0)))])) (.v 5)) (.v 4))]
def ahn:List Str:=["ends_of","size_of"]
def aho:List Str:=[]
def Rh:List Str:=[]
def ahp:List Str:=["end_place","ends_ahead"]
def ahq:List Str:=[]
def ahr:List Str:=[]
def ahs:List Str:=[]
def CY:List Str:=["self","number"]
def Ri:List Str:=["self","number"]
noncomputable def CZ:List RS:=
 [.ret (.ix (.fld (.v 0) "feeds") (.v 1))]
def aht:List Str:=[]
def ahu:List Str:=[]
def Rj:List Str:=[]
def ahv:List Str:=[]
def ahw:List Str:=[]
def ahx:List Str:=[]
def ahy:List Str:=[]
def C0:List Str:=["self","line"]
def Rk:List Str:=["self","line"]
noncomputable def C1:List RS:=
 [.ret (.jY (.cmp .Eq (.v 1) (.c (.int 0))) (.c (.int 0)) (.bin .Add (.call 0 [(.fld (.v 0) "node"),(.bin .Sub (.v 1) (.c (.int 1))),(.fld (.v 0) "stock")]) (.c (.int 1))))]
def ahz:List Str:=["place_of_end"]
def ahA:List Str:=[]
def Rl:List Str:=[]
def ahB:List Str:=[]
def ahC:List Str:=[]
def ahD:List Str:=[]
def ahE:List Str:=[]
def w6:List Str:=["self","line","last","end"]
def Rm:List Str:=["self","line"]
noncomputable def tN:List RS:=
 [.ite (.not (.call 0 [(.v 1),(.c (.int 0)),(.bin .Sub (.cm 0 "lines" (.v 0) []) (.c (.int 1)))])) [.gE 0 [(.c (.str "the text has no such line"))]] [],
 .asg 2 (.cmp .Eq (.v 1) (.bin .Sub (.cm 0 "lines" (.v 0) []) (.c (.int 1)))),
 .asg 3 (.jY (.v 2) (.cm 1 "size" (.v 0) []) (.call 1 [(.fld (.v 0) "node"),(.v 1),(.fld (.v 0) "stock")])),
 .ret (.bin .Sub (.v 3) (.cm 2 "line_begin" (.v 0) [(.v 1)]))]
def ahF:List Str:=["is_between","place_of_end"]
def ahG:List Str:=[]
def C2:List Str:=[]
def ahH:List Str:=["lines","size","line_begin"]
def ahI:List Str:=[]
def ahJ:List Str:=["NoPlace"]
def ahK:List Str:=[]
def w9:List Str:=["self","place","line"]
def Rn:List Str:=["self","place"]
noncomputable def tO:List RS:=
 [.ite (.not (.call 0 [(.v 1),(.c (.int 0)),(.cm 0 "size" (.v 0) [])])) [.gE 0 [(.c (.str "the text has no such place"))]] [],
 .asg 2 (.call 1 [(.fld (.v 0) "node"),(.v 1),(.fld (.v 0) "stock")]),
 .ret (.tup [(.v 2),(.bin .Sub (.v 1) (.cm 1 "line_begin" (.v 0) [(.v 2)]))])]
def ahL:List Str:=["is_between","ends_ahead_of"]
def ahM:List Str:=[]
def C3:List Str:=[]
def ahN:List Str:=["size","line_begin"]
def ahO:List Str:=[]
def ahP:List Str:=["NoPlace"]
def ahQ:List Str:=[]
def w_:List Str:=["self","line","column"]
def Ro:List Str:=["self","line","column"]
noncomputable def tP:List RS:=
 [.ite (.not (.call 0 [(.v 2),(.c (.int 0)),(.cm 0 "line_size" (.v 0) [(.v 1)])])) [.gE 0 [(.c (.str "the line has no such column"))]] [],
 .ret (.bin .Add (.cm 1 "line_begin" (.v 0) [(.v 1)]) (.v 2))]
def ahR:List Str:=["is_between"]
def ahS:List Str:=[]
def C4:List Str:=[]
def ahT:List Str:=["line_size","line_begin"]
def ahU:List Str:=[]
def ahV:List Str:=["NoPlace"]
def ahW:List Str:=[]
end L2.B
namespace L2
open PySem PySem.Spec PyProof.Rows
section
variable {X:Cx}
def xf:V→List V→Hp→VK→Prop:=fun x vs H Q=> ∃z y,x= .str z∧vs=[.str y]∧(y.length==0)=false∧z.length≤1000000∧ ∀l,H l=none→Q (.ref l) (upd H l (.lst ((Txt.split z y).map V.str)))
theorem Rq: ∀(l:List (Str×Tok)),Vals ((l.map (·.1)).map V.str) (strValues l)
 | []=> .nil
 | (x,t)::r=> .cons ⟨t,rfl⟩ (Rq r)
theorem ahX:jU X "str.split" xf:=by
 intro pins s σ H x vs v us Q I rx rv h
 obtain⟨z,y,rfl,rfl,hy,hz,q⟩:=h
 obtain⟨t,rfl⟩:=rx
 obtain⟨u,rfl,⟨t2,rfl⟩⟩:=vals1 rv
 have hs:z.length≤sizeLine:=Nat.le_trans hz (by decide)
 have hn:(Builtin.Str.partsBetween z (Builtin.Str.occurrences z y 0 z.length (z.length+1)) y.length).length≤sizeLine:=by
  have e1:=StrLaws.occ_length_le z y 0 z.length (z.length+1)
  rw[length_partsBetween]
  have:z.length+2≤sizeLine:=Nat.le_trans (Nat.add_le_add_right hz 2) (by decide)
  omega
 have ln:(Txt.split z y).length≤sizeLine:=by
  unfold Txt.split
  split
  ·show 1≤sizeLine;decide
  ·split
   ·show 1≤sizeLine;decide
   ·exact hn
 have qq:=q s.heap.objs.size (I.aN.fresh (Nat.le_refl _))
 have fin: ∀(l:List (Str×Tok)) (k:Nat),l.map (·.1)=Txt.split z y→EP X pins σ Q (.ref s.heap.objs.size) {s with toks:=k,heap:=s.heap.push {cls:= .type "list",data:= .seq (strValues l).toArray}}:=fun l k e=>by
  rw[←e] at qq ln
  exact⟨.ref s.heap.objs.size,_,I.laid (o:= .lst ((l.map (·.1)).map V.str)) (t':=k) (fun b u e=>Heap.get?_push_of_some _ e) (Nat.le_refl _) ⟨by rw[List.length_map];exact ln,_,_,Rq l,Heap.get?_push_size _ rfl⟩,rfl,qq⟩
 cases h1:(decide (z.length<y.length) || decide (Builtin.Str.strKind z<Builtin.Str.strKind y))
 ·cases hf:(Builtin.Str.occurrences z y 0 z.length (z.length+1)).isEmpty
  ·refine call_meets F.slot_str_split (typeIs_str _ _ _) F.entry_str_split (F.args_str_split_2 _ _) (meets_str_split_sep z y t t2 h1 hy hf hs hn) ?_
   show wants _ _ _ {s with toks:=_,heap:=s.heap.push {cls:= .type "list",data:= .seq (strsFrom s.toks (Builtin.Str.partsBetween z (Builtin.Str.occurrences z y 0 z.length (z.length+1)) y.length)).toArray}}
   rw[strsFrom_eq]
   exact fin (numbered s.toks _) _ ((numbered_texts _ _).trans ((if_neg (ne_true_of_eq_false h1)).trans (if_neg (ne_true_of_eq_false hf))).symm)
  ·exact call_meets F.slot_str_split (typeIs_str _ _ _) F.entry_str_split (F.args_str_split_2 _ _) (meets_str_split_not_found z y t t2 h1 hy hf)
    (fin [(z,t)] s.toks ((if_neg (ne_true_of_eq_false h1)).trans (if_pos hf)).symm)
 ·exact call_meets F.slot_str_split (typeIs_str _ _ _) F.entry_str_split (F.args_str_split_2 _ _) (meets_str_split_cannot_occur z y t t2 h1)
   (fin [(z,t)] s.toks (if_pos h1).symm)
def C5:PySem.W.Frag→TE→TA→TE:=fun K to t=>Aa K "str" xf to t
end
section
variable {CX:aK} {S:cN} {Γ:aC} {X:Cx} {e e2 a b c d:Expr} {es:List Expr} {x:Str} {p q pos:Pos} {r ra rb rc:RE} {rs:List RE} {i j:Nat}
theorem ahY{o:Expr}{ro:RE}{ap:Pos}(G:Good CX S Γ X)(ho:PE X o (ak Γ ro))(hA:PA X (e::es) (bI Γ (r::rs)))(h:kM o "split" x (es.length+1) ap pos=true:=by kernel_rfl)(hn:e8 (e::es)=true:=by kernel_rfl):PE X (.Call (.Attribute o x ap) (e::es) [] pos) (ak Γ (.xm C5 ro (r::rs))):=by
 simp only[kM,Bool.and_eq_true,decide_eq_true_eq] at h
 obtain⟨⟨⟨rfl,h2⟩,h3⟩,h4⟩:=h
 show PE X _ (Aa Γ.K "str" xf (ak Γ ro) (bI Γ (r::rs)))
 rw[←G.K]
 exact NN F.plainAttrs_str F.slot_str_split F.type_str_split ahX ho hA (mP h2) (agQ h4 (wA _ _ (e::es) hn) rfl) h3 (dG (dm hn).1) (iO _ _ es (dm hn).2)
end
end L2
namespace L2.nC
open PySem PySem.Spec PyProof.Rows L2.B
def bF(i:Nat):Stmt:=(PySem.Challenge.pw_inkloom_k18_papers_refused.main.body).getD i (.Pass ⟨0,0,0,0⟩)
def nE:Stmt:=bF 17
theorem ahZ:bw Bm Pu (ax nE):=bD
theorem ah0{CX:aK}{Γ:aC}{X:Cx}(G:aQ CX (aU Bm (ax nE) acN acO Pw acP acQ acR acS 0) Γ X):a_ X (aA nE) (aw Γ Bn):=by
 have g:=G.toGood
 exact(aj (aY (jt (ju g (aa g)) (j8 (Ba g (ju g (aa g)))))) aB)
def nF:Stmt:=bF 18
theorem ah1:bw By PV (ax nF):=bD
theorem ah2{CX:aK}{Γ:aC}{X:Cx}(G:aQ CX (aU By (ax nF) adN adO PX adP adQ adR adS 0) Γ X):a_ X (aA nF) (aw Γ Bz):=by
 have g:=G.toGood
 exact(aj (aY (jt (aH g (ae (aa g) ai)) (j8 (A_ g (aa g) (aa g) (aa g))))) aB)
def nG:Stmt:=bF 19
theorem ah3:bw wH Px (ax nG):=bD
theorem ah4{CX:aK}{Γ:aC}{X:Cx}(G:aQ CX (aU wH (ax nG) acT acU Py acV acW acX acY 0) Γ X):a_ X (aA nG) (aw Γ wI):=by
 have g:=G.toGood
 exact(aj (aY (jt (ju g (aa g)) (j8 (e9 g (aa g) (aa g))))) aB)
def nH:Stmt:=bF 20
theorem ah5:bw wJ Pz (ax nH):=bD
theorem ah6{CX:aK}{Γ:aC}{X:Cx}(G:aQ CX (aU wJ (ax nH) acZ ac0 PB ac1 ac2 ac3 ac4 0) Γ X):a_ X (aA nH) (aw Γ wK):=by
 have g:=G.toGood
 exact(aj (aY (jt (ju g (aa g)) (j8 (e9 g (dH g (aa g) (ae (fF g) ai)) aI)))) aB)
def nI:Stmt:=bF 21
theorem ah7:bw Bo PC (ax nI):=bD
theorem ah8{CX:aK}{Γ:aC}{X:Cx}(G:aQ CX (aU Bo (ax nI) ac5 ac6 PD ac7 ac8 ac9 ac_ 0) Γ X):a_ X (aA nI) (aw Γ Bp):=by
 have g:=G.toGood
 exact(aj (bC (e_ (gG g (aH g (ae (aa g) ai)))) (aj (iQ G (ae aI ai)) aB) aB) aB)
def nJ:Stmt:=bF 23
theorem ah9:bw tw PF (ax nJ):=bD
theorem ah_{CX:aK}{Γ:aC}{X:Cx}(G:aQ CX (aU tw (ax nJ) ada adb PH ade adf adg adh 0) Γ X):a_ X (aA nJ) (aw Γ tD):=by
 have g:=G.toGood
 exact(aj (bC (PW.pt (gF (e_ (wF g (ju g (aa g)))) (jv (bo g (cw g (ae (aa g) ai)) aq)))) (aj (aY fE) aB) aB) (aj (bC (gG g (aH g (ae (aF g (aa g) aq) (ae (bK (ae aI ai)) ai)))) (aj (aY (jt (aH g (ae (aF g (aa g) aq) ai)) (j8 (e9 g (aF g (aa g) aq) aq)))) aB) aB) (aj (aY (jt (aH g (ae (aF g (aa g) aq) (ae (bK (ae aI (ae aI ai))) ai))) (jt (aH g (ae (aF g (aa g) aq) ai)) (j8 (e9 g (aF g (aa g) aq) aI))))) aB)))
def nK:Stmt:=bF 24
theorem aia:bw Bq PJ (ax nK):=bD
theorem aib{CX:aK}{Γ:aC}{X:Cx}(G:aQ CX (aU Bq (ax nK) adi adj PK adk adl adm adn 0) Γ X):a_ X (aA nK) (aw Γ Br):=by
 have g:=G.toGood
 exact(aj (aY (jt (e9 g (aa g) (aa g)) (j8 (Ba g (jt (e9 g (aa g) aI) (j8 (e9 g (aa g) aI))))))) aB)
def nM:Stmt:=bF 25
theorem Rr:bw wL PL (ax nM):=bD
theorem Ru{CX:aK}{Γ:aC}{X:Cx}(G:aQ CX (aU wL (ax nM) ado adp Bs adq ads adt adu 0) Γ X):a_ X (aA nM) (aw Γ tE):=by
 have g:=G.toGood
 exact(aj (bC (e_ (wF g (ju g (aa g)))) (aj (iQ G (ae aI ai)) aB) aB) (aj (aR G aI) (aj (qB G (lE g (aa g)) (aj (bC (e_ (gG g (aH g (ae (aa g) ai)))) (aj (iQ G (ae aI ai)) aB) aB) (aj (bC (e_ (gG g (aH g (ae (aF g (aa g) aq) (ae (aa g) ai))))) (aj (iQ G (ae aI ai)) aB) aB) (aj (aR G (aF g (aa g) aq)) aB)))) aB)))
def nN:Stmt:=bF 26
theorem aic:bw Bt PM (ax nN):=bD
theorem aid{CX:aK}{Γ:aC}{X:Cx}(G:aQ CX (aU Bt (ax nN) adv adw PN adx ady adz adA 0) Γ X):a_ X (aA nN) (aw Γ Bu):=by
 have g:=G.toGood
 exact(aj (aY (qy (bo g (aF g (aa g) aq) aI) (aF g (aa g) aq) (cw g (ae (aF g (aa g) aq) ai)))) aB)
def nO:Stmt:=bF 27
theorem Rv:bw wM PQ (ax nO):=bD
theorem Rw{CX:aK}{Γ:aC}{X:Cx}(G:aQ CX (aU wM (ax nO) adB adC Bv adD adE adF adG 0) Γ X):a_ X (aA nO) (aw Γ tF):=by
 have g:=G.toGood
 exact(aj (eQ (aH g (ae (aa g) ai))) (aj (aR G (cw g (ae (Be (ln:=["part"]) g (by kernel_rfl) (lE g (aa g)) (Pl fun _ g=> (bo g (aF g (aa g) aq) aI)) (fun _ g=> (aH g (ae (aa g) ai)))) ai))) (aj (aR G (cw g (ae (Be (ln:=["part"]) g (by kernel_rfl) (lE g (aa g)) (Pl fun _ g=> (bo g (aF g (aa g) aq) aI)) (fun _ g=> (aH g (ae (aa g) ai)))) ai))) (aj (aY (bK (ae (aa g) (ae (aa g) ai)))) aB))))
def nP:Stmt:=bF 29
theorem aie:bw BK Qc (ax nP):=bD
theorem aif{CX:aK}{Γ:aC}{X:Cx}(G:aQ CX (aU BK (ax nP) aes aet Qd aeu aev aew aex 0) Γ X):a_ X (aA nP) (aw Γ BL):=by
 have g:=G.toGood
 exact(aj (aY (qy (bo g (aa g) d0) aq (aF g (aa g) aq))) aB)
def nQ:Stmt:=bF 30
theorem aih:bw BM Qe (ax nQ):=bD
theorem aii{CX:aK}{Γ:aC}{X:Cx}(G:aQ CX (aU BM (ax nQ) aey aez Qf aeA aeB aeC aeD 0) Γ X):a_ X (aA nQ) (aw Γ BN):=by
 have g:=G.toGood
 exact(aj (aY (qy (bo g (aa g) d0) aq (aF g (aa g) aq))) aB)
def nR:Stmt:=bF 31
theorem aij:bw BO Qg (ax nR):=bD
theorem aik{CX:aK}{Γ:aC}{X:Cx}(G:aQ CX (aU BO (ax nR) aeE aeF Qh aeG aeH aeI aeJ 0) Γ X):a_ X (aA nR) (aw Γ BP):=by
 have g:=G.toGood
 exact(aj (aY (qy (bo g (aa g) d0) aq (aF g (aa g) aq))) aB)
def nS:Stmt:=bF 32
theorem ail:bw BQ Qi (ax nS):=bD
theorem aim{CX:aK}{Γ:aC}{X:Cx}(G:aQ CX (aU BQ (ax nS) aeK aeL Qj aeM aeN aeO aeP 0) Γ X):a_ X (aA nS) (aw Γ BR):=by
 have g:=G.toGood
 exact(aj (aR G (aD g aq (cw g (ae (aH g (ae (aa g) ai)) (ae (aH g (ae (aa g) ai)) ai))))) (aj (aR G (aD g (aD g (aH g (ae (aa g) ai)) (aF g (aa g) aq)) (aH g (ae (aa g) ai)))) (aj (aY (bK (ae (aa g) (ae (aa g) (ae (aa g) (ae (aa g) (ae (aa g) (ae (aD g (aD g (aH g (ae (aa g) ai)) (aF g (aa g) aq)) (aH g (ae (aa g) ai))) ai)))))))) aB)))
def nT:Stmt:=bF 33
theorem ain:bw BS Qk (ax nT):=bD
theorem aio{CX:aK}{Γ:aC}{X:Cx}(G:aQ CX (aU BS (ax nT) aeQ aeR Ql aeS aeT aeU aeV 0) Γ X):a_ X (aA nT) (aw Γ BU):=by
 have g:=G.toGood
 exact(aj (aR G (aF g (aa g) aq)) (aj (bC (bo g (aH g (ae (aF g (aa g) aq) ai)) (aH g (ae (aa g) ai))) (aj (aY (aH g (ae (aF g (aa g) aq) (ae (aF g (aa g) aq) (ae (aH g (ae (aa g) (ae (aa g) (ae (aa g) ai)))) ai))))) aB) aB) (aj (aY (aH g (ae (aH g (ae (aF g (aa g) aq) (ae (aF g (aa g) aq) (ae (aF g (aa g) aq) ai)))) (ae (aF g (aa g) aq) (ae (aH g (ae (aF g (aa g) aq) (ae (aa g) (ae (aa g) ai)))) ai))))) aB)))
def nU:Stmt:=bF 34
theorem aip:bw BV Qm (ax nU):=bD
theorem aiq{CX:aK}{Γ:aC}{X:Cx}(G:aQ CX (aU BV (ax nU) aeW aeX Qn aeY aeZ ae0 ae1 0) Γ X):a_ X (aA nU) (aw Γ BW):=by
 have g:=G.toGood
 exact(aj (aR G (aF g (aa g) aq)) (aj (bC (bo g (aH g (ae (aF g (aa g) aq) ai)) (aH g (ae (aa g) ai))) (aj (aY (aH g (ae (aH g (ae (aa g) (ae (aa g) (ae (aa g) ai)))) (ae (aF g (aa g) aq) (ae (aF g (aa g) aq) ai))))) aB) aB) (aj (aY (aH g (ae (aH g (ae (aa g) (ae (aa g) (ae (aF g (aa g) aq) ai)))) (ae (aF g (aa g) aq) (ae (aH g (ae (aF g (aa g) aq) (ae (aF g (aa g) aq) (ae (aF g (aa g) aq) ai)))) ai))))) aB)))
def nV:Stmt:=bF 35
theorem air:bw BX Qo (ax nV):=bD
theorem ais{CX:aK}{Γ:aC}{X:Cx}(G:aQ CX (aU BX (ax nV) ae2 ae3 Qp ae4 ae5 ae6 ae7 0) Γ X):a_ X (aA nV) (aw Γ BY):=by
 have g:=G.toGood
 exact(aj (bC (bo g (aH g (ae (aa g) ai)) (aD g (aH g (ae (aa g) ai)) aq)) (aj (aY (aH g (ae (aa g) (ae (aa g) (ae (aa g) ai))))) aB) aB) (aj (bC (bo g (aH g (ae (aa g) ai)) (aD g (aH g (ae (aa g) ai)) aq)) (aj (aY (aH g (ae (aa g) (ae (aa g) (ae (aa g) ai))))) aB) aB) (aj (aY (aH g (ae (aa g) (ae (aa g) (ae (aa g) ai))))) aB)))
def nW:Stmt:=bF 36
theorem Rx:bw BZ Qq (ax nW):=bD
theorem ait{CX:aK}{Γ:aC}{X:Cx}(G:aQ CX (aU BZ (ax nW) ae8 ae9 Qr ae_ afa afb afc 0) Γ X):a_ X (aA nW) (aw Γ B_):=by
 have g:=G.toGood
 exact(aj (bC (bo g (aH g (ae (aa g) ai)) (aD g (aH g (ae (aa g) ai)) aq)) (aj (aY (aH g (ae (aF g (aa g) aq) (ae (aF g (aa g) aq) (ae (aH g (ae (aF g (aa g) aq) (ae (aa g) (ae (aa g) ai)))) ai))))) aB) aB) (aj (bC (bo g (aH g (ae (aa g) ai)) (aD g (aH g (ae (aa g) ai)) aq)) (aj (aY (aH g (ae (aH g (ae (aa g) (ae (aa g) (ae (aF g (aa g) aq) ai)))) (ae (aF g (aa g) aq) (ae (aF g (aa g) aq) ai))))) aB) aB) (aj (aY (aH g (ae (aa g) (ae (aa g) (ae (aa g) ai))))) aB)))
def nX:Stmt:=bF 37
theorem Ry:bw Ca Qs (ax nX):=bD
theorem aiu{CX:aK}{Γ:aC}{X:Cx}(G:aQ CX (aU Ca (ax nX) afd afe Qt aff afg afh afi 0) Γ X):a_ X (aA nX) (aw Γ Cb):=by
 have g:=G.toGood
 exact(aj (bC (bo g (aF g (aa g) aq) d0) (aj (aY (bK (ae (aF g (aa g) aq) (ae (aF g (aa g) aq) ai)))) aB) aB) (aj (aR G (aH g (ae (aF g (aa g) aq) ai))) (aj (aY (bK (ae (aH g (ae (aF g (aa g) aq) (ae (aF g (aa g) aq) (ae (aF g (aa g) aq) ai)))) (ae (aF g (aa g) aq) ai)))) aB)))
def nY:Stmt:=bF 38
theorem Rz:bw Cc Qu (ax nY):=bD
theorem aiv{CX:aK}{Γ:aC}{X:Cx}(G:aQ CX (aU Cc (ax nY) afj afk Qw afl afm afn afo 0) Γ X):a_ X (aA nY) (aw Γ Cd):=by
 have g:=G.toGood
 exact(aj (bC (bo g (aF g (aa g) aq) d0) (aj (aY (bK (ae (aF g (aa g) aq) (ae (aF g (aa g) aq) ai)))) aB) aB) (aj (aR G (aH g (ae (aF g (aa g) aq) ai))) (aj (aY (bK (ae (aF g (aa g) aq) (ae (aH g (ae (aF g (aa g) aq) (ae (aF g (aa g) aq) (ae (aF g (aa g) aq) ai)))) ai)))) aB)))
def nZ:Stmt:=bF 39
theorem aiw:bw Ce Qx (ax nZ):=bD
theorem aix{CX:aK}{Γ:aC}{X:Cx}(G:aQ CX (aU Ce (ax nZ) afp afq Qy afr afs aft afu 0) Γ X):a_ X (aA nZ) (aw Γ Cf):=by
 have g:=G.toGood
 exact(aj (bC (bo g (aa g) d0) (aj (aY (aa g)) aB) aB) (aj (aR G (aH g (ae (aa g) ai))) (aj (aR G (aH g (ae (aa g) ai))) (aj (aR G (aF g (aa g) aq)) (aj (aR G (aF g (aa g) aq)) (aj (bC (bo g (aD g (aF g (aa g) aq) (aF g (aa g) aq)) (aF g (aa g) aq)) (aj (aY (aH g (ae (aF g (aa g) aq) (ae (bK (ae (aF g (aa g) aq) (ae (aD g (aF g (aa g) aq) (aF g (aa g) aq)) (ae (aD g (aF g (aa g) aq) (aF g (aa g) aq)) ai)))) (ae (aF g (aa g) aq) ai))))) aB) aB) (aj (aY (aH g (ae (aF g (aa g) aq) (ae (aa g) (ae (aa g) ai))))) aB)))))))
def n6:Stmt:=bF 40
theorem aiy:bw Cg Qz (ax n6):=bD
theorem aiz{CX:aK}{Γ:aC}{X:Cx}(G:aQ CX (aU Cg (ax n6) afv afw QC afx afy afz afA 0) Γ X):a_ X (aA n6) (aw Γ Ci):=by
 have g:=G.toGood
 exact(aj (aR G (aD g (aF g (aa g) aq) (aa g))) (aj (aR G (aD g (eh g (aa g) (ae (aa g) ai)) (eh g (aa g) (ae (aF g (aa g) aq) ai)))) (aj (aY (bK (ae (bK (ae (aF g (aa g) aq) (ae (aa g) (ae (aa g) ai)))) (ae (bK (ae (aa g) (ae (aD g (aF g (aa g) aq) (aa g)) (ae (aD g (aF g (aa g) aq) (aa g)) ai)))) ai)))) aB)))
def n_:Stmt:=bF 41
theorem RA:bw Cj QD (ax n_):=bD
theorem aiA{CX:aK}{Γ:aC}{X:Cx}(G:aQ CX (aU Cj (ax n_) afB afC QE afD afE afF afG 0) Γ X):a_ X (aA n_) (aw Γ Ck):=by
 have g:=G.toGood
 exact(aj (bC (bo g (aa g) d0) (aj (aY (bK (ae d0 (ae d0 ai)))) aB) aB) (aj (aR G (aF g (aa g) aq)) (aj (aR G (aH g (ae (aF g (aa g) aq) ai))) (aj (aR G (aD g (aa g) (aF g (aa g) aq))) (aj (bC (bo g (aa g) (aa g)) (aj (aR G (aH g (ae (aF g (aa g) aq) (ae (aa g) (ae (aa g) ai))))) (aj (aY (bK (ae (aF g (aa g) aq) (ae (aH g (ae (aF g (aa g) aq) (ae (aa g) (ae (aF g (aa g) aq) ai)))) ai)))) aB)) aB) (aj (bC (bo g (aa g) (aa g)) (aj (aR G (aH g (ae (aF g (aa g) aq) (ae (aD g (aa g) (aa g)) (ae (aa g) ai))))) (aj (aY (bK (ae (aH g (ae (aF g (aa g) aq) (ae (aa g) (ae (aF g (aa g) aq) ai)))) (ae (aF g (aa g) aq) ai)))) aB)) aB) (aj (aR G (aH g (ae (aa g) (ae (aD g (aa g) (aa g)) (ae (aa g) ai))))) (aj (aY (bK (ae (aH g (ae (aF g (aa g) aq) (ae (aF g (aa g) aq) (ae d0 ai)))) (ae (aH g (ae d0 (ae (aF g (aa g) aq) (ae (aF g (aa g) aq) ai)))) ai)))) aB))))))))
def og:Stmt:=bF 42
theorem RB:bw Cm QF (ax og):=bD
theorem aiB{CX:aK}{Γ:aC}{X:Cx}(G:aQ CX (aU Cm (ax og) afH afI QG afJ afK afL afM 0) Γ X):a_ X (aA og) (aw Γ Cn):=by
 have g:=G.toGood
 exact(aj (bC (bo g (aa g) d0) (aj (aY (bU ai)) aB) aB) (aj (aR G (aH g (ae (aF g (aa g) aq) ai))) (aj (eQ (dH g (aa g) (ae (aF g (aa g) aq) ai))) (aj (eQ (dH g (aa g) (ae (aH g (ae (aF g (aa g) aq) ai)) ai))) (aj (aY (aa g)) aB)))))
def oh:Stmt:=bF 43
theorem aiC:bw CS Rb (ax oh):=bD
theorem aiD{CX:aK}{Γ:aC}{X:Cx}(G:aQ CX (aU CS (ax oh) ahh ahi Rf ahj ahk ahl ahm 0) Γ X):a_ X (aA oh) (aw Γ CU):=by
 have g:=G.toGood
 exact(aj (aR G aq) (aj (s_ G (bo g (aa g) d0) (aj (aR G (aF g (aa g) aq)) (aj (aR G (aH g (ae (aF g (aa g) aq) ai))) (aj (aR G (aD g (aa g) (aF g (aa g) aq))) (aj (bC (bo g (aa g) (aa g)) (aj (aR G (aF g (aa g) aq)) aB) (aj (bC (bo g (aa g) (aa g)) (aj (aR G (aD g (eh g (aa g) (ae (aD g (aD g (aF g (aa g) aq) (aa g)) (aa g)) ai)) (eh g (aa g) (ae (aF g (aa g) aq) ai)))) (aj (aY (aD g (aD g (aa g) (aH g (ae (aF g (aa g) aq) ai))) (aa g))) aB)) (aj (aR G (aD g (aD g (aa g) (aH g (ae (aF g (aa g) aq) ai))) (aF g (aa g) aq))) (aj (aR G (aD g (aa g) (aa g))) (aj (aR G (aF g (aa g) aq)) aB)))) aB)) aB))))) (aj (aY (aa g)) aB)))
def oi:Stmt:=bF 44
theorem aiE:bw CV Rg (ax oi):=bD
theorem aiF{CX:aK}{Γ:aC}{X:Cx}(G:aQ CX (aU CV (ax oi) ahn aho Rh ahp ahq ahr ahs 0) Γ X):a_ X (aA oi) (aw Γ CW):=by
 have g:=G.toGood
 exact(aj (aR G aq) (aj (s_ G (PW.pt (gF (bo g (aa g) (aH g (ae (aF g (aa g) aq) ai))) (jv (bo g (aa g) (aD g (aH g (ae (aF g (aa g) aq) ai)) (aF g (aF g (aa g) aq) aq)))))) (aj (bC (bo g (aa g) (aH g (ae (aF g (aa g) aq) ai))) (aj (aR G (aF g (aa g) aq)) aB) (aj (aR G (aD g (aD g (aa g) (aH g (ae (aF g (aa g) aq) ai))) (aF g (aF g (aa g) aq) aq))) (aj (aR G (aD g (aD g (aa g) (aH g (ae (aF g (aa g) aq) ai))) (aF g (aF g (aa g) aq) aq))) (aj (aR G (aF g (aa g) aq)) aB)))) aB)) (aj (aR G (aF g (aF g (aa g) aq) aq)) (aj (aR G (eh g (aa g) (ae (aD g (aD g (eh g (aa g) (ae (aa g) ai)) (aa g)) (aH g (ae (aF g (aa g) aq) ai))) ai))) (aj (aY (aD g (aD g (aD g (aa g) (aH g (ae (aF g (aa g) aq) ai))) (aa g)) (aa g))) aB)))))
def oj:Stmt:=bF 46
theorem aiG:bw BB PZ (ax oj):=bD
theorem aiH{CX:aK}{Γ:aC}{X:Cx}(G:aQ CX (aU BB (ax oj) adZ ad0 P0 ad1 ad2 ad3 ad4 0) Γ X):a_ X (aA oj) (aw Γ BC):=by
 have g:=G.toGood
 exact(aj (aR G aq) (aj (aR G (cw g (ae (aa g) ai))) (aj (s_ G (bo g (aa g) (aa g)) (aj (aR G (aD g (aD g (aa g) (aa g)) aq)) (aj (bC (bo g (aF g (aa g) (aa g)) (aa g)) (aj (aR G (aD g (aa g) aq)) aB) (aj (aR G (aa g)) aB)) aB))) (aj (aY (aa g)) aB))))
def om:Stmt:=inClass (bF 48) 0
theorem aiI:bw BD P4 (ax om):=bD
theorem aiJ{CX:aK}{Γ:aC}{X:Cx}(G:aQ CX (aU BD (ax om) ad5 ad6 P5 ad7 ad8 ad9 ad_ 0) Γ X):a_ X (aA om) (aw Γ BE):=by
 have g:=G.toGood
 exact(aj (nh G (aa g) (bU ai)) (aj (nh G (aa g) (bU ai)) (aj (nh G (aa g) (bU ai)) (aj (nh G (aa g) aq) aB))))
def oo:Stmt:=inClass (bF 48) 1
theorem aiK:bw wN P6 (ax oo):=bD
theorem aiL{CX:aK}{Γ:aC}{X:Cx}(G:aQ CX (aU wN (ax oo) aea aeb P7 aec aed aee aef 0) Γ X):a_ X (aA oo) (aw Γ BF):=by
 have g:=G.toGood
 exact(aj (eQ (aH g (ae (aa g) ai))) (aj (aR G (cG g (aa g))) (aj (eQ (dH g (cG g (aa g)) (ae (aa g) ai))) (aj (eQ (dH g (cG g (aa g)) (ae (aa g) ai))) (aj (nh G (aa g) (aD g (aa g) (cw g (ae (aa g) ai)))) (aj (aR G (dH g (aa g) (ae aI ai))) (aj (s_ G (bo g (aa g) aq) (aj (eQ (dH g (cG g (aa g)) (ae (aD g (aa g) (aa g)) ai))) (aj (aR G (dH g (aa g) (ae aI (ae (aD g (aa g) aq) ai)))) aB))) (aj (aY (aa g)) aB))))))))
def ou:Stmt:=inClass (bF 48) 2
theorem aiM:bw BG P8 (ax ou):=bD
theorem aiN{CX:aK}{Γ:aC}{X:Cx}(G:aQ CX (aU BG (ax ou) aeg aeh P9 aei aej aek ael 0) Γ X):a_ X (aA ou) (aw Γ BH):=by
 have g:=G.toGood
 exact(aj (bC (PW.pt (gF (e_ (gG g (aH g (ae (aa g) (ae aq (ae (cG g (aa g)) ai)))))) (jv (e_ (gG g (aH g (ae (aa g) (ae aq (ae (aD g (cG g (aa g)) (aa g)) ai))))))))) (aj (iQ G (ae aI ai)) aB) aB) (aj (aR G (bU ai)) (aj (aR G (aD g (aH g (ae (cG g (aa g)) (ae (aa g) ai))) aq)) (aj (aR G (aD g (aa g) (aa g))) (aj (s_ G (bo g (aa g) (aa g)) (aj (aR G (aD g (aa g) (aF g (cG g (aa g)) (aa g)))) (aj (aR G (m_ g (aF g (cG g (aa g)) (aa g)) (ig (aa g)) (ig (aD g (aD g (aa g) (aa g)) (aa g))))) (aj (eQ (dH g (aa g) (ae (aa g) ai))) (aj (aR G (aD g (aa g) (cw g (ae (aa g) ai)))) (aj (aR G (aD g (aa g) aq)) aB)))))) (aj (aY (dH g aI (ae (aa g) ai))) aB))))))
def ow:Stmt:=inClass (bF 48) 3
theorem aiO:bw BI P_ (ax ow):=bD
theorem aiP{CX:aK}{Γ:aC}{X:Cx}(G:aQ CX (aU BI (ax ow) aem aen Qa aeo aep aeq aer 0) Γ X):a_ X (aA ow) (aw Γ BJ):=by
 have g:=G.toGood
 exact(aj (aY (cG g (aa g))) aB)
def oy:Stmt:=inClass (bF 48) 4
theorem aiQ:bw Co QH (ax oy):=bD
theorem aiR{CX:aK}{Γ:aC}{X:Cx}(G:aQ CX (aU Co (ax oy) afN afO QI afP afQ afR afS 0) Γ X):a_ X (aA oy) (aw Γ Cp):=by
 have g:=G.toGood
 exact(aj (aY (aH g (ae (cG g (aa g)) (ae (aD g (aa g) aq) ai)))) aB)
def oz:Stmt:=inClass (bF 48) 5
theorem aiS:bw CY Ri (ax oz):=bD
theorem aiT{CX:aK}{Γ:aC}{X:Cx}(G:aQ CX (aU CY (ax oz) aht ahu Rj ahv ahw ahx ahy 0) Γ X):a_ X (aA oz) (aw Γ CZ):=by
 have g:=G.toGood
 exact(aj (aY (aF g (cG g (aa g)) (aa g))) aB)
def oA:Stmt:=bF 50
theorem aiU:bw Cq QJ (ax oA):=bD
theorem aiV{CX:aK}{Γ:aC}{X:Cx}(G:aQ CX (aU Cq (ax oA) afT afU QK afV afW afX afY 0) Γ X):a_ X (aA oA) (aw Γ Cr):=by
 have g:=G.toGood
 exact(aj (bC (bo g (aa g) aI) (aj (aY d0) aB) aB) (aj (aY (aH g (ae d0 (ae (bK (ae (eh g (aa g) (ae (aa g) ai)) (ae (cw g (ae (aa g) ai)) (ae (dH g (aa g) (ae aI ai)) ai)))) (ae d0 ai))))) aB))
def oB:Stmt:=bF 51
theorem RC:bw wR QL (ax oB):=bD
theorem RD{CX:aK}{Γ:aC}{X:Cx}(G:aQ CX (aU wR (ax oB) afZ af0 Cs af1 af2 af3 af4 0) Γ X):a_ X (aA oB) (aw Γ tI):=by
 have g:=G.toGood
 exact(aj (eQ (aH g (ae (aa g) ai))) (aj (aR G (acu g)) (aj (aY (Pj g (ae (aa g) (ae (aH g (ae (aa g) (ae (aa g) ai))) ai)))) aB)))
def oC:Stmt:=bF 52
theorem RF:bw wU QM (ax oC):=bD
theorem RG{CX:aK}{Γ:aC}{X:Cx}(G:aQ CX (aU wU (ax oC) af5 af6 Ct af7 af8 af9 af_ 0) Γ X):a_ X (aA oC) (aw Γ tJ):=by
 have g:=G.toGood
 exact(aj (bC (bo g (aF g (aH g (ae (aa g) ai)) aq) (iP g (aa g))) (aj (iQ G (ae aI ai)) aB) aB) (aj (aR G aq) (aj (qB G (lE g (aa g)) (aj (bC (PW.pt (lB (bo g (aF g (aa g) aq) aI) (qA (bo g (eh g (aa g) (ae (aa g) (ae (aD g (aa g) (cw g (ae (aF g (aa g) aq) ai))) ai))) (aF g (aa g) aq))))) (aj (iQ G (ae aI ai)) aB) aB) (aj (bC (bo g (aF g (aa g) aq) aI) (aj (aR G (aD g (aa g) (aH g (ae (aa g) ai)))) aB) aB) aB))) aB)))
def oE:Stmt:=bF 53
theorem aiW:bw Cu QN (ax oE):=bD
theorem aiX{CX:aK}{Γ:aC}{X:Cx}(G:aQ CX (aU Cu (ax oE) aga agb QO agc agd age agf 0) Γ X):a_ X (aA oE) (aw Γ Cv):=by
 have g:=G.toGood
 exact(aj (aY (Be (ln:=["piece"]) g (by kernel_rfl) (lE g (aH g (ae (aa g) ai))) acx (fun _ g=> (eh g (aa g) (ae (aF g (aa g) aq) (ae (aF g (aa g) aq) ai)))))) aB)
def oF:Stmt:=inClass (bF 54) 0
theorem aiY:bw Cw QP (ax oF):=bD
theorem aiZ{CX:aK}{Γ:aC}{X:Cx}(G:aQ CX (aU Cw (ax oF) agg agh QR agi agj agk agl 0) Γ X):a_ X (aA oF) (aw Γ Cy):=by
 have g:=G.toGood
 exact(aj (nh G (aa g) (aa g)) (aj (nh G (aa g) (aa g)) aB))
def oG:Stmt:=inClass (bF 54) 1
theorem ai0:bw Cz QS (ax oG):=bD
theorem ai1{CX:aK}{Γ:aC}{X:Cx}(G:aQ CX (aU Cz (ax oG) agm agn QU ago agp agq agr 0) Γ X):a_ X (aA oG) (aw Γ CA):=by
 have g:=G.toGood
 exact(aj (aY (aH g (ae (cG g (aa g)) ai))) aB)
def oH:Stmt:=inClass (bF 54) 2
theorem ai2:bw CD QV (ax oH):=bD
theorem ai3{CX:aK}{Γ:aC}{X:Cx}(G:aQ CX (aU CD (ax oH) ags agt QW agu agv agw agx 0) Γ X):a_ X (aA oH) (aw Γ CG):=by
 have g:=G.toGood
 exact(aj (aY (aD g (aH g (ae (cG g (aa g)) ai)) aq)) aB)
def oI:Stmt:=inClass (bF 54) 3
theorem ai4:bw CH QX (ax oI):=bD
theorem ai5{CX:aK}{Γ:aC}{X:Cx}(G:aQ CX (aU CH (ax oI) agy agz QY agA agB agC agD 0) Γ X):a_ X (aA oI) (aw Γ CI):=by
 have g:=G.toGood
 exact(aj (aY (dH g aI (ae (aH g (ae (cG g (aa g)) (ae (cG g (aa g)) ai))) ai))) aB)
def oJ:Stmt:=inClass (bF 54) 6
theorem RH:bw wV QZ (ax oJ):=bD
theorem RI{CX:aK}{Γ:aC}{X:Cx}(G:aQ CX (aU wV (ax oJ) agE agF CJ agG agH agI agJ 0) Γ X):a_ X (aA oJ) (aw Γ tK):=by
 have g:=G.toGood
 exact(aj (bC (PW.pt (gF (e_ (gG g (aH g (ae (aa g) (ae aq (ae (iP g (aa g)) ai)))))) (jv (e_ (gG g (aH g (ae (aa g) (ae (aa g) (ae (iP g (aa g)) ai))))))))) (aj (iQ G (ae aI ai)) aB) aB) (aj (aR G (aF g (aH g (ae (cG g (aa g)) (ae (aa g) (ae (cG g (aa g)) ai)))) aq)) (aj (aY (dH g aI (ae (aH g (ae (cG g (aa g)) (ae (aF g (aH g (ae (aa g) (ae (aa g) (ae (cG g (aa g)) ai)))) aq) ai))) ai))) aB)))
def oK:Stmt:=inClass (bF 54) 7
theorem RJ:bw wW Q0 (ax oK):=bD
theorem RK{CX:aK}{Γ:aC}{X:Cx}(G:aQ CX (aU wW (ax oK) agK agL CK agM agN agO agP 0) Γ X):a_ X (aA oK) (aw Γ tL):=by
 have g:=G.toGood
 exact(aj (eQ (aH g (ae (aa g) (ae (aa g) ai)))) (aj (aR G d0) (aj (aR G (cG g (aa g))) (aj (qB G (lE g (aa g)) (aj (bC (bo g (aF g (aa g) aq) aI) (aj (aR G (aH g (ae (aa g) (ae (aH g (ae (cG g (aa g)) (ae (aF g (aa g) aq) ai))) ai)))) (aj acF aB)) aB) (aj (aR G (aH g (ae (aa g) (ae (aH g (ae (aa g) ai)) (ae (cG g (aa g)) ai))))) (aj (aR G (aF g (aa g) aq)) (aj (bC (bo g (aF g (aa g) aq) aI) (aj (aR G (aH g (ae (aa g) (ae (aF g (aa g) aq) ai)))) aB) aB) aB))))) (aj (aY (Pj g (ae (cG g (aa g)) (ae (aa g) ai)))) aB)))))
def oM:Stmt:=inClass (bF 54) 8
theorem ai6:bw C0 Rk (ax oM):=bD
theorem ai7{CX:aK}{Γ:aC}{X:Cx}(G:aQ CX (aU C0 (ax oM) ahz ahA Rl ahB ahC ahD ahE 0) Γ X):a_ X (aA oM) (aw Γ C1):=by
 have g:=G.toGood
 exact(aj (aY (qy (bo g (aa g) aq) aq (aD g (aH g (ae (cG g (aa g)) (ae (aD g (aa g) aq) (ae (cG g (aa g)) ai)))) aq))) aB)
def oN:Stmt:=inClass (bF 54) 9
theorem RL:bw w6 Rm (ax oN):=bD
theorem RM{CX:aK}{Γ:aC}{X:Cx}(G:aQ CX (aU w6 (ax oN) ahF ahG C2 ahH ahI ahJ ahK 0) Γ X):a_ X (aA oN) (aw Γ tN):=by
 have g:=G.toGood
 exact(aj (bC (e_ (gG g (aH g (ae (aa g) (ae aq (ae (aD g (iP g (aa g)) aq) ai)))))) (aj (iQ G (ae aI ai)) aB) aB) (aj (aR G (e9 g (aa g) (aD g (iP g (aa g)) aq))) (aj (aR G (qy (t_v g (aa g)) (iP g (aa g)) (aH g (ae (cG g (aa g)) (ae (aa g) (ae (cG g (aa g)) ai)))))) (aj (aY (aD g (aa g) (eh g (aa g) (ae (aa g) ai)))) aB))))
def oO:Stmt:=inClass (bF 54) 10
theorem RN:bw w9 Rn (ax oO):=bD
theorem RO{CX:aK}{Γ:aC}{X:Cx}(G:aQ CX (aU w9 (ax oO) ahL ahM C3 ahN ahO ahP ahQ 0) Γ X):a_ X (aA oO) (aw Γ tO):=by
 have g:=G.toGood
 exact(aj (bC (e_ (gG g (aH g (ae (aa g) (ae aq (ae (iP g (aa g)) ai)))))) (aj (iQ G (ae aI ai)) aB) aB) (aj (aR G (aH g (ae (cG g (aa g)) (ae (aa g) (ae (cG g (aa g)) ai))))) (aj (aY (bK (ae (aa g) (ae (aD g (aa g) (eh g (aa g) (ae (aa g) ai))) ai)))) aB)))
def oP:Stmt:=inClass (bF 54) 11
theorem RP:bw w_ Ro (ax oP):=bD
theorem RQ{CX:aK}{Γ:aC}{X:Cx}(G:aQ CX (aU w_ (ax oP) ahR ahS C4 ahT ahU ahV ahW 0) Γ X):a_ X (aA oP) (aw Γ tP):=by
 have g:=G.toGood
 exact(aj (bC (e_ (gG g (aH g (ae (aa g) (ae aq (ae (eh g (aa g) (ae (aa g) ai)) ai)))))) (aj (iQ G (ae aI ai)) aB) aB) (aj (aY (aD g (eh g (aa g) (ae (aa g) ai)) (aa g))) aB))
def oQ:Stmt:=bF 56
theorem ai8:bw Bw PR (ax oQ):=bD
theorem ai9{CX:aK}{Γ:aC}{X:Cx}(G:aQ CX (aU Bw (ax oQ) adH adI PU adJ adK adL adM 0) Γ X):a_ X (aA oQ) (aw Γ Bx):=by
 have g:=G.toGood
 exact(aj (bC (bo g (aa g) (cw g (ae (aa g) ai))) (aj (aY (aF g (aa g) (aa g))) aB) aB) (aj (aY aq) aB))
def C6:List Str:=["_law_found"]
def RT:List Str:=["_law_found"]
def oR:Stmt:=bF 57
theorem ai_:bw C6 RT (ax oR):=bD
theorem aja{CX:aK}{Γ:aC}{X:Cx}(G:aQ CX (aU C6 (ax oR) adT adU PY adV adW adX adY 0) Γ X):a_ X (aA oR) (aw Γ BA):=by
 have g:=G.toGood
 exact(aj (aY (jt (ju g (aa g)) (j8 (Ba g (ju g (aa g)))))) aB)
def wY:List Str:=["_law_cell","_law_k","_law_number_here"]
def oS:Stmt:=bF 58
theorem ajb:bw wY Q3 (ax oS):=bD
theorem ajc{CX:aK}{Γ:aC}{X:Cx}(G:aQ CX (aU wY (ax oS) agU agV Q4 agW agX agY agZ 0) Γ X):a_ X (aA oS) (aw Γ CM):=by
 have g:=G.toGood
 exact(aj (aR G (aD g (aD g (aD g (aD g (aa g) aq) (aD g aq (aa g))) aq) aq)) (aj (aY (aD g (aD g (aD g (aD g (aa g) (aa g)) aq) (aa g)) aq)) aB))
def wZ:List Str:=["_law_cell","_law_many","_law_some","_law_text","_law_k","_law_number_here"]
def oT:Stmt:=bF 59
theorem ajd:bw wZ Q5 (ax oT):=bD
theorem aje{CX:aK}{Γ:aC}{X:Cx}(G:aQ CX (aU wZ (ax oT) ag0 ag1 Q6 ag2 ag3 ag4 ag5 0) Γ X):a_ X (aA oT) (aw Γ CN):=by
 have g:=G.toGood
 exact(aj (aR G aI) (aj (aR G (aD g (aa g) aI)) (aj (aR G aI) (aj (qB G (Bf g (aa g)) (aj (aR G (aH g (ae (aa g) (ae (aa g) ai)))) (aj (aR G (aD g (aa g) (aF g (bU (ae aI (ae (aF g aI (aD g (aD g (aa g) aq) aq)) (ae (aF g (aa g) (aD g (aD g (aa g) aq) aq)) (ae (aF g (aa g) (aD g (aD g (aa g) aq) aq)) ai))))) (aD g (aa g) aq)))) aB))) (aj (aY (aa g)) aB)))))
def w4:List Str:=["_law_parts","_law_found","_law_put","_law_cut","_law_word_here","_law_thing"]
def oU:Stmt:=bF 60
theorem ajf:bw w4 Q7 (ax oU):=bD
theorem ajg{CX:aK}{Γ:aC}{X:Cx}(G:aQ CX (aU w4 (ax oU) ag6 ag7 Q8 ag8 ag9 ag_ aha 0) Γ X):a_ X (aA oU) (aw Γ CO):=by
 have g:=G.toGood
 exact(aj (aR G (bU ai)) (aj (aR G aI) (aj (aR G aI) (aj (Bh [(_,_),(_,_)] G (lE g (aD g (aa g) (bU (ae (bK (ae aI (ae aq ai))) ai)))) (aj (bC (bo g (aa g) aI) (aj (aR G (aD g (aa g) (aa g))) aB) (aj (bC (bo g (aa g) aI) (aj (aR G (aD g (aa g) (aa g))) aB) (aj (bC (PW.pt (gF (bo g (aa g) aI) (jv (bo g (aa g) aq)))) (aj (aR G (aD g (aD g (aa g) (aD g (bU (ae (bK (ae aI (ae (aa g) ai))) ai)) (cw g (ae (e9 g (aa g) aI) ai)))) (aD g (bU (ae (bK (ae aI (ae (aa g) ai))) ai)) (cw g (ae (e9 g (aa g) aI) ai))))) (aj (aR G aI) (aj (aR G aI) (aj (bC (PW.pt (lB (bo g (aa g) aI) (lB (bo g (aa g) (bU ai)) (qA (bo g (aF g (aF g (aa g) (m9 aq)) aq) aI))))) (aj (acD (bK (ae aI (ae (aD g (aF g (aF g (aa g) (m9 aq)) aq) (aa g)) ai))) (aa g) (m9 aq)) aB) (aj (bC (bo g (aa g) aI) (aj (eQ (dH g (aa g) (ae (bK (ae aI (ae (aa g) ai))) ai))) aB) aB) aB)) aB)))) aB) aB)) aB)) aB)) (aj (aY (aa g)) aB)))))
def jx:List Str:=["_law_cell","_law_text","_law_parts","_law_at","_law_k","_law_number_here","_law_size"]
def cX:Stmt:=bF 61
theorem ajh:bw jx Q9 (ax cX):=bD
theorem aji{CX:aK}{Γ:aC}{X:Cx}(G:aQ CX (aU jx (ax cX) nu nv lH ny nz nA nB 0) Γ X):PS X ((aA cX).getD 0 (.Pass ⟨0,0,0,0⟩)) (bh Γ (fg.getD 0 (.ret (.c .az)))):=by
 have g:=G.toGood
 show PS X (.Assign [.Name "_law_parts" _] _ _) (bh Γ (.asg 2 _))
 with_reducible exact(aR G (bU ai))
theorem ajj{CX:aK}{Γ:aC}{X:Cx}(G:aQ CX (aU jx (ax cX) nu nv lH ny nz nA nB 0) Γ X):PS X ((aA cX).getD 1 (.Pass ⟨0,0,0,0⟩)) (bh Γ (fg.getD 1 (.ret (.c .az)))):=by
 have g:=G.toGood
 show PS X (.Assign [.Name "_law_at" _] _ _) (bh Γ (.asg 3 _))
 with_reducible exact(aR G aq)
theorem ajk{CX:aK}{Γ:aC}{X:Cx}(G:aQ CX (aU jx (ax cX) nu nv lH ny nz nA nB 0) Γ X):PS X ((aA cX).getD 2 (.Pass ⟨0,0,0,0⟩)) (bh Γ (fg.getD 2 (.ret (.c .az)))):=by
 have g:=G.toGood
 exact(qB G (Bf g (aD g aq (aD g (aa g) aq))) (aj (aR G (aH g (ae (aa g) (ae (aD g aq (aa g)) ai)))) (aj (bC (bo g (aD g (aa g) aq) aq) (aj (eQ (dH g (aa g) (ae (bK (ae aI (ae (aH g (ae (aa g) (ae (aD g aq (aD g (aD g (aD g (aa g) aq) aq) (aD g aq (aD g (aD g (aa g) aq) aq)))) ai))) ai))) ai))) aB) aB) (aj (aR G (cw g (ae (aD g (cw g (ae (aa g) ai)) (aa g)) (ae (aD g (aD g (aa g) aq) (aD g aq (aD g (cw g (ae (aa g) ai)) aq))) ai)))) (aj (bC (PW.pt (lB (bo g (aD g (aD g (aa g) aq) aq) aq) (qA (bo g (aa g) aq)))) (aj (eQ (dH g (aa g) (ae (bK (ae aI (ae (m_ g (aa g) (ig (aa g)) (ig (aD g (aa g) (aa g)))) ai))) ai))) aB) (aj (eQ (dH g (aa g) (ae (bK (ae aI (ae (aa g) ai))) ai))) aB)) (aj (aR G (aD g (aa g) (aa g))) aB))))))
theorem ajl{CX:aK}{Γ:aC}{X:Cx}(G:aQ CX (aU jx (ax cX) nu nv lH ny nz nA nB 0) Γ X):PS X ((aA cX).getD 3 (.Pass ⟨0,0,0,0⟩)) (bh Γ (fg.getD 3 (.ret (.c .az)))):=by
 have g:=G.toGood
 exact(eQ (dH g (aa g) (ae (bK (ae aI (ae (aD g (cw g (ae (aa g) ai)) (aa g)) ai))) ai)))
theorem ajm{CX:aK}{Γ:aC}{X:Cx}(G:aQ CX (aU jx (ax cX) nu nv lH ny nz nA nB 0) Γ X):PS X ((aA cX).getD 4 (.Pass ⟨0,0,0,0⟩)) (bh Γ (fg.getD 4 (.ret (.c .az)))):=by
 have g:=G.toGood
 exact(bC (bo g (aD g (aD g (aa g) aq) aq) aq) (aj (eQ (dH g (aa g) (ae (bK (ae aI (ae (aH g (ae (aa g) (ae (aD g aq (aD g (aD g (aa g) aq) aq)) ai))) ai))) ai))) aB) aB)
theorem ajn{CX:aK}{Γ:aC}{X:Cx}(G:aQ CX (aU jx (ax cX) nu nv lH ny nz nA nB 0) Γ X):PS X ((aA cX).getD 5 (.Pass ⟨0,0,0,0⟩)) (bh Γ (fg.getD 5 (.ret (.c .az)))):=by
 have g:=G.toGood
 show PS X (.Return (some _) _) (bh Γ (.ret _))
 with_reducible exact(aY (aH g (ae (aa g) ai)))
theorem ajo{CX:aK}{Γ:aC}{X:Cx}(G:aQ CX (aU jx (ax cX) nu nv lH ny nz nA nB 0) Γ X):a_ X (aA cX) (aw Γ fg):=by
 have e:aA cX=[((aA cX).getD 0 (.Pass ⟨0,0,0,0⟩)),((aA cX).getD 1 (.Pass ⟨0,0,0,0⟩)),((aA cX).getD 2 (.Pass ⟨0,0,0,0⟩)),((aA cX).getD 3 (.Pass ⟨0,0,0,0⟩)),((aA cX).getD 4 (.Pass ⟨0,0,0,0⟩)),((aA cX).getD 5 (.Pass ⟨0,0,0,0⟩))]:=by kernel_rfl
 have e2:fg=[(fg.getD 0 (.ret (.c .az))),(fg.getD 1 (.ret (.c .az))),(fg.getD 2 (.ret (.c .az))),(fg.getD 3 (.ret (.c .az))),(fg.getD 4 (.ret (.c .az))),(fg.getD 5 (.ret (.c .az)))]:=by kernel_rfl
 rw[e,e2]
 with_reducible exact aj (aji G) (aj (ajj G) (aj (ajk G) (aj (ajl G) (aj (ajm G) (aj (ajn G) (aB))))))
def w5:List Str:=["_law_text","_law_change","_law_found","_law_at","_law_word_here","_law_thing"]
def oV:Stmt:=bF 62
theorem ajp:bw w5 Q_ (ax oV):=bD
theorem ajq{CX:aK}{Γ:aC}{X:Cx}(G:aQ CX (aU w5 (ax oV) ahb ahc Ra ahd ahe ahf ahg 0) Γ X):a_ X (aA oV) (aw Γ CQ):=by
 have g:=G.toGood
 exact(aj (aR G aI) (aj (aR G aq) (aj (Bh [(_,_),(_,_)] G (lE g (aa g)) (aj (bC (bo g (aa g) aI) (aj (aR G (aD g (aa g) (aa g))) aB) (aj (bC (bo g (aa g) aI) (aj (aR G (aD g (aa g) (m_ g (aa g) (ig (aa g)) (ig (aD g (aa g) (aa g)))))) (aj (aR G (aD g (aa g) (aa g))) aB)) (aj (aR G (aD g (aa g) (cw g (ae (aa g) ai)))) aB)) aB)) aB)) (aj (aY (aa g)) aB))))
def lI:List Str:=["_law_e","_law_some"]
def RU:List Str:=["_law_e"]
noncomputable def fG:List RS:=
 [.asg 1 (.lst [(.de (.v 0) (.g 0)),(.de (.v 0) (.g 1)),(.de (.v 0) (.g 2)),(.de (.v 0) (.g 3))]),
 .asg 1 (.bin .Add (.v 1) (.lst [(.de (.v 0) (.g 4)),(.de (.v 0) (.g 5)),(.de (.v 0) (.g 6)),(.de (.v 0) (.g 7))])),
 .asg 1 (.bin .Add (.v 1) (.lst [(.de (.v 0) (.g 8)),(.de (.v 0) (.g 9)),(.de (.v 0) (.g 10)),(.de (.v 0) (.g 11))])),
 .ite (.or [(.not (.de (.v 0) (.c (.ty "ValueError")))),(.cmp .NotEq (.cx .v9 (.v 1) [(.c (.bl true))]) (.c (.int 1))),(.de (.v 0) (.g 12))]) [.ret (.c (.str "other"))] [],
 .ret (.ix (.lst [(.c (.str "text")),(.c (.str "change")),(.c (.str "fit")),(.c (.str "place")),(.c (.str "s")),(.c (.str "m")),(.c (.str "n")),(.c (.str "c")),(.c (.str "d")),(.c (.str "l")),(.c (.str "x")),(.c (.str "h"))]) (.cx .v_ (.v 1) [(.c (.bl true))]))]
def qF:List Str:=[]
def qG:List Str:=["BadText","BadChange","BadFit","NoPlace","BadSide","NoMark","NoNode","NoCursor","BadDeed","BadLetter","NoLetter","NoHand","NoNote"]
def oW:List Str:=["isinstance","ValueError"]
def qH:List Str:=[]
def qI:List Str:=[]
def qJ:List Str:=[]
def qK:List Str:=[]
def dq:Stmt:=bF 63
theorem ajr:bw lI RU (ax dq):=bD
theorem ajs{CX:aK}{Γ:aC}{X:Cx}(G:aQ CX (aU lI (ax dq) qF qG oW qH qI qJ qK 1) Γ X):PS X ((aA dq).getD 0 (.Pass ⟨0,0,0,0⟩)) (bh Γ (fG.getD 0 (.ret (.c .az)))):=by
 have g:=G.toGood
 show PS X (.Assign [.Name "_law_some" _] _ _) (bh Γ (.asg 1 _))
 with_reducible exact(aR G (bU (ae (gf g (aa g) (fF g)) (ae (gf g (aa g) (fF g)) (ae (gf g (aa g) (fF g)) (ae (gf g (aa g) (fF g)) ai))))))
theorem ajt{CX:aK}{Γ:aC}{X:Cx}(G:aQ CX (aU lI (ax dq) qF qG oW qH qI qJ qK 1) Γ X):PS X ((aA dq).getD 1 (.Pass ⟨0,0,0,0⟩)) (bh Γ (fG.getD 1 (.ret (.c .az)))):=by
 have g:=G.toGood
 show PS X (.Assign [.Name "_law_some" _] _ _) (bh Γ (.asg 1 _))
 with_reducible exact(aR G (aD g (aa g) (bU (ae (gf g (aa g) (fF g)) (ae (gf g (aa g) (fF g)) (ae (gf g (aa g) (fF g)) (ae (gf g (aa g) (fF g)) ai)))))))
theorem aju{CX:aK}{Γ:aC}{X:Cx}(G:aQ CX (aU lI (ax dq) qF qG oW qH qI qJ qK 1) Γ X):PS X ((aA dq).getD 2 (.Pass ⟨0,0,0,0⟩)) (bh Γ (fG.getD 2 (.ret (.c .az)))):=by
 have g:=G.toGood
 show PS X (.Assign [.Name "_law_some" _] _ _) (bh Γ (.asg 1 _))
 with_reducible exact(aR G (aD g (aa g) (bU (ae (gf g (aa g) (fF g)) (ae (gf g (aa g) (fF g)) (ae (gf g (aa g) (fF g)) (ae (gf g (aa g) (fF g)) ai)))))))
theorem ajv{CX:aK}{Γ:aC}{X:Cx}(G:aQ CX (aU lI (ax dq) qF qG oW qH qI qJ qK 1) Γ X):PS X ((aA dq).getD 3 (.Pass ⟨0,0,0,0⟩)) (bh Γ (fG.getD 3 (.ret (.c .az)))):=by
 have g:=G.toGood
 exact(bC (PW.pt (gF (e_ (Pm g (gf g (aa g) (acv g (by decide+kernel) (by decide) (by decide))))) (gF (bo g (dH g (aa g) (ae fE ai)) aq) (jv (Pm g (gf g (aa g) (fF g))))))) (aj (aY aI) aB) aB)
theorem ajw{CX:aK}{Γ:aC}{X:Cx}(G:aQ CX (aU lI (ax dq) qF qG oW qH qI qJ qK 1) Γ X):PS X ((aA dq).getD 4 (.Pass ⟨0,0,0,0⟩)) (bh Γ (fG.getD 4 (.ret (.c .az)))):=by
 have g:=G.toGood
 show PS X (.Return (some _) _) (bh Γ (.ret _))
 with_reducible exact(aY (aF g (bU (ae aI (ae aI (ae aI (ae aI (ae aI (ae aI (ae aI (ae aI (ae aI (ae aI (ae aI (ae aI ai))))))))))))) (dH g (aa g) (ae fE ai))))
theorem ajx{CX:aK}{Γ:aC}{X:Cx}(G:aQ CX (aU lI (ax dq) qF qG oW qH qI qJ qK 1) Γ X):a_ X (aA dq) (aw Γ fG):=by
 have e:aA dq=[((aA dq).getD 0 (.Pass ⟨0,0,0,0⟩)),((aA dq).getD 1 (.Pass ⟨0,0,0,0⟩)),((aA dq).getD 2 (.Pass ⟨0,0,0,0⟩)),((aA dq).getD 3 (.Pass ⟨0,0,0,0⟩)),((aA dq).getD 4 (.Pass ⟨0,0,0,0⟩))]:=by kernel_rfl
 have e2:fG=[(fG.getD 0 (.ret (.c .az))),(fG.getD 1 (.ret (.c .az))),(fG.getD 2 (.ret (.c .az))),(fG.getD 3 (.ret (.c .az))),(fG.getD 4 (.ret (.c .az)))]:=by kernel_rfl
 rw[e,e2]
 with_reducible exact aj (ajs G) (aj (ajt G) (aj (aju G) (aj (ajv G) (aj (ajw G) (aB)))))
def C7:List Str:=["_law_paper","_law_way","_law_one","_law_other","_law_e"]
def RV:List Str:=["_law_paper","_law_way","_law_one","_law_other"]
noncomputable def C8:List RS:=
 [.sI 5 4 0 [.ite (.cmp .Eq (.v 1) (.c (.int 0))) [.ret (.cm 0 "part" (.v 0) [(.v 2),(.v 3)])] [],
  .ite (.cmp .Eq (.v 1) (.c (.int 1))) [.ret (.cm 1 "line_at" (.v 0) [(.v 2)])] [],
  .ite (.cmp .Eq (.v 1) (.c (.int 2))) [.ret (.cm 2 "place_at" (.v 0) [(.v 2),(.v 3)])] [],
  .ret (.cm 3 "line_size" (.v 0) [(.v 2)])] [.ret (.tup [(.kS 0 (.v 4)),(.c (.str "refused"))])]]
def ajy:List Str:=[]
def ajz:List Str:=["InkError"]
def RW:List Str:=[]
def ajA:List Str:=["part","line_at","place_at","line_size"]
def ajB:List Str:=[]
def ajC:List Str:=[]
def ajD:List Str:=["_law_word"]
def oX:Stmt:=bF 64
theorem ajE:bw C7 RV (ax oX):=bD
theorem ajF{CX:aK}{Γ:aC}{X:Cx}(G:aQ CX (aU C7 (ax oX) ajy ajz RW ajA ajB ajC ajD 0) Γ X):a_ X (aA oX) (aw Γ C8):=by
 have g:=G.toGood
 exact(aj (Bi G (by kernel_rfl) (by kernel_rfl) (fun G=> (fun g=> (aj (bC (bo g (aa g) aq) (aj (aY (eh g (aa g) (ae (aa g) (ae (aa g) ai)))) aB) aB) (aj (bC (bo g (aa g) aq) (aj (aY (eh g (aa g) (ae (aa g) ai))) aB) aB) (aj (bC (bo g (aa g) aq) (aj (aY (eh g (aa g) (ae (aa g) (ae (aa g) ai)))) aB) aB) (aj (aY (eh g (aa g) (ae (aa g) ai))) aB))))) G.toGood) (fun G=> (fun g=> (aj (aY (bK (ae (Bb g (aa g)) (ae aI ai)))) aB)) G.toGood)) aB)
def C9:List Str:=["_law_lines","_law_text","_law_way","_law_one","_law_other"]
def RX:List Str:=["_law_lines","_law_text","_law_way","_law_one","_law_other"]
noncomputable def xg:List RS:=
 [.ite (.or [(.not (.call 0 [(.v 3)])),(.cmp .Lt (.v 3) (.c (.int 0))),(.and [(.cmp .In (.v 2) (.tup [(.c (.int 0)),(.c (.int 2))])),(.or [(.not (.call 0 [(.v 4)])),(.cmp .Lt (.v 4) (.c (.int 0)))])])]) [.ret (.c (.bl false))] [],
 .ite (.cmp .Eq (.v 2) (.c (.int 0))) [.ret (.jn .LtE .LtE (.v 3) (.v 4) (.blt .len [(.v 1)]))] [],
 .ite (.cmp .Eq (.v 2) (.c (.int 1))) [.ret (.cmp .LtE (.v 3) (.blt .len [(.v 1)]))] [],
 .ite (.cmp .GtE (.v 3) (.blt .len [(.v 0)])) [.ret (.c (.bl false))] [],
 .ret (.or [(.cmp .Eq (.v 2) (.c (.int 3))),(.cmp .LtE (.v 4) (.blt .len [(.ix (.v 0) (.v 3))]))])]
def ajG:List Str:=["_law_whole"]
def ajH:List Str:=[]
def RY:List Str:=["len"]
def ajI:List Str:=[]
def ajJ:List Str:=[]
def ajK:List Str:=[]
def ajL:List Str:=[]
def oY:Stmt:=bF 65
theorem ajM:bw C9 RX (ax oY):=bD
theorem ajN{CX:aK}{Γ:aC}{X:Cx}(G:aQ CX (aU C9 (ax oY) ajG ajH RY ajI ajJ ajK ajL 0) Γ X):a_ X (aA oY) (aw Γ xg):=by
 have g:=G.toGood
 exact(aj (bC (PW.pt (gF (e_ (gG g (aH g (ae (aa g) ai)))) (gF (bo g (aa g) aq) (jv (PW.pt (lB (bo g (aa g) (bK (ae aq (ae aq ai)))) (qA (PW.pt (gF (e_ (gG g (aH g (ae (aa g) ai)))) (jv (bo g (aa g) aq))))))))))) (aj (aY fE) aB) aB) (aj (bC (bo g (aa g) aq) (aj (aY (A_ g (aa g) (aa g) (cw g (ae (aa g) ai)))) aB) aB) (aj (bC (bo g (aa g) aq) (aj (aY (e9 g (aa g) (cw g (ae (aa g) ai)))) aB) aB) (aj (bC (bo g (aa g) (cw g (ae (aa g) ai))) (aj (aY fE) aB) aB) (aj (aY (acs (e9 g (aa g) aq) (acr (e9 g (aa g) (cw g (ae (aF g (aa g) (aa g)) ai)))))) aB)))))
def qL:List Str:=["_law_cell","_law_most","_law_odd"]
def RZ:List Str:=["_law_cell","_law_most"]
noncomputable def jy:List RS:=
 [.asg 2 (.lst [(.c (.bl true)),(.c .az),(.c (.str "0")),(.lst [(.c (.int 0))]),(.c (.bl false)),(.tup [(.c (.int 1))]), .qc]),
 .ite (.cmp .Eq (.bin .Mod (.v 0) (.c (.int 9))) (.c (.int 4))) [.ret (.ix (.v 2) (.bin .Mod (.bin .FloorDiv (.v 0) (.c (.int 9))) (.c (.int 7))))] [],
 .ret (.bin .Sub (.bin .Mod (.bin .FloorDiv (.v 0) (.c (.int 9))) (.bin .Add (.v 1) (.c (.int 5)))) (.c (.int 2)))]
def xh:List Str:=[]
def xi:List Str:=[]
def tQ:List Str:=[]
def xj:List Str:=[]
def xk:List Str:=[]
def xl:List Str:=[]
def xn:List Str:=[]
def eR:Stmt:=bF 66
theorem ajO:bw qL RZ (ax eR):=bD
theorem ajP{CX:aK}{Γ:aC}{X:Cx}(G:aQ CX (aU qL (ax eR) xh xi tQ xj xk xl xn 0) Γ X):PS X ((aA eR).getD 0 (.Pass ⟨0,0,0,0⟩)) (bh Γ (jy.getD 0 (.ret (.c .az)))):=by
 have g:=G.toGood
 show PS X (.Assign [.Name "_law_odd" _] _ _) (bh Γ (.asg 2 _))
 with_reducible exact(aR G (bU (ae fE (ae d0 (ae aI (ae (bU (ae aq ai)) (ae fE (ae (bK (ae aq ai)) (ae Ph ai)))))))))
theorem ajQ{CX:aK}{Γ:aC}{X:Cx}(G:aQ CX (aU qL (ax eR) xh xi tQ xj xk xl xn 0) Γ X):PS X ((aA eR).getD 1 (.Pass ⟨0,0,0,0⟩)) (bh Γ (jy.getD 1 (.ret (.c .az)))):=by
 have g:=G.toGood
 show PS X (.If _ _ _ _) (bh Γ (.ite _ _ _))
 refine bC ?_ ?_ ?_
 ·exact(bo g (aD g (aa g) aq) aq)
 ·refine aj ?_ ?_
  ·show PS X (.Return (some _) _) (bh Γ (.ret _))
   with_reducible exact(aY (aF g (aa g) (aD g (aD g (aa g) aq) aq)))
  exact aB
 ·exact aB
theorem ajR{CX:aK}{Γ:aC}{X:Cx}(G:aQ CX (aU qL (ax eR) xh xi tQ xj xk xl xn 0) Γ X):PS X ((aA eR).getD 2 (.Pass ⟨0,0,0,0⟩)) (bh Γ (jy.getD 2 (.ret (.c .az)))):=by
 have g:=G.toGood
 show PS X (.Return (some _) _) (bh Γ (.ret _))
 with_reducible exact(aY (aD g (aD g (aD g (aa g) aq) (aD g (aa g) aq)) aq))
theorem ajS{CX:aK}{Γ:aC}{X:Cx}(G:aQ CX (aU qL (ax eR) xh xi tQ xj xk xl xn 0) Γ X):a_ X (aA eR) (aw Γ jy):=by
 have e:aA eR=[((aA eR).getD 0 (.Pass ⟨0,0,0,0⟩)),((aA eR).getD 1 (.Pass ⟨0,0,0,0⟩)),((aA eR).getD 2 (.Pass ⟨0,0,0,0⟩))]:=by kernel_rfl
 have e2:jy=[(jy.getD 0 (.ret (.c .az))),(jy.getD 1 (.ret (.c .az))),(jy.getD 2 (.ret (.c .az)))]:=by kernel_rfl
 rw[e,e2]
 with_reducible exact aj (ajP G) (aj (ajQ G) (aj (ajR G) (aB)))
def lJ:List Str:=["_law_cell","_law_text","_law_size","_law_some"]
def R0:List Str:=["_law_cell","_law_text"]
noncomputable def gg:List RS:=
 [.asg 2 (.blt .len [(.v 1)]),
 .asg 3 (.lst [(.c .az),(.blt .tuple [(.lst [(.tup [(.c (.str "keep")),(.v 2)])])]),(.c (.str "keep")),(.lst [(.tup [(.c (.str "keep")),(.c (.int 0))])]),(.lst [(.tup [(.c (.str "keep")),(.c (.bl true))])]),(.lst [(.tup [(.c (.str "keep")),(.neg (.c (.int 1)))])]),(.lst [(.tup [(.c (.str "put")),(.c (.str ""))])])]),
 .asg 3 (.bin .Add (.v 3) (.lst [(.lst [(.tup [(.c (.str "cut")),(.c (.str "a"))]),(.tup [(.c (.str "put")),(.c (.str "b"))])]),(.lst [(.tup [(.c (.str "put")),(.c (.str "a"))]),(.tup [(.c (.str "put")),(.c (.str "b"))])]),(.lst [(.tup [(.c (.str "keep")),(.c (.int 1))]),(.tup [(.c (.str "keep")),(.c (.int 1))])])])),
 .asg 3 (.bin .Add (.v 3) (.lst [(.lst [(.lst [(.c (.str "keep")),(.c (.int 1))])]),(.lst [(.tup [(.c (.str "keep")),(.c (.int 1)),(.c (.int 1))])]),(.lst [(.tup [(.c (.str "drop")),(.c (.str "a"))])]),(.lst [(.tup [(.c (.str "put")),(.c (.str "a\t"))])])])),
 .ret (.ix (.v 3) (.bin .Mod (.v 0) (.c (.int 14))))]
def qM:List Str:=[]
def qN:List Str:=[]
def oZ:List Str:=["len","tuple"]
def qO:List Str:=[]
def qP:List Str:=[]
def qQ:List Str:=[]
def qR:List Str:=[]
def dr:Stmt:=bF 67
theorem ajT:bw lJ R0 (ax dr):=bD
theorem ajU{CX:aK}{Γ:aC}{X:Cx}(G:aQ CX (aU lJ (ax dr) qM qN oZ qO qP qQ qR 0) Γ X):PS X ((aA dr).getD 0 (.Pass ⟨0,0,0,0⟩)) (bh Γ (gg.getD 0 (.ret (.c .az)))):=by
 have g:=G.toGood
 show PS X (.Assign [.Name "_law_size" _] _ _) (bh Γ (.asg 2 _))
 with_reducible exact(aR G (cw g (ae (aa g) ai)))
theorem ajV{CX:aK}{Γ:aC}{X:Cx}(G:aQ CX (aU lJ (ax dr) qM qN oZ qO qP qQ qR 0) Γ X):PS X ((aA dr).getD 1 (.Pass ⟨0,0,0,0⟩)) (bh Γ (gg.getD 1 (.ret (.c .az)))):=by
 have g:=G.toGood
 show PS X (.Assign [.Name "_law_some" _] _ _) (bh Γ (.asg 3 _))
 with_reducible exact(aR G (bU (ae d0 (ae (cw g (ae (bU (ae (bK (ae aI (ae (aa g) ai))) ai)) ai)) (ae aI (ae (bU (ae (bK (ae aI (ae aq ai))) ai)) (ae (bU (ae (bK (ae aI (ae fE ai))) ai)) (ae (bU (ae (bK (ae aI (ae (m9 aq) ai))) ai)) (ae (bU (ae (bK (ae aI (ae aI ai))) ai)) ai)))))))))
theorem ajW{CX:aK}{Γ:aC}{X:Cx}(G:aQ CX (aU lJ (ax dr) qM qN oZ qO qP qQ qR 0) Γ X):PS X ((aA dr).getD 2 (.Pass ⟨0,0,0,0⟩)) (bh Γ (gg.getD 2 (.ret (.c .az)))):=by
 have g:=G.toGood
 show PS X (.Assign [.Name "_law_some" _] _ _) (bh Γ (.asg 3 _))
 with_reducible exact(aR G (aD g (aa g) (bU (ae (bU (ae (bK (ae aI (ae aI ai))) (ae (bK (ae aI (ae aI ai))) ai))) (ae (bU (ae (bK (ae aI (ae aI ai))) (ae (bK (ae aI (ae aI ai))) ai))) (ae (bU (ae (bK (ae aI (ae aq ai))) (ae (bK (ae aI (ae aq ai))) ai))) ai))))))
theorem ajX{CX:aK}{Γ:aC}{X:Cx}(G:aQ CX (aU lJ (ax dr) qM qN oZ qO qP qQ qR 0) Γ X):PS X ((aA dr).getD 3 (.Pass ⟨0,0,0,0⟩)) (bh Γ (gg.getD 3 (.ret (.c .az)))):=by
 have g:=G.toGood
 show PS X (.Assign [.Name "_law_some" _] _ _) (bh Γ (.asg 3 _))
 with_reducible exact(aR G (aD g (aa g) (bU (ae (bU (ae (bU (ae aI (ae aq ai))) ai)) (ae (bU (ae (bK (ae aI (ae aq (ae aq ai)))) ai)) (ae (bU (ae (bK (ae aI (ae aI ai))) ai)) (ae (bU (ae (bK (ae aI (ae aI ai))) ai)) ai)))))))
theorem ajY{CX:aK}{Γ:aC}{X:Cx}(G:aQ CX (aU lJ (ax dr) qM qN oZ qO qP qQ qR 0) Γ X):PS X ((aA dr).getD 4 (.Pass ⟨0,0,0,0⟩)) (bh Γ (gg.getD 4 (.ret (.c .az)))):=by
 have g:=G.toGood
 show PS X (.Return (some _) _) (bh Γ (.ret _))
 with_reducible exact(aY (aF g (aa g) (aD g (aa g) aq)))
theorem ajZ{CX:aK}{Γ:aC}{X:Cx}(G:aQ CX (aU lJ (ax dr) qM qN oZ qO qP qQ qR 0) Γ X):a_ X (aA dr) (aw Γ gg):=by
 have e:aA dr=[((aA dr).getD 0 (.Pass ⟨0,0,0,0⟩)),((aA dr).getD 1 (.Pass ⟨0,0,0,0⟩)),((aA dr).getD 2 (.Pass ⟨0,0,0,0⟩)),((aA dr).getD 3 (.Pass ⟨0,0,0,0⟩)),((aA dr).getD 4 (.Pass ⟨0,0,0,0⟩))]:=by kernel_rfl
 have e2:gg=[(gg.getD 0 (.ret (.c .az))),(gg.getD 1 (.ret (.c .az))),(gg.getD 2 (.ret (.c .az))),(gg.getD 3 (.ret (.c .az))),(gg.getD 4 (.ret (.c .az)))]:=by kernel_rfl
 rw[e,e2]
 with_reducible exact aj (ajU G) (aj (ajV G) (aj (ajW G) (aj (ajX G) (aj (ajY G) (aB)))))
def C_:List Str:=["_law_paper","_law_change","_law_e"]
def R1:List Str:=["_law_paper","_law_change"]
noncomputable def Dc:List RS:=
 [.sI 3 2 0 [.ret (.cm 0 "text" (.cm 1 "changed" (.v 0) [(.v 1)]) [])] [.ret (.lst [(.c (.str "refused")),(.kS 0 (.v 2))])]]
def aj0:List Str:=[]
def aj1:List Str:=["InkError"]
def R6:List Str:=[]
def aj2:List Str:=["text","changed"]
def aj3:List Str:=[]
def aj4:List Str:=[]
def aj5:List Str:=["_law_word"]
def o5:Stmt:=bF 68
theorem aj6:bw C_ R1 (ax o5):=bD
theorem aj7{CX:aK}{Γ:aC}{X:Cx}(G:aQ CX (aU C_ (ax o5) aj0 aj1 R6 aj2 aj3 aj4 aj5 0) Γ X):a_ X (aA o5) (aw Γ Dc):=by
 have g:=G.toGood
 exact(aj (Bi G (by kernel_rfl) (by kernel_rfl) (fun G=> (fun g=> (aj (aY (iP g (eh g (aa g) (ae (aa g) ai)))) aB)) G.toGood) (fun G=> (fun g=> (aj (aY (bU (ae aI (ae (Bb g (aa g)) ai)))) aB)) G.toGood)) aB)
def j_:List Str:=["_law_cell","_law_text","_law_at","_law_cut","_law_other","_law_ahead","_law_put","_law_rest"]
def R7:List Str:=["_law_cell","_law_text"]
noncomputable def dJ:List RS:=
 [.asg 2 (.bin .Mod (.bin .FloorDiv (.v 0) (.c (.int 3))) (.bin .Add (.blt .len [(.v 1)]) (.c (.int 1)))),
 .asg 3 (.sl (.v 1) (some (.v 2)) (some (.bin .Add (.bin .Add (.v 2) (.c (.int 1))) (.bin .Mod (.bin .FloorDiv (.v 0) (.c (.int 100))) (.c (.int 3)))))),
 .ite (.or [(.cmp .Eq (.bin .Mod (.v 0) (.c (.int 3))) (.c (.int 0))),(.cmp .Eq (.v 3) (.c (.str "")))]) [.ret (.call 0 [(.lst [(.tup [(.c (.str "keep")),(.v 2)]),(.tup [(.c (.str "put")),(.c (.str "x"))]),(.tup [(.c (.str "keep")),(.bin .Add (.bin .Sub (.blt .len [(.v 1)]) (.v 2)) (.ix (.lst [(.c (.int 1)),(.neg (.c (.int 1)))]) (.blt .int [(.jn .Lt .Lt (.c (.int 0)) (.v 2) (.blt .len [(.v 1)]))])))])])])] [],
 .asg 4 (.bin .Add (.sl (.v 3) none (some (.neg (.c (.int 1))))) (.ix (.lst [(.c (.str "a")),(.c (.str "b"))]) (.blt .int [(.cmp .Eq (.ix (.v 3) (.neg (.c (.int 1)))) (.c (.str "a")))]))),
 .ite (.cmp .Eq (.bin .Mod (.v 0) (.c (.int 3))) (.c (.int 1))) [.asg 5 (.lst [(.tup [(.c (.str "keep")),(.v 2)])]),
  .ite (.and [(.cmp .Gt (.v 2) (.c (.int 1))),(.cmp .Eq (.bin .Mod (.bin .FloorDiv (.v 0) (.c (.int 600))) (.c (.int 2))) (.c (.int 1)))]) [.asg 5 (.lst [(.tup [(.c (.str "cut")),(.sl (.v 1) none (some (.c (.int 1))))]),(.tup [(.c (.str "keep")),(.bin .Sub (.v 2) (.c (.int 1)))])])] [],
  .asg 6 (.ix (.lst [(.c (.str "")),(.c (.str "xy"))]) (.bin .Mod (.bin .FloorDiv (.v 0) (.c (.int 300))) (.c (.int 2)))),
  .asg 7 (.bin .Sub (.bin .Sub (.blt .len [(.v 1)]) (.v 2)) (.blt .len [(.v 3)])),
  .ret (.call 0 [(.bin .Add (.v 5) (.lst [(.tup [(.c (.str "put")),(.v 6)]),(.tup [(.c (.str "cut")),(.v 4)]),(.tup [(.c (.str "keep")),(.v 7)])]))])] [],
 .ret (.call 0 [(.lst [(.tup [(.c (.str "put")),(.c (.str "y"))]),(.tup [(.c (.str "cut")),(.bin .Add (.v 1) (.c (.str "z")))])])])]
def o6:List Str:=["_law_neat"]
def o7:List Str:=[]
def lK:List Str:=["len","int"]
def o8:List Str:=[]
def o9:List Str:=[]
def o_:List Str:=[]
def pb:List Str:=[]
def cY:Stmt:=bF 69
theorem aj8:bw j_ R7 (ax cY):=bD
theorem aj9{CX:aK}{Γ:aC}{X:Cx}(G:aQ CX (aU j_ (ax cY) o6 o7 lK o8 o9 o_ pb 0) Γ X):PS X ((aA cY).getD 0 (.Pass ⟨0,0,0,0⟩)) (bh Γ (dJ.getD 0 (.ret (.c .az)))):=by
 have g:=G.toGood
 show PS X (.Assign [.Name "_law_at" _] _ _) (bh Γ (.asg 2 _))
 with_reducible exact(aR G (aD g (aD g (aa g) aq) (aD g (cw g (ae (aa g) ai)) aq)))
theorem aj_{CX:aK}{Γ:aC}{X:Cx}(G:aQ CX (aU j_ (ax cY) o6 o7 lK o8 o9 o_ pb 0) Γ X):PS X ((aA cY).getD 1 (.Pass ⟨0,0,0,0⟩)) (bh Γ (dJ.getD 1 (.ret (.c .az)))):=by
 have g:=G.toGood
 show PS X (.Assign [.Name "_law_cut" _] _ _) (bh Γ (.asg 3 _))
 with_reducible exact(aR G (m_ g (aa g) (ig (aa g)) (ig (aD g (aD g (aa g) aq) (aD g (aD g (aa g) aq) aq)))))
theorem aka{CX:aK}{Γ:aC}{X:Cx}(G:aQ CX (aU j_ (ax cY) o6 o7 lK o8 o9 o_ pb 0) Γ X):PS X ((aA cY).getD 2 (.Pass ⟨0,0,0,0⟩)) (bh Γ (dJ.getD 2 (.ret (.c .az)))):=by
 have g:=G.toGood
 exact(bC (PW.pt (gF (bo g (aD g (aa g) aq) aq) (jv (bo g (aa g) aI)))) (aj (aY (aH g (ae (bU (ae (bK (ae aI (ae (aa g) ai))) (ae (bK (ae aI (ae aI ai))) (ae (bK (ae aI (ae (aD g (aD g (cw g (ae (aa g) ai)) (aa g)) (aF g (bU (ae aq (ae (m9 aq) ai))) (cw g (ae (A_ g aq (aa g) (cw g (ae (aa g) ai))) ai)))) ai))) ai)))) ai))) aB) aB)
theorem akb{CX:aK}{Γ:aC}{X:Cx}(G:aQ CX (aU j_ (ax cY) o6 o7 lK o8 o9 o_ pb 0) Γ X):PS X ((aA cY).getD 3 (.Pass ⟨0,0,0,0⟩)) (bh Γ (dJ.getD 3 (.ret (.c .az)))):=by
 have g:=G.toGood
 show PS X (.Assign [.Name "_law_other" _] _ _) (bh Γ (.asg 4 _))
 with_reducible exact(aR G (aD g (m_ g (aa g) Pk (ig (m9 aq))) (aF g (bU (ae aI (ae aI ai))) (cw g (ae (e9 g (aF g (aa g) (m9 aq)) aI) ai)))))
theorem akc{CX:aK}{Γ:aC}{X:Cx}(G:aQ CX (aU j_ (ax cY) o6 o7 lK o8 o9 o_ pb 0) Γ X):PS X ((aA cY).getD 4 (.Pass ⟨0,0,0,0⟩)) (bh Γ (dJ.getD 4 (.ret (.c .az)))):=by
 have g:=G.toGood
 exact(bC (bo g (aD g (aa g) aq) aq) (aj (aR G (bU (ae (bK (ae aI (ae (aa g) ai))) ai))) (aj (bC (PW.pt (lB (bo g (aa g) aq) (qA (bo g (aD g (aD g (aa g) aq) aq) aq)))) (aj (aR G (bU (ae (bK (ae aI (ae (m_ g (aa g) Pk (ig aq)) ai))) (ae (bK (ae aI (ae (aD g (aa g) aq) ai))) ai)))) aB) aB) (aj (aR G (aF g (bU (ae aI (ae aI ai))) (aD g (aD g (aa g) aq) aq))) (aj (aR G (aD g (aD g (cw g (ae (aa g) ai)) (aa g)) (cw g (ae (aa g) ai)))) (aj (aY (aH g (ae (aD g (aa g) (bU (ae (bK (ae aI (ae (aa g) ai))) (ae (bK (ae aI (ae (aa g) ai))) (ae (bK (ae aI (ae (aa g) ai))) ai))))) ai))) aB))))) aB)
theorem akd{CX:aK}{Γ:aC}{X:Cx}(G:aQ CX (aU j_ (ax cY) o6 o7 lK o8 o9 o_ pb 0) Γ X):PS X ((aA cY).getD 5 (.Pass ⟨0,0,0,0⟩)) (bh Γ (dJ.getD 5 (.ret (.c .az)))):=by
 have g:=G.toGood
 show PS X (.Return (some _) _) (bh Γ (.ret _))
 with_reducible exact(aY (aH g (ae (bU (ae (bK (ae aI (ae aI ai))) (ae (bK (ae aI (ae (aD g (aa g) aI) ai))) ai))) ai)))
theorem ake{CX:aK}{Γ:aC}{X:Cx}(G:aQ CX (aU j_ (ax cY) o6 o7 lK o8 o9 o_ pb 0) Γ X):a_ X (aA cY) (aw Γ dJ):=by
 have e:aA cY=[((aA cY).getD 0 (.Pass ⟨0,0,0,0⟩)),((aA cY).getD 1 (.Pass ⟨0,0,0,0⟩)),((aA cY).getD 2 (.Pass ⟨0,0,0,0⟩)),((aA cY).getD 3 (.Pass ⟨0,0,0,0⟩)),((aA cY).getD 4 (.Pass ⟨0,0,0,0⟩)),((aA cY).getD 5 (.Pass ⟨0,0,0,0⟩))]:=by kernel_rfl
 have e2:dJ=[(dJ.getD 0 (.ret (.c .az))),(dJ.getD 1 (.ret (.c .az))),(dJ.getD 2 (.ret (.c .az))),(dJ.getD 3 (.ret (.c .az))),(dJ.getD 4 (.ret (.c .az))),(dJ.getD 5 (.ret (.c .az)))]:=by kernel_rfl
 rw[e,e2]
 with_reducible exact aj (aj9 G) (aj (aj_ G) (aj (aka G) (aj (akb G) (aj (akc G) (aj (akd G) (aB))))))
def fI:List Str:=["_law_script","_law_text","_law_paper","_law_k","_law_cell","_law_change","_law_lines","_law_signs","_law_way","_law_one","_law_other","_law_found","_law_e"]
def R8:List Str:=["_law_script"]
noncomputable def cJ:List RS:=
 [.asg 1 (.call 0 [(.call 1 [(.v 0),(.c (.int 1))]),(.bin .Mod (.call 1 [(.v 0),(.c (.int 0))]) (.c (.int 25)))]),
 .asg 2 (.call 2 [(.v 1)]),
 .qd [3,4] .Aw [(.sl (.v 0) (some (.c (.int 10))) (some (.c (.int 13))))] [.asg 5 (.call 3 [(.call 4 [(.v 4),(.v 3)]),(.v 1)]),
  .asg 2 (.cm 0 "changed" (.v 2) [(.v 5)]),
  .asg 1 (.call 5 [(.v 1),(.v 5)])],
 .asg 6 (.xm C5 (.v 1) [(.c (.str "\n"))]),
 .asg 7 (.cm 1 "many" (.fld (.v 2) "stock") []),
 .jo 8 .gu [(.c (.int 4))] [.asg 4 (.call 4 [(.call 1 [(.v 0),(.bin .Add (.c (.int 2)) (.v 8))]),(.bin .Add (.c (.int 500)) (.v 8))]),
  .asg 9 (.call 6 [(.bin .Mod (.v 4) (.c (.int 99991))),(.ix (.lst [(.blt .len [(.v 1)]),(.blt .len [(.v 1)]),(.blt .len [(.v 6)]),(.blt .len [(.v 6)])]) (.v 8))]),
  .asg 10 (.call 6 [(.bin .Mod (.bin .FloorDiv (.v 4) (.c (.int 7))) (.c (.int 99991))),(.blt .len [(.v 1)])]),
  .asg 11 (.call 7 [(.v 2),(.v 8),(.v 9),(.v 10)]),
  .ite (.cmp .Eq (.cmp .Eq (.v 11) (.tup [(.c (.str "place")),(.c (.str "refused"))])) (.call 8 [(.v 6),(.v 1),(.v 8),(.v 9),(.v 10)])) [.ret (.c (.bl false))] [],
  .ite (.and [(.dF .tuple (.v 11)),(.dF .str (.ix (.v 11) (.c (.int 0)))),(.cmp .NotEq (.ix (.v 11) (.c (.int 0))) (.c (.str "place")))]) [.ret (.c (.bl false))] []],
 .asg 4 (.call 4 [(.call 1 [(.v 0),(.c (.int 6))]),(.c (.int 7))]),
 .ite (.cmp .NotEq (.call 9 [(.v 2),(.call 10 [(.v 4),(.v 1)])]) (.lst [(.c (.str "refused")),(.c (.str "change"))])) [.ret (.c (.bl false))] [],
 .ite (.cmp .NotEq (.call 9 [(.v 2),(.call 11 [(.bin .FloorDiv (.v 4) (.c (.int 14))),(.v 1)])]) (.lst [(.c (.str "refused")),(.c (.str "fit"))])) [.ret (.c (.bl false))] [],
 .ite (.or [(.not (.xt CL [(.v 2),(.g 0)])),(.cmp .NotEq (.cm 2 "text" (.v 2) []) (.v 1)),(.cmp .NotEq (.cm 1 "many" (.fld (.v 2) "stock") []) (.v 7))]) [.ret (.c (.bl false))] [],
 .sI 13 12 1 [.drop (.call 2 [(.ix (.lst [(.c .az),(.c (.int 5)),(.lst [(.c (.str "a"))]),(.c (.str "\t")),(.c (.str "a\tb")),(.c (.bl true)),(.tup [(.c (.str "a"))]), .qc]) (.bin .Mod (.call 1 [(.v 0),(.c (.int 7))]) (.c (.int 8))))])] [.ret (.cmp .Eq (.kS 0 (.v 12)) (.c (.str "text")))],
 .ret (.c (.bl false))]
def gI:List Str:=["_law_text_by","_law_cell_at","paper_of","_law_change_by","_law_mixed","_law_done","_law_number","_law_asked","_law_there","_law_changed","_law_spoilt","_law_unfit"]
def gJ:List Str:=["Paper","InkError"]
def gh:List Str:=["enumerate","range","len","isinstance","tuple","str"]
def gK:List Str:=["changed","many","text"]
def gL:List Str:=[]
def gM:List Str:=[]
def gN:List Str:=["_law_word"]
def bW:Stmt:=bF 70
theorem akf:bw fI R8 (ax bW):=bD
theorem akg{CX:aK}{Γ:aC}{X:Cx}(G:aQ CX (aU fI (ax bW) gI gJ gh gK gL gM gN 0) Γ X):PS X ((aA bW).getD 0 (.Pass ⟨0,0,0,0⟩)) (bh Γ (cJ.getD 0 (.ret (.c .az)))):=by
 have g:=G.toGood
 show PS X (.Assign [.Name "_law_text" _] _ _) (bh Γ (.asg 1 _))
 with_reducible exact(aR G (aH g (ae (aH g (ae (aa g) (ae aq ai))) (ae (aD g (aH g (ae (aa g) (ae aq ai))) aq) ai))))
theorem akh{CX:aK}{Γ:aC}{X:Cx}(G:aQ CX (aU fI (ax bW) gI gJ gh gK gL gM gN 0) Γ X):PS X ((aA bW).getD 1 (.Pass ⟨0,0,0,0⟩)) (bh Γ (cJ.getD 1 (.ret (.c .az)))):=by
 have g:=G.toGood
 show PS X (.Assign [.Name "_law_paper" _] _ _) (bh Γ (.asg 2 _))
 with_reducible exact(aR G (aH g (ae (aa g) ai)))
theorem aki{CX:aK}{Γ:aC}{X:Cx}(G:aQ CX (aU fI (ax bW) gI gJ gh gK gL gM gN 0) Γ X):PS X ((aA bW).getD 2 (.Pass ⟨0,0,0,0⟩)) (bh Γ (cJ.getD 2 (.ret (.c .az)))):=by
 have g:=G.toGood
 exact(Bh [(_,_),(_,_)] G (acz g (m_ g (aa g) (ig aq) (ig aq))) (aj (aR G (aH g (ae (aH g (ae (aa g) (ae (aa g) ai))) (ae (aa g) ai)))) (aj (aR G (eh g (aa g) (ae (aa g) ai))) (aj (aR G (aH g (ae (aa g) (ae (aa g) ai)))) aB))))
theorem akj{CX:aK}{Γ:aC}{X:Cx}(G:aQ CX (aU fI (ax bW) gI gJ gh gK gL gM gN 0) Γ X):PS X ((aA bW).getD 3 (.Pass ⟨0,0,0,0⟩)) (bh Γ (cJ.getD 3 (.ret (.c .az)))):=by
 have g:=G.toGood
 show PS X (.Assign [.Name "_law_lines" _] _ _) (bh Γ (.asg 6 _))
 with_reducible exact(aR G (ahY g (aa g) (ae aI ai)))
theorem akk{CX:aK}{Γ:aC}{X:Cx}(G:aQ CX (aU fI (ax bW) gI gJ gh gK gL gM gN 0) Γ X):PS X ((aA bW).getD 4 (.Pass ⟨0,0,0,0⟩)) (bh Γ (cJ.getD 4 (.ret (.c .az)))):=by
 have g:=G.toGood
 show PS X (.Assign [.Name "_law_signs" _] _ _) (bh Γ (.asg 7 _))
 with_reducible exact(aR G (iP g (cG g (aa g))))
theorem akl{CX:aK}{Γ:aC}{X:Cx}(G:aQ CX (aU fI (ax bW) gI gJ gh gK gL gM gN 0) Γ X):PS X ((aA bW).getD 5 (.Pass ⟨0,0,0,0⟩)) (bh Γ (cJ.getD 5 (.ret (.c .az)))):=by
 have g:=G.toGood
 exact(qB G (Bf g aq) (aj (aR G (aH g (ae (aH g (ae (aa g) (ae (aD g aq (aa g)) ai))) (ae (aD g aq (aa g)) ai)))) (aj (aR G (aH g (ae (aD g (aa g) aq) (ae (aF g (bU (ae (cw g (ae (aa g) ai)) (ae (cw g (ae (aa g) ai)) (ae (cw g (ae (aa g) ai)) (ae (cw g (ae (aa g) ai)) ai))))) (aa g)) ai)))) (aj (aR G (aH g (ae (aD g (aD g (aa g) aq) aq) (ae (cw g (ae (aa g) ai)) ai)))) (aj (aR G (aH g (ae (aa g) (ae (aa g) (ae (aa g) (ae (aa g) ai)))))) (aj (bC (bo g (e9 g (aa g) (bK (ae aI (ae aI ai)))) (aH g (ae (aa g) (ae (aa g) (ae (aa g) (ae (aa g) (ae (aa g) ai))))))) (aj (aY fE) aB) aB) (aj (bC (PW.pt (lB (wF g (ju g (aa g))) (lB (wF g (ju g (aF g (aa g) aq))) (qA (bo g (aF g (aa g) aq) aI))))) (aj (aY fE) aB) aB) aB)))))))
theorem akm{CX:aK}{Γ:aC}{X:Cx}(G:aQ CX (aU fI (ax bW) gI gJ gh gK gL gM gN 0) Γ X):PS X ((aA bW).getD 6 (.Pass ⟨0,0,0,0⟩)) (bh Γ (cJ.getD 6 (.ret (.c .az)))):=by
 have g:=G.toGood
 show PS X (.Assign [.Name "_law_cell" _] _ _) (bh Γ (.asg 4 _))
 with_reducible exact(aR G (aH g (ae (aH g (ae (aa g) (ae aq ai))) (ae aq ai))))
theorem akn{CX:aK}{Γ:aC}{X:Cx}(G:aQ CX (aU fI (ax bW) gI gJ gh gK gL gM gN 0) Γ X):PS X ((aA bW).getD 7 (.Pass ⟨0,0,0,0⟩)) (bh Γ (cJ.getD 7 (.ret (.c .az)))):=by
 have g:=G.toGood
 exact(bC (bo g (aH g (ae (aa g) (ae (aH g (ae (aa g) (ae (aa g) ai))) ai))) (bU (ae aI (ae aI ai)))) (aj (aY fE) aB) aB)
theorem ako{CX:aK}{Γ:aC}{X:Cx}(G:aQ CX (aU fI (ax bW) gI gJ gh gK gL gM gN 0) Γ X):PS X ((aA bW).getD 8 (.Pass ⟨0,0,0,0⟩)) (bh Γ (cJ.getD 8 (.ret (.c .az)))):=by
 have g:=G.toGood
 exact(bC (bo g (aH g (ae (aa g) (ae (aH g (ae (aD g (aa g) aq) (ae (aa g) ai))) ai))) (bU (ae aI (ae aI ai)))) (aj (aY fE) aB) aB)
theorem akp{CX:aK}{Γ:aC}{X:Cx}(G:aQ CX (aU fI (ax bW) gI gJ gh gK gL gM gN 0) Γ X):PS X ((aA bW).getD 9 (.Pass ⟨0,0,0,0⟩)) (bh Γ (cJ.getD 9 (.ret (.c .az)))):=by
 have g:=G.toGood
 exact(bC (PW.pt (gF (e_ (t_x g (agT g (ae (aa g) (ae (fF g) ai))))) (gF (bo g (iP g (aa g)) (aa g)) (jv (bo g (iP g (cG g (aa g))) (aa g)))))) (aj (aY fE) aB) aB)
theorem akq{CX:aK}{Γ:aC}{X:Cx}(G:aQ CX (aU fI (ax bW) gI gJ gh gK gL gM gN 0) Γ X):PS X ((aA bW).getD 10 (.Pass ⟨0,0,0,0⟩)) (bh Γ (cJ.getD 10 (.ret (.c .az)))):=by
 have g:=G.toGood
 refine(Bi G (by kernel_rfl) (by kernel_rfl) (fun G=> (fun g=> (aj ?_ aB)) G.toGood) (fun G=> (fun g=> (aj (aY (e9 g (Bb g (aa g)) aI)) aB)) G.toGood))
 show PS _ (.Expr _ _) (bh _ (.drop _))
 with_reducible exact(eQ (aH g (ae (aF g (bU (ae d0 (ae aq (ae (bU (ae aI ai)) (ae aI (ae aI (ae fE (ae (bK (ae aI ai)) (ae Ph ai))))))))) (aD g (aH g (ae (aa g) (ae aq ai))) aq)) ai)))
theorem akr{CX:aK}{Γ:aC}{X:Cx}(G:aQ CX (aU fI (ax bW) gI gJ gh gK gL gM gN 0) Γ X):PS X ((aA bW).getD 11 (.Pass ⟨0,0,0,0⟩)) (bh Γ (cJ.getD 11 (.ret (.c .az)))):=by
 have g:=G.toGood
 show PS X (.Return (some _) _) (bh Γ (.ret _))
 with_reducible exact(aY fE)
theorem aks{CX:aK}{Γ:aC}{X:Cx}(G:aQ CX (aU fI (ax bW) gI gJ gh gK gL gM gN 0) Γ X):a_ X (aA bW) (aw Γ cJ):=by
 have e:aA bW=[((aA bW).getD 0 (.Pass ⟨0,0,0,0⟩)),((aA bW).getD 1 (.Pass ⟨0,0,0,0⟩)),((aA bW).getD 2 (.Pass ⟨0,0,0,0⟩)),((aA bW).getD 3 (.Pass ⟨0,0,0,0⟩)),((aA bW).getD 4 (.Pass ⟨0,0,0,0⟩)),((aA bW).getD 5 (.Pass ⟨0,0,0,0⟩)),((aA bW).getD 6 (.Pass ⟨0,0,0,0⟩)),((aA bW).getD 7 (.Pass ⟨0,0,0,0⟩)),((aA bW).getD 8 (.Pass ⟨0,0,0,0⟩)),((aA bW).getD 9 (.Pass ⟨0,0,0,0⟩)),((aA bW).getD 10 (.Pass ⟨0,0,0,0⟩)),((aA bW).getD 11 (.Pass ⟨0,0,0,0⟩))]:=by kernel_rfl
 have e2:cJ=[(cJ.getD 0 (.ret (.c .az))),(cJ.getD 1 (.ret (.c .az))),(cJ.getD 2 (.ret (.c .az))),(cJ.getD 3 (.ret (.c .az))),(cJ.getD 4 (.ret (.c .az))),(cJ.getD 5 (.ret (.c .az))),(cJ.getD 6 (.ret (.c .az))),(cJ.getD 7 (.ret (.c .az))),(cJ.getD 8 (.ret (.c .az))),(cJ.getD 9 (.ret (.c .az))),(cJ.getD 10 (.ret (.c .az))),(cJ.getD 11 (.ret (.c .az)))]:=by kernel_rfl
 rw[e,e2]
 with_reducible exact aj (akg G) (aj (akh G) (aj (aki G) (aj (akj G) (aj (akk G) (aj (akl G) (aj (akm G) (aj (akn G) (aj (ako G) (aj (akp G) (aj (akq G) (aj (akr G) (aB))))))))))))
end L2.nC
namespace L2.N
inductive Tr where
 | nil | node (l:Tr) (a b c:Int) (r:Tr)
namespace Tr
def h:Tr→Int
 | nil=>0
 | node l _ _ _ r=>1+ (if r.h>l.h then r.h else l.h)
def sz:Tr→Int
 | nil=>0
 | node l _ b _ r=>l.sz+b+r.sz
def en:Tr→Int
 | nil=>0
 | node l _ _ c r=>l.en+c+r.en
def ar:Tr→List (Int×Int×Int)
 | nil=> []
 | node l a b c r=>l.ar++ (a,b,c)::r.ar
def ok:Tr→Prop
 | nil=>True
 | node l _ _ _ r=>l.ok∧r.ok∧l.h≤r.h+1∧r.h≤l.h+1
theorem h0: ∀t:Tr,0≤t.h
 | nil=>Int.le_refl _
 | node l _ _ _ r=>by
  have:=h0 l
  have:=h0 r
  show 0≤1+ (if r.h>l.h then r.h else l.h)
  split<;>omega
theorem qS: ∀{t:Tr},0<t.h→ ∃l a b c r,t=node l a b c r
 | nil,h=>absurd h (by decide)
 | node l a b c r,_=> ⟨l,a,b,c,r,rfl⟩
theorem cW(l:Tr)(a b c:Int)(r:Tr):(node l a b c r).h=1+ (if r.h>l.h then r.h else l.h):=rfl
theorem Dd: ∀{t:Tr} (n:Nat),t.ok→(n:Int)≤t.h→2 ^ (n / 2)≤t.ar.length+1
 | nil,n,_,hn=>by
  have:n=0:=by
   have:(n:Int)≤0:=hn
   omega
  subst this;decide
 | node l a b c r,n,ho,hn=>by
  obtain⟨o1,o2,o3,o4⟩:=ho
  rw[cW] at hn
  simp only[ar,List.length_append,List.length_cons]
  match n with
  | 0=>simp
  | 1=>simp
  | n+2=>
   have e:(n+2) / 2=n / 2+1:=by omega
   rw[e,Nat.pow_succ]
   have k1:(n:Int)≤l.h:=by split at hn<;>omega
   have k2:(n:Int)≤r.h:=by split at hn<;>omega
   have i1:=Dd n o1 k1
   have i2:=Dd n o2 k2
   omega
theorem ij{t:Tr}(ho:t.ok)(hn:t.ar.length≤1000):t.h≤19:=by
 by_cases hh:t.h≤19
 ·exact hh
 ·have:=Dd 20 ho (by omega)
  omega
structure jz (l:Tr) (a b c:Int) (r t:Tr):Prop where
 ok:t.ok
 ar:t.ar=l.ar++ (a,b,c)::r.ar
 near:l.h≤r.h+1→r.h≤l.h+1→t.h=1+ (if r.h>l.h then r.h else l.h)
 lo:l.h≤t.h∧r.h≤t.h
 hi:t.h≤l.h+1∨t.h≤r.h+1
theorem R9{l r:Tr}{a b c:Int}(o1:l.ok)(o2:r.ok)(h1:l.h≤r.h+1)(h2:r.h≤l.h+1):jz l a b c r (node l a b c r):=by
 refine⟨⟨o1,o2,h1,h2⟩,rfl,fun _ _=>rfl, ?_, ?_⟩
 all_goals rw[cW];split<;>omega
theorem akt{ll lr r:Tr}{a b c a' b' c':Int}(o1:(node ll a b c lr).ok)(o2:r.ok)(h1:(node ll a b c lr).h=r.h+2)(hh:lr.h≤ll.h):
  jz (node ll a b c lr) a' b' c' r (node ll a b c (node lr a' b' c' r)):=by
 obtain⟨p1,p2,p3,p4⟩:=o1
 have e1:=cW ll a b c lr
 have e2:=cW lr a' b' c' r
 have e3:=cW ll a b c (node lr a' b' c' r)
 rw[h1] at e1
 have k:r.h+1=ll.h:=by rw[if_neg (by omega)] at e1;omega
 refine⟨⟨p1,⟨p2,o2,by omega,by omega⟩, ?_, ?_⟩,by simp[ar],fun q1 q2=>absurd h1 (by omega), ?_, ?_⟩
 ·rw[e2];split<;>omega
 ·rw[e2];split<;>omega
 ·rw[e3,e2,h1];constructor<;> ((repeat' split) <;>omega)
 ·rw[e3,e2,h1];left;(split<;>split<;>omega)
theorem aku{ll il ir r:Tr}{a b c a' b' c' x y z:Int}(o1:(node ll a b c (node il x y z ir)).ok)(o2:r.ok)(h1:(node ll a b c (node il x y z ir)).h=r.h+2)(hh:ll.h< (node il x y z ir).h):
  jz (node ll a b c (node il x y z ir)) a' b' c' r (node (node ll a b c il) x y z (node ir a' b' c' r)):=by
 obtain⟨p1,⟨p5,p6,p7,p8⟩,p3,p4⟩:=o1
 have e1:=cW ll a b c (node il x y z ir)
 have e2:=cW il x y z ir
 have e3:=cW ll a b c il
 have e4:=cW ir a' b' c' r
 have e5:=cW (node ll a b c il) x y z (node ir a' b' c' r)
 rw[h1,if_pos (by omega)] at e1
 have k1:ll.h=r.h:=by omega
 have k2:il.h≤r.h∧ir.h≤r.h:=by rw[e2] at e1;split at e1<;>omega
 have k3:r.h - 1≤il.h∧r.h - 1≤ir.h:=by rw[e2] at e1;split at e1<;>omega
 have f3:(node ll a b c il).h=r.h+1:=by rw[e3];split<;>omega
 have f4:(node ir a' b' c' r).h=r.h+1:=by rw[e4];split<;>omega
 have f5:(node (node ll a b c il) x y z (node ir a' b' c' r)).h=r.h+2:=by rw[e5,f3,f4];split<;>omega
 refine⟨⟨⟨p1,p5,by omega,by omega⟩,⟨p6,o2,by omega,by omega⟩,by omega,by omega⟩,by simp[ar],fun q1 q2=>absurd h1 (by omega),by omega,by omega⟩
theorem akv{l rl rr:Tr}{a b c a' b' c':Int}(o1:l.ok)(o2:(node rl a' b' c' rr).ok)(h1:(node rl a' b' c' rr).h=l.h+2)(hh:rl.h≤rr.h):
  jz l a b c (node rl a' b' c' rr) (node (node l a b c rl) a' b' c' rr):=by
 obtain⟨p1,p2,p3,p4⟩:=o2
 have e1:=cW rl a' b' c' rr
 have e2:=cW l a b c rl
 have e3:=cW (node l a b c rl) a' b' c' rr
 rw[h1] at e1
 have k:l.h+1=rr.h:=by split at e1<;>omega
 refine⟨⟨⟨o1,p1,by omega,by omega⟩,p2, ?_, ?_⟩,by simp[ar],fun q1 q2=>absurd h1 (by omega), ?_, ?_⟩
 ·rw[e2];split<;>omega
 ·rw[e2];split<;>omega
 ·rw[e3,e2,h1];constructor<;> ((repeat' split) <;>omega)
 ·rw[e3,e2,h1];right;(split<;>split<;>omega)
theorem akw{l il ir rr:Tr}{a b c a' b' c' x y z:Int}(o1:l.ok)(o2:(node (node il x y z ir) a' b' c' rr).ok)(h1:(node (node il x y z ir) a' b' c' rr).h=l.h+2)(hh:rr.h< (node il x y z ir).h):
  jz l a b c (node (node il x y z ir) a' b' c' rr) (node (node l a b c il) x y z (node ir a' b' c' rr)):=by
 obtain⟨⟨p5,p6,p7,p8⟩,p2,p3,p4⟩:=o2
 have e1:=cW (node il x y z ir) a' b' c' rr
 have e2:=cW il x y z ir
 have e3:=cW l a b c il
 have e4:=cW ir a' b' c' rr
 have e5:=cW (node l a b c il) x y z (node ir a' b' c' rr)
 rw[h1,if_neg (by omega)] at e1
 have k1:l.h=rr.h:=by omega
 have k2:il.h≤l.h∧ir.h≤l.h:=by rw[e2] at e1;split at e1<;>omega
 have k3:l.h - 1≤il.h∧l.h - 1≤ir.h:=by rw[e2] at e1;split at e1<;>omega
 have f3:(node l a b c il).h=l.h+1:=by rw[e3];split<;>omega
 have f4:(node ir a' b' c' rr).h=l.h+1:=by rw[e4];split<;>omega
 have f5:(node (node l a b c il) x y z (node ir a' b' c' rr)).h=l.h+2:=by rw[e5,f3,f4];split<;>omega
 refine⟨⟨⟨o1,p5,by omega,by omega⟩,⟨p6,p2,by omega,by omega⟩,by omega,by omega⟩,by simp[ar],fun q1 q2=>absurd h1 (by omega),by omega,by omega⟩
structure Jn (l:Tr) (a b c:Int) (r t:Tr):Prop where
 ok:t.ok
 ar:t.ar=l.ar++ (a,b,c)::r.ar
 lo:l.h≤t.h∧r.h≤t.h
 hi:t.h≤l.h+1∨t.h≤r.h+1
theorem akx{l r:Tr}{a b c:Int}(o1:l.ok)(o2:r.ok)(h1:l.h≤r.h+1)(h2:r.h≤l.h+1):Jn l a b c r (node l a b c r):=
 let L:=R9 (a:=a) (b:=b) (c:=c) o1 o2 h1 h2
 ⟨L.ok,L.ar,L.lo,L.hi⟩
theorem aky{ll lr r j t:Tr}{a b c a' b' c':Int}(o1:(node ll a b c lr).ok)(hh:r.h+1< (node ll a b c lr).h)(J:Jn lr a' b' c' r j)(L:jz ll a b c j t):
  Jn (node ll a b c lr) a' b' c' r t:=by
 obtain⟨p1,p2,p3,p4⟩:=o1
 have e1:=cW ll a b c lr
 have j1:=J.lo
 have j2:=J.hi
 have l1:=L.lo
 have l2:=L.hi
 have l3:=L.near
 have gO:r.h≤lr.h:=by rw[e1] at hh;split at hh<;>omega
 have hj:j.h=lr.h∨j.h=lr.h+1:=by omega
 refine⟨L.ok,by rw[L.ar,J.ar];simp[ar], ?_, ?_⟩
 ·rw[e1]
  by_cases q:ll.h≤j.h+1∧j.h≤ll.h+1
  ·have:=l3 q.1 q.2
   rw[this]
   constructor<;> ((repeat' split) <;>omega)
  ·constructor<;> ((repeat' split) <;>omega)
 ·rw[e1]
  left
  by_cases q:ll.h≤j.h+1∧j.h≤ll.h+1
  ·have:=l3 q.1 q.2
   rw[this]
   split<;>split<;>omega
  ·split<;>omega
theorem akz{l rl rr j t:Tr}{a b c a' b' c':Int}(o2:(node rl a' b' c' rr).ok)(hh:l.h+1< (node rl a' b' c' rr).h)(J:Jn l a b c rl j)(L:jz j a' b' c' rr t):
  Jn l a b c (node rl a' b' c' rr) t:=by
 obtain⟨p1,p2,p3,p4⟩:=o2
 have e1:=cW rl a' b' c' rr
 have j1:=J.lo
 have j2:=J.hi
 have l1:=L.lo
 have l2:=L.hi
 have l3:=L.near
 have gO:l.h≤rl.h:=by rw[e1] at hh;split at hh<;>omega
 have hj:j.h=rl.h∨j.h=rl.h+1:=by omega
 refine⟨L.ok,by rw[L.ar,J.ar];simp[ar], ?_, ?_⟩
 ·rw[e1]
  by_cases q:j.h≤rr.h+1∧rr.h≤j.h+1
  ·have:=l3 q.1 q.2
   rw[this]
   constructor<;> ((repeat' split) <;>omega)
  ·constructor<;> ((repeat' split) <;>omega)
 ·rw[e1]
  right
  by_cases q:j.h≤rr.h+1∧rr.h≤j.h+1
  ·have:=l3 q.1 q.2
   rw[this]
   split<;>split<;>omega
  ·split<;>omega
theorem akA{ll lr r j:Tr}{a b c a' b' c':Int}(o1:(node ll a b c lr).ok)(hh:r.h+1< (node ll a b c lr).h)(J:Jn lr a' b' c' r j):ll.h≤j.h+2∧j.h≤ll.h+2:=by
 obtain⟨p1,p2,p3,p4⟩:=o1
 have e1:=cW ll a b c lr
 have j1:=J.lo
 have j2:=J.hi
 have gO:r.h≤lr.h:=by rw[e1] at hh;split at hh<;>omega
 omega
theorem akB{l rl rr j:Tr}{a b c a' b' c':Int}(o2:(node rl a' b' c' rr).ok)(hh:l.h+1< (node rl a' b' c' rr).h)(J:Jn l a b c rl j):j.h≤rr.h+2∧rr.h≤j.h+2:=by
 obtain⟨p1,p2,p3,p4⟩:=o2
 have e1:=cW rl a' b' c' rr
 have j1:=J.lo
 have j2:=J.hi
 have gO:l.h≤rl.h:=by rw[e1] at hh;split at hh<;>omega
 omega
end Tr
abbrev P3:=Int×Int×Int
def cZ(ps:List P3):Int:=(ps.map fun p=>p.2.1).sum
def cQ(F:Int→Int):List P3→Int→List P3
 | [],_=> []
 | p::ps,n=>if n≤0 then [] else if p.2.1≤n then p::cQ F ps (n - p.2.1) else [(p.1,n,F (p.1+n) - F p.1)]
def cR(F:Int→Int):List P3→Int→List P3
 | [],_=> []
 | p::ps,n=>if n≤0 then p::ps else if p.2.1≤n then cR F ps (n - p.2.1) else (p.1+n,p.2.1 - n,p.2.2 - (F (p.1+n) - F p.1))::ps
theorem R_:cZ []=0:=rfl
theorem pd(p:P3)(ps:List P3):cZ (p::ps)=p.2.1+cZ ps:=by simp[cZ]
theorem Sa(a b:List P3):cZ (a++b)=cZ a+cZ b:=by simp[cZ]
theorem De(F:Int→Int){n:Int}(h:n≤0): ∀ps:List P3,cQ F ps n=[]∧cR F ps n=ps
 | []=> ⟨rfl,rfl⟩
 | p::ps=>by simp[cQ,cR,h]
theorem Sb: ∀{ps:List P3},(∀p∈ps,1≤p.2.1)→0≤cZ ps
 | [],_=>Int.le_refl _
 | p::ps,h=>by
  have:=Sb (ps:=ps) fun q hq=>h q (List.mem_cons_of_mem _ hq)
  have:=h p List.mem_cons_self
  rw[pd];omega
theorem Sd(F:Int→Int)(ys:List P3): ∀(xs:List P3) (n:Int),(∀p∈xs,1≤p.2.1)→n≤cZ xs→cQ F (xs++ys) n=cQ F xs n∧cR F (xs++ys) n=cR F xs n++ys
 | [],n,_,h=>by
  have h:n≤0:=h
  obtain⟨a,b⟩:=De F h ys
  exact⟨a,b⟩
 | p::xs,n,hp,h=>by
  rw[pd] at h
  have ih:=Sd F ys xs (n - p.2.1) (fun q hq=>hp q (List.mem_cons_of_mem _ hq)) (by omega)
  simp only[List.cons_append,cQ,cR]
  rw[ih.1,ih.2]
  constructor
  ·rfl
  ·split
   ·rfl
   ·split<;>rfl
theorem Df(F:Int→Int)(ys:List P3): ∀(xs:List P3) (n:Int),(∀p∈xs,1≤p.2.1)→cZ xs≤n→cQ F (xs++ys) n=xs++cQ F ys (n - cZ xs)∧cR F (xs++ys) n=cR F ys (n - cZ xs)
 | [],n,_,h=>by rw[R_,Int.sub_zero];exact⟨rfl,rfl⟩
 | p::xs,n,hp,h=>by
  have h1:=hp p List.mem_cons_self
  have h2:=Sb fun q hq=>hp q (List.mem_cons_of_mem _ hq)
  rw[pd] at h⊢
  have ih:=Df F ys xs (n - p.2.1) (fun q hq=>hp q (List.mem_cons_of_mem _ hq)) (by omega)
  have e:n - p.2.1 - cZ xs=n - (p.2.1+cZ xs):=by omega
  rw[e] at ih
  simp only[List.cons_append,cQ,cR]
  rw[if_neg (by omega),if_pos (by omega),if_neg (by omega),if_pos (by omega),ih.1,ih.2]
  exact⟨rfl,rfl⟩
theorem tR(F:Int→Int): ∀(xs:List P3) (n:Int),(cQ F xs n).length≤xs.length∧(cR F xs n).length≤xs.length
 | [],n=> ⟨Nat.le_refl _,Nat.le_refl _⟩
 | p::xs,n=>by
  obtain⟨a,b⟩:=tR F xs (n - p.2.1)
  simp only[cQ,cR]
  split
  ·exact⟨Nat.zero_le _,Nat.le_refl _⟩
  ·split<;>simp<;>omega
end L2.N
namespace L2.B
def c_(xs:List Int)(most:Int):Nat:=(xs.filter fun x=>decide (x≤most)).length
def qT(xs:List Int):Prop:=xs.Pairwise (· ≤ ·)
theorem Dg(xs:List Int)(most:Int):c_ xs most≤xs.length:=List.length_filter_le _ _
theorem Dh(a b:List Int)(most:Int):c_ (a++b) most=c_ a most+c_ b most:=by simp[c_]
theorem Se{xs:List Int}{most:Int}(h: ∀x∈xs,x≤most):c_ xs most=xs.length:=by
 unfold c_
 rw[List.filter_eq_self.mpr fun x hx=>by simpa using h x hx]
theorem Sf{xs:List Int}{most:Int}(h: ∀x∈xs,most<x):c_ xs most=0:=by
 unfold c_
 rw[List.length_eq_zero_iff,List.filter_eq_nil_iff]
 intro x hx
 have:=h x hx
 simp;omega
theorem Di{xs:List Int}{most x:Int}{m:Nat}(h:qT xs)(g:xs[m]?=some x)(hx:x≤most):m+1≤c_ xs most:=by
 have hm:=(List.getElem?_eq_some_iff.mp g).1
 have e:xs=xs.take (m+1)++xs.drop (m+1):=(List.take_append_drop _ _).symm
 have a: ∀y∈xs.take (m+1),y≤most:=by
  intro y hy
  obtain⟨j,hj,rfl⟩:=List.getElem_of_mem hy
  rw[List.length_take] at hj
  rw[List.getElem_take]
  have e2:xs[m]=x:=(List.getElem?_eq_some_iff.mp g).2
  by_cases q:j=m
  ·subst q;omega
  ·have:=List.pairwise_iff_getElem.mp h j m (by omega) hm (by omega)
   omega
 have:c_ xs most=c_ (xs.take (m+1)) most+c_ (xs.drop (m+1)) most:=by rw[←Dh,←e]
 rw[this,Se a,List.length_take]
 omega
theorem Sg{xs:List Int}{most x:Int}{m:Nat}(h:qT xs)(g:xs[m]?=some x)(hx: ¬x≤most):c_ xs most≤m:=by
 have hm:=(List.getElem?_eq_some_iff.mp g).1
 have e:xs=xs.take m++xs.drop m:=(List.take_append_drop _ _).symm
 have a: ∀y∈xs.drop m,most<y:=by
  intro y hy
  obtain⟨j,hj,rfl⟩:=List.getElem_of_mem hy
  rw[List.length_drop] at hj
  rw[List.getElem_drop]
  have e2:xs[m]=x:=(List.getElem?_eq_some_iff.mp g).2
  by_cases q:j=0
  ·subst q;simp;omega
  ·have:=List.pairwise_iff_getElem.mp h m (m+j) hm (by omega) (by omega)
   omega
 have:c_ xs most=c_ (xs.take m) most+c_ (xs.drop m) most:=by rw[←Dh,←e]
 have l:=Dg (xs.take m) most
 rw[this,Sf a]
 rw[List.length_take] at l
 omega
end L2.B
namespace L2.B
open PySem PySem.StrLaws
def pos(c:Nat):List Nat→Nat→List Nat
 | [],_=> []
 | d::r,k=>if d=c then k::pos c r (k+1) else pos c r (k+1)
theorem pe(c:Nat): ∀(a b:List Nat) (k:Nat),pos c (a++b) k=pos c a k++pos c b (k+a.length)
 | [],b,k=>by simp[pos]
 | d::r,b,k=>by
  have ih:=pe c r b (k+1)
  rw[show k+1+r.length=k+ (d::r).length by simp;omega] at ih
  simp only[List.cons_append,pos]
  split
  ·rw[ih];rfl
  ·rw[ih]
theorem gi(c:Nat): ∀(a:List Nat) (k:Nat),(pos c a k).length=a.count c
 | [],k=>rfl
 | d::r,k=>by
  simp only[pos]
  rw[List.count_cons]
  split
  ·rename_i h;subst h;simp[gi d r (k+1)]
  ·rename_i h
   have:(d==c)=false:=by simpa using h
   rw[gi c r (k+1),this];simp
theorem lL(c:Nat): ∀(a:List Nat) (k i:Nat),i∈pos c a k→k≤i∧i<k+a.length
 | [],k,i,h=>by simp[pos] at h
 | d::r,k,i,h=>by
  simp only[pos] at h
  have go:i∈pos c r (k+1)→k≤i∧i<k+ (d::r).length:=fun z=>by
   have:=lL c r (k+1) i z
   simp;omega
  split at h
  ·rcases List.mem_cons.mp h with rfl | z
   ·simp
   ·exact go z
  ·exact go h
theorem xo(c:Nat): ∀(a:List Nat) (k:Nat),(pos c a k).Pairwise (· < ·)
 | [],k=>by simp[pos]
 | d::r,k=>by
  simp only[pos]
  split
  ·rw[List.pairwise_cons]
   exact⟨fun i hi=>by have:=lL c r (k+1) i hi;omega,xo c r (k+1)⟩
  ·exact xo c r (k+1)
def fh(c:Nat)(a:List Nat):List Int:=(pos c a 0).map fun(i:Nat)=> (i:Int)
theorem akC(c:Nat)(a:List Nat):qT (fh c a):=by
 unfold qT fh
 rw[List.pairwise_map]
 exact(xo c a 0).imp fun h=>by omega
theorem akD(c:Nat)(a:List Nat)(n:Nat):c_ (fh c a) ((n:Int) - 1)=(a.take n).count c:=by
 have e:a=a.take n++a.drop n:=(List.take_append_drop _ _).symm
 have e1:fh c a=fh c (a.take n)++ ((pos c (a.drop n) (a.take n).length).map fun(i:Nat)=> (i:Int)):=by
  unfold fh
  conv=>lhs;rw[e]
  rw[pe,List.map_append,Nat.zero_add]
 rw[e1,Dh,Se,Sf]
 ·unfold fh
  rw[List.length_map,gi];simp
 ·intro x hx
  obtain⟨i,hi,rfl⟩:=List.mem_map.mp hx
  have h:=lL _ _ _ _ hi
  rw[List.length_take,List.length_drop] at h
  omega
 ·intro x hx
  obtain⟨i,hi,rfl⟩:=List.mem_map.mp hx
  have h:=lL _ _ _ _ hi
  rw[List.length_take] at h
  omega
theorem Sh(c:Nat): ∀(l:List Nat) (k i:Nat) (done rest:List Nat),pos c l k=done++i::rest→pos c (l.drop (i+1 - k)) (i+1)=rest
 | [],k,i,done,rest,h=>by
  simp[pos] at h
 | d::r,k,i,done,rest,h=>by
  have hi:=lL c (d::r) k i (by rw[h];simp)
  simp only[pos] at h
  have go: ∀dn,pos c r (k+1)=dn++i::rest→pos c ((d::r).drop (i+1 - k)) (i+1)=rest:=fun dn hd=>by
   have h2:=lL c r (k+1) i (by rw[hd];simp)
   have ih:=Sh c r (k+1) i dn rest hd
   rw[show i+1 - k=(i+1 - (k+1))+1 by omega,List.drop_succ_cons]
   exact ih
  split at h
  ·cases done with
   | nil=>
    simp only[List.nil_append,List.cons.injEq] at h
    obtain⟨rfl,h⟩:=h
    rw[show k+1 - k=1 by omega,List.drop_succ_cons,List.drop_zero]
    exact h
   | cons e dn=>
    simp only[List.cons_append,List.cons.injEq] at h
    exact go dn h.2
  ·exact go done h
theorem tU(c:Nat): ∀(l:List Nat) (k j:Nat),pos c l (k+j)=(pos c l j).map (k+ ·)
 | [],k,j=>rfl
 | d::r,k,j=>by
  have ih:=tU c r k (j+1)
  rw[←Nat.add_assoc] at ih
  simp only[pos]
  split
  ·rw[ih];rfl
  ·exact ih
theorem akE(c:Nat)(a b:List Nat):fh c (a++b)=fh c a++ ((pos c b 0).map fun(i:Nat)=> ((a.length:Nat):Int)+ (i:Int)):=by
 unfold fh
 rw[pe,List.map_append,Nat.zero_add]
 congr 1
 have:=tU c b a.length 0
 rw[Nat.add_zero] at this
 rw[this,List.map_map]
 apply List.map_congr_left
 intro i _
 show((a.length+i:Nat):Int)=_
 omega
theorem xp(x y:Str)(hy:y.length=1)(hi lim:Nat): ∀(n lo:Nat) (acc:Array Nat) (free:Nat),free≤lo→
  ((forIn (List.range' lo n) (acc,free) (occBody x y hi lim)).run.fst.toList=acc.toList++ ((List.range' lo n).filter fun i=>decide (i+1≤hi) && Builtin.Str.subAt x y i).take (lim - acc.size))
 | 0,lo,acc,free,hf=>by simp
 | n+1,lo,acc,free,hf=>by
  rw[List.range'_succ,List.forIn_cons]
  unfold occBody
  rw[hy]
  by_cases hp:lo+1≤hi∧Builtin.Str.subAt x y lo=true
  ·have e:(decide (lo+1≤hi) && Builtin.Str.subAt x y lo)=true:=by simp[hp.1,hp.2]
   by_cases hs:acc.size<lim
   ·rw[if_pos ⟨⟨⟨hs,hf⟩,hp.1⟩,hp.2⟩]
    have ih:=xp x y hy hi lim n (lo+1) (acc.push lo) (lo+1) (Nat.le_refl _)
    unfold occBody at ih
    rw[hy] at ih
    refine Eq.trans ih ?_
    rw[List.filter_cons_of_pos (by exact e)]
    have e2:lim - acc.size=(lim - (acc.push lo).size)+1:=by rw[Array.size_push];omega
    rw[e2,List.take_succ_cons]
    simp
   ·rw[if_neg (fun z=>hs z.1.1.1)]
    have ih:=xp x y hy hi lim n (lo+1) acc free (by omega)
    unfold occBody at ih
    rw[hy] at ih
    refine Eq.trans ih ?_
    have e2:lim - acc.size=0:=by omega
    rw[e2];simp
  ·rw[if_neg (fun z=>hp ⟨z.1.2,z.2⟩)]
   have e: ¬(decide (lo+1≤hi) && Builtin.Str.subAt x y lo)=true:=by
    intro z
    simp only[Bool.and_eq_true,decide_eq_true_eq] at z
    exact hp z
   have ih:=xp x y hy hi lim n (lo+1) acc free (by omega)
   unfold occBody at ih
   rw[hy] at ih
   refine Eq.trans ih ?_
   rw[List.filter_cons_of_neg (by exact e)]
theorem akF(x:Str)(c i:Nat):Builtin.Str.subAt x ⟨#[c]⟩ i=decide (x.cps[i]?=some c):=by
 unfold Builtin.Str.subAt
 have e:(⟨#[c]⟩:Str).length=1:=rfl
 rw[e,show(⟨#[c]⟩:Str).cps= #[c] from rfl]
 by_cases h:i<x.cps.size
 ·have e2:x.cps.extract i (i+1)= #[x.cps[i]]:=by
   apply Array.ext
   ·simp;omega
   ·intro j h1 h2
    simp at h1 h2⊢
    have:j=0:=by omega
    subst this;rfl
  rw[e2,Array.getElem?_eq_getElem h]
  by_cases q:x.cps[i]=c
  ·subst q;simp
  ·have: ¬(#[x.cps[i]]= #[c]):=fun z=>q (by injection z with z;injection z)
   simp[q]
 ·have e2:x.cps.extract i (i+1)= #[]:=by
   apply Array.eq_empty_of_size_eq_zero
   simp;omega
  rw[e2,Array.getElem?_eq_none (by omega)]
  simp
theorem Si(c:Nat): ∀(l:List Nat) (k:Nat) (p:Nat→Bool),(∀i,i<l.length→p (k+i)=decide (l[i]?=some c))→(List.range' k l.length).filter p=pos c l k
 | [],k,p,h=>rfl
 | d::r,k,p,h=>by
  rw[List.length_cons,List.range'_succ]
  have h0:p k=decide (d=c):=by
   have:=h 0 (Nat.zero_lt_succ _)
   simpa using this
  have ih:=Si c r (k+1) p fun i hi=>by
   have:=h (i+1) (Nat.succ_lt_succ hi)
   rw[show k+1+i=k+ (i+1) by omega,this];simp
  by_cases e:d=c
  ·rw[List.filter_cons_of_pos (by rw[h0];simpa using e),ih,pos,if_pos e]
  ·rw[List.filter_cons_of_neg (by rw[h0];simpa using e),ih,pos,if_neg e]
theorem Dj(x:Str)(c lo lim:Nat)(hl:lo≤x.length):Builtin.Str.occurrences x ⟨#[c]⟩ lo x.length lim=(pos c (x.cps.toList.drop lo) lo).take lim:=by
 have hx:x.cps.toList.length=x.length:=by simp[Str.length]
 rw[occ_eq,xp x _ rfl x.length lim _ lo #[] lo (Nat.le_refl _)]
 simp only[List.nil_append,Array.size_empty,Nat.sub_zero]
 congr 1
 have e:x.length+1 - lo=(x.cps.toList.drop lo).length+1:=by rw[List.length_drop,hx];omega
 rw[e,List.range'_concat,List.filter_append]
 rw[Si c (x.cps.toList.drop lo) lo]
 ·have: ¬(lo+1* (x.cps.toList.drop lo).length+1≤x.length):=by rw[List.length_drop,hx];omega
  rw[List.filter_cons_of_neg (by rw[decide_eq_false this];simp)]
  simp
 ·intro i hi
  rw[akF]
  rw[List.length_drop,hx] at hi
  rw[decide_eq_true (show lo+i+1≤x.length by omega),Bool.true_and,List.getElem?_drop,Array.getElem?_toList]
end L2.B
namespace L2.B
open PySem PySem.Spec PyProof.Rows
def lM(H H':Hp):Prop:= ∀b xs,H b=some (.tup xs)→H' b=some (.tup xs)
theorem bz{H H':Hp}(h:aE H H'):lM H H':=fun b xs e=>h b _ e
theorem sameNew{H:Hp}{p:Addr}{o:HO}(h:H p=none):aE H (upd H p o):=fun b u e=>by rw[aV (cn e h)];exact e
def dC(c:Addr)(H H':Hp):Prop:= ∀b o,H b=some o→b≠c→H' b=some o
theorem dC.upd{H:Hp}{c:Addr}{o:HO}:dC c H (upd H c o):=fun b u e n=>by rw[aV n];exact e
theorem dC.trans{c:Addr}{H H1 H2:Hp}(a:dC c H H1)(b:dC c H1 H2):dC c H H2:=fun d o e n=>b d o (a d o e n) n
theorem lN{c:Addr}{H H1 H2:Hp}(a:aE H H1)(hc:H c=none)(b:dC c H1 H2):aE H H2:=fun d o e=>b d o (a d o e) (cn e hc)
theorem dC.cP{c:Addr}{H H':Hp}{xs:List V}(h:dC c H H')(hc:H c=some (.lst xs)):lM H H':=fun b ys e=>h b _ e (fun z=>by rw[z,hc] at e;cases e)
theorem iF{c:Bool}{A B:Prop}(q:B)(h:c=false:=by first | rfl | decide):if c=true then A else B:=by
 rw[h];exact jj q
theorem iT{c:Bool}{A B:Prop}(q:A)(h:c=true:=by first | rfl | decide):if c=true then A else B:=by
 rw[h];exact fA q
inductive Pt where | keep (n:Int) | put (s:Str) | cut (s:Str)
 deriving DecidableEq
def Pt.word:Pt→Str | .keep _=> "keep" | .put _=> "put" | .cut _=> "cut"
def Pt.val:Pt→V | .keep n=> .int n | .put s=> .str s | .cut s=> .str s
def iR(H:Hp)(v:V)(p:Pt):Prop:= ∃a,v= .ref a∧H a=some (.tup [.str p.word,p.val])
abbrev bS(H:Hp):List V→List Pt→Prop:=Paired (iR H)
theorem iR.mono{H H':Hp}{v:V}{p:Pt}(t:lM H H')(h:iR H v p):iR H' v p:=by
 obtain⟨a,e,h⟩:=h
 exact⟨a,e,t _ _ h⟩
theorem bS.mono{H H':Hp}(t:lM H H'): ∀{vs:List V} {ps:List Pt},bS H vs ps→bS H' vs ps
 | _,_, .nil=> .nil
 | _,_, .cons h r=> .cons (h.mono t) (bS.mono t r)
theorem bS.get{H:Hp}: ∀{vs:List V} {ps:List Pt} {i:Nat} {v:V},bS H vs ps→vs[i]?=some v→ ∃p,ps[i]?=some p∧iR H v p
 | _,_,i,v, .nil,e=>by simp at e
 | _,_,0,v, .cons h r,e=>by simp at e;subst e;exact⟨_,rfl,h⟩
 | _,_,i+1,v, .cons h r,e=>by
  obtain⟨p,a,b⟩:=bS.get (i:=i) r (by simpa using e)
  exact⟨p,by simpa using a,b⟩
def ej(w a:Str):Bool:=w !=a && !(a=="cut" && w=="put")
def qU:Sp:=fun vs H Q E=> ∃w a,vs=[.str w, .str a]∧Q (.bl (ej w a)) H
theorem akG{K:PySem.W.Frag}(vs:List V)(H:Hp)(Q:VK)(E:XK)(h:qU vs H Q E):aw (aW K [] [] (E:=E)) Br {nx:=fun _ H'=>Q .az H',rt:=Q} (start Bq vs) H:=by
 obtain⟨w,a,rfl,q⟩:=h
 refine⟨_,rfl,_,rfl,_,rfl, ?_⟩
 unfold ej at q
 refine eE (fun h=> ?_) (fun h=> ?_)
 ·rw[Bool.true_xor,iC] at h
  have e:(w !=a)=true:=h
  rw[e] at q
  refine⟨_,rfl,_,rfl, ?_⟩
  refine eE (fun h2=> ?_) (fun h2=> ?_)
  ·rw[Bool.false_xor,iC] at h2
   rw[h2] at q
   refine⟨_,rfl, ?_⟩
   show Q (.bl (!(false ^^ decide (V.str w=V.str "put")))) H
   rw[Bool.false_xor,iC]
   exact q
  ·rw[Bool.false_xor,iC] at h2
   have e2:(a=="cut")=false:=by simpa using h2
   rw[e2] at q
   exact q
 ·rw[Bool.true_xor,iC] at h
  have e:(w !=a)=false:=by simpa using h
  rw[e] at q
  exact q
def qW:Pt→Int | .keep n=>n | .put s=>s.length | .cut s=>s.length
def Dk:Pt→Prop | .keep _=>True | .put s=>s.length≤1000000 | .cut s=>s.length≤1000000
theorem bP{n:Nat}(h:n≤1000000):n≤sizeLine:=Nat.le_trans h (by decide)
theorem lO{n:Nat}(h:n≤1000000):n<sizeLine:=Nat.lt_of_le_of_lt h (by decide)
def d5:Sp:=fun vs H Q E=> ∃v p,vs=[v]∧iR H v p∧Dk p∧Q (.int (qW p)) H
theorem akH{K:PySem.W.Frag}(vs:List V)(H:Hp)(Q:VK)(E:XK)(h:d5 vs H Q E):aw (aW K [] [] (E:=E)) Bu {nx:=fun _ H'=>Q .az H',rt:=Q} (start Bt vs) H:=by
 obtain⟨v,p,rfl,⟨a,rfl,ha⟩,ho,q⟩:=h
 refine⟨_,rfl, .inr (.inl ⟨_,_,_,_,rfl,rfl,bq.of ha,rfl,_,rfl, ?_⟩)⟩
 rw[Bool.false_xor,iC]
 cases p with
 | keep n=>exact fA ⟨_,rfl, .inr (.inl ⟨_,_,_,_,rfl,rfl,bq.of ha,rfl,q⟩)⟩
 | put s=>exact jj ⟨_,rfl, .inr (.inl ⟨_,_,_,_,rfl,rfl,bq.of ha,rfl,bP ho,q⟩)⟩
 | cut s=>exact jj ⟨_,rfl, .inr (.inl ⟨_,_,_,_,rfl,rfl,bq.of ha,rfl,bP ho,q⟩)⟩
def cell(ns:List Int)(k:Nat):Int:=ns.getD k 0
def pf(K:PySem.W.Frag):Sp:=fun vs H Q E=> ∃(a:Addr) (ns:List Int) (k:Int),vs=[.ref a, .int k]∧aP K H a (ns.map V.int)∧0≤k∧Q (.int (cell ns k.toNat)) H
theorem akI{K:PySem.W.Frag}(vs:List V)(H:Hp)(Q:VK)(E:XK)(h:pf K vs H Q E):aw (aW K [] [] (E:=E)) Bx {nx:=fun _ H'=>Q .az H',rt:=Q} (start Bw vs) H:=by
 obtain⟨a,ns,k,rfl,ha,hk,q⟩:=h
 refine⟨_,rfl,_,rfl, .inl ⟨_,ha,trivial,_,rfl, ?_⟩⟩
 rw[List.length_map]
 refine eE (fun h=> ?_) (fun h=> ?_)
 ·have bG:k< (ns.length:Int):=of_decide_eq_true h
  refine⟨_,rfl,_,rfl, .inl ⟨_,_,_,_,rfl,rfl,ha, ?_,q⟩⟩
  have e:=kO (xs:=ns.map V.int) (j:=k.toNat) (v:= .int (cell ns k.toNat)) (by
   have:k.toNat<ns.length:=by omega
   simp[cell,this])
  rw[show((k.toNat:Nat):Int)=k by omega] at e
  exact e
 ·have ph: ¬k< (ns.length:Int):=fun z=>h (decide_eq_true z)
  have e:cell ns k.toNat=0:=by
   have z:ns[k.toNat]?=none:=List.getElem?_eq_none_iff.mpr (by omega)
   unfold cell
   rw[List.getD_eq_getElem?_getD,z];rfl
  rw[e] at q
  exact q
def SG:Str:=" !\"#$&'()*+,-./0123456789:;<=>?@ABCDEFGHIJKLMNOPQRSTUVWXYZ[\\]^_`abcdefghijklmnopqrstuvwxyz{|}~\n"
def good(x:Str):Prop:=x.length≤1000000∧ ∀c∈x.cps.toList,SG.cps.contains c=true
theorem takeWhile_all{α:Type}(p:α→Bool): ∀l:List α,(∀c∈l,p c=true)→l.takeWhile p=l
 | [],_=>rfl
 | c::l,h=>by rw[List.takeWhile_cons,h c List.mem_cons_self,takeWhile_all p l fun d hd=>h d (List.mem_cons_of_mem _ hd)];rfl
theorem akJ(x y:Str)(h: ∀c∈x.cps.toList,y.cps.contains c=true):Txt.lstripChars x y="":=by
 have e0:stripLo y.cps.contains true x=x.length:=by
  unfold stripLo
  rw[if_pos rfl,takeWhile_all _ _ h]
  simp[Str.length]
 have e1:stripHi y.cps.contains false x x.length=x.length:=rfl
 unfold Txt.lstripChars Txt.stripBy stripSame stripped
 rw[e0,e1]
 split
 ·rename_i hq
  simp only[Bool.and_eq_true,beq_iff_eq] at hq
  have:x.cps= #[]:=Array.eq_empty_of_size_eq_zero hq.1
  obtain⟨c⟩:=x
  have e:c= #[]:=this
  subst e
  rfl
 ·show(⟨x.cps.extract x.length x.length⟩:Str)=_
  have:x.cps.extract x.length x.length= #[]:=by simp[Str.length]
  rw[this];rfl
theorem pj{H:Hp}{a:Addr}{xs:List V}{T:Ty}{k:Bool→Prop}(h:H a=some (.tup xs))(q:k (T== .tuple)):b_ T (.ref a) H k:=by
 show(match H a with | some (.lst _)=>k (T== .list) | some (.bV _ (.lst _))=>k (T== .list) | some (.tup _)=>k (T== .tuple) | some (.dK _)=>k (T== .dict) | some (.dT _)=>k (T== .dict) | _=>False)
 rw[h];exact q
theorem tV{H:Hp}{a:Addr}{xs:List V}{T:Ty}{k:Bool→Prop}(h:H a=some (.lst xs))(q:k (T== .list)):b_ T (.ref a) H k:=by
 show(match H a with | some (.lst _)=>k (T== .list) | some (.bV _ (.lst _))=>k (T== .list) | some (.tup _)=>k (T== .tuple) | some (.dK _)=>k (T== .dict) | some (.dT _)=>k (T== .dict) | _=>False)
 rw[h];exact q
abbrev gS:List (Str×V):=[("SIGNS", .str SG)]
def akK:Sp:=fun vs H Q E=> ∃x,vs=[.str x]∧good x∧Q (.bl true) H
theorem akL{K:PySem.W.Frag}(vs:List V)(H:Hp)(Q:VK)(E:XK)(h:akK vs H Q E):aw (aW K [] gS (E:=E)) wK {nx:=fun _ H'=>Q .az H',rt:=Q} (start wJ vs) H:=by
 obtain⟨x,rfl,hx,q⟩:=h
 refine⟨_,rfl,rfl,_,rfl,fA ⟨_,rfl,rfl,bP hx.1, ?_⟩⟩
 show Q (.bl (false ^^ decide (V.str (Txt.lstripChars x SG)=V.str ""))) H
 rw[akJ x SG hx.2,decide_eq_true rfl]
 exact q
def cL:Pt→Prop | .keep n=>1≤n | .put s=>good s∧s≠"" | .cut s=>good s∧s≠""
def gP(K:PySem.W.Frag):Sp:=fun vs H Q E=> ∃w p xs,vs=[.str w, .ref p]∧bq K H p xs∧xs.all dX=true∧Q (.bl (eB (.str w) xs)) H
theorem Dl{K:PySem.W.Frag}(vs:List V)(H:Hp)(Q:VK)(E:XK)(h:gP K vs H Q E):aw (aW K [] [] (E:=E)) wI {nx:=fun _ H'=>Q .az H',rt:=Q} (start wH vs) H:=by
 obtain⟨w,p,xs,rfl,hp,hf,q⟩:=h
 exact⟨_,rfl,rfl,_,rfl,fA ⟨_,rfl,_,rfl,p,xs,rfl,(.inr hp),rfl,hf,q⟩⟩
def Dm:Sp:=fun vs H Q E=> ∃v p,vs=[v]∧iR H v p∧cL p∧ ∀H',aE H H'→Q (.bl true) H'
def chainOk:Str→List Pt→Bool
 | _,[]=>true
 | a,p::r=>ej p.word a && chainOk p.word r
def gQ(a:Str)(ps:List Pt):Nat→Str
 | 0=>a
 | i+1=>match ps[i]? with | some p=>p.word | none=> ""
theorem Dp: ∀(ps:List Pt) (a:Str) (i:Nat) (p:Pt),chainOk a ps=true→ps[i]?=some p→ej p.word (gQ a ps i)=true
 | [],_,_,_,_,h=>by simp at h
 | q::r,a,0,p,h,e=>by
  simp only[chainOk,Bool.and_eq_true] at h
  simp at e;subst e;exact h.1
 | q::r,a,i+1,p,h,e=>by
  simp only[chainOk,Bool.and_eq_true] at h
  have e':r[i]?=some p:=by simpa using e
  have ih:=Dp r q.word i p h.2 e'
  cases i with
  | zero=>simpa[gQ] using ih
  | succ i=>simpa[gQ] using ih
abbrev akM:List (Str×Sp):=[("is_part",Dm),("may_follow",qU)]
def xq:Sp:=fun vs H Q E=> ∃a xs ps,vs=[.ref a]∧H a=some (.lst xs)∧bS H xs ps∧(∀p∈ps,cL p)∧chainOk "" ps=true∧ ∀H',aE H H'→Q .az H'
theorem akN{K:PySem.W.Frag}{et:List (Str×Addr)}(vs:List V)(H:Hp)(Q:VK)(E:XK)(h:xq vs H Q E):aw (aW K akM [] (et:=et) (E:=E)) tE {nx:=fun _ H'=>Q .az H',rt:=Q} (start wL vs) H:=by
 obtain⟨a,xs,ps,rfl,ha,cE,aN,dz,q⟩:=h
 refine⟨_,rfl,rfl,tV ha ⟨_,rfl,a,rfl,⟨_,aP.of ha⟩,mG (K:=K) (a:=a) (xs:=xs) (fun i σ H2=> ∃v,σ=[some (.ref a),some (.str (gQ "" ps i)),v]∧aE H H2) ⟨none,rfl,aE.refl _⟩
  (fun i σ H2 _ ⟨_,_,s2⟩=>aP.of (s2 _ _ ha)) ?_ ?_⟩⟩
 ·rintro i x σ H2 hi ⟨v,rfl,s2⟩
  obtain⟨p,hp,gR⟩:=cE.get hi
  obtain⟨b,rfl,hb⟩:=gR.mono (bz s2)
  refine⟨_,rfl,_,p,rfl,⟨b,rfl,hb⟩,aN p (List.mem_of_getElem? hp),fun H3 s3=> ?_⟩
  refine⟨_,rfl, .inr (.inl ⟨_,_,_,_,rfl,rfl,bq.of (s3 _ _ hb),rfl,_,rfl,p.word,_,rfl, ?_⟩)⟩
  have e:=Dp ps "" i p dz hp
  show(fun c H1=>if (!c)=true then _ else _) (ej p.word (gQ "" ps i)) H3
  rw[e]
  refine⟨_,rfl, .inr (.inl ⟨_,_,_,_,rfl,rfl,bq.of (s3 _ _ hb),rfl,some (.ref b), ?_,s2.trans s3⟩)⟩
  show[some (V.ref a),some (V.str p.word),some (V.ref b)]=_
  have e2:gQ "" ps (i+1)=p.word:=by simp only[gQ,hp]
  rw[e2]
 ·rintro σ H2 ⟨v,rfl,s2⟩
  exact q H2 s2
def overOf(ps:List Pt):List Int:=(ps.filter fun p=>decide (p.word≠ ("put":Str))).map qW
def akO(ps:List Pt):List Int:=(ps.filter fun p=>decide (p.word≠ ("cut":Str))).map qW
abbrev Sj:List (Str×Sp):=[("need_change",xq),("part_size",d5)]
def ka:Sp:=fun vs H Q E=> ∃a xs ps,vs=[.ref a]∧H a=some (.lst xs)∧bS H xs ps∧(∀p∈ps,cL p)∧chainOk "" ps=true∧ps.length≤1000000∧
 ∀t H',aE H H'→H' t=some (.tup [.int (overOf ps).sum, .int (akO ps).sum])→Q (.ref t) H'
theorem Sk{p:Pt}(h:cL p):Dk p:=by
 cases p with
 | keep n=>trivial
 | put s=>exact h.1.1
 | cut s=>exact h.1.1
theorem akP{α:Type}(p:α→Bool)(l:List α)(i:Nat)(v:α)(h:l[i]?=some v):(l.take (i+1)).filter p=(l.take i).filter p++ (if p v then [v] else []):=by
 rw[List.take_add_one,h,List.filter_append]
 cases hp:p v<;>simp[hp]
theorem akQ{K:PySem.W.Frag}(vs:List V)(H:Hp)(Q:VK)(E:XK)(h:ka vs H Q E):aw (aW K Sj [] (E:=E)) tF {nx:=fun _ H'=>Q .az H',rt:=Q} (start wM vs) H:=by
 obtain⟨a,xs,ps,rfl,ha,cE,aN,dz,hlen,q⟩:=h
 refine⟨_,rfl,a,xs,ps,rfl,ha,cE,aN,dz,fun H1 s1=> ?_⟩
 have hl:=Paired.length cE
 have comp: ∀(w:Str) (H1:Hp) (Q1:VK) (σ:St),aE H H1→σ[0]?=some (some (.ref a))→
   (∀b H2,aE H H2→H2 b=some (.lst (((ps.filter fun p=>decide (p.word≠w)).map qW).map V.int))→Q1 (.ref b) H2)→
   ak (aW K Sj [] (E:=E)) (.comp none [] .list [(.v 0)] (some (.cmp .NotEq (.ix (.v 0) (.c (.int 0))) (.c (.str w)))) (.call 1 [(.v 0)])) σ H1 Q1:=by
  intro w H1 Q1 σ s1 hσ hq
  refine⟨_,hσ,a,rfl,⟨_,aP.of (s1 _ _ ha)⟩,fun i m ys H2=>m=xs.length - i∧i≤xs.length∧aE H H2∧ys=(((ps.take i).filter fun p=>decide (p.word≠w)).map qW).map V.int,⟨_,rfl,Nat.zero_le _,s1,rfl⟩, ?_⟩
  rintro i m ys H2 ⟨rfl,hi,s2,rfl⟩
  by_cases bG:i<xs.length
  ·refine .inr ⟨⟨xs,xs[i],aP.of (s2 _ _ ha),by simp[bG]⟩, ?_⟩
   rintro x H3 ⟨rfl,hx⟩
   have mQ:=hx xs (aP.of (s2 _ _ ha))
   obtain⟨p,hp,gR⟩:=cE.get mQ
   obtain⟨b,rfl,hb⟩:=gR.mono (bz s2)
   refine⟨_,rfl, .inr (.inl ⟨_,_,_,_,rfl,rfl,bq.of hb,rfl,_,rfl, ?_⟩)⟩
   rw[Bool.true_xor,iC]
   have tf:=akP (fun p=>decide (p.word≠w)) ps i p hp
   have hc:((ps.take i).filter fun p=>decide (p.word≠w)).length≤1000000:=Nat.le_trans (List.length_filter_le _ _) (Nat.le_trans (List.length_take_le _ _) (by omega))
   refine eE (fun h=> ?_) (fun h=> ?_)
   ·have e:decide (p.word≠w)=true:=by simpa using h
    refine⟨_,rfl,_,p,rfl,⟨b,rfl,hb⟩,Sk (aN p (List.mem_of_getElem? hp)), ?_,xs.length - (i+1),by omega,rfl,bG,s2, ?_⟩
    ·rw[List.length_map,List.length_map];exact lO hc
    ·rw[tf,e];simp
   ·have e:decide (p.word≠w)=false:=by simpa using h
    refine⟨xs.length - (i+1),by omega,rfl,bG,s2, ?_⟩
    rw[tf,e];simp
  ·have tW:i=xs.length:=by omega
   subst tW
   refine .inl ⟨⟨xs,aP.of (s2 _ _ ha),Nat.le_refl _⟩,fun p hp=> ?_⟩
   have e:ps.take xs.length=ps:=List.take_of_length_le (by omega)
   rw[e]
   exact hq p _ (s2.trans (sameNew hp)) aO
 refine Pp (Pq (Pr (comp "put" H1 _ _ s1 rfl fun b1 H2 s2 e2=> ⟨_,aP.of e2, ?_⟩)))
 refine Pp (Pq (Pr (comp "cut" H2 _ _ s2 rfl fun b2 H3 s3 e3=> ⟨_,aP.of e3, ?_⟩)))
 refine⟨_,rfl,_,rfl,(by show 2≤sizeLine;decide),fun t ht=> ?_⟩
 exact q t _ (s3.trans (sameNew ht)) aO
def cat(ts:List Str):Str:=Txt.join "" ts
def sz(ts:List Str):Nat:=(ts.map Str.length).sum
theorem qX(ts:List Str):(cat ts).cps.toList=(ts.map fun t=>t.cps.toList).flatten:=by
 have e:(Str.ofString "").cps= #[]:=rfl
 cases ts with
 | nil=>rfl
 | cons t r=>
  show(r.foldl (fun acc p=>acc++ (Str.ofString "").cps++p.cps) t.cps).toList=_
  rw[e]
  have go: ∀(r:List Str) (acc:Array Nat),(r.foldl (fun acc p=>acc++ #[]++p.cps) acc).toList=acc.toList++ (r.map fun t=>t.cps.toList).flatten:=by
   intro r
   induction r with
   | nil=>intro acc;simp
   | cons q r ih=>
    intro acc
    show(r.foldl (fun acc p=>acc++ #[]++p.cps) (acc++ #[]++q.cps)).toList=_
    rw[ih];simp
  rw[go];simp
theorem iS{x y:Str}(h:x.cps.toList=y.cps.toList):x=y:=by
 obtain⟨x⟩:=x
 obtain⟨y⟩:=y
 exact congrArg Str.mk (Array.toList_inj.mp h)
theorem app_list(x y:Str):(x++y).cps.toList=x.cps.toList++y.cps.toList:=by
 show(x.cps++y.cps).toList=_
 simp
theorem akR(a b:List Str):cat (a++b)=cat a++cat b:=iS (by rw[app_list,qX,qX,qX];simp)
theorem akS(x:Str):cat [x]=x:=iS (by rw[qX];simp)
theorem akT:cat []="":=rfl
theorem len_list(x:Str):x.length=x.cps.toList.length:=by simp[Str.length]
theorem Sl(ts:List Str):(cat ts).length=sz ts:=by
 rw[len_list,qX,List.length_flatten]
 unfold sz
 rw[List.map_map]
 congr 1
theorem joinOk_of{ts:List Str}(h:sz ts≤1000000):JoinOk "" ts=true:=by
 have go: ∀(l:List Str) (n:Nat),l.foldl (· + ·.length+ (Str.ofString "").length) n=n+sz l:=by
  intro l
  induction l with
  | nil=>intro n;rfl
  | cons t r ih=>
   intro n
   show r.foldl _ (n+t.length+0)=_
   rw[ih]
   show n+t.length+0+sz r=n+ (t.length+sz r)
   omega
 unfold JoinOk
 have e:ts.toArray.foldl (· + ·.length+ (Str.ofString "").length) 0=sz ts:=by
  rw[List.foldl_toArray,go,Nat.zero_add]
 rw[e]
 show(!decide (sz ts>sizeLine))=true
 rw[decide_eq_false (by have:=bP h;omega)]
 rfl
def txt(mk:Str→Pt)(x:Str):List Pt:=if x="" then [] else [mk x]
def ip(ch:List Pt)(n:Int):List Pt:=match ch.getLast? with
 | some (.keep m)=>ch.dropLast++ [.keep (n+m)]
 | _=>ch++ [.keep n]
theorem akU(ch:List Pt)(n:Int):(ip ch n).length≤ch.length+1:=by
 unfold ip
 split
 ·simp only[List.length_append,List.length_dropLast,List.length_singleton];omega
 ·simp
def A1:Str:=" !\"#$&'()*+,-./0123456789:;<=>?@ABCDEFGHIJKLMNOPQRSTUVWXYZ[\\]^_`"
def xr(al:Str):Prop:=0<al.length∧al.length≤1000∧ ∀c∈al.cps.toList,SG.cps.contains c=true
theorem Sm{al:Str}(h:(decide (0<al.length) && decide (al.length≤1000) && al.cps.toList.all fun c=>SG.cps.contains c)=true):xr al:=by
 simp only[Bool.and_eq_true,decide_eq_true_eq,List.all_eq_true] at h
 exact⟨h.1.1,h.1.2,h.2⟩
def xu(t:Str):Prop:=t.length=1∧ ∀c∈t.cps.toList,SG.cps.contains c=true
abbrev Dn(Q:VK):Ends:={nx:=fun _ H'=>Q .az H',rt:=Q}
theorem Sn(x y:Str):(x++y).length=x.length+y.length:=by rw[len_list,app_list,List.length_append,←len_list,←len_list]
def akV:Pt→Bool | .keep _=>true | _=>false
theorem xv{ch:List Pt}{n:Int}(h: ∀p,ch.getLast?=some p→akV p=false):ip ch n=ch++ [.keep n]:=by
 unfold ip
 split
 ·rename_i m e
  have:=h _ e
  cases this
 ·rfl
theorem Dq(ch:List Pt)(m n:Int):ip (ch++ [.keep m]) n=ch++ [.keep (n+m)]:=by
 unfold ip
 rw[List.getLast?_append]
 simp
theorem txt_nil(mk:Str→Pt):txt mk ""=[]:=if_pos rfl
theorem da{mk:Str→Pt}{x:Str}(h:x≠""):txt mk x=[mk x]:=if_neg h
def sg(x:Str):Prop:= ∀c∈x.cps.toList,SG.cps.contains c=true
theorem Dr{x y:Str}(a:sg x)(b:sg y):sg (x++y):=fun c hc=>by
 rw[app_list] at hc
 rcases List.mem_append.mp hc with z | z
 ·exact a c z
 ·exact b c z
theorem xx:sg (Str.ofString ""):=fun c hc=>by cases hc
def akW:Pt→PyData | .keep n=> .int n | .put s=> .str s | .cut s=> .str s
def toD(p:Pt):PyData:= .tuple [.str p.word,akW p]
def eS:Pt→Prop | .keep _=>True | .put s=>sg s | .cut s=>sg s
theorem Ds{x:Str}(h:sg x):PyData.strOk x=true:=by
 have small: ∀c,SG.cps.contains c=true→c<0x110000:=by
  have all:SG.cps.toList.all (fun c=>decide (c<0x110000))=true:=by decide+kernel
  intro c hc
  have hm:c∈SG.cps.toList:=by simpa using hc
  exact of_decide_eq_true (List.all_eq_true.mp all c hm)
 unfold PyData.strOk
 rw[Array.all_eq_true']
 intro c hc
 exact decide_eq_true (small c (h c (by simpa using hc)))
theorem toD_ok{p:Pt}(h:eS p):(toD p).canLay0=true∧(toD p).depth=1:=by
 cases p with
 | keep n=>exact⟨(by show(PyData.strOk (Str.ofString "keep") && (true && true))=true;decide+kernel),rfl⟩
 | put s=>
  refine⟨?_,rfl⟩
  show(PyData.strOk (Str.ofString "put") && (PyData.strOk s && true))=true
  rw[Ds h];decide+kernel
 | cut s=>
  refine⟨?_,rfl⟩
  show(PyData.strOk (Str.ofString "cut") && (PyData.strOk s && true))=true
  rw[Ds h];decide+kernel
theorem So: ∀(ps:List Pt),(∀p∈ps,eS p)→PyData.canLayAll0 (ps.map toD)=true∧PyData.depthAll (ps.map toD)≤1
 | [],_=> ⟨rfl,Nat.zero_le _⟩
 | p::r,h=>by
  obtain⟨a,b⟩:=toD_ok (h p List.mem_cons_self)
  obtain⟨c,d⟩:=So r fun q hq=>h q (List.mem_cons_of_mem _ hq)
  refine⟨?_, ?_⟩
  ·show((toD p).canLay0 && PyData.canLayAll0 (r.map toD))=true
   rw[a,c];rfl
  ·show max (toD p).depth (PyData.depthAll (r.map toD))≤1
   rw[b];omega
theorem akX{ps:List Pt}(h: ∀p∈ps,eS p):SeqAt.shaped (.list (ps.map toD))=true:=by
 obtain⟨c,d⟩:=So ps h
 unfold SeqAt.shaped
 have e:(PyData.list (ps.map toD)).canLay0=true:=c
 have e2:(PyData.list (ps.map toD)).depth≤64:=by show PyData.depthAll (ps.map toD)+1≤64;omega
 rw[e,decide_eq_true e2];rfl
theorem Sq{H:Hp}: ∀{vs:List V} {ps:List Pt},bS H vs ps→IsL H (ps.map toD) vs
 | _,_, .nil=>rfl
 | _,_, .cons (a:=v) (b:=p) ⟨a,e,h⟩ r=>by
  refine⟨v,_,rfl, ?_,Sq r⟩
  refine⟨a,_,e,h, .str p.word,[p.val],rfl,rfl,p.val,[],rfl, ?_,rfl⟩
  cases p<;>rfl
def Pt.Dt:Pt→Pt | .keep n=> .keep n | .put s=> .cut s | .cut s=> .put s
def Sr(ps:List Pt):List Pt:=ps.map Pt.Dt
inductive Run:List Nat→List Pt→List Nat→Prop
 | nil:Run [] [] []
 | keep {a l r:List Nat} {n:Int} {ps:List Pt}:n=a.length→Run l ps r→Run (a++l) (.keep n::ps) (a++r)
 | put {s:Str} {l r:List Nat} {ps:List Pt}:Run l ps r→Run l (.put s::ps) (s.cps.toList++r)
 | cut {s:Str} {l r:List Nat} {ps:List Pt}:Run l ps r→Run (s.cps.toList++l) (.cut s::ps) r
theorem Run.Dt{l r:List Nat}{ps:List Pt}(h:Run l ps r):Run r (Sr ps) l:=by
 induction h with
 | nil=>exact .nil
 | keep e _ ih=>exact .keep e ih
 | put _ ih=>exact .cut ih
 | cut _ ih=>exact .put ih
theorem Run.app{l l' r r':List Nat}{ps qs:List Pt}(h:Run l ps r)(h':Run l' qs r'):Run (l++l') (ps++qs) (r++r'):=by
 induction h with
 | nil=>exact h'
 | keep e _ ih=>rw[List.append_assoc,List.append_assoc];exact .keep e ih
 | put _ ih=>rw[List.append_assoc];exact .put ih
 | cut _ ih=>rw[List.append_assoc];exact .cut ih
theorem Run.over{l r:List Nat}{ps:List Pt}(h:Run l ps r):(overOf ps).sum=l.length:=by
 induction h with
 | nil=>rfl
 | @keep a l r n ps e _ ih=>
  have e2:overOf (.keep n::ps)=n::overOf ps:=rfl
  rw[e2,List.sum_cons,ih,e,List.length_append]
  simp
 | @put s l r ps _ ih=>
  have e2:overOf (.put s::ps)=overOf ps:=rfl
  rw[e2,ih]
 | @cut s l r ps _ ih=>
  have e2:overOf (.cut s::ps)=(s.length:Int)::overOf ps:=rfl
  rw[e2,List.sum_cons,ih,List.length_append,len_list]
  simp
theorem Ss{s:Str}:Run [] (txt .put s) s.cps.toList:=by
 by_cases h:s=""
 ·rw[h,txt_nil];exact .nil
 ·rw[da h]
  have:=Run.put (s:=s) Run.nil
  rwa [List.append_nil] at this
theorem akY{s:Str}:Run s.cps.toList (txt .cut s) []:=by
 have:=(Ss (s:=s)).Dt
 have e:Sr (txt .put s)=txt .cut s:=by
  unfold txt;split<;>rfl
 rwa [e] at this
def One:Pt→List Nat→List Nat→Prop
 | .keep n,l,q=>l=q∧n=l.length
 | .put s,l,q=>l=[]∧q=s.cps.toList
 | .cut s,l,q=>l=s.cps.toList∧q=[]
theorem akZ{p:Pt}{l q:List Nat}{ps:List Pt}(h:Run l (p::ps) q): ∃l1 l2 q1 q2,l=l1++l2∧q=q1++q2∧Run l2 ps q2∧
  One p l1 q1:=by
 cases h with
 | keep e h=>exact⟨_,_,_,_,rfl,rfl,h,rfl,e⟩
 | put h=>exact⟨[],_,_,_,rfl,rfl,h,rfl,rfl⟩
 | cut h=>exact⟨_,_,[],_,rfl,rfl,h,rfl,rfl⟩
theorem Su{x:Str}{a b c:List Nat}(h:x.cps.toList=a++ (b++c))(n:Int)(hn:n=b.length):fB x (some (a.length:Int)) (some ((a.length:Int)+n))=⟨b.toArray⟩:=by
 have e1:(a.length:Int)+n=((a.length+b.length:Nat):Int):=by rw[hn];simp
 unfold fB iI
 rw[e1,HT.mL,HT.mL,h]
 have l1:(a++ (b++c)).length=a.length+ (b.length+c.length):=by simp
 rw[l1]
 have m1:min a.length (a.length+ (b.length+c.length))=a.length:=by omega
 have m2:min (a.length+b.length) (a.length+ (b.length+c.length))=a.length+b.length:=by omega
 rw[m1,m2,List.drop_left,show a.length+b.length - a.length=b.length by omega,List.take_left]
theorem qY{k:Str}{v:V}{r:List (Str×V)}:((k,v)::r).lookup k=some v:=by simp[List.lookup]
theorem gT{k j:Str}{v:V}{r:List (Str×V)}(h: ¬k=j):((j,v)::r).lookup k=r.lookup k:=by
 have:(k==j)=false:=by simpa using h
 simp[List.lookup,this]
theorem ak0{k:Str}{v w:V}{r:List (Str×V)}:cA k v ((k,w)::r)=(k,v)::r:=by simp[cA]
theorem jA{k j:Str}{v w:V}{r:List (Str×V)}(h: ¬j=k):cA k v ((j,w)::r)=(j,w)::cA k v r:=by simp[cA,h]
end L2.B
namespace L2.B
end L2.B
namespace L2.B
end L2.B
namespace L2.B
open PySem PySem.Spec PyProof.Rows
theorem fJ{K:PySem.W.Frag}{sd:Addr→List (Key×V)→Prop}{H:Hp}{a:Addr}{xs:List V}{i:Int}{v:V}{Q:VK}(h:H a=some (.lst xs))(e:dW xs i=some v)(q:Q v H):kY K sd (.ref a) (.int i) H Q:=
 .inl ⟨_,_,_,_,rfl,rfl,aP.of h,e,q⟩
def pk:Sp:=fun vs H Q E=> ∃(a:Addr) (xs:List Int) (most:Int),vs=[.ref a, .int most]∧H a=some (.lst (xs.map V.int))∧qT xs∧Q (.int (c_ xs most)) H
theorem ak1{K:PySem.W.Frag}(vs:List V)(H:Hp)(Q:VK)(E:XK)(h:pk vs H Q E):aw (aW K [] [] (E:=E)) BC {nx:=fun _ H'=>Q .az H',rt:=Q} (start BB vs) H:=by
 obtain⟨a,xs,most,rfl,ha,hr,q⟩:=h
 have hc:=Dg xs most
 refine⟨_,rfl, .inl ⟨_,aP.of ha, ?_⟩⟩
 rw[List.length_map]
 refine⟨fun m σ H'=> ∃(lo hi:Nat) (w:Option V),m=hi - lo∧σ=[some (.ref a),some (.int most),some (.int lo),some (.int hi),w]∧lo≤c_ xs most∧c_ xs most≤hi∧hi≤xs.length∧H'=H,
  ⟨_,0,xs.length,none,rfl,rfl,Nat.zero_le _,hc,Nat.le_refl _,rfl⟩, ?_⟩
 rintro m σ H' ⟨lo,hi,w,rfl,rfl,h1,h2,h3,rfl⟩
 refine⟨_,rfl,_,rfl,trivial,_,rfl, ?_⟩
 refine eE (fun h=> ?_) (fun h=> ?_)
 ·have bG:(lo:Int) < (hi:Int):=of_decide_eq_true h
  refine⟨_,fun σ' Sv q=>q, ?_⟩
  refine⟨_,rfl,_,rfl,⟨by decide,by decide⟩, ?_⟩
  have hk:(lo+hi) / 2<xs.length:=by omega
  generalize hkk:(lo+hi) / 2=k at hk
  have hm:((lo:Int)+ (hi:Int)) / 2=(k:Int):=by omega
  show aw _ _ _ [some (V.ref a),some (V.int most),some (V.int lo),some (V.int hi),some (V.int (((lo:Int)+ (hi:Int)) / 2))] _
  rw[hm]
  have gk:xs[k]?=some xs[k]:=List.getElem?_eq_getElem hk
  have ik:dW (xs.map V.int) (k:Int)=some (.int xs[k]):=kO (by rw[List.getElem?_map,gk];rfl)
  refine⟨_,rfl,_,rfl,fJ ha ik ⟨_,rfl,trivial,_,rfl, ?_⟩⟩
  refine eE (fun g=> ?_) (fun g=> ?_)
  ·have hle:xs[k]≤most:=of_decide_eq_true g
   exact⟨_,rfl,hi - (k+1),by omega,k+1,hi,some (V.int k),rfl,rfl,Di hr gk hle,h2,h3,rfl⟩
  ·have hle: ¬xs[k]≤most:=fun z=>g (decide_eq_true z)
   exact⟨_,rfl,k - lo,by omega,lo,k,some (V.int k),rfl,rfl,h1,Sg hr gk hle,by omega,rfl⟩
 ·have hle: ¬(lo:Int) < (hi:Int):=fun z=>h (decide_eq_true z)
  have e:c_ xs most=lo:=by omega
  rw[e] at q
  exact⟨_,rfl,q⟩
theorem ak2{T:Ty}{v:V}{H:Hp}{P Q:Bool→Prop}(h:b_ T v H P)(i: ∀b,P b→Q b):b_ T v H Q:=by
 cases v with
 | ref a=>
  unfold b_ at h⊢
  simp only at h⊢
  split at h
  all_goals first | exact i _ h | exact h.elim
 | az=>exact i _ h
 | bl b=>exact i _ h
 | int _=>exact i _ h
 | str _=>exact i _ h
 | _=>exact False.elim h
theorem ak3{T:Ty}{v:V}{H H':Hp}{P:Bool→Prop}(h:b_ T v H P)(s:aE H H'):b_ T v H' P:=by
 cases v with
 | ref a=>
  unfold b_ at h⊢
  simp only at h⊢
  cases e:H a with
  | none=>rw[e] at h;exact h.elim
  | some o=>rw[e] at h;rw[s _ _ e];exact h
 | az=>exact h
 | bl b=>exact h
 | int _=>exact h
 | str _=>exact h
 | _=>exact False.elim h
def fK(T:Ty)(v:V)(H:Hp):Prop:=b_ T v H fun b=>b=false
theorem fK.same{T:Ty}{v:V}{H H':Hp}(h:fK T v H)(s:aE H H'):fK T v H':=ak3 h s
theorem fK.go{T:Ty}{v:V}{H:Hp}{Q:Bool→Prop}(h:fK T v H)(q:Q false):b_ T v H Q:=ak2 h fun b e=>by rw[e];exact q
def ak4(x:Str):Bool:=x.cps.toList.all fun c=>SG.cps.contains c
theorem Sw{α:Type}(p:α→Bool): ∀l:List α,l.all p=false→(l.takeWhile p).length<l.length
 | [],h=>by cases h
 | c::l,h=>by
  rw[List.takeWhile_cons]
  cases hc:p c with
  | false=>simp
  | true=>
   rw[List.all_cons,hc,Bool.true_and] at h
   have:=Sw p l h
   simp;omega
theorem ak5(x y:Str)(h:(x.cps.toList.all fun c=>y.cps.contains c)=false):Txt.lstripChars x y≠"":=by
 have lt:=Sw _ _ h
 have e0:stripLo y.cps.contains true x=(x.cps.toList.takeWhile y.cps.contains).length:=by
  unfold stripLo
  rw[if_pos rfl]
 have e1: ∀n,stripHi y.cps.contains false x n=x.length:=fun n=>rfl
 intro z
 have z2:=congrArg Str.length z
 have l0:(Str.ofString "").length=0:=rfl
 rw[l0] at z2
 unfold Txt.lstripChars Txt.stripBy stripSame stripped at z2
 rw[e0,e1] at z2
 have hx:x.cps.size=x.cps.toList.length:=by simp
 split at z2
 ·have:x.cps.size=0:=z2
  omega
 ·have z3:(x.cps.extract (x.cps.toList.takeWhile y.cps.contains).length x.cps.size).size=0:=z2
  rw[Array.size_extract,Nat.min_self] at z3
  have z4:x.cps.size - (List.takeWhile (fun c=>y.cps.contains c) x.cps.toList).length=0:=z3
  omega
def jB(v:V)(H:Hp):Prop:=(∃x,v= .str x∧x.length≤1000000∧ak4 x=false)∨fK .str v H
theorem jB.same{v:V}{H H':Hp}(h:jB v H)(s:aE H H'):jB v H':=by
 rcases h with h | h
 ·exact .inl h
 ·exact .inr (h.same s)
def iq(v:V)(H:Hp):Prop:=(∃b,v= .bl b)∨fK .int v H
theorem iq.same{v:V}{H H':Hp}(h:iq v H)(s:aE H H'):iq v H':=by
 rcases h with h | h
 ·exact .inl h
 ·exact .inr (h.same s)
def eT:Sp:=fun vs H Q E=> ∃v,vs=[v]∧((∃i,v= .int i∧Q (.bl true) H)∨(iq v H∧Q (.bl false) H))
theorem Sx{K:PySem.W.Frag}(vs:List V)(H:Hp)(Q:VK)(E:XK)(h:eT vs H Q E):aw (aW K [] [] (E:=E)) Bn (Dn Q) (start Bm vs) H:=by
 obtain⟨v,rfl,⟨i,rfl,q⟩ | ⟨⟨b,rfl⟩ | hn,q⟩⟩:=h
 ·exact⟨_,rfl,rfl,_,rfl,fA ⟨_,rfl,rfl,q⟩⟩
 ·exact⟨_,rfl,rfl,_,rfl,fA ⟨_,rfl,rfl,q⟩⟩
 ·exact⟨_,rfl,rfl,hn.go ⟨_,rfl,jj q⟩⟩
def qZ:Sp:=fun vs H Q E=> ∃v,vs=[v]∧((∃x,v= .str x∧good x∧Q (.bl true) H)∨(jB v H∧Q (.bl false) H))
theorem ak6{K:PySem.W.Frag}(vs:List V)(H:Hp)(Q:VK)(E:XK)(h:qZ vs H Q E):aw (aW K [] gS (E:=E)) wK (Dn Q) (start wJ vs) H:=by
 obtain⟨v,rfl,⟨x,rfl,hx,q⟩ | ⟨⟨x,rfl,hl,hx⟩ | hn,q⟩⟩:=h
 ·exact akL _ _ _ _ ⟨x,rfl,hx,q⟩
 ·refine⟨_,rfl,rfl,_,rfl,fA ⟨_,rfl,rfl,bP hl, ?_⟩⟩
  show Q (.bl (false ^^ decide (V.str (Txt.lstripChars x SG)=V.str ""))) H
  rw[decide_eq_false (fun z=>ak5 x SG hx (by injection z))]
  exact q
 ·exact⟨_,rfl,rfl,hn.go ⟨_,rfl,jj q⟩⟩
abbrev ak7:List (Str×Sp):=[("is_text",qZ)]
def jC(C:Addr):Sp:=fun vs H Q E=> ∃v,vs=[v]∧((∃x,v= .str x∧good x∧Q .az H)∨(jB v H∧E (.ref C) none H))
theorem ak8{K:PySem.W.Frag}{C:Addr}(vs:List V)(H:Hp)(Q:VK)(E:XK)(h:jC C vs H Q E):aw (aW K ak7 [] (et:=[("BadText",C)]) (E:=E)) Bp (Dn Q) (start Bo vs) H:=by
 obtain⟨v,rfl,⟨x,rfl,hx,q⟩ | ⟨hn,q⟩⟩:=h
 ·exact⟨_,rfl,_,rfl, .inl ⟨x,rfl,hx,q⟩⟩
 ·exact⟨_,rfl,_,rfl, .inr ⟨hn,(by show 1≤sizeLine;decide),q⟩⟩
def xy(K:PySem.W.Frag):Sp:=fun vs H Q E=> ∃v p xs,vs=[v, .ref p]∧bq K H p xs∧xs.all dX=true∧((∃w,v= .str w∧Q (.bl (eB (.str w) xs)) H)∨(fK .str v H∧Q (.bl false) H))
theorem ak9{K:PySem.W.Frag}(vs:List V)(H:Hp)(Q:VK)(E:XK)(h:xy K vs H Q E):aw (aW K [] [] (E:=E)) wI (Dn Q) (start wH vs) H:=by
 obtain⟨v,p,xs,rfl,hp,hf,⟨w,rfl,q⟩ | ⟨hn,q⟩⟩:=h
 ·exact Dl _ _ _ _ ⟨w,p,xs,rfl,hp,hf,q⟩
 ·exact⟨_,rfl,rfl,hn.go ⟨_,rfl,jj q⟩⟩
def kc(v:V)(H:Hp):Prop:=fK .tuple v H∨ ∃a xs,v= .ref a∧H a=some (.tup xs)∧xs.length≤1000000∧(xs.length≠2∨ ∃w t,xs=[w,t]∧
 (fK .str w H∨(∃s,w= .str s∧s≠"keep"∧s≠"cut"∧s≠"put")∨(w= .str "keep"∧(iq t H∨ ∃n,t= .int n∧n<1))∨((w= .str "cut"∨w= .str "put")∧(jB t H∨t= .str ""))))
theorem kc.same{v:V}{H H':Hp}(h:kc v H)(s:aE H H'):kc v H':=by
 rcases h with h | ⟨a,xs,rfl,ha,hl,h⟩
 ·exact .inl (h.same s)
 ·refine .inr ⟨a,xs,rfl,s _ _ ha,hl, ?_⟩
  rcases h with h | ⟨w,t,rfl,h⟩
  ·exact .inl h
  ·refine .inr ⟨w,t,rfl, ?_⟩
   rcases h with h | h | ⟨h,h2⟩ | ⟨h,h2⟩
   ·exact .inl (h.same s)
   ·exact .inr (.inl h)
   ·refine .inr (.inr (.inl ⟨h, ?_⟩))
    rcases h2 with h2 | h2
    ·exact .inl (h2.same s)
    ·exact .inr h2
   ·refine .inr (.inr (.inr ⟨h, ?_⟩))
    rcases h2 with h2 | h2
    ·exact .inl (h2.same s)
    ·exact .inr h2
abbrev xB(K:PySem.W.Frag):List (Str×Sp):=[("is_word",xy K),("is_whole",eT),("is_text",qZ)]
def tX:Sp:=fun vs H Q E=> ∃v,vs=[v]∧((∃p,iR H v p∧cL p∧ ∀H',aE H H'→Q (.bl true) H')∨(kc v H∧ ∀H',aE H H'→Q (.bl false) H'))
theorem Sy(s t:Str):eB (.str s) [.str t]=(t==s):=by
 unfold eB
 show(dY (.str t) (.str s) || false)=_
 rw[Bool.or_false];rfl
theorem ak_{K:PySem.W.Frag}(vs:List V)(H:Hp)(Q:VK)(E:XK)(h:tX vs H Q E):aw (aW K (xB K) [] (E:=E)) tD (Dn Q) (start tw vs) H:=by
 have two: ∀(a:Addr) (w t:V) (Q1:VK) (H1:Hp) (σ:St),σ[0]?=some (some (.ref a))→H1 a=some (.tup [w,t])→
   (∀(tt:Addr) H2,aE H1 H2→ ∀b:Bool,(b=true→w= .str "cut"∨w= .str "put")→(b=false→w≠ .str "cut"∧w≠ .str "put")→Q1 (.bl b) H2)→(fK .str w H1∨ ∃s,w= .str s)→
   ak (aW K (xB K) [] (E:=E)) (.call 0 [(.ix (.v 0) (.c (.int 0))),(.tup [(.c (.str "cut")),(.c (.str "put"))])]) σ H1 Q1:=by
  intro a w t Q1 H1 σ h0 ha q hw
  refine⟨_,h0, .inr (.inl ⟨_,_,_,_,rfl,rfl,bq.of ha,rfl,(by show 2≤sizeLine;decide),fun t ht=> ?_⟩)⟩
  have s2:=sameNew (o:= .tup [V.str "cut",V.str "put"]) ht
  refine⟨w,t,_,rfl,bq.of aO,rfl, ?_⟩
  rcases hw with hw | ⟨s,rfl⟩
  ·refine .inr ⟨hw.same s2,q t _ s2 false (fun z=>by cases z) fun _=> ⟨?_, ?_⟩⟩
   ·rintro rfl;cases (show true=false from hw)
   ·rintro rfl;cases (show true=false from hw)
  ·refine .inl ⟨s,rfl,q t _ s2 _ (fun z=> ?_) fun z=> ?_⟩
   ·have z':((Str.ofString "cut"==s) || ((Str.ofString "put"==s) || false))=true:=z
    simp only[Bool.or_false,Bool.or_eq_true,beq_iff_eq] at z'
    rcases z' with z' | z'<;>subst z'
    ·exact .inl rfl
    ·exact .inr rfl
   ·have z':((Str.ofString "cut"==s) || ((Str.ofString "put"==s) || false))=false:=z
    simp only[Bool.or_false,Bool.or_eq_false_iff,beq_eq_false_iff_ne] at z'
    exact⟨fun y=>z'.1 (by injection y with y;exact y.symm),fun y=>z'.2 (by injection y with y;exact y.symm)⟩
 obtain⟨v,rfl,⟨p,⟨a,rfl,ha⟩,hp,q⟩ | ⟨hn | ⟨a,xs,rfl,ha,hl,hb⟩,q⟩⟩:=h
 ·refine⟨_,rfl,rfl,pj ha ⟨_,rfl, .inr ⟨_,bq.of ha,_,rfl, ?_⟩⟩⟩
  refine⟨_,rfl, .inr (.inl ⟨_,_,_,_,rfl,rfl,bq.of ha,rfl,(by show 1≤sizeLine;decide),fun t1 Du=> ?_⟩)⟩
  have s1:=sameNew (o:= .tup [V.str "keep"]) Du
  refine⟨.str p.word,t1,[.str "keep"],rfl,bq.of aO,rfl, .inl ⟨p.word,rfl, ?_⟩⟩
  have iu:=s1 _ _ ha
  generalize upd H t1 (.tup [V.str "keep"])=H1 at s1 iu
  have fin: ∀(s:Str),good s→s≠""→H1 a=some (.tup [.str p.word, .str s])→p.word="put"∨p.word="cut"→aw (aW K (xB K) [] (E:=E)) (tD.drop 2) (Dn Q) (start tw [.ref a]) H1:=by
   intro s gs ns hs hw
   refine two a (.str p.word) (.str s) _ H1 _ rfl hs (fun tt H2 s2 b q8 xD=> ?_) (.inr ⟨_,rfl⟩)
   have eb:b=true:=by
    cases b with
    | true=>rfl
    | false=>
     obtain⟨z1,z2⟩:=xD rfl
     rcases hw with z | z
     ·exact absurd (congrArg V.str z) z2
     ·exact absurd (congrArg V.str z) z1
   subst eb
   have xG:=s2 _ _ hs
   refine⟨_,rfl,fA ⟨_,rfl, .inr (.inl ⟨_,_,_,_,rfl,rfl,bq.of xG,rfl, .str s,rfl, .inl ⟨s,rfl,gs,_,rfl, ?_⟩⟩)⟩⟩
   refine fA ⟨_,rfl, .inr (.inl ⟨_,_,_,_,rfl,rfl,bq.of xG,rfl, ?_⟩)⟩
   show Q (.bl (true ^^ decide (V.str s=V.str ""))) _
   rw[decide_eq_false (fun z=>ns (by injection z))]
   exact q _ (s1.trans s2)
  cases p with
  | keep n=>
   rw[show eB (.str (Pt.keep n).word) [.str "keep"]=true by show eB (.str "keep") [.str "keep"]=true;decide]
   refine⟨_,rfl, .inr (.inl ⟨_,_,_,_,rfl,rfl,bq.of iu,rfl, .int n,rfl, .inl ⟨n,rfl,_,rfl, ?_⟩⟩)⟩
   refine fA ⟨_,rfl, .inr (.inl ⟨_,_,_,_,rfl,rfl,bq.of iu,rfl,trivial, ?_⟩)⟩
   show Q (.bl (decide (1≤n))) H1
   rw[decide_eq_true (show(1:Int)≤n from hp)]
   exact q _ s1
  | put s=>
   rw[show eB (.str (Pt.put s).word) [.str "keep"]=false by show eB (.str "put") [.str "keep"]=false;decide]
   exact fin s hp.1 hp.2 iu (.inl rfl)
  | cut s=>
   rw[show eB (.str (Pt.cut s).word) [.str "keep"]=false by show eB (.str "cut") [.str "keep"]=false;decide]
   exact fin s hp.1 hp.2 iu (.inr rfl)
 ·exact⟨_,rfl,rfl,hn.go (q _ (aE.refl _))⟩
 ·refine⟨_,rfl,rfl,pj ha ⟨_,rfl, .inr ⟨_,bq.of ha,_,rfl, ?_⟩⟩⟩
  show if (true ^^ decide (V.int (xs.length:Int)=V.int 2))=true then _ else _
  rcases hb with hb | ⟨w,t,rfl,hb⟩
  ·rw[decide_eq_false (fun z=>hb (by injection z with z;omega))]
   exact q _ (aE.refl _)
  ·refine⟨_,rfl, .inr (.inl ⟨_,_,_,_,rfl,rfl,bq.of ha,rfl,(by show 1≤sizeLine;decide),fun t1 Du=> ?_⟩)⟩
   have s1:=sameNew (o:= .tup [V.str "keep"]) Du
   refine⟨w,t1,[.str "keep"],rfl,bq.of aO,rfl, ?_⟩
   have iu:=s1 _ _ ha
   generalize upd H t1 (.tup [V.str "keep"])=H1 at s1 iu
   have no:(fK .str w H1∨ ∃s,w= .str s)→w≠ .str "cut"→w≠ .str "put"→aw (aW K (xB K) [] (E:=E)) (tD.drop 2) (Dn Q) (start tw [.ref a]) H1:=by
    intro hw n1 n2
    refine two a w t _ H1 _ rfl iu (fun tt H2 s2 b q8 xD=> ?_) hw
    have eb:b=false:=by
     cases b with
     | false=>rfl
     | true=>rcases q8 rfl with z | z;exact absurd z n1;exact absurd z n2
    subst eb
    exact⟨_,rfl,jj (q _ (s1.trans s2))⟩
   rcases hb with hb | ⟨s,rfl,n0,n1,n2⟩ | ⟨rfl,hb⟩ | ⟨hw,hb⟩
   ·refine .inr ⟨hb.same s1,no (.inl (hb.same s1)) ?_ ?_⟩
    ·rintro rfl;cases (show true=false from hb)
    ·rintro rfl;cases (show true=false from hb)
   ·refine .inl ⟨s,rfl, ?_⟩
    rw[Sy,beq_eq_false_iff_ne.mpr (Ne.symm n0)]
    exact no (.inr ⟨s,rfl⟩) (fun z=>n1 (by injection z)) (fun z=>n2 (by injection z))
   ·refine .inl ⟨_,rfl, ?_⟩
    rw[show eB (.str "keep") [.str "keep"]=true by decide]
    refine⟨_,rfl, .inr (.inl ⟨_,_,_,_,rfl,rfl,bq.of iu,rfl,t,rfl, ?_⟩)⟩
    rcases hb with hb | ⟨n,rfl,hn⟩
    ·exact .inr ⟨hb.same s1,_,rfl,jj (q _ s1)⟩
    ·refine .inl ⟨n,rfl,_,rfl,fA ⟨_,rfl, .inr (.inl ⟨_,_,_,_,rfl,rfl,bq.of iu,rfl,trivial, ?_⟩)⟩⟩
     show Q (.bl (decide (1≤n))) H1
     rw[decide_eq_false (by omega)]
     exact q _ s1
   ·have hws: ∃s,w= .str s∧(Str.ofString "keep"==s)=false:=by
     rcases hw with rfl | rfl
     ·exact⟨_,rfl,by decide⟩
     ·exact⟨_,rfl,by decide⟩
    obtain⟨s,rfl,hk⟩:=hws
    refine .inl ⟨s,rfl, ?_⟩
    rw[Sy,hk]
    refine two a (.str s) t _ H1 _ rfl iu (fun tt H2 s2 b q8 xD=> ?_) (.inr ⟨s,rfl⟩)
    have eb:b=true:=by
     cases b with
     | true=>rfl
     | false=>
      obtain⟨z1,z2⟩:=xD rfl
      rcases hw with z | z
      ·exact absurd z z1
      ·exact absurd z z2
    subst eb
    have Sz:=s2 _ _ iu
    refine⟨_,rfl,fA ⟨_,rfl, .inr (.inl ⟨_,_,_,_,rfl,rfl,bq.of Sz,rfl,t,rfl, ?_⟩)⟩⟩
    rcases hb with hb | rfl
    ·exact .inr ⟨hb.same (s1.trans s2),_,rfl,jj (q _ (s1.trans s2))⟩
    ·refine .inl ⟨_,rfl,⟨by decide,fun c hc=>by cases hc⟩,_,rfl,fA ⟨_,rfl, .inr (.inl ⟨_,_,_,_,rfl,rfl,bq.of Sz,rfl, ?_⟩)⟩⟩
     exact q _ (s1.trans s2)
theorem alb{vs:List V}{H:Hp}{Q:VK}{E:XK}(h:Dm vs H Q E):tX vs H Q E:=by
 obtain⟨v,p,rfl,hp,ho,q⟩:=h
 exact⟨_,rfl, .inl ⟨p,hp,ho,q⟩⟩
def xH(H:Hp)(xs:List V):Prop:= ∃pre x post ps,xs=pre++x::post∧bS H pre ps∧(∀p∈ps,cL p)∧chainOk "" ps=true∧
 (kc x H∨ ∃p,iR H x p∧cL p∧ej p.word (gQ "" ps ps.length)=false)
def eU(v:V)(H:Hp):Prop:=fK .list v H∨ ∃a xs,v= .ref a∧H a=some (.lst xs)∧xH H xs
theorem xH.same{H H':Hp}{xs:List V}(h:xH H xs)(s:aE H H'):xH H' xs:=by
 obtain⟨pre,x,post,ps,e,h1,h2,h3,h4⟩:=h
 refine⟨pre,x,post,ps,e,h1.mono (bz s),h2,h3, ?_⟩
 rcases h4 with h4 | ⟨p,a,b,c⟩
 ·exact .inl (h4.same s)
 ·exact .inr ⟨p,a.mono (bz s),b,c⟩
theorem eU.same{v:V}{H H':Hp}(h:eU v H)(s:aE H H'):eU v H':=by
 rcases h with h | ⟨a,xs,e,h1,h2⟩
 ·exact .inl (fK.same h s)
 ·exact .inr ⟨a,xs,e,s _ _ h1,h2.same s⟩
abbrev alc:List (Str×Sp):=[("is_part",tX),("may_follow",qU)]
def tY(C:Addr):Sp:=fun vs H Q E=> ∃v,vs=[v]∧eU v H∧ ∀H',aE H H'→E (.ref C) none H'
theorem ald{K:PySem.W.Frag}{C:Addr}(vs:List V)(H:Hp)(Q:VK)(E:XK)(h:tY C vs H Q E):aw (aW K alc [] (et:=[("BadChange",C)]) (E:=E)) tE (Dn Q) (start wL vs) H:=by
 obtain⟨v,rfl,hn | ⟨a,xs,rfl,ha,pre,x,post,ps,rfl,cE,aN,dz,ale⟩,q⟩:=h
 ·exact⟨_,rfl,rfl,hn.go ⟨(by show 1≤sizeLine;decide),q _ (aE.refl _)⟩⟩
 ·have hlen:=Paired.length cE
  refine⟨_,rfl,rfl,tV ha ⟨_,rfl,a,rfl,⟨_,aP.of ha⟩,mG (K:=K) (a:=a) (xs:=pre++x::post) (fun i σ H2=>i≤pre.length∧ ∃v,σ=[some (.ref a),some (.str (gQ "" ps i)),v]∧aE H H2) ⟨Nat.zero_le _,none,rfl,aE.refl _⟩
   (fun i σ H2 _ ⟨_,_,_,s2⟩=>aP.of (s2 _ _ ha)) ?_ ?_⟩⟩
  ·rintro i y σ H2 hi ⟨hle,v,rfl,s2⟩
   by_cases bG:i<pre.length
   ·have gd:pre[i]?=some y:=by rw[List.getElem?_append_left bG] at hi;exact hi
    obtain⟨p,hp,gR⟩:=cE.get gd
    obtain⟨b,rfl,hb⟩:=gR.mono (bz s2)
    refine⟨_,rfl,_,rfl, .inl ⟨p,⟨b,rfl,hb⟩,aN p (List.mem_of_getElem? hp),fun H3 s3=> ?_⟩⟩
    refine⟨_,rfl, .inr (.inl ⟨_,_,_,_,rfl,rfl,bq.of (s3 _ _ hb),rfl,_,rfl,p.word,_,rfl, ?_⟩)⟩
    have e:=Dp ps "" i p dz hp
    show(fun c H1=>if (!c)=true then _ else _) (ej p.word (gQ "" ps i)) H3
    rw[e]
    refine⟨_,rfl, .inr (.inl ⟨_,_,_,_,rfl,rfl,bq.of (s3 _ _ hb),rfl,bG,some (.ref b), ?_,s2.trans s3⟩)⟩
    show[some (V.ref a),some (V.str p.word),some (V.ref b)]=_
    have e2:gQ "" ps (i+1)=p.word:=by simp only[gQ,hp]
    rw[e2]
   ·have tW:i=pre.length:=by omega
    subst tW
    have ey:y=x:=by
     rw[List.getElem?_append_right (Nat.le_refl _),Nat.sub_self] at hi
     simpa using hi.symm
    subst ey
    rcases ale with hb | ⟨p,⟨b,rfl,hb⟩,ho,hf⟩
    ·exact⟨_,rfl,_,rfl, .inr ⟨hb.same s2,fun H3 s3=> ⟨(by show 1≤sizeLine;decide),q _ (s2.trans s3)⟩⟩⟩
    ·refine⟨_,rfl,_,rfl, .inl ⟨p,⟨b,rfl,s2 _ _ hb⟩,ho,fun H3 s3=> ?_⟩⟩
     refine⟨_,rfl, .inr (.inl ⟨_,_,_,_,rfl,rfl,bq.of (s3 _ _ (s2 _ _ hb)),rfl,_,rfl,p.word,_,rfl, ?_⟩)⟩
     show(fun c H1=>if (!c)=true then _ else _) (ej p.word (gQ "" ps pre.length)) H3
     rw[hlen,hf]
     exact⟨(by show 1≤sizeLine;decide),q _ (s2.trans s3)⟩
  ·rintro σ H2 ⟨hle,_⟩
   simp at hle
   omega
def q9(C:Addr):Sp:=tY C
theorem alf{K:PySem.W.Frag}{C:Addr}(vs:List V)(H:Hp)(Q:VK)(E:XK)(h:q9 C vs H Q E):aw (aW K [("need_change",tY C),("part_size",d5)] [] (E:=E)) tF (Dn Q) (start wM vs) H:=by
 obtain⟨v,rfl,hn,q⟩:=h
 exact⟨_,rfl,v,rfl,hn,q⟩
theorem SA: ∀(ps:List Pt),(∀p∈ps,cL p)→0≤ (overOf ps).sum
 | [],_=>Int.le_refl _
 | p::ps,h=>by
  have ih:=SA ps fun q hq=>h q (.tail _ hq)
  have hp:=h p (.head _)
  cases p with
  | keep n=>
   have e:overOf (.keep n::ps)=n::overOf ps:=rfl
   rw[e,List.sum_cons]
   have:(1:Int)≤n:=hp
   omega
  | put s=>exact ih
  | cut s=>
   have e:overOf (.cut s::ps)=(s.length:Int)::overOf ps:=rfl
   rw[e,List.sum_cons]
   omega
def cB(a b:Sp):Sp:=fun vs H Q E=>a vs H Q E∨b vs H Q E
end L2.B
namespace L2
open PySem PySem.Spec PyProof.Rows
section
variable {Γ:aC} {D:Ends} {σ:St} {H:Hp} {r:List RS} {Q:VK} {QA:List V→Hp→Prop} {QT:Bool→Hp→Prop}
theorem ag{i:Nat}{v:V}(h:σ[i]?=some (some v))(q:Q v H):ak Γ (.v i) σ H Q:=⟨_,h,q⟩
theorem ao{v:V}(q:Q v H):ak Γ (.c v) σ H Q:=q
theorem Dv{j:Nat}(q:Q (Γ.gv j) H):ak Γ (.g j) σ H Q:=q
theorem aM{op:Operator}{a b:RE}(h:ak Γ a σ H fun x H1=>ak Γ b σ H1 fun y H2=>mT Γ.K op x y H2 Q):ak Γ (.bin op a b) σ H Q:=h
theorem kd{op:CmpOp}{a b:RE}(h:ak Γ a σ H fun x H1=>ak Γ b σ H1 fun y H2=>cC Γ.K op x y H2 Q):ak Γ (.cmp op a b) σ H Q:=h
theorem ba{a b:RE}(h:ak Γ a σ H fun x H1=>ak Γ b σ H1 fun y H2=>kY Γ.K Γ.sd x y H2 Q):ak Γ (.ix a b) σ H Q:=h
theorem alg{j:Nat}{as:List RE}(h:bI Γ as σ H fun vs H1=>Γ.fs j (vs++ []) H1 Q Γ.E):ak Γ (.call j as) σ H Q:=h
theorem bA{j:Nat}{as:List RE}(sp:Sp)(hs:Γ.fs j=sp)(h:bI Γ as σ H fun vs H1=>sp vs H1 Q Γ.E):ak Γ (.call j as) σ H Q:=by
 subst hs
 refine alg ?_
 have e:(fun(vs:List V) (H1:Hp)=>Γ.fs j (vs++ []) H1 Q Γ.E)=fun vs H1=>Γ.fs j vs H1 Q Γ.E:=by
  funext vs H1;rw[List.append_nil]
 rw[e];exact h
theorem pq{b:jX}{as:List RE}(h:bI Γ as σ H fun vs H1=>mV Γ.K b vs H1 Q):ak Γ (.blt b as) σ H Q:=h
theorem dM{as:List RE}(h:bI Γ as σ H fun xs H1=>xs.length≤sizeLine∧ ∀p,H1 p=none→Q (.ref p) (upd H1 p (.tup xs))):ak Γ (.tup as) σ H Q:=h
theorem cH{as:List RE}(h:bI Γ as σ H fun xs H1=>xs.length≤sizeLine∧ ∀p,H1 p=none→Q (.ref p) (upd H1 p (.lst xs))):ak Γ (.lst as) σ H Q:=h
theorem alh{a c:RE}(h:ak Γ a σ H fun x H1=>ak Γ c σ H1 fun y H2=>jm Γ.K [x,y] H2 Q):ak Γ (.de a c) σ H Q:=h
theorem SD{a c:RE}(h:ak Γ a σ H fun x H1=>ak Γ c σ H1 fun y H2=>jm Γ.K [x,y] H2 fun z H3=>iL Γ.K z H3 fun b=>QT b H3):bH Γ (.de a c) σ H QT:=h
theorem aG(q:QA [] H):bI Γ [] σ H QA:=q
theorem au{a:RE}{as:List RE}(h:ak Γ a σ H fun x H1=>bI Γ as σ H1 fun xs H2=>QA (x::xs) H2):bI Γ (a::as) σ H QA:=h
theorem aZ{i:Nat}{e:RE}(h:ak Γ e σ H fun x H1=>aw Γ r D (σ.set i (some x)) H1):aw Γ (.asg i e::r) D σ H:=h
theorem lQ{e:RE}(h:ak Γ e σ H fun _ H1=>aw Γ r D σ H1):aw Γ (.drop e::r) D σ H:=h
theorem bY{e:RE}(h:ak Γ e σ H D.rt):aw Γ (.ret e::r) D σ H:=h
end
end L2
namespace L2.B
open PySem PySem.Spec PyProof.Rows
structure eI (K:PySem.W.Frag) (cs:List Addr) (bB:Addr) (D:Addr) (j:Nat):Prop where
 cls:sD K D
 SE: ∀i c,cs[i]?=some c→kitOne K (.ref D) (.ref c)=some (decide (i=j))
 bB:kitOne K (.ref D) (.ref bB)=some true
 val:kitOne K (.ref D) (.type "ValueError")=some true
theorem _root_.L2.ExcAt.same{H H':Hp}{ea D:Addr}(h:ExcAt H ea D)(s:aE H H'):ExcAt H' ea D:=ExcAt.keeps h fun b o u e=>s b _ e
theorem Paired.app{α β:Type}{R:α→β→Prop}: ∀{xs mZ:List α} {ys gj:List β},Paired R xs ys→Paired R mZ gj→Paired R (xs++mZ) (ys++gj)
 | _,_,_,_, .nil,s=>s
 | _,_,_,_, .cons r t,s=> .cons r (Paired.app t s)
section
variable {Γ:aC} {cs:List Addr} {bB ea D:Addr} {j:Nat}
end
theorem ali{Γ:aC}{i g:Nat}{ea D C:Addr}{b:Bool}{σ:St}{H:Hp}{Q:Bool→Hp→Prop}(h0:σ[i]?=some (some (.ref ea)))(he:ExcAt H ea D)(hc:sD Γ.K D)(hg:Γ.gv g= .ref C)(hk:kitOne Γ.K (.ref D) (.ref C)=some b)(q:Q b H):bH Γ (.de (.v i) (.g g)) σ H Q:=by
 have key: ∀k:VK,jm Γ.K [.ref ea, .ref C] H k→jm Γ.K [.ref ea,Γ.gv g] H k:=by
  intro k;rw[hg];exact id
 exact SD (ag h0 (Dv (key _ ⟨D,b,he,hc, .inl ⟨_,rfl⟩,hk,q⟩)))
theorem alj{Γ:aC}{i:Nat}{ea D:Addr}{n:String}{b:Bool}{σ:St}{H:Hp}{Q:Bool→Hp→Prop}(h0:σ[i]?=some (some (.ref ea)))(he:ExcAt H ea D)(hc:sD Γ.K D)(hk:kitOne Γ.K (.ref D) (.type n)=some b)(q:Q b H):bH Γ (.de (.v i) (.c (.ty n))) σ H Q:=
 SD (ag h0 (ao ⟨D,b,he,hc, .inr ⟨_,rfl⟩,hk,q⟩))
theorem SF{H:Hp}{a:Addr}{xs:List (Key×V)}{T:Ty}{k:Bool→Prop}(h:H a=some (.dK xs))(q:k (T== .dict)):b_ T (.ref a) H k:=by
 show(match H a with | some (.lst _)=>k (T== .list) | some (.bV _ (.lst _))=>k (T== .list) | some (.tup _)=>k (T== .tuple) | some (.dK _)=>k (T== .dict) | some (.dT _)=>k (T== .dict) | _=>False)
 rw[h];exact q
theorem Run.good{l r:List Nat}{ps:List Pt}(h:Run l ps r)(hl: ∀c∈l,SG.cps.contains c=true)(hp: ∀p∈ps,eS p): ∀c∈r,SG.cps.contains c=true:=by
 induction h with
 | nil=>exact hl
 | keep e _ ih=>
  intro c hc
  rcases List.mem_append.mp hc with z | z
  ·exact hl c (List.mem_append.mpr (.inl z))
  ·exact ih (fun d hd=>hl d (List.mem_append.mpr (.inr hd))) (fun p h=>hp p (.tail _ h)) c z
 | put _ ih=>
  intro c hc
  rcases List.mem_append.mp hc with z | z
  ·exact(hp _ (.head _):sg _) c z
  ·exact ih hl (fun p h=>hp p (.tail _ h)) c z
 | cut _ ih=>exact ih (fun d hd=>hl d (List.mem_append.mpr (.inr hd))) (fun p h=>hp p (.tail _ h))
theorem SH{x:Str}(k:Nat)(n:Int)(m:Nat)(hn:n=m):fB x (some (k:Int)) (some ((k:Int)+n))=⟨((x.cps.toList.drop k).take m).toArray⟩:=by
 have e1:(k:Int)+n=((k+m:Nat):Int):=by rw[hn];simp
 unfold fB iI
 rw[e1,HT.mL,HT.mL]
 congr 1
 by_cases h:k≤x.cps.toList.length
 ·rw[show min k x.cps.toList.length=k by omega]
  by_cases h2:k+m≤x.cps.toList.length
  ·rw[show min (k+m) x.cps.toList.length=k+m by omega,Nat.add_sub_cancel_left]
  ·rw[show min (k+m) x.cps.toList.length=x.cps.toList.length by omega,List.take_of_length_le (by rw[List.length_drop];omega),List.take_of_length_le (by rw[List.length_drop];omega)]
 ·rw[show min k x.cps.toList.length=x.cps.toList.length by omega,List.drop_length,List.drop_of_length_le (by omega),List.take_nil,List.take_nil]
def tZ:Sp:=fun vs H Q E=> ∃x a xs ps r,vs=[.str x, .ref a]∧good x∧H a=some (.lst xs)∧bS H xs ps∧(∀p∈ps,Dk p)∧Run x.cps.toList ps r∧r.length≤1000000∧Q (.str ⟨r.toArray⟩) H
end L2.B
namespace L2
open PySem PySem.Spec PyProof.Rows
theorem af{α:Type _}{p:α→Prop}: ∀x∈ ([]:List α),p x:=fun _ h=>nomatch h
theorem ay{α:Type _}{p:α→Prop}{a:α}{l:List α}(h:p a)(t: ∀x∈l,p x): ∀x∈a::l,p x:=List.forall_mem_cons.2 ⟨h,t⟩
section
variable {P:Program} {w:World} {K:PySem.W.Frag}
end
section
variable {P:Program} {w:World} {K:PySem.W.Frag} {mg:Str→Option Value} {base:Heap} {k:Nat}
theorem ck.or{CX:aK}{f:Addr}{fd:FuncData}{ps:List Str}{a b:Sp}(A:ck P w K mg base CX k f fd ps a)(C:ck P w K mg base CX k f fd ps b):ck P w K mg base CX k f fd ps (B.cB a b):=
 ⟨fun vs H Q E h=>h.elim (A.len vs H Q E) (C.len vs H Q E),fun A' outer s H args us vs Q E hr e0 hb hv hs=>hs.elim (A.run A' outer s H args us vs Q E hr e0 hb hv) (C.run A' outer s H args us vs Q E hr e0 hb hv)⟩
theorem ck.weak{CX:aK}{f:Addr}{fd:FuncData}{ps:List Str}{a b:Sp}(A:ck P w K mg base CX k f fd ps b)(h: ∀vs H Q E,a vs H Q E→b vs H Q E):ck P w K mg base CX k f fd ps a:=
 ⟨fun vs H Q E q=>A.len vs H Q E (h _ _ _ _ q),fun A' outer s H args us vs Q E hr e0 hb hv hs=>A.run A' outer s H args us vs Q E hr e0 hb hv (h _ _ _ _ hs)⟩
theorem bM.weak{x:Str}{a b:Sp}(T:bM P w K mg base k x b)(h: ∀vs H Q E,a vs H Q E→b vs H Q E):bM P w K mg base k x a:=by
 obtain⟨f,fd,ps,F,r⟩:=T
 exact⟨f,fd,ps,F.weak h,r⟩
theorem dI.weak{x:Str}{C:Addr}{a b:Sp}(T:dI P w K mg base k (x,C,b))(h: ∀vs H Q E,a vs H Q E→b vs H Q E):dI P w K mg base k (x,C,a):=by
 obtain⟨c,f,fd,ps,m,F,r⟩:=T
 exact⟨c,f,fd,ps,m,F.weak h,r⟩
open PySem.W in
theorem xI{x:Str}{C:Addr}(X:K.In base)(G:base.Ns mainGlobals mg)(e:nsIn K mainGlobals x=some (some (.ref C)))(q:excIn K C [.type "ValueError", .type "Exception", .type "BaseException", .type "object"] "ValueError.__new__"=true):qD mg base (x,C):=by
 refine⟨_,_,_,_,⟨mg_of X G e, ?_⟩,PySem.F.excBase_ValueError⟩
 unfold excIn at q
 split at q
 ·rename_i dd cd sl ho
  split at q
  ·rename_i C' bm k0 k1 k2 k3 n k5 hm hs
   simp only[Bool.and_eq_true,beq_iff_eq,Bool.not_eq_true'] at q
   obtain⟨⟨⟨⟨⟨rfl,rfl⟩,SI⟩,ht⟩,aN⟩,wm⟩:=q
   obtain⟨nm,bs,mro,ns,qn,hd,sn,sub,ab,col,del⟩:=cd
   dsimp only at hm SI aN wm
   subst hm SI
   obtain⟨sl⟩:=sl
   have xG:sl=_:=hs
   subst xG
   exact⟨bm,ns,nm,qn,bs,hd,sn,sub,ab,col,dd,k0,k1,k2,k3,k5,_,X _ _ ho, .of_isNs (isNs_of_in X aN),nsMap_none_of_in X aN wm,tail_of_in X ht⟩
  ·cases q
 ·cases q
end
namespace B
theorem xJ{K:PySem.W.Frag}{D bB c0 c1 c2 c3 c4 c5 c6 c7 c8 c9 gU gW gX:Addr}{b0 b1 b2 b3 b4 b5 b6 b7 b8 b9 Dw Dx Dy:Bool}{j:Nat}(h:sD K D)(hi:kitOne K (.ref D) (.ref bB)=some true)(hv:kitOne K (.ref D) (.type "ValueError")=some true)
  (k0:kitOne K (.ref D) (.ref c0)=some b0) (k1:kitOne K (.ref D) (.ref c1)=some b1) (k2:kitOne K (.ref D) (.ref c2)=some b2) (k3:kitOne K (.ref D) (.ref c3)=some b3) (k4:kitOne K (.ref D) (.ref c4)=some b4)
  (k5:kitOne K (.ref D) (.ref c5)=some b5) (k6:kitOne K (.ref D) (.ref c6)=some b6) (k7:kitOne K (.ref D) (.ref c7)=some b7) (k8:kitOne K (.ref D) (.ref c8)=some b8) (k9:kitOne K (.ref D) (.ref c9)=some b9)
  (t6:kitOne K (.ref D) (.ref gU)=some Dw) (t9:kitOne K (.ref D) (.ref gW)=some Dx) (lR:kitOne K (.ref D) (.ref gX)=some Dy)
  (e:[b0,b1,b2,b3,b4,b5,b6,b7,b8,b9,Dw,Dx,Dy]=(List.range 13).map fun i=>decide (i=j):=by decide):eI K [c0,c1,c2,c3,c4,c5,c6,c7,c8,c9,gU,gW,gX] bB D j:=by
 refine⟨h,fun i c hc=> ?_,hi,hv⟩
 have gd:i<13:=(List.getElem?_eq_some_iff.mp hc).1
 have eb:=congrArg (fun l=>l[i]?) e
 match i,gd with
 | 0,_=>cases hc;have eb:some b0=some (decide (0=j)):=eb;rw[k0,eb]
 | 1,_=>cases hc;have eb:some b1=some (decide (1=j)):=eb;rw[k1,eb]
 | 2,_=>cases hc;have eb:some b2=some (decide (2=j)):=eb;rw[k2,eb]
 | 3,_=>cases hc;have eb:some b3=some (decide (3=j)):=eb;rw[k3,eb]
 | 4,_=>cases hc;have eb:some b4=some (decide (4=j)):=eb;rw[k4,eb]
 | 5,_=>cases hc;have eb:some b5=some (decide (5=j)):=eb;rw[k5,eb]
 | 6,_=>cases hc;have eb:some b6=some (decide (6=j)):=eb;rw[k6,eb]
 | 7,_=>cases hc;have eb:some b7=some (decide (7=j)):=eb;rw[k7,eb]
 | 8,_=>cases hc;have eb:some b8=some (decide (8=j)):=eb;rw[k8,eb]
 | 9,_=>cases hc;have eb:some b9=some (decide (9=j)):=eb;rw[k9,eb]
 | 10,_=>cases hc;have eb:some Dw=some (decide (10=j)):=eb;rw[t6,eb]
 | 11,_=>cases hc;have eb:some Dx=some (decide (11=j)):=eb;rw[t9,eb]
 | 12,_=>cases hc;have eb:some Dy=some (decide (12=j)):=eb;rw[lR,eb]
end B
end L2
namespace L2.B
end L2.B
namespace L2.B
open PySem PySem.Spec PyProof.Rows
end L2.B
namespace L2.B
end L2.B
namespace L2
open PySem PySem.Spec PyProof.Rows
section
variable {Γ:aC} {D:Ends} {σ:St} {H:Hp} {r:List RS} {Q:VK} {QA:List V→Hp→Prop} {QT:Bool→Hp→Prop}
theorem fi{j:Nat}{m:Str}{o:RE}(C:Addr)(sp:Sp)(hm:Γ.ms j=(C,sp))(h:ak Γ o σ H fun x H1=> ∃a dx fs,x= .ref a∧H1 a=some (.ins C dx fs)∧fs.lookup m=none∧sp [x] H1 Q Γ.E):ak Γ (.cm j m o []) σ H Q:=by
 show mJ (Γ.ms j).1 m (Γ.ms j).2 [] Γ.E (ak Γ o) (bI Γ []) σ H Q
 rw[hm];exact h
theorem fL{j:Nat}{m:Str}{o a:RE}(C:Addr)(sp:Sp)(hm:Γ.ms j=(C,sp))(h:ak Γ o σ H fun x H1=> ∃p dx fs,x= .ref p∧H1 p=some (.ins C dx fs)∧fs.lookup m=none∧ak Γ a σ H1 fun y H2=>sp [x,y] H2 Q Γ.E):ak Γ (.cm j m o [a]) σ H Q:=by
 show mJ (Γ.ms j).1 m (Γ.ms j).2 [] Γ.E (ak Γ o) (bI Γ [a]) σ H Q
 rw[hm];exact h
theorem Dz{c:RE}{body:List RS}(W:Nat→St→Hp→Prop)(h0: ∃m,W m σ H)
  (h: ∀m σ H,W m σ H→bH Γ c σ H fun b H1=>if b=true then ∃N:St→Hp→Prop,(∀σ' H',N σ' H'→ ∃m',m'<m∧W m' σ' H')∧aw Γ body {{D with nx:=aw Γ r D} with nx:=N,ct:=N,bk:=aw Γ r D} σ H1 else aw Γ r D σ H1):aw Γ (.kU c body::r) D σ H:=⟨W,h0,h⟩
theorem bc{c:RE}{t e:List RS}(h:bH Γ c σ H fun b H1=>if b=true then aw Γ t {D with nx:=aw Γ r D} σ H1 else aw Γ e {D with nx:=aw Γ r D} σ H1):aw Γ (.ite c t e::r) D σ H:=h
theorem bf{op:CmpOp}{a b:RE}(h:ak Γ a σ H fun x H1=>ak Γ b σ H1 fun y H2=>cC Γ.K op x y H2 fun z H3=> ∃k,z= .bl k∧QT k H3):bH Γ (.cmp op a b) σ H QT:=h
theorem dN{o:RE}{f:Str}(h:ak Γ o σ H fun x H1=> ∃a C dx fs v,x= .ref a∧H1 a=some (.ins C dx fs)∧fu Γ.K C∧f_ Γ.K C f∧fs.lookup f=some v∧Q v H1):ak Γ (.fld o f) σ H Q:=h
theorem ke{m:iK}{o a:RE}(h:ak Γ o σ H fun x H1=>sf Γ.K (wa m) x H1∧ak Γ a σ H1 fun y H2=>sJ Γ.K m x [y] H2 Q):ak Γ (.cx m o [a]) σ H Q:=h
theorem dO{K:PySem.W.Frag}{x y:Str}{Q:VK}(q:Q (.bl (x==y)) H):cC K .Eq (.str x) (.str y) H Q:=by
 show Q (.bl (false ^^ decide (V.str x=V.str y))) H
 rw[Bool.false_xor,iC];exact q
theorem jD{K:PySem.W.Frag}{x y:Str}{Q:VK}(q:Q (.bl (x !=y)) H):cC K .NotEq (.str x) (.str y) H Q:=by
 show Q (.bl (true ^^ decide (V.str x=V.str y))) H
 rw[Bool.true_xor,iC];exact q
end
end L2
namespace L2.B
open PySem PySem.Spec PyProof.Rows
def eV(v:V)(lo hi:Int)(H:Hp):Prop:=iq v H∨ ∃i,v= .int i∧(i<lo∨hi<i)
def cp:Sp:=fun vs H Q E=> ∃(v:V) (lo hi:Int),vs=[v, .int lo, .int hi]∧((∃i,v= .int i∧lo≤i∧i≤hi∧Q (.bl true) H)∨(eV v lo hi H∧Q (.bl false) H))
theorem alk{K:PySem.W.Frag}(vs:List V)(H:Hp)(Q:VK)(E:XK)(h:cp vs H Q E):aw (aW K [("is_whole",eT)] [] (E:=E)) Bz (Dn Q) (start By vs) H:=by
 have chain: ∀(i lo hi:Int) (b:Bool) (H:Hp),decide (lo≤i∧i≤hi)=b→Q (.bl b) H→ak (aW K [("is_whole",eT)] [] (E:=E)) (.jn .LtE .LtE (.v 1) (.v 0) (.v 2)) [some (.int i),some (.int lo),some (.int hi)] H Q:=by
  intro i lo hi b H hb q
  refine⟨_,rfl,_,rfl,trivial,_,rfl, ?_⟩
  refine eE (fun h1=> ?_) (fun h1=> ?_)
  ·refine⟨_,rfl,trivial, ?_⟩
   have t_:lo≤i:=of_decide_eq_true h1
   have e:decide (i≤hi)=b:=by rw[←hb];simp[t_]
   show Q (.bl (decide (i≤hi))) H
   rw[e];exact q
  ·have t_: ¬lo≤i:=fun z=>h1 (decide_eq_true z)
   have e:b=false:=by rw[←hb];simp[t_]
   have e2:decide (lo≤i)=false:=decide_eq_false t_
   rw[e] at q
   first
    | exact q
    | (show Q (.bl (decide (lo≤i))) H;rw[e2];exact q)
 obtain⟨v,lo,hi,rfl,⟨i,rfl,h1,h2,q⟩ | ⟨hn | ⟨i,rfl,hb⟩,q⟩⟩:=h
 ·exact⟨_,rfl,_,rfl, .inl ⟨i,rfl,_,rfl,fA (chain i lo hi true H (by simp[h1,h2]) q)⟩⟩
 ·exact⟨_,rfl,_,rfl, .inr ⟨hn,_,rfl,jj q⟩⟩
 ·exact⟨_,rfl,_,rfl, .inl ⟨i,rfl,_,rfl,fA (chain i lo hi false H (by rw[decide_eq_false];rintro⟨a,b⟩;omega) q)⟩⟩
def dP(lt lb lf:Addr)(n:Int):List (Str×V):=[("texts", .ref lt),("begins", .ref lb),("feeds", .ref lf),("signs", .int n)]
theorem xM{lt lb lf:Addr}{n:Int}:(dP lt lb lf n).lookup ("texts":Str)=some (V.ref lt):=qY
theorem DA{lt lb lf:Addr}{n:Int}:(dP lt lb lf n).lookup ("begins":Str)=some (V.ref lb):=(gT (by decide+kernel)).trans qY
theorem DB{lt lb lf:Addr}{n:Int}:(dP lt lb lf n).lookup ("feeds":Str)=some (V.ref lf):=(gT (by decide+kernel)).trans ((gT (by decide+kernel)).trans qY)
theorem DC{lt lb lf:Addr}{n:Int}:(dP lt lb lf n).lookup ("signs":Str)=some (V.int n):=(gT (by decide+kernel)).trans ((gT (by decide+kernel)).trans ((gT (by decide+kernel)).trans qY))
theorem q_{lt lb lf:Addr}{n:Int}{m:Str}(h1: ¬m="texts")(h2: ¬m="begins")(h3: ¬m="feeds")(h4: ¬m="signs"):(dP lt lb lf n).lookup m=none:=
 (gT h1).trans ((gT h2).trans ((gT h3).trans ((gT h4).trans rfl)))
theorem alm{lt lb lf:Addr}{n k:Int}:cA "signs" (.int k) (dP lt lb lf n)=dP lt lb lf k:=by
 unfold dP
 rw[jA (by decide+kernel),jA (by decide+kernel),jA (by decide+kernel),ak0]
theorem aln{lt lb lf:Addr}{n:Int}:cA "signs" (.int n) (cA "feeds" (.ref lf) (cA "begins" (.ref lb) (cA "texts" (.ref lt) [])))=dP lt lb lf n:=by
 have e1:cA "texts" (V.ref lt) []=[(("texts":Str),V.ref lt)]:=rfl
 have e2:cA "begins" (V.ref lb) []=[(("begins":Str),V.ref lb)]:=rfl
 have e3:cA "feeds" (V.ref lf) []=[(("feeds":Str),V.ref lf)]:=rfl
 unfold dP
 rw[e1,jA (by decide+kernel),e2,jA (by decide+kernel),jA (by decide+kernel),jA (by decide+kernel),e3,jA (by decide+kernel),jA (by decide+kernel)]
 rfl
def av(ts:List Str):List Nat:=(ts.map fun t=>t.cps.toList).flatten
theorem iU(a b:List Str):av (a++b)=av a++av b:=by simp[av]
theorem lS(t:Str):av [t]=t.cps.toList:=by simp[av]
def di:List Str→Nat→List Int
 | [],_=> []
 | t::r,k=> (k:Int)::di r (k+t.length)
theorem SJ: ∀(a b:List Str) (k:Nat),di (a++b) k=di a k++di b (k+ (av a).length)
 | [],b,k=>by simp[di,av]
 | t::a,b,k=>by
  have ih:=SJ a b (k+t.length)
  have e:k+t.length+ (av a).length=k+ (av (t::a)).length:=by
   simp[av,Str.length];omega
  rw[e] at ih
  simp only[List.cons_append,di,ih]
structure cq (C:Addr) (H:Hp) (p dx lt lb lf:Addr) (ts:List Str):Prop where
 ob:H p=some (.ins C dx (dP lt lb lf (av ts).length))
 tx:H lt=some (.lst (ts.map V.str))
 bg:H lb=some (.lst ((di ts 0).map V.int))
 fd:H lf=some (.lst ((fh 10 (av ts)).map V.int))
 n1:lt≠lb
 n2:lt≠lf
 n3:lb≠lf
def eW(p lt lb lf:Addr)(H H':Hp):Prop:= ∀b o,H b=some o→b≠p→b≠lt→b≠lb→b≠lf→H' b=some o
theorem eW.trans{p lt lb lf:Addr}{H H1 H2:Hp}(a:eW p lt lb lf H H1)(b:eW p lt lb lf H1 H2):eW p lt lb lf H H2:=fun c o e n1 n2 n3 n4=>b c o (a c o e n1 n2 n3 n4) n1 n2 n3 n4
theorem cq.same{C:Addr}{H H':Hp}{p dx lt lb lf:Addr}{ts:List Str}(S:cq C H p dx lt lb lf ts)(s:aE H H'):cq C H' p dx lt lb lf ts:=
 ⟨s _ _ S.ob,s _ _ S.tx,s _ _ S.bg,s _ _ S.fd,S.n1,S.n2,S.n3⟩
def pw(C:Addr):Sp:=fun vs H Q E=> ∃(p dx:Addr),vs=[.ref p]∧H p=some (.ins C dx [])∧ ∀(lt lb lf:Addr) (H':Hp),cq C H' p dx lt lb lf []→H lt=none→H lb=none→H lf=none→(∀b o,H b=some o→b≠p→H' b=some o)→Q .az H'
theorem alo{K:PySem.W.Frag}{C:Addr}(T:nq K C)(vs:List V)(H:Hp)(Q:VK)(E:XK)(h:pw C vs H Q E):aw (aW K [] [] (E:=E)) BE {nx:=fun _ H'=>Q .az H',rt:=Q} (start BD vs) H:=by
 obtain⟨p,dx,rfl,hp,k⟩:=h
 refine⟨Nat.zero_le _,fun lt f1=> ?_⟩
 have lT:p≠lt:=cn hp f1
 refine⟨_,rfl,p,C,dx,[],rfl,(by rw[aV lT];exact hp),T.cl,T.tG,(by show 0<1000;decide), ?_⟩
 refine⟨Nat.zero_le _,fun lb f2=> ?_⟩
 have gY:p≠lb:=fun z=>by rw[←z,aO] at f2;cases f2
 have xO:lt≠lb:=fun z=>by rw[←z,aV lT.symm,aO] at f2;cases f2
 refine⟨_,rfl,p,C,dx,_,rfl,(by rw[aV gY,aO]),T.cl,T.wO,(by show 1<1000;decide), ?_⟩
 refine⟨Nat.zero_le _,fun lf f3=> ?_⟩
 have ua:p≠lf:=fun z=>by rw[←z,aO] at f3;cases f3
 have DD:lb≠lf:=fun z=>by rw[←z,aV gY.symm,aO] at f3;cases f3
 have DE:lt≠lf:=fun z=>by rw[←z,aV lT.symm,aV xO,aV lT.symm,aO] at f3;cases f3
 refine⟨_,rfl,p,C,dx,_,rfl,(by rw[aV ua,aO]),T.cl,T.wQ,(by show 2<1000;decide), ?_⟩
 refine⟨_,rfl,p,C,dx,_,rfl,aO,T.cl,T.tH,(by show 3<1000;decide), ?_⟩
 have fb:H lb=none:=by
  rw[aV gY.symm,aV xO.symm] at f2;exact f2
 have ff:H lf=none:=by
  rw[aV ua.symm,aV DD.symm,aV ua.symm,aV DE.symm] at f3;exact f3
 refine k lt lb lf _ ⟨?_, ?_, ?_, ?_,xO,DE,DD⟩ f1 fb ff fun b o e nb=> ?_
 ·rw[aO]
  exact congrArg (fun l=>some (HO.ins C dx l)) aln
 ·rw[aV lT.symm,aV lT.symm,aV DE,aV lT.symm,aV xO,aV lT.symm,aO];rfl
 ·rw[aV gY.symm,aV gY.symm,aV DD,aV gY.symm,aO];rfl
 ·rw[aV ua.symm,aV ua.symm,aO];rfl
 ·rw[aV nb,aV nb,aV (cn e ff),aV nb,aV (cn e fb),aV nb,aV (cn e f1)];exact e
def ub(C:Addr):Sp:=fun vs H Q E=> ∃(p dx lt lb lf:Addr) (ts:List Str),vs=[.ref p]∧cq C H p dx lt lb lf ts∧Q (.int (av ts).length) H
theorem alp{K:PySem.W.Frag}{C:Addr}(T:nq K C)(vs:List V)(H:Hp)(Q:VK)(E:XK)(h:ub C vs H Q E):aw (aW K [] [] (E:=E)) BJ {nx:=fun _ H'=>Q .az H',rt:=Q} (start BI vs) H:=by
 obtain⟨p,dx,lt,lb,lf,ts,rfl,S,q⟩:=h
 exact⟨_,rfl,p,C,dx,_,_,rfl,S.ob,T.cl,T.tH,DC,q⟩
theorem alq:(Str.ofString "\n")=⟨#[10]⟩:=by rfl
def lU(l:List Nat):Int:=match l with | i::_=> (i:Int) | []=> -1
theorem SK(x:Str)(lo:Nat)(hl:lo≤x.length):(match Builtin.Str.occurrences x (Str.ofString "\n") lo x.length 1 with | i::_=> (i:Int) | []=> -1)=lU (pos 10 (x.cps.toList.drop lo) lo):=by
 rw[alq,Dj x 10 lo 1 hl]
 cases pos 10 (x.cps.toList.drop lo) lo<;>rfl
def uc(CT C:Addr):Sp:=fun vs H Q E=> ∃(p dx lt lb lf:Addr) (ts:List Str) (v:V),vs=[.ref p,v]∧cq C H p dx lt lb lf ts∧((jB v H∧E (.ref CT) none H)∨ ∃x,v= .str x∧good x∧ts.length≤100000∧(av ts).length≤1000000∧
 ∀H',eW p lt lb lf H H'→cq C H' p dx lt lb lf (ts++ [x])→Q (.int (av ts).length) H')
theorem DF: ∀(ts:List Str) (k:Nat),(di ts k).length=ts.length
 | [],_=>rfl
 | t::r,k=>by simp[di,DF r]
theorem SM(c:Nat)(a:List Nat)(k:Nat):(pos c a k).length≤a.length:=by
 rw[gi];exact List.count_le_length
theorem alr{K:PySem.W.Frag}{CT C:Addr}(T:nq K C)(vs:List V)(H:Hp)(Q:VK)(E:XK)(h:uc CT C vs H Q E):aw (aW K [("need_text",jC CT)] [] (E:=E)) BF {nx:=fun _ H'=>Q .az H',rt:=Q} (start wN vs) H:=by
 obtain⟨p,dx,lt,lb,lf,ts,v,rfl,S,⟨hb,q⟩ | ⟨x,rfl,hx,ht,hs,k⟩⟩:=h
 ·exact⟨_,rfl,_,rfl, .inr ⟨hb,q⟩⟩
 have SN:p≠lt:=zt S.ob S.tx (by intro z;cases z)
 have SO:p≠lb:=zt S.ob S.bg (by intro z;cases z)
 have SQ:p≠lf:=zt S.ob S.fd (by intro z;cases z)
 refine⟨_,rfl,_,rfl, .inl ⟨x,rfl,hx, ?_⟩⟩
 refine⟨_,rfl,p,C,dx,_,_,rfl,S.ob,T.cl,T.tH,DC, ?_⟩
 refine⟨_,rfl,p,C,dx,_,_,rfl,S.ob,T.cl,T.tG,xM, .inl ⟨rfl,_,aP.of S.tx⟩,_,rfl,_,S.tx,lO (by simp;omega), ?_⟩
 have o1:upd H lt (.lst (ts.map V.str++ [V.str x])) p=some (.ins C dx (dP lt lb lf (av ts).length)):=by rw[aV SN];exact S.ob
 have o2:upd H lt (.lst (ts.map V.str++ [V.str x])) lb=some (.lst ((di ts 0).map V.int)):=by rw[aV S.n1.symm];exact S.bg
 refine⟨_,rfl,p,C,dx,_,_,rfl,o1,T.cl,T.wO,DA, .inl ⟨rfl,_,aP.of o2⟩,_,rfl,_,o2,lO (by rw[List.length_map,DF];omega), ?_⟩
 refine⟨_,rfl,_,rfl,bP hx.1,_,rfl,p,C,dx,_,rfl,(by rw[aV SO];exact o1),T.cl,T.tH,(by show 4<1000;decide), ?_⟩
 generalize jk:upd (upd (upd H lt (.lst (ts.map V.str++ [V.str x]))) lb (.lst ((di ts 0).map V.int++ [V.int ((av ts).length:Int)]))) p (.ins C dx (cA "signs" (.int (((av ts).length:Int)+ (x.length:Int))) (dP lt lb lf ((av ts).length:Int))))=H3
 have b3:eW p lt lb lf H H3:=fun b o e n1 n2 n3 n4=>by
  rw[←jk,aV n1,aV n3,aV n2];exact e
 have ob3:H3 p=some (.ins C dx (dP lt lb lf (((av ts).length:Int)+ (x.length:Int)))):=by
  rw[←jk,aO]
  exact congrArg (fun l=>some (HO.ins C dx l)) alm
 have tx3:H3 lt=some (.lst (ts.map V.str++ [V.str x])):=by rw[←jk,aV SN.symm,aV S.n1,aO]
 have bg3:H3 lb=some (.lst ((di ts 0).map V.int++ [V.int ((av ts).length:Int)])):=by rw[←jk,aV SO.symm,aO]
 have fd3:H3 lf=some (.lst ((fh 10 (av ts)).map V.int)):=by rw[←jk,aV SQ.symm,aV S.n3.symm,aV S.n2.symm];exact S.fd
 have ud:=len_list x
 have l0:=SM 10 (av ts) 0
 have l1:=SM 10 x.cps.toList 0
 refine⟨_,rfl,rfl, ?_⟩
 show aw _ _ _ ((start wN [V.ref p,V.str x]).set 2 _ |>.set 3 (some (V.int (match Builtin.Str.occurrences x (Str.ofString "\n") 0 x.length 1 with | i::_=> (i:Int) | []=> -1)))) H3
 rw[SK x 0 (Nat.zero_le _),List.drop_zero]
 refine⟨fun m σ H'=> ∃(done rest:List Nat),m=rest.length∧pos 10 x.cps.toList 0=done++rest∧σ=[some (.ref p),some (.str x),some (.int ((av ts).length:Int)),some (.int (lU rest))]∧dC lf H3 H'∧H' lf=some (.lst ((fh 10 (av ts)++done.map fun(i:Nat)=> ((av ts).length:Int)+ (i:Int)).map V.int)),
  ⟨_,[],pos 10 x.cps.toList 0,rfl,rfl,rfl,fun b o e _=>e,by rw[List.map_nil,List.append_nil];exact fd3⟩, ?_⟩
 rintro m σ H' ⟨done,rest,rfl,hd,rfl,b4,f4⟩
 have SR:=b4 _ _ ob3 SQ
 refine⟨_,rfl,trivial,_,rfl, ?_⟩
 cases rest with
 | nil=>
  refine iF ⟨_,rfl, ?_⟩
  rw[List.append_nil] at hd
  refine k H' (fun b o e n1 n2 n3 n4=>b4 b o (b3 b o e n1 n2 n3 n4) n4) ⟨?_, ?_, ?_, ?_,S.n1,S.n2,S.n3⟩
  ·rw[iU,lS,List.length_append,←ud,Int.natCast_add];exact SR
  ·rw[List.map_append];exact b4 _ _ tx3 S.n2
  ·rw[SJ,List.map_append,Nat.zero_add];exact b4 _ _ bg3 S.n3
  ·rw[iU,lS,akE,hd];exact f4
 | cons i rest=>
  have hi:=lL 10 x.cps.toList 0 i (by rw[hd];simp)
  have hl:done.length+ (rest.length+1)≤x.cps.toList.length:=by
   have:=congrArg List.length hd
   simp at this
   omega
  have ph:decide ((0:Int)≤lU (i::rest))=true:=decide_eq_true (by show(0:Int)≤ (i:Int);omega)
  refine iT ?_ ph
  refine⟨_,fun σ' Sv q=>q, ?_⟩
  refine⟨_,rfl,p,C,dx,_,_,rfl,SR,T.cl,T.wQ,DB, .inl ⟨rfl,_,aP.of f4⟩,_,rfl,_,rfl,_,f4,(by have e:sizeLine=16777216:=rfl;have:=hx.1;simp[fh];omega), ?_⟩
  refine⟨_,rfl,rfl,_,rfl, ?_⟩
  have e1:fromIndex x.length (lU (i::rest)+1)=i+1:=by
   show fromIndex x.length ((i:Int)+1)=i+1
   unfold fromIndex
   rw[if_neg (by omega)];omega
  have nx:=Sh 10 x.cps.toList 0 i done rest hd
  rw[Nat.sub_zero] at nx
  have e2:=SK x (i+1) (by omega)
  rw[nx] at e2
  rw[←e1] at e2
  refine⟨rest.length,Nat.lt_succ_self _,done++ [i],rest,rfl,by rw[hd];simp, ?_,b4.trans dC.upd, ?_⟩
  ·show[_,_,_,some (V.int (match Builtin.Str.occurrences x (Str.ofString "\n") (fromIndex x.length (lU (i::rest)+1)) x.length 1 with | k::_=> (k:Int) | []=> -1))]=_
   rw[e2]
  ·rw[aO]
   simp[lU]
end L2.B
namespace L2
open PySem PySem.Spec PyProof.Rows
section
variable {Γ:aC} {D:Ends} {σ:St} {H:Hp} {r:List RS} {Q:VK} {QA:List V→Hp→Prop} {QT:Bool→Hp→Prop}
theorem dt{K:PySem.W.Frag}{b:Bool}{QB:Bool→Prop}(h:QB b):iL K (.bl b) H QB:=h
theorem df{a:RE}(h:bH Γ a σ H fun b H1=>QT (!b) H1):bH Γ (.not a) σ H QT:=h
theorem du{j:Nat}{as:List RE}(sp:Sp)(hs:Γ.fs j=sp)(h:bI Γ as σ H fun vs H1=>sp vs H1 (fun x H2=>iL Γ.K x H2 fun b=>QT b H2) Γ.E):bH Γ (.call j as) σ H QT:=by
 subst hs
 show bI Γ as σ H fun vs H1=>Γ.fs j (vs++ []) H1 (fun x H2=>iL Γ.K x H2 fun b=>QT b H2) Γ.E
 have e:(fun(vs:List V) (H1:Hp)=>Γ.fs j (vs++ []) H1 (fun x H2=>iL Γ.K x H2 fun b=>QT b H2) Γ.E)=fun vs H1=>Γ.fs j vs H1 (fun x H2=>iL Γ.K x H2 fun b=>QT b H2) Γ.E:=by
  funext vs H1;rw[List.append_nil]
 rw[e];exact h
theorem jE{a b:RE}(h:bH Γ a σ H fun c H1=>if c=true then QT true H1 else bH Γ b σ H1 QT):bH Γ (.or [a,b]) σ H QT:=h
theorem rf{a b:RE}(h:bH Γ a σ H fun c H1=>if c=true then bH Γ b σ H1 QT else QT false H1):bH Γ (.and [a,b]) σ H QT:=h
end
end L2
namespace L2.B
open PySem PySem.Spec PyProof.Rows
section
variable {Γ:aC} {σ:St} {H:Hp} {Q:VK} {QT:Bool→Hp→Prop} {K:PySem.W.Frag}
theorem gZ{a b:RE}{r:List RE}(h:bH Γ a σ H fun c H1=>if c=true then QT true H1 else bH Γ (.or (b::r)) σ H1 QT):bH Γ (.or (a::b::r)) σ H QT:=h
theorem ue{a:RE}(h:bH Γ a σ H QT):bH Γ (.or [a]) σ H QT:=h
theorem kg{a b:RE}{r:List RE}(h:bH Γ a σ H fun c H1=>if c=true then bH Γ (.and (b::r)) σ H1 QT else QT false H1):bH Γ (.and (a::b::r)) σ H QT:=h
theorem SS{a:RE}(h:bH Γ a σ H QT):bH Γ (.and [a]) σ H QT:=h
theorem rg{T:Ty}{a:RE}(h:ak Γ a σ H fun x H1=>b_ T x H1 fun b=>QT b H1):bH Γ (.dF T a) σ H QT:=by
 show eF Γ.K (dD (kW T) (dc (ak Γ a) (dc (tC (.ty T.nm)) gb))) σ H QT
 have e: ∀(q:VK),(fun(x:V) (H1:Hp)=>b_ T x H1 fun b=>q (.bl b) H1)=fun x H1=>kW T [x, .ty T.nm] H1 q:=by
  intro q;funext x H1;simp[kW]
 show ak Γ a σ H fun x H1=>kW T [x, .ty T.nm] H1 fun v H2=>iL Γ.K v H2 fun b=>QT b H2
 rw[←e];exact h
theorem aJ{sd:Addr→List (Key×V)→Prop}{a:Addr}{xs:List V}{i:Int}{v:V}(h:H a=some (.tup xs))(e:dW xs i=some v)(q:Q v H):kY K sd (.ref a) (.int i) H Q:=
 .inr (.inl ⟨_,_,_,_,rfl,rfl,bq.of h,e,q⟩)
theorem dg{x y:Int}(q:Q (.bl (decide (x=y))) H):cC K .Eq (.int x) (.int y) H Q:=by
 show Q (.bl (false ^^ decide (V.int x=V.int y))) H
 rw[Bool.false_xor,show decide (V.int x=V.int y)=decide (x=y) from decide_eq_decide.mpr ⟨fun z=>by injection z,fun z=>by rw[z]⟩];exact q
theorem xQ{x y:Int}(q:Q (.bl (!decide (x=y))) H):cC K .NotEq (.int x) (.int y) H Q:=by
 show Q (.bl (true ^^ decide (V.int x=V.int y))) H
 rw[Bool.true_xor,show decide (V.int x=V.int y)=decide (x=y) from decide_eq_decide.mpr ⟨fun z=>by injection z,fun z=>by rw[z]⟩];exact q
theorem SU{x:Str}(q:Q (.bl false) H):cC K .NotEq (.str x) (.str x) H Q:=by
 refine jD ?_
 rw[show(x !=x)=false by simp];exact q
theorem bZ{i j:Int}(h:Q (.int (i+j)) H):mT K .Add (.int i) (.int j) H Q:=h
theorem alx(h: ∀p,H p=none→Q (.ref p) (upd H p (.dK []))):ak Γ .qc σ H Q:=h
end
theorem aly{K:PySem.W.Frag}{H:Hp}{x y:Int}{Q:VK}(q:Q (.bl (decide (x<y))) H):cC K .Lt (.int x) (.int y) H Q:=⟨trivial,q⟩
theorem alz(ps:List Str)(z:Str):(cat (ps++ [z])).cps.toList=(cat ps).cps.toList++z.cps.toList:=by rw[akR,akS,app_list]
def pre(ts:List Str)(k:Nat):Nat:=(av (ts.take k)).length
theorem SV(t:Str)(r:List Str):av (t::r)=t.cps.toList++av r:=by simp[av]
theorem SW{ts:List Str}{k:Nat}(h:ts.length≤k):pre ts k=(av ts).length:=by unfold pre;rw[List.take_of_length_le h]
theorem alA{ts:List Str}{k:Nat}{t:Str}(h:ts[k]?=some t):av ts=av (ts.take k)++ (t.cps.toList++av (ts.drop (k+1))):=by
 obtain⟨h1,h2⟩:=List.getElem?_eq_some_iff.mp h
 conv=>lhs;rw[←List.take_append_drop k ts,List.drop_eq_getElem_cons h1,h2]
 rw[iU,SV]
theorem SX{ts:List Str}{k:Nat}{t:Str}(h:ts[k]?=some t):pre ts (k+1)=pre ts k+t.length:=by
 unfold pre
 rw[List.take_add_one,h,iU,List.length_append]
 show _+ (av [t]).length=_
 rw[lS,len_list]
theorem alB(ts:List Str)(k:Nat):pre ts k≤ (av ts).length:=by
 have e:av ts=av (ts.take k)++av (ts.drop k):=by rw[←iU,List.take_append_drop]
 rw[e,List.length_append];unfold pre;omega
theorem alC(ts:List Str):pre ts 0=0:=rfl
theorem uf: ∀(ts:List Str) (k j:Nat),j<ts.length→(di ts k)[j]?=some (((k+pre ts j:Nat):Int))
 | [],k,j,h=>by cases h
 | t::r,k,0,h=>by simp[di,pre,av]
 | t::r,k,j+1,h=>by
  have ih:=uf r (k+t.length) j (Nat.lt_of_succ_lt_succ h)
  show(di r (k+t.length))[j]?=_
  rw[ih]
  have:pre (t::r) (j+1)=t.length+pre r j:=by
   unfold pre
   rw[List.take_succ_cons,SV,List.length_append,len_list]
  rw[this];congr 1;omega
theorem SY: ∀(ts:List Str) (k:Nat),∀x∈di ts k,(k:Int)≤x
 | [],k,x,h=>by cases h
 | t::r,k,x,h=>by
  rcases List.mem_cons.mp h with rfl | h
  ·exact Int.le_refl _
  ·have:=SY r (k+t.length) x h
   omega
theorem DG: ∀(ts:List Str) (k:Nat),qT (di ts k)
 | [],k=>List.Pairwise.nil
 | t::r,k=>List.Pairwise.cons (fun x hx=>by have:=SY r (k+t.length) x hx;omega) (DG r (k+t.length))
theorem alD{ts:List Str}{b:Nat}(h:b< (av ts).length): ∃k,c_ (di ts 0) (b:Int)=k+1∧k<ts.length∧pre ts k≤b∧b≤pre ts (k+1):=by
 have hl:=DF ts 0
 have hc:=Dg (di ts 0) (b:Int)
 have hr:=DG ts 0
 have qj:0<ts.length:=by
  cases ts with
  | nil=>simp[av] at h
  | cons t r=>exact Nat.zero_lt_succ _
 have h0:=Di (most:=(b:Int)) hr (uf ts 0 0 qj) (by rw[alC];omega)
 obtain⟨k,hk⟩: ∃k,c_ (di ts 0) (b:Int)=k+1:=⟨c_ (di ts 0) (b:Int) - 1,by omega⟩
 have S4:k<ts.length:=by omega
 refine⟨k,hk,S4, ?_, ?_⟩
 ·by_cases q:pre ts k≤b
  ·exact q
  ·have:=Sg (most:=(b:Int)) hr (uf ts 0 k S4) (by omega)
   omega
 ·by_cases q:k+1<ts.length
  ·by_cases z:b≤pre ts (k+1)
   ·exact z
   ·have:=Di (most:=(b:Int)) hr (uf ts 0 (k+1) q) (by omega)
    omega
  ·rw[SW (by omega)];omega
theorem alE{ts:List Str}{k c m:Nat}{t:Str}(h:ts[k]?=some t)(h1:pre ts k≤c)(h2:c≤pre ts (k+1)):(t.cps.toList.drop (c - pre ts k)).take m=((av ts).drop c).take (min m (pre ts (k+1) - c)):=by
 rw[alA h]
 have hp:=SX h
 have lt:=len_list t
 have e:(av (ts.take k)++ (t.cps.toList++av (ts.drop (k+1)))).drop c=t.cps.toList.drop (c - pre ts k)++av (ts.drop (k+1)):=by
  rw[List.drop_append,List.drop_of_length_le (show(av (ts.take k)).length≤c from h1),List.nil_append]
  show(t.cps.toList++_).drop (c - pre ts k)=_
  rw[List.drop_append_of_le_length (by omega)]
 rw[e]
 have hl:(t.cps.toList.drop (c - pre ts k)).length=pre ts (k+1) - c:=by rw[List.length_drop];omega
 rw[List.take_append_of_le_length (by rw[hl];omega),←hl,←List.take_take,List.take_length]
theorem alF{l:List Nat}(b c m:Nat)(h:b≤c):(l.drop b).take (c - b)++ (l.drop c).take m=(l.drop b).take (c+m - b):=by
 rw[show c+m - b=(c - b)+m by omega,List.take_add,List.drop_drop,show b+ (c - b)=c by omega]
def alG(vb vn:V)(n:Nat)(H:Hp):Prop:=eV vb 0 (n:Int) H∨ ∃b:Int,vb= .int b∧0≤b∧b≤ (n:Int)∧eV vn 0 ((n:Int) - b) H
def ug(CP C:Addr):Sp:=fun vs H Q E=> ∃(p dx lt lb lf:Addr) (ts:List Str) (vb vn:V),vs=[.ref p,vb,vn]∧cq C H p dx lt lb lf ts∧((alG vb vn (av ts).length H∧E (.ref CP) none H)∨
 ∃b n:Nat,vb= .int (b:Nat)∧vn= .int (n:Nat)∧b+n≤ (av ts).length∧ts.length≤100000∧(av ts).length≤1000000∧(∀t∈ts,t.length≤1000000)∧ ∀H',aE H H'→Q (.str ⟨(((av ts).drop b).take n).toArray⟩) H')
abbrev rj:List (Str×Sp):=[("is_between",cp),("many_upto",pk)]
theorem alH{K:PySem.W.Frag}{CP C:Addr}(T:nq K C)(vs:List V)(H:Hp)(Q:VK)(E:XK)(h:ug CP C vs H Q E):aw (aW K rj [] (et:=[("NoPlace",CP)]) (E:=E)) BH (Dn Q) (start BG vs) H:=by
 obtain⟨p,dx,lt,lb,lf,ts,vb,vn,rfl,S,h⟩:=h
 have fs: ∀{H1:Hp} {σ:St} {Q':VK},aE H H1→σ[0]?=some (some (.ref p))→Q' (.int (av ts).length) H1→ak (aW K rj [] (et:=[("NoPlace",CP)]) (E:=E)) (.fld (.v 0) "signs") σ H1 Q':=fun s e q=> ⟨_,e,p,C,dx,_,_,rfl,s _ _ S.ob,T.cl,T.tH,DC,q⟩
 have fb: ∀{H1:Hp} {σ:St} {Q':VK},aE H H1→σ[0]?=some (some (.ref p))→Q' (.ref lb) H1→ak (aW K rj [] (et:=[("NoPlace",CP)]) (E:=E)) (.fld (.v 0) "begins") σ H1 Q':=fun s e q=> ⟨_,e,p,C,dx,_,_,rfl,s _ _ S.ob,T.cl,T.wO,DA,q⟩
 have ft: ∀{H1:Hp} {σ:St} {Q':VK},aE H H1→σ[0]?=some (some (.ref p))→Q' (.ref lt) H1→ak (aW K rj [] (et:=[("NoPlace",CP)]) (E:=E)) (.fld (.v 0) "texts") σ H1 Q':=fun s e q=> ⟨_,e,p,C,dx,_,_,rfl,s _ _ S.ob,T.cl,T.tG,xM,q⟩
 have rz:=aE.refl H
 rcases h with⟨hb | ⟨b,rfl,h1,h2,hb⟩,q⟩ | ⟨b,n,rfl,rfl,hbn,htl,hsl,hts,q⟩
 ·refine bc (jE (df (du cp rfl (au (ag rfl (au (ao (au (fs rz rfl (aG ⟨_,_,_,rfl, .inr ⟨hb,dt (iT (iT ?_ rfl) rfl)⟩⟩))))))))))
  exact⟨(by show 1≤sizeLine;decide),q⟩
 ·refine bc (jE (df (du cp rfl (au (ag rfl (au (ao (au (fs rz rfl (aG ⟨_,_,_,rfl, .inl ⟨b,rfl,h1,h2,dt (iF ?_ rfl)⟩⟩))))))))))
  refine df (du cp rfl (au (ag rfl (au (ao (au (aM (fs rz rfl (ag rfl ⟨trivial,aG ⟨_,_,_,rfl, .inr ⟨hb,dt (iT ?_ rfl)⟩⟩⟩)))))))))
  exact⟨(by show 1≤sizeLine;decide),q⟩
 ·refine bc (jE (df (du cp rfl (au (ag rfl (au (ao (au (fs rz rfl (aG ⟨_,_,_,rfl, .inl ⟨_,rfl,by omega,by omega,dt (iF ?_ rfl)⟩⟩))))))))))
  refine df (du cp rfl (au (ag rfl (au (ao (au (aM (fs rz rfl (ag rfl ⟨trivial,aG ⟨_,_,_,rfl, .inl ⟨_,rfl,by omega,by omega,dt (iF ?_ rfl)⟩⟩⟩)))))))))
  refine aZ (cH (aG ⟨Nat.zero_le _,fun d hd=> ?_⟩))
  have s1:=sameNew (o:= .lst []) hd
  refine aZ (aM (bA pk rfl (au (fb s1 rfl (au (ag rfl (aG ⟨lb,di ts 0,_,rfl,s1 _ _ S.bg,DG ts 0,ao ⟨trivial, ?_⟩⟩)))))))
  refine aZ (aM (ag rfl (ag rfl (bZ ?_))))
  have lU:upd H d (.lst []) d=some (.lst (([]:List Str).map V.str)):=aO
  refine Dz (fun m σ H2=> ∃(c:Nat) (k:Int) (ps:List Str) (u6 u7:Option V),m=ts.length+1 - k.toNat∧σ=[some (.ref p),some (.int (c:Nat)),some (.int (n:Nat)),some (.ref d),some (.int k),some (.int ((b:Int)+ (n:Int))),u6,u7]∧dC d H H2∧H2 d=some (.lst (ps.map V.str))∧b≤c∧c≤b+n∧(cat ps).cps.toList=((av ts).drop b).take (c - b)∧ps.length≤k.toNat+1∧
    (c<b+n→ ∃j:Nat,k=(j:Int)∧j<ts.length∧pre ts j≤c∧c≤pre ts (j+1)))
   ⟨_,b,((c_ (di ts 0) (b:Int):Nat):Int) - 1,[],none,none,rfl,rfl,fun x o e nx=>by rw[aV nx];exact e,lU,Nat.le_refl _,by omega,by rw[akT,Nat.sub_self,List.take_zero];rfl,Nat.zero_le _,fun bG=> ?_⟩ ?_
  ·obtain⟨j,e,h1,h2,h3⟩:=alD (ts:=ts) (b:=b) (by omega)
   exact⟨j,by omega,h1,h2,h3⟩
  rintro m σ H2 ⟨c,k,ps,u6,u7,rfl,rfl,b2,hd2,hbc,hcn,cE,jS,lg⟩
  refine bf (ag rfl (ag rfl (aly ⟨_,rfl, ?_⟩)))
  refine eE (fun bG=> ?_) (fun bG=> ?_)
  ·have DH:c<b+n:=by have:=of_decide_eq_true bG;omega
   obtain⟨j,rfl,kh,wC,DI⟩:=lg DH
   clear lg
   have nd: ∀{a:Addr} {o:HO},H a=some o→H2 a=some o:=fun {a o} e=>b2 a o e (fun z=>by rw[z,hd] at e;cases e)
   have tj:ts[j]?=some ts[j]:=List.getElem?_eq_getElem kh
   have fb2: ∀{σ:St} {Q':VK},σ[0]?=some (some (.ref p))→Q' (.ref lb) H2→ak (aW K rj [] (et:=[("NoPlace",CP)]) (E:=E)) (.fld (.v 0) "begins") σ H2 Q':=fun e q=> ⟨_,e,p,C,dx,_,_,rfl,nd S.ob,T.cl,T.wO,DA,q⟩
   have ft2: ∀{σ:St} {Q':VK},σ[0]?=some (some (.ref p))→Q' (.ref lt) H2→ak (aW K rj [] (et:=[("NoPlace",CP)]) (E:=E)) (.fld (.v 0) "texts") σ H2 Q':=fun e q=> ⟨_,e,p,C,dx,_,_,rfl,nd S.ob,T.cl,T.tG,xM,q⟩
   have ab:dW ((di ts 0).map V.int) (j:Int)=some (.int (pre ts j:Nat)):=kO (by rw[List.getElem?_map,uf ts 0 j kh,Nat.zero_add];rfl)
   have at':dW (ts.map V.str) (j:Int)=some (.str ts[j]):=kO (by rw[List.getElem?_map,tj];rfl)
   have tle:=hts _ (List.getElem_mem kh)
   refine⟨_,fun σ' Sv q=>q, ?_⟩
   refine aZ (aM (ag rfl (ba (fb2 rfl (ag rfl (fJ (nd S.bg) ab ⟨trivial, ?_⟩))))))
   refine aZ ?_
   refine⟨_,rfl,p,C,dx,_,_,rfl,nd S.ob,T.cl,T.tG,xM,_,rfl,fJ (nd S.tx) at' ?_⟩
   refine⟨_,rfl,_,rfl,_,rfl,_,rfl,_,rfl,trivial,_,rfl,bP tle, ?_⟩
   have ec:fB ts[j] (some ((c:Int) - (pre ts j:Nat))) (some ((c:Int) - (pre ts j:Nat)+ ((b:Int)+ (n:Int)) - (c:Int)))=⟨((av ts).drop c).take (min (b+n - c) (pre ts (j+1) - c)) |>.toArray⟩:=by
    rw[show(c:Int) - (pre ts j:Nat)=((c - pre ts j:Nat):Int) by omega,show((c - pre ts j:Nat):Int)+ ((b:Int)+ (n:Int)) - (c:Int)=((c - pre ts j:Nat):Int)+ ((b+n - c:Nat):Int) by omega,SH (c - pre ts j) ((b+n - c:Nat):Int) (b+n - c) rfl,alE tj wC DI]
   rw[ec]
   have hpz:=alB ts (j+1)
   have lz:(⟨(((av ts).drop c).take (min (b+n - c) (pre ts (j+1) - c))).toArray⟩:Str).length=min (b+n - c) (pre ts (j+1) - c):=by
    rw[len_list]
    show(((av ts).drop c).take _).length=_
    rw[List.length_take,List.length_drop];omega
   generalize hz:(⟨(((av ts).drop c).take (min (b+n - c) (pre ts (j+1) - c))).toArray⟩:Str)=z at lz⊢
   refine lQ (ke (ag rfl ⟨.inl ⟨rfl,_,aP.of hd2⟩,ag rfl ⟨_,hd2,lO (by rw[List.length_map];omega), ?_⟩⟩))
   refine aZ (aM (ag rfl (pq (au (ag rfl (aG ⟨bP (by omega),bZ ?_⟩))))))
   refine aZ (aM (ag rfl (ao (bZ ?_))))
   refine⟨_, ?_,c+z.length,((j:Int)+1),ps++ [z],some (.int ((c:Int) - (pre ts j:Nat))),some (.str z),rfl, ?_,b2.trans dC.upd, ?_,by omega,by omega, ?_, ?_, ?_⟩
   ·omega
   ·show[_,some (V.int ((c:Int)+ (z.length:Int))),_,_,_,_,_,_]=_
    rw[Int.natCast_add]
   ·rw[aO,List.map_append];rfl
   ·rw[alz,cE,←hz]
    show _++ ((av ts).drop c).take _=_
    rw[alF b c _ hbc,hz,lz]
   ·rw[List.length_append];show ps.length+1≤_;omega
   ·intro NQ
    have e3:c+z.length=pre ts (j+1):=by omega
    have S5:j+1<ts.length:=by
     by_cases q:j+1<ts.length
     ·exact q
     ·have:=SW (ts:=ts) (k:=j+1) (by omega)
      omega
    have xR:=SX (List.getElem?_eq_getElem S5)
    exact⟨j+1,by omega,S5,by omega,by omega⟩
  ·have DH:c=b+n:=by
    have: ¬((c:Int) < (b:Int)+ (n:Int)):=fun z=>bG (decide_eq_true z)
    omega
   subst DH
   rw[show b+n - b=n by omega] at cE
   have lc:(cat ps).length≤1000000:=by rw[len_list,cE,List.length_take,List.length_drop];omega
   refine bY (ke (ao ⟨rfl,ag rfl ⟨ps,aP.of hd2,joinOk_of (by rw[←Sl];exact lc), ?_⟩⟩))
   have es:Txt.join "" ps=⟨(((av ts).drop b).take n).toArray⟩:=iS cE
   rw[es]
   exact q H2 fun a o e=>b2 a o e (fun z=>by rw[z,hd] at e;cases e)
end L2.B
namespace L2.N
open PySem PySem.Spec PyProof.Rows L2.B
abbrev tp(p:P3):HO:= .tup [.int p.1, .int p.2.1, .int p.2.2]
def Pc(H:Hp)(v:V)(p:P3):Prop:= ∃q,v= .ref q∧H q=some (tp p)
abbrev iV(H:Hp):List V→List P3→Prop:=Paired (Pc H)
theorem Pc.mono{H H':Hp}{v:V}{p:P3}(t:lM H H')(h:Pc H v p):Pc H' v p:=by
 obtain⟨a,e,h⟩:=h
 exact⟨a,e,t _ _ h⟩
theorem iV.mono{H H':Hp}(t:lM H H'): ∀{vs:List V} {ps:List P3},iV H vs ps→iV H' vs ps
 | _,_, .nil=> .nil
 | _,_, .cons h r=> .cons (h.mono t) (iV.mono t r)
theorem iV.app{H:Hp}: ∀{vs ws:List V} {ps qs:List P3},iV H vs ps→iV H ws qs→iV H (vs++ws) (ps++qs)
 | _,_,_,_, .nil,b=>b
 | _,_,_,_, .cons h r,b=> .cons h (iV.app r b)
def Nd(H:Hp):Tr→V→Prop
 | .nil,v=>v= .az
 | .node l a b c r,v=> ∃p q vl vr,v= .ref p∧H p=some (.tup [vl, .ref q,vr, .int (Tr.node l a b c r).h, .int (Tr.node l a b c r).sz, .int (Tr.node l a b c r).en])∧H q=some (tp (a,b,c))∧Nd H l vl∧Nd H r vr
theorem Nd.mono{H H':Hp}(t:lM H H'): ∀{x:Tr} {v:V},Nd H x v→Nd H' x v
 | .nil,_,h=>h
 | .node l a b c r,_,⟨p,q,vl,vr,e,h1,h2,h3,h4⟩=> ⟨p,q,vl,vr,e,t _ _ h1,t _ _ h2,h3.mono t,h4.mono t⟩
def iW:Sp:=fun vs H Q E=> ∃v t,vs=[v]∧Nd H t v∧Q (.int t.h) H
def eY:Sp:=fun vs H Q E=> ∃v t,vs=[v]∧Nd H t v∧Q (.int t.sz) H
def fj:Sp:=fun vs H Q E=> ∃v t,vs=[v]∧Nd H t v∧Q (.int t.en) H
theorem alM{K:PySem.W.Frag}(vs:List V)(H:Hp)(Q:VK)(E:XK)(h:iW vs H Q E):aw (aW K [] [] (E:=E)) BL {nx:=fun _ H'=>Q .az H',rt:=Q} (start BK vs) H:=by
 obtain⟨v,t,rfl,hn,q⟩:=h
 refine⟨_,rfl,rfl,_,rfl, ?_⟩
 cases t with
 | nil=>cases hn;exact iT q
 | node l a b c r=>
  obtain⟨p,qq,vl,vr,rfl,h1, -⟩:=hn
  exact iF ⟨_,rfl,aJ h1 rfl q⟩
theorem alN{K:PySem.W.Frag}(vs:List V)(H:Hp)(Q:VK)(E:XK)(h:eY vs H Q E):aw (aW K [] [] (E:=E)) BN {nx:=fun _ H'=>Q .az H',rt:=Q} (start BM vs) H:=by
 obtain⟨v,t,rfl,hn,q⟩:=h
 refine⟨_,rfl,rfl,_,rfl, ?_⟩
 cases t with
 | nil=>cases hn;exact iT q
 | node l a b c r=>
  obtain⟨p,qq,vl,vr,rfl,h1, -⟩:=hn
  exact iF ⟨_,rfl,aJ h1 rfl q⟩
theorem alO{K:PySem.W.Frag}(vs:List V)(H:Hp)(Q:VK)(E:XK)(h:fj vs H Q E):aw (aW K [] [] (E:=E)) BP {nx:=fun _ H'=>Q .az H',rt:=Q} (start BO vs) H:=by
 obtain⟨v,t,rfl,hn,q⟩:=h
 refine⟨_,rfl,rfl,_,rfl, ?_⟩
 cases t with
 | nil=>cases hn;exact iT q
 | node l a b c r=>
  obtain⟨p,qq,vl,vr,rfl,h1, -⟩:=hn
  exact iF ⟨_,rfl,aJ h1 rfl q⟩
abbrev alP:List (Str×Sp):=[("height_of",iW),("size_of",eY),("ends_of",fj)]
def ki:Sp:=fun vs H Q E=> ∃vl q vr l r a b c,vs=[vl, .ref q,vr]∧Nd H l vl∧Nd H r vr∧H q=some (tp (a,b,c))∧ ∀v H',aE H H'→Nd H' (.node l a b c r) v→Q v H'
theorem alQ{K:PySem.W.Frag}(vs:List V)(H:Hp)(Q:VK)(E:XK)(h:ki vs H Q E):aw (aW K alP [] (E:=E)) BR {nx:=fun _ H'=>Q .az H',rt:=Q} (start BQ vs) H:=by
 obtain⟨vl,q,vr,l,r,a,b,c,rfl,hl,hr,hq,k⟩:=h
 refine⟨_,rfl,vl,l,rfl,hl,_,rfl,vr,r,rfl,hr, ?_⟩
 refine⟨_,rfl,vl,l,rfl,hl,_,rfl,aJ hq rfl ⟨_,rfl,vr,r,rfl,hr, ?_⟩⟩
 refine⟨_,rfl,_,rfl,_,rfl,_,rfl,_,rfl,_,rfl,vl,l,rfl,hl,_,rfl,aJ hq rfl ⟨_,rfl,vr,r,rfl,hr,(by show 6≤sizeLine;decide),fun t ht=> ?_⟩⟩
 have s:=sameNew (o:= .tup [vl, .ref q,vr, .int (1+ (if r.h>l.h then r.h else l.h)), .int (l.sz+b+r.sz), .int (l.en+c+r.en)]) ht
 exact k _ _ s ⟨t,q,vl,vr,rfl,aO,s _ _ hq,hl.mono (bz s),hr.mono (bz s)⟩
abbrev S6:List (Str×Sp):=[("height_of",iW),("made",ki)]
def xS:Sp:=fun vs H Q E=> ∃vl q vr l r a b c,vs=[vl, .ref q,vr]∧Nd H l vl∧Nd H r vr∧H q=some (tp (a,b,c))∧l.ok∧r.ok∧l.h=r.h+2∧ ∀v H' t,aE H H'→Nd H' t v→Tr.jz l a b c r t→Q v H'
def xU:Sp:=fun vs H Q E=> ∃vl q vr l r a b c,vs=[vl, .ref q,vr]∧Nd H l vl∧Nd H r vr∧H q=some (tp (a,b,c))∧l.ok∧r.ok∧r.h=l.h+2∧ ∀v H' t,aE H H'→Nd H' t v→Tr.jz l a b c r t→Q v H'
theorem alR{K:PySem.W.Frag}(vs:List V)(H:Hp)(Q:VK)(E:XK)(h:xS vs H Q E):aw (aW K S6 [] (E:=E)) BU {nx:=fun _ H'=>Q .az H',rt:=Q} (start BS vs) H:=by
 obtain⟨vl,q,vr,l,r,a',b',c',rfl,hl,hr,hq,o1,o2,hh,k⟩:=h
 have r0:=Tr.h0 r
 obtain⟨ll,a,b,c,lr,rfl⟩:=Tr.qS (t:=l) (by omega)
 obtain⟨p,ql,pA,rk,rfl,hp,pB,pE,gO⟩:=hl
 refine⟨_,rfl,aJ hp rfl ?_⟩
 refine⟨_,rfl,aJ hp rfl ⟨pA,ll,rfl,pE,_,rfl,rk,lr,rfl,gO,trivial,_,rfl, ?_⟩⟩
 refine eE (fun h=> ?_) (fun h=> ?_)
 ·have ph:lr.h≤ll.h:=of_decide_eq_true h
  refine⟨_,rfl,aJ hp rfl ⟨_,rfl,aJ hp rfl ⟨_,rfl,_,rfl,_,rfl,rk,q,vr,lr,r,a',b',c',rfl,gO,hr,hq,fun v H1 s1 n1=> ?_⟩⟩⟩
  refine⟨pA,ql,v,ll,_,a,b,c,rfl,pE.mono (bz s1),n1,s1 _ _ pB,fun v2 H2 s2 n2=> ?_⟩
  exact k _ _ _ (s1.trans s2) n2 (Tr.akt o1 o2 hh ph)
 ·have bG:ll.h<lr.h:=by
   have: ¬lr.h≤ll.h:=fun z=>h (decide_eq_true z)
   omega
  have l0:=Tr.h0 ll
  obtain⟨il,x,y,z,ir,rfl⟩:=Tr.qS (t:=lr) (by omega)
  obtain⟨pi,qi,DJ,DK,rfl,pF,DL,DM,DN⟩:=gO
  refine⟨_,rfl,aJ hp rfl ⟨_,rfl,aJ hp rfl ⟨_,rfl,aJ pF rfl ⟨pA,ql,DJ,ll,il,a,b,c,rfl,pE,DM,pB,fun v H1 s1 n1=> ?_⟩⟩⟩⟩
  refine⟨_,rfl,aJ (s1 _ _ pF) rfl ⟨_,rfl,aJ (s1 _ _ pF) rfl ⟨_,rfl,_,rfl,DK,q,vr,ir,r,a',b',c',rfl,DN.mono (bz s1),hr.mono (bz s1),s1 _ _ hq,fun v2 H2 s2 n2=> ?_⟩⟩⟩
  refine⟨v,qi,v2,_,_,x,y,z,rfl,n1.mono (bz s2),n2,s2 _ _ (s1 _ _ DL),fun v3 H3 s3 n3=> ?_⟩
  exact k _ _ _ (s1.trans (s2.trans s3)) n3 (Tr.aku o1 o2 hh bG)
theorem alS{K:PySem.W.Frag}(vs:List V)(H:Hp)(Q:VK)(E:XK)(h:xU vs H Q E):aw (aW K S6 [] (E:=E)) BW {nx:=fun _ H'=>Q .az H',rt:=Q} (start BV vs) H:=by
 obtain⟨vl,q,vr,l,r,a,b,c,rfl,hl,hr,hq,o1,o2,hh,k⟩:=h
 have r0:=Tr.h0 l
 obtain⟨rl,a',b',c',rr,rfl⟩:=Tr.qS (t:=r) (by omega)
 obtain⟨p,qr,rm,pG,rfl,hp,xV,jF,pH⟩:=hr
 refine⟨_,rfl,aJ hp rfl ?_⟩
 refine⟨_,rfl,aJ hp rfl ⟨pG,rr,rfl,pH,_,rfl,rm,rl,rfl,jF,trivial,_,rfl, ?_⟩⟩
 refine eE (fun h=> ?_) (fun h=> ?_)
 ·have ph:rl.h≤rr.h:=of_decide_eq_true h
  refine⟨_,rfl,_,rfl,_,rfl,vl,q,rm,l,rl,a,b,c,rfl,hl,jF,hq,fun v H1 s1 n1=> ?_⟩
  refine⟨_,rfl,aJ (s1 _ _ hp) rfl ⟨_,rfl,aJ (s1 _ _ hp) rfl ⟨v,qr,pG,_,rr,a',b',c',rfl,n1,pH.mono (bz s1),s1 _ _ xV,fun v2 H2 s2 n2=> ?_⟩⟩⟩
  exact k _ _ _ (s1.trans s2) n2 (Tr.akv o1 o2 hh ph)
 ·have bG:rr.h<rl.h:=by
   have: ¬rl.h≤rr.h:=fun z=>h (decide_eq_true z)
   omega
  have l0:=Tr.h0 rr
  obtain⟨il,x,y,z,ir,rfl⟩:=Tr.qS (t:=rl) (by omega)
  obtain⟨pi,qi,DJ,DK,rfl,pF,DL,DM,DN⟩:=jF
  refine⟨_,rfl,_,rfl,_,rfl,aJ pF rfl ⟨vl,q,DJ,l,il,a,b,c,rfl,hl,DM,hq,fun v H1 s1 n1=> ?_⟩⟩
  refine⟨_,rfl,aJ (s1 _ _ pF) rfl ⟨_,rfl,aJ (s1 _ _ pF) rfl ⟨_,rfl,aJ (s1 _ _ hp) rfl ⟨_,rfl,aJ (s1 _ _ hp) rfl ⟨DK,qr,pG,ir,rr,a',b',c',rfl,DN.mono (bz s1),pH.mono (bz s1),s1 _ _ xV,fun v2 H2 s2 n2=> ?_⟩⟩⟩⟩⟩
  refine⟨v,qi,v2,_,_,x,y,z,rfl,n1.mono (bz s2),n2,s2 _ _ (s1 _ _ DL),fun v3 H3 s3 n3=> ?_⟩
  exact k _ _ _ (s1.trans (s2.trans s3)) n3 (Tr.akw o1 o2 hh bG)
abbrev alT:List (Str×Sp):=[("height_of",iW),("turned_right",xS),("turned_left",xU),("made",ki)]
def xW:Sp:=fun vs H Q E=> ∃vl q vr l r a b c,vs=[vl, .ref q,vr]∧Nd H l vl∧Nd H r vr∧H q=some (tp (a,b,c))∧l.ok∧r.ok∧l.h≤r.h+2∧r.h≤l.h+2∧ ∀v H' t,aE H H'→Nd H' t v→Tr.jz l a b c r t→Q v H'
theorem alU{K:PySem.W.Frag}(vs:List V)(H:Hp)(Q:VK)(E:XK)(h:xW vs H Q E):aw (aW K alT [] (E:=E)) BY {nx:=fun _ H'=>Q .az H',rt:=Q} (start BX vs) H:=by
 obtain⟨vl,q,vr,l,r,a,b,c,rfl,hl,hr,hq,o1,o2,hh1,hh2,k⟩:=h
 refine⟨_,rfl,vl,l,rfl,hl,_,rfl,vr,r,rfl,hr,trivial,_,rfl, ?_⟩
 refine eE (fun h=> ?_) (fun h=> ?_)
 ·have g:r.h+1<l.h:=of_decide_eq_true h
  exact⟨_,rfl,_,rfl,_,rfl,vl,q,vr,l,r,a,b,c,rfl,hl,hr,hq,o1,o2,by omega,k⟩
 ·have g: ¬r.h+1<l.h:=fun z=>h (decide_eq_true z)
  refine⟨_,rfl,vr,r,rfl,hr,_,rfl,vl,l,rfl,hl,trivial,_,rfl, ?_⟩
  refine eE (fun h=> ?_) (fun h=> ?_)
  ·have g2:l.h+1<r.h:=of_decide_eq_true h
   exact⟨_,rfl,_,rfl,_,rfl,vl,q,vr,l,r,a,b,c,rfl,hl,hr,hq,o1,o2,by omega,k⟩
  ·have g2: ¬l.h+1<r.h:=fun z=>h (decide_eq_true z)
   exact⟨_,rfl,_,rfl,_,rfl,vl,q,vr,l,r,a,b,c,rfl,hl,hr,hq,fun v H' s n=>k _ _ _ s n (Tr.R9 o1 o2 (by omega) (by omega))⟩
def eA(n:Nat):Sp:=fun vs H Q E=> ∃vl q vr l r a b c,vs=[vl, .ref q,vr]∧Nd H l vl∧Nd H r vr∧H q=some (tp (a,b,c))∧l.ok∧r.ok∧l.h+r.h<n∧ ∀v H' t,aE H H'→Nd H' t v→Tr.Jn l a b c r t→Q v H'
theorem alW(vs:List V)(H:Hp)(Q:VK)(E:XK): ¬eA 0 vs H Q E:=by
 rintro⟨vl,q,vr,l,r,a,b,c, -, -, -, -, -, -,h, -⟩
 have:=Tr.h0 l
 have:=Tr.h0 r
 omega
abbrev alX(n:Nat):List (Str×Sp):=[("height_of",iW),("leveled",xW),("joined",eA n),("made",ki)]
theorem alY{K:PySem.W.Frag}(n:Nat)(vs:List V)(H:Hp)(Q:VK)(E:XK)(h:eA (n+1) vs H Q E):aw (aW K (alX n) [] (E:=E)) B_ {nx:=fun _ H'=>Q .az H',rt:=Q} (start BZ vs) H:=by
 obtain⟨vl,q,vr,l,r,a,b,c,rfl,hl,hr,hq,o1,o2,hh,k⟩:=h
 have r0:=Tr.h0 r
 have l0:=Tr.h0 l
 refine⟨_,rfl,vl,l,rfl,hl,_,rfl,vr,r,rfl,hr,trivial,_,rfl, ?_⟩
 refine eE (fun h=> ?_) (fun h=> ?_)
 ·have g:r.h+1<l.h:=of_decide_eq_true h
  obtain⟨ll,a1,b1,c1,lr,rfl⟩:=Tr.qS (t:=l) (by omega)
  obtain⟨p,ql,pA,rk,rfl,hp,pB,pE,gO⟩:=hl
  have e1:=Tr.cW ll a1 b1 c1 lr
  have bG:lr.h+r.h<n:=by
   have:lr.h< (Tr.node ll a1 b1 c1 lr).h:=by rw[e1];split<;>omega
   omega
  refine⟨_,rfl,aJ hp rfl ⟨_,rfl,aJ hp rfl ⟨_,rfl,aJ hp rfl ⟨_,rfl,_,rfl,rk,q,vr,lr,r,a,b,c,rfl,gO,hr,hq,o1.2.1,o2,bG,fun v H1 t s1 n1 J=> ?_⟩⟩⟩⟩
  obtain⟨g1,g2⟩:=Tr.akA o1 g J
  refine⟨pA,ql,v,ll,t,a1,b1,c1,rfl,pE.mono (bz s1),n1,s1 _ _ pB,o1.1,J.ok,g1,g2,fun v2 H2 t2 s2 n2 L=> ?_⟩
  exact k _ _ _ (s1.trans s2) n2 (Tr.aky o1 g J L)
 ·have g: ¬r.h+1<l.h:=fun z=>h (decide_eq_true z)
  refine⟨_,rfl,vr,r,rfl,hr,_,rfl,vl,l,rfl,hl,trivial,_,rfl, ?_⟩
  refine eE (fun h=> ?_) (fun h=> ?_)
  ·have g2:l.h+1<r.h:=of_decide_eq_true h
   obtain⟨rl,a1,b1,c1,rr,rfl⟩:=Tr.qS (t:=r) (by omega)
   obtain⟨p,qr,rm,pG,rfl,hp,xV,jF,pH⟩:=hr
   have e1:=Tr.cW rl a1 b1 c1 rr
   have bG:l.h+rl.h<n:=by
    have:rl.h< (Tr.node rl a1 b1 c1 rr).h:=by rw[e1];split<;>omega
    omega
   refine⟨_,rfl,_,rfl,_,rfl,aJ hp rfl ⟨vl,q,rm,l,rl,a,b,c,rfl,hl,jF,hq,o1,o2.1,bG,fun v H1 t s1 n1 J=> ?_⟩⟩
   obtain⟨k1,k2⟩:=Tr.akB o2 g2 J
   refine⟨_,rfl,aJ (s1 _ _ hp) rfl ⟨_,rfl,aJ (s1 _ _ hp) rfl ⟨v,qr,pG,t,rr,a1,b1,c1,rfl,n1,pH.mono (bz s1),s1 _ _ xV,J.ok,o2.2.1,k1,k2,fun v2 H2 t2 s2 n2 L=> ?_⟩⟩⟩
   exact k _ _ _ (s1.trans s2) n2 (Tr.akz o2 g2 J L)
  ·have g2: ¬l.h+1<r.h:=fun z=>h (decide_eq_true z)
   exact⟨_,rfl,_,rfl,_,rfl,vl,q,vr,l,r,a,b,c,rfl,hl,hr,hq,fun v H' s n=>k _ _ _ s n (Tr.akx o1 o2 (by omega) (by omega))⟩
def lV(n:Nat):Sp:=fun vs H Q E=> ∃v l a b c r,vs=[v]∧Nd H (.node l a b c r) v∧(Tr.node l a b c r).ok∧(Tr.node l a b c r).h<n∧(Tr.node l a b c r).h≤30∧
 ∀w H' q vt t a' b' c',aE H H'→H' w=some (.tup [vt, .ref q])→Nd H' t vt→H' q=some (tp (a',b',c'))→t.ok→(Tr.node l a b c r).ar=t.ar++ [(a',b',c')]→t.h≤ (Tr.node l a b c r).h→Q (.ref w) H'
theorem alZ(vs:List V)(H:Hp)(Q:VK)(E:XK): ¬lV 0 vs H Q E:=by
 rintro⟨v,l,a,b,c,r, -, -, -,h, -⟩
 have:=Tr.h0 (.node l a b c r)
 omega
abbrev al0(n:Nat):List (Str×Sp):=[("last_out",lV n),("joined",eA 64)]
theorem al1{K:PySem.W.Frag}(n:Nat)(vs:List V)(H:Hp)(Q:VK)(E:XK)(h:lV (n+1) vs H Q E):aw (aW K (al0 n) [] (E:=E)) Cb {nx:=fun _ H'=>Q .az H',rt:=Q} (start Ca vs) H:=by
 obtain⟨v,l,a,b,c,r,rfl,⟨p,q,vl,vr,rfl,hp,hq,hl,hr⟩,ho,hh,h30,k⟩:=h
 have e1:=Tr.cW l a b c r
 have l0:=Tr.h0 l
 refine⟨_,rfl,aJ hp rfl ⟨rfl,_,rfl, ?_⟩⟩
 cases r with
 | nil=>
  cases hr
  refine iT ⟨_,rfl,aJ hp rfl ⟨_,rfl,aJ hp rfl ⟨(by show 2≤sizeLine;decide),fun w hw=> ?_⟩⟩⟩
  have s:=sameNew (o:= .tup [vl, .ref q]) hw
  exact k w _ q vl l a b c s aO (hl.mono (bz s)) (s _ _ hq) ho.1 rfl (by rw[e1];split<;>omega)
 | node rl a1 b1 c1 rr=>
  obtain⟨p2,q2,rm,pG,rfl,xR,ie,jF,pH⟩:=hr
  have bG:(Tr.node rl a1 b1 c1 rr).h< (Tr.node l a b c (.node rl a1 b1 c1 rr)).h:=by rw[e1];split<;>omega
  have hle:l.h< (Tr.node l a b c (.node rl a1 b1 c1 rr)).h:=by rw[e1];split<;>omega
  refine iF ⟨_,rfl,aJ hp rfl ⟨.ref p2,rl,a1,b1,c1,rr,rfl,⟨p2,q2,rm,pG,rfl,xR,ie,jF,pH⟩,ho.2.1,by omega,by omega,fun w H1 q3 vt t a2 b2 c2 s1 hw ht DO to DP th=> ?_⟩⟩
  refine⟨_,rfl,aJ (s1 _ _ hp) rfl ⟨_,rfl,aJ (s1 _ _ hp) rfl ⟨_,rfl,aJ hw rfl ⟨vl,q,vt,l,t,a,b,c,rfl,hl.mono (bz s1),ht,s1 _ _ hq,ho.1,to,(by show l.h+t.h< (64:Nat);omega),fun v2 H2 t2 s2 n2 J=> ?_⟩⟩⟩⟩
  refine⟨_,rfl,aJ (s2 _ _ hw) rfl ⟨(by show 2≤sizeLine;decide),fun w2 lW=> ?_⟩⟩
  have s3:=sameNew (o:= .tup [v2, .ref q3]) lW
  have jh:=J.hi
  refine k w2 _ q3 v2 t2 a2 b2 c2 (s1.trans (s2.trans s3)) aO (n2.mono (bz s3)) (s3 _ _ (s2 _ _ DO)) J.ok ?_ ?_
  ·rw[J.ar,Tr.ar,DP];simp
  ·have:=J.hi;omega
def kj(n:Nat):Sp:=fun vs H Q E=> ∃v t,vs=[v]∧Nd H t v∧t.h<n∧t.ar.length≤1000∧ ∀w H' xs,aE H H'→H w=none→H' w=some (.lst xs)→iV H' xs t.ar→Q (.ref w) H'
theorem al3(vs:List V)(H:Hp)(Q:VK)(E:XK): ¬kj 0 vs H Q E:=by
 rintro⟨v,t, -, -,h, -⟩
 have:=Tr.h0 t
 omega
theorem S7{l r:Tr}{a b c:Int}{n:Nat}(h:(Tr.node l a b c r).ar.length≤n):l.ar.length+r.ar.length+1≤n:=by
 simp only[Tr.ar,List.length_append,List.length_cons] at h;omega
theorem S8(l r:Tr)(a b c:Int):l.h< (Tr.node l a b c r).h∧r.h< (Tr.node l a b c r).h:=by
 rw[Tr.cW];split<;>omega
theorem al4{K:PySem.W.Frag}(n:Nat)(vs:List V)(H:Hp)(Q:VK)(E:XK)(h:kj (n+1) vs H Q E):aw (aW K [("pieces_of",kj n)] [] (E:=E)) Cn {nx:=fun _ H'=>Q .az H',rt:=Q} (start Cm vs) H:=by
 obtain⟨v,t,rfl,hn,hh,hl,k⟩:=h
 refine⟨_,rfl,rfl,_,rfl, ?_⟩
 cases t with
 | nil=>
  cases hn
  exact iT ⟨Nat.zero_le _,fun w hw=>k w _ [] (sameNew hw) hw aO .nil⟩
 | node l a b c r=>
  obtain⟨p,q,vl,vr,rfl,hp,hq,jG,ui⟩:=hn
  have e1:=S7 hl
  obtain⟨e2,e3⟩:=S8 l r a b c
  refine iF ⟨_,rfl,aJ hp rfl ⟨vl,l,rfl,jG,by omega,by omega,fun w H1 xs s1 fw hw px=> ?_⟩⟩
  have lx:=Paired.length px
  refine⟨_,rfl, .inl ⟨rfl,_,aP.of hw⟩,_,rfl,aJ (s1 _ _ hp) rfl ⟨_,hw,lO (by omega), ?_⟩⟩
  have b1:dC w H1 (upd H1 w (.lst (xs++ [V.ref q]))):=dC.upd
  have s2:aE H (upd H1 w (.lst (xs++ [V.ref q]))):=lN s1 fw b1
  have t1:=b1.cP hw
  generalize hH2:upd H1 w (.lst (xs++ [V.ref q]))=H2 at s2 t1
  have DQ:H2 w=some (.lst (xs++ [V.ref q])):=by rw[←hH2,aO]
  refine⟨_,rfl, .inl ⟨rfl,_,aP.of DQ⟩,_,rfl,aJ (s2 _ _ hp) rfl ⟨vr,r,rfl,ui.mono (bz s2),by omega,by omega,fun w2 H3 ys s3 rn lW py=> ?_⟩⟩
  have ly:=Paired.length py
  refine⟨_,_,s3 _ _ DQ,lW,bP (by simp;omega), ?_⟩
  have b3:dC w H3 (upd H3 w (.lst (xs++ [V.ref q]++ys))):=dC.upd
  have t3:=b3.cP (s3 _ _ DQ)
  refine⟨_,rfl,k w _ (xs++ [V.ref q]++ys) (lN (s2.trans s3) fw b3) fw aO ?_⟩
  have e:(Tr.node l a b c r).ar=l.ar++ [(a,b,c)]++r.ar:=by simp[Tr.ar]
  rw[e]
  refine((((px.mono t1).mono (bz s3)).app (.cons ⟨q,rfl,s3 _ _ (t1 _ _ (s1 _ _ hq))⟩ .nil)).app py).mono t3
def ends(ts:List Str)(n:Int):Int:=(((av ts).take n.toNat).count 10:Nat)
def iX(C:Addr):Sp:=fun vs H Q E=> ∃(p dx lt lb lf:Addr) (ts:List Str) (n:Int),vs=[.ref p, .int n]∧cq C H p dx lt lb lf ts∧0≤n∧Q (.int (ends ts n)) H
theorem al7{K:PySem.W.Frag}{C:Addr}(T:nq K C)(vs:List V)(H:Hp)(Q:VK)(E:XK)(h:iX C vs H Q E):aw (aW K [("many_upto",pk)] [] (E:=E)) Cp {nx:=fun _ H'=>Q .az H',rt:=Q} (start Co vs) H:=by
 obtain⟨p,dx,lt,lb,lf,ts,n,rfl,S,hn,q⟩:=h
 refine⟨_,rfl,p,C,dx,_,_,rfl,S.ob,T.cl,T.wQ,DB,_,rfl,trivial,lf,_,_,rfl,S.fd,akC _ _, ?_⟩
 obtain⟨m,rfl⟩:=Int.eq_ofNat_of_zero_le hn
 rw[akD]
 exact q
abbrev al8(C:Addr):List (Str×Addr×Sp):=[("ends_ahead",C,iX C)]
theorem S9{lt lb lf:Addr}{n:Int}:(dP lt lb lf n).lookup ("ends_ahead":Str)=none:=q_ (by decide+kernel) (by decide+kernel) (by decide+kernel) (by decide+kernel)
def xX(C:Addr):Sp:=fun vs H Q E=> ∃(q:Addr) (a b c n:Int) (p dx lt lb lf:Addr) (ts:List Str),vs=[.ref q, .int n, .ref p]∧H q=some (tp (a,b,c))∧cq C H p dx lt lb lf ts∧0≤a∧0≤n∧
 ∀(w q1 q2:Addr) (H':Hp),aE H H'→H' w=some (.tup [.ref q1, .ref q2])→H' q1=some (tp (a,n,ends ts (a+n) - ends ts a))→H' q2=some (tp (a+n,b - n,c - (ends ts (a+n) - ends ts a)))→Q (.ref w) H'
theorem al9{K:PySem.W.Frag}{C:Addr}(vs:List V)(H:Hp)(Q:VK)(E:XK)(h:xX C vs H Q E):aw (aW K [] [] [] (al8 C) (E:=E)) Ci {nx:=fun _ H'=>Q .az H',rt:=Q} (start Cg vs) H:=by
 obtain⟨q,a,b,c,n,p,dx,lt,lb,lf,ts,rfl,hq,S,ha,hn,k⟩:=h
 refine⟨_,rfl,aJ hq rfl ⟨_,rfl, ?_⟩⟩
 refine⟨_,rfl,p,dx,_,rfl,S.ob,S9,_,rfl,p,dx,lt,lb,lf,ts,_,rfl,S,(by show 0≤a+n;omega), ?_⟩
 refine⟨_,rfl,p,dx,_,rfl,S.ob,S9,_,rfl,aJ hq rfl ⟨p,dx,lt,lb,lf,ts,a,rfl,S,ha,trivial, ?_⟩⟩
 refine⟨_,rfl,aJ hq rfl ⟨_,rfl,_,rfl,(by show 3≤sizeLine;decide),fun q1 f1=> ?_⟩⟩
 have s1:=sameNew (o:=tp (a,n,ends ts (a+n) - ends ts a)) f1
 refine⟨_,rfl,_,rfl,aJ (s1 _ _ hq) rfl ⟨_,rfl,trivial,_,rfl,aJ (s1 _ _ hq) rfl ⟨_,rfl,trivial,(by show 3≤sizeLine;decide),fun q2 f2=> ?_⟩⟩⟩
 have s2:=sameNew (o:=tp (a+n,b - n,c - (ends ts (a+n) - ends ts a))) f2
 refine⟨(by show 2≤sizeLine;decide),fun w fw=> ?_⟩
 have s3:=sameNew (o:= .tup [V.ref q1,V.ref q2]) fw
 exact k w q1 q2 _ (s1.trans (s2.trans s3)) aO (s3 _ _ (s2 _ _ aO)) (s3 _ _ aO)
theorem g4: ∀t:Tr,t.sz=cZ t.ar
 | .nil=>rfl
 | .node l a b c r=>by
  show l.sz+b+r.sz=cZ (l.ar++ (a,b,c)::r.ar)
  rw[Sa,pd,g4 l,g4 r]
  show cZ l.ar+b+cZ r.ar=cZ l.ar+ (b+cZ r.ar)
  omega
def uj(p:P3):Prop:=0≤p.1∧1≤p.2.1
def eJ(C:Addr)(n:Nat):Sp:=fun vs H Q E=> ∃(v:V) (t:Tr) (pl:Int) (p dx lt lb lf:Addr) (ts:List Str),vs=[v, .int pl, .ref p]∧Nd H t v∧t.ok∧cq C H p dx lt lb lf ts∧(∀q∈t.ar,uj q)∧t.h<n∧t.ar.length≤1000∧0≤pl∧pl≤t.sz∧
 ∀(w:Addr) (v1 v2:V) (t1 t2:Tr) (H':Hp),aE H H'→H' w=some (.tup [v1,v2])→Nd H' t1 v1→Nd H' t2 v2→t1.ok→t2.ok→t1.ar=cQ (ends ts) t.ar pl→t2.ar=cR (ends ts) t.ar pl→Q (.ref w) H'
theorem al_(C:Addr)(vs:List V)(H:Hp)(Q:VK)(E:XK): ¬eJ C 0 vs H Q E:=by
 rintro⟨v,t,pl,p,dx,lt,lb,lf,ts, -, -, -, -, -,h, -⟩
 have:=Tr.h0 t
 omega
abbrev ama(C:Addr)(n:Nat):List (Str×Sp):=[("size_of",eY),("parted",eJ C n),("joined",eA 64),("cut_in_two",xX C)]
theorem amb{K:PySem.W.Frag}{C:Addr}(n:Nat)(vs:List V)(H:Hp)(Q:VK)(E:XK)(h:eJ C (n+1) vs H Q E):aw (aW K (ama C n) [] (E:=E)) Ck {nx:=fun _ H'=>Q .az H',rt:=Q} (start Cj vs) H:=by
 obtain⟨v,t,pl,p,dx,lt,lb,lf,ts,rfl,hn,ho,S,DR,hh,hlen,hp0,fk,k⟩:=h
 refine⟨_,rfl,rfl,_,rfl, ?_⟩
 cases t with
 | nil=>
  cases hn
  exact iT ⟨(by show 2≤sizeLine;decide),fun w hw=>k w .az .az .nil .nil _ (sameNew hw) aO rfl rfl trivial trivial rfl rfl⟩
 | node l a b c r=>
  obtain⟨pa,q,vl,vr,rfl,lX,hq,hl,hr⟩:=hn
  obtain⟨o1,o2,o3,o4⟩:=ho
  obtain⟨e2,e3⟩:=S8 l r a b c
  have e1:=S7 hlen
  have kJ:=g4 l
  have ay2:=g4 r
  have iw: ∀x∈l.ar,uj x:=fun x hx=>DR x (by simp[Tr.ar,hx])
  have uk: ∀x∈r.ar,uj x:=fun x hx=>DR x (by simp[Tr.ar,hx])
  have pm:uj (a,b,c):=DR _ (by simp[Tr.ar])
  have um:(Tr.node l a b c r).ar=l.ar++ (a,b,c)::r.ar:=rfl
  have ay3:(Tr.node l a b c r).sz=l.sz+b+r.sz:=rfl
  have ay4:=Tr.ij o1 (by omega:l.ar.length≤1000)
  have ay5:=Tr.ij o2 (by omega:r.ar.length≤1000)
  refine iF ⟨_,rfl,aJ lX rfl ?_⟩
  refine⟨_,rfl,aJ lX rfl ⟨vl,l,rfl,hl, ?_⟩⟩
  refine⟨_,rfl,_,rfl,aJ hq rfl ?_⟩
  refine⟨_,rfl,_,rfl,trivial,_,rfl, ?_⟩
  refine eE (fun g=> ?_) (fun g=> ?_)
  ·have hle:pl≤l.sz:=of_decide_eq_true g
   refine⟨_,rfl,aJ lX rfl ⟨_,rfl,_,rfl,vl,l,pl,p,dx,lt,lb,lf,ts,rfl,hl,o1,S,iw,by omega,by omega,hp0,hle,fun w v1 v2 t1 t2 H1 s1 hw n1 n2 k1 k2 c1 c2=> ?_⟩⟩
   obtain⟨x1,x2⟩:=Sd (ends ts) ((a,b,c)::r.ar) l.ar pl (fun x hx=> (iw x hx).2) (by omega)
   have l2:=(tR (ends ts) l.ar pl).2
   have h2:=Tr.ij k2 (by rw[c2];omega)
   refine⟨_,rfl,aJ hw rfl ⟨_,rfl,aJ hw rfl ⟨_,rfl,_,rfl,aJ (s1 _ _ lX) rfl ⟨v2,q,vr,t2,r,a,b,c,rfl,n2,hr.mono (bz s1),s1 _ _ hq,k2,o2,(by show _< ((64:Nat):Int);omega),fun v3 H2 t3 s2 n3 J=> ⟨(by show 2≤sizeLine;decide),fun w2 rn=> ?_⟩⟩⟩⟩⟩
   have s3:=sameNew (o:= .tup [v1,v3]) rn
   refine k w2 v1 v3 t1 t3 _ (s1.trans (s2.trans s3)) aO ((n1.mono (bz s2)).mono (bz s3)) (n3.mono (bz s3)) k1 J.ok ?_ ?_
   ·rw[um,x1,c1]
   ·rw[um,x2,J.ar,c2]
  ·have hgt: ¬pl≤l.sz:=fun z=>g (decide_eq_true z)
   refine⟨_,rfl,_,rfl,trivial,_,rfl, ?_⟩
   refine eE (fun g=> ?_) (fun g=> ?_)
   ·have ph:l.sz+b≤pl:=of_decide_eq_true g
    refine⟨_,rfl,aJ lX rfl ⟨_,rfl,_,rfl,trivial,_,rfl,vr,r,pl - (l.sz+b),p,dx,lt,lb,lf,ts,rfl,hr,o2,S,uk,by omega,by omega,by omega,by omega,fun w v1 v2 t1 t2 H1 s1 hw n1 n2 k1 k2 c1 c2=> ?_⟩⟩
    have ez:cZ (l.ar++ [(a,b,c)])=l.sz+b:=by
     rw[Sa,pd,R_,kJ]
     show cZ l.ar+ (b+0)=_
     omega
    obtain⟨x1,x2⟩:=Df (ends ts) r.ar (l.ar++ [(a,b,c)]) pl (fun x hx=>by
     rcases List.mem_append.mp hx with z | z
     ·exact(iw x z).2
     ·rw[List.mem_singleton.mp z];exact pm.2) (by omega)
    have l1:=(tR (ends ts) r.ar (pl - (l.sz+b))).1
    have h1:=Tr.ij k1 (by rw[c1];omega)
    refine⟨_,rfl,aJ (s1 _ _ lX) rfl ⟨_,rfl,_,rfl,aJ hw rfl ⟨vl,q,v1,l,t1,a,b,c,rfl,hl.mono (bz s1),n1,s1 _ _ hq,o1,k1,(by show _< ((64:Nat):Int);omega),fun v3 H2 t3 s2 n3 J=> ?_⟩⟩⟩
    refine⟨_,rfl,aJ (s2 _ _ hw) rfl ⟨(by show 2≤sizeLine;decide),fun w2 rn=> ?_⟩⟩
    have s3:=sameNew (o:= .tup [v3,v2]) rn
    have e5:(Tr.node l a b c r).ar=(l.ar++ [(a,b,c)])++r.ar:=by rw[um];simp
    refine k w2 v3 v2 t3 t2 _ (s1.trans (s2.trans s3)) aO (n3.mono (bz s3)) ((n2.mono (bz s2)).mono (bz s3)) J.ok k2 ?_ ?_
    ·rw[e5,x1,ez,J.ar,c1];simp
    ·rw[e5,x2,ez,c2]
   ·have bG: ¬l.sz+b≤pl:=fun z=>g (decide_eq_true z)
    refine⟨_,rfl,_,rfl,_,rfl,trivial,_,rfl,q,a,b,c,pl - l.sz,p,dx,lt,lb,lf,ts,rfl,hq,S,pm.1,by omega,fun w q1 q2 H1 s1 hw h1 h2=> ?_⟩
    obtain⟨x1,x2⟩:=Df (ends ts) ((a,b,c)::r.ar) l.ar pl (fun x hx=> (iw x hx).2) (by omega)
    rw[←kJ] at x1 x2
    refine⟨_,rfl,aJ (s1 _ _ lX) rfl ⟨_,rfl,aJ hw rfl ⟨vl,q1, .az,l, .nil,a,pl - l.sz,_,rfl,hl.mono (bz s1),rfl,h1,o1,trivial,(by show _< ((64:Nat):Int);show l.h+0<64;omega),fun v3 H2 t3 s2 n3 J=> ?_⟩⟩⟩
    refine⟨_,rfl,aJ (s2 _ _ hw) rfl ⟨_,rfl,aJ (s2 _ _ (s1 _ _ lX)) rfl ⟨.az,q2,vr, .nil,r,_,_,_,rfl,rfl,(hr.mono (bz s1)).mono (bz s2),s2 _ _ h2,trivial,o2,(by show _< ((64:Nat):Int);show 0+r.h<64;omega),fun v4 H3 t4 s3 n4 J2=> ⟨(by show 2≤sizeLine;decide),fun w2 rn=> ?_⟩⟩⟩⟩
    have s4:=sameNew (o:= .tup [v3,v4]) rn
    refine k w2 v3 v4 t3 t4 _ (s1.trans (s2.trans (s3.trans s4))) aO ((n3.mono (bz s3)).mono (bz s4)) (n4.mono (bz s4)) J.ok J2.ok ?_ ?_
    ·rw[um,x1,J.ar]
     simp only[cQ]
     rw[if_neg (by omega),if_neg (by show ¬b≤pl - l.sz;omega)]
     rfl
    ·rw[um,x2,J2.ar]
     simp only[cR]
     rw[if_neg (by omega),if_neg (by show ¬b≤pl - l.sz;omega)]
     rfl
end L2.N
namespace L2.N
open PySem PySem.Spec L2.B
def seg(S:List Nat)(q:P3):List Nat:=(S.drop q.1.toNat).take q.2.1.toNat
def txt(S:List Nat)(ps:List P3):List Nat:=ps.flatMap (seg S)
theorem txt_nil(S:List Nat):txt S []=[]:=rfl
theorem da(S:List Nat)(p:P3)(r:List P3):txt S (p::r)=seg S p++txt S r:=rfl
theorem uq(S:List Nat)(a b:List P3):txt S (a++b)=txt S a++txt S b:=List.flatMap_append
structure cg (S:List Nat) (q:P3):Prop where
 p0:0≤q.1
 p1:1≤q.2.1
 p2:q.1+q.2.1≤S.length
 p3:q.2.2=((seg S q).count 10:Nat)
theorem cg.len{S:List Nat}{q:P3}(h:cg S q):((seg S q).length:Int)=q.2.1:=by
 have h0:=h.p0
 have h1:=h.p1
 have h2:=h.p2
 unfold seg
 rw[List.length_take,List.length_drop]
 omega
theorem cg.grow{S T:List Nat}{q:P3}(h:cg S q):cg (S++T) q∧seg (S++T) q=seg S q:=by
 have h0:=h.p0
 have h1:=h.p1
 have h2:=h.p2
 have e:seg (S++T) q=seg S q:=by
  unfold seg
  rw[List.drop_append_of_le_length (by omega),List.take_append_of_le_length (by rw[List.length_drop];omega)]
 exact⟨⟨h0,h1,by rw[List.length_append];omega,by rw[e];exact h.p3⟩,e⟩
theorem DS{S T:List Nat}: ∀{ps:List P3},(∀q∈ps,cg S q)→txt (S++T) ps=txt S ps
 | [],_=>rfl
 | p::r,h=>by
  rw[da,da,(h p List.mem_cons_self).grow.2,DS fun q hq=>h q (List.mem_cons_of_mem _ hq)]
theorem rp{S:List Nat}: ∀{ps:List P3},(∀q∈ps,cg S q)→((txt S ps).length:Int)=cZ ps
 | [],_=>rfl
 | p::r,h=>by
  rw[da,List.length_append,pd,←rp fun q hq=>h q (List.mem_cons_of_mem _ hq),←(h p List.mem_cons_self).len]
  omega
theorem xY: ∀t:Tr,t.en=((t.ar.map fun p=>p.2.2).sum)
 | .nil=>rfl
 | .node l a b c r=>by
  show l.en+c+r.en=((l.ar++ (a,b,c)::r.ar).map fun p=>p.2.2).sum
  rw[List.map_append,List.sum_append,List.map_cons,List.sum_cons,xY l,xY r]
  show(l.ar.map fun p=>p.2.2).sum+c+ (r.ar.map fun p=>p.2.2).sum=(l.ar.map fun p=>p.2.2).sum+ (c+ (r.ar.map fun p=>p.2.2).sum)
  omega
theorem DT{S:List Nat}: ∀{ps:List P3},(∀q∈ps,cg S q)→(ps.map fun p=>p.2.2).sum=((txt S ps).count 10:Nat)
 | [],_=>rfl
 | p::r,h=>by
  rw[da,List.count_append,List.map_cons,List.sum_cons,DT fun q hq=>h q (List.mem_cons_of_mem _ hq),(h p List.mem_cons_self).p3]
  omega
theorem S_{S:List Nat}{a b n:Int}(h0:0≤a)(h1:0≤n)(h2:n≤b)(h3:a+b≤S.length)(c1 c2 c3:Int):seg S (a,n,c1)++seg S (a+n,b - n,c2)=seg S (a,b,c3):=by
 unfold seg
 show(S.drop a.toNat).take n.toNat++ (S.drop (a+n).toNat).take (b - n).toNat=(S.drop a.toNat).take b.toNat
 have e1:(a+n).toNat=a.toNat+n.toNat:=by omega
 have e2:b.toNat=n.toNat+ (b - n).toNat:=by omega
 rw[e1,e2,←List.drop_drop,List.take_add]
theorem Ta{S:List Nat}{a n:Int}(h0:0≤a)(h1:0≤n)(c:Int):((S.take (a+n).toNat).count 10:Int) - ((S.take a.toNat).count 10:Nat)=((seg S (a,n,c)).count 10:Nat):=by
 have e1:(a+n).toNat=a.toNat+n.toNat:=by omega
 unfold seg
 show((S.take (a+n).toNat).count 10:Int) - ((S.take a.toNat).count 10:Nat)=((((S.drop a.toNat).take n.toNat).count 10:Nat):Int)
 rw[e1,List.take_add,List.count_append]
 omega
theorem xZ{ts:List Str}: ∀(ps:List P3) (n:Int),(∀q∈ps,cg (av ts) q)→0≤n→n≤cZ ps→
  (∀q∈cQ (ends ts) ps n,cg (av ts) q)∧(∀q∈cR (ends ts) ps n,cg (av ts) q)∧txt (av ts) (cQ (ends ts) ps n)=(txt (av ts) ps).take n.toNat∧txt (av ts) (cR (ends ts) ps n)=(txt (av ts) ps).drop n.toNat:=by
 intro ps
 induction ps with
 | nil=>
  intro n _ h0 h1
  exact⟨fun q hq=> (by cases hq),fun q hq=> (by cases hq),by simp[cQ,txt],by simp[cR,txt]⟩
 | cons p r ih=>
  intro n h h0 h1
  obtain⟨a,b,c⟩:=p
  have hp:=h _ List.mem_cons_self
  have hr: ∀q∈r,cg (av ts) q:=fun q hq=>h q (List.mem_cons_of_mem _ hq)
  have q0:0≤a:=hp.p0
  have q1:1≤b:=hp.p1
  have q2:a+b≤ (av ts).length:=hp.p2
  have hl:=hp.len
  have Ox:((seg (av ts) (a,b,c)).length:Int)=b:=hl
  by_cases z:n≤0
  ·obtain⟨e1,e2⟩:=De (ends ts) z ((a,b,c)::r)
   rw[e1,e2]
   have:n.toNat=0:=by omega
   rw[this]
   exact⟨fun q hq=> (by cases hq),h,by simp[txt],by simp⟩
  ·by_cases g:b≤n
   ·have e1:cQ (ends ts) ((a,b,c)::r) n=(a,b,c)::cQ (ends ts) r (n - b):=by simp only[cQ];rw[if_neg z,if_pos g]
    have e2:cR (ends ts) ((a,b,c)::r) n=cR (ends ts) r (n - b):=by simp only[cR];rw[if_neg z,if_pos g]
    rw[pd] at h1
    have t_:n≤b+cZ r:=h1
    obtain⟨i1,i2,i3,i4⟩:=ih (n - b) hr (by omega) (by omega)
    rw[e1,e2]
    refine⟨fun q hq=> ?_,i2, ?_, ?_⟩
    ·rcases List.mem_cons.mp hq with rfl | hq
     ·exact hp
     ·exact i1 q hq
    ·rw[da,da,i3]
     have:n.toNat=(seg (av ts) (a,b,c)).length+ (n - b).toNat:=by omega
     rw[this,List.take_length_add_append]
    ·rw[da,i4]
     have:n.toNat=(seg (av ts) (a,b,c)).length+ (n - b).toNat:=by omega
     rw[this,List.drop_length_add_append]
   ·have e1:cQ (ends ts) ((a,b,c)::r) n=[(a,n,ends ts (a+n) - ends ts a)]:=by simp only[cQ];rw[if_neg z,if_neg g]
    have e2:cR (ends ts) ((a,b,c)::r) n=(a+n,b - n,c - (ends ts (a+n) - ends ts a))::r:=by simp only[cR];rw[if_neg z,if_neg g]
    rw[e1,e2]
    have k1:cg (av ts) (a,n,ends ts (a+n) - ends ts a):=⟨q0,by show 1≤n;omega,by show a+n≤_;omega,Ta q0 h0 _⟩
    have sc:=S_ (S:=av ts) q0 h0 (by omega:n≤b) q2 (ends ts (a+n) - ends ts a) (c - (ends ts (a+n) - ends ts a)) c
    have k2:cg (av ts) (a+n,b - n,c - (ends ts (a+n) - ends ts a)):=by
     refine⟨by show 0≤a+n;omega,by show 1≤b - n;omega,by show a+n+ (b - n)≤_;omega, ?_⟩
     have e4:c=ends ts (a+n) - ends ts a+ ((seg (av ts) (a+n,b - n,c - (ends ts (a+n) - ends ts a))).count 10:Nat):=by
      have k3:=k1.p3
      have e5:=hp.p3
      rw[←sc,List.count_append] at e5
      have e6:c=(((seg (av ts) (a,n,ends ts (a+n) - ends ts a)).count 10+ (seg (av ts) (a+n,b - n,c - (ends ts (a+n) - ends ts a))).count 10:Nat):Int):=e5
      have k4:ends ts (a+n) - ends ts a=((seg (av ts) (a,n,ends ts (a+n) - ends ts a)).count 10:Nat):=k3
      omega
     show c - (ends ts (a+n) - ends ts a)=_
     omega
    refine⟨fun q hq=> ?_,fun q hq=> ?_, ?_, ?_⟩
    ·rw[List.mem_singleton.mp hq];exact k1
    ·rcases List.mem_cons.mp hq with rfl | hq
     ·exact k2
     ·exact hr q hq
    ·rw[da,txt_nil,List.append_nil,da,←sc]
     have l1:=k1.len
     have:n.toNat=(seg (av ts) (a,n,ends ts (a+n) - ends ts a)).length:=by have l1':((seg (av ts) (a,n,ends ts (a+n) - ends ts a)).length:Int)=n:=l1;omega
     rw[this,List.append_assoc,List.take_left]
    ·rw[da,da,←sc]
     have l1:=k1.len
     have:n.toNat=(seg (av ts) (a,n,ends ts (a+n) - ends ts a)).length:=by have l1':((seg (av ts) (a,n,ends ts (a+n) - ends ts a)).length:Int)=n:=l1;omega
     rw[this,List.append_assoc,List.drop_left]
theorem cj{Γ:aC}{D:Ends}{σ:St}{H:Hp}{r:List RS}(h:aw Γ r D σ H):aw Γ [] {D with nx:=aw Γ r D} σ H:=h
def lY(n:Nat):Sp:=fun vs H Q E=> ∃v l a b c r,vs=[v]∧Nd H (.node l a b c r) v∧(Tr.node l a b c r).ok∧(Tr.node l a b c r).h<n∧(Tr.node l a b c r).h≤30∧
 ∀w H' q vt t a' b' c',aE H H'→H' w=some (.tup [.ref q,vt])→Nd H' t vt→H' q=some (tp (a',b',c'))→t.ok→(Tr.node l a b c r).ar=(a',b',c')::t.ar→t.h≤ (Tr.node l a b c r).h→Q (.ref w) H'
theorem ame(vs:List V)(H:Hp)(Q:VK)(E:XK): ¬lY 0 vs H Q E:=by
 rintro⟨v,l,a,b,c,r, -, -, -,h, -⟩
 have:=Tr.h0 (.node l a b c r)
 omega
abbrev amf(n:Nat):List (Str×Sp):=[("first_out",lY n),("joined",eA 64)]
theorem amg{K:PySem.W.Frag}(n:Nat)(vs:List V)(H:Hp)(Q:VK)(E:XK)(h:lY (n+1) vs H Q E):aw (aW K (amf n) [] (E:=E)) Cd {nx:=fun _ H'=>Q .az H',rt:=Q} (start Cc vs) H:=by
 obtain⟨v,l,a,b,c,r,rfl,⟨p,q,vl,vr,rfl,hp,hq,hl,hr⟩,ho,hh,h30,k⟩:=h
 have e1:=Tr.cW l a b c r
 have r0:=Tr.h0 r
 refine⟨_,rfl,aJ hp rfl ⟨rfl,_,rfl, ?_⟩⟩
 cases l with
 | nil=>
  cases hl
  refine iT ⟨_,rfl,aJ hp rfl ⟨_,rfl,aJ hp rfl ⟨(by show 2≤sizeLine;decide),fun w hw=> ?_⟩⟩⟩
  have s:=sameNew (o:= .tup [.ref q,vr]) hw
  exact k w _ q vr r a b c s aO (hr.mono (bz s)) (s _ _ hq) ho.2.1 rfl (by rw[e1];split<;>omega)
 | node ll a1 b1 c1 lr=>
  obtain⟨p2,q2,pA,rk,rfl,xR,ie,pE,gO⟩:=hl
  have bG:(Tr.node ll a1 b1 c1 lr).h< (Tr.node (.node ll a1 b1 c1 lr) a b c r).h:=by rw[e1];split<;>omega
  have hle:r.h< (Tr.node (.node ll a1 b1 c1 lr) a b c r).h:=by rw[e1];split<;>omega
  refine iF ⟨_,rfl,aJ hp rfl ⟨.ref p2,ll,a1,b1,c1,lr,rfl,⟨p2,q2,pA,rk,rfl,xR,ie,pE,gO⟩,ho.1,by omega,by omega,fun w H1 q3 vt t a2 b2 c2 s1 hw ht DO to DP th=> ?_⟩⟩
  refine⟨_,rfl,aJ hw rfl ⟨_,rfl,aJ hw rfl ⟨_,rfl,aJ (s1 _ _ hp) rfl ⟨_,rfl,aJ (s1 _ _ hp) rfl ⟨vt,q,vr,t,r,a,b,c,rfl,ht,hr.mono (bz s1),s1 _ _ hq,to,ho.2.1,(by show t.h+r.h< (64:Nat);omega),fun v2 H2 t2 s2 n2 J=> ?_⟩⟩⟩⟩⟩
  refine⟨(by show 2≤sizeLine;decide),fun w2 lW=> ?_⟩
  have s3:=sameNew (o:= .tup [.ref q3,v2]) lW
  have jh:=J.hi
  refine k w2 _ q3 v2 t2 a2 b2 c2 (s1.trans (s2.trans s3)) aO (n2.mono (bz s3)) (s3 _ _ (s2 _ _ DO)) J.ok ?_ ?_
  ·rw[J.ar,Tr.ar,DP];simp
  ·have:=J.hi;omega
def lZ:Sp:=fun vs H Q E=> ∃(vl vr:V) (l r:Tr) (S:List Nat),vs=[vl,vr]∧Nd H l vl∧Nd H r vr∧l.ok∧r.ok∧(∀q∈l.ar,cg S q)∧(∀q∈r.ar,cg S q)∧(l≠ .nil→r≠ .nil)∧l.ar.length≤1000∧r.ar.length≤1000∧
 ∀v H' t,aE H H'→Nd H' t v→t.ok→(∀q∈t.ar,cg S q)→txt S t.ar=txt S l.ar++txt S r.ar→t.ar.length≤l.ar.length+r.ar.length→Q v H'
abbrev amh:List (Str×Sp):=[("last_out",lV 32),("first_out",lY 32),("joined",eA 64)]
theorem ami{K:PySem.W.Frag}(vs:List V)(H:Hp)(Q:VK)(E:XK)(h:lZ vs H Q E):aw (aW K amh [] (E:=E)) Cf (Dn Q) (start Ce vs) H:=by
 obtain⟨vl,vr,l,r,S,rfl,hl,hr,ol,or,pl,pr,lj,ll,lr,k⟩:=h
 refine⟨_,rfl,rfl,_,rfl, ?_⟩
 cases l with
 | nil=>
  cases hl
  exact iT ⟨_,rfl,k vr H r (aE.refl _) hr or pr rfl (by show _≤0+_;omega)⟩
 | node l1 a b c l2=>
  cases r with
  | nil=>exact absurd rfl (lj (by simp))
  | node r1 a' b' c' r2=>
   have h1:=Tr.ij ol ll
   have h2:=Tr.ij or lr
   have hl0:=hl
   obtain⟨p,q,wl,wr,rfl,hp, -⟩:=hl0
   refine iF ⟨_,rfl, .ref p,l1,a,b,c,l2,rfl,hl,ol,by omega,by omega,fun w H1 q1 vt t x y z s1 hw ht hq1 to ep th=> ?_⟩
   refine⟨_,rfl,vr,r1,a',b',c',r2,rfl,hr.mono (bz s1),or,by omega,by omega,fun w2 H2 q2 vu u x' y' z' s2 lW hu ie uo x3 uh=> ?_⟩
   have pI:=s2 _ _ hw
   have rq:=s2 _ _ hq1
   refine⟨_,rfl,aJ pI rfl ⟨_,rfl,aJ lW rfl ?_⟩⟩
   have p1:cg S (x,y,z):=pl _ (by rw[ep];simp)
   have p2:cg S (x',y',z'):=pr _ (by rw[x3];simp)
   have pt: ∀q∈t.ar,cg S q:=fun q hq=>pl q (by rw[ep];simp[hq])
   have pu: ∀q∈u.ar,cg S q:=fun q hq=>pr q (by rw[x3];simp[hq])
   have el:(Tr.node l1 a b c l2).ar.length=t.ar.length+1:=by rw[ep];simp
   have er:(Tr.node r1 a' b' c' r2).ar.length=u.ar.length+1:=by rw[x3];simp
   have t0:=Tr.h0 t
   have u0:=Tr.h0 u
   refine bc (bf (aM (ba (ag rfl (ao (aJ rq rfl (ba (ag rfl (ao (aJ rq rfl (bZ (ba (ag rfl (ao (aJ ie rfl (dg ⟨_,rfl, ?_⟩))))))))))))))))
   by_cases g:x+y=x'
   ·refine iT ?_ (decide_eq_true g)
    refine bY (bA (eA 64) rfl (au (ba (ag rfl (ao (aJ pI rfl (au (dM (au (ba (ag rfl (ao (aJ rq rfl ?_)))))))))))))
    refine au (aM (ba (ag rfl (ao (aJ rq rfl (ba (ag rfl (ao (aJ ie rfl (bZ ?_))))))))))
    refine au (aM (ba (ag rfl (ao (aJ rq rfl (ba (ag rfl (ao (aJ ie rfl (bZ (aG ⟨(by show 3≤sizeLine;decide),fun q3 f3=> ?_⟩)))))))))))
    have s3:=sameNew (o:=tp (x,y+y',z+z')) f3
    refine au (ba (ag rfl (ao (aJ (s3 _ _ lW) rfl (aG ?_)))))
    refine⟨vt,q3,vu,t,u,x,y+y',z+z',rfl,(ht.mono (bz s2)).mono (bz s3),hu.mono (bz s3),aO,to,uo,(by show t.h+u.h< (64:Nat);omega),fun v H3 tt s4 n4 J=> ?_⟩
    have j0:=p1.p0
    have j1:=p1.p1
    have j2:=p2.p2
    have j3:=p2.p1
    have Tb:0≤x:=j0
    have j1':1≤y:=j1
    have j2':x'+y'≤S.length:=j2
    have j3':1≤y':=j3
    have sc:=S_ (S:=S) (a:=x) (b:=y+y') (n:=y) Tb (by omega) (by omega) (by omega) z z' (z+z')
    rw[g,show y+y' - y=y' by omega] at sc
    have p3:cg S (x,y+y',z+z'):=by
     refine⟨Tb,by show 1≤y+y';omega,by show x+ (y+y')≤_;omega, ?_⟩
     have c1:=p1.p3
     have c2:=p2.p3
     have c1':z=((seg S (x,y,z)).count 10:Nat):=c1
     have c2':z'=((seg S (x',y',z')).count 10:Nat):=c2
     show z+z'=_
     rw[←sc,List.count_append]
     omega
    refine k v H3 tt (s1.trans (s2.trans (s3.trans s4))) n4 J.ok (fun q hq=> ?_) ?_ ?_
    ·rw[J.ar] at hq
     rcases List.mem_append.mp hq with hq | hq
     ·exact pt q hq
     ·rcases List.mem_cons.mp hq with rfl | hq
      ·exact p3
      ·exact pu q hq
    ·rw[J.ar,ep,x3,uq,uq,da,da,da,txt_nil,←sc];simp
    ·rw[J.ar,el,er,List.length_append,List.length_cons];omega
   ·refine iF (cj ?_) (decide_eq_false g)
    refine bY (bA (eA 64) rfl (au (ba (ag rfl (ao (aJ pI rfl (au (ag rfl (au (ag rfl (aG ?_)))))))))))
    have h3:=Tr.ij or lr
    refine⟨vt,q1,vr,t, .node r1 a' b' c' r2,x,y,z,rfl,ht.mono (bz s2),(hr.mono (bz s1)).mono (bz s2),rq,to,or,(by show t.h+_< ((64:Nat):Int);omega),fun v H3 tt s4 n4 J=> ?_⟩
    refine k v H3 tt (s1.trans (s2.trans s4)) n4 J.ok (fun q hq=> ?_) ?_ ?_
    ·rw[J.ar] at hq
     rcases List.mem_append.mp hq with hq | hq
     ·exact pt q hq
     ·rcases List.mem_cons.mp hq with rfl | hq
      ·exact p1
      ·exact pr q hq
    ·rw[J.ar,ep,uq,uq,da,da,txt_nil];simp
    ·rw[J.ar,el,List.length_append,List.length_cons];omega
end L2.N
namespace L2.B
open PySem PySem.Spec PyProof.Rows
theorem aml{K:PySem.W.Frag}{σ:St}{H:Hp}{QQ:List V→Hp→Addr→Prop}{te:TE}{fv:List (Str×Nat)}{a:Addr}{xs:List V}(ha:H a=some (.lst xs))(hl:xs.length≤1000000)(P:Nat→List V→Hp→Prop)(p0:P 0 [] H)
  (step: ∀i x ys H2,xs[i]?=some x→aE H H2→P i ys H2→ ∀Q':VK,(∀y H3,aE H2 H3→P (i+1) (ys++ [y]) H3→Q' y H3)→te (some x::dA σ fv) H2 Q')
  (fin: ∀ys H2 p,aE H H2→P xs.length ys H2→H2 p=none→QQ ys H2 p): ∃W:Nat→Nat→List V→Hp→Prop,(∃m,W 0 m [] H)∧ ∀i m ys H2,W i m ys H2→
   ((eP K a).stop i H2∧ ∀p,H2 p=none→QQ ys H2 p)∨
   ((eP K a).go i H2∧ ∀x H3,(eP K a).gw i H2 x H3→p_ K none x H3 fun zs=>sv none (zs.map some++dA σ fv) H3 fun b H5=>
    if b=true then te (zs.map some++dA σ fv) H5 fun y H6=>ys.length<sizeLine∧ ∃m',m'<m∧W (i+1) m' (ys++ [y]) H6 else ∃m',m'<m∧W (i+1) m' ys H5):=by
 refine⟨fun i m ys H2=>m=xs.length - i∧i≤xs.length∧ys.length=i∧aE H H2∧P i ys H2,⟨_,rfl,Nat.zero_le _,rfl,aE.refl _,p0⟩, ?_⟩
 rintro i m ys H2 ⟨rfl,hi,hy,s,p⟩
 by_cases bG:i<xs.length
 ·refine .inr ⟨⟨xs,xs[i],aP.of (s _ _ ha),by simp[bG]⟩, ?_⟩
  rintro x H3 ⟨rfl,hx⟩
  have mQ:=hx xs (aP.of (s _ _ ha))
  exact step i x ys _ mQ s p _ fun y H4 s4 p4=> ⟨lO (by omega),xs.length - (i+1),by omega,rfl,bG,by simp[hy],s.trans s4,p4⟩
 ·have tW:i=xs.length:=by omega
  subst tW
  exact .inl ⟨⟨xs,aP.of (s _ _ ha),Nat.le_refl _⟩,fun q hq=>fin ys _ q s p hq⟩
end L2.B
namespace L2.N
open PySem PySem.Spec L2.B
section
variable {Γ:aC} {D:Ends} {σ:St} {H:Hp} {r:List RS} {Q:VK}
theorem ur{x:RE}(A B:VK)(Ar: ∀v H1,A v H1↔B v H1)(ha:ak Γ x σ H A):ak Γ x σ H B:=by
 have:A=B:=funext fun x=>funext fun H1=>propext (Ar x H1)
 rw[←this];exact ha
theorem amm{fv:List (Str×Nat)}{x elt:RE}(h:ak Γ x σ H fun v H1=> ∃a,v= .ref a∧(∃xs,aP Γ.K H1 a xs)∧ ∃W:Nat→Nat→List V→Hp→Prop,(∃m,W 0 m [] H1)∧ ∀i m ys H2,W i m ys H2→
   ((eP Γ.K a).stop i H2∧ ∀p,H2 p=none→Q (.ref p) (upd H2 p (.lst ys)))∨
   ((eP Γ.K a).go i H2∧ ∀x H3,(eP Γ.K a).gw i H2 x H3→p_ Γ.K none x H3 fun zs=>sv none (zs.map some++dA σ fv) H3 fun b H5=>
    if b=true then ak Γ.calm elt (zs.map some++dA σ fv) H5 fun y H6=>ys.length<sizeLine∧ ∃m',m'<m∧W (i+1) m' (ys++ [y]) H6 else ∃m',m'<m∧W (i+1) m' ys H5)):ak Γ (.comp none fv .list [x] none elt) σ H Q:=ur (x:=x) _ _ (fun _ _=>Iff.rfl) h
theorem uu{j:Nat}{m:Str}{o a b:RE}(C:Addr)(sp:Sp)(hm:Γ.ms j=(C,sp))(h:ak Γ o σ H fun x H1=> ∃p dx fs,x= .ref p∧H1 p=some (.ins C dx fs)∧fs.lookup m=none∧ak Γ a σ H1 fun y H2=>ak Γ b σ H2 fun z H3=>sp [x,y,z] H3 Q Γ.E):ak Γ (.cm j m o [a,b]) σ H Q:=by
 show mJ (Γ.ms j).1 m (Γ.ms j).2 [] Γ.E (ak Γ o) (bI Γ [a,b]) σ H Q
 rw[hm];exact h
theorem d6{x:RE}(h:ak Γ x σ H fun v H1=>sq Γ.K v H1 fun n=>Q (.int n) H1):ak Γ (.blt .len [x]) σ H Q:=h
end
theorem _root_.L2.B.eW.cP{C:Addr}{H H':Hp}{p dx lt lb lf:Addr}{ts:List Str}(b:eW p lt lb lf H H')(S:cq C H p dx lt lb lf ts):lM H H':=fun c xs e=>
 b c _ e (fun z=>by rw[z,S.ob] at e;cases e) (fun z=>by rw[z,S.tx] at e;cases e) (fun z=>by rw[z,S.bg] at e;cases e) (fun z=>by rw[z,S.fd] at e;cases e)
theorem l_{p lt lb lf:Addr}{H H':Hp}(s:aE H H'):eW p lt lb lf H H':=fun b o e _ _ _ _=>s b o e
theorem amn(x:Str):(Builtin.Str.occurrences x (Str.ofString "\n") 0 x.length (x.length+1)).length=x.cps.toList.count 10:=by
 have:=Dj x 10 0 (x.length+1) (Nat.zero_le _)
 rw[List.drop_zero] at this
 show(Builtin.Str.occurrences x ⟨#[10]⟩ 0 x.length (x.length+1)).length=_
 rw[this,List.length_take,gi]
 have:x.cps.toList.count 10≤x.length:=by rw[len_list];exact List.count_le_length
 omega
theorem amo{K:PySem.W.Frag}{H:Hp}{Q:VK}{x:Str}(q:Q (.int ((x.cps.toList.count 10:Nat):Int)) H):sJ K .count (.str x) [.str "\n"] H Q:=by
 show Q (.int ((Builtin.Str.occurrences x (Str.ofString "\n") 0 x.length (x.length+1)).length:Nat)) H
 rw[amn];exact q
theorem Tc{H:Hp}: ∀{vs:List V} {ps:List P3} {i:Nat} {v:V},iV H vs ps→vs[i]?=some v→ ∃p,ps[i]?=some p∧Pc H v p
 | _,_,i,v, .nil,e=>by simp at e
 | _,_,0,v, .cons h r,e=>by simp at e;subst e;exact⟨_,rfl,h⟩
 | _,_,i+1,v, .cons h r,e=>by
  obtain⟨p,a,b⟩:=Tc (i:=i) r (by simpa using e)
  exact⟨p,by simpa using a,b⟩
theorem amq{lt lb lf:Addr}{n:Int}:(dP lt lb lf n).lookup ("put":Str)=none:=q_ (by decide+kernel) (by decide+kernel) (by decide+kernel) (by decide+kernel)
theorem amr{lt lb lf:Addr}{n:Int}:(dP lt lb lf n).lookup ("read":Str)=none:=q_ (by decide+kernel) (by decide+kernel) (by decide+kernel) (by decide+kernel)
def iy(C:Addr):Sp:=fun vs H Q E=> ∃(s dx lt lb lf:Addr) (ts:List Str) (x:Str),vs=[.ref s, .str x]∧cq C H s dx lt lb lf ts∧good x∧ts.length≤10000∧(av ts).length≤500000∧
 ((x=""∧Q .az H)∨(x≠""∧ ∀v H' t,eW s lt lb lf H H'→cq C H' s dx lt lb lf (ts++ [x])→Nd H' t v→t.ok→t.ar=[(((av ts).length:Int),(x.length:Int),(x.cps.toList.count 10:Int))]→Q v H'))
theorem ams{K:PySem.W.Frag}{CT C:Addr}(vs:List V)(H:Hp)(Q:VK)(E:XK)(h:iy C vs H Q E):aw (aW K [("joined",eA 64)] [] [] [("put",C,uc CT C)] (E:=E)) Cr (Dn Q) (start Cq vs) H:=by
 obtain⟨s,dx,lt,lb,lf,ts,x,rfl,S,gx,l1,l2,h⟩:=h
 refine bc (bf (ag rfl (ao (dO ⟨_,rfl, ?_⟩))))
 rcases h with⟨rfl,q⟩ | ⟨hx,k⟩
 ·exact iT (bY (ao q)) (by decide)
 ·refine iF (cj ?_) (beq_eq_false_iff_ne.mpr hx)
  refine bY (bA (eA 64) rfl (au (ao (au (dM (au (fL C (uc CT C) rfl (ag rfl ⟨s,dx,_,rfl,S.ob,amq,ag rfl ⟨s,dx,lt,lb,lf,ts,_,rfl,S, .inr ⟨x,rfl,gx,by omega,by omega,fun H1 b1 S1=> ?_⟩⟩⟩))))))))
  refine au (d6 (ag rfl ⟨bP gx.1, ?_⟩))
  refine au (ke (ag rfl ⟨rfl,ao (amo ?_)⟩))
  refine aG ⟨(by show 3≤sizeLine;decide),fun q f=>au (ao (aG ?_))⟩
  have s2:=sameNew (o:=tp (((av ts).length:Int),(x.length:Int),((x.cps.toList.count 10:Nat):Int))) f
  refine⟨.az,q, .az, .nil, .nil,_,_,_,rfl,rfl,rfl,aO,trivial,trivial,(by show(0:Int)+0< (64:Nat);decide),fun v H2 t s3 n3 J=> ?_⟩
  exact k v H2 t (b1.trans (l_ (s2.trans s3))) (S1.same (s2.trans s3)) n3 J.ok J.ar
def jH(S:List Nat)(q:P3):Str:=⟨(seg S q).toArray⟩
def jI(C:Addr):Sp:=fun vs H Q E=> ∃(s dx lt lb lf:Addr) (ts:List Str) (v:V) (t:Tr),vs=[.ref s,v]∧cq C H s dx lt lb lf ts∧Nd H t v∧t.ok∧(∀q∈t.ar,cg (av ts) q)∧t.ar.length≤1000∧ts.length≤10000∧(av ts).length≤500000∧
 ∀w H',aE H H'→H w=none→H' w=some (.lst ((t.ar.map (jH (av ts))).map V.str))→Q (.ref w) H'
theorem amt{ts:List Str}: ∀t∈ts,t.length≤ (av ts).length:=by
 induction ts with
 | nil=>intro t h;cases h
 | cons a r ih=>
  intro t h
  have e:(av (a::r)).length=a.length+ (av r).length:=by simp[av,Str.length]
  rw[e]
  rcases List.mem_cons.mp h with rfl | h
  ·omega
  ·have:=ih t h;omega
theorem amu{K:PySem.W.Frag}{CP C:Addr}(vs:List V)(H:Hp)(Q:VK)(E:XK)(h:jI C vs H Q E):aw (aW K [("pieces_of",kj 32)] [] [] [("read",C,ug CP C)] (E:=E)) Cv (Dn Q) (start Cu vs) H:=by
 obtain⟨s,dx,lt,lb,lf,ts,v,t,rfl,S,hn,ho,hp,l1,l2,l3,k⟩:=h
 have hh:=Tr.ij ho l1
 refine bY (amm (bA (kj 32) rfl (au (ag rfl (aG ⟨v,t,rfl,hn,by omega,l1,fun w H1 xs s1 fw hw px=> ⟨w,rfl,⟨_,aP.of hw⟩, ?_⟩⟩)))))
 have lx:=Paired.length px
 refine aml hw (by omega) (fun i ys _=>ys=((t.ar.take i).map (jH (av ts))).map V.str) (by simp) ?_ ?_
 ·intro i x ys H2 hx s2 e Q' kk
  obtain⟨pt,pJ,⟨q,rfl,hq⟩⟩:=Tc px hx
  have hi:i<t.ar.length:=(List.getElem?_eq_some_iff.mp pJ).1
  have pc:=hp pt (List.mem_of_getElem? pJ)
  have p0:=pc.p0
  have p1:=pc.p1
  have p2:=pc.p2
  have S2:=(S.same s1).same s2
  have ie:=s2 _ _ hq
  refine uu C (ug CP C) rfl (ag rfl ⟨s,dx,_,rfl,S2.ob,amr,ba (ag rfl (ao (aJ ie rfl (ba (ag rfl (ao (aJ ie rfl ?_)))))))⟩)
  refine⟨s,dx,lt,lb,lf,ts,_,_,rfl,S2, .inr ⟨pt.1.toNat,pt.2.1.toNat, ?_, ?_,by omega,by omega,by omega,fun u hu=>by have:=amt u hu;omega,fun H3 s3=>kk _ _ s3 ?_⟩⟩
  ·rw[show((pt.1.toNat:Nat):Int)=pt.1 by omega]
  ·rw[show((pt.2.1.toNat:Nat):Int)=pt.2.1 by omega]
  ·rw[e,List.take_succ_eq_append_getElem hi,(List.getElem?_eq_some_iff.mp pJ).2,List.map_append,List.map_append];rfl
 ·intro ys H2 p s2 e jP
  have e':ys=(t.ar.map (jH (av ts))).map V.str:=by rw[e,lx,List.take_length]
  have s3:aE H H2:=s1.trans s2
  exact k p _ (s3.trans (sameNew jP)) (s3.free jP) (by rw[aO,e'])
theorem Td(S:List Nat)(ps:List P3):cat (ps.map (jH S))=⟨(txt S ps).toArray⟩:=iS (by
 rw[qX,List.map_map]
 show(ps.map fun q=> (jH S q).cps.toList).flatten=(txt S ps).toArray.toList
 simp only[jH,List.toList_toArray]
 rfl)
theorem amv{S:List Nat}{ps:List P3}:sz (ps.map (jH S))=(txt S ps).length:=by
 have:=congrArg Str.length (Td S ps)
 rw[Sl] at this
 rw[this]
 simp[Str.length]
section
variable {Γ:aC} {D:Ends} {σ:St} {H:Hp} {r:List RS} {Q:VK} {QT:Bool→Hp→Prop}
theorem amw{j:Nat}(C:Addr)(sp:Sp)(hm:Γ.kt j=(C,sp))(h: ∀x dx,H x=none→H dx=none→dx≠x→sp [.ref x] (upd (upd H dx (.own x)) x (.ins C dx [])) (fun v H2=>v= .az∧Q (.ref x) H2) Γ.E):ak Γ (.make j []) σ H Q:=by
 show rX (Γ.kt j).1 (Γ.kt j).2 [] Γ.E (bI Γ []) σ H Q
 rw[hm];exact h
theorem Te{j:Nat}{a b:RE}(C:Addr)(sp:Sp)(hm:Γ.kt j=(C,sp))(h:ak Γ a σ H fun y H0=>ak Γ b σ H0 fun z H1=> ∀x dx,H1 x=none→H1 dx=none→dx≠x→sp [.ref x,y,z] (upd (upd H1 dx (.own x)) x (.ins C dx [])) (fun v H2=>v= .az∧Q (.ref x) H2) Γ.E):ak Γ (.make j [a,b]) σ H Q:=by
 show rX (Γ.kt j).1 (Γ.kt j).2 [] Γ.E (bI Γ [a,b]) σ H Q
 rw[hm];exact h
theorem Tf{o e:RE}{f:Str}(h:ak Γ e σ H fun v H1=>ak Γ o σ H1 fun x H2=> ∃a C dx fs,x= .ref a∧H2 a=some (.ins C dx fs)∧fu Γ.K C∧f_ Γ.K C f∧fs.length<1000∧aw Γ r D σ (upd H2 a (.ins C dx (cA f v fs)))):aw Γ (.jq o f e::r) D σ H:=h
end
def cO(s:Addr)(v:V):List (Str×V):=[("stock", .ref s),("node",v)]
theorem iz{s:Addr}{v:V}:(cO s v).lookup ("stock":Str)=some (V.ref s):=qY
theorem ma{s:Addr}{v:V}:(cO s v).lookup ("node":Str)=some v:=(gT (by decide+kernel)).trans qY
theorem dv{s:Addr}{v:V}{m:Str}(h1: ¬m="stock")(h2: ¬m="node"):(cO s v).lookup m=none:=(gT h1).trans ((gT h2).trans rfl)
theorem amx{s:Addr}{v:V}:cA "node" v (cA "stock" (.ref s) [])=cO s v:=by
 have e1:cA "stock" (V.ref s) []=[(("stock":Str),V.ref s)]:=rfl
 unfold cO
 rw[e1,jA (by decide+kernel)];rfl
structure cK (CP:Addr) (H:Hp) (p dp s:Addr) (v:V) (t:Tr) (S:List Nat):Prop where
 ob:H p=some (.ins CP dp (cO s v))
 nd:Nd H t v
 ok:t.ok
 pc: ∀q∈t.ar,cg S q
theorem cK.same{CP:Addr}{H H':Hp}{p dp s:Addr}{v:V}{t:Tr}{S:List Nat}(P:cK CP H p dp s v t S)(h:aE H H'):cK CP H' p dp s v t S:=⟨h _ _ P.ob,P.nd.mono (bz h),P.ok,P.pc⟩
def gm(CP:Addr):Sp:=fun vs H Q E=> ∃(p dp s:Addr) (v:V),vs=[.ref p, .ref s,v]∧H p=some (.ins CP dp [])∧ ∀H',H' p=some (.ins CP dp (cO s v))→(∀b o,H b=some o→b≠p→H' b=some o)→Q .az H'
theorem amy{K:PySem.W.Frag}{CP:Addr}(T:fc K CP)(vs:List V)(H:Hp)(Q:VK)(E:XK)(h:gm CP vs H Q E):aw (aW K [] [] (E:=E)) Cy (Dn Q) (start Cw vs) H:=by
 obtain⟨p,dp,s,v,rfl,hp,k⟩:=h
 refine Tf (ag rfl (ag rfl ⟨p,CP,dp,[],rfl,hp,T.cl,T.gH,(by show 0<1000;decide), ?_⟩))
 refine Tf (ag rfl (ag rfl ⟨p,CP,dp,_,rfl,aO,T.cl,T.j9,(by show 1<1000;decide), ?_⟩))
 refine k _ ?_ fun b o e nb=> ?_
 ·rw[aO];exact congrArg (fun l=>some (HO.ins CP dp l)) amx
 ·rw[aV nb,aV nb];exact e
def cT(CP:Addr):Sp:=fun vs H Q E=> ∃(p dp s:Addr) (v:V) (t:Tr) (S:List Nat),vs=[.ref p]∧cK CP H p dp s v t S∧Q (.int ((txt S t.ar).length:Nat)) H
def jJ(CP:Addr):Sp:=fun vs H Q E=> ∃(p dp s:Addr) (v:V) (t:Tr) (S:List Nat),vs=[.ref p]∧cK CP H p dp s v t S∧Q (.int ((txt S t.ar).count 10+1:Nat)) H
theorem cK.sz{CP:Addr}{H:Hp}{p dp s:Addr}{v:V}{t:Tr}{S:List Nat}(P:cK CP H p dp s v t S):t.sz=((txt S t.ar).length:Nat):=by rw[g4,←rp P.pc]
theorem cK.en{CP:Addr}{H:Hp}{p dp s:Addr}{v:V}{t:Tr}{S:List Nat}(P:cK CP H p dp s v t S):t.en=((txt S t.ar).count 10:Nat):=by rw[xY,DT P.pc]
theorem amz{K:PySem.W.Frag}{CP:Addr}(T:fc K CP)(vs:List V)(H:Hp)(Q:VK)(E:XK)(h:cT CP vs H Q E):aw (aW K [("size_of",eY)] [] (E:=E)) CA (Dn Q) (start Cz vs) H:=by
 obtain⟨p,dp,s,v,t,S,rfl,P,q⟩:=h
 refine bY (bA eY rfl (au (dN (ag rfl ⟨p,CP,dp,_,_,rfl,P.ob,T.cl,T.j9,ma,aG ⟨v,t,rfl,P.nd, ?_⟩⟩))))
 rw[P.sz];exact q
theorem amA{K:PySem.W.Frag}{CP:Addr}(T:fc K CP)(vs:List V)(H:Hp)(Q:VK)(E:XK)(h:jJ CP vs H Q E):aw (aW K [("ends_of",fj)] [] (E:=E)) CG (Dn Q) (start CD vs) H:=by
 obtain⟨p,dp,s,v,t,S,rfl,P,q⟩:=h
 refine bY (aM (bA fj rfl (au (dN (ag rfl ⟨p,CP,dp,_,_,rfl,P.ob,T.cl,T.j9,ma,aG ⟨v,t,rfl,P.nd,ao (bZ ?_)⟩⟩)))))
 rw[P.en];exact q
def tx(S:List Nat)(ps:List P3):Str:=⟨(txt S ps).toArray⟩
theorem amB(S:List Nat)(ps:List P3):(tx S ps).cps.toList=txt S ps:=by simp[tx]
def me(CP C:Addr):Sp:=fun vs H Q E=> ∃(p dp s dx lt lb lf:Addr) (v:V) (t:Tr) (ts:List Str),vs=[.ref p]∧cK CP H p dp s v t (av ts)∧cq C H s dx lt lb lf ts∧t.ar.length≤1000∧ts.length≤10000∧(av ts).length≤500000∧(txt (av ts) t.ar).length≤1000000∧
 ∀H',aE H H'→Q (.str (tx (av ts) t.ar)) H'
theorem Tg{K:PySem.W.Frag}{H:Hp}{w:Addr}{S:List Nat}{ps:List P3}{Q:VK}(h:H w=some (.lst ((ps.map (jH S)).map V.str)))(hl:(txt S ps).length≤1000000)(q:Q (.str (tx S ps)) H):sJ K .join (.str "") [.ref w] H Q:=by
 refine⟨ps.map (jH S),aP.of h,joinOk_of (by rw[amv];exact hl), ?_⟩
 have e:Txt.join "" (ps.map (jH S))=tx S ps:=Td S ps
 rw[e];exact q
theorem amC{K:PySem.W.Frag}{CP C:Addr}(T:fc K CP)(vs:List V)(H:Hp)(Q:VK)(E:XK)(h:me CP C vs H Q E):aw (aW K [("texts_of",jI C)] [] (E:=E)) CI (Dn Q) (start CH vs) H:=by
 obtain⟨p,dp,s,dx,lt,lb,lf,v,t,ts,rfl,P,S,l1,l2,l3,l4,k⟩:=h
 exact bY (ke (ao ⟨rfl,bA (jI C) rfl (au (dN (ag rfl ⟨p,CP,dp,_,_,rfl,P.ob,T.cl,T.gH,iz,au (dN (ag rfl ⟨p,CP,dp,_,_,rfl,P.ob,T.cl,T.j9,ma,aG ⟨s,dx,lt,lb,lf,ts,v,t,rfl,S,P.nd,P.ok,P.pc,l1,l2,l3,fun w H1 s1 f1 h1=>Tg h1 l4 (k H1 s1)⟩⟩))⟩)))⟩))
theorem x6{S:List Nat}{ps:List P3}(h: ∀q∈ps,cg S q): ∀q∈ps,uj q:=fun q hq=> ⟨(h q hq).p0,(h q hq).p1⟩
def pK(l:List Nat)(a b:Nat):Str:=⟨((l.take b).drop a).toArray⟩
def jK(CP C:Addr):Sp:=fun vs H Q E=> ∃(p dp s dx lt lb lf:Addr) (v:V) (t:Tr) (ts:List Str) (a b:Nat),vs=[.ref p, .int a, .int b]∧cK CP H p dp s v t (av ts)∧cq C H s dx lt lb lf ts∧t.ar.length≤1000∧ts.length≤10000∧(av ts).length≤500000∧(txt (av ts) t.ar).length≤1000000∧
 a≤b∧b≤ (txt (av ts) t.ar).length∧ ∀H',aE H H'→Q (.str (pK (txt (av ts) t.ar) a b)) H'
theorem amD{K:PySem.W.Frag}{CP C CE:Addr}(T:fc K CP)(vs:List V)(H:Hp)(Q:VK)(E:XK)(h:jK CP C vs H Q E):
  aw (aW K [("is_between",cp),("parted",eJ C 32),("texts_of",jI C)] [] [] [("size",CP,cT CP)] (et:=[("NoPlace",CE)]) (E:=E)) tK (Dn Q) (start wV vs) H:=by
 obtain⟨p,dp,s,dx,lt,lb,lf,v,t,ts,a,b,rfl,P,S,l1,l2,l3,l4,h1,h2,k⟩:=h
 have hz:=P.sz
 have hh:=Tr.ij P.ok l1
 have rA:(cO s v).lookup ("size":Str)=none:=dv (by decide+kernel) (by decide+kernel)
 refine bc (jE (df (du cp rfl (au (ag rfl (au (ao (au (fi CP (cT CP) rfl (ag rfl ⟨p,dp,_,rfl,P.ob,rA,p,dp,s,v,t,_,rfl,P,aG ⟨_,_,_,rfl, .inl ⟨_,rfl,by omega,by omega,dt (iF ?_ rfl)⟩⟩⟩))))))))))
 refine df (du cp rfl (au (ag rfl (au (ag rfl (au (fi CP (cT CP) rfl (ag rfl ⟨p,dp,_,rfl,P.ob,rA,p,dp,s,v,t,_,rfl,P,aG ⟨_,_,_,rfl, .inl ⟨_,rfl,by omega,by omega,dt (iF ?_ rfl)⟩⟩⟩))))))))
 refine cj (aZ (ba (bA (eJ C 32) rfl (au (dN (ag rfl ⟨p,CP,dp,_,_,rfl,P.ob,T.cl,T.j9,ma,au (ag rfl (au (dN (ag rfl ⟨p,CP,dp,_,_,rfl,P.ob,T.cl,T.gH,iz,aG ?_⟩))))⟩))))))
 refine⟨v,t,b,s,dx,lt,lb,lf,ts,rfl,P.nd,P.ok,S,x6 P.pc,by omega,l1,by omega,by omega,fun w v1 v2 t1 t2 H1 s1 hw n1 n2 o1 o2 e1 e2=>ao (aJ hw rfl ?_)⟩
 obtain⟨c1,c2,c3,c4⟩:=xZ t.ar (b:Int) P.pc (by omega) (by rw[←g4,hz];omega)
 rw[←e1] at c1 c3
 have P1:=P.same s1
 have S1:=S.same s1
 have g1:t1.ar.length≤1000:=by rw[e1];have:=(tR (ends ts) t.ar b).1;omega
 have hh1:=Tr.ij o1 g1
 have hz1:t1.sz=((txt (av ts) t1.ar).length:Nat):=by rw[g4,←rp c1]
 rw[Int.toNat_natCast] at c3
 have lz:(txt (av ts) t1.ar).length=b:=by rw[c3,List.length_take];omega
 refine bY (ke (ao ⟨rfl,bA (jI C) rfl (au (dN (ag rfl ⟨p,CP,dp,_,_,rfl,P1.ob,T.cl,T.gH,iz,au (ba (bA (eJ C 32) rfl (au (ag rfl (au (ag rfl (au (dN (ag rfl ⟨p,CP,dp,_,_,rfl,P1.ob,T.cl,T.gH,iz,aG ?_⟩)))))))))⟩)))⟩))
 refine⟨v1,t1,a,s,dx,lt,lb,lf,ts,rfl,n1,o1,S1,x6 c1,by omega,g1,by omega,by omega,fun w' w1 w2 u1 u2 H2 s2 pI m1 m2 p1 p2 d1 d2=>ao (aJ pI rfl (aG ?_))⟩
 obtain⟨b1,b2,b3,b4⟩:=xZ t1.ar (a:Int) c1 (by omega) (by rw[←g4,hz1];omega)
 rw[←d2] at b2 b4
 rw[Int.toNat_natCast] at b4
 have g2:u2.ar.length≤1000:=by rw[d2];have:=(tR (ends ts) t1.ar a).2;omega
 have g3:(txt (av ts) u2.ar).length≤1000000:=by rw[b4,List.length_drop];omega
 refine⟨s,dx,lt,lb,lf,ts,w2,u2,rfl,S1.same s2,m2,p2,b2,g2,l2,l3,fun w3 H3 s3 f3 h3=>Tg h3 g3 ?_⟩
 have e:tx (av ts) u2.ar=pK (txt (av ts) t.ar) a b:=by unfold tx pK;rw[b4,c3]
 rw[e]
 exact k H3 (s1.trans (s2.trans s3))
theorem DU{Γ:aC}{D:Ends}{σ:St}{H:Hp}{r body:List RS}{i:Nat}{x:RE}(h:ak Γ x σ H fun v H1=> ∃a,v= .ref a∧(∃xs,aP Γ.K H1 a xs)∧ ∃W:Nat→Nat→St→Hp→Prop,(∃m,W 0 m σ H1)∧ ∀j m σ H,W j m σ H→
  ((eP Γ.K a).stop j H∧({D with nx:=aw Γ r D}:Ends).nx σ H)∨((eP Γ.K a).go j H∧ ∃N:St→Hp→Prop,(∀σ' H',N σ' H'→ ∃m',m'<m∧W (j+1) m' σ' H')∧ ∀x H',(eP Γ.K a).gw j H x H'→fZ i x σ H' fun σ2 H2=>aw Γ body {({D with nx:=aw Γ r D}:Ends) with nx:=N,ct:=N,bk:=({D with nx:=aw Γ r D}:Ends).nx} σ2 H2)):
  aw Γ (.jo i .list [x] body::r) D σ H:=ur (x:=x) _ _ (fun _ _=>Iff.rfl) h
theorem DV:(("keep":Str)==("cut":Str))=false:=by decide+kernel
theorem Th:(("put":Str)==("cut":Str))=false:=by decide+kernel
theorem DW:(("cut":Str)==("cut":Str))=true:=by decide+kernel
theorem Ti:(("keep":Str) !=("put":Str))=true:=by decide+kernel
theorem Tj:(("put":Str) !=("put":Str))=false:=by decide+kernel
theorem Tn:(("cut":Str) !=("put":Str))=true:=by decide+kernel
theorem pL{l r:List Nat}{n:Int}{ps:List Pt}(h:Run l (.keep n::ps) r): ∃a l' r',l=a++l'∧r=a++r'∧n=a.length∧Run l' ps r':=by
 cases h with | keep e h=>exact⟨_,_,_,rfl,rfl,e,h⟩
theorem rB{l r:List Nat}{s:Str}{ps:List Pt}(h:Run l (.put s::ps) r): ∃r',r=s.cps.toList++r'∧Run l ps r':=by
 cases h with | put h=>exact⟨_,rfl,h⟩
theorem rC{l r:List Nat}{s:Str}{ps:List Pt}(h:Run l (.cut s::ps) r): ∃l',l=s.cps.toList++l'∧Run l' ps r:=by
 cases h with | cut h=>exact⟨_,rfl,h⟩
def uv(CP C:Addr):Sp:=fun vs H Q E=> ∃(p dp s dx lt lb lf a:Addr) (v:V) (t:Tr) (ts:List Str) (xs:List V) (ps:List Pt) (r:List Nat),vs=[.ref p, .ref a]∧cK CP H p dp s v t (av ts)∧cq C H s dx lt lb lf ts∧t.ar.length≤1000∧ts.length≤10000∧(av ts).length≤500000∧(txt (av ts) t.ar).length≤1000000∧
 H a=some (.lst xs)∧bS H xs ps∧(∀p∈ps,cL p)∧chainOk "" ps=true∧ps.length≤1000000∧Run (txt (av ts) t.ar) ps r∧ ∀H',aE H H'→Q .az H'
abbrev To(CP C:Addr):List (Str×Addr×Sp):=[("size",CP,cT CP),("part",CP,jK CP C)]
theorem amF{K:PySem.W.Frag}{CP C CF:Addr}(T:fc K CP)(vs:List V)(H:Hp)(Q:VK)(E:XK)(h:uv CP C vs H Q E):
  aw (aW K [("sizes",ka),("part_size",d5)] [] [] (To CP C) (et:=[("BadFit",CF)]) (E:=E)) tJ (Dn Q) (start wU vs) H:=by
 obtain⟨p,dp,s,dx,lt,lb,lf,a,v,t,ts,xs,ps,r,rfl,P,S,l1,l2,l3,l4,ha,cE,aN,dz,hl,hr,k⟩:=h
 have lx:=Paired.length cE
 have rA:(cO s v).lookup ("size":Str)=none:=dv (by decide+kernel) (by decide+kernel)
 have DX:(cO s v).lookup ("part":Str)=none:=dv (by decide+kernel) (by decide+kernel)
 refine bc (bf (ba (bA ka rfl (au (ag rfl (aG ⟨a,xs,ps,rfl,ha,cE,aN,dz,hl,fun w H1 s1 hw=>ao (aJ hw rfl ?_)⟩))))))
 have P1:=P.same s1
 refine fi CP (cT CP) rfl (ag rfl ⟨p,dp,_,rfl,P1.ob,rA,p,dp,s,v,t,_,rfl,P1,xQ ⟨_,rfl,iF (cj ?_) (by rw[hr.over];simp)⟩⟩)
 refine aZ (ao ?_)
 refine DU (ag rfl ⟨a,rfl,⟨_,aP.of (s1 _ _ ha)⟩,mG (K:=K) (a:=a) (xs:=xs) (fun i σ H2=> ∃(x:Option V) (m1 m2 r2:List Nat),σ=[some (.ref p),some (.ref a),some (.int (m1.length:Nat)),x]∧aE H H2∧txt (av ts) t.ar=m1++m2∧Run m2 (ps.drop i) r2)
  ⟨none,[],_,r,rfl,s1,rfl,hr⟩ (fun i σ H2 _ ⟨_,_,_,_,_,s2,_⟩=>aP.of (s2 _ _ ha)) ?_ ?_⟩)
 ·rintro i x σ H2 hi ⟨x0,m1,m2,r2,rfl,s2,em,cu⟩
  obtain⟨q,hq,gR⟩:=cE.get hi
  obtain⟨b,rfl,hb⟩:=gR.mono (bz s2)
  have bG:i<ps.length:=(List.getElem?_eq_some_iff.mp hq).1
  have ed:ps.drop i=q::ps.drop (i+1):=by rw[List.drop_eq_getElem_cons bG,(List.getElem?_eq_some_iff.mp hq).2]
  have oq:=aN q (List.mem_of_getElem? hq)
  rw[ed] at cu
  have P2:=P.same s2
  have S2:=S.same s2
  have lm:(txt (av ts) t.ar).length=m1.length+m2.length:=by rw[em,List.length_append]
  refine bc (rf (bf (ba (ag rfl (ao (aJ hb rfl (ao (dO ⟨_,rfl, ?_⟩))))))))
  cases q with
  | keep n=>
   obtain⟨c,l',r',e1,e2,e3,h'⟩:=pL cu
   refine iF (iF (cj ?_) rfl) DV
   refine bc (bf (ba (ag rfl (ao (aJ hb rfl (ao (jD ⟨_,rfl,iT ?_ Ti⟩)))))))
   refine aZ (aM (ag rfl (bA d5 rfl (au (ag rfl (aG ⟨_, .keep n,rfl,⟨b,rfl,hb⟩,trivial,bZ ?_⟩))))))
   refine⟨some (.ref b),m1++c,l',r', ?_,s2,by rw[em,e1,List.append_assoc],h'⟩
   show[some (V.ref p),some (V.ref a),some (V.int ((m1.length:Int)+n)),some (V.ref b)]=_
   rw[List.length_append,e3];rfl
  | put z=>
   obtain⟨r',e2,h'⟩:=rB cu
   refine iF (iF (cj ?_) rfl) Th
   refine bc (bf (ba (ag rfl (ao (aJ hb rfl (ao (jD ⟨_,rfl,iF ?_ Tj⟩)))))))
   exact⟨some (.ref b),m1,m2,r',rfl,s2,em,h'⟩
  | cut z=>
   obtain⟨l',e1,h'⟩:=rC cu
   have lz:=len_list z
   have lm2:m2.length=z.length+l'.length:=by rw[e1,List.length_append,←lz]
   refine iT ?_ DW
   refine bf (uu CP (jK CP C) rfl (ag rfl ⟨p,dp,_,rfl,P2.ob,DX,ag rfl (aM (ag rfl (d6 (ba (ag rfl (ao (aJ hb rfl ⟨bP oq.1.1,bZ ?_⟩)))))))⟩))
   refine⟨p,dp,s,dx,lt,lb,lf,v,t,ts,m1.length,m1.length+z.length,rfl,P2,S2,l1,l2,l3,l4,by omega,by omega,fun H3 s3=> ?_⟩
   have ec:pK (txt (av ts) t.ar) m1.length (m1.length+z.length)=z:=by
    apply iS
    show(((txt (av ts) t.ar).take _).drop _).toArray.toList=_
    rw[em,e1,List.take_length_add_append,lz,List.take_left,List.drop_left]
   have g5:=s3 _ _ hb
   refine ba (ag rfl (ao (aJ g5 rfl (jD ⟨_,rfl,iF (cj ?_) (by rw[ec];simp[Pt.val])⟩))))
   refine bc (bf (ba (ag rfl (ao (aJ g5 rfl (ao (jD ⟨_,rfl,iT ?_ Tn⟩)))))))
   refine aZ (aM (ag rfl (bA d5 rfl (au (ag rfl (aG ⟨_, .cut z,rfl,⟨b,rfl,g5⟩,oq.1.1,bZ ?_⟩))))))
   refine⟨some (.ref b),m1++z.cps.toList,l',r2, ?_,s2.trans s3,by rw[em,e1,List.append_assoc],h'⟩
   show[some (V.ref p),some (V.ref a),some (V.int ((m1.length:Int)+ (z.length:Nat))),some (V.ref b)]=_
   rw[List.length_append,←lz];rfl
 ·rintro σ H2 ⟨_,_,_,_,rfl,s2,_⟩
  exact k H2 s2
theorem DY(F:Int→Int): ∀(xs:List P3) (n:Int),(cQ F xs n).length+ (cR F xs n).length≤xs.length+1
 | [],n=>by simp[cQ,cR]
 | p::xs,n=>by
  have ih:=DY F xs (n - p.2.1)
  by_cases z:n≤0
  ·obtain⟨e1,e2⟩:=De F z (p::xs)
   rw[e1,e2];simp
  ·by_cases g:p.2.1≤n
   ·have e1:cQ F (p::xs) n=p::cQ F xs (n - p.2.1):=by obtain⟨a,b,c⟩:=p;simp only[cQ];rw[if_neg z,if_pos g]
    have e2:cR F (p::xs) n=cR F xs (n - p.2.1):=by obtain⟨a,b,c⟩:=p;simp only[cR];rw[if_neg z,if_pos g]
    rw[e1,e2,List.length_cons,List.length_cons];omega
   ·have e1:(cQ F (p::xs) n).length=1:=by obtain⟨a,b,c⟩:=p;simp only[cQ];rw[if_neg z,if_neg g];rfl
    have e2:(cR F (p::xs) n).length=xs.length+1:=by obtain⟨a,b,c⟩:=p;simp only[cR];rw[if_neg z,if_neg g];rfl
    rw[e1,e2,List.length_cons];omega
theorem cK.ne{CP C:Addr}{H:Hp}{p dp s s' dx lt lb lf:Addr}{v:V}{t:Tr}{S:List Nat}{ts:List Str}(P:cK CP H p dp s' v t S)(St:cq C H s dx lt lb lf ts):p≠s∧p≠lt∧p≠lb∧p≠lf:=by
 refine⟨fun z=> ?_,fun z=> ?_,fun z=> ?_,fun z=> ?_⟩
 ·have e:=P.ob
  rw[z,St.ob] at e
  injection e with e
  injection e with e1 e2 e3
  have:=congrArg List.length e3
  simp[dP,cO] at this
 ·have e:=P.ob
  rw[z,St.tx] at e;cases e
 ·have e:=P.ob
  rw[z,St.bg] at e;cases e
 ·have e:=P.ob
  rw[z,St.fd] at e;cases e
theorem cK.but{CP C:Addr}{H H':Hp}{p dp s s' dx lt lb lf:Addr}{v:V}{t:Tr}{S:List Nat}{ts:List Str}(P:cK CP H p dp s' v t S)(St:cq C H s dx lt lb lf ts)(b:eW s lt lb lf H H'):cK CP H' p dp s' v t S:=by
 obtain⟨n1,n2,n3,n4⟩:=P.ne St
 exact⟨b _ _ P.ob n1 n2 n3 n4,P.nd.mono (b.cP St),P.ok,P.pc⟩
theorem Tp{ts:List Str}{z:Str}(hz:z≠""):cg (av (ts++ [z])) (((av ts).length:Int),(z.length:Int),(z.cps.toList.count 10:Int))∧seg (av (ts++ [z])) (((av ts).length:Int),(z.length:Int),(z.cps.toList.count 10:Int))=z.cps.toList:=by
 have e:seg (av (ts++ [z])) (((av ts).length:Int),(z.length:Int),(z.cps.toList.count 10:Int))=z.cps.toList:=by
  unfold seg
  rw[iU,lS]
  show((av ts++z.cps.toList).drop (((av ts).length:Nat):Int).toNat).take ((z.length:Nat):Int).toNat=_
  rw[Int.toNat_natCast,Int.toNat_natCast,List.drop_left,len_list,List.take_length]
 have l1:1≤z.length:=by
  by_cases q:z.length=0
  ·have e0:z.cps.toList=[]:=List.eq_nil_of_length_eq_zero (by rw[←len_list];exact q)
   have e1:z="":=iS (by rw[e0];rfl)
   exact absurd e1 hz
  ·omega
 refine⟨⟨by show(0:Int)≤ ((av ts).length:Int);omega,by show(1:Int)≤ (z.length:Int);omega, ?_,by rw[e]⟩,e⟩
 rw[iU,lS,List.length_append,←len_list]
 show((av ts).length:Int)+ (z.length:Int)≤_
 omega
def x8(C:Addr)(H:Hp)(p a s dx lt lb lf:Addr)(N:Nat)(ts:List Str)(ps:List Pt)(r:List Nat)(i:Nat)(σ:St)(H2:Hp):Prop:=
 ∃(x4 x5:Option V) (va vr:V) (ta tr:Tr) (us:List Str) (m2 r1 r2:List Nat),σ=[some (.ref p),some (.ref a),some va,some vr,x4,x5]∧eW s lt lb lf H H2∧cq C H2 s dx lt lb lf (ts++us)∧Nd H2 ta va∧Nd H2 tr vr∧ta.ok∧tr.ok∧
  (∀q∈ta.ar,cg (av (ts++us)) q)∧(∀q∈tr.ar,cg (av (ts++us)) q)∧txt (av (ts++us)) ta.ar=r1∧txt (av (ts++us)) tr.ar=m2∧r=r1++r2∧Run m2 (ps.drop i) r2∧
  ta.ar.length+tr.ar.length≤N+i∧us.length≤i∧(av us).length≤r1.length
def uw(CP C:Addr):Sp:=fun vs H Q E=> ∃(p dp s dx lt lb lf a:Addr) (v:V) (t:Tr) (ts:List Str) (xs:List V) (ps:List Pt) (r:List Nat),vs=[.ref p, .ref a]∧cK CP H p dp s v t (av ts)∧cq C H s dx lt lb lf ts∧t.ar.length+ps.length≤1000∧ts.length+ps.length≤10000∧(av ts).length+r.length≤500000∧(txt (av ts) t.ar).length≤1000000∧
 H a=some (.lst xs)∧a≠lt∧a≠lb∧a≠lf∧bS H xs ps∧(∀p∈ps,cL p)∧chainOk "" ps=true∧Run (txt (av ts) t.ar) ps r∧
 ∀p' iY v' t' us H',eW s lt lb lf H H'→H p'=none→cq C H' s dx lt lb lf (ts++us)→cK CP H' p' iY s v' t' (av (ts++us))→txt (av (ts++us)) t'.ar=r→t'.ar.length≤t.ar.length+ps.length→us.length≤ps.length→(av us).length≤r.length→Q (.ref p') H'
abbrev Tq(CP C:Addr):List (Str×Sp):=[("need_fit",uv CP C),("sewn",lZ),("node_put",iy C),("parted",eJ C 32),("part_size",d5)]
theorem Ts:(("put":Str)==("put":Str))=true:=by decide+kernel
theorem Tt:(("keep":Str)==("put":Str))=false:=by decide+kernel
theorem Tu:(("cut":Str)==("put":Str))=false:=by decide+kernel
theorem amG:(("keep":Str)==("keep":Str))=true:=by decide+kernel
theorem Tv:(("cut":Str)==("keep":Str))=false:=by decide+kernel
theorem amH{K:PySem.W.Frag}{CP C:Addr}{E:XK}{D:Ends}(T:fc K CP){H H2:Hp}{p dp a s dx lt lb lf:Addr}{v:V}{t:Tr}{N:Nat}{ts:List Str}{ps:List Pt}{r:List Nat}{i:Nat}{x:V}{σ:St}{q:Pt}
  (P:cK CP H p dp s v t (av ts)) (S0:cq C H s dx lt lb lf ts) (hq:ps[i]?=some q) (oq:cL q) (hx:iR H2 x q) (bN:N+ps.length≤1000) (bt:ts.length+ps.length≤10000) (bs:(av ts).length+r.length≤500000)
  (I:x8 C H p a s dx lt lb lf N ts ps r i σ H2)
  (hD:D.nx=x8 C H p a s dx lt lb lf N ts ps r (i+1)) (hC:D.ct=x8 C H p a s dx lt lb lf N ts ps r (i+1)):
  aw (aW K (Tq CP C) [] [] [] [("Paper",CP,gm CP)] (E:=E)) [.ite (.cmp .Eq (.ix (.v 4) (.c (.int 0))) (.c (.str "put"))) [.asg 2 (.call 1 [(.v 2),(.call 2 [(.fld (.v 0) "stock"),(.ix (.v 4) (.c (.int 1)))])]),
   .cont] [],
  .asg 5 (.call 3 [(.v 3),(.call 4 [(.v 4)]),(.fld (.v 0) "stock")]),
  .asg 3 (.ix (.v 5) (.c (.int 1))),
  .ite (.cmp .Eq (.ix (.v 4) (.c (.int 0))) (.c (.str "keep"))) [.asg 2 (.call 1 [(.v 2),(.ix (.v 5) (.c (.int 0)))])] []] D (σ.set 4 (some x)) H2:=by
 obtain⟨x4,x5,va,vr,ta,tr,us,m2,r1,r2,rfl,bu,S,na,nr,oa,orr,pa,pr,ea,er,mf,cu,bl,bu2,DZ⟩:=I
 obtain⟨b,rfl,hb⟩:=hx
 have bG:i<ps.length:=(List.getElem?_eq_some_iff.mp hq).1
 have ed:ps.drop i=q::ps.drop (i+1):=by rw[List.drop_eq_getElem_cons bG,(List.getElem?_eq_some_iff.mp hq).2]
 rw[ed] at cu
 have P2:=P.but S0 bu
 have lr:r.length=r1.length+r2.length:=by rw[mf,List.length_append]
 have ls:(av (ts++us)).length=(av ts).length+ (av us).length:=by rw[iU,List.length_append]
 have lt2:(ts++us).length=ts.length+us.length:=List.length_append
 refine bc (bf (ba (ag rfl (ao (aJ hb rfl (ao (dO ⟨_,rfl, ?_⟩)))))))
 cases q with
 | put z=>
  obtain⟨r',e2,h'⟩:=rB cu
  refine iT ?_ Ts
  have lz:=len_list z
  have lr2:r2.length=z.length+r'.length:=by rw[e2,List.length_append,←lz]
  refine aZ (bA lZ rfl (au (ag rfl (au (bA (iy C) rfl (au (dN (ag rfl ⟨p,CP,dp,_,_,rfl,P2.ob,T.cl,T.gH,iz,au (ba (ag rfl (ao (aJ hb rfl (aG ?_)))))⟩))))))))
  refine⟨s,dx,lt,lb,lf,ts++us,z,rfl,S,oq.1,by omega,by omega, .inr ⟨oq.2,fun v1 H3 t1 b3 S3 n1 o1 e1=>aG ?_⟩⟩
  rw[List.append_assoc] at S3
  obtain⟨pz,ez⟩:=Tp (ts:=ts++us) oq.2
  rw[List.append_assoc] at pz ez
  have eg:av (ts++ (us++ [z]))=av (ts++us)++z.cps.toList:=by rw[←List.append_assoc,iU,lS]
  have p1: ∀q∈t1.ar,cg (av (ts++ (us++ [z]))) q:=fun q hq=>by
   rw[e1] at hq
   rw[List.mem_singleton.mp hq];exact pz
  have tu:=b3.cP S
  refine⟨va,v1,ta,t1,av (ts++ (us++ [z])),rfl,na.mono tu,n1,oa,o1,fun q hq=>by rw[eg];exact(pa q hq).grow.1,p1,fun _ hh=> ?_,by omega,by rw[e1];exact Nat.le_of_ble_eq_true rfl,fun v4 H4 t4 s4 n4 o4 p4 e4 l4=> ?_⟩
  ·rw[hh] at e1;cases e1
  ·have tu4:=bz s4
   show D.ct _ _
   rw[hC]
   have et1:txt (av (ts++ (us++ [z]))) t1.ar=z.cps.toList:=by rw[e1,da,txt_nil,List.append_nil];exact ez
   refine⟨some (.ref b),x5,v4,vr,t4,tr,us++ [z],m2,r1++z.cps.toList,r',rfl,(bu.trans b3).trans (l_ s4),S3.same s4,n4,(nr.mono tu).mono tu4,o4,orr,p4,fun q hq=>by rw[eg];exact(pr q hq).grow.1, ?_, ?_, ?_,h', ?_, ?_, ?_⟩
   ·rw[e4,et1,eg,DS pa,ea]
   ·rw[eg,DS pr,er]
   ·rw[mf,e2,List.append_assoc]
   ·have:t1.ar.length=1:=by rw[e1];rfl
    omega
   ·rw[List.length_append];show us.length+1≤i+1;omega
   ·rw[iU,lS,List.length_append,List.length_append];omega
 | keep n=>
  obtain⟨c,l',r',e1,e2,e3,h'⟩:=pL cu
  refine iF (cj ?_) Tt
  have n1:1≤n:=oq
  have hz:tr.sz=((txt (av (ts++us)) tr.ar).length:Nat):=by rw[g4,←rp pr]
  have lm:(txt (av (ts++us)) tr.ar).length=c.length+l'.length:=by rw[er,e1,List.length_append]
  have hh:=Tr.ij orr (by omega)
  refine aZ (bA (eJ C 32) rfl (au (ag rfl (au (bA d5 rfl (au (ag rfl (aG ⟨_, .keep n,rfl,⟨b,rfl,hb⟩,trivial,au (dN (ag rfl ⟨p,CP,dp,_,_,rfl,P2.ob,T.cl,T.gH,iz,aG ?_⟩))⟩))))))))
  refine⟨vr,tr,n,s,dx,lt,lb,lf,ts++us,rfl,nr,orr,S,x6 pr,by omega,by omega,by omega,by omega,fun w v1 v2 t1 t2 H3 s3 hw Tw n2 o1 o2 d1 d2=> ?_⟩
  obtain⟨c1,c2,c3,c4⟩:=xZ tr.ar n pr (by omega) (by rw[←g4,hz];omega)
  have cs:=DY (ends (ts++us)) tr.ar n
  rw[←d1] at c1 c3
  rw[←d2] at c2 c4
  rw[←d1,←d2] at cs
  have en:n.toNat=c.length:=by omega
  have D0:txt (av (ts++us)) t1.ar=c:=by rw[c3,er,e1,en,List.take_left]
  have D1:txt (av (ts++us)) t2.ar=l':=by rw[c4,er,e1,en,List.drop_left]
  have g5:=s3 _ _ hb
  have tu3:=bz s3
  refine aZ (ba (ag rfl (ao (aJ hw rfl ?_))))
  refine bc (bf (ba (ag rfl (ao (aJ g5 rfl (ao (dO ⟨_,rfl,iT ?_ amG⟩)))))))
  refine aZ (bA lZ rfl (au (ag rfl (au (ba (ag rfl (ao (aJ hw rfl (aG ?_)))))))))
  refine⟨va,v1,ta,t1,av (ts++us),rfl,na.mono tu3,Tw,oa,o1,pa,c1,fun _ z=> ?_,by omega,by omega,fun v4 H4 t4 s4 n4 o4 p4 e4 l4=> ?_⟩
  ·rw[z] at D0
   have:c=[]:=by rw[←D0];rfl
   rw[this] at e3
   simp at e3;omega
  ·show D.nx _ _
   rw[hD]
   refine⟨some (.ref b),some (.ref w),v4,v2,t4,t2,us,l',r1++c,r',rfl,(bu.trans (l_ s3)).trans (l_ s4),(S.same s3).same s4,n4,n2.mono (bz s4),o4,o2,p4,c2, ?_,D1, ?_,h',by omega,by omega, ?_⟩
   ·rw[e4,ea,D0]
   ·rw[mf,e2,List.append_assoc]
   ·rw[List.length_append];omega
 | cut z=>
  obtain⟨l',e1,h'⟩:=rC cu
  refine iF (cj ?_) Tu
  have lz:=len_list z
  have hz:tr.sz=((txt (av (ts++us)) tr.ar).length:Nat):=by rw[g4,←rp pr]
  have lm:(txt (av (ts++us)) tr.ar).length=z.length+l'.length:=by rw[er,e1,List.length_append,←lz]
  have hh:=Tr.ij orr (by omega)
  refine aZ (bA (eJ C 32) rfl (au (ag rfl (au (bA d5 rfl (au (ag rfl (aG ⟨_, .cut z,rfl,⟨b,rfl,hb⟩,oq.1.1,au (dN (ag rfl ⟨p,CP,dp,_,_,rfl,P2.ob,T.cl,T.gH,iz,aG ?_⟩))⟩))))))))
  refine⟨vr,tr,(z.length:Nat),s,dx,lt,lb,lf,ts++us,rfl,nr,orr,S,x6 pr,by omega,by omega,by omega,by omega,fun w v1 v2 t1 t2 H3 s3 hw Tw n2 o1 o2 d1 d2=> ?_⟩
  obtain⟨c1,c2,c3,c4⟩:=xZ tr.ar (z.length:Nat) pr (by omega) (by rw[←g4,hz];omega)
  have cs:=DY (ends (ts++us)) tr.ar (z.length:Nat)
  rw[←d2] at c2 c4
  rw[←d1,←d2] at cs
  have D1:txt (av (ts++us)) t2.ar=l':=by rw[c4,er,e1,Int.toNat_natCast,lz,List.drop_left]
  have g5:=s3 _ _ hb
  refine aZ (ba (ag rfl (ao (aJ hw rfl ?_))))
  refine bc (bf (ba (ag rfl (ao (aJ g5 rfl (ao (dO ⟨_,rfl,iF (cj ?_) Tv⟩)))))))
  show D.nx _ _
  rw[hD]
  exact⟨some (.ref b),some (.ref w),va,v2,ta,t2,us,l',r1,r2,rfl,bu.trans (l_ s3),S.same s3,na.mono (bz s3),n2,oa,o2,pa,c2,ea,D1,mf,h',by omega,by omega,DZ⟩
theorem amN{K:PySem.W.Frag}{CP C:Addr}(T:fc K CP)(vs:List V)(H:Hp)(Q:VK)(E:XK)(h:uw CP C vs H Q E):
  aw (aW K (Tq CP C) [] [] [] [("Paper",CP,gm CP)] (E:=E)) tL (Dn Q) (start wW vs) H:=by
 obtain⟨p,dp,s,dx,lt,lb,lf,a,v,t,ts,xs,ps,r,rfl,P,S,l1,l2,l3,l4,ha,a1,a2,a3,cE,aN,dz,hr,k⟩:=h
 have lx:=Paired.length cE
 have a0:a≠s:=fun z=>by rw[z,S.ob] at ha;cases ha
 refine lQ (bA (uv CP C) rfl (au (ag rfl (au (ag rfl (aG ⟨p,dp,s,dx,lt,lb,lf,a,v,t,ts,xs,ps,r,rfl,P,S,by omega,by omega,by omega,l4,ha,cE,aN,dz,by omega,hr,fun H1 s1=> ?_⟩))))))
 have P1:=P.same s1
 have S1:=S.same s1
 refine aZ (ao (aZ (dN (ag rfl ⟨p,CP,dp,_,_,rfl,P1.ob,T.cl,T.j9,ma, ?_⟩))))
 refine DU (ag rfl ⟨a,rfl,⟨_,aP.of (s1 _ _ ha)⟩,mG (K:=K) (a:=a) (xs:=xs) (x8 C H p a s dx lt lb lf t.ar.length ts ps r) ?_ ?_ ?_ ?_⟩)
 ·exact⟨none,none, .az,v, .nil,t,[],_,[],r,rfl,l_ s1,by rw[List.append_nil];exact S1,rfl,P1.nd,trivial,P.ok,fun q hq=> (by cases hq),by rw[List.append_nil];exact P.pc,rfl,by rw[List.append_nil],rfl,hr,by show 0+_≤_;omega,Nat.zero_le _,Nat.zero_le _⟩
 ·rintro i σ H2 _ ⟨_,_,_,_,_,_,_,_,_,_,_,bu,_⟩
  exact aP.of (bu _ _ ha a0 a1 a2 a3)
 ·intro i x σ H2 hi I
  obtain⟨q,hq,gR⟩:=cE.get hi
  have bu:eW s lt lb lf H H2:=by obtain⟨_,_,_,_,_,_,_,_,_,_,_,bu,_⟩:=I;exact bu
  exact amH T P S hq (aN q (List.mem_of_getElem? hq)) (gR.mono (bu.cP S)) l1 l2 l3 I rfl rfl
 ·rintro σ H2 ⟨x4,x5,va,vr,ta,tr,us,m2,r1,r2,rfl,bu,S2,na,nr,oa,orr,pa,pr,ea,er,mf,cu,bl,bu2,DZ⟩
  rw[lx,List.drop_length] at cu
  have e2:r2=[]:=by cases cu;rfl
  rw[e2,List.append_nil] at mf
  have P2:=P.but S bu
  refine bY (Te CP (gm CP) rfl (dN (ag rfl ⟨p,CP,dp,_,_,rfl,P2.ob,T.cl,T.gH,iz,ag rfl fun p' iY f1 f2 f3=> ?_⟩)))
  refine⟨p',iY,s,va,rfl,aO,fun H3 h3 hk=> ⟨rfl, ?_⟩⟩
  have s3:aE H2 H3:=fun b o e=>hk b o (by rw[aV (cn e f1),aV (cn e f2)];exact e) (cn e f1)
  have fp:H p'=none:=by
   cases hq:H p' with
   | none=>rfl
   | some o=>
    exfalso
    by_cases z1:p'=s
    ·rw[z1,S2.ob] at f1;cases f1
    ·by_cases z2:p'=lt
     ·rw[z2,S2.tx] at f1;cases f1
     ·by_cases z3:p'=lb
      ·rw[z3,S2.bg] at f1;cases f1
      ·by_cases z4:p'=lf
       ·rw[z4,S2.fd] at f1;cases f1
       ·rw[bu _ _ hq z1 z2 z3 z4] at f1;cases f1
  exact k p' iY va ta us H3 (bu.trans (l_ s3)) fp (S2.same s3) ⟨h3,na.mono (bz s3),oa,pa⟩ (by rw[ea,mf]) (by omega) (by omega) (by rw[mf];exact DZ)
def rD(CP C:Addr):Sp:=fun vs H Q E=> ∃(x:Str),vs=[.str x]∧good x∧
 ∀p dp s dx lt lb lf v t ts H',aE H H'→cq C H' s dx lt lb lf ts→cK CP H' p dp s v t (av ts)→txt (av ts) t.ar=x.cps.toList→t.ar.length≤1→ts.length≤1→(av ts).length≤x.length→H p=none→H s=none→H lt=none→H lb=none→H lf=none→Q (.ref p) H'
theorem amO{K:PySem.W.Frag}{CP C CT:Addr}(vs:List V)(H:Hp)(Q:VK)(E:XK)(h:rD CP C vs H Q E):
  aw (aW K [("need_text",jC CT),("node_put",iy C)] [] [] [] [("Stock",C,pw C),("Paper",CP,gm CP)] (E:=E)) tI (Dn Q) (start wR vs) H:=by
 obtain⟨x,rfl,gx,k⟩:=h
 refine lQ (bA (jC CT) rfl (au (ag rfl (aG ⟨_,rfl, .inl ⟨x,rfl,gx, ?_⟩⟩))))
 refine aZ (amw C (pw C) rfl fun s dx f1 f2 f3=> ⟨s,dx,rfl,aO,fun lt lb lf H1 S1 g1 g2 g3 hk=> ⟨rfl, ?_⟩⟩)
 have s1:aE H H1:=fun b o e=>hk b o (by rw[aV (cn e f1),aV (cn e f2)];exact e) (cn e f1)
 have fr: ∀b,upd (upd H dx (.own s)) s (.ins C dx []) b=none→H b=none:=fun b e=>by
  cases hq:H b with
  | none=>rfl
  | some o=>rw[aV (cn hq f1),aV (cn hq f2),hq] at e;cases e
 have q1:=fr lt g1
 have q2:=fr lb g2
 have q3:=fr lf g3
 have fin: ∀(H2:Hp) (v:V) (t:Tr) (ts:List Str),eW s lt lb lf H1 H2→cq C H2 s dx lt lb lf ts→Nd H2 t v→t.ok→(∀q∈t.ar,cg (av ts) q)→txt (av ts) t.ar=x.cps.toList→t.ar.length≤1→ts.length≤1→(av ts).length≤x.length→
   ∀p dp,H2 p=none→H2 dp=none→dp≠p→gm CP [.ref p, .ref s,v] (upd (upd H2 dp (.own p)) p (.ins CP dp [])) (fun v H2=>v= .az∧Q (.ref p) H2) E:=by
  intro H2 v t ts b2 S2 n2 o2 p2 e2 l2 l3 l4 p dp h1 h2 h3
  have s2:aE H H2:=fun b o e=>b2 b o (s1 _ _ e) (cn e f1) (cn e q1) (cn e q2) (cn e q3)
  refine⟨p,dp,s,v,rfl,aO,fun H3 h3 hk=> ⟨rfl, ?_⟩⟩
  have s3:aE H2 H3:=fun b o e=>hk b o (by rw[aV (cn e h1),aV (cn e h2)];exact e) (cn e h1)
  exact k p dp s dx lt lb lf v t ts H3 (s2.trans s3) (S2.same s3) ⟨h3,n2.mono (bz s3),o2,p2⟩ e2 l2 l3 l4 (s2.free h1) f1 q1 q2 q3
 refine bY (Te CP (gm CP) rfl (ag rfl (bA (iy C) rfl (au (ag rfl (au (ag rfl (aG ⟨s,dx,lt,lb,lf,[],x,rfl,S1,gx,Nat.zero_le _,Nat.zero_le _, ?_⟩))))))))
 by_cases hx:x=""
 ·refine .inl ⟨hx,fin H1 .az .nil [] (l_ (aE.refl _)) S1 rfl trivial (fun q hq=> (by cases hq)) (by rw[hx];rfl) (Nat.zero_le _) (Nat.zero_le _) (Nat.zero_le _)⟩
 ·obtain⟨pz,ez⟩:=Tp (ts:=[]) hx
  refine .inr ⟨hx,fun v H2 t b2 S2 n2 o2 e2=>fin H2 v t [x] b2 S2 n2 o2 (fun q hq=> ?_) ?_ ?_ (Nat.le_refl _) ?_⟩
  ·rw[e2] at hq;rw[List.mem_singleton.mp hq];exact pz
  ·rw[e2,da,txt_nil,List.append_nil];exact ez
  ·rw[e2];exact Nat.le_refl _
  ·rw[lS,len_list];exact Nat.le_refl _
theorem pick{its:List V}{j:Int}(h0:0≤j)(h1:j<its.length): ∃v∈its,dW its j=some v:=by
 have kh:j.toNat<its.length:=by omega
 refine⟨its[j.toNat],List.getElem_mem kh, ?_⟩
 have e:=kO (xs:=its) (j:=j.toNat) (v:=its[j.toNat]) (by simp[kh])
 rw[show((j.toNat:Nat):Int)=j by omega] at e
 exact e
def g6:Sp:=fun vs H Q E=> ∃c k,vs=[.int c, .int k]∧ ∀m,0≤m→Q (.int m) H
theorem amP{K:PySem.W.Frag}(vs:List V)(H:Hp)(Q:VK)(E:XK)(h:g6 vs H Q E):aw (aW K [] [] (E:=E)) CM (Dn Q) (start wY vs) H:=by
 obtain⟨c,k,rfl,q⟩:=h
 have h0: ∀z:Int,0≤z % 2147483647∧z % 2147483647<2147483647:=fun z=> ⟨Int.emod_nonneg _ (by decide),Int.emod_lt_of_pos _ (by decide)⟩
 have h1:=h0 (c*48271+7919*k+12345)
 have h2:=h0 ((c*48271+7919*k+12345) % 2147483647* ((c*48271+7919*k+12345) % 2147483647))
 have pm:(0:Int) <2147483647:=by decide
 refine⟨_,rfl, .inr ⟨by decide,by decide⟩,_,rfl, .inl ⟨by decide,by decide⟩,pm, ?_⟩
 refine⟨_,rfl,_,rfl, .inl ⟨by omega,by omega⟩,pm,_,rfl, .inl ⟨by omega,by omega⟩,pm, ?_⟩
 exact q _ (Int.emod_nonneg _ (by decide))
def A4:Str:="abcdefghijklmnopqrstuvwxyz{|}~"
def A5:Str:="ab"
theorem Tx:xr (A1++A4):=Sm (by decide+kernel)
theorem Tz:(A1++A4).length=94:=by decide+kernel
theorem al5:xr A5:=Sm (by decide+kernel)
theorem amR:A1.length+A4.length≤sizeLine:=by decide+kernel
theorem amS:xu "\n":=⟨rfl,fun c hc=>by
 have:((Str.ofString "\n").cps.toList.all fun c=>SG.cps.contains c)=true:=by decide+kernel
 exact List.all_eq_true.mp this c hc⟩
theorem D2{K:PySem.W.Frag}{sd:Addr→List (Key×V)→Prop}{H:Hp}{Q:VK}{al:Str}{j:Int}(ho:xr al)(h0:0≤j)(h1:j<al.length)(q: ∀t,xu t→Q (.str t) H):kY K sd (.str al) (.int j) H Q:=by
 have kh:j.toNat<al.cps.toList.length:=by rw[←len_list];omega
 refine .inr (.inr (.inl ⟨al,j,al.cps.toList[j.toNat],rfl,rfl,bP (by have:=ho.2.1;omega), ?_,q _ ⟨rfl,fun c hc=> ?_⟩⟩))
 ·have e:=kO (xs:=al.cps.toList) (j:=j.toNat) (v:=al.cps.toList[j.toNat]) (by simp[kh])
  rw[show((j.toNat:Nat):Int)=j by omega] at e
  exact e
 ·have:c=al.cps.toList[j.toNat]:=by simpa using hc
  rw[this];exact ho.2.2 _ (List.getElem_mem kh)
theorem amT{x t:Str}(hx:good x)(ht:xu t)(hl:x.length≤1000):good (x++t):=by
 refine⟨by rw[Sn,ht.1];omega,fun c hc=> ?_⟩
 rw[app_list] at hc
 rcases List.mem_append.mp hc with h | h
 ·exact hx.2 c h
 ·exact ht.2 c h
theorem amU:good "":=⟨by decide,fun c hc=>by
 have:((Str.ofString "").cps.toList.all fun c=>SG.cps.contains c)=true:=by decide+kernel
 exact List.all_eq_true.mp this c hc⟩
def kl:Sp:=fun vs H Q E=> ∃c n,vs=[.int c, .int n]∧0≤n∧n≤1000∧ ∀x H',good x→x.length=n.toNat→aE H H'→Q (.str x) H'
theorem amV{K:PySem.W.Frag}(vs:List V)(H:Hp)(Q:VK)(E:XK)(h:kl vs H Q E):aw (aW K [("_law_mixed",g6)] [] (E:=E)) CN (Dn Q) (start wZ vs) H:=by
 obtain⟨c,n,rfl,TB,ic,k⟩:=h
 refine aZ (ao ?_)
 refine aZ (aM (ag rfl (ao ⟨amR, ?_⟩)))
 refine aZ (ao ?_)
 refine⟨_,rfl,n,rfl,by omega,by omega,zM (lo:=0) (n:=n.toNat) (fun i σ H2=> ∃(x:Str) (u4 u5:Option V),σ=[some (.int c),some (.int n),some (.str (A1++A4)),some (.str x),u4,u5]∧aE H H2∧good x∧x.length=i) ⟨_,none,none,rfl,aE.refl _,amU,rfl⟩ ?_ ?_⟩
 ·rintro i σ H2 hi ⟨x,u4,u5,rfl,s2,hx,ud⟩
  refine aZ (bA g6 rfl (au (ag rfl (au (ag rfl (aG ⟨_,_,rfl,fun m hm=> ?_⟩))))))
  have m2:0≤m / 8 % 2∧m / 8 % 2<2:=⟨Int.emod_nonneg _ (by decide),Int.emod_lt_of_pos _ (by decide)⟩
  have x9:0≤m / 8 % 94∧m / 8 % 94<94:=⟨Int.emod_nonneg _ (by decide),Int.emod_lt_of_pos _ (by decide)⟩
  have c8:zO m 8:=⟨by decide,by decide⟩
  refine aZ (aM (ag rfl (ba (cH (au (ao (au (ba (ao (aM (aM (ag rfl (ao ⟨c8,ao ⟨(by show(0:Int) <2;decide), ?_⟩⟩)))))))))))))
  refine D2 al5 m2.1 m2.2 fun t1 o1=> ?_
  refine au (ba (ag rfl (aM (aM (ag rfl (ao ⟨c8,ao ⟨(by show(0:Int) <94;decide), ?_⟩⟩))))))
  refine D2 Tx x9.1 (by rw[Tz];exact x9.2) fun t2 o2=> ?_
  refine au (ba (ag rfl (aM (aM (ag rfl (ao ⟨c8,ao ⟨(by show(0:Int) <94;decide), ?_⟩⟩))))))
  refine D2 Tx x9.1 (by rw[Tz];exact x9.2) fun t3 o3=> ?_
  refine aG ⟨(by show 4≤sizeLine;decide),fun l hl=> ?_⟩
  have s3:=sameNew (o:= .lst [V.str "\n",V.str t1,V.str t2,V.str t3]) hl
  obtain⟨v,hv,g7⟩:=pick (its:=[V.str "\n",V.str t1,V.str t2,V.str t3]) (j:=m % 4) (Int.emod_nonneg _ (by decide)) (Int.emod_lt_of_pos _ (by decide))
  have zP: ∃t,v= .str t∧xu t:=by
   simp only[List.mem_cons,List.not_mem_nil,or_false] at hv
   rcases hv with rfl | rfl | rfl | rfl
   ·exact⟨_,rfl,amS⟩
   ·exact⟨_,rfl,o1⟩
   ·exact⟨_,rfl,o2⟩
   ·exact⟨_,rfl,o3⟩
  obtain⟨t,rfl,ot⟩:=zP
  refine aM (ag rfl (ao ⟨(by show(0:Int) <4;decide), .inl ⟨l,_,_,_,rfl,rfl,aP.of aO,g7, ?_⟩⟩))
  refine⟨bP (by rw[ot.1];omega), ?_⟩
  exact⟨_,_,_,rfl,s2.trans s3,amT hx ot (by omega),by rw[Sn,ot.1,ud]⟩
 ·rintro σ H2 ⟨x,u4,u5,rfl,s2,hx,ud⟩
  exact bY (ag rfl (k x H2 hx ud s2))
theorem amW{K:PySem.W.Frag}(vs:List V)(H:Hp)(Q:VK)(E:XK)(h:tZ vs H Q E):aw (aW K [] [] (E:=E)) CQ (Dn Q) (start w5 vs) H:=by
 obtain⟨x,a,xs,ps,r,rfl,hx,ha,cE,aN,hr,jF,q⟩:=h
 have hlen:=Paired.length cE
 refine⟨_,rfl,a,rfl,⟨_,aP.of ha⟩,mG (K:=K) (a:=a) (xs:=xs) (fun i σ H2=> ∃l1 l2 q1 q2 w v,σ=[some (.str x),some (.ref a),some (.str ⟨q1.toArray⟩),some (.int ((l1.length:Nat):Int)),w,v]∧H2=H∧
   x.cps.toList=l1++l2∧r=q1++q2∧Run l2 (ps.drop i) q2)
  ⟨[],x.cps.toList,[],r,none,none,rfl,rfl,rfl,rfl,hr⟩ (fun i σ H2 _ ⟨_,_,_,_,_,_,_,e,_⟩=>e ▸ aP.of ha) ?_ ?_⟩
 ·rintro i y σ H2 hi ⟨l1,l2,q1,q2,w,v,rfl,rfl,e1,e2,cu⟩
  obtain⟨pt,pJ,b,rfl,hb⟩:=cE.get hi
  have gd:i<ps.length:=(List.getElem?_eq_some_iff.mp pJ).1
  have ed:ps.drop i=pt::ps.drop (i+1):=by
   rw[List.drop_eq_getElem_cons gd]
   congr 1
   exact Option.some.inj ((List.getElem?_eq_getElem gd).symm.trans pJ)
  rw[ed] at cu
  obtain⟨la,lb,qa,qb,rfl,rfl,D3,one⟩:=akZ cu
  have hpo:=aN pt (List.mem_of_getElem? pJ)
  have pB:q1.length+qa.length≤1000000:=by rw[e2] at jF;simp at jF;omega
  refine⟨b,_,rfl, .inl (bq.of hb),rfl,_,_,rfl,_,_,rfl,rfl, ?_⟩
  cases pt with
  | put s=>
   obtain⟨rfl,rfl⟩:=one
   refine⟨_,rfl,_,rfl,_,rfl,_,rfl,bP (by rw[len_list,len_list];exact pB), ?_⟩
   refine⟨l1,lb,q1++s.cps.toList,qb,some (.str "put"),some (.str s), ?_,rfl,e1,by rw[e2];simp,D3⟩
   show[_,_,some (V.str (⟨q1.toArray⟩++s)),_,_,_]=_
   rw[show(⟨q1.toArray⟩++s:Str)=⟨(q1++s.cps.toList).toArray⟩ from iS (by rw[app_list])]
   rfl
  | cut s=>
   obtain⟨rfl,rfl⟩:=one
   refine⟨_,rfl,_,rfl,_,rfl,_,rfl,_,rfl,_,rfl,bP hpo, ?_⟩
   refine⟨l1++s.cps.toList,lb,q1,qb,some (.str "cut"),some (.str s), ?_,rfl,by rw[e1];simp,e2,D3⟩
   show[_,_,_,some (V.int ((l1.length:Int)+ (s.length:Int))),_,_]=_
   rw[List.length_append,←len_list,Int.natCast_add]
   rfl
  | keep n=>
   obtain⟨rfl,hn⟩:=one
   refine⟨_,rfl,_,rfl,_,rfl,_,rfl, ?_⟩
   refine⟨_,rfl,_,rfl,_,rfl,_,rfl,_,rfl,_,rfl,_,rfl,bP hx.1, ?_⟩
   rw[Su e1 n hn]
   refine⟨bP (by rw[len_list,len_list];exact pB), ?_⟩
   refine⟨_,rfl,_,rfl, ?_⟩
   refine⟨l1++la,lb,q1++la,qb,some (.str "keep"),some (.int n), ?_,rfl,by rw[e1];simp,by rw[e2];simp,D3⟩
   show[_,_,some (V.str (⟨q1.toArray⟩++ ⟨la.toArray⟩)),some (V.int ((l1.length:Int)+n)),_,_]=_
   rw[show(⟨q1.toArray⟩++ ⟨la.toArray⟩:Str)=⟨(q1++la).toArray⟩ from iS (by rw[app_list]),List.length_append,hn,Int.natCast_add]
   rfl
 ·rintro σ H2 ⟨l1,l2,q1,q2,w,v,rfl,rfl,e1,e2,cu⟩
  rw[hlen,List.drop_length] at cu
  cases cu
  rw[List.append_nil] at e2
  subst e2
  exact⟨_,rfl,q⟩
theorem TC{α β:Type}{R:α→β→Prop}: ∀{ps:List β} {p:β} {xs:List α},Paired R xs (ps++ [p])→ ∃x_ x,xs=x_++ [x]∧Paired R x_ ps∧R x p
 | [],p,_, .cons h .nil=> ⟨[],_,rfl, .nil,h⟩
 | q::ps,p,_, .cons h r=>by
  obtain⟨x_,x,e,a,b⟩:=TC (ps:=ps) r
  exact⟨_::x_,x,by rw[e];rfl, .cons h a,b⟩
section
variable {Γ:aC} {D:Ends} {σ:St} {H:Hp} {r:List RS} {Q:VK}
theorem mh{i:Int}(h:Q (.int (-i)) H):ak Γ (.neg (.c (.int i))) σ H Q:=h
theorem amY{o ix e:RE}(h:ak Γ e σ H fun v H1=>ak Γ o σ H1 fun x H2=>ak Γ ix σ H2 fun y H3=>z7 x y v H3 fun H4=>aw Γ r D σ H4):aw Γ (.set o ix e::r) D σ H:=h
theorem amZ{body:List RS}{is:List Nat}{x:RE}(h:ak Γ x σ H fun v H1=> ∃a,v= .ref a∧(∃xs,aP Γ.K H1 a xs)∧ ∃W:Nat→Nat→St→Hp→Prop,(∃m,W 0 m σ H1)∧ ∀j m σ H,W j m σ H→
  ((eP Γ.K a).stop j H∧({D with nx:=aw Γ r D}:Ends).nx σ H)∨((eP Γ.K a).go j H∧ ∃N:St→Hp→Prop,(∀σ' H',N σ' H'→ ∃m',m'<m∧W (j+1) m' σ' H')∧ ∀x H',(eP Γ.K a).gw j H x H'→qv Γ.K is.length (m5 is) x σ H' fun σ2 H2=>aw Γ body {({D with nx:=aw Γ r D}:Ends) with nx:=N,ct:=N,bk:=({D with nx:=aw Γ r D}:Ends).nx} σ2 H2)):
  aw Γ (.qd is .list [x] body::r) D σ H:=ur (x:=x) _ _ (fun _ _=>Iff.rfl) h
end
theorem am0{K:PySem.W.Frag}{H:Hp}{a b:Addr}{xs:List V}{ps:List Pt}{Q:VK}(ha:H a=some (.lst xs))(hb:H b=some (.lst []))(hx:bS H xs ps)(ho: ∀p∈ps,eS p)(q:Q (.bl (decide (ps≠ []))) H):
  cC K .NotEq (.ref a) (.ref b) H Q:=by
 refine⟨.list (ps.map toD), .list [],⟨a,xs,rfl,ha,Sq hx⟩,⟨b,[],rfl,hb,rfl⟩,akX ho,(by decide), ?_⟩
 have e:(true ^^ PyData.eqv (.list (ps.map toD)) (.list []))=decide (ps≠ []):=by
  cases ps with
  | nil=>rfl
  | cons p r=>rfl
 rw[e];exact q
theorem TF{Γ:aC}{σ:St}{H:Hp}{Q:VK}{i:Nat}{x w:Str}(mk:Str→Pt)(hw:(mk x).word=w)(hv:(mk x).val= .str x)(hσ:σ[i]?=some (some (.str x)))
  (k: ∀b H' ys,aE H H'→H b=none→H' b=some (.lst ys)→bS H' ys (B.txt mk x)→Q (.ref b) H'):
  ak Γ (.bin .Mult (.lst [(.tup [(.c (.str w)),(.v i)])]) (.blt .int [(.cmp .NotEq (.v i) (.c (.str "")))])) σ H Q:=by
 refine aM (cH (au (dM (au (ao (au (ag hσ (aG ⟨(by show 2≤sizeLine;decide),fun t ft=>aG ⟨(by show 1≤sizeLine;decide),fun l fl=> ?_⟩⟩))))))))
 have s1:=sameNew (o:= .tup [.str w, .str x]) ft
 have s2:=sameNew (o:= .lst [V.ref t]) fl
 refine pq (au (kd (ag hσ (ao (jD (aG ?_))))))
 show Aq (.ref l) (.int (if (x !=("":Str))=true then 1 else 0)) _ Q
 by_cases hx:x=""
 ·have e:(x !=("":Str))=false:=by rw[hx];decide
  rw[e]
  refine⟨l,0,[.ref t],rfl,rfl,aO,by decide,by decide,Nat.le_of_ble_eq_true rfl,fun p fp=> ?_⟩
  exact k p _ _ ((s1.trans s2).trans (sameNew fp)) ((s1.trans s2).free fp) aO (by rw[hx,B.txt_nil];exact .nil)
 ·have e:(x !=("":Str))=true:=by simp[hx]
  rw[e]
  refine⟨l,1,[.ref t],rfl,rfl,aO,by decide,by decide,Nat.le_of_ble_eq_true rfl,fun p fp=> ?_⟩
  refine k p _ [.ref t] ((s1.trans s2).trans (sameNew fp)) ((s1.trans s2).free fp) aO ?_
  rw[B.da hx]
  exact .cons ⟨t,rfl,by rw[hw,hv];exact(s2.trans (sameNew fp)) _ _ aO⟩ .nil
theorem TH(n:Nat):h_ (n+1) (-1)=some n:=by
 unfold h_
 have: ¬(0:Int)≤ -1:=by decide
 rw[if_neg this,if_pos (by omega)]
 congr 1
 omega
theorem D4:(("keep":Str)==("keep":Str))=true:=by decide+kernel
theorem am1:(("put":Str)==("keep":Str))=false:=by decide+kernel
theorem am2{Γ:aC}{D:Ends}{w:Option V}{f:Addr}{P C:V}{n:Int}{H:Hp}{ys:List V}{F:List Pt}(hf:H f=some (.lst ys))(pv:bS H ys F)(ho: ∀p∈F,eS p)(hl:F.length≤900000)
  (k: ∀H' gj,dC f H H'→H' f=some (.lst gj)→bS H' gj (ip F n)→D.nx [w,some (.ref f),some P,some C,some (.str "keep"),some (.int n)] H'):
  aw Γ [.ite (.and [(.cmp .Eq (.v 4) (.c (.str "keep"))),(.cmp .NotEq (.v 1) (.lst [])),(.cmp .Eq (.ix (.ix (.v 1) (.neg (.c (.int 1)))) (.c (.int 0))) (.c (.str "keep")))]) [.set (.v 1) (.neg (.c (.int 1))) (.tup [(.c (.str "keep")),(.bin .Add (.ix (.ix (.v 1) (.neg (.c (.int 1)))) (.c (.int 1))) (.v 5))])] [.ite (.cmp .Eq (.v 4) (.c (.str "keep"))) [.drop (.cx .append (.v 1) [(.tup [(.c (.str "keep")),(.v 5)])])] []]]
   D [w,some (.ref f),some P,some C,some (.str "keep"),some (.int n)] H:=by
 have lf:=Paired.length pv
 have app: ∀H1,aE H H1→ip F n=F++ [.keep n]→aw Γ [.ite (.cmp .Eq (.v 4) (.c (.str "keep"))) [.drop (.cx .append (.v 1) [(.tup [(.c (.str "keep")),(.v 5)])])] []] {D with nx:=aw Γ [] D} [w,some (.ref f),some P,some C,some (.str "keep"),some (.int n)] H1:=by
  intro H1 s1 e
  refine bc (bf (ag rfl (ao (dO ⟨_,rfl,iT ?_ D4⟩))))
  refine lQ (ke (ag rfl ⟨.inl ⟨rfl,_,aP.of (s1 _ _ hf)⟩,dM (au (ao (au (ag rfl (aG ⟨(by show 2≤sizeLine;decide),fun t ft=> ⟨ys,(sameNew ft) _ _ (s1 _ _ hf),lO (by omega), ?_⟩⟩)))))⟩))
  have s2:=s1.trans (sameNew (o:= .tup [.str "keep", .int n]) ft)
  have bb:dC f H (upd (upd H1 t (.tup [.str "keep", .int n])) f (.lst (ys++ [V.ref t]))):=fun b o e ne=>by rw[aV ne];exact s2 _ _ e
  have nt:t≠f:=fun z=>by rw[z,s1 _ _ hf] at ft;cases ft
  refine k _ _ bb aO ?_
  rw[e]
  exact B.Paired.app (pv.mono (bb.cP hf)) (.cons ⟨t,rfl,by rw[aV nt,aO];rfl⟩ .nil)
 refine bc (kg (bf (ag rfl (ao (dO ⟨_,rfl,iT ?_ D4⟩)))))
 refine kg (bf (ag rfl (cH (aG ⟨Nat.zero_le _,fun e fe=> ?_⟩))))
 have s1:=sameNew (o:= .lst []) fe
 refine am0 (s1 _ _ hf) aO (pv.mono (bz s1)) ho ⟨_,rfl, ?_⟩
 rcases List.eq_nil_or_concat F with hF | ⟨F',p,hF⟩
 ·refine iF (iF (app _ s1 (by rw[hF];rfl)) rfl) (by rw[hF];rfl)
 ·rw[List.concat_eq_append] at hF
  refine iT ?_ (by rw[hF];simp)
  have ya:=pv
  rw[hF] at ya
  obtain⟨ux,x,ey,p0,⟨b,ex,hb⟩⟩:=TC ya
  have uz:=s1 _ _ hf
  rw[ey,ex] at uz
  have q8:=s1 _ _ hb
  refine SS (bf (ba (ba (ag rfl (mh (fJ uz (NH _ _) (ao (aJ q8 rfl (ao (dO ⟨_,rfl, ?_⟩))))))))))
  cases p with
  | keep m=>
   refine iT ?_ D4
   refine amY (dM (au (ao (au (aM (ba (ba (ag rfl (mh (fJ uz (NH _ _) (ao (aJ q8 rfl (ag rfl (bZ (aG ⟨(by show 2≤sizeLine;decide),fun t ft=> ?_⟩)))))))))))))))
   have s2:=s1.trans (sameNew (o:= .tup [.str "keep", .int (m+n)]) ft)
   have hf2:=(sameNew (o:= .tup [.str "keep", .int (m+n)]) ft) _ _ uz
   refine ag rfl (mh ⟨f,_, -1,ux.length,rfl,rfl,hf2,by rw[List.length_append];exact TH _, ?_⟩)
   have es:(ux++ [V.ref b]).set ux.length (.ref t)=ux++ [.ref t]:=by rw[List.set_append_right _ _ (Nat.le_refl _),Nat.sub_self];rfl
   rw[es]
   have bb:dC f H (upd (upd (upd H e (.lst [])) t (.tup [.str "keep", .int (m+n)])) f (.lst (ux++ [V.ref t]))):=fun b o e ne=>by rw[aV ne];exact s2 _ _ e
   have nt:t≠f:=fun z=>by rw[z,uz] at ft;cases ft
   refine k _ _ bb aO ?_
   rw[hF,Dq]
   exact B.Paired.app (bS.mono (bb.cP hf) p0) (.cons ⟨t,rfl,by rw[aV nt,aO,Int.add_comm];rfl⟩ .nil)
  | put z=>exact iF (app _ s1 (by rw[hF];exact xv fun q hq=>by rw[List.getLast?_concat] at hq;cases hq;rfl)) am1
  | cut z=>exact iF (app _ s1 (by rw[hF];exact xv fun q hq=>by rw[List.getLast?_concat] at hq;cases hq;rfl)) Tv
def iA(a:Str):List Pt→Str
 | []=>a
 | p::r=>iA p.word r
theorem rE: ∀(F:List Pt) (a:Str) (G:List Pt),chainOk a (F++G)=(chainOk a F && chainOk (iA a F) G)
 | [],a,G=>by simp[chainOk,iA]
 | p::F,a,G=>by
  show(ej p.word a && chainOk p.word (F++G))=_
  rw[rE F p.word G,←Bool.and_assoc];rfl
theorem uA: ∀(F:List Pt) (a:Str) (G:List Pt),iA a (F++G)=iA (iA a F) G
 | [],a,G=>rfl
 | p::F,a,G=>uA F p.word G
structure TJ (F:List Pt):Prop where
 ok: ∀p∈F,cL p
 ch:chainOk "" F=true
 la:iA "" F=""∨iA "" F="keep"
def tl(P C:Str):List Pt:=B.txt .put P++B.txt .cut C
theorem TK{w P C:Str}(h:w=""∨w="keep"):chainOk w (tl P C)=true:=by
 unfold tl
 by_cases hp:P="" <;>by_cases hc:C=""
 ·rw[hp,hc,B.txt_nil,B.txt_nil];rfl
 ·rw[hp,B.txt_nil,B.da hc]
  rcases h with rfl | rfl
  ·show(ej "cut" "" && true)=true;decide+kernel
  ·show(ej "cut" "keep" && true)=true;decide+kernel
 ·rw[hc,B.txt_nil,B.da hp]
  rcases h with rfl | rfl
  ·show(ej "put" "" && true)=true;decide+kernel
  ·show(ej "put" "keep" && true)=true;decide+kernel
 ·rw[B.da hp,B.da hc]
  rcases h with rfl | rfl
  ·show(ej "put" "" && (ej "cut" "put" && true))=true;decide+kernel
  ·show(ej "put" "keep" && (ej "cut" "put" && true))=true;decide+kernel
theorem TL(P C:Str):(tl P C).length≤2:=by
 unfold tl B.txt
 by_cases hp:P="" <;>by_cases hc:C="" <;>simp[hp,hc]
theorem TM{P C:Str}(hp:good P)(hc:good C): ∀q∈tl P C,cL q:=by
 intro q hq
 unfold tl B.txt at hq
 rcases List.mem_append.mp hq with h | h
 ·by_cases z:P=""
  ·rw[if_pos z] at h;cases h
  ·rw[if_neg z] at h;rw[List.mem_singleton.mp h];exact⟨hp,z⟩
 ·by_cases z:C=""
  ·rw[if_pos z] at h;cases h
  ·rw[if_neg z] at h;rw[List.mem_singleton.mp h];exact⟨hc,z⟩
theorem TN{l r:List Nat}{F:List Pt}{P C:Str}(h:Run l F r):Run (l++C.cps.toList) (F++tl P C) (r++P.cps.toList):=by
 have:=h.app (Ss (s:=P) |>.app (akY (s:=C)))
 rw[List.nil_append,List.append_nil] at this
 exact this
theorem yb: ∀{F G:List Pt} {l r:List Nat},Run l (F++G) r→ ∃l1 l2 r1 r2,l=l1++l2∧r=r1++r2∧Run l1 F r1∧Run l2 G r2
 | [],G,l,r,h=> ⟨[],l,[],r,rfl,rfl, .nil,h⟩
 | .keep n::F,G,l,r,h=>by
  obtain⟨a,l',r',rfl,rfl,e,h'⟩:=pL h
  obtain⟨l1,l2,r1,r2,rfl,rfl,h1,h2⟩:=yb (F:=F) h'
  exact⟨a++l1,l2,a++r1,r2,by simp,by simp, .keep e h1,h2⟩
 | .put s::F,G,l,r,h=>by
  obtain⟨r',rfl,h'⟩:=rB h
  obtain⟨l1,l2,r1,r2,rfl,rfl,h1,h2⟩:=yb (F:=F) h'
  exact⟨l1,l2,s.cps.toList++r1,r2,rfl,by simp, .put h1,h2⟩
 | .cut s::F,G,l,r,h=>by
  obtain⟨l',rfl,h'⟩:=rC h
  obtain⟨l1,l2,r1,r2,rfl,rfl,h1,h2⟩:=yb (F:=F) h'
  exact⟨s.cps.toList++l1,l2,r1,r2,by simp,rfl, .cut h1,h2⟩
theorem D5{l r:List Nat}(h:Run l [] r):l=[]∧r=[]:=by cases h;exact⟨rfl,rfl⟩
theorem mi{c:List Nat}{n:Int}(h:n=c.length):Run c [.keep n] c:=by
 have:=Run.keep (a:=c) h Run.nil
 rw[List.append_nil] at this;exact this
theorem TQ(F:List Pt):(∃F' m,F=F'++ [.keep m])∨((iA "" F=""∨iA "" F="put"∨iA "" F="cut")∧ ∀n,ip F n=F++ [.keep n]):=by
 rcases List.eq_nil_or_concat F with rfl | ⟨F',p,hF⟩
 ·exact .inr ⟨.inl rfl,fun n=>rfl⟩
 ·rw[List.concat_eq_append] at hF
  subst hF
  cases p with
  | keep m=>exact .inl ⟨F',m,rfl⟩
  | put z=>exact .inr ⟨.inr (.inl (by rw[uA];rfl)),fun n=>xv fun q hq=>by rw[List.getLast?_concat] at hq;cases hq;rfl⟩
  | cut z=>exact .inr ⟨.inr (.inr (by rw[uA];rfl)),fun n=>xv fun q hq=>by rw[List.getLast?_concat] at hq;cases hq;rfl⟩
theorem am4{F:List Pt}{l r c:List Nat}{n:Int}(h:Run l F r)(hn:n=c.length):Run (l++c) (ip F n) (r++c):=by
 rcases TQ F with⟨F',m,rfl⟩ | ⟨_,e⟩
 ·rw[Dq]
  obtain⟨l1,l2,r1,r2,rfl,rfl,h1,h2⟩:=yb h
  obtain⟨a,l',r',rfl,rfl,e,h'⟩:=pL h2
  obtain⟨rfl,rfl⟩:=D5 h'
  rw[List.append_nil,List.append_assoc,List.append_assoc]
  exact h1.app (mi (by rw[List.length_append,e,hn];omega))
 ·rw[e];exact h.app (mi hn)
theorem am5{F:List Pt}{n:Int}(h: ∀p∈F,cL p)(hc:chainOk "" F=true)(hn:1≤n):TJ (ip F n):=by
 rcases TQ F with⟨F',m,rfl⟩ | ⟨hw,e⟩
 ·rw[Dq]
  rw[rE] at hc
  have hm:1≤m:=h (.keep m) (by simp)
  refine⟨fun p hp=> ?_, ?_, .inr (by rw[uA];rfl)⟩
  ·rcases List.mem_append.mp hp with q | q
   ·exact h p (by simp[q])
   ·rw[List.mem_singleton.mp q];show 1≤n+m;omega
  ·rw[rE];exact hc
 ·rw[e]
  refine⟨fun p hp=> ?_, ?_, .inr (by rw[uA];rfl)⟩
  ·rcases List.mem_append.mp hp with q | q
   ·exact h p q
   ·rw[List.mem_singleton.mp q];exact hn
  ·rw[rE,hc]
   show(true && (ej "keep" (iA "" F) && true))=true
   rcases hw with z | z | z<;>rw[z] <;>decide+kernel
theorem TR{p:Pt}(h:cL p):eS p:=by
 cases p with
 | keep n=>trivial
 | put s=>exact h.1.2
 | cut s=>exact h.1.2
theorem TU{Γ:aC}{D:Ends}{w wd va:Option V}{f:Addr}{P C:Str}{H:Hp}{ys:List V}{F:List Pt}{rest:List RS}(hf:H f=some (.lst ys))(pv:bS H ys F)(hl:F.length≤900000)
  (k: ∀f' H' gj,aE H H'→H f'=none→H' f'=some (.lst gj)→bS H' gj (F++tl P C)→aw Γ rest D [w,some (.ref f'),some (.str ""),some (.str ""),wd,va] H'):
  aw Γ (.asg 1 (.bin .Add (.bin .Add (.v 1) (.bin .Mult (.lst [(.tup [(.c (.str "put")),(.v 2)])]) (.blt .int [(.cmp .NotEq (.v 2) (.c (.str "")))]))) (.bin .Mult (.lst [(.tup [(.c (.str "cut")),(.v 3)])]) (.blt .int [(.cmp .NotEq (.v 3) (.c (.str "")))])))::
   .asg 2 (.c (.str "")):: .asg 3 (.c (.str ""))::rest) D [w,some (.ref f),some (.str P),some (.str C),wd,va] H:=by
 have lf:=Paired.length pv
 refine aZ (aM (aM (ag rfl (TF .put rfl rfl rfl fun b1 H1 y1 s1 n1 h1 p1=> ?_))))
 have l1:=Paired.length p1
 have g1:(B.txt .put P).length≤1:=by unfold B.txt;by_cases z:P="" <;>simp[z]
 refine .inl ⟨f,b1,ys,y1,rfl,rfl,s1 _ _ hf,h1,bP (by omega),fun b2 n2=> ?_⟩
 have s2:=sameNew (o:= .lst (ys++y1)) n2
 refine TF .cut rfl rfl rfl fun b3 H3 y3 s3 n3 h3 p3=> ?_
 have l3:=Paired.length p3
 have g3:(B.txt .cut C).length≤1:=by unfold B.txt;by_cases z:C="" <;>simp[z]
 refine .inl ⟨b2,b3,ys++y1,y3,rfl,rfl,s3 _ _ aO,h3,bP (by rw[List.length_append];omega),fun b4 n4=> ?_⟩
 have s4:=sameNew (o:= .lst (ys++y1++y3)) n4
 have yc:=s1.trans (s2.trans (s3.trans s4))
 refine aZ (ao (aZ (ao ?_)))
 refine k b4 _ (ys++y1++y3) yc ((s1.trans (s2.trans s3)).free n4) aO ?_
 unfold tl
 rw[←List.append_assoc]
 exact B.Paired.app (B.Paired.app (pv.mono (bz yc)) (bS.mono (bz (s2.trans (s3.trans s4))) p1)) (bS.mono (bz s4) p3)
def D6:List RS:=[.ite (.cmp .Eq (.v 4) (.c (.str "put"))) [.asg 2 (.bin .Add (.v 2) (.v 5))] [.ite (.cmp .Eq (.v 4) (.c (.str "cut"))) [.asg 3 (.bin .Add (.v 3) (.v 5))] [.ite (.or [(.cmp .Eq (.v 4) (.c (.str "end"))),(.cmp .Gt (.v 5) (.c (.int 0)))]) [.asg 1 (.bin .Add (.bin .Add (.v 1) (.bin .Mult (.lst [(.tup [(.c (.str "put")),(.v 2)])]) (.blt .int [(.cmp .NotEq (.v 2) (.c (.str "")))]))) (.bin .Mult (.lst [(.tup [(.c (.str "cut")),(.v 3)])]) (.blt .int [(.cmp .NotEq (.v 3) (.c (.str "")))]))), .asg 2 (.c (.str "")), .asg 3 (.c (.str "")), .ite (.and [(.cmp .Eq (.v 4) (.c (.str "keep"))),(.cmp .NotEq (.v 1) (.lst [])),(.cmp .Eq (.ix (.ix (.v 1) (.neg (.c (.int 1)))) (.c (.int 0))) (.c (.str "keep")))]) [.set (.v 1) (.neg (.c (.int 1))) (.tup [(.c (.str "keep")),(.bin .Add (.ix (.ix (.v 1) (.neg (.c (.int 1)))) (.c (.int 1))) (.v 5))])] [.ite (.cmp .Eq (.v 4) (.c (.str "keep"))) [.drop (.cx .append (.v 1) [(.tup [(.c (.str "keep")),(.v 5)])])] []]] []]]]
structure NX (H:Hp) (a w2 e f:Addr) (xs ys:List V) (F:List Pt) (H2:Hp):Prop where
 sm:aE H H2
 fr:H f=none
 it:H2 w2=some (.lst (xs++ [.ref e]))
 en:H2 e=some (.tup [.str "end", .int 0])
 ne:f≠w2
 li:H2 f=some (.lst ys)
 pv:bS H2 ys F
def NI(H:Hp)(a w2 e:Addr)(xs:List V)(l r:List Nat)(ps:List Pt)(i:Nat)(σ:St)(H2:Hp):Prop:=
 ∃(f:Addr) (ys:List V) (F:List Pt) (P C:Str) (u4 u5:Option V) (l0 r0 l2 r2:List Nat),σ=[some (.ref a),some (.ref f),some (.str P),some (.str C),u4,u5]∧NX H a w2 e f xs ys F H2∧TJ F∧Run l0 F r0∧sg P∧sg C∧
  l=l0++ (C.cps.toList++l2)∧r=r0++ (P.cps.toList++r2)∧Run l2 (ps.drop i) r2∧F.length≤3*i
def NF(H:Hp)(a w2 e:Addr)(xs:List V)(l r:List Nat)(n:Nat)(σ:St)(H2:Hp):Prop:=
 ∃(f:Addr) (ys:List V) (F:List Pt) (u2 u3 u4 u5:Option V),σ=[some (.ref a),some (.ref f),u2,u3,u4,u5]∧NX H a w2 e f xs ys F H2∧(∀p∈F,cL p)∧chainOk "" F=true∧Run l F r∧F.length≤3*n+2
theorem wEP:(("end":Str)==("put":Str))=false:=by decide+kernel
theorem wEC:(("end":Str)==("cut":Str))=false:=by decide+kernel
theorem wEE:(("end":Str)==("end":Str))=true:=by decide+kernel
theorem TV:(("end":Str)==("keep":Str))=false:=by decide+kernel
theorem wKE:(("keep":Str)==("end":Str))=false:=by decide+kernel
theorem D7{K:PySem.W.Frag}{H:Hp}{Q:VK}{x y:Int}(q:Q (.bl (decide (y<x))) H):cC K .Gt (.int x) (.int y) H Q:=⟨trivial,q⟩
theorem yd{x:Str}(h:sg x)(hl:x.length≤1000000):good x:=⟨hl,h⟩
section
variable {Γ:aC} {D:Ends} {H H2:Hp} {a w2 e:Addr} {xs:List V} {l r:List Nat} {ps:List Pt} {i:Nat} {σ:St}
theorem am_(hl:l.length≤100000)(hr:r.length≤100000)(hn:ps.length≤1000)(I:NI H a w2 e xs l r ps ps.length σ H2)(hD: ∀σ H',NF H a w2 e xs l r ps.length σ H'→D.nx σ H'):
  aw Γ D6 D ((σ.set 4 (some (.str "end"))).set 5 (some (.int 0))) H2:=by
 obtain⟨f,ys,F,P,C,u4,u5,l0,r0,l2,r2,rfl,X,hF,hR,sP,sC,el,er,cu,lF⟩:=I
 rw[List.drop_length] at cu
 obtain⟨rfl,rfl⟩:=D5 cu
 rw[List.append_nil] at el er
 have lP:=len_list P
 have lC:=len_list C
 have ll:l.length=l0.length+C.length:=by rw[el,List.length_append,lC]
 have lr:r.length=r0.length+P.length:=by rw[er,List.length_append,lP]
 refine bc (bf (ag rfl (ao (dO ⟨_,rfl,iF ?_ wEP⟩))))
 refine bc (bf (ag rfl (ao (dO ⟨_,rfl,iF ?_ wEC⟩))))
 refine bc (gZ (bf (ag rfl (ao (dO ⟨_,rfl,iT (iT ?_ rfl) wEE⟩)))))
 refine TU X.li X.pv (by omega) fun f' H3 gj s3 n3 h3 p3=> ?_
 refine bc (kg (bf (ag rfl (ao (dO ⟨_,rfl,iF (iF ?_ rfl) TV⟩)))))
 refine bc (bf (ag rfl (ao (dO ⟨_,rfl,iF ?_ TV⟩))))
 refine hD _ _ ?_
 have tln:=TL P C
 refine⟨f',gj,F++tl P C,_,_,_,_,rfl,⟨X.sm.trans s3,X.sm.free n3,s3 _ _ X.it,s3 _ _ X.en,(cn X.it n3).symm,h3,p3⟩,fun p hp=> ?_, ?_, ?_, ?_⟩
 ·rcases List.mem_append.mp hp with q | q
  ·exact hF.ok p q
  ·exact TM (yd sP (by omega)) (yd sC (by omega)) p q
 ·rw[rE,hF.ch,TK hF.la];rfl
 ·rw[el,er];exact TN hR
 ·rw[List.length_append];omega
theorem anb{q:Pt}{b:Addr}(hl:l.length≤100000)(hr:r.length≤100000)(hn:ps.length≤1000)(hq:ps[i]?=some q)(oq:eS q)(I:NI H a w2 e xs l r ps i σ H2)(hD: ∀σ H',NI H a w2 e xs l r ps (i+1) σ H'→D.nx σ H'):
  aw Γ D6 D ((σ.set 4 (some (.str q.word))).set 5 (some q.val)) H2:=by
 obtain⟨f,ys,F,P,C,u4,u5,l0,r0,l2,r2,rfl,X,hF,hR,sP,sC,el,er,cu,lF⟩:=I
 have bG:i<ps.length:=(List.getElem?_eq_some_iff.mp hq).1
 have ed:ps.drop i=q::ps.drop (i+1):=by rw[List.drop_eq_getElem_cons bG,(List.getElem?_eq_some_iff.mp hq).2]
 rw[ed] at cu
 have lP:=len_list P
 have lC:=len_list C
 have ll:l.length=l0.length+ (C.length+l2.length):=by rw[el,List.length_append,List.length_append,lC]
 have lr:r.length=r0.length+ (P.length+r2.length):=by rw[er,List.length_append,List.length_append,lP]
 refine bc (bf (ag rfl (ao (dO ⟨_,rfl, ?_⟩))))
 cases q with
 | put z=>
  obtain⟨r',e2,h'⟩:=rB cu
  have lz:=len_list z
  have lr2:r2.length=z.length+r'.length:=by rw[e2,List.length_append,←lz]
  refine iT ?_ Ts
  refine aZ (aM (ag rfl (ag rfl ⟨bP (by omega), ?_⟩)))
  refine hD _ _ ?_
  exact⟨f,ys,F,P++z,C,_,_,l0,r0,l2,r',rfl,X,hF,hR,Dr sP oq,sC,el,by rw[er,e2,app_list];simp,h',by omega⟩
 | cut z=>
  obtain⟨l',e1,h'⟩:=rC cu
  have lz:=len_list z
  have ll2:l2.length=z.length+l'.length:=by rw[e1,List.length_append,←lz]
  refine iF ?_ Tu
  refine bc (bf (ag rfl (ao (dO ⟨_,rfl,iT ?_ DW⟩))))
  refine aZ (aM (ag rfl (ag rfl ⟨bP (by omega), ?_⟩)))
  refine hD _ _ ?_
  exact⟨f,ys,F,P,C++z,_,_,l0,r0,l',r2,rfl,X,hF,hR,sP,Dr sC oq,by rw[el,e1,app_list];simp,er,h',by omega⟩
 | keep n=>
  obtain⟨c,l',r',e1,e2,e3,h'⟩:=pL cu
  refine iF ?_ Tt
  refine bc (bf (ag rfl (ao (dO ⟨_,rfl,iF ?_ DV⟩))))
  refine bc (gZ (bf (ag rfl (ao (dO ⟨_,rfl,iF ?_ wKE⟩)))))
  refine ue (bf (ag rfl (ao (D7 ⟨_,rfl, ?_⟩))))
  by_cases hz:0<n
  ·refine iT ?_ (decide_eq_true hz)
   refine TU X.li X.pv (by omega) fun f' H3 gj s3 n3 h3 p3=> ?_
   have tln:=TL P C
   have TX: ∀p∈F++tl P C,cL p:=fun p hp=>by
    rcases List.mem_append.mp hp with q | q
    ·exact hF.ok p q
    ·exact TM (yd sP (by omega)) (yd sC (by omega)) p q
   have ch1:chainOk "" (F++tl P C)=true:=by rw[rE,hF.ch,TK hF.la];rfl
   have lF1:(F++tl P C).length≤3*i+2:=by rw[List.length_append];omega
   refine am2 h3 p3 (fun p hp=>TR (TX p hp)) (by omega) fun H4 y4 b4 h4 p4=> ?_
   refine hD _ _ ?_
   have nw:w2≠f':=cn X.it n3
   have fH:=X.sm.free n3
   have lk:=akU (F++tl P C) n
   refine⟨f',y4,ip (F++tl P C) n,"","",_,_,l0++C.cps.toList++c,r0++P.cps.toList++c,l',r',rfl,⟨lN (X.sm.trans s3) fH b4,fH,b4 _ _ (s3 _ _ X.it) nw,(b4.cP h3) _ _ (s3 _ _ X.en),nw.symm,h4,p4⟩,am5 TX ch1 (by omega),am4 (TN hR) e3,xx,xx, ?_, ?_,h',by omega⟩
   ·rw[el,e1];show _=_++ ([]++l');simp
   ·rw[er,e2];show _=_++ ([]++r');simp
  ·refine iF ?_ (decide_eq_false hz)
   have c0:c=[]:=List.eq_nil_of_length_eq_zero (by omega)
   refine hD _ _ ?_
   rw[c0,List.nil_append] at e1 e2
   exact⟨f,ys,F,P,C,_,_,l0,r0,l2,r2,rfl,X,hF,hR,sP,sC,el,er,by rw[e1,e2];exact h',by omega⟩
end
def km:Sp:=fun vs H Q E=> ∃a xs ps l r,vs=[.ref a]∧H a=some (.lst xs)∧bS H xs ps∧Run l ps r∧(∀p∈ps,eS p)∧ps.length≤1000∧l.length≤100000∧r.length≤100000∧
 ∀b H' ys qs,aE H H'→H b=none→H' b=some (.lst ys)→bS H' ys qs→(∀p∈qs,cL p)→chainOk "" qs=true→Run l qs r→qs.length≤3*ps.length+2→Q (.ref b) H'
theorem ane{K:PySem.W.Frag}(vs:List V)(H:Hp)(Q:VK)(E:XK)(h:km vs H Q E):aw (aW K [] [] (E:=E)) CO (Dn Q) (start w4 vs) H:=by
 obtain⟨a,xs,ps,l,r,rfl,ha,cE,cu,aN,hn,hl,hr,k⟩:=h
 have lx:=Paired.length cE
 refine aZ (cH (aG ⟨Nat.zero_le _,fun f nf=> ?_⟩))
 have s1:=sameNew (o:= .lst []) nf
 refine aZ (ao (aZ (ao ?_)))
 refine amZ (body:=D6) (aM (ag rfl (cH (au (dM (au (ao (au (ao (aG ⟨(by show 2≤sizeLine;decide),fun e ne=>aG ⟨(by show 1≤sizeLine;decide),fun g ng=> ?_⟩⟩))))))))))
 have s2:=sameNew (o:= .tup [.str "end", .int 0]) ne
 have s3:=sameNew (o:= .lst [V.ref e]) ng
 refine .inl ⟨a,g,xs,[.ref e],rfl,rfl,(s1.trans (s2.trans s3)) _ _ ha,aO,bP (by show xs.length+1≤_;omega),fun w2 nw=> ?_⟩
 have s4:=sameNew (o:= .lst (xs++ [V.ref e])) nw
 have yc:=s1.trans (s2.trans (s3.trans s4))
 have fw:f≠w2:=fun z=>by
  rw[←z] at nw
  rw[(s2.trans s3) _ _ aO] at nw;cases nw
 refine⟨w2,rfl,⟨_,aP.of aO⟩,mG (K:=K) (a:=w2) (xs:=xs++ [.ref e]) (fun i σ H2=> (i≤ps.length∧NI H a w2 e xs l r ps i σ H2)∨(i=ps.length+1∧NF H a w2 e xs l r ps.length σ H2)) ?_ ?_ ?_ ?_⟩
 ·refine .inl ⟨Nat.zero_le _,f,[],[],"","",_,_,[],[],l,r,rfl,⟨yc,nf,aO,(s3.trans s4) _ _ aO,fw,(s2.trans (s3.trans s4)) _ _ aO, .nil⟩,⟨fun p hp=> (by cases hp),rfl, .inl rfl⟩, .nil,xx,xx,rfl,rfl,cu,Nat.zero_le _⟩
 ·rintro i σ H2 _ (⟨_,f,ys,F,P,C,u4,u5,l0,r0,l2,r2,_,X,_⟩ | ⟨_,f,ys,F,u2,u3,u4,u5,_,X,_⟩)
  ·exact aP.of X.it
  ·exact aP.of X.it
 ·intro i x σ H2 hi I
  have gd:i< (xs++ [V.ref e]).length:=(List.getElem?_eq_some_iff.mp hi).1
  have hi2:i<ps.length+1:=by rw[List.length_append,lx] at gd;exact gd
  rcases I with⟨_,I⟩ | ⟨z,_⟩
  ·by_cases bG:i<ps.length
   ·rw[List.getElem?_append_left (by omega)] at hi
    obtain⟨q,hq,gR⟩:=cE.get hi
    have sm:aE H H2:=by obtain⟨f,ys,F,P,C,u4,u5,l0,r0,l2,r2,_,X,_⟩:=I;exact X.sm
    obtain⟨b,rfl,hb⟩:=gR.mono (bz sm)
    refine⟨b,_,rfl, .inl (bq.of hb),rfl,_,_,rfl,_,_,rfl,rfl, ?_⟩
    exact anb (b:=b) hl hr hn hq (aN q (List.mem_of_getElem? hq)) I fun σ' H' I'=> .inl ⟨bG,I'⟩
   ·have ei:i=ps.length:=by omega
    subst ei
    have en:H2 e=some (.tup [.str "end", .int 0]):=by obtain⟨f,ys,F,P,C,u4,u5,l0,r0,l2,r2,_,X,_⟩:=I;exact X.en
    rw[List.getElem?_append_right (by omega),lx,Nat.sub_self] at hi
    cases hi
    refine⟨e,_,rfl, .inl (bq.of en),rfl,_,_,rfl,_,_,rfl,rfl, ?_⟩
    exact am_ hl hr hn I fun σ' H' I'=> .inr ⟨rfl,I'⟩
  ·omega
 ·rintro σ H2 (⟨h,_⟩ | ⟨_,f,ys,F,u2,u3,u4,u5,rfl,X,ok,ch,hR,lF⟩)
  ·rw[List.length_append,lx] at h;exact absurd h (by show ¬ps.length+1≤ps.length;omega)
  ·exact bY (ag rfl (k f H2 ys F X.sm X.fr X.li X.pv ok ch hR lF))
section
variable {Γ:aC} {D:Ends} {σ:St} {H:Hp} {r:List RS} {Q:VK}
theorem TY{a lo hi:RE}(h:ak Γ a σ H fun x H1=>ak Γ lo σ H1 fun i H2=> ∃i':Int,i= .int i'∧ak Γ hi σ H2 fun j H3=> ∃j':Int,j= .int j'∧sL Γ.K x (some i') (some j') H3 Q):ak Γ (.sl a (some lo) (some hi)) σ H Q:=h
theorem TZ{body:List RS}{i:Nat}{x:RE}(h:ak Γ x σ H fun v H1=> ∃n:Int,[v]=[.int n]∧ -(2 ^ 62)≤n∧n<2 ^ 62∧ ∃W:Nat→Nat→St→Hp→Prop,(∃m,W 0 m σ H1)∧ ∀j m σ H,W j m σ H→
  ((je 0 n.toNat).stop j H∧({D with nx:=aw Γ r D}:Ends).nx σ H)∨((je 0 n.toNat).go j H∧ ∃N:St→Hp→Prop,(∀σ' H',N σ' H'→ ∃m',m'<m∧W (j+1) m' σ' H')∧ ∀x H',(je 0 n.toNat).gw j H x H'→fZ i x σ H' fun σ2 H2=>aw Γ body {({D with nx:=aw Γ r D}:Ends) with nx:=N,ct:=N,bk:=({D with nx:=aw Γ r D}:Ends).nx} σ2 H2)):
  aw Γ (.jo i .gu [x] body::r) D σ H:=ur (x:=x) _ _ (fun _ _=>Iff.rfl) h
theorem uB{i:Nat}{b0:Addr}{w:Str}{e:RE}{ys:List V}(hσ:σ[i]?=some (some (.ref b0)))(hb:H b0=some (.lst ys))(h:ak Γ e σ H fun v H1=>2≤sizeLine∧ ∀t,H1 t=none→ ∃zs,upd H1 t (.tup [.str w,v]) b0=some (.lst zs)∧zs.length<sizeLine∧aw Γ r D σ (upd (upd H1 t (.tup [.str w,v])) b0 (.lst (zs++ [.ref t])))):
  aw Γ (.drop (.cx .append (.v i) [(.tup [(.c (.str w)),e])])::r) D σ H:=
 lQ (ke (ag hσ ⟨.inl ⟨rfl,_,aP.of hb⟩,dM (au (ao (au (ur (x:=e) _ _ (fun _ _=>Iff.rfl) h))))⟩))
end
theorem push{H H1:Hp}{b0:Addr}{ys:List V}{ps:List Pt}{p:Pt}{w:Str}{v:V}{R:Hp→Prop}(s:aE H H1)(hb:H b0=some (.lst ys))(pv:bS H ys ps)(hl:ps.length≤900000)(hw:p.word=w)(hv:p.val=v)(k: ∀H' gj,dC b0 H H'→H' b0=some (.lst gj)→bS H' gj (ps++ [p])→R H'):
  2≤sizeLine∧ ∀t,H1 t=none→ ∃zs,upd H1 t (.tup [.str w,v]) b0=some (.lst zs)∧zs.length<sizeLine∧R (upd (upd H1 t (.tup [.str w,v])) b0 (.lst (zs++ [.ref t]))):=by
 refine⟨by decide,fun t ft=> ?_⟩
 have s2:=s.trans (sameNew (o:= .tup [.str w,v]) ft)
 have lx:=Paired.length pv
 have bb:dC b0 H (upd (upd H1 t (.tup [.str w,v])) b0 (.lst (ys++ [.ref t]))):=fun b o e ne=>by rw[aV ne];exact s2 _ _ e
 have nt:t≠b0:=fun z=>by rw[z,s _ _ hb] at ft;cases ft
 refine⟨ys,s2 _ _ hb,lO (by omega),k _ _ bb aO ?_⟩
 exact B.Paired.app (pv.mono (bb.cP hb)) (.cons ⟨t,rfl,by rw[aV nt,aO,hw,hv]⟩ .nil)
def D8:List RS:=[.asg 5 (.call 0 [(.v 0),(.bin .Add (.c (.int 40)) (.v 4))]), .ite (.cmp .Eq (.bin .Mod (.v 5) (.c (.int 3))) (.c (.int 0))) [.drop (.cx .append (.v 2) [(.tup [(.c (.str "put")),(.call 1 [(.v 5),(.bin .Add (.c (.int 1)) (.bin .Mult (.bin .Mod (.bin .FloorDiv (.v 5) (.c (.int 3))) (.c (.int 4))) (.bin .Add (.c (.int 1)) (.bin .Mod (.bin .FloorDiv (.v 5) (.c (.int 12))) (.c (.int 3))))))])])])] [], .asg 6 (.blt .min [(.bin .Sub (.blt .len [(.v 1)]) (.v 3)),(.bin .Mod (.bin .FloorDiv (.v 5) (.c (.int 36))) (.bin .Add (.c (.int 2)) (.bin .FloorDiv (.blt .len [(.v 1)]) (.c (.int 3)))))]), .ite (.and [(.cmp .Eq (.bin .Mod (.bin .FloorDiv (.v 5) (.c (.int 5))) (.c (.int 3))) (.c (.int 0))),(.cmp .Gt (.v 6) (.c (.int 0)))]) [.drop (.cx .append (.v 2) [(.tup [(.c (.str "cut")),(.sl (.v 1) (some (.v 3)) (some (.bin .Add (.v 3) (.v 6))))])])] [.drop (.cx .append (.v 2) [(.tup [(.c (.str "keep")),(.v 6)])])], .asg 3 (.bin .Add (.v 3) (.v 6))]
def anf:List RS:=[.drop (.cx .append (.v 2) [(.tup [(.c (.str "keep")),(.bin .Sub (.blt .len [(.v 1)]) (.v 3))])]), .ite (.cmp .Eq (.bin .Mod (.bin .FloorDiv (.v 0) (.c (.int 7))) (.c (.int 3))) (.c (.int 0))) [.drop (.cx .append (.v 2) [(.tup [(.c (.str "put")),(.call 1 [(.v 0),(.bin .Add (.c (.int 1)) (.bin .Mod (.bin .FloorDiv (.v 0) (.c (.int 21))) (.c (.int 5))))])])])] [], .ret (.call 2 [(.v 2)])]
def CB(H:Hp)(c:Int)(x:Str)(i:Nat)(σ:St)(H2:Hp):Prop:=
 ∃(b0:Addr) (ys:List V) (ps:List Pt) (l1 l2 r1:List Nat) (u4 u5 u6:Option V),σ=[some (.int c),some (.str x),some (.ref b0),some (.int (l1.length:Nat)),u4,u5,u6]∧aE H H2∧H b0=none∧H2 b0=some (.lst ys)∧bS H2 ys ps∧x.cps.toList=l1++l2∧Run l1 ps r1∧
  (∀p∈ps,eS p)∧ps.length≤2*i∧r1.length≤l1.length+10*i
def uC:Sp:=fun vs H Q E=> ∃c x,vs=[.int c, .str x]∧good x∧x.length≤10000∧ ∀b H' ys qs r,aE H H'→H b=none→H' b=some (.lst ys)→bS H' ys qs→(∀p∈qs,cL p)→chainOk "" qs=true→Run x.cps.toList qs r→r.length≤x.length+100→qs.length≤60→Q (.ref b) H'
abbrev dD:List (Str×Sp):=[("_law_mixed",g6),("_law_text_by",kl),("_law_neat",km)]
theorem ang{K:PySem.W.Frag}{E:XK}{D:Ends}{H H2:Hp}{c:Int}{x:Str}{i:Nat}{σ:St}{kv:V}(hx:good x)(hl:x.length≤10000)(hi:i<7)(hk:kv= .int (0+ (i:Int)))(I:CB H c x i σ H2)(hD: ∀σ H',CB H c x (i+1) σ H'→D.nx σ H'):
  aw (aW K dD [] (E:=E)) D8 D (σ.set 4 (some kv)) H2:=by
 obtain⟨b0,ys,ps,l1,l2,r1,u4,u5,u6,rfl,sm,fr,hb,pv,ex,hR,aN,lp,lr⟩:=I
 subst hk
 have lx:x.length=l1.length+l2.length:=by rw[len_list,ex,List.length_append]
 refine aZ (bA g6 rfl (au (ag rfl (au (aM (ao (ag rfl (bZ (aG ⟨_,_,rfl,fun m hm=> ?_⟩)))))))))
 have c3:(0:Int) <3:=by decide
 have c4:(0:Int) <4:=by decide
 have go: ∀(H3:Hp) (D9:List V) (pM:List Pt) (r3:List Nat),aE H H3→H3 b0=some (.lst D9)→bS H3 D9 pM→Run l1 pM r3→(∀p∈pM,eS p)→pM.length≤2*i+1→r3.length≤l1.length+10*i+10→
   aw (aW K dD [] (E:=E)) (D8.drop 2) D [some (.int c),some (.str x),some (.ref b0),some (.int (l1.length:Nat)),some (.int (0+ (i:Int))),some (.int m),u6] H3:=by
  intro H3 D9 pM r3 s3 h3 p3 R3 uD lp3 T_
  refine aZ (pq (au (aM (d6 (ag rfl ⟨bP hx.1,ag rfl ⟨trivial,au (aM (aM (ag rfl (ao ⟨⟨by decide,by decide⟩,aM (ao (aM (d6 (ag rfl ⟨bP hx.1,ao ⟨⟨by decide,by decide⟩,bZ ⟨?_,aG ?_⟩⟩⟩))))⟩))))⟩⟩)))))
  ·show(0:Int) <2+ (x.length:Int) / 3
   omega
  have g0:0≤m / 36 % (2+ (x.length:Int) / 3):=Int.emod_nonneg _ (by omega)
  obtain⟨z,ez⟩: ∃z:Int,z=(if m / 36 % (2+ (x.length:Int) / 3) < (x.length:Int) - (l1.length:Nat) then m / 36 % (2+ (x.length:Int) / 3) else (x.length:Int) - (l1.length:Nat)):=⟨_,rfl⟩
  have z0:0≤z∧z≤l2.length:=by rw[ez];split<;>omega
  show aw _ _ D [some (.int c),some (.str x),some (.ref b0),some (.int (l1.length:Nat)),some (.int (0+ (i:Int))),some (.int m),some (.int (if m / 36 % (2+ (x.length:Int) / 3) < (x.length:Int) - (l1.length:Nat) then m / 36 % (2+ (x.length:Int) / 3) else (x.length:Int) - (l1.length:Nat)))] H3
  rw[←ez]
  obtain⟨la,lb,el,ye⟩: ∃la lb,l2=la++lb∧z=la.length:=⟨l2.take z.toNat,l2.drop z.toNat,(List.take_append_drop _ _).symm,by rw[List.length_take];omega⟩
  have fin: ∀(H4:Hp) (yf:List V) (p4:List Pt) (r4:List Nat),aE H H4→H4 b0=some (.lst yf)→bS H4 yf p4→Run (l1++la) p4 r4→(∀p∈p4,eS p)→p4.length≤2*i+2→r4.length≤ (l1++la).length+10*i+10→
    aw (aW K dD [] (E:=E)) [.asg 3 (.bin .Add (.v 3) (.v 6))] D [some (.int c),some (.str x),some (.ref b0),some (.int (l1.length:Nat)),some (.int (0+ (i:Int))),some (.int m),some (.int z)] H4:=by
   intro H4 yf p4 r4 s4 h4 v4 R4 D_ lp4 lr4
   refine aZ (aM (ag rfl (ag rfl (bZ ?_))))
   refine hD _ _ ⟨b0,yf,p4,l1++la,lb,r4,some (.int (0+ (i:Int))),some (.int m),some (.int z), ?_,s4,fr,h4,v4,by rw[ex,el,List.append_assoc],R4,D_,by omega,by omega⟩
   show[_,_,_,some (V.int ((l1.length:Int)+z)),_,_,_]=_
   rw[List.length_append,ye];rfl
  refine bc (rf (bf (aM (aM (ag rfl (ao ⟨⟨by decide,by decide⟩,ao ⟨c3,ao (dg ⟨_,rfl, ?_⟩)⟩⟩))))))
  have Ua:aw (aW K dD [] (E:=E)) [.drop (.cx .append (.v 2) [(.tup [(.c (.str "keep")),(.v 6)])])] {D with nx:=aw (aW K dD [] (E:=E)) [.asg 3 (.bin .Add (.v 3) (.v 6))] D} [some (.int c),some (.str x),some (.ref b0),some (.int (l1.length:Nat)),some (.int (0+ (i:Int))),some (.int m),some (.int z)] H3:=by
   refine uB rfl h3 (ag rfl (push (p:= .keep z) (aE.refl _) h3 p3 (by omega) rfl rfl fun H4 y4 b4 h4 p4=> ?_))
   refine fin H4 y4 _ (r3++la) (lN s3 fr b4) h4 p4 (R3.app (mi ye)) (fun p hp=> ?_) ?_ ?_
   ·rcases List.mem_append.mp hp with q | q
    ·exact uD p q
    ·rw[List.mem_singleton.mp q];trivial
   ·rw[List.length_append];show pM.length+1≤_;omega
   ·rw[List.length_append,List.length_append];omega
  by_cases q5:m / 5 % 3=0
  ·refine iT ?_ (decide_eq_true q5)
   refine bf (ag rfl (ao (D7 ⟨_,rfl, ?_⟩)))
   by_cases qz:0<z
   ·refine iT ?_ (decide_eq_true qz)
    refine uB rfl h3 (TY (ag rfl (ag rfl ⟨_,rfl,aM (ag rfl (ag rfl (bZ ⟨_,rfl,bP hx.1, ?_⟩)))⟩)))
    have ec:fB x (some ((l1.length:Nat):Int)) (some (((l1.length:Nat):Int)+z))=⟨la.toArray⟩:=Su (by rw[ex,el]) z ye
    rw[ec]
    refine push (p:= .cut ⟨la.toArray⟩) (aE.refl _) h3 p3 (by omega) rfl rfl fun H4 y4 b4 h4 p4=> ?_
    have Rc:Run la [.cut ⟨la.toArray⟩] []:=by
     have:=Run.cut (s:=⟨la.toArray⟩) Run.nil
     rw[List.append_nil] at this;exact this
    refine fin H4 y4 _ (r3++ []) (lN s3 fr b4) h4 p4 (R3.app Rc) (fun p hp=> ?_) ?_ ?_
    ·rcases List.mem_append.mp hp with q | q
     ·exact uD p q
     ·rw[List.mem_singleton.mp q]
      intro d hd
      have e2:x.cps.toList=l1++ (la++lb):=by rw[ex,el]
      exact hx.2 d (by rw[e2];simp at hd;simp[hd])
    ·rw[List.length_append];show pM.length+1≤_;omega
    ·rw[List.length_append,List.length_append];show r3.length+0≤_;omega
   ·exact iF Ua (decide_eq_false qz)
  ·exact iF (iF Ua rfl) (decide_eq_false q5)
 refine bc (bf (aM (ag rfl (ao ⟨c3,ao (dg ⟨_,rfl, ?_⟩)⟩))))
 by_cases q3:m % 3=0
 ·refine iT ?_ (decide_eq_true q3)
  have A0:0≤m / 3 % 4∧m / 3 % 4<4:=⟨Int.emod_nonneg _ (by decide),Int.emod_lt_of_pos _ (by decide)⟩
  have B0:0≤m / 12 % 3∧m / 12 % 3<3:=⟨Int.emod_nonneg _ (by decide),Int.emod_lt_of_pos _ (by decide)⟩
  have AB:m / 3 % 4* (1+m / 12 % 3)≤3*3:=Int.mul_le_mul (by omega) (by omega) (by omega) (by decide)
  have AB0:0≤m / 3 % 4* (1+m / 12 % 3):=Int.mul_nonneg (by omega) (by omega)
  refine uB rfl hb (bA kl rfl (au (ag rfl (au (aM (ao (aM (aM (aM (ag rfl (ao ⟨⟨by decide,by decide⟩,ao ⟨c4,aM (ao (aM (aM (ag rfl (ao ⟨⟨by decide,by decide⟩,ao ⟨c3,bZ ?_⟩⟩)))))⟩⟩)))))))))))
  refine⟨.inl ⟨by omega,by omega⟩,bZ (aG ⟨_,_,rfl,by omega,by omega,fun z H3 gz lz s3=> ?_⟩)⟩
  refine push (p:= .put z) s3 hb pv (by omega) rfl rfl fun H4 y4 b4 h4 p4=> ?_
  have Rp:Run [] [.put z] z.cps.toList:=by
   have:=Run.put (s:=z) Run.nil
   rw[List.append_nil] at this;exact this
  have R4:Run l1 (ps++ [.put z]) (r1++z.cps.toList):=by
   have:=hR.app Rp
   rw[List.append_nil] at this;exact this
  have lz':=len_list z
  refine go H4 y4 _ _ (lN sm fr b4) h4 p4 R4 (fun p hp=> ?_) ?_ ?_
  ·rcases List.mem_append.mp hp with q | q
   ·exact aN p q
   ·rw[List.mem_singleton.mp q];exact gz.2
  ·rw[List.length_append];show ps.length+1≤_;omega
  ·rw[List.length_append];omega
 ·exact iF (cj (go H2 ys ps r1 sm hb pv hR aN (by omega) (by omega))) (decide_eq_false q3)
theorem ank{K:PySem.W.Frag}(vs:List V)(H:Hp)(Q:VK)(E:XK)(h:uC vs H Q E):aw (aW K dD [] (E:=E)) fg (Dn Q) (start jx vs) H:=by
 obtain⟨c,x,rfl,hx,hl,k⟩:=h
 have m7:0≤c % 7∧c % 7<7:=⟨Int.emod_nonneg _ (by decide),Int.emod_lt_of_pos _ (by decide)⟩
 have c3:(0:Int) <3:=by decide
 have c5:(0:Int) <5:=by decide
 have c7:(0:Int) <7:=by decide
 refine aZ (cH (aG ⟨Nat.zero_le _,fun b0 n0=> ?_⟩))
 have s1:=sameNew (o:= .lst []) n0
 refine aZ (ao ?_)
 refine TZ (body:=D8) (r:=anf) (aM (ao (aM (ag rfl (ao ⟨c7,bZ ⟨1+c % 7,rfl,by omega,by omega,zM (lo:=0) (n:=(1+c % 7).toNat) (CB H c x) ?_ ?_ ?_⟩⟩)))))
 ·exact⟨b0,[],[],[],_,[],none,none,none,rfl,s1,n0,aO, .nil,rfl, .nil,fun p hp=> (by cases hp),Nat.zero_le _,Nat.zero_le _⟩
 ·intro i σ H2 hi I
  exact ang hx hl (by omega) rfl I fun σ' H' I'=>I'
 ·rintro σ H2 ⟨b0,ys,ps,l1,l2,r1,u4,u5,u6,rfl,sm,fr,hb,pv,ex,hR,aN,lp,lr⟩
  have lx:x.length=l1.length+l2.length:=by rw[len_list,ex,List.length_append]
  refine uB rfl hb (aM (d6 (ag rfl ⟨bP hx.1,ag rfl ⟨trivial,push (p:= .keep ((x.length:Int) - (l1.length:Nat))) (aE.refl _) hb pv (by omega) rfl rfl fun H3 y3 b3 h3 p3=> ?_⟩⟩)))
  have R3:Run x.cps.toList (ps++ [.keep ((x.length:Int) - (l1.length:Nat))]) (r1++l2):=by rw[ex];exact hR.app (mi (by omega))
  have uD: ∀p∈ps++ [Pt.keep ((x.length:Int) - (l1.length:Nat))],eS p:=fun p hp=>by
   rcases List.mem_append.mp hp with q | q
   ·exact aN p q
   ·rw[List.mem_singleton.mp q];trivial
  have l3:(ps++ [Pt.keep ((x.length:Int) - (l1.length:Nat))]).length=ps.length+1:=by rw[List.length_append];rfl
  have T_:(r1++l2).length=r1.length+l2.length:=List.length_append
  have yg:=lN sm fr b3
  have fin: ∀(H4:Hp) (y4:List V) (p4:List Pt) (r4:List Nat),aE H H4→H4 b0=some (.lst y4)→bS H4 y4 p4→Run x.cps.toList p4 r4→(∀p∈p4,eS p)→p4.length≤16→r4.length≤x.length+80→
    aw (aW K dD [] (E:=E)) [.ret (.call 2 [(.v 2)])] (Dn Q) [some (.int c),some (.str x),some (.ref b0),some (.int (l1.length:Nat)),u4,u5,u6] H4:=by
   intro H4 y4 p4 r4 s4 h4 v4 R4 D_ lp4 lr4
   refine bY (bA km rfl (au (ag rfl (aG ⟨b0,y4,p4,_,r4,rfl,h4,v4,R4,D_,by omega,by rw[←len_list];omega,by omega,fun b H5 y5 qs s5 n5 h5 v5 wo ch5 R5 l5=> ?_⟩))))
   exact k b H5 y5 qs r4 (s4.trans s5) (s4.free n5) h5 v5 wo ch5 R5 (by omega) (by omega)
  refine bc (bf (aM (aM (ag rfl (ao ⟨⟨by decide,by decide⟩,ao ⟨c3,ao (dg ⟨_,rfl, ?_⟩)⟩⟩)))))
  by_cases q3:c / 7 % 3=0
  ·refine iT ?_ (decide_eq_true q3)
   have B0:0≤c / 21 % 5∧c / 21 % 5<5:=⟨Int.emod_nonneg _ (by decide),Int.emod_lt_of_pos _ (by decide)⟩
   refine uB rfl h3 (bA kl rfl (au (ag rfl (au (aM (ao (aM (aM (ag rfl (ao ⟨⟨by decide,by decide⟩,ao ⟨c5,bZ (aG ⟨_,_,rfl,by omega,by omega,fun z H4 gz lz s4=> ?_⟩)⟩⟩))))))))))
   refine push (p:= .put z) s4 h3 p3 (by omega) rfl rfl fun H5 y5 b5 h5 p5=> ?_
   have Rp:Run [] [.put z] z.cps.toList:=by
    have:=Run.put (s:=z) Run.nil
    rw[List.append_nil] at this;exact this
   have R5:=R3.app Rp
   rw[List.append_nil] at R5
   have lz':=len_list z
   refine fin H5 y5 _ _ (lN yg fr b5) h5 p5 R5 (fun p hp=> ?_) ?_ ?_
   ·rcases List.mem_append.mp hp with q | q
    ·exact uD p q
    ·rw[List.mem_singleton.mp q];exact gz.2
   ·rw[List.length_append,l3];show ps.length+1+1≤_;omega
   ·rw[List.length_append,T_];omega
  ·exact iF (cj (fin H3 y3 _ _ yg h3 p3 R3 uD (by omega) (by omega))) (decide_eq_false q3)
theorem Ub(S:List Nat)(l:Tr)(a b c:Int)(r:Tr):txt S (Tr.node l a b c r).ar=txt S l.ar++ (seg S (a,b,c)++txt S r.ar):=by rw[Tr.ar,uq,da]
theorem Uc{S:List Nat}{t:Tr}(h: ∀q∈t.ar,cg S q):t.en=((txt S t.ar).count 10:Nat):=by rw[xY,DT h]
theorem Ud{S:List Nat}{t:Tr}(h: ∀q∈t.ar,cg S q):t.sz=((txt S t.ar).length:Nat):=by rw[g4,←rp h]
theorem Ea{lt lb lf:Addr}{n:Int}:(dP lt lb lf n).lookup ("ends_ahead":Str)=none:=q_ (by decide+kernel) (by decide+kernel) (by decide+kernel) (by decide+kernel)
theorem anm{lt lb lf:Addr}{n:Int}:(dP lt lb lf n).lookup ("end_place":Str)=none:=q_ (by decide+kernel) (by decide+kernel) (by decide+kernel) (by decide+kernel)
theorem g8{K:PySem.W.Frag}{H:Hp}{Q:VK}{i j:Int}(h:Q (.int (i - j)) H):mT K .Sub (.int i) (.int j) H Q:=⟨trivial,h⟩
theorem uE{K:PySem.W.Frag}{H:Hp}{Q:VK}{x y:Int}(q:Q (.bl (decide (x≤y))) H):cC K .LtE (.int x) (.int y) H Q:=⟨trivial,q⟩
theorem ltI{K:PySem.W.Frag}{H:Hp}{Q:VK}{x y:Int}(q:Q (.bl (decide (x<y))) H):cC K .Lt (.int x) (.int y) H Q:=⟨trivial,q⟩
theorem Ue{K:PySem.W.Frag}{H:Hp}{Q:VK}{x y:Int}(q:Q (.bl (decide (y≤x))) H):cC K .GtE (.int x) (.int y) H Q:=⟨trivial,q⟩
def pN(C:Addr):Sp:=fun vs H Q E=> ∃(v:V) (t:Tr) (pl:Int) (s dx lt lb lf:Addr) (ts:List Str),vs=[v, .int pl, .ref s]∧Nd H t v∧(∀q∈t.ar,cg (av ts) q)∧cq C H s dx lt lb lf ts∧0≤pl∧pl≤t.sz∧
 Q (.int ((((txt (av ts) t.ar).take pl.toNat).count 10:Nat):Int)) H
theorem ano{K:PySem.W.Frag}{C:Addr}(vs:List V)(H:Hp)(Q:VK)(E:XK)(h:pN C vs H Q E):aw (aW K [("size_of",eY),("ends_of",fj)] [] [] [("ends_ahead",C,iX C)] (E:=E)) CU (Dn Q) (start CS vs) H:=by
 obtain⟨v,t,pl,s,dx,lt,lb,lf,ts,rfl,hn,hp,S,h0,h1,k⟩:=h
 obtain⟨mj,et⟩: ∃mj:Int,mj=((((txt (av ts) t.ar).take pl.toNat).count 10:Nat):Int):=⟨_,rfl⟩
 rw[←et] at k
 refine aZ (ao ?_)
 refine Dz (fun m σ H2=> ∃(v:V) (t:Tr) (pl e:Int) (u4 u5 u6 u7:Option V),σ=[some v,some (.int pl),some (.ref s),some (.int e),u4,u5,u6,u7]∧H2=H∧Nd H t v∧(∀q∈t.ar,cg (av ts) q)∧0≤pl∧pl≤t.sz∧mj=e+ ((((txt (av ts) t.ar).take pl.toNat).count 10:Nat):Int)∧m=t.ar.length)
  ⟨_,v,t,pl,0,none,none,none,none,rfl,rfl,hn,hp,h0,h1,by omega,rfl⟩ ?_
 rintro m σ H2 ⟨v,t,pl,e,u4,u5,u6,u7,rfl,rfl,hn,hp,h0,h1,et,rfl⟩
 refine bf (ag rfl (ao ?_))
 cases t with
 | nil=>
  cases hn
  refine⟨rfl,_,rfl,iF ?_ rfl⟩
  refine bY (ag rfl ?_)
  have:mj=e:=by rw[et];show e+ (((([]:List Nat).take pl.toNat).count 10:Nat):Int)=e;simp
  rw[←this];exact k
 | node l a b c r=>
  obtain⟨p,q,vl,vr,rfl,fk,hq,jG,ui⟩:=hn
  have iw: ∀x∈l.ar,cg (av ts) x:=fun x hx=>hp x (by simp[Tr.ar,hx])
  have uk: ∀x∈r.ar,cg (av ts) x:=fun x hx=>hp x (by simp[Tr.ar,hx])
  have pc:=hp (a,b,c) (by simp[Tr.ar])
  have q0:0≤a:=pc.p0
  have q1:1≤b:=pc.p1
  have q2:a+b≤ (av ts).length:=pc.p2
  have q3:c=((seg (av ts) (a,b,c)).count 10:Nat):=pc.p3
  have ql:((seg (av ts) (a,b,c)).length:Int)=b:=pc.len
  have zl:=Ud iw
  have el:=Uc iw
  have zs:(Tr.node l a b c r).sz=l.sz+b+r.sz:=rfl
  rw[zs] at h1
  rw[Ub] at et
  refine⟨rfl,_,rfl,iT ?_ rfl⟩
  refine⟨fun σ' H'=> ∃m',m'< (Tr.node l a b c r).ar.length∧ ∃(v:V) (t:Tr) (pl e:Int) (u4 u5 u6 u7:Option V),σ'=[some v,some (.int pl),some (.ref s),some (.int e),u4,u5,u6,u7]∧H'=H2∧Nd H2 t v∧(∀q∈t.ar,cg (av ts) q)∧0≤pl∧pl≤t.sz∧mj=e+ ((((txt (av ts) t.ar).take pl.toNat).count 10:Nat):Int)∧m'=t.ar.length,fun σ' H' h=>h, ?_⟩
  refine aZ (ba (ag rfl (ao (aJ fk rfl ?_))))
  refine aZ (bA eY rfl (au (ba (ag rfl (ao (aJ fk rfl (aG ⟨vl,l,rfl,jG, ?_⟩)))))))
  refine aZ (aM (ag rfl (ba (ag rfl (ao (aJ hq rfl (bZ ?_)))))))
  refine bc (bf (ag rfl (ag rfl (uE ⟨_,rfl, ?_⟩))))
  by_cases g1:pl≤l.sz
  ·refine iT ?_ (decide_eq_true g1)
   refine aZ (ba (ag rfl (ao (aJ fk rfl ?_))))
   refine⟨_,(by rw[Tr.ar,List.length_append,List.length_cons];omega),vl,l,pl,e,_,_,_,_,rfl,rfl,jG,iw,h0,g1, ?_,rfl⟩
   rw[et,List.take_append_of_le_length (by omega)]
  ·refine iF ?_ (decide_eq_false g1)
   refine bc (bf (ag rfl (ag rfl (ltI ⟨_,rfl, ?_⟩))))
   by_cases g2:pl<l.sz+b
   ·refine iT ?_ (decide_eq_true g2)
    refine aZ (aM (fL C (iX C) rfl (ag rfl ⟨s,dx,_,rfl,S.ob,Ea,aM (aM (ba (ag rfl (ao (aJ hq rfl (ag rfl (bZ (ag rfl (g8 ?_)))))))))⟩)))
    refine⟨s,dx,lt,lb,lf,ts,_,rfl,S,by omega, ?_⟩
    refine fL C (iX C) rfl (ag rfl ⟨s,dx,_,rfl,S.ob,Ea,ba (ag rfl (ao (aJ hq rfl ⟨s,dx,lt,lb,lf,ts,_,rfl,S,q0,g8 ?_⟩)))⟩)
    refine bY (aM (aM (ag rfl (bA fj rfl (au (ba (ag rfl (ao (aJ fk rfl (aG ⟨vl,l,rfl,jG,bZ (ag rfl (bZ ?_))⟩))))))))))
    have cc:=Ta (S:=av ts) (a:=a) (n:=pl - l.sz) q0 (by omega) c
    have e1:a+pl - l.sz=a+ (pl - l.sz):=by omega
    have key:e+l.en+ (ends ts (a+pl - l.sz) - ends ts a)=mj:=by
     rw[e1,et]
     have e2:ends ts (a+ (pl - l.sz)) - ends ts a=((seg (av ts) (a,pl - l.sz,c)).count 10:Nat):=cc
     rw[e2,el]
     have e3:(txt (av ts) l.ar++ (seg (av ts) (a,b,c)++txt (av ts) r.ar)).take pl.toNat=txt (av ts) l.ar++ (seg (av ts) (a,b,c)).take (pl - l.sz).toNat:=by
      rw[show pl.toNat=(txt (av ts) l.ar).length+ (pl - l.sz).toNat by omega,List.take_length_add_append,List.take_append_of_le_length (by omega)]
     rw[e3,List.count_append]
     have e4:(seg (av ts) (a,b,c)).take (pl - l.sz).toNat=seg (av ts) (a,pl - l.sz,c):=by
      unfold seg
      show(((av ts).drop a.toNat).take b.toNat).take (pl - l.sz).toNat=((av ts).drop a.toNat).take (pl - l.sz).toNat
      rw[List.take_take];congr 1;omega
     rw[e4];omega
    rw[key];exact k
   ·refine iF ?_ (decide_eq_false g2)
    refine aZ (aM (aM (ag rfl (bA fj rfl (au (ba (ag rfl (ao (aJ fk rfl (aG ⟨vl,l,rfl,jG,bZ (ba (ag rfl (ao (aJ hq rfl (bZ ?_)))))⟩))))))))))
    refine aZ (aM (ag rfl (ag rfl (g8 ?_))))
    refine aZ (ba (ag rfl (ao (aJ fk rfl ?_))))
    refine⟨_,(by rw[Tr.ar,List.length_append,List.length_cons];omega),vr,r,pl - (l.sz+b),e+l.en+c,_,_,_,_,rfl,rfl,ui,uk,by omega,by omega, ?_,rfl⟩
    rw[et,show pl.toNat=(txt (av ts) l.ar).length+ ((seg (av ts) (a,b,c)).length+ (pl - (l.sz+b)).toNat) by omega,List.take_length_add_append,List.take_length_add_append,List.count_append,List.count_append,el]
    omega
def uF(C:Addr):Sp:=fun vs H Q E=> ∃(p dx lt lb lf:Addr) (ts:List Str) (n:Int) (j:Nat),vs=[.ref p, .int n]∧cq C H p dx lt lb lf ts∧0≤n∧(pos 10 (av ts) 0)[n.toNat]?=some j∧Q (.int j) H
theorem anp{K:PySem.W.Frag}{C:Addr}(T:nq K C)(vs:List V)(H:Hp)(Q:VK)(E:XK)(h:uF C vs H Q E):aw (aW K [] [] (E:=E)) CZ (Dn Q) (start CY vs) H:=by
 obtain⟨p,dx,lt,lb,lf,ts,n,j,rfl,S,hn,hj,q⟩:=h
 refine bY (ba (dN (ag rfl ⟨p,C,dx,_,_,rfl,S.ob,T.cl,T.wQ,DB,ag rfl (fJ S.fd ?_ q)⟩)))
 have e:=kO (xs:=(fh 10 (av ts)).map V.int) (j:=n.toNat) (v:= .int j) (by rw[List.getElem?_map,fh,List.getElem?_map,hj];rfl)
 rw[show((n.toNat:Nat):Int)=n by omega] at e
 exact e
theorem anq{S:List Nat}{l r:Tr}{a b c:Int}:pos 10 (txt S (Tr.node l a b c r).ar) 0=pos 10 (txt S l.ar) 0++ ((pos 10 (seg S (a,b,c)) 0).map ((txt S l.ar).length+ ·)++ (pos 10 (txt S r.ar) 0).map ((txt S l.ar).length+ (seg S (a,b,c)).length+ ·)):=by
 rw[Ub,pe,pe]
 have e1:=tU 10 (seg S (a,b,c)) (txt S l.ar).length 0
 have e2:=tU 10 (txt S r.ar) ((txt S l.ar).length+ (seg S (a,b,c)).length) 0
 rw[Nat.add_zero] at e1 e2
 rw[Nat.zero_add,e1,e2]
def iZ(C:Addr):Sp:=fun vs H Q E=> ∃(v:V) (t:Tr) (n:Int) (s dx lt lb lf:Addr) (ts:List Str) (j:Nat),vs=[v, .int n, .ref s]∧Nd H t v∧(∀q∈t.ar,cg (av ts) q)∧cq C H s dx lt lb lf ts∧0≤n∧(pos 10 (txt (av ts) t.ar) 0)[n.toNat]?=some j∧Q (.int j) H
def uG(H:Hp)(s:Addr)(S:List Nat)(mj:Int)(m:Nat)(σ:St)(H2:Hp):Prop:=
 ∃(v:V) (t:Tr) (n e:Int) (j:Nat) (u4 u5:Option V),σ=[some v,some (.int n),some (.ref s),some (.int e),u4,u5]∧H2=H∧Nd H t v∧(∀q∈t.ar,cg S q)∧0≤n∧(pos 10 (txt S t.ar) 0)[n.toNat]?=some j∧mj=e+j∧m=t.ar.length
abbrev Eb(C:Addr):List (Str×Addr×Sp):=[("end_place",C,uF C),("ends_ahead",C,iX C)]
theorem anr{K:PySem.W.Frag}{C:Addr}(vs:List V)(H:Hp)(Q:VK)(E:XK)(h:iZ C vs H Q E):aw (aW K [("ends_of",fj),("size_of",eY)] [] [] (Eb C) (E:=E)) CW (Dn Q) (start CV vs) H:=by
 obtain⟨v,t,n,s,dx,lt,lb,lf,ts,j,rfl,hn,hp,S,h0,hj,k⟩:=h
 refine aZ (ao ?_)
 refine Dz (uG H s (av ts) (j:Int)) ⟨_,v,t,n,0,j,none,none,rfl,rfl,hn,hp,h0,hj,by omega,rfl⟩ ?_
 rintro m σ H2 ⟨v,t,n,e,j',u4,u5,rfl,rfl,hn,hp,h0,bO,et,rfl⟩
 cases t with
 | nil=>exact absurd bO (by show ¬([]:List Nat)[n.toNat]?=some j';simp)
 | node l a b c r=>
  obtain⟨p,q,vl,vr,rfl,fk,hq,jG,ui⟩:=hn
  have iw: ∀x∈l.ar,cg (av ts) x:=fun x hx=>hp x (by simp[Tr.ar,hx])
  have uk: ∀x∈r.ar,cg (av ts) x:=fun x hx=>hp x (by simp[Tr.ar,hx])
  have pc:=hp (a,b,c) (by simp[Tr.ar])
  have q0:0≤a:=pc.p0
  have q1:1≤b:=pc.p1
  have q2:a+b≤ (av ts).length:=pc.p2
  have q3:c=((seg (av ts) (a,b,c)).count 10:Nat):=pc.p3
  have ql:((seg (av ts) (a,b,c)).length:Int)=b:=pc.len
  have zl:=Ud iw
  have el:=Uc iw
  rw[anq] at bO
  have L1:=gi 10 (txt (av ts) l.ar) 0
  have L2:((pos 10 (seg (av ts) (a,b,c)) 0).map ((txt (av ts) l.ar).length+ ·)).length=(seg (av ts) (a,b,c)).count 10:=by rw[List.length_map,gi]
  have rL: ∀{σ:St} {Q1:VK},σ[0]?=some (some (.ref p))→Q1 (.int l.en) H2→ak (aW K [("ends_of",fj),("size_of",eY)] [] [] (Eb C) (E:=E)) (.call 0 [(.ix (.v 0) (.c (.int 0)))]) σ H2 Q1:=fun e0 q=>bA fj rfl (au (ba (ag e0 (ao (aJ fk rfl (aG ⟨vl,l,rfl,jG,q⟩))))))
  have rZ: ∀{σ:St} {Q1:VK},σ[0]?=some (some (.ref p))→Q1 (.int l.sz) H2→ak (aW K [("ends_of",fj),("size_of",eY)] [] [] (Eb C) (E:=E)) (.call 1 [(.ix (.v 0) (.c (.int 0)))]) σ H2 Q1:=fun e0 q=>bA eY rfl (au (ba (ag e0 (ao (aJ fk rfl (aG ⟨vl,l,rfl,jG,q⟩))))))
  refine jE (bf (ag rfl (rL rfl (ltI ⟨_,rfl, ?_⟩))))
  have less: ∀m',m'< (Tr.node l a b c r).ar.length→ ∀σ' H',uG H2 s (av ts) (j:Int) m' σ' H'→ ∃m',m'< (Tr.node l a b c r).ar.length∧uG H2 s (av ts) (j:Int) m' σ' H':=fun m' h σ' H' x=> ⟨m',h,x⟩
  have azi:(Tr.node l a b c r).ar.length=l.ar.length+ (r.ar.length+1):=by rw[Tr.ar,List.length_append,List.length_cons]
  by_cases g1:n<l.en
  ·refine iT (iT ?_ rfl) (decide_eq_true g1)
   refine⟨uG H2 s (av ts) (j:Int) l.ar.length,less _ (by omega), ?_⟩
   refine bc (bf (ag rfl (rL rfl (ltI ⟨_,rfl,iT ?_ (decide_eq_true g1)⟩))))
   refine aZ (ba (ag rfl (ao (aJ fk rfl ?_))))
   refine⟨vl,l,n,e,j',u4,u5,rfl,rfl,jG,iw,h0, ?_,et,rfl⟩
   rw[List.getElem?_append_left (by omega)] at bO
   exact bO
  ·refine iF ?_ (decide_eq_false g1)
   rw[List.getElem?_append_right (by omega),L1] at bO
   refine bf (ag rfl (aM (rL rfl (ba (ba (ag rfl (ao (aJ fk rfl (ao (aJ hq rfl (bZ (Ue ⟨_,rfl, ?_⟩))))))))))))
   by_cases g2:l.en+c≤n
   ·refine iT ?_ (decide_eq_true g2)
    refine⟨uG H2 s (av ts) (j:Int) r.ar.length,less _ (by omega), ?_⟩
    refine bc (bf (ag rfl (rL rfl (ltI ⟨_,rfl,iF ?_ (decide_eq_false g1)⟩))))
    refine aZ (aM (aM (ag rfl (rL rfl (g8 (ba (ba (ag rfl (ao (aJ fk rfl (ao (aJ hq rfl (g8 ?_)))))))))))))
    refine aZ (aM (aM (ag rfl (rZ rfl (bZ (ba (ba (ag rfl (ao (aJ fk rfl (ao (aJ hq rfl (bZ ?_)))))))))))))
    refine aZ (ba (ag rfl (ao (aJ fk rfl ?_))))
    rw[List.getElem?_append_right (by omega),L2,List.getElem?_map] at bO
    obtain⟨j2,DI,e2⟩:=Option.map_eq_some_iff.mp bO
    refine⟨vr,r,n - l.en - c,e+l.sz+b,j2,u4,u5,rfl,rfl,ui,uk,by omega, ?_,by omega,rfl⟩
    rw[show(n - l.en - c).toNat=n.toNat - (txt (av ts) l.ar).count 10 - (seg (av ts) (a,b,c)).count 10 by omega]
    exact DI
   ·refine iF ?_ (decide_eq_false g2)
    rw[List.getElem?_append_left (by omega),List.getElem?_map] at bO
    obtain⟨g,hg,e2⟩:=Option.map_eq_some_iff.mp bO
    refine aZ (ba (ba (ag rfl (ao (aJ fk rfl (ao (aJ hq rfl ?_)))))))
    have ea:ends ts a=(((av ts).take a.toNat).count 10:Nat):=rfl
    refine aZ (fL C (uF C) rfl (ag rfl ⟨s,dx,_,rfl,S.ob,anm,aM (aM (fL C (iX C) rfl (ag rfl ⟨s,dx,_,rfl,S.ob,Ea,ag rfl ⟨s,dx,lt,lb,lf,ts,a,rfl,S,q0,ag rfl (bZ (rL rfl (g8 ?_)))⟩⟩)))⟩))
    have es:av ts=(av ts).take a.toNat++ (seg (av ts) (a,b,c)++ ((av ts).drop a.toNat).drop b.toNat):=by
     show av ts=(av ts).take a.toNat++ (((av ts).drop a.toNat).take b.toNat++ ((av ts).drop a.toNat).drop b.toNat)
     rw[List.take_append_drop,List.take_append_drop]
    have lt':((av ts).take a.toNat).length=a.toNat:=by rw[List.length_take];omega
    have key:(pos 10 (av ts) 0)[(ends ts a+n - l.en).toNat]?=some (a.toNat+g):=by
     have e3:pos 10 (av ts) 0=pos 10 ((av ts).take a.toNat) 0++ ((pos 10 (seg (av ts) (a,b,c)) 0).map (a.toNat+ ·)++pos 10 (((av ts).drop a.toNat).drop b.toNat) (a.toNat+ (seg (av ts) (a,b,c)).length)):=by
      have p1:=tU 10 (seg (av ts) (a,b,c)) a.toNat 0
      rw[Nat.add_zero] at p1
      rw[←p1]
      conv=>lhs;rw[es,pe,pe,lt',Nat.zero_add]
     rw[e3,List.getElem?_append_right (by rw[gi];omega),gi,List.getElem?_append_left (by rw[List.length_map,gi];omega),List.getElem?_map]
     rw[show(ends ts a+n - l.en).toNat - ((av ts).take a.toNat).count 10=n.toNat - (txt (av ts) l.ar).count 10 by omega,hg];rfl
    refine⟨s,dx,lt,lb,lf,ts,_,a.toNat+g,rfl,S,by omega,key, ?_⟩
    refine bY (aM (aM (aM (ag rfl (rZ rfl (bZ (ag rfl (bZ (ag rfl (g8 ?_))))))))))
    rw[show e+l.sz+ ((a.toNat+g:Nat):Int) - a=(j:Int) by omega]
    exact k
theorem Ug{Γ:aC}{σ:St}{H:Hp}{Q:VK}{t a b:RE}(h:bH Γ t σ H fun c H1=>if c=true then ak Γ a σ H1 Q else ak Γ b σ H1 Q):ak Γ (.jY t a b) σ H Q:=h
def fM(l:List Nat)(i:Nat):Nat:=if i=0 then 0 else ((pos 10 l 0)[i - 1]?).getD 0+1
def g_(l:List Nat)(i:Nat):Int:=(if i=l.count 10 then (l.length:Int) else ((((pos 10 l 0)[i]?).getD 0:Nat):Int)) - fM l i
theorem pO{l:List Nat}{i:Nat}(h:i<l.count 10):(pos 10 l 0)[i]?=some (((pos 10 l 0)[i]?).getD 0):=by
 have:i< (pos 10 l 0).length:=by rw[gi];exact h
 simp[this]
section
variable {K:PySem.W.Frag} {CP C:Addr}
def eK(CP C:Addr):Sp:=fun vs H Q E=> ∃(p dp s dx lt lb lf:Addr) (v:V) (t:Tr) (ts:List Str) (i:Nat),vs=[.ref p, .int i]∧cK CP H p dp s v t (av ts)∧cq C H s dx lt lb lf ts∧i≤ (txt (av ts) t.ar).count 10∧Q (.int (fM (txt (av ts) t.ar) i)) H
theorem ans(T:fc K CP)(vs:List V)(H:Hp)(Q:VK)(E:XK)(h:eK CP C vs H Q E):aw (aW K [("place_of_end",iZ C)] [] (E:=E)) C1 (Dn Q) (start C0 vs) H:=by
 obtain⟨p,dp,s,dx,lt,lb,lf,v,t,ts,i,rfl,P,S,hi,q⟩:=h
 unfold fM at q
 refine bY (Ug (bf (ag rfl (ao (dg ⟨_,rfl, ?_⟩)))))
 by_cases z:i=0
 ·rw[if_pos z] at q
  exact iT (ao q) (decide_eq_true (by omega))
 ·rw[if_neg z] at q
  refine iF ?_ (decide_eq_false (by omega))
  refine aM (bA (iZ C) rfl (au (dN (ag rfl ⟨p,CP,dp,_,_,rfl,P.ob,T.cl,T.j9,ma,au (aM (ag rfl (ao (g8 (au (dN (ag rfl ⟨p,CP,dp,_,_,rfl,P.ob,T.cl,T.gH,iz,aG ?_⟩)))))))⟩))))
  have hp:=pO (l:=txt (av ts) t.ar) (i:=i - 1) (by omega)
  refine⟨v,t,(i:Int) - 1,s,dx,lt,lb,lf,ts,_,rfl,P.nd,P.pc,S,by omega,by rw[show((i:Int) - 1).toNat=i - 1 by omega];exact hp,ao (bZ ?_)⟩
  exact q
def iB(CP C:Addr):Sp:=fun vs H Q E=> ∃(p dp s dx lt lb lf:Addr) (v:V) (t:Tr) (ts:List Str) (i:Nat),vs=[.ref p, .int i]∧cK CP H p dp s v t (av ts)∧cq C H s dx lt lb lf ts∧i≤ (txt (av ts) t.ar).count 10∧Q (.int (g_ (txt (av ts) t.ar) i)) H
theorem ant{CE:Addr}(T:fc K CP)(vs:List V)(H:Hp)(Q:VK)(E:XK)(h:iB CP C vs H Q E):
  aw (aW K [("is_between",cp),("place_of_end",iZ C)] [] [] [("lines",CP,jJ CP),("size",CP,cT CP),("line_begin",CP,eK CP C)] (et:=[("NoPlace",CE)]) (E:=E)) tN (Dn Q) (start w6 vs) H:=by
 obtain⟨p,dp,s,dx,lt,lb,lf,v,t,ts,i,rfl,P,S,hi,q⟩:=h
 have n1:(cO s v).lookup ("lines":Str)=none:=dv (by decide+kernel) (by decide+kernel)
 have n2:(cO s v).lookup ("size":Str)=none:=dv (by decide+kernel) (by decide+kernel)
 have n3:(cO s v).lookup ("line_begin":Str)=none:=dv (by decide+kernel) (by decide+kernel)
 refine bc (df (du cp rfl (au (ag rfl (au (ao (au (aM (fi CP (jJ CP) rfl (ag rfl ⟨p,dp,_,rfl,P.ob,n1,p,dp,s,v,t,_,rfl,P,ao (g8 (aG ⟨_,_,_,rfl, .inl ⟨_,rfl,by omega,by omega,dt (iF (cj ?_) rfl)⟩⟩))⟩))))))))))
 refine aZ (kd (ag rfl (aM (fi CP (jJ CP) rfl (ag rfl ⟨p,dp,_,rfl,P.ob,n1,p,dp,s,v,t,_,rfl,P,ao (g8 (dg ?_))⟩)))))
 have fin: ∀(e:Int) (u:Option V),e - fM (txt (av ts) t.ar) i=g_ (txt (av ts) t.ar) i→aw (aW K [("is_between",cp),("place_of_end",iZ C)] [] [] [("lines",CP,jJ CP),("size",CP,cT CP),("line_begin",CP,eK CP C)] (et:=[("NoPlace",CE)]) (E:=E)) [.ret (.bin .Sub (.v 3) (.cm 2 "line_begin" (.v 0) [(.v 1)]))] (Dn Q) [some (.ref p),some (.int i),u,some (.int e)] H:=by
  intro e u he
  refine bY (aM (ag rfl (fL CP (eK CP C) rfl (ag rfl ⟨p,dp,_,rfl,P.ob,n3,ag rfl ⟨p,dp,s,dx,lt,lb,lf,v,t,ts,i,rfl,P,S,hi,g8 ?_⟩⟩))))
  rw[he];exact q
 refine aZ (Ug ?_)
 refine⟨_,rfl, ?_⟩
 by_cases z:i=(txt (av ts) t.ar).count 10
 ·refine iT ?_ (decide_eq_true (by omega))
  refine fi CP (cT CP) rfl (ag rfl ⟨p,dp,_,rfl,P.ob,n2,p,dp,s,v,t,_,rfl,P,fin _ _ ?_⟩)
  unfold g_;rw[if_pos z]
 ·refine iF ?_ (decide_eq_false (by omega))
  refine bA (iZ C) rfl (au (dN (ag rfl ⟨p,CP,dp,_,_,rfl,P.ob,T.cl,T.j9,ma,au (ag rfl (au (dN (ag rfl ⟨p,CP,dp,_,_,rfl,P.ob,T.cl,T.gH,iz,aG ?_⟩))))⟩)))
  have hp:=pO (l:=txt (av ts) t.ar) (i:=i) (by omega)
  refine⟨v,t,(i:Int),s,dx,lt,lb,lf,ts,_,rfl,P.nd,P.pc,S,by omega,hp,fin _ _ ?_⟩
  unfold g_;rw[if_neg z]
end
section
variable {K:PySem.W.Frag} {CP C:Addr}
def uH(l:List Nat)(pl:Nat):Nat:=(l.take pl).count 10
theorem anu(l:List Nat)(pl:Nat):uH l pl≤l.count 10:=by
 unfold uH
 have:l.count 10=(l.take pl).count 10+ (l.drop pl).count 10:=by rw[←List.count_append,List.take_append_drop]
 omega
def uI(CP C:Addr):Sp:=fun vs H Q E=> ∃(p dp s dx lt lb lf:Addr) (v:V) (t:Tr) (ts:List Str) (pl:Nat),vs=[.ref p, .int pl]∧cK CP H p dp s v t (av ts)∧cq C H s dx lt lb lf ts∧pl≤ (txt (av ts) t.ar).length∧
 ∀w H',aE H H'→H w=none→H' w=some (.tup [.int (uH (txt (av ts) t.ar) pl:Nat), .int ((pl:Int) - fM (txt (av ts) t.ar) (uH (txt (av ts) t.ar) pl))])→Q (.ref w) H'
theorem anv{CE:Addr}(T:fc K CP)(vs:List V)(H:Hp)(Q:VK)(E:XK)(h:uI CP C vs H Q E):
  aw (aW K [("is_between",cp),("ends_ahead_of",pN C)] [] [] [("size",CP,cT CP),("line_begin",CP,eK CP C)] (et:=[("NoPlace",CE)]) (E:=E)) tO (Dn Q) (start w9 vs) H:=by
 obtain⟨p,dp,s,dx,lt,lb,lf,v,t,ts,pl,rfl,P,S,hp,q⟩:=h
 have n2:(cO s v).lookup ("size":Str)=none:=dv (by decide+kernel) (by decide+kernel)
 have n3:(cO s v).lookup ("line_begin":Str)=none:=dv (by decide+kernel) (by decide+kernel)
 have hz:=P.sz
 refine bc (df (du cp rfl (au (ag rfl (au (ao (au (fi CP (cT CP) rfl (ag rfl ⟨p,dp,_,rfl,P.ob,n2,p,dp,s,v,t,_,rfl,P,aG ⟨_,_,_,rfl, .inl ⟨_,rfl,by omega,by omega,dt (iF (cj ?_) rfl)⟩⟩⟩)))))))))
 refine aZ (bA (pN C) rfl (au (dN (ag rfl ⟨p,CP,dp,_,_,rfl,P.ob,T.cl,T.j9,ma,au (ag rfl (au (dN (ag rfl ⟨p,CP,dp,_,_,rfl,P.ob,T.cl,T.gH,iz,aG ?_⟩))))⟩))))
 refine⟨v,t,pl,s,dx,lt,lb,lf,ts,rfl,P.nd,P.pc,S,by omega,by omega, ?_⟩
 have ll:=anu (txt (av ts) t.ar) pl
 refine bY (dM (au (ag rfl (au (aM (ag rfl (fL CP (eK CP C) rfl (ag rfl ⟨p,dp,_,rfl,P.ob,n3,ag rfl ⟨p,dp,s,dx,lt,lb,lf,v,t,ts,uH (txt (av ts) t.ar) pl,rfl,P,S,ll,g8 (aG ⟨(by show 2≤sizeLine;decide),fun w fw=> ?_⟩)⟩⟩))))))))
 exact q w _ (sameNew fw) fw aO
def uJ(CP C:Addr):Sp:=fun vs H Q E=> ∃(p dp s dx lt lb lf:Addr) (v:V) (t:Tr) (ts:List Str) (i:Nat) (c:Int),vs=[.ref p, .int i, .int c]∧cK CP H p dp s v t (av ts)∧cq C H s dx lt lb lf ts∧i≤ (txt (av ts) t.ar).count 10∧0≤c∧c≤g_ (txt (av ts) t.ar) i∧Q (.int (fM (txt (av ts) t.ar) i+c)) H
theorem anw{CE:Addr}(vs:List V)(H:Hp)(Q:VK)(E:XK)(h:uJ CP C vs H Q E):
  aw (aW K [("is_between",cp)] [] [] [("line_size",CP,iB CP C),("line_begin",CP,eK CP C)] (et:=[("NoPlace",CE)]) (E:=E)) tP (Dn Q) (start w_ vs) H:=by
 obtain⟨p,dp,s,dx,lt,lb,lf,v,t,ts,i,c,rfl,P,S,hi,h0,h1,q⟩:=h
 have n2:(cO s v).lookup ("line_size":Str)=none:=dv (by decide+kernel) (by decide+kernel)
 have n3:(cO s v).lookup ("line_begin":Str)=none:=dv (by decide+kernel) (by decide+kernel)
 refine bc (df (du cp rfl (au (ag rfl (au (ao (au (fL CP (iB CP C) rfl (ag rfl ⟨p,dp,_,rfl,P.ob,n2,ag rfl ⟨p,dp,s,dx,lt,lb,lf,v,t,ts,i,rfl,P,S,hi,aG ⟨_,_,_,rfl, .inl ⟨_,rfl,by omega,by omega,dt (iF (cj ?_) rfl)⟩⟩⟩⟩)))))))))
 exact bY (aM (fL CP (eK CP C) rfl (ag rfl ⟨p,dp,_,rfl,P.ob,n3,ag rfl ⟨p,dp,s,dx,lt,lb,lf,v,t,ts,i,rfl,P,S,hi,ag rfl (bZ q)⟩⟩)))
end
section
variable {K:PySem.W.Frag} {CP C CE:Addr}
def uK(CP CE:Addr):Sp:=fun vs H Q E=> ∃(p dp s:Addr) (v:V) (t:Tr) (S:List Nat) (v1 v2:V),vs=[.ref p,v1,v2]∧cK CP H p dp s v t S∧(eV v1 0 ((txt S t.ar).length:Nat) H∨ ∃b:Int,v1= .int b∧0≤b∧b≤ ((txt S t.ar).length:Nat)∧eV v2 b ((txt S t.ar).length:Nat) H)∧E (.ref CE) none H
theorem anx(vs:List V)(H:Hp)(Q:VK)(E:XK)(h:uK CP CE vs H Q E):
  aw (aW K [("is_between",cp),("parted",eJ C 32),("texts_of",jI C)] [] [] [("size",CP,cT CP)] (et:=[("NoPlace",CE)]) (E:=E)) tK (Dn Q) (start wV vs) H:=by
 obtain⟨p,dp,s,v,t,S,v1,v2,rfl,P,h,q⟩:=h
 have n1:(cO s v).lookup ("size":Str)=none:=dv (by decide+kernel) (by decide+kernel)
 rcases h with hb | ⟨b,rfl,h1,h2,hb⟩
 ·refine bc (jE (df (du cp rfl (au (ag rfl (au (ao (au (fi CP (cT CP) rfl (ag rfl ⟨p,dp,_,rfl,P.ob,n1,p,dp,s,v,t,_,rfl,P,aG ⟨_,_,_,rfl, .inr ⟨hb,dt (iT (iT ?_ rfl) rfl)⟩⟩⟩))))))))))
  exact⟨(by show 1≤sizeLine;decide),q⟩
 ·refine bc (jE (df (du cp rfl (au (ag rfl (au (ao (au (fi CP (cT CP) rfl (ag rfl ⟨p,dp,_,rfl,P.ob,n1,p,dp,s,v,t,_,rfl,P,aG ⟨_,_,_,rfl, .inl ⟨b,rfl,h1,h2,dt (iF ?_ rfl)⟩⟩⟩))))))))))
  refine df (du cp rfl (au (ag rfl (au (ag rfl (au (fi CP (cT CP) rfl (ag rfl ⟨p,dp,_,rfl,P.ob,n1,p,dp,s,v,t,_,rfl,P,aG ⟨_,_,_,rfl, .inr ⟨hb,dt (iT ?_ rfl)⟩⟩⟩))))))))
  exact⟨(by show 1≤sizeLine;decide),q⟩
def ko(CP CE:Addr):Sp:=fun vs H Q E=> ∃(p dp s:Addr) (v:V) (t:Tr) (S:List Nat) (v1:V),vs=[.ref p,v1]∧cK CP H p dp s v t S∧eV v1 0 ((txt S t.ar).count 10:Nat) H∧E (.ref CE) none H
theorem anz(vs:List V)(H:Hp)(Q:VK)(E:XK)(h:ko CP CE vs H Q E):
  aw (aW K [("is_between",cp),("place_of_end",iZ C)] [] [] [("lines",CP,jJ CP),("size",CP,cT CP),("line_begin",CP,eK CP C)] (et:=[("NoPlace",CE)]) (E:=E)) tN (Dn Q) (start w6 vs) H:=by
 obtain⟨p,dp,s,v,t,S,v1,rfl,P,hb,q⟩:=h
 have n1:(cO s v).lookup ("lines":Str)=none:=dv (by decide+kernel) (by decide+kernel)
 have e:(((txt S t.ar).count 10+1:Nat):Int) - 1=((txt S t.ar).count 10:Nat):=by omega
 refine bc (df (du cp rfl (au (ag rfl (au (ao (au (aM (fi CP (jJ CP) rfl (ag rfl ⟨p,dp,_,rfl,P.ob,n1,p,dp,s,v,t,_,rfl,P,ao (g8 (aG ⟨_,_,_,rfl, .inr ⟨by rw[e];exact hb,dt (iT ?_ rfl)⟩⟩))⟩))))))))))
 exact⟨(by show 1≤sizeLine;decide),q⟩
def uL(CP CE:Addr):Sp:=fun vs H Q E=> ∃(p dp s:Addr) (v:V) (t:Tr) (S:List Nat) (v1:V),vs=[.ref p,v1]∧cK CP H p dp s v t S∧eV v1 0 ((txt S t.ar).length:Nat) H∧E (.ref CE) none H
theorem anA(vs:List V)(H:Hp)(Q:VK)(E:XK)(h:uL CP CE vs H Q E):
  aw (aW K [("is_between",cp),("ends_ahead_of",pN C)] [] [] [("size",CP,cT CP),("line_begin",CP,eK CP C)] (et:=[("NoPlace",CE)]) (E:=E)) tO (Dn Q) (start w9 vs) H:=by
 obtain⟨p,dp,s,v,t,S,v1,rfl,P,hb,q⟩:=h
 have n1:(cO s v).lookup ("size":Str)=none:=dv (by decide+kernel) (by decide+kernel)
 refine bc (df (du cp rfl (au (ag rfl (au (ao (au (fi CP (cT CP) rfl (ag rfl ⟨p,dp,_,rfl,P.ob,n1,p,dp,s,v,t,_,rfl,P,aG ⟨_,_,_,rfl, .inr ⟨hb,dt (iT ?_ rfl)⟩⟩⟩)))))))))
 exact⟨(by show 1≤sizeLine;decide),q⟩
def uM(CP C CE:Addr):Sp:=fun vs H Q E=> ∃(p dp s dx lt lb lf:Addr) (v:V) (t:Tr) (ts:List Str) (v1 v2:V),vs=[.ref p,v1,v2]∧cK CP H p dp s v t (av ts)∧cq C H s dx lt lb lf ts∧
 (eV v1 0 ((txt (av ts) t.ar).count 10:Nat) H∨ ∃i:Nat,v1= .int i∧i≤ (txt (av ts) t.ar).count 10∧eV v2 0 (g_ (txt (av ts) t.ar) i) H)∧E (.ref CE) none H
theorem anB(vs:List V)(H:Hp)(Q:VK)(E:XK)(h:uM CP C CE vs H Q E):
  aw (aW K [("is_between",cp)] [] [] [("line_size",CP,cB (iB CP C) (ko CP CE)),("line_begin",CP,eK CP C)] (et:=[("NoPlace",CE)]) (E:=E)) tP (Dn Q) (start w_ vs) H:=by
 obtain⟨p,dp,s,dx,lt,lb,lf,v,t,ts,v1,v2,rfl,P,S,h,q⟩:=h
 have n2:(cO s v).lookup ("line_size":Str)=none:=dv (by decide+kernel) (by decide+kernel)
 rcases h with hb | ⟨i,rfl,hi,hb⟩
 ·exact bc (df (du cp rfl (au (ag rfl (au (ao (au (fL CP (cB (iB CP C) (ko CP CE)) rfl (ag rfl ⟨p,dp,_,rfl,P.ob,n2,ag rfl (.inr ⟨p,dp,s,v,t,_,v1,rfl,P,hb,q⟩)⟩)))))))))
 ·refine bc (df (du cp rfl (au (ag rfl (au (ao (au (fL CP (cB (iB CP C) (ko CP CE)) rfl (ag rfl ⟨p,dp,_,rfl,P.ob,n2,ag rfl (.inl ⟨p,dp,s,dx,lt,lb,lf,v,t,ts,i,rfl,P,S,hi,aG ⟨_,_,_,rfl, .inr ⟨hb,dt (iT ?_ rfl)⟩⟩⟩)⟩)))))))))
  exact⟨(by show 1≤sizeLine;decide),q⟩
end
section
variable {K:PySem.W.Frag} {CP C CT CC CF:Addr}
def rF(CT:Addr):Sp:=fun vs H Q E=> ∃v,vs=[v]∧jB v H∧E (.ref CT) none H
theorem anC(vs:List V)(H:Hp)(Q:VK)(E:XK)(h:rF CT vs H Q E):
  aw (aW K [("need_text",jC CT),("node_put",iy C)] [] [] [] [("Stock",C,pw C),("Paper",CP,gm CP)] (E:=E)) tI (Dn Q) (start wR vs) H:=by
 obtain⟨v,rfl,hb,q⟩:=h
 exact lQ (bA (jC CT) rfl (au (ag rfl (aG ⟨_,rfl, .inr ⟨hb,q⟩⟩))))
theorem anD(p:Pt)(ps:List Pt):(overOf (p::ps)).sum=(if p.word=("put":Str) then 0 else qW p)+ (overOf ps).sum:=by
 unfold overOf
 by_cases h:p.word=("put":Str)
 ·rw[if_pos h,List.filter_cons_of_neg (by simp[h])];omega
 ·rw[if_neg h,List.filter_cons_of_pos (by simp[h]),List.map_cons,List.sum_cons]
def rG(CP C CC CF:Addr):Sp:=fun vs H Q E=> ∃(p dp s dx lt lb lf:Addr) (v vc:V) (t:Tr) (ts:List Str),vs=[.ref p,vc]∧cK CP H p dp s v t (av ts)∧cq C H s dx lt lb lf ts∧t.ar.length≤1000∧ts.length≤10000∧(av ts).length≤500000∧(txt (av ts) t.ar).length≤1000000∧
 ((eU vc H∧ ∀H',aE H H'→E (.ref CC) none H')∨
 ∃a xs ps,vc= .ref a∧H a=some (.lst xs)∧bS H xs ps∧(∀p∈ps,cL p)∧chainOk "" ps=true∧ps.length≤1000000∧(¬ ∃r,Run (txt (av ts) t.ar) ps r)∧ ∀H',aE H H'→E (.ref CF) none H')
theorem anE(vs:List V)(H:Hp)(Q:VK)(E:XK)(h:rG CP C CC CF vs H Q E):
  aw (aW K [("sizes",cB ka (q9 CC)),("part_size",d5)] [] [] (To CP C) (et:=[("BadFit",CF)]) (E:=E)) tJ (Dn Q) (start wU vs) H:=by
 obtain⟨p,dp,s,dx,lt,lb,lf,v,vc,t,ts,rfl,P,S,l1,l2,l3,l4,h⟩:=h
 rcases h with⟨hb,q⟩ | ⟨a,xs,ps,rfl,ha,cE,aN,dz,hl,hr,k⟩
 ·exact bc (bf (ba (bA (cB ka (q9 CC)) rfl (au (ag rfl (aG (.inr ⟨vc,rfl,hb,q⟩)))))))
 have lx:=Paired.length cE
 have rA:(cO s v).lookup ("size":Str)=none:=dv (by decide+kernel) (by decide+kernel)
 have DX:(cO s v).lookup ("part":Str)=none:=dv (by decide+kernel) (by decide+kernel)
 refine bc (bf (ba (bA (cB ka (q9 CC)) rfl (au (ag rfl (aG (.inl ⟨a,xs,ps,rfl,ha,cE,aN,dz,hl,fun w H1 s1 hw=>ao (aJ hw rfl ?_)⟩)))))))
 have P1:=P.same s1
 refine fi CP (cT CP) rfl (ag rfl ⟨p,dp,_,rfl,P1.ob,rA,p,dp,s,v,t,_,rfl,P1,xQ ⟨_,rfl, ?_⟩⟩)
 by_cases Ec:(overOf ps).sum=((txt (av ts) t.ar).length:Nat)
 ·refine iF (cj ?_) (by rw[Ec];simp)
  refine aZ (ao ?_)
  refine DU (ag rfl ⟨a,rfl,⟨_,aP.of (s1 _ _ ha)⟩,mG (K:=K) (a:=a) (xs:=xs) (fun i σ H2=> ∃(x:Option V) (m1 m2:List Nat),σ=[some (.ref p),some (.ref a),some (.int (m1.length:Nat)),x]∧aE H H2∧txt (av ts) t.ar=m1++m2∧(¬ ∃r,Run m2 (ps.drop i) r)∧(overOf (ps.drop i)).sum=(m2.length:Nat))
   ⟨none,[],_,rfl,s1,rfl,hr,Ec⟩ (fun i σ H2 _ ⟨_,_,_,_,s2,_⟩=>aP.of (s2 _ _ ha)) ?_ ?_⟩)
  ·rintro i x σ H2 hi ⟨x0,m1,m2,rfl,s2,em,cu,mm⟩
   obtain⟨q,hq,gR⟩:=cE.get hi
   obtain⟨b,rfl,hb⟩:=gR.mono (bz s2)
   have bG:i<ps.length:=(List.getElem?_eq_some_iff.mp hq).1
   have ed:ps.drop i=q::ps.drop (i+1):=by rw[List.drop_eq_getElem_cons bG,(List.getElem?_eq_some_iff.mp hq).2]
   have oq:=aN q (List.mem_of_getElem? hq)
   rw[ed] at cu mm
   rw[anD] at mm
   have on:=SA (ps.drop (i+1)) fun y hy=>aN y (List.mem_of_mem_drop hy)
   have P2:=P.same s2
   have S2:=S.same s2
   have lm:(txt (av ts) t.ar).length=m1.length+m2.length:=by rw[em,List.length_append]
   refine bc (rf (bf (ba (ag rfl (ao (aJ hb rfl (ao (dO ⟨_,rfl, ?_⟩))))))))
   cases q with
   | keep n=>
    have n1:1≤n:=oq
    have Uh:n+ (overOf (ps.drop (i+1))).sum=(m2.length:Nat):=mm
    refine iF (iF (cj ?_) rfl) DV
    refine bc (bf (ba (ag rfl (ao (aJ hb rfl (ao (jD ⟨_,rfl,iT ?_ Ti⟩)))))))
    refine aZ (aM (ag rfl (bA d5 rfl (au (ag rfl (aG ⟨_, .keep n,rfl,⟨b,rfl,hb⟩,trivial,bZ ?_⟩))))))
    have e2:m2=m2.take n.toNat++m2.drop n.toNat:=(List.take_append_drop _ _).symm
    have lt':(m2.take n.toNat).length=n.toNat:=by rw[List.length_take];omega
    refine⟨some (.ref b),m1++m2.take n.toNat,m2.drop n.toNat, ?_,s2,by rw[em,List.append_assoc,←e2],fun⟨r,hr⟩=>cu ⟨_,by rw[e2];exact Run.keep (by rw[lt'];omega) hr⟩,by rw[List.length_drop];omega⟩
    show[some (V.ref p),some (V.ref a),some (V.int ((m1.length:Int)+n)),some (V.ref b)]=_
    rw[List.length_append,lt',show(m1.length:Int)+n=((m1.length+n.toNat:Nat):Int) by omega]
   | put z=>
    have Uh:0+ (overOf (ps.drop (i+1))).sum=(m2.length:Nat):=mm
    refine iF (iF (cj ?_) rfl) Th
    refine bc (bf (ba (ag rfl (ao (aJ hb rfl (ao (jD ⟨_,rfl,iF ?_ Tj⟩)))))))
    exact⟨some (.ref b),m1,m2,rfl,s2,em,fun⟨r,hr⟩=>cu ⟨_,Run.put hr⟩,by omega⟩
   | cut z=>
    have Uh:(z.length:Int)+ (overOf (ps.drop (i+1))).sum=(m2.length:Nat):=mm
    have lz:=len_list z
    refine iT ?_ DW
    refine bf (uu CP (jK CP C) rfl (ag rfl ⟨p,dp,_,rfl,P2.ob,DX,ag rfl (aM (ag rfl (d6 (ba (ag rfl (ao (aJ hb rfl ⟨bP oq.1.1,bZ ?_⟩)))))))⟩))
    refine⟨p,dp,s,dx,lt,lb,lf,v,t,ts,m1.length,m1.length+z.length,rfl,P2,S2,l1,l2,l3,l4,by omega,by omega,fun H3 s3=> ?_⟩
    have ec:pK (txt (av ts) t.ar) m1.length (m1.length+z.length)=⟨(m2.take z.length).toArray⟩:=by
     unfold pK
     rw[em,List.take_length_add_append,List.drop_left]
    have g5:=s3 _ _ hb
    rw[ec]
    refine ba (ag rfl (ao (aJ g5 rfl (jD ⟨_,rfl, ?_⟩))))
    by_cases g:m2.take z.length=z.cps.toList
    ·have eg:(⟨(m2.take z.length).toArray⟩:Str)=z:=iS (by simpa using g)
     refine iF (cj ?_) (by rw[eg];simp[Pt.val])
     refine bc (bf (ba (ag rfl (ao (aJ g5 rfl (ao (jD ⟨_,rfl,iT ?_ Tn⟩)))))))
     refine aZ (aM (ag rfl (bA d5 rfl (au (ag rfl (aG ⟨_, .cut z,rfl,⟨b,rfl,g5⟩,oq.1.1,bZ ?_⟩))))))
     have e2:m2=z.cps.toList++m2.drop z.length:=by rw[←g,List.take_append_drop]
     refine⟨some (.ref b),m1++z.cps.toList,m2.drop z.length, ?_,s2.trans s3,by rw[em,List.append_assoc,←e2],fun⟨r,hr⟩=>cu ⟨_,by rw[e2];exact Run.cut hr⟩,by rw[List.length_drop];omega⟩
     show[some (V.ref p),some (V.ref a),some (V.int ((m1.length:Int)+ (z.length:Nat))),some (V.ref b)]=_
     rw[List.length_append,←lz];rfl
    ·have ne:((⟨(m2.take z.length).toArray⟩:Str) !=z)=true:=by
      simp only[bne_iff_ne,ne_eq]
      intro e
      exact g (by have:=congrArg (fun y:Str=>y.cps.toList) e;simpa using this)
     refine iT ?_ ne
     exact⟨(by show 1≤sizeLine;decide),k _ (s2.trans s3)⟩
  ·rintro σ H2 ⟨_,m1,m2,rfl,s2,em,cu,mm⟩
   rw[lx,List.drop_length] at cu mm
   have:m2=[]:=List.eq_nil_of_length_eq_zero (by have:(0:Int)=(m2.length:Nat):=mm;omega)
   rw[this] at cu
   exact absurd ⟨_,Run.nil⟩ cu
 ·refine iT ?_ (by simp[Ec])
  exact⟨(by show 1≤sizeLine;decide),k _ s1⟩
def uN(CP C CC CF:Addr):Sp:=rG CP C CC CF
theorem anF(vs:List V)(H:Hp)(Q:VK)(E:XK)(h:uN CP C CC CF vs H Q E):
  aw (aW K [("need_fit",rG CP C CC CF),("sewn",lZ),("node_put",iy C),("parted",eJ C 32),("part_size",d5)] [] [] [] [("Paper",CP,gm CP)] (E:=E)) tL (Dn Q) (start wW vs) H:=by
 have h':=h
 obtain⟨p,dp,s,dx,lt,lb,lf,v,vc,t,ts,rfl,_⟩:=h
 exact lQ (bA (rG CP C CC CF) rfl (au (ag rfl (au (ag rfl (aG h'))))))
end
def lend(l:List Nat)(i:Nat):Nat:=if i=l.count 10 then l.length else ((pos 10 l 0)[i]?).getD 0
theorem anG(l:List Nat)(i:Nat):g_ l i=(lend l i:Int) - fM l i:=by
 unfold g_ lend
 split<;>rfl
theorem Ed{l:List Nat}{i j:Nat}(h:(pos 10 l 0)[i]?=some j):j<l.length:=by
 have:=(lL 10 l 0 j (List.mem_of_getElem? h)).2
 omega
theorem anH{l:List Nat}{i j k:Nat}(h:(pos 10 l 0)[i]?=some j)(h':(pos 10 l 0)[i+1]?=some k):j<k:=by
 obtain⟨a,rfl⟩:=List.getElem?_eq_some_iff.mp h
 obtain⟨b,rfl⟩:=List.getElem?_eq_some_iff.mp h'
 exact List.pairwise_iff_getElem.mp (xo 10 l 0) i (i+1) a b (by omega)
theorem Ui{l:List Nat}{i:Nat}(h:i≤l.count 10):fM l i≤lend l i∧lend l i≤l.length:=by
 unfold fM lend
 by_cases z:i=0
 ·rw[if_pos z]
  by_cases g:i=l.count 10
  ·rw[if_pos g];omega
  ·rw[if_neg g]
   have:=Ed (pO (l:=l) (i:=i) (by omega))
   omega
 ·rw[if_neg z]
  have p1:=pO (l:=l) (i:=i - 1) (by omega)
  have l1:=Ed p1
  by_cases g:i=l.count 10
  ·rw[if_pos g];omega
  ·rw[if_neg g]
   have p2:=pO (l:=l) (i:=i) (by omega)
   have l2:=Ed p2
   have:=anH p1 (by rw[show i - 1+1=i by omega];exact p2)
   omega
theorem anI(x:Str):Builtin.Str.occurrences x (Str.ofString "\n") 0 x.length (x.length+1)=pos 10 x.cps.toList 0:=by
 have:=Dj x 10 0 (x.length+1) (Nat.zero_le _)
 rw[List.drop_zero] at this
 show Builtin.Str.occurrences x ⟨#[10]⟩ 0 x.length (x.length+1)=_
 rw[this,List.take_of_length_le]
 rw[gi]
 have:x.cps.toList.count 10≤x.length:=by rw[len_list];exact List.count_le_length
 omega
theorem Uj(x:Str):Txt.split x (Str.ofString "\n")=Builtin.Str.partsBetween x (pos 10 x.cps.toList 0) 1:=by
 have one:pos 10 x.cps.toList 0=[]→Builtin.Str.partsBetween x (pos 10 x.cps.toList 0) 1=[x]:=fun e=>by
  rw[e]
  show[Builtin.Str.strSub x 0 x.length]=[x]
  congr 1
  apply iS
  show(x.cps.extract 0 x.cps.size).toList=x.cps.toList
  simp
 unfold Txt.split
 rw[anI]
 by_cases h:(decide (x.length< (Str.ofString "\n").length) || decide (Builtin.Str.strKind x<Builtin.Str.strKind (Str.ofString "\n")))=true
 ·rw[if_pos h]
  refine(one ?_).symm
  have k1:Builtin.Str.strKind (Str.ofString "\n")=1:=by decide+kernel
  have k2:1≤Builtin.Str.strKind x:=by unfold Builtin.Str.strKind;split<;> (try split) <;>decide
  have l1:(Str.ofString "\n").length=1:=by decide+kernel
  rw[k1,l1,Bool.or_eq_true] at h
  have:x.length=0:=by
   rcases h with h | h
   ·have:=of_decide_eq_true h;omega
   ·have:=of_decide_eq_true h;omega
  have e:x.cps.toList=[]:=List.eq_nil_of_length_eq_zero (by rw[←len_list];exact this)
  rw[e];rfl
 ·rw[if_neg h]
  by_cases g:(pos 10 x.cps.toList 0).isEmpty=true
  ·rw[if_pos g]
   exact(one (List.isEmpty_iff.mp g)).symm
  ·rw[if_neg g];rfl
theorem split_len(x:Str):(Txt.split x (Str.ofString "\n")).length=x.cps.toList.count 10+1:=by rw[Uj,length_partsBetween,gi]
theorem anJ{x:Str}{i:Nat}(h:i≤x.cps.toList.count 10): ∃z,(Txt.split x (Str.ofString "\n"))[i]?=some z∧z.length=lend x.cps.toList i - fM x.cps.toList i:=by
 rw[Uj]
 have L:=gi 10 x.cps.toList 0
 have ok:=Ui h
 have e1:(0::(pos 10 x.cps.toList 0).map (· +1))[i]?=some (fM x.cps.toList i):=by
  unfold fM
  by_cases z:i=0
  ·rw[if_pos z,z];rfl
  ·rw[if_neg z]
   obtain⟨k,rfl⟩: ∃k,i=k+1:=⟨i - 1,by omega⟩
   rw[List.getElem?_cons_succ,List.getElem?_map,pO (by omega)];rfl
 have e2:(pos 10 x.cps.toList 0++ [x.length])[i]?=some (lend x.cps.toList i):=by
  unfold lend
  by_cases z:i=x.cps.toList.count 10
  ·rw[if_pos z,List.getElem?_append_right (by omega),L,z,Nat.sub_self,←len_list];rfl
  ·rw[if_neg z,List.getElem?_append_left (by omega)]
   exact pO (by omega)
 refine⟨Builtin.Str.strSub x (fM x.cps.toList i) (lend x.cps.toList i), ?_, ?_⟩
 ·show(((0::(pos 10 x.cps.toList 0).map (· +1)).zip (pos 10 x.cps.toList 0++ [x.length])).map fun(i,j)=>Builtin.Str.strSub x i j)[i]?=_
  rw[List.getElem?_map,(List.getElem?_zip_eq_some (z:=(fM x.cps.toList i,lend x.cps.toList i))).mpr ⟨e1,e2⟩];rfl
 ·show(x.cps.extract (fM x.cps.toList i) (lend x.cps.toList i)).size=_
  rw[Array.size_extract]
  have:x.cps.size=x.cps.toList.length:=by simp
  omega
end L2.N
namespace L2.B
open PySem PySem.Spec PyProof.Rows
end L2.B
namespace L2
open PySem PySem.Spec PyProof.Rows
end L2
namespace L2.B
open PySem PySem.Spec PyProof.Rows
end L2.B
namespace L2.B
end L2.B
namespace L2.B
open PySem PySem.Spec PyProof.Rows
section
variable {H:Hp} {Q:VK} {E:XK}
end
end L2.B
namespace L2
open PySem PySem.Spec PyProof.Rows
theorem anK{K:PySem.W.Frag}{i j:Nat}{t:Addr}{v w:V}{σ:St}{H:Hp}{Q:St→Hp→Prop}(ht:H t=some (.tup [v,w]))(q:Q ((σ.set i (some v)).set j (some w)) H):qv K [i,j].length (m5 [i,j]) (.ref t) σ H Q:=
 ⟨t,_,rfl, .inl (bq.of ht),rfl,_,_,rfl,_,_,rfl,rfl,q⟩
end L2
namespace L2.B
open PySem PySem.Spec PyProof.Rows
section
variable {H:Hp} {Q:VK} {E:XK}
end
end L2.B
namespace L2.N
open PySem PySem.Spec L2.B
structure eL (CP C:Addr) (H:Hp) (p dp s dx lt lb lf:Addr) (v:V) (t:Tr) (ts:List Str) (x:Str):Prop where
 pa:cK CP H p dp s v t (av ts)
 st:cq C H s dx lt lb lf ts
 l1:t.ar.length≤1000
 l2:ts.length≤10000
 l3:(av ts).length≤500000
 tx:txt (av ts) t.ar=x.cps.toList
 go:good x
theorem eL.same{CP C:Addr}{H H':Hp}{p dp s dx lt lb lf:Addr}{v:V}{t:Tr}{ts:List Str}{x:Str}(B:eL CP C H p dp s dx lt lb lf v t ts x)(h:aE H H'):eL CP C H' p dp s dx lt lb lf v t ts x:=⟨B.pa.same h,B.st.same h,B.l1,B.l2,B.l3,B.tx,B.go⟩
section
variable {K:PySem.W.Frag} {CP C:Addr} {H H':Hp} {p dp s dx lt lb lf:Addr} {v:V} {t:Tr} {ts:List Str} {x:Str}
theorem eL.eq(B:eL CP C H p dp s dx lt lb lf v t ts x):L2.N.tx (av ts) t.ar=x:=iS (by rw[amB,B.tx])
theorem eL.l4(B:eL CP C H p dp s dx lt lb lf v t ts x):(txt (av ts) t.ar).length≤1000000:=by rw[B.tx,←len_list];exact B.go.1
end
section
variable {K:PySem.W.Frag} {H:Hp} {Q:VK}
theorem anL{Γ:aC}{σ:St}{a b:RE}{QT:Bool→Hp→Prop}(h:bI Γ [a,b] σ H fun vs H1=>wX Γ.K vs H1 fun x H2=>iL Γ.K x H2 fun b=>QT b H2):bH Γ (.xt CL [a,b]) σ H QT:=h
end
structure Kp (lt lb lf a:Addr):Prop where
 k1:a≠lt
 k2:a≠lb
 k3:a≠lf
theorem Kp.of{C:Addr}{H:Hp}{s dx lt lb lf a:Addr}{ts:List Str}(S:cq C H s dx lt lb lf ts)(h:H a=none):Kp lt lb lf a:=
 ⟨fun z=> (by rw[z,S.tx] at h;cases h),fun z=> (by rw[z,S.bg] at h;cases h),fun z=> (by rw[z,S.fd] at h;cases h)⟩
theorem Uk{C:Addr}{H H':Hp}{s dx lt lb lf a:Addr}{ts:List Str}{xs:List V}(S:cq C H s dx lt lb lf ts)(b:eW s lt lb lf H H')(k:Kp lt lb lf a)(h:H a=some (.lst xs)):H' a=some (.lst xs):=
 b _ _ h (fun z=>by rw[z,S.ob] at h;cases h) k.k1 k.k2 k.k3
theorem anM(xs:List V)(i j:Nat):gc xs (some (i:Int)) (some (j:Int))=(xs.drop i).take (j - i):=by
 unfold gc
 rw[HT.mL,HT.mL]
 by_cases h:i≤xs.length
 ·by_cases h2:j≤xs.length
  ·rw[show min i xs.length=i by omega,show min j xs.length=j by omega]
  ·rw[show min i xs.length=i by omega,show min j xs.length=xs.length by omega,List.take_of_length_le (by rw[List.length_drop];omega),List.take_of_length_le (by rw[List.length_drop];omega)]
 ·rw[List.drop_of_length_le (by omega),List.drop_of_length_le (by omega),List.take_nil,List.take_nil]
end L2.N
namespace L2.nC
open PySem PySem.Spec L2.B L2.N
def Ee:Nat→Str
 | 0=> "text"
 | 1=> "change"
 | 2=> "fit"
 | _=> "place"
abbrev Ul(c0 c1 c2 c3 c4 c5 c6 c7 c8 c9 gU gW gX:Addr):List (Str×V):=
 [("BadText", .ref c0),("BadChange", .ref c1),("BadFit", .ref c2),("NoPlace", .ref c3),("BadSide", .ref c4),("NoMark", .ref c5),("NoNode", .ref c6),("NoCursor", .ref c7),("BadDeed", .ref c8),("BadLetter", .ref c9),("NoLetter", .ref gU),("NoHand", .ref gW),("NoNote", .ref gX)]
def gP(K:PySem.W.Frag)(cs:List Addr)(bB:Addr):Sp:=fun vs H Q E=> ∃ea D j,vs=[.ref ea]∧ExcAt H ea D∧eI K cs bB D j∧(j=0∨j=1∨j=2∨j=3)∧ ∀H',aE H H'→Q (.str (Ee j)) H'
section
variable {Γ:aC} {cs:List Addr} {bB ea D:Addr} {j:Nat}
theorem yh(hk:eI Γ.K cs bB D j)(hg: ∀i c,cs[i]?=some c→Γ.gv i= .ref c): ∀(is:List Nat) (σ:St) (H:Hp) (Q:List V→Hp→Prop),(∀i∈is,i<cs.length)→σ[0]?=some (some (.ref ea))→ExcAt H ea D→Q (is.map fun i=>V.bl (decide (i=j))) H→bI Γ (is.map fun i=> .de (.v 0) (.g i)) σ H Q
 | [],σ,H,Q,_,_,_,q=>q
 | i::is,σ,H,Q,hl,h0,he,q=>by
  have hi:=hl i (.head _)
  have hc:cs[i]?=some cs[i]:=by simp[hi]
  have key: ∀k:VK,jm Γ.K [.ref ea, .ref cs[i]] H k→jm Γ.K [.ref ea,Γ.gv i] H k:=by
   intro k;rw[hg i _ hc];exact id
  exact au (alh (ag h0 (Dv (key _ ⟨D,_,he,hk.cls, .inl ⟨_,rfl⟩,hk.SE i _ hc,yh hk hg is σ H _ (fun p hp=>hl p (.tail _ hp)) h0 he q⟩))))
def dj(n j:Nat):List V:=(List.range n).map fun i=>V.bl (decide (i=j))
theorem anN{H:Hp}{Q:VK}(hl:cs.length=13)(hg: ∀i c,cs[i]?=some c→Γ.gv i= .ref c)(he:ExcAt H ea D)(hk:eI Γ.K cs bB D j)(hj:j=0∨j=1∨j=2∨j=3)(q: ∀H',aE H H'→Q (.str (Ee j)) H'):
  aw Γ fG (Dn Q) [some (.ref ea),none] H:=by
 refine aZ (cH (yh hk hg [0,1,2,3] _ H _ (by rw[hl];decide) rfl he ⟨(by show 4≤sizeLine;decide),fun l1 f1=> ?_⟩))
 have s1:=sameNew (o:= .lst ([0,1,2,3].map fun i=>V.bl (decide (i=j)))) f1
 refine aZ (aM (ag rfl (cH (yh hk hg [4,5,6,7] _ _ _ (by rw[hl];decide) rfl (he.same s1) ⟨(by show 4≤sizeLine;decide),fun l2 f2=> ?_⟩))))
 have s2:=sameNew (o:= .lst ([4,5,6,7].map fun i=>V.bl (decide (i=j)))) f2
 refine .inl ⟨l1,l2,_,_,rfl,rfl,s2 _ _ aO,aO,(by show 8≤sizeLine;decide),fun l3 f3=> ?_⟩
 have s3:=sameNew (o:= .lst (([0,1,2,3].map fun i=>V.bl (decide (i=j)))++ [4,5,6,7].map fun i=>V.bl (decide (i=j)))) f3
 have i0:=(s1.trans s2).trans s3
 refine aZ (aM (ag rfl (cH (yh hk hg [8,9,10,11] _ _ _ (by rw[hl];decide) rfl (he.same i0) ⟨(by show 4≤sizeLine;decide),fun l4 f4=> ?_⟩))))
 have s4:=sameNew (o:= .lst ([8,9,10,11].map fun i=>V.bl (decide (i=j)))) f4
 refine .inl ⟨l3,l4,_,_,rfl,rfl,s4 _ _ aO,aO,(by show 12≤sizeLine;decide),fun l5 f5=> ?_⟩
 have s5:=sameNew (o:= .lst ((([0,1,2,3].map fun i=>V.bl (decide (i=j)))++ [4,5,6,7].map fun i=>V.bl (decide (i=j)))++ [8,9,10,11].map fun i=>V.bl (decide (i=j)))) f5
 have Ef:=(i0.trans s4).trans s5
 have h5:(upd (upd (upd (upd (upd H l1 (.lst ([0,1,2,3].map fun i=>V.bl (decide (i=j))))) l2 (.lst ([4,5,6,7].map fun i=>V.bl (decide (i=j))))) l3 (.lst (([0,1,2,3].map fun i=>V.bl (decide (i=j)))++ [4,5,6,7].map fun i=>V.bl (decide (i=j))))) l4 (.lst ([8,9,10,11].map fun i=>V.bl (decide (i=j))))) l5 (.lst ((([0,1,2,3].map fun i=>V.bl (decide (i=j)))++ [4,5,6,7].map fun i=>V.bl (decide (i=j)))++ [8,9,10,11].map fun i=>V.bl (decide (i=j))))) l5=some (.lst (dj 12 j)):=aO
 generalize (upd (upd (upd (upd (upd H l1 (.lst ([0,1,2,3].map fun i=>V.bl (decide (i=j))))) l2 (.lst ([4,5,6,7].map fun i=>V.bl (decide (i=j))))) l3 (.lst (([0,1,2,3].map fun i=>V.bl (decide (i=j)))++ [4,5,6,7].map fun i=>V.bl (decide (i=j))))) l4 (.lst ([8,9,10,11].map fun i=>V.bl (decide (i=j))))) l5 (.lst ((([0,1,2,3].map fun i=>V.bl (decide (i=j)))++ [4,5,6,7].map fun i=>V.bl (decide (i=j)))++ [8,9,10,11].map fun i=>V.bl (decide (i=j)))))=H5 at Ef h5⊢
 have Um:=he.same Ef
 have Uo:cs[12]?=some cs[12]:=by simp[hl]
 have lR:=hk.SE 12 _ Uo
 have Up:(dj 12 j).all dX=true:=by rcases hj with rfl | rfl | rfl | rfl<;>rfl
 have anO:(dj 12 j).countP (fun z=>dY z (.bl true))=1:=by rcases hj with rfl | rfl | rfl | rfl<;>rfl
 have lg:eB (.bl true) (dj 12 j)=true:=by rcases hj with rfl | rfl | rfl | rfl<;>rfl
 have anP:(dj 12 j).findIdx (fun z=>dY z (.bl true))=j:=by rcases hj with rfl | rfl | rfl | rfl<;>rfl
 have h12:decide (12=j)=false:=by rcases hj with rfl | rfl | rfl | rfl<;>rfl
 rw[h12] at lR
 refine bc (gZ (df (alj rfl Um hk.cls hk.val (iF ?_ rfl))))
 refine gZ (bf (ke (ag rfl ⟨.inl ⟨rfl,_,aP.of h5⟩,ao ⟨_,aP.of h5,rfl,Up, ?_⟩⟩)))
 rw[anO]
 refine ao (xQ ⟨_,rfl,iF ?_ rfl⟩)
 refine ue (ali rfl Um hk.cls (hg 12 _ Uo) lR (iF ?_ rfl))
 refine bY (ba (cH (au (ao (au (ao (au (ao (au (ao (au (ao (au (ao (au (ao (au (ao (au (ao (au (ao (au (ao (au (ao (aG ⟨(by show 12≤sizeLine;decide),fun l6 f6=> ?_⟩)))))))))))))))))))))))))))
 have s6:=sameNew (o:= .lst [V.str "text",V.str "change",V.str "fit",V.str "place",V.str "s",V.str "m",V.str "n",V.str "c",V.str "d",V.str "l",V.str "x",V.str "h"]) f6
 refine ke (ag rfl ⟨.inl ⟨rfl,_,aP.of (s6 _ _ h5)⟩,ao ⟨_,aP.of (s6 _ _ h5),rfl,Up,lg, ?_⟩⟩)
 rw[anP]
 refine .inl ⟨l6,_,_,_,rfl,rfl,aP.of aO, ?_,q _ (Ef.trans s6)⟩
 rcases hj with rfl | rfl | rfl | rfl<;>rfl
end
theorem Dl{K:PySem.W.Frag}{c0 c1 c2 c3 c4 c5 c6 c7 c8 c9 gU gW gX bB:Addr}(vs:List V)(H:Hp)(Q:VK)(h:gP K [c0,c1,c2,c3,c4,c5,c6,c7,c8,c9,gU,gW,gX] bB vs H Q E0):
  aw (aW K [] (Ul c0 c1 c2 c3 c4 c5 c6 c7 c8 c9 gU gW gX)) fG (Dn Q) (start lI vs) H:=by
 obtain⟨ea,D,j,rfl,he,hk,hj,q⟩:=h
 refine anN (Γ:=aW K [] (Ul c0 c1 c2 c3 c4 c5 c6 c7 c8 c9 gU gW gX)) (cs:=[c0,c1,c2,c3,c4,c5,c6,c7,c8,c9,gU,gW,gX]) rfl (fun i c hi=> ?_) he hk hj q
 have gd:i<13:=(List.getElem?_eq_some_iff.mp hi).1
 match i,gd with
 | 0,_ | 1,_ | 2,_ | 3,_ | 4,_ | 5,_ | 6,_ | 7,_ | 8,_ | 9,_ | 10,_ | 11,_ | 12,_=>exact congrArg V.ref (Option.some.inj hi)
def i5(P:V→Hp→Prop)(Γ:aC)(σ:St)(e:RE):Prop:= ∀(H:Hp) (Q:VK),(∀v H',aE H H'→P v H'→Q v H')→ak Γ e σ H Q
section
variable {Γ:aC} {σ:St} {P:V→Hp→Prop}
theorem uO(st: ∀v H H',P v H→aE H H'→P v H'): ∀(es:List RE),(∀e∈es,i5 P Γ σ e)→ ∀(H:Hp) (Q:List V→Hp→Prop),(∀vs H',aE H H'→vs.length=es.length→(∀v∈vs,P v H')→Q vs H')→bI Γ es σ H Q
 | [],_,H,Q,q=>aG (q [] H (aE.refl _) rfl (fun v hv=>by cases hv))
 | e::es,h,H,Q,q=>au (h e (.head _) H _ fun v H1 s1 o=>uO st es (fun e' he'=>h e' (.tail _ he')) H1 _ fun vs H2 s2 ln os=>q (v::vs) H2 (s1.trans s2) (by rw[List.length_cons,ln,List.length_cons]) (fun w hw=>by
   rcases List.mem_cons.mp hw with rfl | hw
   ·exact st _ _ _ o s2
   ·exact os w hw))
theorem i6{v:V}(h: ∀H,P v H):i5 P Γ σ (.c v):=fun H Q q=>ao (q v H (aE.refl _) (h H))
theorem Uq{v:V}(h: ∀a H,H a=some (.lst [v])→P (.ref a) H):i5 P Γ σ (.lst [.c v]):=fun H Q q=>cH (au (ao (aG ⟨(by show 1≤sizeLine;decide),fun a ha=>q _ _ (sameNew ha) (h _ _ aO)⟩)))
theorem Ur{v:V}(h: ∀a H,H a=some (.tup [v])→P (.ref a) H):i5 P Γ σ (.tup [.c v]):=fun H Q q=>dM (au (ao (aG ⟨(by show 1≤sizeLine;decide),fun a ha=>q _ _ (sameNew ha) (h _ _ aO)⟩)))
theorem Us(h: ∀a H,H a=some (.dK [])→P (.ref a) H):i5 P Γ σ .qc:=fun H Q q=>alx fun a ha=>q _ _ (sameNew ha) (h _ _ aO)
theorem Ut(st: ∀v H H',P v H→aE H H'→P v H'){es:List RE}{r:List RS}{D:Ends}{l:Addr}{xs:List V}{H:Hp}{a b c:Option V}(hm: ∀e∈es,i5 P Γ [a,b,c,some (.ref l)] e)(hl:H l=some (.lst xs))(ho: ∀v∈xs,P v H)(hn:xs.length+es.length≤1000)
  (q: ∀l' mZ H',aE H H'→H' l'=some (.lst mZ)→(∀v∈mZ,P v H')→mZ.length=xs.length+es.length→aw Γ r D [a,b,c,some (.ref l')] H'):
  aw Γ (.asg 3 (.bin .Add (.v 3) (.lst es))::r) D [a,b,c,some (.ref l)] H:=by
 refine aZ (aM (ag rfl (cH (uO st es hm H _ fun vs H1 s1 ln os=> ⟨bP (by omega),fun m fm=> ?_⟩))))
 have s2:=sameNew (o:= .lst vs) fm
 refine .inl ⟨l,m,xs,vs,rfl,rfl,s2 _ _ (s1 _ _ hl),aO,bP (by omega),fun p fp=> ?_⟩
 have s3:=sameNew (o:= .lst (xs++vs)) fp
 have Eg:=s2.trans s3
 refine q p (xs++vs) _ (s1.trans Eg) aO (fun v hv=> ?_) (by rw[List.length_append,ln])
 rcases List.mem_append.mp hv with h | h
 ·exact st _ _ _ (ho v h) (s1.trans Eg)
 ·exact st _ _ _ (os v h) Eg
end
theorem anS{K:PySem.W.Frag}(vs:List V)(H:Hp)(Q:VK)(E:XK)(h:eT vs H Q E):aw (aW K [] [] (E:=E)) BA (Dn Q) (start C6 vs) H:=by
 obtain⟨v,rfl,h⟩:=h
 exact Sx [v] H Q E ⟨v,rfl,h⟩
def jL(v:V)(H:Hp):Prop:=iq v H∨ ∃i:Int,v= .int i
theorem jL.same{v:V}{H H':Hp}(h:jL v H)(s:aE H H'):jL v H':=by
 rcases h with h | h
 ·exact .inl (h.same s)
 ·exact .inr h
def rH:Sp:=fun vs H Q E=> ∃(c n:Int),vs=[.int c, .int n]∧0≤n∧ ∀v H',aE H H'→jL v H'→Q v H'
theorem anT{K:PySem.W.Frag}(vs:List V)(H:Hp)(Q:VK)(E:XK)(h:rH vs H Q E):aw (aW K [] [] (E:=E)) jy (Dn Q) (start qL vs) H:=by
 obtain⟨c,n,rfl,hn,q⟩:=h
 refine aZ (cH (uO (P:=iq) (fun _ _ _ h s=>h.same s) _ ?_ H _ fun its H1 s1 ln os=> ⟨bP (by rw[ln];decide),fun l fl=> ?_⟩))
 ·intro e he
  simp only[List.mem_cons,List.not_mem_nil,or_false] at he
  rcases he with rfl | rfl | rfl | rfl | rfl | rfl | rfl
  ·exact i6 fun H=> .inl ⟨_,rfl⟩
  ·exact i6 fun H=> .inr rfl
  ·exact i6 fun H=> .inr rfl
  ·exact Uq fun a H h=> .inr (tV h rfl)
  ·exact i6 fun H=> .inl ⟨_,rfl⟩
  ·exact Ur fun a H h=> .inr (pj h rfl)
  ·exact Us fun a H h=> .inr (SF h rfl)
 have s2:=sameNew (o:= .lst its) fl
 have h2:upd H1 l (.lst its) l=some (.lst its):=aO
 have Uu: ∀v∈its,iq v (upd H1 l (.lst its)):=fun v hv=> (os v hv).same s2
 have kq:=s1.trans s2
 have hit:its.length=7:=ln
 generalize upd H1 l (.lst its)=H2 at h2 Uu kq⊢
 refine bc (bf (aM (ag rfl (ao ⟨(by show(0:Int) <9;decide),ao (dg ⟨_,rfl,eE (fun _=> ?_) (fun _=>cj ?_)⟩)⟩))))
 ·obtain⟨v,hv,g7⟩:=L2.N.pick (its:=its) (j:=c / 9 % 7) (Int.emod_nonneg _ (by decide)) (by rw[hit];exact Int.emod_lt_of_pos _ (by decide))
  refine bY (ba (ag rfl (aM (aM (ag rfl (ao ⟨⟨by decide,by decide⟩,ao ⟨(by show(0:Int) <7;decide), .inl ⟨l,its,_,v,rfl,rfl,aP.of h2,g7, ?_⟩⟩⟩))))))
  exact q v H2 kq (.inl (Uu v hv))
 ·refine bY (aM (aM (aM (ag rfl (ao ⟨⟨by decide,by decide⟩,aM (ag rfl (ao (bZ ⟨(by show(0:Int) <n+5;omega),ao ⟨trivial, ?_⟩⟩)))⟩)))))
  exact q _ H2 kq (.inr ⟨_,rfl⟩)
section
variable {Γ:aC} {σ:St}
theorem yi{a x:Addr}{H:Hp}(ha:H a=some (.lst [.ref x]))(h:kc (.ref x) H):eU (.ref a) H:= .inr ⟨a,_,rfl,ha,[], .ref x,[],[],rfl, .nil,(fun _ h=>by cases h),rfl, .inl h⟩
theorem uP{w t:V}(h: ∀b H,H b=some (.tup [w,t])→kc (.ref b) H):i5 eU Γ σ (.lst [.tup [.c w, .c t]]):=fun H Q q=>by
 refine cH (au (dM (au (ao (au (ao (aG ⟨(by show 2≤sizeLine;decide),fun b hb=>aG ⟨(by show 1≤sizeLine;decide),fun a ha=> ?_⟩⟩)))))))
 have s1:=sameNew (o:= .tup [w,t]) hb
 have s2:=sameNew (o:= .lst [V.ref b]) ha
 exact q _ _ (s1.trans s2) (yi aO (h b _ (s2 _ _ aO)))
theorem anU{w:V}{i:Int}(h: ∀b H,H b=some (.tup [w, .int (-i)])→kc (.ref b) H):i5 eU Γ σ (.lst [.tup [.c w, .neg (.c (.int i))]]):=fun H Q q=>by
 refine cH (au (dM (au (ao (au (mh (aG ⟨(by show 2≤sizeLine;decide),fun b hb=>aG ⟨(by show 1≤sizeLine;decide),fun a ha=> ?_⟩⟩)))))))
 have s1:=sameNew (o:= .tup [w, .int (-i)]) hb
 have s2:=sameNew (o:= .lst [V.ref b]) ha
 exact q _ _ (s1.trans s2) (yi aO (h b _ (s2 _ _ aO)))
theorem anV{w t u:V}:i5 eU Γ σ (.lst [.tup [.c w, .c t, .c u]]):=fun H Q q=>by
 refine cH (au (dM (au (ao (au (ao (au (ao (aG ⟨(by show 3≤sizeLine;decide),fun b hb=>aG ⟨(by show 1≤sizeLine;decide),fun a ha=> ?_⟩⟩)))))))))
 have s1:=sameNew (o:= .tup [w,t,u]) hb
 have s2:=sameNew (o:= .lst [V.ref b]) ha
 exact q _ _ (s1.trans s2) (yi aO (.inr ⟨b,_,rfl,s2 _ _ aO,(by show 3≤1000000;decide), .inl (by show(3:Nat)≠2;decide)⟩))
theorem anW{w t:V}:i5 eU Γ σ (.lst [.lst [.c w, .c t]]):=fun H Q q=>by
 refine cH (au (cH (au (ao (au (ao (aG ⟨(by show 2≤sizeLine;decide),fun b hb=>aG ⟨(by show 1≤sizeLine;decide),fun a ha=> ?_⟩⟩)))))))
 have s1:=sameNew (o:= .lst [w,t]) hb
 have s2:=sameNew (o:= .lst [V.ref b]) ha
 exact q _ _ (s1.trans s2) (yi aO (.inl (tV (s2 _ _ aO) rfl)))
theorem Eh{w t w' t':V}(p p':Pt)(e1:w= .str p.word)(e2:t=p.val)(e3:w'= .str p'.word)(e4:t'=p'.val)(o:cL p)(o':cL p')(h:ej p'.word p.word=false)(hc:chainOk "" [p]=true):i5 eU Γ σ (.lst [.tup [.c w, .c t], .tup [.c w', .c t']]):=fun H Q q=>by
 refine cH (au (dM (au (ao (au (ao (aG ⟨(by show 2≤sizeLine;decide),fun b hb=> ?_⟩)))))))
 refine au (dM (au (ao (au (ao (aG ⟨(by show 2≤sizeLine;decide),fun b' kQ=>aG ⟨(by show 2≤sizeLine;decide),fun a ha=> ?_⟩⟩))))))
 have s1:=sameNew (o:= .tup [w,t]) hb
 have s2:=sameNew (o:= .tup [w',t']) kQ
 have s3:=sameNew (o:= .lst [V.ref b,V.ref b']) ha
 have k1:=s3 _ _ (s2 _ _ (aO (H:=H) (a:=b) (o:= .tup [w,t])))
 have k2:=s3 _ _ (aO (a:=b') (o:= .tup [w',t']))
 subst e1 e2 e3 e4
 exact q _ _ ((s1.trans s2).trans s3) (.inr ⟨a,_,rfl,aO,[.ref b], .ref b',[],[p],rfl, .cons ⟨b,rfl,k1⟩ .nil,fun z hz=>by rw[List.mem_singleton.mp hz];exact o,hc, .inr ⟨p',⟨b',rfl,k2⟩,o',h⟩⟩)
theorem gY{b:Addr}{H:Hp}{w t:V}(hb:H b=some (.tup [w,t]))(h:fK .str w H∨(∃s,w= .str s∧s≠"keep"∧s≠"cut"∧s≠"put")∨(w= .str "keep"∧(iq t H∨ ∃n,t= .int n∧n<1))∨((w= .str "cut"∨w= .str "put")∧(jB t H∨t= .str ""))):kc (.ref b) H:=
 .inr ⟨b,_,rfl,hb,(by show 2≤1000000;decide), .inr ⟨w,t,rfl,h⟩⟩
end
theorem Uv{x:Str}(h1:x.length≤1000000)(h2:(x.cps.toList.all fun c=>SG.cps.contains c)=true):good x:=⟨h1,fun c hc=>List.all_eq_true.mp h2 c hc⟩
theorem Uw:good "a"∧("a":Str)≠"":=⟨Uv (by decide+kernel) (by decide+kernel),by decide+kernel⟩
theorem Ux:good "b"∧("b":Str)≠"":=⟨Uv (by decide+kernel) (by decide+kernel),by decide+kernel⟩
def uQ:Sp:=fun vs H Q E=> ∃(c:Int) (x:Str),vs=[.int c, .str x]∧x.length≤1000000∧ ∀v H',aE H H'→eU v H'→Q v H'
theorem anY{K:PySem.W.Frag}(vs:List V)(H:Hp)(Q:VK)(E:XK)(h:uQ vs H Q E):aw (aW K [] [] (E:=E)) gg (Dn Q) (start lJ vs) H:=by
 obtain⟨c,x,rfl,hx,q⟩:=h
 have st: ∀v (H H':Hp),eU v H→aE H H'→eU v H':=fun _ _ _ h s=>h.same s
 refine aZ (d6 (ag rfl ⟨bP hx, ?_⟩))
 refine aZ (cH (uO (P:=eU) st _ ?_ H _ fun its H1 s1 ln os=> ⟨bP (by rw[ln];decide),fun l fl=> ?_⟩))
 ·intro e he
  simp only[List.mem_cons,List.not_mem_nil,or_false] at he
  rcases he with rfl | rfl | rfl | rfl | rfl | rfl | rfl
  ·exact i6 fun H=> .inl rfl
  ·intro H Q q
   refine pq (au (cH (au (dM (au (ao (au (ag rfl (aG ⟨(by show 2≤sizeLine;decide),fun b hb=>aG ⟨(by show 1≤sizeLine;decide),fun a ha=>aG ?_⟩⟩)))))))))
   have s1:=sameNew (o:= .tup [V.str "keep",V.int (x.length:Nat)]) hb
   have s2:=sameNew (o:= .lst [V.ref b]) ha
   refine⟨_, .inl ⟨aP.of aO,fun m fm=> ?_⟩⟩
   have s3:=sameNew (o:= .tup [V.ref b]) fm
   exact q _ _ ((s1.trans s2).trans s3) (.inl (pj aO rfl))
  ·exact i6 fun H=> .inl rfl
  ·exact uP fun b H h=>gY h (.inr (.inr (.inl ⟨rfl, .inr ⟨0,rfl,by decide⟩⟩)))
  ·exact uP fun b H h=>gY h (.inr (.inr (.inl ⟨rfl, .inl (.inl ⟨_,rfl⟩)⟩)))
  ·exact anU fun b H h=>gY h (.inr (.inr (.inl ⟨rfl, .inr ⟨_,rfl,by decide⟩⟩)))
  ·exact uP fun b H h=>gY h (.inr (.inr (.inr ⟨.inr rfl, .inr rfl⟩)))
 have s2:=sameNew (o:= .lst its) fl
 have h2:upd H1 l (.lst its) l=some (.lst its):=aO
 have o2: ∀v∈its,eU v (upd H1 l (.lst its)):=fun v hv=> (os v hv).same s2
 have kq:=s1.trans s2
 have l2:its.length=7:=ln
 generalize upd H1 l (.lst its)=H2 at h2 o2 kq⊢
 refine Ut st ?_ h2 o2 (by rw[l2];decide) fun m eO H3 s3 h3 o3 l3=> ?_
 ·intro e he
  simp only[List.mem_cons,List.not_mem_nil,or_false] at he
  rcases he with rfl | rfl | rfl
  ·exact Eh (.cut "a") (.put "b") rfl rfl rfl rfl Uw Ux (by decide+kernel) (by decide+kernel)
  ·exact Eh (.put "a") (.put "b") rfl rfl rfl rfl Uw Ux (by decide+kernel) (by decide+kernel)
  ·exact Eh (.keep 1) (.keep 1) rfl rfl rfl rfl (by show(1:Int)≤1;decide) (by show(1:Int)≤1;decide) (by decide+kernel) (by decide+kernel)
 have Uy:eO.length=10:=by rw[l3,l2];rfl
 refine Ut st ?_ h3 o3 (by rw[Uy];decide) fun m' h9 H4 s4 h4 o4 l4=> ?_
 ·intro e he
  simp only[List.mem_cons,List.not_mem_nil,or_false] at he
  rcases he with rfl | rfl | rfl | rfl
  ·exact anW
  ·exact anV
  ·exact uP fun b H h=>gY h (.inr (.inl ⟨_,rfl,by decide+kernel,by decide+kernel,by decide+kernel⟩))
  ·exact uP fun b H h=>gY h (.inr (.inr (.inr ⟨.inr rfl, .inl (.inl ⟨_,rfl,by decide+kernel,by decide+kernel⟩)⟩)))
 have l4':h9.length=14:=by rw[l4,Uy];rfl
 obtain⟨v,hv,g7⟩:=L2.N.pick (its:=h9) (j:=c % 14) (Int.emod_nonneg _ (by decide)) (by rw[l4'];exact Int.emod_lt_of_pos _ (by decide))
 refine bY (ba (ag rfl (aM (ag rfl (ao ⟨(by show(0:Int) <14;decide), .inl ⟨m',h9,_,v,rfl,rfl,aP.of h4,g7, ?_⟩⟩)))))
 exact q v H4 ((kq.trans s3).trans s4) (o4 v hv)
def Gd(l:List Nat):Nat→V→V→Prop
 | 0,v1,v2=> ∃a b:Nat,v1= .int a∧v2= .int b∧a≤b∧b≤l.length
 | 1,v1,_=> ∃a:Nat,v1= .int a∧a≤l.length
 | 2,v1,v2=> ∃i c:Nat,v1= .int i∧v2= .int c∧i≤l.count 10∧(c:Int)≤g_ l i
 | _,v1,_=> ∃i:Nat,v1= .int i∧i≤l.count 10
def Bd(l:List Nat)(H:Hp):Nat→V→V→Prop
 | 0,v1,v2=>eV v1 0 (l.length:Nat) H∨ ∃b:Int,v1= .int b∧0≤b∧b≤ (l.length:Nat)∧eV v2 b (l.length:Nat) H
 | 1,v1,_=>eV v1 0 (l.length:Nat) H
 | 2,v1,v2=>eV v1 0 (l.count 10:Nat) H∨ ∃i:Nat,v1= .int i∧i≤l.count 10∧eV v2 0 (g_ l i) H
 | _,v1,_=>eV v1 0 (l.count 10:Nat) H
theorem rJ{v:V}{H:Hp}(lo hi:Int)(h:jL v H):(∃i:Int,v= .int i∧lo≤i∧i≤hi)∨eV v lo hi H:=by
 rcases h with h | ⟨i,rfl⟩
 ·exact .inr (.inl h)
 ·by_cases c:lo≤i∧i≤hi
  ·exact .inl ⟨i,rfl,c.1,c.2⟩
  ·exact .inr (.inr ⟨i,rfl,by omega⟩)
theorem an_{l:List Nat}{H:Hp}{w:Nat}{v1 v2:V}(h1:jL v1 H)(h2:jL v2 H):Gd l w v1 v2∨Bd l H w v1 v2:=by
 match w with
 | 0=>
  rcases rJ 0 (l.length:Nat) h1 with⟨i,rfl,a,b⟩ | h
  ·rcases rJ i (l.length:Nat) h2 with⟨j,rfl,c,d⟩ | h
   ·exact .inl ⟨i.toNat,j.toNat,by rw[show((i.toNat:Nat):Int)=i by omega],by rw[show((j.toNat:Nat):Int)=j by omega],by omega,by omega⟩
   ·exact .inr (.inr ⟨i,rfl,a,b,h⟩)
  ·exact .inr (.inl h)
 | 1=>
  rcases rJ 0 (l.length:Nat) h1 with⟨i,rfl,a,b⟩ | h
  ·exact .inl ⟨i.toNat,by rw[show((i.toNat:Nat):Int)=i by omega],by omega⟩
  ·exact .inr h
 | 2=>
  rcases rJ 0 (l.count 10:Nat) h1 with⟨i,rfl,a,b⟩ | h
  ·have e:i=((i.toNat:Nat):Int):=by omega
   rcases rJ 0 (g_ l i.toNat) h2 with⟨j,rfl,c,d⟩ | h
   ·exact .inl ⟨i.toNat,j.toNat,by rw[←e],by rw[show((j.toNat:Nat):Int)=j by omega],by omega,by omega⟩
   ·exact .inr (.inr ⟨i.toNat,by rw[←e],by omega,h⟩)
  ·exact .inr (.inl h)
 | w+3=>
  rcases rJ 0 (l.count 10:Nat) h1 with⟨i,rfl,a,b⟩ | h
  ·exact .inl ⟨i.toNat,by rw[show((i.toNat:Nat):Int)=i by omega],by omega⟩
  ·exact .inr h
theorem Ei{i:Int}{H:Hp}: ¬iq (.int i) H:=by
 rintro(⟨b,e⟩ | h)
 ·cases e
 ·exact Bool.noConfusion (show true=false from h)
theorem rK{i lo hi:Int}{H:Hp}(h:eV (.int i) lo hi H):i<lo∨hi<i:=by
 rcases h with h | ⟨j,e,h⟩
 ·exact absurd h Ei
 ·cases e;exact h
theorem aoa{l:List Nat}{H:Hp}{w:Nat}{v1 v2:V}(h:Bd l H w v1 v2): ¬Gd l w v1 v2:=by
 intro g
 match w,h,g with
 | 0,h,⟨a,b,e1,e2,h1,h2⟩=>
  subst e1 e2
  rcases h with h | ⟨b',e,h3,h4,h⟩
  ·have:=rK h;omega
  ·cases e;have:=rK h;omega
 | 1,h,⟨a,e1,h1⟩=>subst e1;have:=rK h;omega
 | 2,h,⟨i,c,e1,e2,h1,h2⟩=>
  subst e1 e2
  rcases h with h | ⟨i',e,h3,hb⟩
  ·have:=rK h;omega
  ·have e0:(i:Int)=(i':Int):=V.int.inj e
   have e':i'=i:=by omega
   subst e'
   have:=rK hb;omega
 | w+3,h,⟨i,e1,h1⟩=>subst e1;have:=rK h;omega
theorem Uz{l:List Nat}{w:Nat}{v1 v2:V}(g:Gd l w v1 v2): ∃i:Nat,v1= .int i:=by
 match w,g with
 | 0,⟨a,b,e1,e2,h1,h2⟩=>exact⟨a,e1⟩
 | 1,⟨a,e1,h1⟩=>exact⟨a,e1⟩
 | 2,⟨i,c,e1,e2,h1,h2⟩=>exact⟨i,e1⟩
 | w+3,⟨i,e1,h1⟩=>exact⟨i,e1⟩
section
variable {K:PySem.W.Frag} {E:XK} {Q:VK} {H:Hp}
theorem Ej{Γ:aC}{σ:St}{op dU:CmpOp}{a b d:RE}(h:ak Γ a σ H fun x H1=>ak Γ b σ H1 fun y H2=>cC Γ.K op x y H2 fun z H3=> ∃k,z= .bl k∧(if k=true then ak Γ d σ H3 fun w H4=>cC Γ.K dU y w H4 Q else Q (.bl false) H3)):ak Γ (.jn op dU a b d) σ H Q:=h
theorem aob{Γ:aC}{σ:St}{a b:RE}(h:ak Γ a σ H fun x H1=> ∃c,x= .bl c∧if c=true then Q (.bl true) H1 else ak Γ b σ H1 Q):ak Γ (.or [a,b]) σ H Q:=h
abbrev GT(K:PySem.W.Frag)(E:XK):aC:=aW K [("_law_whole",eT)] [] (E:=E)
def yj:RS:= .ite (.or [(.not (.call 0 [(.v 3)])),(.cmp .Lt (.v 3) (.c (.int 0))),(.and [(.cmp .In (.v 2) (.tup [(.c (.int 0)),(.c (.int 2))])),(.or [(.not (.call 0 [(.v 4)])),(.cmp .Lt (.v 4) (.c (.int 0)))])])]) [.ret (.c (.bl false))] []
def pP:List RS:=xg.drop 1
theorem UA{v0 v1 v3 v4:V}{w:Int}(h:iq v3 H∨ ∃i:Int,v3= .int i∧i<0)(q:Q (.bl false) H):aw (GT K E) (yj::pP) (Dn Q) [some v0,some v1,some (.int w),some v3,some v4] H:=by
 rcases h with h | ⟨i,rfl,h⟩
 ·refine bc (gZ (df (du eT rfl (au (ag rfl (aG ⟨_,rfl, .inr ⟨h,dt (iT (iT ?_ rfl) rfl)⟩⟩))))))
  exact bY (ao q)
 ·refine bc (gZ (df (du eT rfl (au (ag rfl (aG ⟨_,rfl, .inl ⟨i,rfl,dt (iF ?_ rfl)⟩⟩))))))
  refine gZ (bf (ag rfl (ao (N.ltI ⟨_,rfl,iT (iT ?_ rfl) (decide_eq_true h)⟩))))
  exact bY (ao q)
theorem UB{v0 v1 v4:V}{w:Int}{n:Nat}(hw:eB (.int w) [.int 0, .int 2]=false)(k: ∀H',aE H H'→aw (GT K E) pP (Dn Q) [some v0,some v1,some (.int w),some (.int n),some v4] H'):aw (GT K E) (yj::pP) (Dn Q) [some v0,some v1,some (.int w),some (.int n),some v4] H:=by
 refine bc (gZ (df (du eT rfl (au (ag rfl (aG ⟨_,rfl, .inl ⟨_,rfl,dt (iF ?_ rfl)⟩⟩))))))
 refine gZ (bf (ag rfl (ao (N.ltI ⟨_,rfl,iF ?_ (decide_eq_false (by omega))⟩))))
 refine ue (rf (bf (ag rfl (dM (au (ao (au (ao (aG ⟨(by show 2≤sizeLine;decide),fun t ft=> ?_⟩)))))))))
 refine⟨t,_,rfl, .inr (bq.of aO),rfl,rfl,_,rfl,iF (iF (cj (k _ (sameNew ft))) rfl) hw⟩
theorem UC{v0 v1 v4:V}{w:Int}{n:Nat}(hw:eB (.int w) [.int 0, .int 2]=true)(h4:jL v4 H)(kf:(∀m:Nat,v4≠ .int m)→ ∀H',aE H H'→Q (.bl false) H')(k: ∀m:Nat,v4= .int m→ ∀H',aE H H'→aw (GT K E) pP (Dn Q) [some v0,some v1,some (.int w),some (.int n),some v4] H'):aw (GT K E) (yj::pP) (Dn Q) [some v0,some v1,some (.int w),some (.int n),some v4] H:=by
 refine bc (gZ (df (du eT rfl (au (ag rfl (aG ⟨_,rfl, .inl ⟨_,rfl,dt (iF ?_ rfl)⟩⟩))))))
 refine gZ (bf (ag rfl (ao (N.ltI ⟨_,rfl,iF ?_ (decide_eq_false (by omega))⟩))))
 refine ue (rf (bf (ag rfl (dM (au (ao (au (ao (aG ⟨(by show 2≤sizeLine;decide),fun t ft=> ?_⟩)))))))))
 have s1:=sameNew (o:= .tup [V.int 0,V.int 2]) ft
 refine⟨t,_,rfl, .inr (bq.of aO),rfl,rfl,_,rfl,iT ?_ hw⟩
 rcases h4 with h4 | ⟨m,rfl⟩
 ·refine jE (df (du eT rfl (au (ag rfl (aG ⟨_,rfl, .inr ⟨h4.same s1,dt (iT (iT ?_ rfl) rfl)⟩⟩)))))
  exact bY (ao (kf (fun m e=>Ei (e ▸ h4)) _ s1))
 ·refine jE (df (du eT rfl (au (ag rfl (aG ⟨_,rfl, .inl ⟨_,rfl,dt (iF ?_ rfl)⟩⟩)))))
  refine bf (ag rfl (ao (N.ltI ⟨_,rfl, ?_⟩)))
  by_cases c:m<0
  ·refine iT ?_ (decide_eq_true c)
   exact bY (ao (kf (fun m' e=>by cases e;omega) _ s1))
  ·exact iF (cj (k m.toNat (by rw[show((m.toNat:Nat):Int)=m by omega]) _ s1)) (decide_eq_false c)
def rM:Sp:=fun vs H Q E=> ∃(l:Addr) (x:Str) (w:Nat) (v1 v2:V),vs=[.ref l, .str x, .int w,v1,v2]∧H l=some (.lst ((Txt.split x (Str.ofString "\n")).map V.str))∧x.length≤1000000∧w<4∧jL v1 H∧jL v2 H∧(Gd x.cps.toList w v1 v2→ ∀H',aE H H'→Q (.bl true) H')∧(¬Gd x.cps.toList w v1 v2→ ∀H',aE H H'→Q (.bl false) H')
theorem Ek{p:Prop}[Decidable p]{H':Hp}(ht:p→Q (.bl true) H')(hf: ¬p→Q (.bl false) H'):Q (.bl (decide p)) H':=by
 by_cases h:p
 ·rw[decide_eq_true h];exact ht h
 ·rw[decide_eq_false h];exact hf h
theorem UD{l:Addr}{x:Str}{w:Int}{n:Nat}{v4:V}(hl:H l=some (.lst ((Txt.split x (Str.ofString "\n")).map V.str)))(hx:x.length≤1000000)(hw:w=2∨w=3)(qf: ¬n≤x.cps.toList.count 10→Q (.bl false) H)
  (k:n≤x.cps.toList.count 10→(w=3→Q (.bl true) H)∧(w=2→ ∃m:Nat,v4= .int m∧((m:Int)≤g_ x.cps.toList n→Q (.bl true) H)∧(¬(m:Int)≤g_ x.cps.toList n→Q (.bl false) H))):
  aw (GT K E) pP (Dn Q) [some (.ref l),some (.str x),some (.int w),some (.int n),some v4] H:=by
 have ll:((Txt.split x (Str.ofString "\n")).map V.str).length=x.cps.toList.count 10+1:=by rw[List.length_map,split_len]
 refine bc (bf (ag rfl (ao (dg ⟨_,rfl,iF (cj ?_) (decide_eq_false (by omega))⟩))))
 refine bc (bf (ag rfl (ao (dg ⟨_,rfl,iF (cj ?_) (decide_eq_false (by omega))⟩))))
 refine bc (bf (ag rfl (d6 (ag rfl (.inl ⟨_,aP.of hl,N.Ue ⟨_,rfl, ?_⟩⟩)))))
 rw[ll]
 by_cases c:n≤x.cps.toList.count 10
 ·refine iF (cj ?_) (decide_eq_false (by omega))
  obtain⟨k3,k2⟩:=k c
  refine bY (aob (kd (ag rfl (ao (dg ⟨_,rfl, ?_⟩)))))
  rcases hw with rfl | rfl
  ·refine iF ?_ rfl
   obtain⟨m,rfl,qt,qn⟩:=k2 rfl
   obtain⟨z,hz,lz⟩:=anJ c
   have g7:dW ((Txt.split x (Str.ofString "\n")).map V.str) ((n:Nat):Int)=some (.str z):=kO (by rw[List.getElem?_map,hz];rfl)
   have ok:=Ui c
   have zi:=anG x.cps.toList n
   have lx:=len_list x
   refine kd (ag rfl (d6 (ba (ag rfl (ag rfl (fJ hl g7 ⟨bP (by omega),N.uE ?_⟩))))))
   exact Ek (fun h=>qt (by omega)) (fun h=>qn (by omega))
  ·exact iT (k3 rfl) rfl
 ·refine iT ?_ (decide_eq_true (by omega))
  exact bY (ao (qf c))
theorem aoc(vs:List V)(H:Hp)(Q:VK)(E:XK)(h:rM vs H Q E):aw (GT K E) xg (Dn Q) (start C9 vs) H:=by
 obtain⟨l,x,w,v1,v2,rfl,hl,hx,hw,h1,h2,qt,qf⟩:=h
 have lx:=len_list x
 show aw (GT K E) (yj::pP) (Dn Q) [some (.ref l),some (.str x),some (.int w),some v1,some v2] H
 rcases h1 with h1 | ⟨i,rfl⟩
 ·exact UA (.inl h1) (qf (fun g=>by obtain⟨i,e⟩:=Uz g;exact Ei (e ▸ h1)) _ (aE.refl _))
 by_cases c0:i<0
 ·exact UA (.inr ⟨i,rfl,c0⟩) (qf (fun g=>by obtain⟨j,e⟩:=Uz g;cases e;omega) _ (aE.refl _))
 obtain⟨n,rfl⟩: ∃n:Nat,i=n:=⟨i.toNat,by omega⟩
 have nn: ∀{a b:Nat},V.int (a:Int)=V.int (b:Int)→a=b:=fun e=>by
  have:(_:Int)=_:=V.int.inj e
  omega
 match w,hw with
 | 0,_=>
  refine UC (by rfl) h2 (fun hn H' s=>qf (fun⟨a,b,e1,e2,_⟩=>hn b e2) H' s) fun m em H' s=> ?_
  subst em
  refine bc (bf (ag rfl (ao (dg ⟨_,rfl,iT ?_ rfl⟩))))
  refine bY (Ej (ag rfl (ag rfl (N.uE ⟨_,rfl,eE (fun h=> ?_) (fun h=> ?_)⟩))))
  ·refine d6 (ag rfl ⟨bP hx,N.uE (Ek (fun h'=>qt ⟨n,m,rfl,rfl, ?_, ?_⟩ H' s) (fun h'=>qf (fun⟨a,b,e1,e2,h3,h4⟩=> ?_) H' s))⟩)
   ·have:=of_decide_eq_true h;omega
   ·omega
   ·have:=nn e2;omega
  ·refine qf (fun⟨a,b,e1,e2,h3,h4⟩=>h (decide_eq_true ?_)) H' s
   have:=nn e1;have:=nn e2;omega
 | 1,_=>
  refine UB (by rfl) fun H' s=> ?_
  refine bc (bf (ag rfl (ao (dg ⟨_,rfl,iF (cj ?_) rfl⟩))))
  refine bc (bf (ag rfl (ao (dg ⟨_,rfl,iT ?_ rfl⟩))))
  refine bY (kd (ag rfl (d6 (ag rfl ⟨bP hx,N.uE (Ek (fun h'=>qt ⟨n,rfl, ?_⟩ H' s) (fun h'=>qf (fun⟨a,e1,h3⟩=> ?_) H' s))⟩))))
  ·omega
  ·have:=nn e1;omega
 | 2,_=>
  refine UC (by rfl) h2 (fun hn H' s=>qf (fun⟨a,b,e1,e2,_⟩=>hn b e2) H' s) fun m em H' s=> ?_
  subst em
  refine UD (s _ _ hl) hx (.inl rfl) (fun h=>qf (fun⟨a,b,e1,e2,h3,h4⟩=> ?_) H' s) fun h=> ⟨fun z=>absurd z (by decide),fun _=> ⟨m,rfl,fun h'=>qt ⟨n,m,rfl,rfl,h,h'⟩ H' s,fun h'=>qf (fun⟨a,b,e1,e2,h3,h4⟩=> ?_) H' s⟩⟩
  ·have:=nn e1;omega
  ·have e:=nn e1;have:=nn e2;subst e;omega
 | 3,_=>
  refine UB (by rfl) fun H' s=> ?_
  refine UD (s _ _ hl) hx (.inr rfl) (fun h=>qf (fun⟨a,e1,h3⟩=> ?_) H' s) fun h=> ⟨fun _=>qt ⟨n,rfl,h⟩ H' s,fun z=>absurd z (by decide)⟩
  have:=nn e1;omega
end
section
variable {K:PySem.W.Frag} {cs:List Addr} {bB CP C CE CC CF:Addr} {H:Hp} {Q:VK}
theorem yk{Γ:aC}{D:Ends}(hw:Γ.hs 0=gP Γ.K cs bB)(kE:eI Γ.K cs bB CE 3)(xE:exmOne Γ.K (.ref CE) (.ref bB)=some true)(q: ∀r H',aE H H'→H' r=some (.tup [.str "place", .str "refused"])→D.rt (.ref r) H'):
  sH Γ.K bB 4 5 (fun ea=>aw {Γ with E:=E0,hv:=some ea} [.ret (.tup [(.kS 0 (.v 4)),(.c (.str "refused"))])]) D (.ref CE) none H:=by
 refine⟨xE,fun ea ob vs σ' ia hl iH=> ?_⟩
 have s1:=sameNew (o:= .bV ob iJ) ia
 have he:ExcAt (upd H ea (.bV ob iJ)) ea CE:=⟨ob,vs,aO,iH⟩
 refine bY (dM (au ?_))
 refine⟨_,(by rw[List.getElem?_set_self (by omega)]),⟨ea,CE,rfl,he⟩, ?_⟩
 show Γ.hs 0 [.ref ea] _ _ _
 rw[hw]
 refine⟨ea,CE,3,rfl,he,kE, .inr (.inr (.inr rfl)),fun H2 s2=>au (ao (aG ⟨(by show 2≤sizeLine;decide),fun t ht=> ?_⟩))⟩
 exact q t _ ((s1.trans s2).trans (sameNew ht)) aO
abbrev aod(CP C CE:Addr):List (Str×Addr×Sp):=[("part",CP,cB (jK CP C) (uK CP CE)),("line_at",CP,cB (uI CP C) (uL CP CE)),("place_at",CP,cB (uJ CP C) (uM CP C CE)),("line_size",CP,cB (iB CP C) (ko CP CE))]
def yl(v:V)(H:Hp):Prop:=(∃s,v= .str s∧sg s)∨(∃i:Int,v= .int i)∨ ∃(a:Addr) (i j:Int),v= .ref a∧H a=some (.tup [.int i, .int j])
def uR(CP C:Addr):Sp:=fun vs H Q E=> ∃(p dp s dx lt lb lf:Addr) (v:V) (t:Tr) (ts:List Str) (x:Str) (w:Nat) (v1 v2:V),vs=[.ref p, .int w,v1,v2]∧eL CP C H p dp s dx lt lb lf v t ts x∧w<4∧
 ((Gd x.cps.toList w v1 v2∧ ∀r H',aE H H'→yl r H'→Q r H')∨(Bd x.cps.toList H w v1 v2∧ ∀r H',aE H H'→H' r=some (.tup [.str "place", .str "refused"])→Q (.ref r) H'))
theorem aoe(kP:eI K cs bB CE 3)(xP:exmOne K (.ref CE) (.ref bB)=some true)(vs:List V)(H:Hp)(Q:VK)(E:XK)(h:uR CP C vs H Q E):
  aw (aW K [] [("InkError", .ref bB)] [] (aod CP C CE) [] (ht:=[("_law_word",gP K cs bB)]) (E:=E)) C8 (Dn Q) (start C7 vs) H:=by
 obtain⟨p,dp,s,dx,lt,lb,lf,v,t,ts,x,w,v1,v2,rfl,B,hw,h⟩:=h
 have n1:(cO s v).lookup ("part":Str)=none:=dv (by decide+kernel) (by decide+kernel)
 have n2:(cO s v).lookup ("line_at":Str)=none:=dv (by decide+kernel) (by decide+kernel)
 have n3:(cO s v).lookup ("place_at":Str)=none:=dv (by decide+kernel) (by decide+kernel)
 have n4:(cO s v).lookup ("line_size":Str)=none:=dv (by decide+kernel) (by decide+kernel)
 have ex:=B.tx
 refine⟨bB,rfl, ?_⟩
 match w,hw,h with
 | 0,_,h=>
  refine bc (bf (ag rfl (ao (dg ⟨_,rfl,iT ?_ rfl⟩))))
  refine bY (uu CP (cB (jK CP C) (uK CP CE)) rfl (ag rfl ⟨p,dp,_,rfl,B.pa.ob,n1,ag rfl (ag rfl ?_)⟩))
  rcases h with⟨⟨a,b,rfl,rfl,h1,h2⟩,q⟩ | ⟨hb,q⟩
  ·refine .inl ⟨p,dp,s,dx,lt,lb,lf,v,t,ts,a,b,rfl,B.pa,B.st,B.l1,B.l2,B.l3,B.l4,h1,by rw[ex];exact h2,fun H' s'=>q _ H' s' (.inl ⟨_,rfl,fun c hc=> ?_⟩)⟩
   rw[ex] at hc
   exact B.go.2 c (List.mem_of_mem_take (List.mem_of_mem_drop (by simpa[pK] using hc)))
  ·exact .inr ⟨p,dp,s,v,t,_,v1,v2,rfl,B.pa,by rw[ex];exact hb,yk rfl kP xP q⟩
 | 1,_,h=>
  refine bc (bf (ag rfl (ao (dg ⟨_,rfl,iF (cj ?_) rfl⟩))))
  refine bc (bf (ag rfl (ao (dg ⟨_,rfl,iT ?_ rfl⟩))))
  refine bY (fL CP (cB (uI CP C) (uL CP CE)) rfl (ag rfl ⟨p,dp,_,rfl,B.pa.ob,n2,ag rfl ?_⟩))
  rcases h with⟨⟨a,rfl,h1⟩,q⟩ | ⟨hb,q⟩
  ·exact .inl ⟨p,dp,s,dx,lt,lb,lf,v,t,ts,a,rfl,B.pa,B.st,by rw[ex];exact h1,fun w H1 s1 fw hw=>q _ H1 s1 (.inr (.inr ⟨w,_,_,rfl,hw⟩))⟩
  ·exact .inr ⟨p,dp,s,v,t,_,v1,rfl,B.pa,by rw[ex];exact hb,yk rfl kP xP q⟩
 | 2,_,h=>
  refine bc (bf (ag rfl (ao (dg ⟨_,rfl,iF (cj ?_) rfl⟩))))
  refine bc (bf (ag rfl (ao (dg ⟨_,rfl,iF (cj ?_) rfl⟩))))
  refine bc (bf (ag rfl (ao (dg ⟨_,rfl,iT ?_ rfl⟩))))
  refine bY (uu CP (cB (uJ CP C) (uM CP C CE)) rfl (ag rfl ⟨p,dp,_,rfl,B.pa.ob,n3,ag rfl (ag rfl ?_)⟩))
  rcases h with⟨⟨i,c,rfl,rfl,h1,h2⟩,q⟩ | ⟨hb,q⟩
  ·exact .inl ⟨p,dp,s,dx,lt,lb,lf,v,t,ts,i,c,rfl,B.pa,B.st,by rw[ex];exact h1,by omega,by rw[ex];exact h2,q _ _ (aE.refl _) (.inr (.inl ⟨_,rfl⟩))⟩
  ·exact .inr ⟨p,dp,s,dx,lt,lb,lf,v,t,ts,v1,v2,rfl,B.pa,B.st,by rw[ex];exact hb,yk rfl kP xP q⟩
 | 3,_,h=>
  refine bc (bf (ag rfl (ao (dg ⟨_,rfl,iF (cj ?_) rfl⟩))))
  refine bc (bf (ag rfl (ao (dg ⟨_,rfl,iF (cj ?_) rfl⟩))))
  refine bc (bf (ag rfl (ao (dg ⟨_,rfl,iF (cj ?_) rfl⟩))))
  refine bY (fL CP (cB (iB CP C) (ko CP CE)) rfl (ag rfl ⟨p,dp,_,rfl,B.pa.ob,n4,ag rfl ?_⟩))
  rcases h with⟨⟨i,rfl,h1⟩,q⟩ | ⟨hb,q⟩
  ·exact .inl ⟨p,dp,s,dx,lt,lb,lf,v,t,ts,i,rfl,B.pa,B.st,by rw[ex];exact h1,q _ _ (aE.refl _) (.inr (.inl ⟨_,rfl⟩))⟩
  ·exact .inr ⟨p,dp,s,v,t,_,v1,rfl,B.pa,by rw[ex];exact hb,yk rfl kP xP q⟩
theorem UE{Γ:aC}{D:Ends}{j:Nat}(hw:Γ.hs 0=gP Γ.K cs bB)(kE:eI Γ.K cs bB CE j)(hj:j=0∨j=1∨j=2∨j=3)(xE:exmOne Γ.K (.ref CE) (.ref bB)=some true)(q: ∀r H',aE H H'→H' r=some (.lst [.str "refused", .str (Ee j)])→D.rt (.ref r) H'):
  sH Γ.K bB 2 3 (fun ea=>aw {Γ with E:=E0,hv:=some ea} [.ret (.lst [(.c (.str "refused")),(.kS 0 (.v 2))])]) D (.ref CE) none H:=by
 refine⟨xE,fun ea ob vs σ' ia hl iH=> ?_⟩
 have s1:=sameNew (o:= .bV ob iJ) ia
 have he:ExcAt (upd H ea (.bV ob iJ)) ea CE:=⟨ob,vs,aO,iH⟩
 refine bY (cH (au (ao (au ?_))))
 refine⟨_,(by rw[List.getElem?_set_self (by omega)]),⟨ea,CE,rfl,he⟩, ?_⟩
 show Γ.hs 0 [.ref ea] _ _ _
 rw[hw]
 refine⟨ea,CE,j,rfl,he,kE,hj,fun H2 s2=>aG ⟨(by show 2≤sizeLine;decide),fun t ht=> ?_⟩⟩
 exact q t _ ((s1.trans s2).trans (sameNew ht)) aO
def rN(CP C:Addr):Sp:=fun vs H Q E=> ∃(p dp s dx lt lb lf:Addr) (v vc:V) (t:Tr) (ts:List Str) (x:Str),vs=[.ref p,vc]∧eL CP C H p dp s dx lt lb lf v t ts x∧
 ((eU vc H∧ ∀r H',aE H H'→H' r=some (.lst [.str "refused", .str "change"])→Q (.ref r) H')∨
 ∃a xs ps,vc= .ref a∧H a=some (.lst xs)∧bS H xs ps∧(∀p∈ps,cL p)∧chainOk "" ps=true∧ps.length≤1000000∧(¬ ∃r,Run x.cps.toList ps r)∧ ∀r H',aE H H'→H' r=some (.lst [.str "refused", .str "fit"])→Q (.ref r) H')
theorem aof(kC:eI K cs bB CC 1)(kF:eI K cs bB CF 2)(xC:exmOne K (.ref CC) (.ref bB)=some true)(xF:exmOne K (.ref CF) (.ref bB)=some true)(vs:List V)(H:Hp)(Q:VK)(E:XK)(h:rN CP C vs H Q E):
  aw (aW K [] [("InkError", .ref bB)] [] [("text",CP,me CP C),("changed",CP,uN CP C CC CF)] [] (ht:=[("_law_word",gP K cs bB)]) (E:=E)) Dc (Dn Q) (start C_ vs) H:=by
 obtain⟨p,dp,s,dx,lt,lb,lf,v,vc,t,ts,x,rfl,B,h⟩:=h
 have n1:(cO s v).lookup ("changed":Str)=none:=dv (by decide+kernel) (by decide+kernel)
 refine⟨bB,rfl, ?_⟩
 refine bY (fi CP (me CP C) rfl (fL CP (uN CP C CC CF) rfl (ag rfl ⟨p,dp,_,rfl,B.pa.ob,n1,ag rfl ?_⟩)))
 refine⟨p,dp,s,dx,lt,lb,lf,v,vc,t,ts,rfl,B.pa,B.st,B.l1,B.l2,B.l3,B.l4, ?_⟩
 rcases h with⟨hn,q⟩ | ⟨a,xs,ps,rfl,ha,cE,ok,ch,hl,hr,q⟩
 ·exact .inl ⟨hn,fun H1 s1=>UE rfl kC (.inr (.inl rfl)) xC fun r H' s' e=>q r H' (s1.trans s') e⟩
 ·exact .inr ⟨a,xs,ps,rfl,ha,cE,ok,ch,hl,by rw[B.tx];exact hr,fun H1 s1=>UE rfl kF (.inr (.inr (.inl rfl))) xF fun r H' s' e=>q r H' (s1.trans s') e⟩
end
theorem ym: ∀{qs:List Pt} {l x r r2:List Nat} {d c e:Nat},Run l qs r→Run x qs r2→l[d]?=some c→x[d]?=some e→e≠c→c∈r
 | [],l,x,r,r2,d,c,e,h,_,hl,_,_=>by
  obtain⟨rfl,rfl⟩:=D5 h
  simp at hl
 | .keep n::qs,l,x,r,r2,d,c,e,h,h2,hl,hx,ne=>by
  obtain⟨a,l',r',rfl,rfl,hn,h'⟩:=pL h
  obtain⟨a2,l2,r2',rfl,rfl,jP,mq⟩:=pL h2
  have la:a.length=a2.length:=by omega
  by_cases hd:d<a.length
  ·rw[List.getElem?_append_left hd] at hl
   exact List.mem_append_left _ (List.mem_of_getElem? hl)
  ·rw[List.getElem?_append_right (by omega)] at hl hx
   rw[←la] at hx
   exact List.mem_append_right _ (ym h' mq hl hx ne)
 | .put s::qs,l,x,r,r2,d,c,e,h,h2,hl,hx,ne=>by
  obtain⟨r',rfl,h'⟩:=rB h
  obtain⟨r2',rfl,mq⟩:=rB h2
  exact List.mem_append_right _ (ym h' mq hl hx ne)
 | .cut s::qs,l,x,r,r2,d,c,e,h,h2,hl,hx,ne=>by
  obtain⟨l',rfl,h'⟩:=rC h
  obtain⟨l2,rfl,mq⟩:=rC h2
  by_cases hd:d<s.cps.toList.length
  ·rw[List.getElem?_append_left hd] at hl hx
   rw[hl] at hx
   exact absurd (Option.some.inj hx).symm ne
  ·rw[List.getElem?_append_right (by omega)] at hl hx
   exact ym h' mq hl hx ne
theorem UG(a c b:List Nat)(f:Nat):(a++ ((c++ [f])++b))[a.length+c.length]?=some f:=by simp
theorem aoh{qs:List Pt}{xa xb la lb c0 r:List Nat}{e f:Nat}(h:Run (la++ ((c0++ [f])++lb)) qs r)(hl:la.length=xa.length)(ne:e≠f)(hr:f∉r): ¬ ∃r2,Run (xa++ ((c0++ [e])++xb)) qs r2:=by
 rintro⟨r2,h2⟩
 have mq:=UG xa c0 xb e
 rw[←hl] at mq
 exact hr (ym h h2 (UG la c0 lb f) mq ne)
theorem UH{qs:List Pt}{l x r:List Nat}(h:Run l qs r)(hl:l.length≠x.length): ¬ ∃r2,Run x qs r2:=by
 rintro⟨r2,h2⟩
 have a:=h.over
 have b:=h2.over
 omega
def Ev(Γ:aC)(σ:St)(e:RE)(v:V):Prop:= ∀(H:Hp) (Q:VK),(∀H',aE H H'→Q v H')→ak Γ e σ H Q
def yn(Γ:aC)(σ:St)(e:RE)(p:Pt):Prop:= ∀(H:Hp) (Q:VK),(∀v H',aE H H'→iR H' v p→Q v H')→ak Γ e σ H Q
section
variable {Γ:aC} {σ:St}
theorem UI{v:V}:Ev Γ σ (.c v) v:=fun H Q q=>ao (q H (aE.refl _))
theorem uS{i:Nat}{v:V}(h:σ[i]?=some (some v)):Ev Γ σ (.v i) v:=fun H Q q=>ag h (q H (aE.refl _))
theorem i7{w:Str}{e:RE}{p:Pt}(hw:p.word=w)(he:Ev Γ σ e p.val):yn Γ σ (.tup [.c (.str w),e]) p:=fun H Q q=>by
 refine dM (au (ao (au (he H _ fun H1 s1=>aG ⟨(by show 2≤sizeLine;decide),fun t ft=> ?_⟩))))
 subst hw
 exact q _ _ (s1.trans (sameNew ft)) ⟨t,rfl,aO⟩
theorem UJ: ∀{es:List RE} {ps:List Pt},Paired (yn Γ σ) es ps→ ∀(H:Hp) (Q:List V→Hp→Prop),(∀vs H',aE H H'→bS H' vs ps→Q vs H')→bI Γ es σ H Q
 | [],[],_,H,Q,q=>aG (q [] H (aE.refl _) .nil)
 | e::es,p::ps, .cons h hs,H,Q,q=>au (h H _ fun v H1 s1 pv=>UJ hs H1 _ fun vs H2 s2 pvs=>q (v::vs) H2 (s1.trans s2) (.cons (pv.mono (bz s2)) pvs))
theorem yo{es:List RE}{ps:List Pt}(h:Paired (yn Γ σ) es ps)(hn:ps.length≤1000)(H:Hp)(Q:VK)(q: ∀a xs H',aE H H'→H' a=some (.lst xs)→bS H' xs ps→Q (.ref a) H'):ak Γ (.lst es) σ H Q:=by
 refine cH (UJ h H _ fun vs H1 s1 pv=> ⟨bP (by rw[Paired.length pv];omega),fun a fa=> ?_⟩)
 have s2:=sameNew (o:= .lst vs) fa
 exact q a vs _ (s1.trans s2) aO (pv.mono (bz s2))
theorem UK{H:Hp}: ∀{xs ys:List V} {ps qs:List Pt},bS H xs ps→bS H ys qs→bS H (xs++ys) (ps++qs)
 | [],ys,[],qs,_,h=>h
 | x::xs,ys,p::ps,qs, .cons a as,h=> .cons a (UK as h)
theorem UL{Q:VK}{H:Hp}{a hi:RE}(h:ak Γ a σ H fun x H1=>ak Γ hi σ H1 fun j H3=> ∃j':Int,j= .int j'∧sL Γ.K x none (some j') H3 Q):ak Γ (.sl a none (some hi)) σ H Q:=h
end
theorem aoj(c0:List Nat)(e:Nat):fB ⟨(c0++ [e]).toArray⟩ none (some (-1))=⟨c0.toArray⟩:=by
 unfold fB iI
 rw[HT.Nx]
 have e1:HT.bx (c0++ [e]).length (c0++ [e]).length (some (-1))=c0.length:=by
  show(if (-1:Int) <0 then ((-1:Int)+ ((c0++ [e]).length:Nat)).toNat else min (-1:Int).toNat (c0++ [e]).length)=c0.length
  rw[if_pos (by decide),List.length_append,List.length_singleton]
  omega
 show(⟨(((c0++ [e]).drop 0).take (HT.bx (c0++ [e]).length (c0++ [e]).length (some (-1)) - 0)).toArray⟩:Str)=_
 rw[e1]
 simp
theorem aok(c0:List Nat)(e:Nat):dW (c0++ [e]) (-1)=some e:=by
 unfold dW
 rw[List.length_append]
 show(h_ (c0.length+1) (-1)).bind _=_
 rw[TH]
 simp
theorem aol(e:Nat):((⟨#[e]⟩:Str)==("a":Str))=decide (e=97):=by
 by_cases h:e=97
 ·subst h;decide+kernel
 ·rw[decide_eq_false h]
  simp only[beq_eq_false_iff_ne,ne_eq]
  intro z
  have:=congrArg (fun y:Str=>y.cps.toList) z
  have e2:(Str.ofString "a").cps.toList=[97]:=by decide+kernel
  have e3:([e]:List Nat)=[97]:=this.trans e2
  exact h (by simpa using e3)
def uT:Sp:=fun vs H Q E=> ∃(c:Int) (x:Str),vs=[.int c, .str x]∧good x∧x.length≤10000∧
 ∀b H' ys qs,aE H H'→H' b=some (.lst ys)→bS H' ys qs→(∀p∈qs,cL p)→chainOk "" qs=true→qs.length≤1000→(¬ ∃r,Run x.cps.toList qs r)→Q (.ref b) H'
section
variable {K:PySem.W.Frag} {E:XK} {Q:VK}
abbrev GU(K:PySem.W.Frag)(E:XK):aC:=aW K [("_law_neat",km)] [] (E:=E)
theorem UM{σ:St}{D:Ends}{es:List RE}{H:Hp}{l r:List Nat}{ps:List Pt}(hp:Paired (yn (GU K E) σ) es ps)(R:Run l ps r)(ok: ∀p∈ps,eS p)(h1:ps.length≤100)(h2:l.length≤100000)(h3:r.length≤100000)
  (q: ∀b H' ys qs,aE H H'→H' b=some (.lst ys)→bS H' ys qs→(∀p∈qs,cL p)→chainOk "" qs=true→qs.length≤1000→Run l qs r→D.rt (.ref b) H') (rest:List RS):
  aw (GU K E) (.ret (.call 0 [.lst es])::rest) D σ H:=
 bY (bA km rfl (au (yo hp (by omega) H _ fun a xs H1 s1 ha pv=>aG ⟨a,xs,ps,l,r,rfl,ha,pv,R,ok,by omega,h2,h3,fun b H' ys qs s' _ hb ya o' c' R' l'=>q b H' ys qs (s1.trans s') hb ya o' c' (by omega) R'⟩)))
theorem uU{x:Str}(h2:(x.cps.toList.all fun c=>SG.cps.contains c)=true):sg x:=fun c hc=>List.all_eq_true.mp h2 c hc
theorem aom:("x":Str).cps.toList=[120]:=by decide+kernel
theorem aon:("y":Str).cps.toList=[121]:=by decide+kernel
theorem aoo:("z":Str).cps.toList=[122]:=by decide+kernel
theorem UN:("xy":Str).cps.toList=[120,121]:=by decide+kernel
theorem El:("":Str).cps.toList=[]:=by decide+kernel
theorem aop:("a":Str).cps.toList=[97]:=by decide+kernel
theorem aoq:("b":Str).cps.toList=[98]:=by decide+kernel
theorem UO{c:Int}{x:Str}{m:Nat}{v3:Option V}{H:Hp}{D:Ends}(gx:good x)(lx:x.length≤10000)(hm:m≤x.length)
  (q: ∀b H' ys qs,aE H H'→H' b=some (.lst ys)→bS H' ys qs→(∀p∈qs,cL p)→chainOk "" qs=true→qs.length≤1000→(¬ ∃r,Run x.cps.toList qs r)→D.rt (.ref b) H'):
  aw (GU K E) [.ret (.call 0 [(.lst [(.tup [(.c (.str "keep")),(.v 2)]),(.tup [(.c (.str "put")),(.c (.str "x"))]),(.tup [(.c (.str "keep")),(.bin .Add (.bin .Sub (.blt .len [(.v 1)]) (.v 2)) (.ix (.lst [(.c (.int 1)),(.neg (.c (.int 1)))]) (.blt .int [(.jn .Lt .Lt (.c (.int 0)) (.v 2) (.blt .len [(.v 1)]))])))])])])] D [some (.int c),some (.str x),some (.int m),v3,none,none,none,none] H:=by
 have ll:=len_list x
 obtain⟨d,hd,UP⟩: ∃d:Int,(0≤ (x.length:Int) - m+d∧d≠0∧d≤1)∧Ev (GU K E) [some (.int c),some (.str x),some (.int m),v3,none,none,none,none] (.bin .Add (.bin .Sub (.blt .len [(.v 1)]) (.v 2)) (.ix (.lst [(.c (.int 1)),(.neg (.c (.int 1)))]) (.blt .int [(.jn .Lt .Lt (.c (.int 0)) (.v 2) (.blt .len [(.v 1)]))]))) (.int ((x.length:Int) - m+d)):=by
  by_cases c1:0<m∧m<x.length
  ·refine⟨-1,⟨by omega,by decide,by decide⟩,fun H1 Q1 q1=> ?_⟩
   refine aM (aM (d6 (ag rfl ⟨bP gx.1,ag rfl ⟨trivial, ?_⟩⟩)))
   refine ba (cH (au (ao (au (mh (aG ⟨(by show 2≤sizeLine;decide),fun l3 f3=> ?_⟩))))))
   refine pq (au (Ej (ao (ag rfl (N.ltI ⟨_,rfl,iT ?_ (decide_eq_true (by omega))⟩)))))
   refine d6 (ag rfl ⟨bP gx.1,N.ltI ?_⟩)
   rw[decide_eq_true (show(m:Int) < (x.length:Nat) by omega)]
   refine aG (fJ aO (i:=1) (v:= .int (-1)) rfl (bZ (q1 _ (sameNew f3))))
  ·refine⟨1,⟨by omega,by decide,by decide⟩,fun H1 Q1 q1=> ?_⟩
   refine aM (aM (d6 (ag rfl ⟨bP gx.1,ag rfl ⟨trivial, ?_⟩⟩)))
   refine ba (cH (au (ao (au (mh (aG ⟨(by show 2≤sizeLine;decide),fun l3 f3=> ?_⟩))))))
   refine pq (au (Ej (ao (ag rfl (N.ltI ⟨_,rfl, ?_⟩)))))
   by_cases c2:(0:Int) <m
   ·refine iT ?_ (decide_eq_true c2)
    refine d6 (ag rfl ⟨bP gx.1,N.ltI ?_⟩)
    rw[decide_eq_false (show ¬(m:Int) < (x.length:Nat) by omega)]
    exact aG (fJ aO (i:=0) (v:= .int 1) rfl (bZ (q1 _ (sameNew f3))))
   ·refine iF ?_ (decide_eq_false c2)
    exact aG (fJ aO (i:=0) (v:= .int 1) rfl (bZ (q1 _ (sameNew f3))))
 obtain⟨k,hk⟩: ∃k:Nat,(x.length:Int) - m+d=k:=⟨((x.length:Int) - m+d).toNat,by omega⟩
 rw[hk] at UP
 have R:Run (List.replicate m 0++List.replicate k 0) [.keep (m:Nat), .put "x", .keep (k:Nat)] (List.replicate m 0++ (("x":Str).cps.toList++List.replicate k 0)):=
  Run.keep (by simp) (Run.put (mi (by simp)))
 refine UM (ps:=[.keep (m:Nat), .put "x", .keep (k:Nat)]) (.cons (i7 rfl (uS rfl)) (.cons (i7 rfl UI) (.cons (i7 rfl UP) .nil))) R ?_ (by show 3≤100;decide) (by simp;omega) (by simp[aom];omega) (fun b H' ys qs s' hb pv o ch l' R'=>q b H' ys qs s' hb pv o ch l' (UH R' ?_)) []
 ·intro p hp
  simp only[List.mem_cons,List.not_mem_nil,or_false] at hp
  rcases hp with rfl | rfl | rfl
  ·trivial
  ·exact uU (by decide+kernel)
  ·trivial
 ·rw[List.length_append,List.length_replicate,List.length_replicate,←ll];omega
theorem aor{x:Str}{σ:St}{H:Hp}{D:Ends}(e1:σ[1]?=some (some (.str x)))(gx:good x)(lx:x.length≤10000)
  (q: ∀b H' ys qs,aE H H'→H' b=some (.lst ys)→bS H' ys qs→(∀p∈qs,cL p)→chainOk "" qs=true→qs.length≤1000→(¬ ∃r,Run x.cps.toList qs r)→D.rt (.ref b) H'):
  aw (GU K E) [.ret (.call 0 [(.lst [(.tup [(.c (.str "put")),(.c (.str "y"))]),(.tup [(.c (.str "cut")),(.bin .Add (.v 1) (.c (.str "z")))])])])] D σ H:=by
 have ll:=len_list x
 have sz:x.length+ (Str.ofString "z").length≤sizeLine:=by
  have:(Str.ofString "z").length=1:=by decide+kernel
  rw[this];exact bP (by omega)
 have R:Run (x++ ("z":Str)).cps.toList [.put "y", .cut (x++"z")] (("y":Str).cps.toList++ []):=by
  have:=Run.put (s:="y") (Run.cut (s:=x++"z") Run.nil)
  rwa [List.append_nil] at this
 have le:(x++ ("z":Str)).cps.toList.length=x.cps.toList.length+1:=by rw[app_list,List.length_append,aoo];rfl
 have hz:Ev (GU K E) σ (.bin .Add (.v 1) (.c (.str "z"))) (.str (x++"z")):=fun H1 Q1 q1=>aM (ag e1 (ao ⟨sz,q1 _ (aE.refl _)⟩))
 refine UM (ps:=[.put "y", .cut (x++"z")]) (.cons (i7 rfl UI) (.cons (i7 rfl hz) .nil)) R ?_ (by show 2≤100;decide) (by omega) (by simp[aon]) (fun b H' ys qs s' hb pv o ch l' R'=>q b H' ys qs s' hb pv o ch l' (UH R' (by omega))) []
 intro p hp
 simp only[List.mem_cons,List.not_mem_nil,or_false] at hp
 rcases hp with rfl | rfl
 ·exact uU (by decide+kernel)
 ·exact Dr gx.2 (uU (by decide+kernel))
end
section
variable {K:PySem.W.Frag} {E:XK} {Q:VK}
def UQ:List RS:=[.asg 6 (.ix (.lst [(.c (.str "")),(.c (.str "xy"))]) (.bin .Mod (.bin .FloorDiv (.v 0) (.c (.int 300))) (.c (.int 2)))),
  .asg 7 (.bin .Sub (.bin .Sub (.blt .len [(.v 1)]) (.v 2)) (.blt .len [(.v 3)])),
  .ret (.call 0 [(.bin .Add (.v 5) (.lst [(.tup [(.c (.str "put")),(.v 6)]),(.tup [(.c (.str "cut")),(.v 4)]),(.tup [(.c (.str "keep")),(.v 7)])]))])]
theorem UR{c:Int}{x hG:Str}{m e f:Nat}{xa xb c0 la lr:List Nat}{ah:List Pt}{a6:Addr}{rO:List V}{H:Hp}{D:Ends}(gx:good x)(lx:x.length≤10000)(ex:x.cps.toList=xa++ ((c0++ [e])++xb))(hm:xa.length=m)(eo:hG.cps.toList=c0++ [f])(ne:e≠f)(hf:f=97∨f=98)
  (h6:H a6=some (.lst rO)) (p6:bS H rO ah) (R:Run la ah lr) (ye:la.length=m) (gO: ∀z∈lr,z=200) (US:lr.length≤m) (aN: ∀p∈ah,eS p) (hal:ah.length≤2)
  (q: ∀b H' ys qs,aE H H'→H' b=some (.lst ys)→bS H' ys qs→(∀p∈qs,cL p)→chainOk "" qs=true→qs.length≤1000→(¬ ∃r,Run x.cps.toList qs r)→D.rt (.ref b) H'):
  aw (GU K E) UQ D [some (.int c),some (.str x),some (.int m),some (.str ⟨(c0++ [e]).toArray⟩),some (.str hG),some (.ref a6),none,none] H:=by
 have ll:=len_list x
 have lc:(⟨(c0++ [e]).toArray⟩:Str).length=c0.length+1:=by simp[Str.length]
 have lsum:x.cps.toList.length=xa.length+ (c0.length+1+xb.length):=by rw[ex];simp;omega
 obtain⟨P,g7,hP⟩: ∃P:Str,dW [V.str "",V.str "xy"] (c / 300 % 2)=some (.str P)∧(P=""∨P="xy"):=by
  have m0:=Int.emod_nonneg (c / 300) (show(2:Int)≠0 by decide)
  have m1:=Int.emod_lt_of_pos (c / 300) (show(0:Int) <2 by decide)
  have:c / 300 % 2=0∨c / 300 % 2=1:=by omega
  rcases this with h | h
  ·exact⟨"",by rw[h];rfl, .inl rfl⟩
  ·exact⟨"xy",by rw[h];rfl, .inr rfl⟩
 refine aZ (ba (cH (au (ao (au (ao (aG ⟨(by show 2≤sizeLine;decide),fun l1 f1=>aM (aM (ag rfl (ao ⟨⟨by decide,by decide⟩,ao ⟨(by show(0:Int) <2;decide), ?_⟩⟩)))⟩)))))))
 have s1:=sameNew (o:= .lst [V.str "",V.str "xy"]) f1
 refine fJ aO g7 ?_
 have UT:=s1 _ _ h6
 have Em:=p6.mono (bz s1)
 generalize upd H l1 (.lst [V.str "",V.str "xy"])=H1 at s1 UT Em⊢
 refine aZ (aM (aM (d6 (ag rfl ⟨bP gx.1,ag rfl ⟨trivial,d6 (ag rfl ⟨bP (by omega),⟨trivial, ?_⟩⟩)⟩⟩))))
 have ek:(x.length:Int) - (m:Nat) - ((⟨(c0++ [e]).toArray⟩:Str).length:Nat)=(xb.length:Nat):=by omega
 show aw (GU K E) _ D [some (.int c),some (.str x),some (.int m),some (.str ⟨(c0++ [e]).toArray⟩),some (.str hG),some (.ref a6),some (.str P),some (.int ((x.length:Int) - (m:Nat) - ((⟨(c0++ [e]).toArray⟩:Str).length:Nat)))] H1
 rw[ek]
 have lxs:rO.length≤2:=by rw[Paired.length Em];exact hal
 refine bY (bA km rfl (au (aM (ag rfl (yo (ps:=[.put P, .cut hG, .keep (xb.length:Nat)]) (.cons (i7 rfl (uS rfl)) (.cons (i7 rfl (uS rfl)) (.cons (i7 rfl (uS rfl)) .nil))) (by show 3≤1000;decide) H1 _ fun b En H2 s2 h2 p2=> .inl ⟨a6,b,rO,En,rfl,rfl,s2 _ _ UT,h2, ?_,fun l3 f3=>aG ?_⟩)))))
 ·have:En.length=3:=Paired.length p2
  rw[this];exact bP (by omega)
 have s3:=sameNew (o:= .lst (rO++En)) f3
 have Rt:Run (la++ (hG.cps.toList++List.replicate xb.length 200)) (ah++ [.put P, .cut hG, .keep (xb.length:Nat)]) (lr++ (P.cps.toList++List.replicate xb.length 200)):=
  R.app (Run.put (Run.cut (mi (by simp))))
 have hPl:P.cps.toList.length≤2:=by rcases hP with rfl | rfl<;>simp[El,UN]
 have hPz: ∀z∈P.cps.toList,z=120∨z=121:=by rcases hP with rfl | rfl<;>simp[El,UN]
 refine⟨l3,_,ah++ [.put P, .cut hG, .keep (xb.length:Nat)],_,_,rfl,aO,(UK (Em.mono (bz s2)) p2).mono (bz s3),Rt, ?_,by rw[List.length_append];show ah.length+3≤1000;omega, ?_, ?_,fun b' H' ys qs s' _ hb pv o ch R' l'=> ?_⟩
 ·intro p hp
  rcases List.mem_append.mp hp with hp | hp
  ·exact aN p hp
  simp only[List.mem_cons,List.not_mem_nil,or_false] at hp
  rcases hp with rfl | rfl | rfl
  ·rcases hP with rfl | rfl
   ·exact uU (by decide+kernel)
   ·exact uU (by decide+kernel)
  ·intro z hz
   rw[eo] at hz
   rcases List.mem_append.mp hz with hz | hz
   ·exact gx.2 z (by rw[ex];simp[hz])
   ·rw[List.mem_singleton.mp hz]
    rcases hf with rfl | rfl<;>decide+kernel
  ·trivial
 ·rw[List.length_append,List.length_append,eo];simp;omega
 ·rw[List.length_append,List.length_append,List.length_replicate];omega
 ·rw[List.length_append] at l'
  have l'':qs.length≤3* (ah.length+3)+2:=l'
  refine q b' H' ys qs (((s1.trans s2).trans s3).trans s') hb pv o ch (by omega) ?_
  rw[ex]
  rw[eo] at R'
  refine aoh R' (by omega) ne ?_
  intro hz
  rcases List.mem_append.mp hz with hz | hz
  ·have:=gO f hz;omega
  rcases List.mem_append.mp hz with hz | hz
  ·have:=hPz f hz;omega
  ·have:=(List.mem_replicate.mp hz).2;omega
theorem UU{c:Int}{x hG:Str}{m e f:Nat}{xa xb c0:List Nat}{H:Hp}{D:Ends}(gx:good x)(lx:x.length≤10000)(ex:x.cps.toList=xa++ ((c0++ [e])++xb))(hm:xa.length=m)(eo:hG.cps.toList=c0++ [f])(ne:e≠f)(hf:f=97∨f=98)
  (q: ∀b H' ys qs,aE H H'→H' b=some (.lst ys)→bS H' ys qs→(∀p∈qs,cL p)→chainOk "" qs=true→qs.length≤1000→(¬ ∃r,Run x.cps.toList qs r)→D.rt (.ref b) H'):
  aw (GU K E) (dJ.drop 4) D [some (.int c),some (.str x),some (.int m),some (.str ⟨(c0++ [e]).toArray⟩),some (.str hG),none,none,none] H:=by
 have ll:=len_list x
 refine bc (bf (aM (ag rfl (ao ⟨(by show(0:Int) <3;decide),ao (dg ⟨_,rfl, ?_⟩)⟩))))
 by_cases g:c % 3=1
 ·refine iT ?_ (decide_eq_true g)
  refine aZ (yo (ps:=[.keep (m:Nat)]) (.cons (i7 rfl (uS rfl)) .nil) (by show 1≤1000;decide) H _ fun a5 xs5 H1 s1 h5 p5=> ?_)
  have one:aw (GU K E) UQ {D with nx:=aw (GU K E) (dJ.drop 5) D} [some (.int c),some (.str x),some (.int m),some (.str ⟨(c0++ [e]).toArray⟩),some (.str hG),some (.ref a5),none,none] H1:=
   UR gx lx ex hm eo ne hf h5 p5 (mi (c:=List.replicate m 200) (by simp)) (by simp) (fun z hz=> (List.mem_replicate.mp hz).2) (by simp) (fun p hp=>by rw[List.mem_singleton.mp hp];trivial) (by show 1≤2;decide) fun b H' ys qs s'=>q b H' ys qs (s1.trans s')
  refine bc (rf (bf (ag rfl (ao (N.D7 ⟨_,rfl, ?_⟩)))))
  by_cases g1:(1:Int) < (m:Nat)
  ·refine iT ?_ (decide_eq_true g1)
   refine bf (aM (aM (ag rfl (ao ⟨⟨by decide,by decide⟩,ao ⟨(by show(0:Int) <2;decide),ao (dg ⟨_,rfl, ?_⟩)⟩⟩))))
   by_cases g2:c / 600 % 2=1
   ·refine iT ?_ (decide_eq_true g2)
    obtain⟨z0,zs,ez⟩: ∃z0 zs,xa=z0::zs:=by
     cases xa with
     | nil=>simp at hm;omega
     | cons a as=>exact⟨a,as,rfl⟩
    have aou:fB x none (some 1)=⟨#[z0]⟩:=by
     unfold fB iI
     rw[HT.Nx]
     have e1:HT.bx x.cps.toList.length x.cps.toList.length (some 1)=1:=by
      have:=HT.mL x.cps.toList.length x.cps.toList.length 1
      rw[show((1:Nat):Int)=1 from rfl] at this
      have h1:1≤x.cps.toList.length:=by rw[ex,ez];simp
      rw[this];omega
     rw[e1,ex,ez]
     rfl
    have hz0:SG.cps.contains z0=true:=gx.2 z0 (by rw[ex,ez];simp)
    have v1:Ev (GU K E) [some (.int c),some (.str x),some (.int m),some (.str ⟨(c0++ [e]).toArray⟩),some (.str hG),some (.ref a5),none,none] (.sl (.v 1) none (some (.c (.int 1)))) (.str ⟨#[z0]⟩):=fun H2 Q2 q2=>by
     refine UL (ag rfl (ao ⟨_,rfl,bP gx.1, ?_⟩))
     rw[aou];exact q2 _ (aE.refl _)
    have v2:Ev (GU K E) [some (.int c),some (.str x),some (.int m),some (.str ⟨(c0++ [e]).toArray⟩),some (.str hG),some (.ref a5),none,none] (.bin .Sub (.v 2) (.c (.int 1))) (.int ((m - 1:Nat):Int)):=fun H2 Q2 q2=>by
     refine aM (ag rfl (ao ⟨trivial, ?_⟩))
     have e2:((m:Nat):Int) - 1=((m - 1:Nat):Int):=by omega
     show Q2 (V.int (((m:Nat):Int) - 1)) H2
     rw[e2];exact q2 _ (aE.refl _)
    refine aZ (yo (ps:=[.cut ⟨#[z0]⟩, .keep ((m - 1:Nat):Int)]) (.cons (i7 rfl v1) (.cons (i7 rfl v2) .nil)) (by show 2≤1000;decide) H1 _ fun a6 rO H2 s2 h6 p6=> ?_)
    refine UR gx lx ex hm eo ne hf h6 p6 (la:=(⟨#[z0]⟩:Str).cps.toList++List.replicate (m - 1) 200) (lr:=List.replicate (m - 1) 200) (Run.cut (mi (by simp))) ?_ (fun z hz=> (List.mem_replicate.mp hz).2) (by simp) ?_ (by show 2≤2;decide) fun b H' ys qs s'=>q b H' ys qs ((s1.trans s2).trans s')
    ·show([z0]++List.replicate (m - 1) 200).length=m
     simp;omega
    ·intro p hp
     simp only[List.mem_cons,List.not_mem_nil,or_false] at hp
     rcases hp with rfl | rfl
     ·intro z hz
      have:z∈ [z0]:=hz
      rw[List.mem_singleton.mp this];exact hz0
     ·trivial
   ·exact iF (cj one) (decide_eq_false g2)
  ·exact iF (iF (cj one) rfl) (decide_eq_false g1)
 ·exact iF (cj (aor rfl gx lx q)) (decide_eq_false g)
theorem aow{c:Int}{x:Str}{m e:Nat}{xa xb c0:List Nat}{H:Hp}{D:Ends}(gx:good x)(lx:x.length≤10000)(ex:x.cps.toList=xa++ ((c0++ [e])++xb))(hm:xa.length=m)
  (q: ∀b H' ys qs,aE H H'→H' b=some (.lst ys)→bS H' ys qs→(∀p∈qs,cL p)→chainOk "" qs=true→qs.length≤1000→(¬ ∃r,Run x.cps.toList qs r)→D.rt (.ref b) H'):
  aw (GU K E) (dJ.drop 3) D [some (.int c),some (.str x),some (.int m),some (.str ⟨(c0++ [e]).toArray⟩),none,none,none,none] H:=by
 have ll:=len_list x
 have lc:(⟨(c0++ [e]).toArray⟩:Str).length=c0.length+1:=by simp[Str.length]
 have l0:(⟨c0.toArray⟩:Str).length=c0.length:=by simp[Str.length]
 have lsum:x.cps.toList.length=xa.length+ (c0.length+1+xb.length):=by rw[ex];simp;omega
 have la:(Str.ofString "a").length=1:=by decide+kernel
 have lb:(Str.ofString "b").length=1:=by decide+kernel
 refine aZ (aM (UL (ag rfl (mh ⟨_,rfl,bP (by omega), ?_⟩))))
 rw[aoj]
 refine ba (cH (au (ao (au (ao (aG ⟨(by show 2≤sizeLine;decide),fun l1 f1=> ?_⟩))))))
 have s1:=sameNew (o:= .lst [V.str "a",V.str "b"]) f1
 refine pq (au (kd (ba (ag rfl (mh (.inr (.inr (.inl ⟨_,_,e,rfl,rfl,bP (by omega),aok c0 e,ao (dO ?_)⟩))))))))
 rw[aol]
 by_cases he:e=97
 ·rw[decide_eq_true he]
  refine aG (fJ aO (i:=1) (v:= .str "b") rfl ⟨?_, ?_⟩)
  ·show(⟨c0.toArray⟩:Str).length+ (Str.ofString "b").length≤sizeLine
   rw[l0,lb];exact bP (by omega)
  ·exact UU gx lx ex hm (f:=98) (by rw[app_list];show c0++ (Str.ofString "b").cps.toList=_;rw[show(Str.ofString "b").cps.toList=[98] from aoq]) (by omega) (.inr rfl) fun b H' ys qs s'=>q b H' ys qs (s1.trans s')
 ·rw[decide_eq_false he]
  refine aG (fJ aO (i:=0) (v:= .str "a") rfl ⟨?_, ?_⟩)
  ·show(⟨c0.toArray⟩:Str).length+ (Str.ofString "a").length≤sizeLine
   rw[l0,la];exact bP (by omega)
  ·exact UU gx lx ex hm (f:=97) (by rw[app_list];show c0++ (Str.ofString "a").cps.toList=_;rw[show(Str.ofString "a").cps.toList=[97] from aop]) he (.inl rfl) fun b H' ys qs s'=>q b H' ys qs (s1.trans s')
theorem aox(vs:List V)(H:Hp)(Q:VK)(E:XK)(h:uT vs H Q E):aw (GU K E) dJ (Dn Q) (start j_ vs) H:=by
 obtain⟨c,x,rfl,gx,lx,q⟩:=h
 have ll:=len_list x
 have n1:(0:Int) < (x.length:Nat)+1:=by omega
 refine aZ (aM (aM (ag rfl (ao ⟨⟨by decide,by decide⟩,aM (d6 (ag rfl ⟨bP gx.1,ao (bZ ⟨n1, ?_⟩)⟩))⟩))))
 obtain⟨m,em,hm⟩: ∃m:Nat,c / 3 % ((x.length:Nat)+1:Int)=m∧m≤x.length:=by
  have a:=Int.emod_nonneg (c / 3) (show((x.length:Nat)+1:Int)≠0 by omega)
  have b:=Int.emod_lt_of_pos (c / 3) n1
  exact⟨(c / 3 % ((x.length:Nat)+1:Int)).toNat,by omega,by omega⟩
 obtain⟨k,ek,hk⟩: ∃k:Nat,c / 100 % 3=k∧k≤2:=by
  have a:=Int.emod_nonneg (c / 100) (show(3:Int)≠0 by decide)
  have b:=Int.emod_lt_of_pos (c / 100) (show(0:Int) <3 by decide)
  exact⟨(c / 100 % 3).toNat,by omega,by omega⟩
 show aw (GU K E) (dJ.drop 1) (Dn Q) [some (.int c),some (.str x),some (.int (c / 3 % ((x.length:Nat)+1:Int))),none,none,none,none,none] H
 rw[em]
 refine aZ (TY (ag rfl (ag rfl ⟨_,rfl,aM (aM (ag rfl (ao (bZ (aM (aM (ag rfl (ao ⟨⟨by decide,by decide⟩,ao ⟨(by show(0:Int) <3;decide),bZ ⟨_,rfl,bP gx.1, ?_⟩⟩⟩))))))))⟩)))
 have ec:fB x (some ((m:Nat):Int)) (some (((m:Nat):Int)+1+c / 100 % 3))=⟨((x.cps.toList.drop m).take (1+k)).toArray⟩:=by
  rw[ek,show((m:Nat):Int)+1+ (k:Nat)=((m:Nat):Int)+ ((1+k:Nat):Int) by omega]
  exact SH m _ _ rfl
 show aw (GU K E) (dJ.drop 2) (Dn Q) [some (.int c),some (.str x),some (.int (m:Nat)),some (.str (fB x (some ((m:Nat):Int)) (some (((m:Nat):Int)+1+c / 100 % 3)))),none,none,none,none] H
 rw[ec]
 refine bc (jE (bf (aM (ag rfl (ao ⟨(by show(0:Int) <3;decide),ao (dg ⟨_,rfl, ?_⟩)⟩)))))
 by_cases g0:c % 3=0
 ·exact iT (iT (UO gx lx hm q) rfl) (decide_eq_true g0)
 refine iF (bf (ag rfl (ao (dO ⟨_,rfl, ?_⟩)))) (decide_eq_false g0)
 rcases List.eq_nil_or_concat ((x.cps.toList.drop m).take (1+k)) with en | ⟨c0,e,ee⟩
 ·rw[en]
  exact iT (UO gx lx hm q) (by decide+kernel)
 ·rw[List.concat_eq_append] at ee
  have ex:x.cps.toList=x.cps.toList.take m++ ((c0++ [e])++ (x.cps.toList.drop m).drop (1+k)):=by rw[←ee,List.take_append_drop,List.take_append_drop]
  rw[ee]
  refine iF (cj (aow gx lx ex (by rw[List.length_take];omega) q)) ?_
  simp only[beq_eq_false_iff_ne,ne_eq]
  intro z
  have:=congrArg (fun y:Str=>y.cps.toList) z
  have e2:(c0++ [e]:List Nat)=[]:=this.trans El
  simp at e2
end
structure Fr (H:Hp) (s lt lb lf:Addr):Prop where
 f1:H s=none
 f2:H lt=none
 f3:H lb=none
 f4:H lf=none
theorem Fr.but{H0 H H':Hp}{s lt lb lf:Addr}(f:Fr H0 s lt lb lf)(sm:aE H0 H)(b:eW s lt lb lf H H'):aE H0 H':=fun c o e=>b c o (sm _ _ e) (cn e f.f1) (cn e f.f2) (cn e f.f3) (cn e f.f4)
section
variable {K:PySem.W.Frag} {cs:List Addr} {bB CP C CT:Addr} {E:XK} {Q:VK} {H0 H H':Hp} {p dp s dx lt lb lf:Addr} {v:V} {t:Tr} {ts:List Str} {x:Str}
abbrev GL(K:PySem.W.Frag)(cs:List Addr)(bB CP C CT:Addr)(E:XK):aC:=aW K [("_law_text_by",kl),("_law_cell_at",pf K),("paper_of",cB (rD CP C) (rF CT)),("_law_change_by",uC),("_law_mixed",g6),("_law_done",tZ),("_law_number",rH),("_law_asked",uR CP C),("_law_there",rM),("_law_changed",rN CP C),("_law_spoilt",uQ),("_law_unfit",uT)] [("Paper", .ref CP),("InkError", .ref bB)] [] [("changed",CP,uw CP C),("many",C,ub C),("text",CP,me CP C)] [] (ht:=[("_law_word",gP K cs bB)]) (E:=E)
theorem Eo{H1:Hp}{σ:St}{Q':VK}{a:Addr}{ns:List Int}(ha:aP K H0 a (ns.map V.int))(i:Int)(s1:aE H0 H1)(e0:σ[0]?=some (some (.ref a)))(hi:0≤i)(q:Q' (.int (cell ns i.toNat)) H1):ak (GL K cs bB CP C CT E) (.call 1 [(.v 0),(.c (.int i))]) σ H1 Q':=
 bA (pf K) rfl (au (ag e0 (au (ao (aG ⟨a,ns,i,rfl,s1.seq ha,hi,q⟩)))))
def aoy:List RS:=[.asg 5 (.call 3 [(.call 4 [(.v 4),(.v 3)]),(.v 1)]), .asg 2 (.cm 0 "changed" (.v 2) [(.v 5)]), .asg 1 (.call 5 [(.v 1),(.v 5)])]
theorem aoz{D:Ends}{i:Nat}{c:Int}{w:Addr}{ws:List V}{u0 u5 u6 u7 u8 u9 mr mv uV:Option V}(hi:i<3)(F:Fr H0 s lt lb lf)(sm:aE H0 H)(B:eL CP C H p dp s dx lt lb lf v t ts x)
  (b1:t.ar.length≤1+60*i) (b2:ts.length≤1+60*i) (b3:(av ts).length≤200+1000*i) (b4:x.length≤200+100*i) (hw:H w=some (.lst ws)) (kw:Kp lt lb lf w)
  (hN: ∀(x':Str) (p' iY:Addr) (v':V) (t':Tr) (uW:List Str) (y5:Option V) (H':Hp),aE H0 H'→eL CP C H' p' iY s dx lt lb lf v' t' uW x'→t'.ar.length≤1+60* (i+1)→uW.length≤1+60* (i+1)→(av uW).length≤200+1000* (i+1)→x'.length≤200+100* (i+1)→H' w=some (.lst ws)→
   D.nx [u0,some (.str x'),some (.ref p'),some (.int (i:Nat)),some (.int c),y5,u6,u7,u8,u9,mr,mv,uV] H'):
  aw (GL K cs bB CP C CT E) aoy D [u0,some (.str x),some (.ref p),some (.int (i:Nat)),some (.int c),u5,u6,u7,u8,u9,mr,mv,uV] H:=by
 refine aZ (bA uC rfl (au (bA g6 rfl (au (ag rfl (au (ag rfl (aG ⟨_,_,rfl,fun m hm=>au (ag rfl (aG ⟨m,x,rfl,B.go,by omega,fun b H1 ys qs r s1 fb hb pv ok ch R lr lq=> ?_⟩))⟩))))))))
 have B1:=B.same s1
 have kb:=Kp.of B.st fb
 refine aZ (fL CP (uw CP C) rfl (ag rfl ⟨p,dp,_,rfl,B1.pa.ob,dv (by decide+kernel) (by decide+kernel),ag rfl ⟨p,dp,s,dx,lt,lb,lf,b,v,t,ts,ys,qs,r,rfl,B1.pa,B1.st,by omega,by omega,by omega,B.l4,hb,kb.k1,kb.k2,kb.k3,pv,ok,ch,by rw[B.tx];exact R,fun p' iY v' t' us H3 bu fp S3 P3 e3 l3 lu ls=> ?_⟩⟩))
 have g5:H3 b=some (.lst ys):=Uk B1.st bu kb hb
 have pv3:bS H3 ys qs:=pv.mono (bu.cP B1.st)
 have sok: ∀q∈qs,eS q:=fun q hq=>TR (ok q hq)
 have US:(⟨r.toArray⟩:Str).length=r.length:=by simp[Str.length]
 have gr:good ⟨r.toArray⟩:=⟨by rw[US];omega,fun d hd=>R.good B.go.2 sok d (by simpa using hd)⟩
 have lts:(ts++us).length=ts.length+us.length:=List.length_append
 have lsg:(av (ts++us)).length=(av ts).length+ (av us).length:=by rw[iU,List.length_append]
 have B3:eL CP C H3 p' iY s dx lt lb lf v' t' (ts++us) ⟨r.toArray⟩:=⟨P3,S3,by omega,by omega,by omega,by rw[e3],gr⟩
 refine aZ (bA tZ rfl (au (ag rfl (au (ag rfl (aG ⟨x,b,ys,qs,r,rfl,B.go,g5,pv3,fun q hq=>Sk (ok q hq),R,by omega, ?_⟩))))))
 exact hN ⟨r.toArray⟩ p' iY v' t' (ts++us) _ H3 (F.but (sm.trans s1) bu) B3 (by omega) (by omega) (by omega) (by omega) (Uk B1.st bu kw (s1 _ _ hw))
theorem uX{a:Addr}{m n:Str}(h:H a=some (.tup [.str m, .str n])):Is H (.tuple [.str m, .str n]) (.ref a):=⟨a,_,rfl,h, .str m,[.str n],rfl,rfl, .str n,[],rfl,rfl,rfl⟩
theorem rP:SeqAt.shaped (.tuple [.str "place", .str "refused"])=true:=by decide+kernel
theorem aoC{a b:Addr}(ha:H a=some (.tup [.str "place", .str "refused"]))(hb:H b=some (.tup [.str "place", .str "refused"]))(q:Q (.bl true) H):cC K .Eq (.ref a) (.ref b) H Q:=by
 refine⟨_,_,uX ha,uX hb,rP,rP, ?_⟩
 rw[SeqAt.eqv_refl _ (SeqAt.canLay_of_shaped rP)];exact q
theorem aoD{z:Str}(h:sg z):SeqAt.shaped (.str z)=true:=by
 have e:PyData.strOk z=true:=Ds h
 unfold SeqAt.shaped
 have e1:(PyData.str z).canLay0=true:=e
 rw[e1];rfl
theorem aoE{r:V}{b:Addr}(hr:yl r H)(hb:H b=some (.tup [.str "place", .str "refused"]))(q:Q (.bl false) H):cC K .Eq r (.ref b) H Q:=by
 rcases hr with⟨z,rfl,hz⟩ | ⟨i,rfl⟩ | ⟨a,i,j,rfl,ha⟩
 ·exact⟨.str z,_,rfl,uX hb,aoD hz,rP,q⟩
 ·exact⟨.int i,_,rfl,uX hb,rfl,rP,q⟩
 ·refine⟨.tuple [.int i, .int j],_,⟨a,_,rfl,ha, .int i,[.int j],rfl,rfl, .int j,[],rfl,rfl,rfl⟩,uX hb,rfl,rP, ?_⟩
  exact q
theorem UW{a b:Bool}(q:Q (.bl (a==b)) H):cC K .Eq (.bl a) (.bl b) H Q:=by
 show Q (.bl (false ^^ decide (V.bl a=V.bl b))) H
 have e:decide (V.bl a=V.bl b)=(a==b):=by cases a<;>cases b<;>simp
 rw[e,Bool.false_xor];exact q
theorem UX{a b:Addr}{m n:Str}(sh:SeqAt.shaped (.list [.str m, .str n])=true)(ha:H a=some (.lst [.str m, .str n]))(hb:H b=some (.lst [.str m, .str n]))(q:Q (.bl false) H):cC K .NotEq (.ref a) (.ref b) H Q:=by
 have is: ∀c:Addr,H c=some (.lst [.str m, .str n])→Is H (.list [.str m, .str n]) (.ref c):=fun c hc=> ⟨c,_,rfl,hc, .str m,[.str n],rfl,rfl, .str n,[],rfl,rfl,rfl⟩
 refine⟨_,_,is a ha,is b hb,sh,sh, ?_⟩
 rw[SeqAt.eqv_refl _ (SeqAt.canLay_of_shaped sh)];exact q
def Ep:List RS:=[.asg 4 (.call 4 [(.call 1 [(.v 0),(.bin .Add (.c (.int 2)) (.v 8))]),(.bin .Add (.c (.int 500)) (.v 8))]),
  .asg 9 (.call 6 [(.bin .Mod (.v 4) (.c (.int 99991))),(.ix (.lst [(.blt .len [(.v 1)]),(.blt .len [(.v 1)]),(.blt .len [(.v 6)]),(.blt .len [(.v 6)])]) (.v 8))]),
  .asg 10 (.call 6 [(.bin .Mod (.bin .FloorDiv (.v 4) (.c (.int 7))) (.c (.int 99991))),(.blt .len [(.v 1)])]),
  .asg 11 (.call 7 [(.v 2),(.v 8),(.v 9),(.v 10)]),
  .ite (.cmp .Eq (.cmp .Eq (.v 11) (.tup [(.c (.str "place")),(.c (.str "refused"))])) (.call 8 [(.v 6),(.v 1),(.v 8),(.v 9),(.v 10)])) [.ret (.c (.bl false))] [],
  .ite (.and [(.dF .tuple (.v 11)),(.dF .str (.ix (.v 11) (.c (.int 0)))),(.cmp .NotEq (.ix (.v 11) (.c (.int 0))) (.c (.str "place")))]) [.ret (.c (.bl false))] []]
theorem UY{T:Ty}{z:Str}{k:Bool→Prop}(q:k (T== .str)):b_ T (.str z) H k:=q
theorem UZ{T:Ty}{z:Int}{k:Bool→Prop}(q:k (T== .int)):b_ T (.int z) H k:=q
theorem U0{D:Ends}{σ:St}{r:V}(pQ:σ[11]?=some (some r))(h:yl r H∨ ∃a,r= .ref a∧H a=some (.tup [.str "place", .str "refused"]))(q:D.nx σ H):
  aw (GL K cs bB CP C CT E) [.ite (.and [(.dF .tuple (.v 11)),(.dF .str (.ix (.v 11) (.c (.int 0)))),(.cmp .NotEq (.ix (.v 11) (.c (.int 0))) (.c (.str "place")))]) [.ret (.c (.bl false))] []] D σ H:=by
 rcases h with(⟨z,rfl,hz⟩ | ⟨i,rfl⟩ | ⟨a,i,j,rfl,ha⟩) | ⟨a,rfl,ha⟩
 ·refine bc (kg (rg (ag pQ ?_)))
  exact UY (iF (iF q rfl) rfl)
 ·refine bc (kg (rg (ag pQ ?_)))
  exact UZ (iF (iF q rfl) rfl)
 ·refine bc (kg (rg (ag pQ (pj ha (iT ?_ rfl)))))
  refine kg (rg (ba (ag pQ (ao (aJ ha rfl ?_)))))
  exact UZ (iF (iF q rfl) rfl)
 ·refine bc (kg (rg (ag pQ (pj ha (iT ?_ rfl)))))
  refine kg (rg (ba (ag pQ (ao (aJ ha rfl ?_)))))
  refine UY (iT ?_ rfl)
  exact SS (bf (ba (ag pQ (ao (aJ ha rfl (ao (SU ⟨_,rfl,iF q rfl⟩)))))))
theorem aoF{D:Ends}{w:Nat}{a l6:Addr}{ns:List Int}{u3 u4 u5 u7 u9 mr mv uV:Option V}(hw:w<4)(ha:aP K H0 a (ns.map V.int))(sm:aE H0 H)(B:eL CP C H p dp s dx lt lb lf v t ts x)(uY:H l6=some (.lst ((Txt.split x (Str.ofString "\n")).map V.str)))
  (hN: ∀(y4 y9 rQ rR:Option V) H',aE H H'→D.nx [some (.ref a),some (.str x),some (.ref p),u3,y4,u5,some (.ref l6),u7,some (.int (w:Nat)),y9,rQ,rR,uV] H'):
  aw (GL K cs bB CP C CT E) Ep D [some (.ref a),some (.str x),some (.ref p),u3,u4,u5,some (.ref l6),u7,some (.int (w:Nat)),u9,mr,mv,uV] H:=by
 have gx:=B.go.1
 refine aZ (bA g6 rfl (au (bA (pf K) rfl (au (ag rfl (au (aM (ao (ag rfl (bZ (aG ⟨a,ns,_,rfl,sm.seq ha,by omega, ?_⟩)))))))))))
 refine au (aM (ao (ag rfl (bZ (aG ⟨_,_,rfl,fun m hm=> ?_⟩)))))
 have r1: ∀{σ:St} {Q1:VK} {H1:Hp},σ[1]?=some (some (.str x))→Q1 (.int (x.length:Nat)) H1→ak (GL K cs bB CP C CT E) (.blt .len [(.v 1)]) σ H1 Q1:=fun e q=>d6 (ag e ⟨bP gx,q⟩)
 have r6: ∀{σ:St} {Q1:VK},σ[6]?=some (some (.ref l6))→Q1 (.int (((Txt.split x (Str.ofString "\n")).map V.str).length:Nat)) H→ak (GL K cs bB CP C CT E) (.blt .len [(.v 6)]) σ H Q1:=fun e q=>d6 (ag e (.inl ⟨_,aP.of uY,q⟩))
 obtain⟨n0,g7,TB⟩: ∃n0:Int,dW [V.int (x.length:Nat),V.int (x.length:Nat),V.int (((Txt.split x (Str.ofString "\n")).map V.str).length:Nat),V.int (((Txt.split x (Str.ofString "\n")).map V.str).length:Nat)] ((w:Nat):Int)=some (.int n0)∧0≤n0:=by
  match w,hw with
  | 0,_=>exact⟨_,rfl,by omega⟩
  | 1,_=>exact⟨_,rfl,by omega⟩
  | 2,_=>exact⟨_,rfl,by omega⟩
  | 3,_=>exact⟨_,rfl,by omega⟩
 refine aZ (bA rH rfl (au (aM (ag rfl (ao ⟨(by show(0:Int) <99991;decide),au (ba (cH (au (r1 rfl (au (r1 rfl (au (r6 rfl (au (r6 rfl (aG ⟨(by show 4≤sizeLine;decide),fun l fl=>ag rfl ?_⟩)))))))))))⟩)))))
 have s1:=sameNew (o:= .lst [V.int (x.length:Nat),V.int (x.length:Nat),V.int (((Txt.split x (Str.ofString "\n")).map V.str).length:Nat),V.int (((Txt.split x (Str.ofString "\n")).map V.str).length:Nat)]) fl
 refine fJ aO g7 (aG ⟨_,_,rfl,TB,fun v1 H2 s2 w1=> ?_⟩)
 refine aZ (bA rH rfl (au (aM (aM (ag rfl (ao ⟨⟨by decide,by decide⟩,ao ⟨(by show(0:Int) <99991;decide),au (r1 rfl (aG ⟨_,_,rfl,by omega,fun v2 H3 s3 w2=> ?_⟩))⟩⟩))))))
 have i0:=(s1.trans s2).trans s3
 have B3:=B.same i0
 have Er:=w1.same s3
 have U1:=i0 _ _ uY
 refine aZ (bA (uR CP C) rfl (au (ag rfl (au (ag rfl (au (ag rfl (au (ag rfl (aG ⟨p,dp,s,dx,lt,lb,lf,v,t,ts,x,w,v1,v2,rfl,B3,hw, ?_⟩))))))))))
 rcases an_ (l:=x.cps.toList) (w:=w) Er w2 with g | g
 ·refine .inl ⟨g,fun r H4 s4 hr=> ?_⟩
  refine bc (bf (kd (ag rfl (dM (au (ao (au (ao (aG ⟨(by show 2≤sizeLine;decide),fun t5 f5=> ?_⟩)))))))))
  have s5:=sameNew (o:= .tup [V.str "place",V.str "refused"]) f5
  have uZ:yl r (upd H4 t5 (.tup [V.str "place",V.str "refused"])):=by
   rcases hr with h | h | ⟨b,i,j,e,h⟩
   ·exact .inl h
   ·exact .inr (.inl h)
   ·exact .inr (.inr ⟨b,i,j,e,s5 _ _ h⟩)
  refine aoE uZ aO ?_
  have kr:=s4.trans s5
  refine bA rM rfl (au (ag rfl (au (ag rfl (au (ag rfl (au (ag rfl (au (ag rfl (aG ⟨l6,x,w,v1,v2,rfl,kr _ _ U1,gx,hw,Er.same kr,w2.same kr,fun _ H6 s6=>UW ⟨_,rfl,iF (cj ?_) rfl⟩,fun n=>absurd g n⟩)))))))))))
  refine U0 rfl (.inl ?_) (hN _ _ _ _ _ (i0.trans (kr.trans s6)))
  rcases uZ with h | h | ⟨b,i,j,e,h⟩
  ·exact .inl h
  ·exact .inr (.inl h)
  ·exact .inr (.inr ⟨b,i,j,e,s6 _ _ h⟩)
 ·refine .inr ⟨g,fun r H4 s4 hr=> ?_⟩
  refine bc (bf (kd (ag rfl (dM (au (ao (au (ao (aG ⟨(by show 2≤sizeLine;decide),fun t5 f5=> ?_⟩)))))))))
  have s5:=sameNew (o:= .tup [V.str "place",V.str "refused"]) f5
  have uZ:=s5 _ _ hr
  refine aoC uZ aO ?_
  have kr:=s4.trans s5
  refine bA rM rfl (au (ag rfl (au (ag rfl (au (ag rfl (au (ag rfl (au (ag rfl (aG ⟨l6,x,w,v1,v2,rfl,kr _ _ U1,gx,hw,Er.same kr,w2.same kr,fun n=>absurd n (aoa g),fun _ H6 s6=>UW ⟨_,rfl,iF (cj ?_) rfl⟩⟩)))))))))))
  exact U0 rfl (.inr ⟨r,rfl,s6 _ _ uZ⟩) (hN _ _ _ _ _ (i0.trans (kr.trans s6)))
end
section
variable {K:PySem.W.Frag} {cs:List Addr} {bB CP C CT:Addr} {E:XK} {Q:VK} {H0 H H':Hp} {p dp s dx lt lb lf:Addr} {v:V} {t:Tr} {ts:List Str} {x:Str}
theorem aoG{n:Int}:(dP lt lb lf n).lookup ("many":Str)=none:=q_ (by decide+kernel) (by decide+kernel) (by decide+kernel) (by decide+kernel)
theorem aoH{Γ:aC}{σ:St}{o a:RE}(h:ak Γ o σ H fun x H1=>sf Γ.K "str" x H1∧ak Γ a σ H1 fun y H2=>xf x [y] H2 Q):ak Γ (.xm C5 o [a]) σ H Q:=h
theorem U2{σ:St}{Q':VK}(T:fc K CP)(e2:σ[2]?=some (some (.ref p)))(B:eL CP C H p dp s dx lt lb lf v t ts x)(q:Q' (.int (av ts).length) H):ak (GL K cs bB CP C CT E) (.cm 1 "many" (.fld (.v 2) "stock") []) σ H Q':=
 fi C (ub C) rfl (dN (ag e2 ⟨p,CP,dp,_,_,rfl,B.pa.ob,T.cl,T.gH,iz,s,dx,_,rfl,B.st.ob,aoG,s,dx,lt,lb,lf,ts,rfl,B.st,q⟩))
theorem twE{Γ:aC}{D:Ends}(hw:Γ.hs 0=gP Γ.K cs bB)(kE:eI Γ.K cs bB CT 0)(xE:exmOne Γ.K (.ref CT) (.ref bB)=some true)(q: ∀H',D.rt (.bl true) H'):
  sH Γ.K bB 12 13 (fun ea=>aw {Γ with E:=E0,hv:=some ea} [.ret (.cmp .Eq (.kS 0 (.v 12)) (.c (.str "text")))]) D (.ref CT) none H:=by
 refine⟨xE,fun ea ob vs σ' ia hl iH=> ?_⟩
 have he:ExcAt (upd H ea (.bV ob iJ)) ea CT:=⟨ob,vs,aO,iH⟩
 refine bY (kd ?_)
 refine⟨_,(by rw[List.getElem?_set_self (by omega)]),⟨ea,CT,rfl,he⟩, ?_⟩
 show Γ.hs 0 [.ref ea] _ _ _
 rw[hw]
 exact⟨ea,CT,0,rfl,he,kE, .inl rfl,fun H2 s2=>ao (dO (q _))⟩
theorem aoJ:SeqAt.shaped (.list [.str "refused", .str "change"])=true:=by decide+kernel
theorem aoK:SeqAt.shaped (.list [.str "refused", .str "fit"])=true:=by decide+kernel
theorem aoL{a:Addr}{ns:List Int}{u1 u2 u3 u4 u5 u6 u7 u8 u9 mr mv:Option V}(kT:eI K cs bB CT 0)(xT:exmOne K (.ref CT) (.ref bB)=some true)(ha:aP K H0 a (ns.map V.int))(sm:aE H0 H)(k: ∀H',Q (.bl true) H'):
  aw (GL K cs bB CP C CT E) (cJ.drop 10) (Dn Q) [some (.ref a),u1,u2,u3,u4,u5,u6,u7,u8,u9,mr,mv,none] H:=by
 refine⟨bB,rfl, ?_⟩
 refine lQ (bA (cB (rD CP C) (rF CT)) rfl (au (ba (cH (uO (P:=jB) (fun _ _ _ h s=>h.same s) _ ?_ H _ fun its H1 s1 ln os=> ⟨bP (by rw[ln];decide),fun l fl=> ?_⟩)))))
 ·intro e he
  simp only[List.mem_cons,List.not_mem_nil,or_false] at he
  rcases he with rfl | rfl | rfl | rfl | rfl | rfl | rfl | rfl
  ·exact i6 fun H=> .inr rfl
  ·exact i6 fun H=> .inr rfl
  ·exact Uq fun a H h=> .inr (tV h rfl)
  ·exact i6 fun H=> .inl ⟨_,rfl,by decide+kernel,by decide+kernel⟩
  ·exact i6 fun H=> .inl ⟨_,rfl,by decide+kernel,by decide+kernel⟩
  ·exact i6 fun H=> .inr rfl
  ·exact Ur fun a H h=> .inr (pj h rfl)
  ·exact Us fun a H h=> .inr (SF h rfl)
 have s2:=sameNew (o:= .lst its) fl
 have l8:its.length=8:=ln
 obtain⟨y,hy,g7⟩:=L2.N.pick (its:=its) (j:=cell ns 7 % 8) (Int.emod_nonneg _ (by decide)) (by rw[l8];exact Int.emod_lt_of_pos _ (by decide))
 refine aM (bA (pf K) rfl (au (ag rfl (au (ao (aG ⟨a,ns,7,rfl,(sm.trans (s1.trans s2)).seq ha,by decide,ao ⟨(by show(0:Int) <8;decide),fJ aO g7 (aG (.inr ⟨y,rfl,(os y hy).same s2,twE rfl kT xT k⟩))⟩⟩))))))
theorem aoM{a:Addr}{ns:List Int}{u3 u4 u5 u6 u8 u9 mr mv:Option V}(T:fc K CP)(O:tM K CP)(kT:eI K cs bB CT 0)(xT:exmOne K (.ref CT) (.ref bB)=some true)(ha:aP K H0 a (ns.map V.int))(sm:aE H0 H)(B:eL CP C H p dp s dx lt lb lf v t ts x)(hx:x.length≤10000)(k: ∀H',Q (.bl true) H'):
  aw (GL K cs bB CP C CT E) (cJ.drop 6) (Dn Q) [some (.ref a),some (.str x),some (.ref p),u3,u4,u5,u6,some (.int (av ts).length),u8,u9,mr,mv,none] H:=by
 refine aZ (bA g6 rfl (au (Eo ha 6 sm rfl (by decide) (au (ao (aG ⟨_,_,rfl,fun m hm=> ?_⟩))))))
 refine bc (bf (bA (rN CP C) rfl (au (ag rfl (au (bA uQ rfl (au (ag rfl (au (ag rfl (aG ⟨_,x,rfl,B.go.1,fun vc H1 s1 nc=> ?_⟩)))))))))))
 refine aG ⟨p,dp,s,dx,lt,lb,lf,v,vc,t,ts,x,rfl,B.same s1, .inl ⟨nc,fun r H2 s2 hr=> ?_⟩⟩
 refine cH (au (ao (au (ao (aG ⟨(by show 2≤sizeLine;decide),fun l3 f3=> ?_⟩)))))
 have s3:=sameNew (o:= .lst [V.str "refused",V.str "change"]) f3
 refine UX aoJ (s3 _ _ hr) aO ⟨_,rfl,iF (cj ?_) rfl⟩
 have i0:=(s1.trans s2).trans s3
 generalize upd H2 l3 (.lst [V.str "refused",V.str "change"])=H3 at i0⊢
 have B3:=B.same i0
 have yg:=sm.trans i0
 refine bc (bf (bA (rN CP C) rfl (au (ag rfl (au (bA uT rfl (au (aM (ag rfl (ao ⟨⟨by decide,by decide⟩,au (ag rfl (aG ⟨_,x,rfl,B.go,hx,fun b H4 ys qs s4 hb pv ok ch lq nr=> ?_⟩))⟩))))))))))
 refine aG ⟨p,dp,s,dx,lt,lb,lf,v,_,t,ts,x,rfl,B3.same s4, .inr ⟨b,ys,qs,rfl,hb,pv,ok,ch,by omega,nr,fun r H5 s5 hr=> ?_⟩⟩
 refine cH (au (ao (au (ao (aG ⟨(by show 2≤sizeLine;decide),fun l6 f6=> ?_⟩)))))
 have s6:=sameNew (o:= .lst [V.str "refused",V.str "fit"]) f6
 refine UX aoK (s6 _ _ hr) aO ⟨_,rfl,iF (cj ?_) rfl⟩
 have Es:=(s4.trans s5).trans s6
 generalize upd H5 l6 (.lst [V.str "refused",V.str "fit"])=H6 at Es⊢
 have B6:=B3.same Es
 have yp:=yg.trans Es
 refine bc (gZ (df (anL (au (ag rfl (au (Dv (aG ⟨p,CP,dp,_,rfl,B6.pa.ob,O,dt (iF ?_ rfl)⟩))))))))
 refine gZ (bf (fi CP (me CP C) rfl (ag rfl ⟨p,dp,_,rfl,B6.pa.ob,dv (by decide+kernel) (by decide+kernel),p,dp,s,dx,lt,lb,lf,v,t,ts,rfl,B6.pa,B6.st,B6.l1,B6.l2,B6.l3,B6.l4,fun H7 s7=> ?_⟩)))
 rw[B6.eq]
 refine ag rfl (SU ⟨_,rfl,iF ?_ rfl⟩)
 refine ue (bf (U2 T rfl (B6.same s7) (ag rfl (xQ ⟨_,rfl,iF (cj ?_) (by simp)⟩))))
 exact aoL kT xT ha (yp.trans s7) k
theorem aoN{a:Addr}{ns:List Int}{u3 u4 u5:Option V}(T:fc K CP)(O:tM K CP)(kT:eI K cs bB CT 0)(xT:exmOne K (.ref CT) (.ref bB)=some true)(ha:aP K H0 a (ns.map V.int))(sm:aE H0 H)(B:eL CP C H p dp s dx lt lb lf v t ts x)(hx:x.length≤10000)(k: ∀H',Q (.bl true) H'):
  aw (GL K cs bB CP C CT E) (cJ.drop 3) (Dn Q) [some (.ref a),some (.str x),some (.ref p),u3,u4,u5,none,none,none,none,none,none,none] H:=by
 refine aZ (aoH (ag rfl ⟨rfl,ao ⟨x,_,rfl,rfl,by decide+kernel,B.go.1,fun l6 f6=> ?_⟩⟩))
 have s1:=sameNew (o:= .lst ((Txt.split x (Str.ofString "\n")).map V.str)) f6
 have uY:upd H l6 (.lst ((Txt.split x (Str.ofString "\n")).map V.str)) l6=some (.lst ((Txt.split x (Str.ofString "\n")).map V.str)):=aO
 generalize upd H l6 (.lst ((Txt.split x (Str.ofString "\n")).map V.str))=H1 at s1 uY⊢
 have B1:=B.same s1
 refine aZ (U2 T rfl B1 ?_)
 refine TZ (body:=Ep) (ao ?_)
 refine⟨4,rfl,by decide,by decide,zM (lo:=0) (n:=_) (fun j σ H2=>aE H1 H2∧ ∃y4 y8 y9 rQ rR:Option V,σ=[some (.ref a),some (.str x),some (.ref p),u3,y4,u5,some (.ref l6),some (.int (av ts).length),y8,y9,rQ,rR,none]) ⟨aE.refl _,u4,none,none,none,none,rfl⟩ ?_ ?_⟩
 ·rintro j σ H2 hj ⟨s2,y4,y8,y9,rQ,rR,rfl⟩
  have bO:j<4:=hj
  show aw (GL K cs bB CP C CT E) Ep _ [some (.ref a),some (.str x),some (.ref p),u3,y4,u5,some (.ref l6),some (.int (av ts).length),some (.int (0+ (j:Int))),y9,rQ,rR,none] H2
  rw[Int.zero_add]
  exact aoF bO ha (sm.trans (s1.trans s2)) (B1.same s2) (s2 _ _ uY) fun z4 z9 z10 z11 H3 s3=> ⟨s2.trans s3,z4,_,z9,z10,z11,rfl⟩
 ·rintro σ H2 ⟨s2,y4,y8,y9,rQ,rR,rfl⟩
  exact aoM T O kT xT ha (sm.trans (s1.trans s2)) (B1.same s2) hx k
def yq(K:PySem.W.Frag):Sp:=fun vs H Q E=> ∃(a:Addr) (ns:List Int),vs=[.ref a]∧aP K H a (ns.map V.int)∧ ∀H',Q (.bl true) H'
def LI(H0:Hp)(a w s dx lt lb lf CP C:Addr)(ws:List V)(i:Nat)(σ:St)(H4:Hp):Prop:=
 ∃(x:Str) (p dp:Addr) (v:V) (t:Tr) (ts:List Str) (u3 u4 u5:Option V),σ=[some (.ref a),some (.str x),some (.ref p),u3,u4,u5,none,none,none,none,none,none,none]∧aE H0 H4∧eL CP C H4 p dp s dx lt lb lf v t ts x∧
  t.ar.length≤1+60*i∧ts.length≤1+60*i∧(av ts).length≤200+1000*i∧x.length≤200+100*i∧H4 w=some (.lst ws)
theorem aoQ(T:fc K CP)(O:tM K CP)(kT:eI K cs bB CT 0)(xT:exmOne K (.ref CT) (.ref bB)=some true)(vs:List V)(H:Hp)(Q:VK)(E:XK)(h:yq K vs H Q E):aw (GL K cs bB CP C CT E) cJ (Dn Q) (start fI vs) H:=by
 obtain⟨a,ns,rfl,ha,k⟩:=h
 have U3:0≤cell ns 0 % 25∧cell ns 0 % 25<25:=⟨Int.emod_nonneg _ (by decide),Int.emod_lt_of_pos _ (by decide)⟩
 refine aZ (bA kl rfl (au (Eo ha 1 (aE.refl _) rfl (by decide) (au (aM (Eo ha 0 (aE.refl _) rfl (by decide) (ao ⟨(by show(0:Int) <25;decide),aG ⟨_,_,rfl,U3.1,by have:=U3.2;show cell ns 0 % 25≤1000;omega,fun x H1 gx lx s1=> ?_⟩⟩)))))))
 have lx':x.length≤200:=by
  have l0:x.length=(cell ns 0 % 25).toNat:=lx
  omega
 refine aZ (bA (cB (rD CP C) (rF CT)) rfl (au (ag rfl (aG (.inl ⟨x,rfl,gx,fun p dp s dx lt lb lf v t ts H2 s2 S2 P2 e2 l1 l2 l3 f1 f2 f3 f4 f5=> ?_⟩)))))
 have B2:eL CP C H2 p dp s dx lt lb lf v t ts x:=⟨P2,S2,by omega,by omega,by omega,e2,gx⟩
 have F:Fr H s lt lb lf:=⟨s1.free f2,s1.free f3,s1.free f4,s1.free f5⟩
 have kq:=s1.trans s2
 refine⟨_,rfl,_,rfl,_,rfl, .inl ⟨_,kq.seq ha,fun w fw=> ?_⟩⟩
 have kw:=Kp.of B2.st fw
 have s4:=sameNew (o:= .lst (gc (ns.map V.int) (some 10) (some 13))) fw
 have yr:upd H2 w (.lst (gc (ns.map V.int) (some 10) (some 13))) w=some (.lst (gc (ns.map V.int) (some 10) (some 13))):=aO
 have ec:=anM (ns.map V.int) 10 13
 generalize upd H2 w (.lst (gc (ns.map V.int) (some 10) (some 13)))=H4 at s4 yr⊢
 rw[show((10:Nat):Int)=10 from rfl,show((13:Nat):Int)=13 from rfl] at ec
 rw[ec] at yr
 have B4:=B2.same s4
 refine⟨w,rfl,⟨_,aP.of yr⟩,aaV (K:=K) (a:=w) (xs:=((ns.map V.int).drop 10).take (13 - 10)) (LI H a w s dx lt lb lf CP C (((ns.map V.int).drop 10).take (13 - 10))) ?_ ?_ ?_ ?_⟩
 ·exact⟨x,p,dp,v,t,ts,none,none,none,rfl,kq.trans s4,B4,by omega,by omega,by omega,by omega,yr⟩
 ·rintro i σ H5 ⟨x,p,dp,v,t,ts,u3,u4,u5,_,_,_,_,_,_,_,hw⟩
  exact aP.of hw
 ·rintro i y σ H5 T5 hi ⟨x,p,dp,v,t,ts,u3,u4,u5,rfl,sm,B5,c1,c2,c3,c4,hw⟩ hT
  have hi3:i<3:=by
   have:=(List.getElem?_eq_some_iff.mp hi).1
   rw[List.length_take] at this;omega
  obtain⟨c,rfl⟩: ∃c:Int,y= .int c:=by
   have hm:=List.mem_of_mem_drop (List.mem_of_mem_take (List.mem_of_getElem? hi))
   obtain⟨c,_,e⟩:=List.mem_map.mp hm
   exact⟨c,e.symm⟩
  have s6:=sameNew (o:= .tup [V.int (i:Nat),V.int c]) hT
  refine anK aO ?_
  have B6:=B5.same s6
  have U4:=s6 _ _ hw
  have yp:=sm.trans s6
  generalize upd H5 T5 (.tup [V.int (i:Nat),V.int c])=H6 at s6 B6 U4 yp⊢
  exact aoz hi3 F yp B6 c1 c2 c3 c4 U4 kw fun x' p' iY v' t' uW y5 H' sm' B' d1 d2 d3 d4 pI=> ⟨x',p',iY,v',t',uW,_,_,y5,rfl,sm',B',d1,d2,d3,d4,pI⟩
 ·rintro σ H5 ⟨x,p,dp,v,t,ts,u3,u4,u5,rfl,sm,B5,c1,c2,c3,c4,hw⟩
  have li:(((ns.map V.int).drop 10).take (13 - 10)).length≤3:=by rw[List.length_take];omega
  exact aoN T O kT xT ha sm B5 (by omega) k
end
end L2.nC
namespace L2.nC
open PySem PySem.Spec PyProof.Rows L2.B
theorem dw{K:PySem.W.Frag}{x qual:Str}{st:Stmt}{f:Addr}{fd:FuncData}{ps:List Str}(F:iG K x qual st f fd)(hp:ps.length=1)(h: ∀(kV doc pm:Value) (an:Option Addr) (bQ ct:Value) (a0:Value),bindArgs (fnOf x qual (bp st) (aA st) (ax st) .none kV doc pm an bQ ct) ⟨[a0],[]⟩=pure (ps.zip [a0])):Binds K fd ps []:=
 F.binds fun kV doc pm an bQ ct us hl=>match us,hl.trans hp with | [a0],_=>h kV doc pm an bQ ct a0
theorem dy{K:PySem.W.Frag}{x qual:Str}{st:Stmt}{f:Addr}{fd:FuncData}{ps:List Str}(F:iG K x qual st f fd)(hp:ps.length=2)(h: ∀(kV doc pm:Value) (an:Option Addr) (bQ ct:Value) (a0 a1:Value),bindArgs (fnOf x qual (bp st) (aA st) (ax st) .none kV doc pm an bQ ct) ⟨[a0,a1],[]⟩=pure (ps.zip [a0,a1])):Binds K fd ps []:=
 F.binds fun kV doc pm an bQ ct us hl=>match us,hl.trans hp with | [a0,a1],_=>h kV doc pm an bQ ct a0 a1
theorem gp{K:PySem.W.Frag}{x qual:Str}{st:Stmt}{f:Addr}{fd:FuncData}{ps:List Str}(F:iG K x qual st f fd)(hp:ps.length=3)(h: ∀(kV doc pm:Value) (an:Option Addr) (bQ ct:Value) (a0 a1 a2:Value),bindArgs (fnOf x qual (bp st) (aA st) (ax st) .none kV doc pm an bQ ct) ⟨[a0,a1,a2],[]⟩=pure (ps.zip [a0,a1,a2])):Binds K fd ps []:=
 F.binds fun kV doc pm an bQ ct us hl=>match us,hl.trans hp with | [a0,a1,a2],_=>h kV doc pm an bQ ct a0 a1 a2
theorem aoT{K:PySem.W.Frag}{x qual:Str}{st:Stmt}{f:Addr}{fd:FuncData}{ps:List Str}(F:iG K x qual st f fd)(hp:ps.length=4)(h: ∀(kV doc pm:Value) (an:Option Addr) (bQ ct:Value) (a0 a1 a2 a3:Value),bindArgs (fnOf x qual (bp st) (aA st) (ax st) .none kV doc pm an bQ ct) ⟨[a0,a1,a2,a3],[]⟩=pure (ps.zip [a0,a1,a2,a3])):Binds K fd ps []:=
 F.binds fun kV doc pm an bQ ct us hl=>match us,hl.trans hp with | [a0,a1,a2,a3],_=>h kV doc pm an bQ ct a0 a1 a2 a3
theorem aoU{K:PySem.W.Frag}{x qual:Str}{st:Stmt}{f:Addr}{fd:FuncData}{ps:List Str}(F:iG K x qual st f fd)(hp:ps.length=5)(h: ∀(kV doc pm:Value) (an:Option Addr) (bQ ct:Value) (a0 a1 a2 a3 a4:Value),bindArgs (fnOf x qual (bp st) (aA st) (ax st) .none kV doc pm an bQ ct) ⟨[a0,a1,a2,a3,a4],[]⟩=pure (ps.zip [a0,a1,a2,a3,a4])):Binds K fd ps []:=
 F.binds fun kV doc pm an bQ ct us hl=>match us,hl.trans hp with | [a0,a1,a2,a3,a4],_=>h kV doc pm an bQ ct a0 a1 a2 a3 a4
theorem all_mk{l:PySem.W.OpenLaw}{w:World}{K:PySem.W.Frag}{h:Heap}{mg:Str→Option Value}{fa f0 f1 f2 f3 f4 f5 f6 f7 f8 f9 Et Eu Ew Ex Ey Ez EA EB EC ED EE EF EG EH EI EJ EK yt yu yv yw yx yy EL EM EN EO yz yA yB yC yD yE yF yG yH yI ER ES ET EU EV EW EX EY EZ E1 E2 E3 E4 E5 E6:Addr}{aS:Addr}{aL:Addr}{dQ:Addr}{bT:Addr}{bR:Addr}{bX:Addr}{bJ:Addr}{fN:Addr}{fO:Addr}{fP:Addr}{fQ:Addr}{fR:Addr}{fS:Addr}{fU:Addr}{fV:Addr}{fW:Addr}(X:K.In h)(G:h.Ns mainGlobals mg)(hfa:mg "law"=some (.ref fa))
  {od0 an0:Option Addr} {sl0:Array (Option Value)} {oc0 kV0 dc0 pm0 U5 ct0:Value}
  {od1 an1:Option Addr} {sl1:Array (Option Value)} {oc1 kV1 dc1 pm1 U6 ct1:Value}
  {od2 an2:Option Addr} {mK:Array (Option Value)} {oc2 kV2 dc2 pm2 U7 ct2:Value}
  {od3 an3:Option Addr} {sT:Array (Option Value)} {oc3 kV3 dc3 pm3 U8 ct3:Value}
  {od4 an4:Option Addr} {sl4:Array (Option Value)} {oc4 kV4 dc4 pm4 U9 ct4:Value}
  {od5 an5:Option Addr} {sl5:Array (Option Value)} {oc5 kV5 dc5 pm5 U_ ct5:Value}
  {od6 an6:Option Addr} {sl6:Array (Option Value)} {oc6 kV6 dc6 pm6 Va ct6:Value}
  {od7 an7:Option Addr} {sl7:Array (Option Value)} {oc7 kV7 dc7 pm7 Vb ct7:Value}
  {od8 an8:Option Addr} {sl8:Array (Option Value)} {oc8 kV8 dc8 pm8 Vc ct8:Value}
  {od9 an9:Option Addr} {sl9:Array (Option Value)} {oc9 kV9 dc9 pm9 Vd ct9:Value}
  {aqb aqc:Option Addr} {aqd:Array (Option Value)} {aqe aqf aqg aqh Ve aqi:Value}
  {aqj aqk:Option Addr} {aql:Array (Option Value)} {aqm aqn aqo aqp Vf aqq:Value}
  {aqr aqs:Option Addr} {aqt:Array (Option Value)} {aqu aqv aqw aqx Vg aqy:Value}
  {aqz aqA:Option Addr} {aqB:Array (Option Value)} {aqC aqD aqE aqF Vh aqG:Value}
  {aqH aqI:Option Addr} {aqJ:Array (Option Value)} {aqK aqL aqM aqN Vi aqO:Value}
  {aqP aqQ:Option Addr} {aqR:Array (Option Value)} {aqS aqT aqU aqV Vj aqW:Value}
  {aqX aqY:Option Addr} {aqZ:Array (Option Value)} {aq0 aq1 aq2 aq3 Vk aq4:Value}
  {aq5 aq6:Option Addr} {aq7:Array (Option Value)} {aq8 aq9 aq_ ara Vl arb:Value}
  {arc ard:Option Addr} {arf:Array (Option Value)} {arh ari arj ark Vm arl:Value}
  {arn aro:Option Addr} {arp:Array (Option Value)} {arq ars art aru Vn arv:Value}
  {arw arx:Option Addr} {ary:Array (Option Value)} {arz arA arB arC Vo arD:Value}
  {arE arF:Option Addr} {arG:Array (Option Value)} {arH arI arJ arK Vp arL:Value}
  {arM arN:Option Addr} {arO:Array (Option Value)} {arP arQ arR arS Vq arT:Value}
  {arU arV:Option Addr} {arW:Array (Option Value)} {arX arY arZ ar0 Vr ar1:Value}
  {ar2 ar3:Option Addr} {ar4:Array (Option Value)} {ar5 ar6 ar7 ar8 Vs ar9:Value}
  {ar_ asa:Option Addr} {asb:Array (Option Value)} {asd ase asf ash Vt asi:Value}
  {asj asl:Option Addr} {asm:Array (Option Value)} {asn aso asp asq Vu asr:Value}
  {ass asu:Option Addr} {asv:Array (Option Value)} {asw asx asy asz Vv asA:Value}
  {asB asC:Option Addr} {asD:Array (Option Value)} {asE asF asG asH Vw asI:Value}
  {asJ asK:Option Addr} {asL:Array (Option Value)} {asM asN asO asP Vx asQ:Value}
  {asR asS:Option Addr} {asT:Array (Option Value)} {asU asV asW asX Vy asY:Value}
  {asZ as0:Option Addr} {as2:Array (Option Value)} {as3 as4 as5 as6 Vz as7:Value}
  {as8 as9:Option Addr} {as_:Array (Option Value)} {ata atb atc atd VA ate:Value}
  {atf atg:Option Addr} {ath:Array (Option Value)} {ati atj atk atl VB atm:Value}
  {atn ato:Option Addr} {atp:Array (Option Value)} {atq atr ats att VC atu:Value}
  {atv atw:Option Addr} {atx:Array (Option Value)} {aty atz atA atB VD atD:Value}
  {atE atF:Option Addr} {atG:Array (Option Value)} {atH atJ atL atM VE atN:Value}
  {atO atP:Option Addr} {atQ:Array (Option Value)} {atR atU atV atW VF atX:Value}
  {atY atZ:Option Addr} {at0:Array (Option Value)} {at1 at3 at4 at5 VG at6:Value}
  {at7 at8:Option Addr} {at9:Array (Option Value)} {aua aub auc aud VH aue:Value}
  {auf auh:Option Addr} {aui:Array (Option Value)} {auj auk aul aum VI aun:Value}
  {auo aup:Option Addr} {auq:Array (Option Value)} {aur aus aut auu VJ auv:Value}
  {auw auy:Option Addr} {auz:Array (Option Value)} {auA auB auC auD VL auE:Value}
  {auF auG:Option Addr} {auH:Array (Option Value)} {auI auJ auK auL VM auM:Value}
  {auN auO:Option Addr} {auP:Array (Option Value)} {auQ auR auS auT VN auU:Value}
  {auV auW:Option Addr} {auX:Array (Option Value)} {auY auZ au0 au1 VO au2:Value}
  {au3 au4:Option Addr} {au5:Array (Option Value)} {au6 au7 au8 au9 VP au_:Value}
  {ava avb:Option Addr} {avc:Array (Option Value)} {avd ave avf avg VQ avh:Value}
  {avi avj:Option Addr} {avk:Array (Option Value)} {avl avm avn avo VR avp:Value}
  {avq avr:Option Addr} {avs:Array (Option Value)} {avt avu avv avw VS avx:Value}
  {avy avz:Option Addr} {avA:Array (Option Value)} {avB avC avD avE VT avF:Value}
  {avG avH:Option Addr} {avI:Array (Option Value)} {avJ avK avL avM VU avN:Value}
  {avO avP:Option Addr} {avQ:Array (Option Value)} {avR avS avT avU VV avV:Value}
  {avW avX:Option Addr} {avY:Array (Option Value)} {avZ av0 av1 av2 VW av3:Value}
  {av4 av5:Option Addr} {av6:Array (Option Value)} {av7 av8 av9 av_ VX awa:Value}
  {awb awc:Option Addr} {awd:Array (Option Value)} {awe awf awg awh VY awi:Value}
  {awj awk:Option Addr} {awl:Array (Option Value)} {awm awn awo awp VZ awq:Value}
  {awr aws:Option Addr} {awt:Array (Option Value)} {awu awv aww awx V0 awy:Value}
  {awz awA:Option Addr} {awB:Array (Option Value)} {awC awD awE awF V1 awG:Value}
  {awH awI:Option Addr} {awJ:Array (Option Value)} {awK awL awM awN V2 awO:Value}
  {awP awQ:Option Addr} {awR:Array (Option Value)} {awS awT awU awV V3 awW:Value}
  {awX V4:Option Addr} {awY:Array (Option Value)} {awZ V5 V6 V7 E7 V8:Value}
  {aw0:Tok}
  (E8:PySem.W.nsIn K mainGlobals "Stock"=some (some (.ref aS)))
  (E9:plainGet K aS Str.empty=true)
  (E_:hasDictIn K aS=true)
  (Fb:plainOver K aS=true)
  (Fc:PySem.W.findIn K (.ref aS) "__setattr__"=some (some (.builtin "object.__setattr__")))
  (Fd:makesIn K aS=true)
  (Fe:keepIn K (.ref aS)=true)
  (Ff:PySem.W.findIn K (.ref aS) "texts"=some none)
  (Fg:PySem.W.findIn K (.ref aS) "begins"=some none)
  (Fh:PySem.W.findIn K (.ref aS) "feeds"=some none)
  (Fi:PySem.W.findIn K (.ref aS) "signs"=some none)
  (yJ:PySem.W.nsIn K mainGlobals "Paper"=some (some (.ref aL)))
  (Fj:plainGet K aL Str.empty=true)
  (Fl:hasDictIn K aL=true)
  (Fm:plainOver K aL=true)
  (Fn:PySem.W.findIn K (.ref aL) "__setattr__"=some (some (.builtin "object.__setattr__")))
  (Fo:makesIn K aL=true)
  (Fp:keepIn K (.ref aL)=true)
  (Fq:PySem.W.findIn K (.ref aL) "stock"=some none)
  (Fs:PySem.W.findIn K (.ref aL) "node"=some none)
  (Ft:PySem.W.nsIn K mainGlobals "InkError"=some (some (.ref dQ)))
  (yK:PySem.W.nsIn K mainGlobals "BadText"=some (some (.ref bT)))
  (yL:PySem.W.nsIn K mainGlobals "BadChange"=some (some (.ref bR)))
  (yM:PySem.W.nsIn K mainGlobals "BadFit"=some (some (.ref bX)))
  (yN:PySem.W.nsIn K mainGlobals "NoPlace"=some (some (.ref bJ)))
  (Fu:PySem.W.nsIn K mainGlobals "BadSide"=some (some (.ref fN)))
  (Fv:PySem.W.nsIn K mainGlobals "NoMark"=some (some (.ref fO)))
  (Fw:PySem.W.nsIn K mainGlobals "NoNode"=some (some (.ref fP)))
  (Fx:PySem.W.nsIn K mainGlobals "NoCursor"=some (some (.ref fQ)))
  (Fy:PySem.W.nsIn K mainGlobals "BadDeed"=some (some (.ref fR)))
  (Fz:PySem.W.nsIn K mainGlobals "BadLetter"=some (some (.ref fS)))
  (FA:PySem.W.nsIn K mainGlobals "NoLetter"=some (some (.ref fU)))
  (FC:PySem.W.nsIn K mainGlobals "NoHand"=some (some (.ref fV)))
  (FD:PySem.W.nsIn K mainGlobals "NoNote"=some (some (.ref fW)))
  (FE:PySem.W.excIn K bT [.type "ValueError", .type "Exception", .type "BaseException", .type "object"] "ValueError.__new__"=true)
  (FF:PySem.W.excIn K bR [.type "ValueError", .type "Exception", .type "BaseException", .type "object"] "ValueError.__new__"=true)
  (FG:PySem.W.excIn K bX [.type "ValueError", .type "Exception", .type "BaseException", .type "object"] "ValueError.__new__"=true)
  (FH:PySem.W.excIn K bJ [.type "ValueError", .type "Exception", .type "BaseException", .type "object"] "ValueError.__new__"=true)
  (FI:PySem.W.findIn K (.ref bT) "__getattribute__"=some (some (.builtin "BaseException.__getattribute__")))
  (FJ:PySem.W.findIn K (.ref bT) "__getattr__"=some none)
  (FK:(PySem.W.clsIn K bT).isSome=true)
  (FL:PySem.W.findIn K (.ref bT) "__class__"=some (some (.builtin "object.__class__")))
  (FN:PySem.W.mroIn K bT (.type "object")=some true)
  (FO:PySem.W.mroIn K bT (.type "BaseException")=some true)
  (FP:kitOne K (.ref bT) (.ref bT)=some true)
  (FQ:kitOne K (.ref bT) (.ref bR)=some false)
  (FR:kitOne K (.ref bT) (.ref bX)=some false)
  (FT:kitOne K (.ref bT) (.ref bJ)=some false)
  (FU:kitOne K (.ref bT) (.ref fN)=some false)
  (FV:kitOne K (.ref bT) (.ref fO)=some false)
  (FW:kitOne K (.ref bT) (.ref fP)=some false)
  (FX:kitOne K (.ref bT) (.ref fQ)=some false)
  (FY:kitOne K (.ref bT) (.ref fR)=some false)
  (FZ:kitOne K (.ref bT) (.ref fS)=some false)
  (F_:kitOne K (.ref bT) (.ref fU)=some false)
  (Ga:kitOne K (.ref bT) (.ref fV)=some false)
  (Gb:kitOne K (.ref bT) (.ref fW)=some false)
  (Ge:kitOne K (.ref bT) (.ref dQ)=some true)
  (Gf:kitOne K (.ref bT) (.type "ValueError")=some true)
  (Gg:exmOne K (.ref bT) (.ref dQ)=some true)
  (Gh:PySem.W.findIn K (.ref bR) "__getattribute__"=some (some (.builtin "BaseException.__getattribute__")))
  (Gi:PySem.W.findIn K (.ref bR) "__getattr__"=some none)
  (Gj:(PySem.W.clsIn K bR).isSome=true)
  (Gk:PySem.W.findIn K (.ref bR) "__class__"=some (some (.builtin "object.__class__")))
  (Gm:PySem.W.mroIn K bR (.type "object")=some true)
  (Gn:PySem.W.mroIn K bR (.type "BaseException")=some true)
  (Gp:kitOne K (.ref bR) (.ref bT)=some false)
  (Gq:kitOne K (.ref bR) (.ref bR)=some true)
  (Gr:kitOne K (.ref bR) (.ref bX)=some false)
  (Gs:kitOne K (.ref bR) (.ref bJ)=some false)
  (Gu:kitOne K (.ref bR) (.ref fN)=some false)
  (Gv:kitOne K (.ref bR) (.ref fO)=some false)
  (Gw:kitOne K (.ref bR) (.ref fP)=some false)
  (Gx:kitOne K (.ref bR) (.ref fQ)=some false)
  (Gy:kitOne K (.ref bR) (.ref fR)=some false)
  (Gz:kitOne K (.ref bR) (.ref fS)=some false)
  (GA:kitOne K (.ref bR) (.ref fU)=some false)
  (GB:kitOne K (.ref bR) (.ref fV)=some false)
  (GC:kitOne K (.ref bR) (.ref fW)=some false)
  (GD:kitOne K (.ref bR) (.ref dQ)=some true)
  (GF:kitOne K (.ref bR) (.type "ValueError")=some true)
  (GG:exmOne K (.ref bR) (.ref dQ)=some true)
  (GH:PySem.W.findIn K (.ref bX) "__getattribute__"=some (some (.builtin "BaseException.__getattribute__")))
  (GI:PySem.W.findIn K (.ref bX) "__getattr__"=some none)
  (GJ:(PySem.W.clsIn K bX).isSome=true)
  (GK:PySem.W.findIn K (.ref bX) "__class__"=some (some (.builtin "object.__class__")))
  (GN:PySem.W.mroIn K bX (.type "object")=some true)
  (GO:PySem.W.mroIn K bX (.type "BaseException")=some true)
  (GP:kitOne K (.ref bX) (.ref bT)=some false)
  (GQ:kitOne K (.ref bX) (.ref bR)=some false)
  (GR:kitOne K (.ref bX) (.ref bX)=some true)
  (GS:kitOne K (.ref bX) (.ref bJ)=some false)
  (GV:kitOne K (.ref bX) (.ref fN)=some false)
  (GW:kitOne K (.ref bX) (.ref fO)=some false)
  (GX:kitOne K (.ref bX) (.ref fP)=some false)
  (GY:kitOne K (.ref bX) (.ref fQ)=some false)
  (GZ:kitOne K (.ref bX) (.ref fR)=some false)
  (G0:kitOne K (.ref bX) (.ref fS)=some false)
  (G1:kitOne K (.ref bX) (.ref fU)=some false)
  (G3:kitOne K (.ref bX) (.ref fV)=some false)
  (G4:kitOne K (.ref bX) (.ref fW)=some false)
  (G5:kitOne K (.ref bX) (.ref dQ)=some true)
  (G6:kitOne K (.ref bX) (.type "ValueError")=some true)
  (G7:exmOne K (.ref bX) (.ref dQ)=some true)
  (G8:PySem.W.findIn K (.ref bJ) "__getattribute__"=some (some (.builtin "BaseException.__getattribute__")))
  (G9:PySem.W.findIn K (.ref bJ) "__getattr__"=some none)
  (G_:(PySem.W.clsIn K bJ).isSome=true)
  (Ha:PySem.W.findIn K (.ref bJ) "__class__"=some (some (.builtin "object.__class__")))
  (Hb:PySem.W.mroIn K bJ (.type "object")=some true)
  (Hc:PySem.W.mroIn K bJ (.type "BaseException")=some true)
  (He:kitOne K (.ref bJ) (.ref bT)=some false)
  (Hf:kitOne K (.ref bJ) (.ref bR)=some false)
  (Hg:kitOne K (.ref bJ) (.ref bX)=some false)
  (Hh:kitOne K (.ref bJ) (.ref bJ)=some true)
  (Hi:kitOne K (.ref bJ) (.ref fN)=some false)
  (Hj:kitOne K (.ref bJ) (.ref fO)=some false)
  (Hk:kitOne K (.ref bJ) (.ref fP)=some false)
  (Hl:kitOne K (.ref bJ) (.ref fQ)=some false)
  (Hm:kitOne K (.ref bJ) (.ref fR)=some false)
  (Hn:kitOne K (.ref bJ) (.ref fS)=some false)
  (Ho:kitOne K (.ref bJ) (.ref fU)=some false)
  (Hq:kitOne K (.ref bJ) (.ref fV)=some false)
  (Hr:kitOne K (.ref bJ) (.ref fW)=some false)
  (Hs:kitOne K (.ref bJ) (.ref dQ)=some true)
  (Ht:kitOne K (.ref bJ) (.type "ValueError")=some true)
  (Hu:exmOne K (.ref bJ) (.ref dQ)=some true)
  (Hv:PySem.W.findIn K (.ref aL) "__class__"=some (some (.builtin "object.__class__")))
  (Hw:PySem.W.mroIn K aL (.type "object")=some true)
  (Hx:kitOne K (.ref aL) (.ref aL)=some true)
  (e5:PySem.W.specialIn K (.builtin "object.__class__") "__get__"=some (some (.builtin "getset_descriptor.__get__")))
  (e6:PySem.W.takesIn K (.builtin "object.__class__")=some true)
  (a0:PySem.W.nsIn K mainGlobals "is_whole"=some (some (.ref f0)))
  (l0:K.lookup f0=some ⟨oc0,od0, .func (fnOf "is_whole" "is_whole" (bp nE) (aA nE) (ax nE) .none kV0 dc0 pm0 an0 U5 ct0),sl0⟩)
  (c0:codeIn K U5 "is_whole"=true)
  (k0:keepIn K (.ref f0)=true)
  (a1:PySem.W.nsIn K mainGlobals "is_between"=some (some (.ref f1)))
  (l1:K.lookup f1=some ⟨oc1,od1, .func (fnOf "is_between" "is_between" (bp nF) (aA nF) (ax nF) .none kV1 dc1 pm1 an1 U6 ct1),sl1⟩)
  (c1:codeIn K U6 "is_between"=true)
  (k1:keepIn K (.ref f1)=true)
  (a2:PySem.W.nsIn K mainGlobals "is_word"=some (some (.ref f2)))
  (l2:K.lookup f2=some ⟨oc2,od2, .func (fnOf "is_word" "is_word" (bp nG) (aA nG) (ax nG) .none kV2 dc2 pm2 an2 U7 ct2),mK⟩)
  (c2:codeIn K U7 "is_word"=true)
  (k2:keepIn K (.ref f2)=true)
  (a3:PySem.W.nsIn K mainGlobals "is_text"=some (some (.ref f3)))
  (l3:K.lookup f3=some ⟨oc3,od3, .func (fnOf "is_text" "is_text" (bp nH) (aA nH) (ax nH) .none kV3 dc3 pm3 an3 U8 ct3),sT⟩)
  (c3:codeIn K U8 "is_text"=true)
  (k3:keepIn K (.ref f3)=true)
  (a4:PySem.W.nsIn K mainGlobals "need_text"=some (some (.ref f4)))
  (l4:K.lookup f4=some ⟨oc4,od4, .func (fnOf "need_text" "need_text" (bp nI) (aA nI) (ax nI) .none kV4 dc4 pm4 an4 U9 ct4),sl4⟩)
  (c4:codeIn K U9 "need_text"=true)
  (k4:keepIn K (.ref f4)=true)
  (a5:PySem.W.nsIn K mainGlobals "is_part"=some (some (.ref f5)))
  (l5:K.lookup f5=some ⟨oc5,od5, .func (fnOf "is_part" "is_part" (bp nJ) (aA nJ) (ax nJ) .none kV5 dc5 pm5 an5 U_ ct5),sl5⟩)
  (c5:codeIn K U_ "is_part"=true)
  (k5:keepIn K (.ref f5)=true)
  (a6:PySem.W.nsIn K mainGlobals "may_follow"=some (some (.ref f6)))
  (l6:K.lookup f6=some ⟨oc6,od6, .func (fnOf "may_follow" "may_follow" (bp nK) (aA nK) (ax nK) .none kV6 dc6 pm6 an6 Va ct6),sl6⟩)
  (c6:codeIn K Va "may_follow"=true)
  (k6:keepIn K (.ref f6)=true)
  (a7:PySem.W.nsIn K mainGlobals "need_change"=some (some (.ref f7)))
  (l7:K.lookup f7=some ⟨oc7,od7, .func (fnOf "need_change" "need_change" (bp nM) (aA nM) (ax nM) .none kV7 dc7 pm7 an7 Vb ct7),sl7⟩)
  (c7:codeIn K Vb "need_change"=true)
  (k7:keepIn K (.ref f7)=true)
  (a8:PySem.W.nsIn K mainGlobals "part_size"=some (some (.ref f8)))
  (l8:K.lookup f8=some ⟨oc8,od8, .func (fnOf "part_size" "part_size" (bp nN) (aA nN) (ax nN) .none kV8 dc8 pm8 an8 Vc ct8),sl8⟩)
  (c8:codeIn K Vc "part_size"=true)
  (k8:keepIn K (.ref f8)=true)
  (a9:PySem.W.nsIn K mainGlobals "sizes"=some (some (.ref f9)))
  (l9:K.lookup f9=some ⟨oc9,od9, .func (fnOf "sizes" "sizes" (bp nO) (aA nO) (ax nO) .none kV9 dc9 pm9 an9 Vd ct9),sl9⟩)
  (c9:codeIn K Vd "sizes"=true)
  (k9:keepIn K (.ref f9)=true)
  (Hy:PySem.W.nsIn K mainGlobals "height_of"=some (some (.ref Et)))
  (Hz:K.lookup Et=some ⟨aqe,aqb, .func (fnOf "height_of" "height_of" (bp nP) (aA nP) (ax nP) .none aqf aqg aqh aqc Ve aqi),aqd⟩)
  (gU:codeIn K Ve "height_of"=true)
  (t6:keepIn K (.ref Et)=true)
  (HA:PySem.W.nsIn K mainGlobals "size_of"=some (some (.ref Eu)))
  (HB:K.lookup Eu=some ⟨aqm,aqj, .func (fnOf "size_of" "size_of" (bp nQ) (aA nQ) (ax nQ) .none aqn aqo aqp aqk Vf aqq),aql⟩)
  (gW:codeIn K Vf "size_of"=true)
  (t9:keepIn K (.ref Eu)=true)
  (HC:PySem.W.nsIn K mainGlobals "ends_of"=some (some (.ref Ew)))
  (HD:K.lookup Ew=some ⟨aqu,aqr, .func (fnOf "ends_of" "ends_of" (bp nR) (aA nR) (ax nR) .none aqv aqw aqx aqs Vg aqy),aqt⟩)
  (gX:codeIn K Vg "ends_of"=true)
  (lR:keepIn K (.ref Ew)=true)
  (HE:PySem.W.nsIn K mainGlobals "made"=some (some (.ref Ex)))
  (HF:K.lookup Ex=some ⟨aqC,aqz, .func (fnOf "made" "made" (bp nS) (aA nS) (ax nS) .none aqD aqE aqF aqA Vh aqG),aqB⟩)
  (HG:codeIn K Vh "made"=true)
  (HH:keepIn K (.ref Ex)=true)
  (HI:PySem.W.nsIn K mainGlobals "turned_right"=some (some (.ref Ey)))
  (HJ:K.lookup Ey=some ⟨aqK,aqH, .func (fnOf "turned_right" "turned_right" (bp nT) (aA nT) (ax nT) .none aqL aqM aqN aqI Vi aqO),aqJ⟩)
  (HK:codeIn K Vi "turned_right"=true)
  (HL:keepIn K (.ref Ey)=true)
  (HM:PySem.W.nsIn K mainGlobals "turned_left"=some (some (.ref Ez)))
  (HN:K.lookup Ez=some ⟨aqS,aqP, .func (fnOf "turned_left" "turned_left" (bp nU) (aA nU) (ax nU) .none aqT aqU aqV aqQ Vj aqW),aqR⟩)
  (sU:codeIn K Vj "turned_left"=true)
  (HP:keepIn K (.ref Ez)=true)
  (HQ:PySem.W.nsIn K mainGlobals "leveled"=some (some (.ref EA)))
  (HR:K.lookup EA=some ⟨aq0,aqX, .func (fnOf "leveled" "leveled" (bp nV) (aA nV) (ax nV) .none aq1 aq2 aq3 aqY Vk aq4),aqZ⟩)
  (wq:codeIn K Vk "leveled"=true)
  (HS:keepIn K (.ref EA)=true)
  (yO:PySem.W.nsIn K mainGlobals "joined"=some (some (.ref EB)))
  (HU:K.lookup EB=some ⟨aq8,aq5, .func (fnOf "joined" "joined" (bp nW) (aA nW) (ax nW) .none aq9 aq_ ara aq6 Vl arb),aq7⟩)
  (HV:codeIn K Vl "joined"=true)
  (HW:keepIn K (.ref EB)=true)
  (yP:PySem.W.nsIn K mainGlobals "last_out"=some (some (.ref EC)))
  (HX:K.lookup EC=some ⟨arh,arc, .func (fnOf "last_out" "last_out" (bp nX) (aA nX) (ax nX) .none ari arj ark ard Vm arl),arf⟩)
  (HY:codeIn K Vm "last_out"=true)
  (HZ:keepIn K (.ref EC)=true)
  (yQ:PySem.W.nsIn K mainGlobals "first_out"=some (some (.ref ED)))
  (H9:K.lookup ED=some ⟨arq,arn, .func (fnOf "first_out" "first_out" (bp nY) (aA nY) (ax nY) .none ars art aru aro Vn arv),arp⟩)
  (H_:codeIn K Vn "first_out"=true)
  (Ia:keepIn K (.ref ED)=true)
  (Ib:PySem.W.nsIn K mainGlobals "sewn"=some (some (.ref EE)))
  (Ic:K.lookup EE=some ⟨arz,arw, .func (fnOf "sewn" "sewn" (bp nZ) (aA nZ) (ax nZ) .none arA arB arC arx Vo arD),ary⟩)
  (Ie:codeIn K Vo "sewn"=true)
  (Ig:keepIn K (.ref EE)=true)
  (Ih:PySem.W.nsIn K mainGlobals "cut_in_two"=some (some (.ref EF)))
  (Ii:K.lookup EF=some ⟨arH,arE, .func (fnOf "cut_in_two" "cut_in_two" (bp n6) (aA n6) (ax n6) .none arI arJ arK arF Vp arL),arG⟩)
  (Ij:codeIn K Vp "cut_in_two"=true)
  (Ik:keepIn K (.ref EF)=true)
  (yR:PySem.W.nsIn K mainGlobals "parted"=some (some (.ref EG)))
  (Il:K.lookup EG=some ⟨arP,arM, .func (fnOf "parted" "parted" (bp n_) (aA n_) (ax n_) .none arQ arR arS arN Vq arT),arO⟩)
  (Im:codeIn K Vq "parted"=true)
  (Io:keepIn K (.ref EG)=true)
  (yS:PySem.W.nsIn K mainGlobals "pieces_of"=some (some (.ref EH)))
  (Ip:K.lookup EH=some ⟨arX,arU, .func (fnOf "pieces_of" "pieces_of" (bp og) (aA og) (ax og) .none arY arZ ar0 arV Vr ar1),arW⟩)
  (Iq:codeIn K Vr "pieces_of"=true)
  (Ir:keepIn K (.ref EH)=true)
  (Iu:PySem.W.nsIn K mainGlobals "ends_ahead_of"=some (some (.ref EI)))
  (Iv:K.lookup EI=some ⟨ar5,ar2, .func (fnOf "ends_ahead_of" "ends_ahead_of" (bp oh) (aA oh) (ax oh) .none ar6 ar7 ar8 ar3 Vs ar9),ar4⟩)
  (Iw:codeIn K Vs "ends_ahead_of"=true)
  (Iy:keepIn K (.ref EI)=true)
  (Iz:PySem.W.nsIn K mainGlobals "place_of_end"=some (some (.ref EJ)))
  (IA:K.lookup EJ=some ⟨asd,ar_, .func (fnOf "place_of_end" "place_of_end" (bp oi) (aA oi) (ax oi) .none ase asf ash asa Vt asi),asb⟩)
  (sV:codeIn K Vt "place_of_end"=true)
  (IB:keepIn K (.ref EJ)=true)
  (IC:PySem.W.nsIn K mainGlobals "many_upto"=some (some (.ref EK)))
  (ID:K.lookup EK=some ⟨asn,asj, .func (fnOf "many_upto" "many_upto" (bp oj) (aA oj) (ax oj) .none aso asp asq asl Vu asr),asm⟩)
  (sW:codeIn K Vu "many_upto"=true)
  (IE:keepIn K (.ref EK)=true)
  (IF:PySem.W.findIn K (.ref aS) "__init__"=some (some (.ref yt)))
  (IG:isFn K (.ref yt)=true)
  (IH:K.lookup yt=some ⟨asw,ass, .func (fnOf "__init__" "Stock.__init__" (bp om) (aA om) (ax om) .none asx asy asz asu Vv asA),asv⟩)
  (II:codeIn K Vv "Stock.__init__"=true)
  (IJ:keepIn K (.ref yt)=true)
  (IL:PySem.W.findIn K (.ref aS) "put"=some (some (.ref yu)))
  (IM:isFn K (.ref yu)=true)
  (IP:K.lookup yu=some ⟨asE,asB, .func (fnOf "put" "Stock.put" (bp oo) (aA oo) (ax oo) .none asF asG asH asC Vw asI),asD⟩)
  (IQ:codeIn K Vw "Stock.put"=true)
  (yT:keepIn K (.ref yu)=true)
  (IS:PySem.W.findIn K (.ref aS) "read"=some (some (.ref yv)))
  (IT:isFn K (.ref yv)=true)
  (IU:K.lookup yv=some ⟨asM,asJ, .func (fnOf "read" "Stock.read" (bp ou) (aA ou) (ax ou) .none asN asO asP asK Vx asQ),asL⟩)
  (IV:codeIn K Vx "Stock.read"=true)
  (yU:keepIn K (.ref yv)=true)
  (IW:PySem.W.findIn K (.ref aS) "many"=some (some (.ref yw)))
  (IX:isFn K (.ref yw)=true)
  (IY:K.lookup yw=some ⟨asU,asR, .func (fnOf "many" "Stock.many" (bp ow) (aA ow) (ax ow) .none asV asW asX asS Vy asY),asT⟩)
  (IZ:codeIn K Vy "Stock.many"=true)
  (yV:keepIn K (.ref yw)=true)
  (I_:PySem.W.findIn K (.ref aS) "ends_ahead"=some (some (.ref yx)))
  (Ja:isFn K (.ref yx)=true)
  (Jb:K.lookup yx=some ⟨as3,asZ, .func (fnOf "ends_ahead" "Stock.ends_ahead" (bp oy) (aA oy) (ax oy) .none as4 as5 as6 as0 Vz as7),as2⟩)
  (Jc:codeIn K Vz "Stock.ends_ahead"=true)
  (yW:keepIn K (.ref yx)=true)
  (Jd:PySem.W.findIn K (.ref aS) "end_place"=some (some (.ref yy)))
  (Je:isFn K (.ref yy)=true)
  (Jf:K.lookup yy=some ⟨ata,as8, .func (fnOf "end_place" "Stock.end_place" (bp oz) (aA oz) (ax oz) .none atb atc atd as9 VA ate),as_⟩)
  (Jg:codeIn K VA "Stock.end_place"=true)
  (yX:keepIn K (.ref yy)=true)
  (Jh:PySem.W.nsIn K mainGlobals "node_put"=some (some (.ref EL)))
  (Ji:K.lookup EL=some ⟨ati,atf, .func (fnOf "node_put" "node_put" (bp oA) (aA oA) (ax oA) .none atj atk atl atg VB atm),ath⟩)
  (Jj:codeIn K VB "node_put"=true)
  (Jk:keepIn K (.ref EL)=true)
  (Jl:PySem.W.nsIn K mainGlobals "paper_of"=some (some (.ref EM)))
  (Jm:K.lookup EM=some ⟨atq,atn, .func (fnOf "paper_of" "paper_of" (bp oB) (aA oB) (ax oB) .none atr ats att ato VC atu),atp⟩)
  (Jo:codeIn K VC "paper_of"=true)
  (Jp:keepIn K (.ref EM)=true)
  (Jq:PySem.W.nsIn K mainGlobals "need_fit"=some (some (.ref EN)))
  (Jr:K.lookup EN=some ⟨aty,atv, .func (fnOf "need_fit" "need_fit" (bp oC) (aA oC) (ax oC) .none atz atA atB atw VD atD),atx⟩)
  (Js:codeIn K VD "need_fit"=true)
  (Jt:keepIn K (.ref EN)=true)
  (Ju:PySem.W.nsIn K mainGlobals "texts_of"=some (some (.ref EO)))
  (Jv:K.lookup EO=some ⟨atH,atE, .func (fnOf "texts_of" "texts_of" (bp oE) (aA oE) (ax oE) .none atJ atL atM atF VE atN),atG⟩)
  (Jw:codeIn K VE "texts_of"=true)
  (Jx:keepIn K (.ref EO)=true)
  (Jy:PySem.W.findIn K (.ref aL) "__init__"=some (some (.ref yz)))
  (Jz:isFn K (.ref yz)=true)
  (JA:K.lookup yz=some ⟨atR,atO, .func (fnOf "__init__" "Paper.__init__" (bp oF) (aA oF) (ax oF) .none atU atV atW atP VF atX),atQ⟩)
  (JB:codeIn K VF "Paper.__init__"=true)
  (JC:keepIn K (.ref yz)=true)
  (JD:PySem.W.findIn K (.ref aL) "size"=some (some (.ref yA)))
  (JE:isFn K (.ref yA)=true)
  (JF:K.lookup yA=some ⟨at1,atY, .func (fnOf "size" "Paper.size" (bp oG) (aA oG) (ax oG) .none at3 at4 at5 atZ VG at6),at0⟩)
  (JG:codeIn K VG "Paper.size"=true)
  (yY:keepIn K (.ref yA)=true)
  (JH:PySem.W.findIn K (.ref aL) "lines"=some (some (.ref yB)))
  (JI:isFn K (.ref yB)=true)
  (JJ:K.lookup yB=some ⟨aua,at7, .func (fnOf "lines" "Paper.lines" (bp oH) (aA oH) (ax oH) .none aub auc aud at8 VH aue),at9⟩)
  (JK:codeIn K VH "Paper.lines"=true)
  (yZ:keepIn K (.ref yB)=true)
  (JL:PySem.W.findIn K (.ref aL) "text"=some (some (.ref yC)))
  (JM:isFn K (.ref yC)=true)
  (JN:K.lookup yC=some ⟨auj,auf, .func (fnOf "text" "Paper.text" (bp oI) (aA oI) (ax oI) .none auk aul aum auh VI aun),aui⟩)
  (JO:codeIn K VI "Paper.text"=true)
  (y0:keepIn K (.ref yC)=true)
  (JP:PySem.W.findIn K (.ref aL) "part"=some (some (.ref yD)))
  (JQ:isFn K (.ref yD)=true)
  (JR:K.lookup yD=some ⟨aur,auo, .func (fnOf "part" "Paper.part" (bp oJ) (aA oJ) (ax oJ) .none aus aut auu aup VJ auv),auq⟩)
  (JS:codeIn K VJ "Paper.part"=true)
  (y2:keepIn K (.ref yD)=true)
  (JT:PySem.W.findIn K (.ref aL) "changed"=some (some (.ref yE)))
  (JU:isFn K (.ref yE)=true)
  (JV:K.lookup yE=some ⟨auA,auw, .func (fnOf "changed" "Paper.changed" (bp oK) (aA oK) (ax oK) .none auB auC auD auy VL auE),auz⟩)
  (JW:codeIn K VL "Paper.changed"=true)
  (y6:keepIn K (.ref yE)=true)
  (JX:PySem.W.findIn K (.ref aL) "line_begin"=some (some (.ref yF)))
  (JY:isFn K (.ref yF)=true)
  (JZ:K.lookup yF=some ⟨auI,auF, .func (fnOf "line_begin" "Paper.line_begin" (bp oM) (aA oM) (ax oM) .none auJ auK auL auG VM auM),auH⟩)
  (J0:codeIn K VM "Paper.line_begin"=true)
  (y7:keepIn K (.ref yF)=true)
  (J3:PySem.W.findIn K (.ref aL) "line_size"=some (some (.ref yG)))
  (J4:isFn K (.ref yG)=true)
  (J5:K.lookup yG=some ⟨auQ,auN, .func (fnOf "line_size" "Paper.line_size" (bp oN) (aA oN) (ax oN) .none auR auS auT auO VN auU),auP⟩)
  (J6:codeIn K VN "Paper.line_size"=true)
  (y_:keepIn K (.ref yG)=true)
  (J7:PySem.W.findIn K (.ref aL) "line_at"=some (some (.ref yH)))
  (J8:isFn K (.ref yH)=true)
  (J9:K.lookup yH=some ⟨auY,auV, .func (fnOf "line_at" "Paper.line_at" (bp oO) (aA oO) (ax oO) .none auZ au0 au1 auW VO au2),auX⟩)
  (J_:codeIn K VO "Paper.line_at"=true)
  (za:keepIn K (.ref yH)=true)
  (Ka:PySem.W.findIn K (.ref aL) "place_at"=some (some (.ref yI)))
  (Kb:isFn K (.ref yI)=true)
  (Kc:K.lookup yI=some ⟨au6,au3, .func (fnOf "place_at" "Paper.place_at" (bp oP) (aA oP) (ax oP) .none au7 au8 au9 au4 VP au_),au5⟩)
  (Kd:codeIn K VP "Paper.place_at"=true)
  (zb:keepIn K (.ref yI)=true)
  (Ke:PySem.W.nsIn K mainGlobals "_law_cell_at"=some (some (.ref ER)))
  (Kf:K.lookup ER=some ⟨avd,ava, .func (fnOf "_law_cell_at" "_law_cell_at" (bp oQ) (aA oQ) (ax oQ) .none ave avf avg avb VQ avh),avc⟩)
  (Kg:codeIn K VQ "_law_cell_at"=true)
  (Kh:keepIn K (.ref ER)=true)
  (Ki:PySem.W.nsIn K mainGlobals "_law_whole"=some (some (.ref ES)))
  (Kj:K.lookup ES=some ⟨avl,avi, .func (fnOf "_law_whole" "_law_whole" (bp oR) (aA oR) (ax oR) .none avm avn avo avj VR avp),avk⟩)
  (Kk:codeIn K VR "_law_whole"=true)
  (Kl:keepIn K (.ref ES)=true)
  (Km:PySem.W.nsIn K mainGlobals "_law_mixed"=some (some (.ref ET)))
  (Kn:K.lookup ET=some ⟨avt,avq, .func (fnOf "_law_mixed" "_law_mixed" (bp oS) (aA oS) (ax oS) .none avu avv avw avr VS avx),avs⟩)
  (Ko:codeIn K VS "_law_mixed"=true)
  (Kq:keepIn K (.ref ET)=true)
  (Kr:PySem.W.nsIn K mainGlobals "_law_text_by"=some (some (.ref EU)))
  (Ks:K.lookup EU=some ⟨avB,avy, .func (fnOf "_law_text_by" "_law_text_by" (bp oT) (aA oT) (ax oT) .none avC avD avE avz VT avF),avA⟩)
  (Kt:codeIn K VT "_law_text_by"=true)
  (Ku:keepIn K (.ref EU)=true)
  (Kv:PySem.W.nsIn K mainGlobals "_law_neat"=some (some (.ref EV)))
  (Kw:K.lookup EV=some ⟨avJ,avG, .func (fnOf "_law_neat" "_law_neat" (bp oU) (aA oU) (ax oU) .none avK avL avM avH VU avN),avI⟩)
  (Kx:codeIn K VU "_law_neat"=true)
  (Ky:keepIn K (.ref EV)=true)
  (Kz:PySem.W.nsIn K mainGlobals "_law_change_by"=some (some (.ref EW)))
  (KA:K.lookup EW=some ⟨avR,avO, .func (fnOf "_law_change_by" "_law_change_by" (bp cX) (aA cX) (ax cX) .none avS avT avU avP VV avV),avQ⟩)
  (KC:codeIn K VV "_law_change_by"=true)
  (KD:keepIn K (.ref EW)=true)
  (KG:PySem.W.nsIn K mainGlobals "_law_done"=some (some (.ref EX)))
  (KH:K.lookup EX=some ⟨avZ,avW, .func (fnOf "_law_done" "_law_done" (bp oV) (aA oV) (ax oV) .none av0 av1 av2 avX VW av3),avY⟩)
  (KI:codeIn K VW "_law_done"=true)
  (KJ:keepIn K (.ref EX)=true)
  (KL:PySem.W.nsIn K mainGlobals "_law_word"=some (some (.ref EY)))
  (KN:K.lookup EY=some ⟨av7,av4, .func (fnOf "_law_word" "_law_word" (bp dq) (aA dq) (ax dq) .none av8 av9 av_ av5 VX awa),av6⟩)
  (KO:codeIn K VX "_law_word"=true)
  (KP:keepIn K (.ref EY)=true)
  (KQ:PySem.W.nsIn K mainGlobals "_law_asked"=some (some (.ref EZ)))
  (KR:K.lookup EZ=some ⟨awe,awb, .func (fnOf "_law_asked" "_law_asked" (bp oX) (aA oX) (ax oX) .none awf awg awh awc VY awi),awd⟩)
  (KS:codeIn K VY "_law_asked"=true)
  (KU:keepIn K (.ref EZ)=true)
  (KW:PySem.W.nsIn K mainGlobals "_law_there"=some (some (.ref E1)))
  (KY:K.lookup E1=some ⟨awm,awj, .func (fnOf "_law_there" "_law_there" (bp oY) (aA oY) (ax oY) .none awn awo awp awk VZ awq),awl⟩)
  (KZ:codeIn K VZ "_law_there"=true)
  (K0:keepIn K (.ref E1)=true)
  (K1:PySem.W.nsIn K mainGlobals "_law_number"=some (some (.ref E2)))
  (K2:K.lookup E2=some ⟨awu,awr, .func (fnOf "_law_number" "_law_number" (bp eR) (aA eR) (ax eR) .none awv aww awx aws V0 awy),awt⟩)
  (K3:codeIn K V0 "_law_number"=true)
  (K4:keepIn K (.ref E2)=true)
  (K5:PySem.W.nsIn K mainGlobals "_law_spoilt"=some (some (.ref E3)))
  (K6:K.lookup E3=some ⟨awC,awz, .func (fnOf "_law_spoilt" "_law_spoilt" (bp dr) (aA dr) (ax dr) .none awD awE awF awA V1 awG),awB⟩)
  (K7:codeIn K V1 "_law_spoilt"=true)
  (K8:keepIn K (.ref E3)=true)
  (K9:PySem.W.nsIn K mainGlobals "_law_changed"=some (some (.ref E4)))
  (K_:K.lookup E4=some ⟨awK,awH, .func (fnOf "_law_changed" "_law_changed" (bp o5) (aA o5) (ax o5) .none awL awM awN awI V2 awO),awJ⟩)
  (La:codeIn K V2 "_law_changed"=true)
  (Lb:keepIn K (.ref E4)=true)
  (Lc:PySem.W.nsIn K mainGlobals "_law_unfit"=some (some (.ref E5)))
  (Ld:K.lookup E5=some ⟨awS,awP, .func (fnOf "_law_unfit" "_law_unfit" (bp cY) (aA cY) (ax cY) .none awT awU awV awQ V3 awW),awR⟩)
  (Le:codeIn K V3 "_law_unfit"=true)
  (Lf:keepIn K (.ref E5)=true)
  (Lg:PySem.W.nsIn K mainGlobals "law"=some (some (.ref E6)))
  (Lh:K.lookup E6=some ⟨awZ,awX, .func (fnOf "law" "law" (bp bW) (aA bW) (ax bW) .none V5 V6 V7 V4 E7 V8),awY⟩)
  (Li:codeIn K E7 "law"=true)
  (Lj:keepIn K (.ref E6)=true)
  (Lk:PySem.W.nsIn K mainGlobals "SIGNS"=some (some (Value.str SG aw0)))
  (Ll:PySem.W.nsIn K mainGlobals "ValueError"=some none)
  (Lm:PySem.W.nsIn K mainGlobals "bool"=some none)
  (Ln:PySem.W.nsIn K mainGlobals "enumerate"=some none)
  (Lo:PySem.W.nsIn K mainGlobals "int"=some none)
  (Lp:PySem.W.nsIn K mainGlobals "isinstance"=some none)
  (Lq:PySem.W.nsIn K mainGlobals "len"=some none)
  (Lr:PySem.W.nsIn K mainGlobals "list"=some none)
  (Ls:PySem.W.nsIn K mainGlobals "max"=some none)
  (Lu:PySem.W.nsIn K mainGlobals "min"=some none)
  (Lv:PySem.W.nsIn K mainGlobals "range"=some none)
  (Lw:PySem.W.nsIn K mainGlobals "str"=some none)
  (Lx:PySem.W.nsIn K mainGlobals "sum"=some none)
  (Ly:PySem.W.nsIn K mainGlobals "tuple"=some none)
  : ∃fd:FuncData,(∀(s:Shared) (v:Value),BindsTo s fd ⟨[v],[]⟩ [("_law_script",v)])∧ ∀base:Heap,K.In base→base.Ns mainGlobals mg→ck l.prog w K mg base vO 107 fa fd ["_law_script"] (fun vs H Q _=> (yq K) vs H Q E0):=by
 have e:=hfa.symm.trans (PySem.W.mg_of X G Lg)
 cases e
 have aw1:mg "ValueError"=none:=mg_none_of X G Ll
 have y_bool:mg "bool"=none:=mg_none_of X G Lm
 have aw2:mg "enumerate"=none:=mg_none_of X G Ln
 have zc:mg "int"=none:=mg_none_of X G Lo
 have ku:mg "isinstance"=none:=mg_none_of X G Lp
 have fX:mg "len"=none:=mg_none_of X G Lq
 have V9:mg "list"=none:=mg_none_of X G Lr
 have aw3:mg "max"=none:=mg_none_of X G Ls
 have aw4:mg "min"=none:=mg_none_of X G Lu
 have Lz:mg "range"=none:=mg_none_of X G Lv
 have LA:mg "str"=none:=mg_none_of X G Lw
 have V_:mg "sum"=none:=mg_none_of X G Lx
 have LB:mg "tuple"=none:=mg_none_of X G Ly
 have aw5:eG mg ("SIGNS", .str SG):=⟨_,PySem.W.mg_of X G Lk,⟨_,rfl⟩⟩
 have LC:eG mg ("InkError", .ref dQ):=⟨_,PySem.W.mg_of X G Ft,rfl⟩
 have aw6:eG mg ("BadText", .ref bT):=⟨_,PySem.W.mg_of X G yK,rfl⟩
 have aw7:eG mg ("BadChange", .ref bR):=⟨_,PySem.W.mg_of X G yL,rfl⟩
 have aw8:eG mg ("BadFit", .ref bX):=⟨_,PySem.W.mg_of X G yM,rfl⟩
 have aw9:eG mg ("NoPlace", .ref bJ):=⟨_,PySem.W.mg_of X G yN,rfl⟩
 have aw_:eG mg ("BadSide", .ref fN):=⟨_,PySem.W.mg_of X G Fu,rfl⟩
 have axa:eG mg ("NoMark", .ref fO):=⟨_,PySem.W.mg_of X G Fv,rfl⟩
 have axb:eG mg ("NoNode", .ref fP):=⟨_,PySem.W.mg_of X G Fw,rfl⟩
 have axc:eG mg ("NoCursor", .ref fQ):=⟨_,PySem.W.mg_of X G Fx,rfl⟩
 have axd:eG mg ("BadDeed", .ref fR):=⟨_,PySem.W.mg_of X G Fy,rfl⟩
 have axe:eG mg ("BadLetter", .ref fS):=⟨_,PySem.W.mg_of X G Fz,rfl⟩
 have axf:eG mg ("NoLetter", .ref fU):=⟨_,PySem.W.mg_of X G FA,rfl⟩
 have axg:eG mg ("NoHand", .ref fV):=⟨_,PySem.W.mg_of X G FC,rfl⟩
 have axh:eG mg ("NoNote", .ref fW):=⟨_,PySem.W.mg_of X G FD,rfl⟩
 have axi:eG mg ("Paper", .ref aL):=⟨_,PySem.W.mg_of X G yJ,rfl⟩
 have axj:eI K [bT,bR,bX,bJ,fN,fO,fP,fQ,fR,fS,fU,fV,fW] dQ bT 0:=xJ ⟨FI,FJ,FK,FL,e5,e6,FN,FO⟩ Ge Gf FP FQ FR FT FU FV FW FX FY FZ F_ Ga Gb
 have axk:eI K [bT,bR,bX,bJ,fN,fO,fP,fQ,fR,fS,fU,fV,fW] dQ bR 1:=xJ ⟨Gh,Gi,Gj,Gk,e5,e6,Gm,Gn⟩ GD GF Gp Gq Gr Gs Gu Gv Gw Gx Gy Gz GA GB GC
 have axl:eI K [bT,bR,bX,bJ,fN,fO,fP,fQ,fR,fS,fU,fV,fW] dQ bX 2:=xJ ⟨GH,GI,GJ,GK,e5,e6,GN,GO⟩ G5 G6 GP GQ GR GS GV GW GX GY GZ G0 G1 G3 G4
 have axm:eI K [bT,bR,bX,bJ,fN,fO,fP,fQ,fR,fS,fU,fV,fW] dQ bJ 3:=xJ ⟨G8,G9,G_,Ha,e5,e6,Hb,Hc⟩ Hs Ht He Hf Hg Hh Hi Hj Hk Hl Hm Hn Ho Hq Hr
 have i8:nq K aS:=⟨⟨E9,E_,Fb,Fc⟩,Ff,Fg,Fh,Fi⟩
 have dR:fc K aL:=⟨⟨Fj,Fl,Fm,Fn⟩,Fq,Fs⟩
 have axn:tM K aL:=⟨dR.cl,Hv,e5,e6,Hw,Hx⟩
 refine⟨fnOf "law" "law" (bp bW) (aA bW) (ax bW) .none V5 V6 V7 V4 E7 V8,fun s v=> .of_eq rfl,fun base X2 G2=> ?_⟩
 have axo:qD mg base ("BadText",bT):=xI X2 G2 yK FE
 have Wa:qD mg base ("BadChange",bR):=xI X2 G2 yL FF
 have Wb:qD mg base ("BadFit",bX):=xI X2 G2 yM FG
 have kx:qD mg base ("NoPlace",bJ):=xI X2 G2 yN FH
 have F0:=bE (st:=nE) l0 c0 k0
 have B0:=dw (ps:=Pu) F0 rfl fun _ _ _ _ _ _ _=>rfl
 have T0:bM l.prog w K mg base 1 "is_whole" (eT):=⟨_,_,_,(br (k:=0) F0 ahZ [] [] Pw [] [] [] [] Bn ah0 af af (ay ku (ay zc (ay y_bool af))) [] af af af af af (by rintro vs H Q E ⟨_,rfl,_⟩;rfl) Sx),PySem.W.mg_of X G a0,F0.kp,B0⟩
 have F1:=bE (st:=nF) l1 c1 k1
 have B1:=gp (ps:=PV) F1 rfl fun _ _ _ _ _ _ _ _ _=>rfl
 have T1:bM l.prog w K mg base 2 "is_between" (cp):=⟨_,_,_,(br (k:=1) F1 ah1 [("is_whole",eT)] [] PX [] [] [] [] Bz ah2 (ay (T0.mono (by omega)) af) af af [] af af af af af (by rintro vs H Q E ⟨_,_,_,rfl,_⟩;rfl) alk),PySem.W.mg_of X G a1,F1.kp,B1⟩
 have F2:=bE (st:=nG) l2 c2 k2
 have B2:=dy (ps:=Px) F2 rfl fun _ _ _ _ _ _ _ _=>rfl
 have T2:bM l.prog w K mg base 1 "is_word" (xy K):=⟨_,_,_,(br (k:=0) F2 ah3 [] [] Py [] [] [] [] wI ah4 af af (ay ku (ay LA af)) [] af af af af af (by rintro vs H Q E ⟨_,_,_,rfl,_⟩;rfl) ak9),PySem.W.mg_of X G a2,F2.kp,B2⟩
 have F3:=bE (st:=nH) l3 c3 k3
 have B3:=dw (ps:=Pz) F3 rfl fun _ _ _ _ _ _ _=>rfl
 have T3:bM l.prog w K mg base 1 "is_text" (qZ):=⟨_,_,_,(br (k:=0) F3 ah5 [] [("SIGNS", .str SG)] PB [] [] [] [] wK ah6 af (ay aw5 af) (ay ku (ay LA af)) [] af af af af af (by rintro vs H Q E ⟨_,rfl,_⟩;rfl) ak6),PySem.W.mg_of X G a3,F3.kp,B3⟩
 have F4:=bE (st:=nI) l4 c4 k4
 have B4:=dw (ps:=PC) F4 rfl fun _ _ _ _ _ _ _=>rfl
 have T4:bM l.prog w K mg base 2 "need_text" (jC bT):=⟨_,_,_,(br (k:=1) F4 ah7 [("is_text",qZ)] [] PD [] [] [("BadText",bT)] [] Bp ah8 (ay (T3.mono (by omega)) af) af af [] af af af (ay axo af) af (by rintro vs H Q E ⟨_,rfl,_⟩;rfl) ak8),PySem.W.mg_of X G a4,F4.kp,B4⟩
 have F5:=bE (st:=nJ) l5 c5 k5
 have B5:=dw (ps:=PF) F5 rfl fun _ _ _ _ _ _ _=>rfl
 have T5:bM l.prog w K mg base 2 "is_part" (tX):=⟨_,_,_,(br (k:=1) F5 ah9 [("is_word",xy K),("is_whole",eT),("is_text",qZ)] [] PH [] [] [] [] tD ah_ (ay (T2.mono (by omega)) (ay (T0.mono (by omega)) (ay (T3.mono (by omega)) af))) af (ay ku (ay LB (ay fX af))) [] af af af af af (by rintro vs H Q E ⟨_,rfl,_⟩;rfl) ak_),PySem.W.mg_of X G a5,F5.kp,B5⟩
 have F6:=bE (st:=nK) l6 c6 k6
 have B6:=dy (ps:=PJ) F6 rfl fun _ _ _ _ _ _ _ _=>rfl
 have T6:bM l.prog w K mg base 1 "may_follow" (qU):=⟨_,_,_,(br (k:=0) F6 aia [] [] PK [] [] [] [] Br aib af af af [] af af af af af (by rintro vs H Q E ⟨_,_,rfl,_⟩;rfl) akG),PySem.W.mg_of X G a6,F6.kp,B6⟩
 have F7:=bE (st:=nM) l7 c7 k7
 have B7:=dw (ps:=PL) F7 rfl fun _ _ _ _ _ _ _=>rfl
 have T7:bM l.prog w K mg base 3 "need_change" (cB (xq) (tY bR)):=⟨_,_,_,(ck.or (br (k:=2) F7 Rr [("is_part",Dm),("may_follow",qU)] [] Bs [] [] [("BadChange",bR)] [] tE Ru (ay ((T5.weak fun _ _ _ _ h=>alb h).mono (by omega)) (ay (T6.mono (by omega)) af)) af (ay ku (ay V9 af)) [] af af af (ay Wa af) af (by rintro vs H Q E ⟨_,_,_,rfl,_⟩;rfl) akN) (br (k:=2) F7 Rr [("is_part",tX),("may_follow",qU)] [] Bs [] [] [("BadChange",bR)] [] tE Ru (ay (T5.mono (by omega)) (ay (T6.mono (by omega)) af)) af (ay ku (ay V9 af)) [] af af af (ay Wa af) af (by rintro vs H Q E ⟨_,rfl,_⟩;rfl) ald)),PySem.W.mg_of X G a7,F7.kp,B7⟩
 have F8:=bE (st:=nN) l8 c8 k8
 have B8:=dw (ps:=PM) F8 rfl fun _ _ _ _ _ _ _=>rfl
 have T8:bM l.prog w K mg base 1 "part_size" (d5):=⟨_,_,_,(br (k:=0) F8 aic [] [] PN [] [] [] [] Bu aid af af (ay fX af) [] af af af af af (by rintro vs H Q E ⟨_,_,rfl,_⟩;rfl) akH),PySem.W.mg_of X G a8,F8.kp,B8⟩
 have F9:=bE (st:=nO) l9 c9 k9
 have B9:=dw (ps:=PQ) F9 rfl fun _ _ _ _ _ _ _=>rfl
 have T9:bM l.prog w K mg base 4 "sizes" (cB (ka) (q9 bR)):=⟨_,_,_,(ck.or (br (k:=3) F9 Rv [("need_change",xq),("part_size",d5)] [] Bv [] [] [] [] tF Rw (ay ((T7.weak fun _ _ _ _ h=> (.inl h)).mono (by omega)) (ay (T8.mono (by omega)) af)) af (ay V_ af) [] af af af af af (by rintro vs H Q E ⟨_,_,_,rfl,_⟩;rfl) akQ) (br (k:=3) F9 Rv [("need_change",tY bR),("part_size",d5)] [] Bv [] [] [] [] tF Rw (ay ((T7.weak fun _ _ _ _ h=> (.inr h)).mono (by omega)) (ay (T8.mono (by omega)) af)) af (ay V_ af) [] af af af af af (by rintro vs H Q E ⟨_,rfl,_⟩;rfl) alf)),PySem.W.mg_of X G a9,F9.kp,B9⟩
 have LD:=bE (st:=nP) Hz gU t6
 have B10:=dw (ps:=Qc) LD rfl fun _ _ _ _ _ _ _=>rfl
 have u_:bM l.prog w K mg base 1 "height_of" (N.iW):=⟨_,_,_,(br (k:=0) LD aie [] [] Qd [] [] [] [] BL aif af af af [] af af af af af (by rintro vs H Q E ⟨_,_,rfl,_⟩;rfl) N.alM),PySem.W.mg_of X G Hy,LD.kp,B10⟩
 have LF:=bE (st:=nQ) HB gW t9
 have B11:=dw (ps:=Qe) LF rfl fun _ _ _ _ _ _ _=>rfl
 have vd:bM l.prog w K mg base 1 "size_of" (N.eY):=⟨_,_,_,(br (k:=0) LF aih [] [] Qf [] [] [] [] BN aii af af af [] af af af af af (by rintro vs H Q E ⟨_,_,rfl,_⟩;rfl) N.alN),PySem.W.mg_of X G HA,LF.kp,B11⟩
 have LG:=bE (st:=nR) HD gX lR
 have B12:=dw (ps:=Qg) LG rfl fun _ _ _ _ _ _ _=>rfl
 have zd:bM l.prog w K mg base 1 "ends_of" (N.fj):=⟨_,_,_,(br (k:=0) LG aij [] [] Qh [] [] [] [] BP aik af af af [] af af af af af (by rintro vs H Q E ⟨_,_,rfl,_⟩;rfl) N.alO),PySem.W.mg_of X G HC,LG.kp,B12⟩
 have LH:=bE (st:=nS) HF HG HH
 have B13:=gp (ps:=Qi) LH rfl fun _ _ _ _ _ _ _ _ _=>rfl
 have ze:bM l.prog w K mg base 2 "made" (N.ki):=⟨_,_,_,(br (k:=1) LH ail [("height_of",N.iW),("size_of",N.eY),("ends_of",N.fj)] [] Qj [] [] [] [] BR aim (ay (u_.mono (by omega)) (ay (vd.mono (by omega)) (ay (zd.mono (by omega)) af))) af (ay aw3 af) [] af af af af af (by rintro vs H Q E ⟨_,_,_,_,_,_,_,_,rfl,_⟩;rfl) N.alQ),PySem.W.mg_of X G HE,LH.kp,B13⟩
 have LJ:=bE (st:=nT) HJ HK HL
 have B14:=gp (ps:=Qk) LJ rfl fun _ _ _ _ _ _ _ _ _=>rfl
 have T14:bM l.prog w K mg base 3 "turned_right" (N.xS):=⟨_,_,_,(br (k:=2) LJ ain [("height_of",N.iW),("made",N.ki)] [] Ql [] [] [] [] BU aio (ay (u_.mono (by omega)) (ay (ze.mono (by omega)) af)) af af [] af af af af af (by rintro vs H Q E ⟨_,_,_,_,_,_,_,_,rfl,_⟩;rfl) N.alR),PySem.W.mg_of X G HI,LJ.kp,B14⟩
 have LK:=bE (st:=nU) HN sU HP
 have B15:=gp (ps:=Qm) LK rfl fun _ _ _ _ _ _ _ _ _=>rfl
 have T15:bM l.prog w K mg base 3 "turned_left" (N.xU):=⟨_,_,_,(br (k:=2) LK aip [("height_of",N.iW),("made",N.ki)] [] Qn [] [] [] [] BW aiq (ay (u_.mono (by omega)) (ay (ze.mono (by omega)) af)) af af [] af af af af af (by rintro vs H Q E ⟨_,_,_,_,_,_,_,_,rfl,_⟩;rfl) N.alS),PySem.W.mg_of X G HM,LK.kp,B15⟩
 have LL:=bE (st:=nV) HR wq HS
 have B16:=gp (ps:=Qo) LL rfl fun _ _ _ _ _ _ _ _ _=>rfl
 have T16:bM l.prog w K mg base 4 "leveled" (N.xW):=⟨_,_,_,(br (k:=3) LL air [("height_of",N.iW),("turned_right",N.xS),("turned_left",N.xU),("made",N.ki)] [] Qp [] [] [] [] BY ais (ay (u_.mono (by omega)) (ay (T14.mono (by omega)) (ay (T15.mono (by omega)) (ay (ze.mono (by omega)) af)))) af af [] af af af af af (by rintro vs H Q E ⟨_,_,_,_,_,_,_,_,rfl,_⟩;rfl) N.alU),PySem.W.mg_of X G HQ,LL.kp,B16⟩
 have zf:=bE (st:=nW) HU HV HW
 have Wc:=gp (ps:=Qq) zf rfl fun _ _ _ _ _ _ _ _ _=>rfl
 have R17: ∀n,bM l.prog w K mg base (4+n+1) "joined" (N.eA n):=by
  intro n
  induction n with
  | zero=>exact tq zf Rx (PySem.W.mg_of X G yO) Wc N.alW
  | succ n ih=>exact⟨_,_,_,(br (k:=4+n+1) zf Rx [("height_of",N.iW),("leveled",N.xW),("joined",N.eA n),("made",N.ki)] [] Qr [] [] [] [] B_ ait (ay (u_.mono (by omega)) (ay (T16.mono (by omega)) (ay ih (ay (ze.mono (by omega)) af)))) af af [] af af af af af (by rintro vs H Q E ⟨_,_,_,_,_,_,_,_,rfl,_⟩;rfl) (N.alY n)),PySem.W.mg_of X G yO,zf.kp,Wc⟩
 have ve:bM l.prog w K mg base 69 "joined" (N.eA 64):=R17 64
 have zg:=bE (st:=nX) HX HY HZ
 have Wd:=dw (ps:=Qs) zg rfl fun _ _ _ _ _ _ _=>rfl
 have R18: ∀n,bM l.prog w K mg base (69+n+1) "last_out" (N.lV n):=by
  intro n
  induction n with
  | zero=>exact tq zg Ry (PySem.W.mg_of X G yP) Wd N.alZ
  | succ n ih=>exact⟨_,_,_,(br (k:=69+n+1) zg Ry [("last_out",N.lV n),("joined",N.eA 64)] [] Qt [] [] [] [] Cb aiu (ay ih (ay (ve.mono (by omega)) af)) af af [] af af af af af (by rintro vs H Q E ⟨_,_,_,_,_,_,rfl,_⟩;rfl) (N.al1 n)),PySem.W.mg_of X G yP,zg.kp,Wd⟩
 have T18:bM l.prog w K mg base 102 "last_out" (N.lV 32):=R18 32
 have zh:=bE (st:=nY) H9 H_ Ia
 have We:=dw (ps:=Qu) zh rfl fun _ _ _ _ _ _ _=>rfl
 have R19: ∀n,bM l.prog w K mg base (69+n+1) "first_out" (N.lY n):=by
  intro n
  induction n with
  | zero=>exact tq zh Rz (PySem.W.mg_of X G yQ) We N.ame
  | succ n ih=>exact⟨_,_,_,(br (k:=69+n+1) zh Rz [("first_out",N.lY n),("joined",N.eA 64)] [] Qw [] [] [] [] Cd aiv (ay ih (ay (ve.mono (by omega)) af)) af af [] af af af af af (by rintro vs H Q E ⟨_,_,_,_,_,_,rfl,_⟩;rfl) (N.amg n)),PySem.W.mg_of X G yQ,zh.kp,We⟩
 have T19:bM l.prog w K mg base 102 "first_out" (N.lY 32):=R19 32
 have LM:=bE (st:=nZ) Ic Ie Ig
 have B20:=dy (ps:=Qx) LM rfl fun _ _ _ _ _ _ _ _=>rfl
 have Wf:bM l.prog w K mg base 103 "sewn" (N.lZ):=⟨_,_,_,(br (k:=102) LM aiw [("last_out",N.lV 32),("first_out",N.lY 32),("joined",N.eA 64)] [] Qy [] [] [] [] Cf aix (ay (T18.mono (by omega)) (ay (T19.mono (by omega)) (ay (ve.mono (by omega)) af))) af af [] af af af af af (by rintro vs H Q E ⟨_,_,_,_,_,rfl,_⟩;rfl) N.ami),PySem.W.mg_of X G Ib,LM.kp,B20⟩
 have LN:=bE (st:=oj) ID sW IE
 have B26:=dy (ps:=PZ) LN rfl fun _ _ _ _ _ _ _ _=>rfl
 have Wg:bM l.prog w K mg base 1 "many_upto" (pk):=⟨_,_,_,(br (k:=0) LN aiG [] [] P0 [] [] [] [] BC aiH af af (ay fX af) [] af af af af af (by rintro vs H Q E ⟨_,_,_,rfl,_⟩;rfl) ak1),PySem.W.mg_of X G IC,LN.kp,B26⟩
 have Wh:=bE (st:=oy) Jb Jc yW
 have B31:=dy (ps:=QH) Wh rfl fun _ _ _ _ _ _ _ _=>rfl
 have LO:dI l.prog w K mg base 2 ("ends_ahead",aS,N.iX aS):=⟨i8.cl,_,_,_,⟨I_,Ja,yW⟩,(br (k:=1) Wh aiQ [("many_upto",pk)] [] QI [] [] [] [] Cp aiR (ay (Wg.mono (by omega)) af) af af [] af af af af af (by rintro vs H Q E ⟨_,_,_,_,_,_,_,rfl,_⟩;rfl) (N.al7 i8)),B31⟩
 have LP:=bE (st:=n6) Ii Ij Ik
 have B21:=gp (ps:=Qz) LP rfl fun _ _ _ _ _ _ _ _ _=>rfl
 have T21:bM l.prog w K mg base 3 "cut_in_two" (N.xX aS):=⟨_,_,_,(br (k:=2) LP aiy [] [] QC [("ends_ahead",aS,N.iX aS)] [] [] [] Ci aiz af af af [] af (ay (LO.mono (by omega)) af) af af af (by rintro vs H Q E ⟨_,_,_,_,_,_,_,_,_,_,_,rfl,_⟩;rfl) N.al9),PySem.W.mg_of X G Ih,LP.kp,B21⟩
 have zj:=bE (st:=n_) Il Im Io
 have Wi:=gp (ps:=QD) zj rfl fun _ _ _ _ _ _ _ _ _=>rfl
 have R22: ∀n,bM l.prog w K mg base (69+n+1) "parted" (N.eJ aS n):=by
  intro n
  induction n with
  | zero=>exact tq zj RA (PySem.W.mg_of X G yR) Wi (N.al_ aS)
  | succ n ih=>exact⟨_,_,_,(br (k:=69+n+1) zj RA [("size_of",N.eY),("parted",N.eJ aS n),("joined",N.eA 64),("cut_in_two",N.xX aS)] [] QE [] [] [] [] Ck aiA (ay (vd.mono (by omega)) (ay ih (ay (ve.mono (by omega)) (ay (T21.mono (by omega)) af)))) af af [] af af af af af (by rintro vs H Q E ⟨_,_,_,_,_,_,_,_,_,rfl,_⟩;rfl) (N.amb n)),PySem.W.mg_of X G yR,zj.kp,Wi⟩
 have zk:bM l.prog w K mg base 102 "parted" (N.eJ aS 32):=R22 32
 have zm:=bE (st:=og) Ip Iq Ir
 have Wj:=dw (ps:=QF) zm rfl fun _ _ _ _ _ _ _=>rfl
 have R23: ∀n,bM l.prog w K mg base (0+n+1) "pieces_of" (N.kj n):=by
  intro n
  induction n with
  | zero=>exact tq zm RB (PySem.W.mg_of X G yS) Wj N.al3
  | succ n ih=>exact⟨_,_,_,(br (k:=0+n+1) zm RB [("pieces_of",N.kj n)] [] QG [] [] [] [] Cn aiB (ay ih af) af af [] af af af af af (by rintro vs H Q E ⟨_,_,rfl,_⟩;rfl) (N.al4 n)),PySem.W.mg_of X G yS,zm.kp,Wj⟩
 have T23:bM l.prog w K mg base 33 "pieces_of" (N.kj 32):=R23 32
 have LQ:=bE (st:=oh) Iv Iw Iy
 have B24:=gp (ps:=Rb) LQ rfl fun _ _ _ _ _ _ _ _ _=>rfl
 have Wk:bM l.prog w K mg base 3 "ends_ahead_of" (N.pN aS):=⟨_,_,_,(br (k:=2) LQ aiC [("size_of",N.eY),("ends_of",N.fj)] [] Rf [("ends_ahead",aS,N.iX aS)] [] [] [] CU aiD (ay (vd.mono (by omega)) (ay (zd.mono (by omega)) af)) af af [] af (ay (LO.mono (by omega)) af) af af af (by rintro vs H Q E ⟨_,_,_,_,_,_,_,_,_,rfl,_⟩;rfl) N.ano),PySem.W.mg_of X G Iu,LQ.kp,B24⟩
 have Wl:=bE (st:=oz) Jf Jg yX
 have B32:=dy (ps:=Ri) Wl rfl fun _ _ _ _ _ _ _ _=>rfl
 have T32:dI l.prog w K mg base 1 ("end_place",aS,N.uF aS):=⟨i8.cl,_,_,_,⟨Jd,Je,yX⟩,(br (k:=0) Wl aiS [] [] Rj [] [] [] [] CZ aiT af af af [] af af af af af (by rintro vs H Q E ⟨_,_,_,_,_,_,_,_,rfl,_⟩;rfl) (N.anp i8)),B32⟩
 have LR:=bE (st:=oi) IA sV IB
 have B25:=gp (ps:=Rg) LR rfl fun _ _ _ _ _ _ _ _ _=>rfl
 have LS:bM l.prog w K mg base 3 "place_of_end" (N.iZ aS):=⟨_,_,_,(br (k:=2) LR aiE [("ends_of",N.fj),("size_of",N.eY)] [] Rh [("end_place",aS,N.uF aS),("ends_ahead",aS,N.iX aS)] [] [] [] CW aiF (ay (zd.mono (by omega)) (ay (vd.mono (by omega)) af)) af af [] af (ay (T32.mono (by omega)) (ay (LO.mono (by omega)) af)) af af af (by rintro vs H Q E ⟨_,_,_,_,_,_,_,_,_,_,rfl,_⟩;rfl) N.anr),PySem.W.mg_of X G Iz,LR.kp,B25⟩
 have Wm:=bE (st:=om) IH II IJ
 have B27:=dw (ps:=P4) Wm rfl fun _ _ _ _ _ _ _=>rfl
 have Wn:qC l.prog w K mg base 2 ("Stock",aS,pw aS):=⟨0+1,_,_,_,Nat.le_refl _,⟨Fd,IF,IG,Fe⟩,(br (k:=0) Wm aiI [] [] P5 [] [] [] [] BE aiJ af af af [] af af af af af (by rintro vs H Q E ⟨_,_,rfl,_⟩;rfl) (alo i8)),PySem.W.mg_of X G E8,B27⟩
 have Wo:=bE (st:=oo) IP IQ yT
 have B28:=dy (ps:=P6) Wo rfl fun _ _ _ _ _ _ _ _=>rfl
 have T28:dI l.prog w K mg base 3 ("put",aS,uc bT aS):=⟨i8.cl,_,_,_,⟨IL,IM,yT⟩,(br (k:=2) Wo aiK [("need_text",jC bT)] [] P7 [] [] [] [] BF aiL (ay (T4.mono (by omega)) af) af (ay fX af) [] af af af af af (by rintro vs H Q E ⟨_,_,_,_,_,_,_,rfl,_⟩;rfl) (alr i8)),B28⟩
 have Wq:=bE (st:=ou) IU IV yU
 have B29:=gp (ps:=P8) Wq rfl fun _ _ _ _ _ _ _ _ _=>rfl
 have T29:dI l.prog w K mg base 3 ("read",aS,ug bJ aS):=⟨i8.cl,_,_,_,⟨IS,IT,yU⟩,(br (k:=2) Wq aiM [("is_between",cp),("many_upto",pk)] [] P9 [] [] [("NoPlace",bJ)] [] BH aiN (ay (T1.mono (by omega)) (ay (Wg.mono (by omega)) af)) af (ay fX af) [] af af af (ay kx af) af (by rintro vs H Q E ⟨_,_,_,_,_,_,_,_,rfl,_⟩;rfl) (alH i8)),B29⟩
 have Wr:=bE (st:=ow) IY IZ yV
 have B30:=dw (ps:=P_) Wr rfl fun _ _ _ _ _ _ _=>rfl
 have T30:dI l.prog w K mg base 1 ("many",aS,ub aS):=⟨i8.cl,_,_,_,⟨IW,IX,yV⟩,(br (k:=0) Wr aiO [] [] Qa [] [] [] [] BJ aiP af af af [] af af af af af (by rintro vs H Q E ⟨_,_,_,_,_,_,rfl,_⟩;rfl) (alp i8)),B30⟩
 have LU:=bE (st:=oA) Ji Jj Jk
 have B33:=dy (ps:=QJ) LU rfl fun _ _ _ _ _ _ _ _=>rfl
 have zo:bM l.prog w K mg base 70 "node_put" (N.iy aS):=⟨_,_,_,(br (k:=69) LU aiU [("joined",N.eA 64)] [] QK [("put",aS,uc bT aS)] [] [] [] Cr aiV (ay (ve.mono (by omega)) af) af (ay fX af) [] af (ay (T28.mono (by omega)) af) af af af (by rintro vs H Q E ⟨_,_,_,_,_,_,_,rfl,_⟩;rfl) N.ams),PySem.W.mg_of X G Jh,LU.kp,B33⟩
 have Ws:=bE (st:=oF) JA JB JC
 have B37:=gp (ps:=QP) Ws rfl fun _ _ _ _ _ _ _ _ _=>rfl
 have zp:qC l.prog w K mg base 2 ("Paper",aL,N.gm aL):=⟨0+1,_,_,_,Nat.le_refl _,⟨Fo,Jy,Jz,Fp⟩,(br (k:=0) Ws aiY [] [] QR [] [] [] [] Cy aiZ af af af [] af af af af af (by rintro vs H Q E ⟨_,_,_,_,rfl,_⟩;rfl) (N.amy dR)),PySem.W.mg_of X G yJ,B37⟩
 have zq:=bE (st:=oB) Jm Jo Jp
 have B34:=dw (ps:=QL) zq rfl fun _ _ _ _ _ _ _=>rfl
 have T34:bM l.prog w K mg base 71 "paper_of" (cB (N.rD aL aS) (N.rF bT)):=⟨_,_,_,(ck.or (br (k:=70) zq RC [("need_text",jC bT),("node_put",N.iy aS)] [] Cs [] [("Stock",aS,pw aS),("Paper",aL,N.gm aL)] [] [] tI RD (ay (T4.mono (by omega)) (ay (zo.mono (by omega)) af)) af af [] af af (ay (Wn.mono (by omega)) (ay (zp.mono (by omega)) af)) af af (by rintro vs H Q E ⟨_,rfl,_⟩;rfl) N.amO) (br (k:=70) zq RC [("need_text",jC bT),("node_put",N.iy aS)] [] Cs [] [("Stock",aS,pw aS),("Paper",aL,N.gm aL)] [] [] tI RD (ay (T4.mono (by omega)) (ay (zo.mono (by omega)) af)) af af [] af af (ay (Wn.mono (by omega)) (ay (zp.mono (by omega)) af)) af af (by rintro vs H Q E ⟨_,rfl,_⟩;rfl) N.anC)),PySem.W.mg_of X G Jl,zq.kp,B34⟩
 have Wt:=bE (st:=oG) JF JG yY
 have B38:=dw (ps:=QS) Wt rfl fun _ _ _ _ _ _ _=>rfl
 have mw:dI l.prog w K mg base 2 ("size",aL,N.cT aL):=⟨dR.cl,_,_,_,⟨JD,JE,yY⟩,(br (k:=1) Wt ai0 [("size_of",N.eY)] [] QU [] [] [] [] CA ai1 (ay (vd.mono (by omega)) af) af af [] af af af af af (by rintro vs H Q E ⟨_,_,_,_,_,_,rfl,_⟩;rfl) (N.amz dR)),B38⟩
 have LV:=bE (st:=oE) Jv Jw Jx
 have B36:=dy (ps:=QN) LV rfl fun _ _ _ _ _ _ _ _=>rfl
 have LW:bM l.prog w K mg base 34 "texts_of" (N.jI aS):=⟨_,_,_,(br (k:=33) LV aiW [("pieces_of",N.kj 32)] [] QO [("read",aS,ug bJ aS)] [] [] [] Cv aiX (ay (T23.mono (by omega)) af) af af [] af (ay (T29.mono (by omega)) af) af af af (by rintro vs H Q E ⟨_,_,_,_,_,_,_,_,rfl,_⟩;rfl) N.amu),PySem.W.mg_of X G Ju,LV.kp,B36⟩
 have LX:=bE (st:=oJ) JR JS y2
 have B41:=gp (ps:=QZ) LX rfl fun _ _ _ _ _ _ _ _ _=>rfl
 have LY:dI l.prog w K mg base 103 ("part",aL,cB (N.jK aL aS) (N.uK aL bJ)):=⟨dR.cl,_,_,_,⟨JP,JQ,y2⟩,(ck.or (br (k:=102) LX RH [("is_between",cp),("parted",N.eJ aS 32),("texts_of",N.jI aS)] [] CJ [("size",aL,N.cT aL)] [] [("NoPlace",bJ)] [] tK RI (ay (T1.mono (by omega)) (ay (zk.mono (by omega)) (ay (LW.mono (by omega)) af))) af af [] af (ay (mw.mono (by omega)) af) af (ay kx af) af (by rintro vs H Q E ⟨_,_,_,_,_,_,_,_,_,_,_,_,rfl,_⟩;rfl) (N.amD dR)) (br (k:=102) LX RH [("is_between",cp),("parted",N.eJ aS 32),("texts_of",N.jI aS)] [] CJ [("size",aL,N.cT aL)] [] [("NoPlace",bJ)] [] tK RI (ay (T1.mono (by omega)) (ay (zk.mono (by omega)) (ay (LW.mono (by omega)) af))) af af [] af (ay (mw.mono (by omega)) af) af (ay kx af) af (by rintro vs H Q E ⟨_,_,_,_,_,_,_,_,rfl,_⟩;rfl) N.anx)),B41⟩
 have zr:=bE (st:=oC) Jr Js Jt
 have B35:=dy (ps:=QM) zr rfl fun _ _ _ _ _ _ _ _=>rfl
 have Wu:bM l.prog w K mg base 104 "need_fit" (cB (N.uv aL aS) (N.rG aL aS bR bX)):=⟨_,_,_,(ck.or (br (k:=103) zr RF [("sizes",ka),("part_size",d5)] [] Ct [("size",aL,N.cT aL),("part",aL,N.jK aL aS)] [] [("BadFit",bX)] [] tJ RG (ay ((T9.weak fun _ _ _ _ h=> (.inl h)).mono (by omega)) (ay (T8.mono (by omega)) af)) af (ay fX af) [] af (ay (mw.mono (by omega)) (ay ((LY.weak fun _ _ _ _ h=> (.inl h)).mono (by omega)) af)) af (ay Wb af) af (by rintro vs H Q E ⟨_,_,_,_,_,_,_,_,_,_,_,_,_,_,rfl,_⟩;rfl) (N.amF dR)) (br (k:=103) zr RF [("sizes",cB (ka) (q9 bR)),("part_size",d5)] [] Ct [("size",aL,N.cT aL),("part",aL,N.jK aL aS)] [] [("BadFit",bX)] [] tJ RG (ay (T9.mono (by omega)) (ay (T8.mono (by omega)) af)) af (ay fX af) [] af (ay (mw.mono (by omega)) (ay ((LY.weak fun _ _ _ _ h=> (.inl h)).mono (by omega)) af)) af (ay Wb af) af (by rintro vs H Q E ⟨_,_,_,_,_,_,_,_,_,_,_,rfl,_⟩;rfl) N.anE)),PySem.W.mg_of X G Jq,zr.kp,B35⟩
 have Wv:=bE (st:=oH) JJ JK yZ
 have B39:=dw (ps:=QV) Wv rfl fun _ _ _ _ _ _ _=>rfl
 have Ww:dI l.prog w K mg base 2 ("lines",aL,N.jJ aL):=⟨dR.cl,_,_,_,⟨JH,JI,yZ⟩,(br (k:=1) Wv ai2 [("ends_of",N.fj)] [] QW [] [] [] [] CG ai3 (ay (zd.mono (by omega)) af) af af [] af af af af af (by rintro vs H Q E ⟨_,_,_,_,_,_,rfl,_⟩;rfl) (N.amA dR)),B39⟩
 have Wx:=bE (st:=oI) JN JO y0
 have B40:=dw (ps:=QX) Wx rfl fun _ _ _ _ _ _ _=>rfl
 have Wy:dI l.prog w K mg base 35 ("text",aL,N.me aL aS):=⟨dR.cl,_,_,_,⟨JL,JM,y0⟩,(br (k:=34) Wx ai4 [("texts_of",N.jI aS)] [] QY [] [] [] [] CI ai5 (ay (LW.mono (by omega)) af) af af [] af af af af af (by rintro vs H Q E ⟨_,_,_,_,_,_,_,_,_,_,rfl,_⟩;rfl) (N.amC dR)),B40⟩
 have LZ:=bE (st:=oK) JV JW y6
 have B42:=dy (ps:=Q0) LZ rfl fun _ _ _ _ _ _ _ _=>rfl
 have Wz:dI l.prog w K mg base 105 ("changed",aL,cB (N.uw aL aS) (N.uN aL aS bR bX)):=⟨dR.cl,_,_,_,⟨JT,JU,y6⟩,(ck.or (br (k:=104) LZ RJ [("need_fit",N.uv aL aS),("sewn",N.lZ),("node_put",N.iy aS),("parted",N.eJ aS 32),("part_size",d5)] [] CK [] [("Paper",aL,N.gm aL)] [] [] tL RK (ay ((Wu.weak fun _ _ _ _ h=> (.inl h)).mono (by omega)) (ay (Wf.mono (by omega)) (ay (zo.mono (by omega)) (ay (zk.mono (by omega)) (ay (T8.mono (by omega)) af))))) af af [] af af (ay (zp.mono (by omega)) af) af af (by rintro vs H Q E ⟨_,_,_,_,_,_,_,_,_,_,_,_,_,_,rfl,_⟩;rfl) (N.amN dR)) (br (k:=104) LZ RJ [("need_fit",N.rG aL aS bR bX),("sewn",N.lZ),("node_put",N.iy aS),("parted",N.eJ aS 32),("part_size",d5)] [] CK [] [("Paper",aL,N.gm aL)] [] [] tL RK (ay ((Wu.weak fun _ _ _ _ h=> (.inr h)).mono (by omega)) (ay (Wf.mono (by omega)) (ay (zo.mono (by omega)) (ay (zk.mono (by omega)) (ay (T8.mono (by omega)) af))))) af af [] af af (ay (zp.mono (by omega)) af) af af (by rintro vs H Q E ⟨_,_,_,_,_,_,_,_,_,_,_,rfl,_⟩;rfl) N.anF)),B42⟩
 have WA:=bE (st:=oM) JZ J0 y7
 have B43:=dy (ps:=Rk) WA rfl fun _ _ _ _ _ _ _ _=>rfl
 have rS:dI l.prog w K mg base 4 ("line_begin",aL,N.eK aL aS):=⟨dR.cl,_,_,_,⟨JX,JY,y7⟩,(br (k:=3) WA ai6 [("place_of_end",N.iZ aS)] [] Rl [] [] [] [] C1 ai7 (ay (LS.mono (by omega)) af) af af [] af af af af af (by rintro vs H Q E ⟨_,_,_,_,_,_,_,_,_,_,_,rfl,_⟩;rfl) (N.ans dR)),B43⟩
 have L6:=bE (st:=oN) J5 J6 y_
 have B44:=dy (ps:=Rm) L6 rfl fun _ _ _ _ _ _ _ _=>rfl
 have L7:dI l.prog w K mg base 5 ("line_size",aL,cB (N.iB aL aS) (N.ko aL bJ)):=⟨dR.cl,_,_,_,⟨J3,J4,y_⟩,(ck.or (br (k:=4) L6 RL [("is_between",cp),("place_of_end",N.iZ aS)] [] C2 [("lines",aL,N.jJ aL),("size",aL,N.cT aL),("line_begin",aL,N.eK aL aS)] [] [("NoPlace",bJ)] [] tN RM (ay (T1.mono (by omega)) (ay (LS.mono (by omega)) af)) af af [] af (ay (Ww.mono (by omega)) (ay (mw.mono (by omega)) (ay (rS.mono (by omega)) af))) af (ay kx af) af (by rintro vs H Q E ⟨_,_,_,_,_,_,_,_,_,_,_,rfl,_⟩;rfl) (N.ant dR)) (br (k:=4) L6 RL [("is_between",cp),("place_of_end",N.iZ aS)] [] C2 [("lines",aL,N.jJ aL),("size",aL,N.cT aL),("line_begin",aL,N.eK aL aS)] [] [("NoPlace",bJ)] [] tN RM (ay (T1.mono (by omega)) (ay (LS.mono (by omega)) af)) af af [] af (ay (Ww.mono (by omega)) (ay (mw.mono (by omega)) (ay (rS.mono (by omega)) af))) af (ay kx af) af (by rintro vs H Q E ⟨_,_,_,_,_,_,_,rfl,_⟩;rfl) N.anz)),B44⟩
 have L8:=bE (st:=oO) J9 J_ za
 have B45:=dy (ps:=Rn) L8 rfl fun _ _ _ _ _ _ _ _=>rfl
 have T45:dI l.prog w K mg base 5 ("line_at",aL,cB (N.uI aL aS) (N.uL aL bJ)):=⟨dR.cl,_,_,_,⟨J7,J8,za⟩,(ck.or (br (k:=4) L8 RN [("is_between",cp),("ends_ahead_of",N.pN aS)] [] C3 [("size",aL,N.cT aL),("line_begin",aL,N.eK aL aS)] [] [("NoPlace",bJ)] [] tO RO (ay (T1.mono (by omega)) (ay (Wk.mono (by omega)) af)) af af [] af (ay (mw.mono (by omega)) (ay (rS.mono (by omega)) af)) af (ay kx af) af (by rintro vs H Q E ⟨_,_,_,_,_,_,_,_,_,_,_,rfl,_⟩;rfl) (N.anv dR)) (br (k:=4) L8 RN [("is_between",cp),("ends_ahead_of",N.pN aS)] [] C3 [("size",aL,N.cT aL),("line_begin",aL,N.eK aL aS)] [] [("NoPlace",bJ)] [] tO RO (ay (T1.mono (by omega)) (ay (Wk.mono (by omega)) af)) af af [] af (ay (mw.mono (by omega)) (ay (rS.mono (by omega)) af)) af (ay kx af) af (by rintro vs H Q E ⟨_,_,_,_,_,_,_,rfl,_⟩;rfl) N.anA)),B45⟩
 have L9:=bE (st:=oP) Kc Kd zb
 have B46:=gp (ps:=Ro) L9 rfl fun _ _ _ _ _ _ _ _ _=>rfl
 have T46:dI l.prog w K mg base 6 ("place_at",aL,cB (N.uJ aL aS) (N.uM aL aS bJ)):=⟨dR.cl,_,_,_,⟨Ka,Kb,zb⟩,(ck.or (br (k:=5) L9 RP [("is_between",cp)] [] C4 [("line_size",aL,N.iB aL aS),("line_begin",aL,N.eK aL aS)] [] [("NoPlace",bJ)] [] tP RQ (ay (T1.mono (by omega)) af) af af [] af (ay ((L7.weak fun _ _ _ _ h=> (.inl h)).mono (by omega)) (ay (rS.mono (by omega)) af)) af (ay kx af) af (by rintro vs H Q E ⟨_,_,_,_,_,_,_,_,_,_,_,_,rfl,_⟩;rfl) N.anw) (br (k:=5) L9 RP [("is_between",cp)] [] C4 [("line_size",aL,cB (N.iB aL aS) (N.ko aL bJ)),("line_begin",aL,N.eK aL aS)] [] [("NoPlace",bJ)] [] tP RQ (ay (T1.mono (by omega)) af) af af [] af (ay (L7.mono (by omega)) (ay (rS.mono (by omega)) af)) af (ay kx af) af (by rintro vs H Q E ⟨_,_,_,_,_,_,_,_,_,_,_,_,rfl,_⟩;rfl) N.anB)),B46⟩
 have L_:=bE (st:=oQ) Kf Kg Kh
 have B47:=dy (ps:=PR) L_ rfl fun _ _ _ _ _ _ _ _=>rfl
 have T47:bM l.prog w K mg base 1 "_law_cell_at" (pf K):=⟨_,_,_,(br (k:=0) L_ ai8 [] [] PU [] [] [] [] Bx ai9 af af (ay fX af) [] af af af af af (by rintro vs H Q E ⟨_,_,_,rfl,_⟩;rfl) akI),PySem.W.mg_of X G Ke,L_.kp,B47⟩
 have Ma:=bE (st:=oR) Kj Kk Kl
 have B48:=dw (ps:=RT) Ma rfl fun _ _ _ _ _ _ _=>rfl
 have T48:bM l.prog w K mg base 1 "_law_whole" (eT):=⟨_,_,_,(br (k:=0) Ma ai_ [] [] PY [] [] [] [] BA aja af af (ay ku (ay zc (ay y_bool af))) [] af af af af af (by rintro vs H Q E ⟨_,rfl,_⟩;rfl) anS),PySem.W.mg_of X G Ki,Ma.kp,B48⟩
 have Mb:=bE (st:=oS) Kn Ko Kq
 have B49:=dy (ps:=Q3) Mb rfl fun _ _ _ _ _ _ _ _=>rfl
 have Mc:bM l.prog w K mg base 1 "_law_mixed" (N.g6):=⟨_,_,_,(br (k:=0) Mb ajb [] [] Q4 [] [] [] [] CM ajc af af af [] af af af af af (by rintro vs H Q E ⟨_,_,rfl,_⟩;rfl) N.amP),PySem.W.mg_of X G Km,Mb.kp,B49⟩
 have Md:=bE (st:=oT) Ks Kt Ku
 have B50:=dy (ps:=Q5) Md rfl fun _ _ _ _ _ _ _ _=>rfl
 have WB:bM l.prog w K mg base 2 "_law_text_by" (N.kl):=⟨_,_,_,(br (k:=1) Md ajd [("_law_mixed",N.g6)] [] Q6 [] [] [] [] CN aje (ay (Mc.mono (by omega)) af) af (ay Lz af) [] af af af af af (by rintro vs H Q E ⟨_,_,rfl,_⟩;rfl) N.amV),PySem.W.mg_of X G Kr,Md.kp,B50⟩
 have Me:=bE (st:=oU) Kw Kx Ky
 have B51:=dw (ps:=Q7) Me rfl fun _ _ _ _ _ _ _=>rfl
 have WC:bM l.prog w K mg base 1 "_law_neat" (N.km):=⟨_,_,_,(br (k:=0) Me ajf [] [] Q8 [] [] [] [] CO ajg af af (ay zc af) [] af af af af af (by rintro vs H Q E ⟨_,_,_,_,_,rfl,_⟩;rfl) N.ane),PySem.W.mg_of X G Kv,Me.kp,B51⟩
 have Mf:=bE (st:=cX) KA KC KD
 have B52:=dy (ps:=Q9) Mf rfl fun _ _ _ _ _ _ _ _=>rfl
 have T52:bM l.prog w K mg base 3 "_law_change_by" (N.uC):=⟨_,_,_,(br (k:=2) Mf ajh [("_law_mixed",N.g6),("_law_text_by",N.kl),("_law_neat",N.km)] [] lH [] [] [] [] fg ajo (ay (Mc.mono (by omega)) (ay (WB.mono (by omega)) (ay (WC.mono (by omega)) af))) af (ay Lz (ay aw4 (ay fX af))) [] af af af af af (by rintro vs H Q E ⟨_,_,rfl,_⟩;rfl) N.ank),PySem.W.mg_of X G Kz,Mf.kp,B52⟩
 have Mg:=bE (st:=oV) KH KI KJ
 have B53:=dy (ps:=Q_) Mg rfl fun _ _ _ _ _ _ _ _=>rfl
 have T53:bM l.prog w K mg base 1 "_law_done" (tZ):=⟨_,_,_,(br (k:=0) Mg ajp [] [] Ra [] [] [] [] CQ ajq af af (ay fX af) [] af af af af af (by rintro vs H Q E ⟨_,_,_,_,_,rfl,_⟩;rfl) N.amW),PySem.W.mg_of X G KG,Mg.kp,B53⟩
 have WD:=bE (st:=dq) KN KO KP
 have B54:=dw (ps:=RU) WD rfl fun _ _ _ _ _ _ _=>rfl
 have Mh:qE l.prog w K mg base 1 "_law_word" (gP K [bT,bR,bX,bJ,fN,fO,fP,fQ,fR,fS,fU,fV,fW] dQ):=acM (k:=0) WD ajr (PySem.W.mg_of X G KL) B54 [("BadText", .ref bT),("BadChange", .ref bR),("BadFit", .ref bX),("NoPlace", .ref bJ),("BadSide", .ref fN),("NoMark", .ref fO),("NoNode", .ref fP),("NoCursor", .ref fQ),("BadDeed", .ref fR),("BadLetter", .ref fS),("NoLetter", .ref fU),("NoHand", .ref fV),("NoNote", .ref fW)] oW fG ajx (ay aw6 (ay aw7 (ay aw8 (ay aw9 (ay aw_ (ay axa (ay axb (ay axc (ay axd (ay axe (ay axf (ay axg (ay axh af))))))))))))) (ay ku (ay aw1 af)) (by rintro vs H Q E ⟨_,_,_,rfl,_⟩;rfl) Dl
 have Mi:=bE (st:=oX) KR KS KU
 have B55:=aoT (ps:=RV) Mi rfl fun _ _ _ _ _ _ _ _ _ _=>rfl
 have T55:bM l.prog w K mg base 104 "_law_asked" (uR aL aS):=⟨_,_,_,(br (k:=103) Mi ajE [] [("InkError", .ref dQ)] RW [("part",aL,cB (N.jK aL aS) (N.uK aL bJ)),("line_at",aL,cB (N.uI aL aS) (N.uL aL bJ)),("place_at",aL,cB (N.uJ aL aS) (N.uM aL aS bJ)),("line_size",aL,cB (N.iB aL aS) (N.ko aL bJ))] [] [] [("_law_word",gP K [bT,bR,bX,bJ,fN,fO,fP,fQ,fR,fS,fU,fV,fW] dQ)] C8 ajF af (ay LC af) af [] af (ay (LY.mono (by omega)) (ay (T45.mono (by omega)) (ay (T46.mono (by omega)) (ay (L7.mono (by omega)) af)))) af af (ay (Mh.mono (by omega)) af) (by rintro vs H Q E ⟨_,_,_,_,_,_,_,_,_,_,_,_,_,_,rfl,_⟩;rfl) (aoe axm Hu)),PySem.W.mg_of X G KQ,Mi.kp,B55⟩
 have Mj:=bE (st:=oY) KY KZ K0
 have B56:=aoU (ps:=RX) Mj rfl fun _ _ _ _ _ _ _ _ _ _ _=>rfl
 have T56:bM l.prog w K mg base 2 "_law_there" (rM):=⟨_,_,_,(br (k:=1) Mj ajM [("_law_whole",eT)] [] RY [] [] [] [] xg ajN (ay (T48.mono (by omega)) af) af (ay fX af) [] af af af af af (by rintro vs H Q E ⟨_,_,_,_,_,rfl,_⟩;rfl) aoc),PySem.W.mg_of X G KW,Mj.kp,B56⟩
 have Ml:=bE (st:=eR) K2 K3 K4
 have B57:=dy (ps:=RZ) Ml rfl fun _ _ _ _ _ _ _ _=>rfl
 have T57:bM l.prog w K mg base 1 "_law_number" (rH):=⟨_,_,_,(br (k:=0) Ml ajO [] [] tQ [] [] [] [] jy ajS af af af [] af af af af af (by rintro vs H Q E ⟨_,_,rfl,_⟩;rfl) anT),PySem.W.mg_of X G K1,Ml.kp,B57⟩
 have Mm:=bE (st:=dr) K6 K7 K8
 have B58:=dy (ps:=R0) Mm rfl fun _ _ _ _ _ _ _ _=>rfl
 have T58:bM l.prog w K mg base 1 "_law_spoilt" (uQ):=⟨_,_,_,(br (k:=0) Mm ajT [] [] oZ [] [] [] [] gg ajZ af af (ay fX (ay LB af)) [] af af af af af (by rintro vs H Q E ⟨_,_,rfl,_⟩;rfl) anY),PySem.W.mg_of X G K5,Mm.kp,B58⟩
 have Mn:=bE (st:=o5) K_ La Lb
 have B59:=dy (ps:=R1) Mn rfl fun _ _ _ _ _ _ _ _=>rfl
 have T59:bM l.prog w K mg base 106 "_law_changed" (rN aL aS):=⟨_,_,_,(br (k:=105) Mn aj6 [] [("InkError", .ref dQ)] R6 [("text",aL,N.me aL aS),("changed",aL,N.uN aL aS bR bX)] [] [] [("_law_word",gP K [bT,bR,bX,bJ,fN,fO,fP,fQ,fR,fS,fU,fV,fW] dQ)] Dc aj7 af (ay LC af) af [] af (ay (Wy.mono (by omega)) (ay ((Wz.weak fun _ _ _ _ h=> (.inr h)).mono (by omega)) af)) af af (ay (Mh.mono (by omega)) af) (by rintro vs H Q E ⟨_,_,_,_,_,_,_,_,_,_,_,_,rfl,_⟩;rfl) (aof axk axl GG G7)),PySem.W.mg_of X G K9,Mn.kp,B59⟩
 have Mo:=bE (st:=cY) Ld Le Lf
 have B60:=dy (ps:=R7) Mo rfl fun _ _ _ _ _ _ _ _=>rfl
 have T60:bM l.prog w K mg base 2 "_law_unfit" (uT):=⟨_,_,_,(br (k:=1) Mo aj8 [("_law_neat",N.km)] [] lK [] [] [] [] dJ ake (ay (WC.mono (by omega)) af) af (ay fX (ay zc af)) [] af af af af af (by rintro vs H Q E ⟨_,_,rfl,_⟩;rfl) aox),PySem.W.mg_of X G Lc,Mo.kp,B60⟩
 have WE:=bE (st:=bW) Lh Li Lj
 have B61:=dw (ps:=R8) WE rfl fun _ _ _ _ _ _ _=>rfl
 exact ck.top (br (k:=106) WE akf [("_law_text_by",N.kl),("_law_cell_at",pf K),("paper_of",cB (N.rD aL aS) (N.rF bT)),("_law_change_by",N.uC),("_law_mixed",N.g6),("_law_done",tZ),("_law_number",rH),("_law_asked",uR aL aS),("_law_there",rM),("_law_changed",rN aL aS),("_law_spoilt",uQ),("_law_unfit",uT)] [("Paper", .ref aL),("InkError", .ref dQ)] gh [("changed",aL,N.uw aL aS),("many",aS,ub aS),("text",aL,N.me aL aS)] [] [] [("_law_word",gP K [bT,bR,bX,bJ,fN,fO,fP,fQ,fR,fS,fU,fV,fW] dQ)] cJ aks (ay (WB.mono (by omega)) (ay (T47.mono (by omega)) (ay (T34.mono (by omega)) (ay (T52.mono (by omega)) (ay (Mc.mono (by omega)) (ay (T53.mono (by omega)) (ay (T57.mono (by omega)) (ay (T55.mono (by omega)) (ay (T56.mono (by omega)) (ay (T59.mono (by omega)) (ay (T58.mono (by omega)) (ay (T60.mono (by omega)) af)))))))))))) (ay axi (ay LC af)) (ay aw2 (ay Lz (ay fX (ay ku (ay LB (ay LA af)))))) [] af (ay ((Wz.weak fun _ _ _ _ h=> (.inl h)).mono (by omega)) (ay (T30.mono (by omega)) (ay (Wy.mono (by omega)) af))) af af (ay (Mh.mono (by omega)) af) (by rintro vs H Q E ⟨_,_,rfl,_⟩;rfl) (aoQ dR axn axj Gg))
theorem walk{l:PySem.W.OpenLaw}{q:Program}{loose:List Str}{XP:(Str→Option Value)→Heap→Prop}{YP:World→Heap→Prop}{d:DefRec}{K:Params→PySem.W.Frag}(hn:l.most=some 63)(so:d.params.defaults=[])
  (hY: ∀(w:World) (h:Heap),YP w h→(K w.params).In h)
  (F: ∀(w:World) (mg:Str→Option Value) (fa:Addr) (h:Heap),(K w.params).In h→h.Ns mainGlobals mg→mg d.name=some (.ref fa)→
   ∃fd:FuncData,(∀(s:Shared) (u:Value),BindsTo s fd ⟨[u],[]⟩ [("_law_script",u)])∧ ∀base:Heap,(K w.params).In base→base.Ns mainGlobals mg→ck l.prog w (K w.params) mg base vO 107 fa fd ["_law_script"] ((fun K=> (fun vs H Q _=> (yq K) vs H Q E0)) (K w.params))):
  PySem.W.WalkO q loose XP YP l.row.toRowW d [] (fun f vs=>PySem.call f vs):=
 L2.Zv (n:=63) (k:=107) (x:="_law_script") (CX:=fun _=>vO) (sp:=fun w=> (fun K=> (fun vs H Q _=> (yq K) vs H Q E0)) (K w.params)) hn (by decide) so ⟨rfl,by decide,by decide⟩ hY F (fun _ _ a ns hl _ hS=> ⟨a,ns,rfl,hS,fun _=>rfl⟩) fun _ _ _ _ _ z=>z
end L2.nC
namespace PySem.W.Fast
def tw755004066688069221:Unit:=()
def tw4001880685976729076:Unit:=()
def tw16892205079356362798:Unit:=()
def tw2677164733011638239:Unit:=()
def tw3666759122578606055:Unit:=()
def tw7643741471957003446:Unit:=()
def tw17519231250135085806:Unit:=()
def tw17855359750696349387:Unit:=()
def tw6869449166645521402:Unit:=()
def tw2944158521126890517:Unit:=()
def tw5736276794343007498:Unit:=()
def tw15323851621673386637:Unit:=()
def tw12433797654465604416:Unit:=()
def tw2440057312156886301:Unit:=()
def tw2607634516044194016:Unit:=()
def tw253191021068084975:Unit:=()
def tw192363241716798725:Unit:=()
def tw18428615045424969212:Unit:=()
def tw421803550567210187:Unit:=()
def tw5597076117570019144:Unit:=()
def tw10034604062408588597:Unit:=()
def tw15127693084262902015:Unit:=()
def tw1965324291145566121:Unit:=()
def tw14183096145836724224:Unit:=()
def tw13012514480694000960:Unit:=()
def tw14728725608656754167:Unit:=()
def tw8243382591844363149:Unit:=()
def tw4110854768619123069:Unit:=()
def tw204114881742032226:Unit:=()
def tw16514411401054110243:Unit:=()
def tw782444015380852217:Unit:=()
def tw11913683029844495706:Unit:=()
def tw5315061040718925562:Unit:=()
def tw10685662020745333259:Unit:=()
def tw15674741261285636001:Unit:=()
def tw466863937229646570:Unit:=()
def tw1954520082683668914:Unit:=()
def tw8052627138989179082:Unit:=()
def tw13302699970137438551:Unit:=()
def tw8672794407718102247:Unit:=()
def tw16427407176349128761:Unit:=()
def tw7818941998439566188:Unit:=()
def tw9666919078422389848:Unit:=()
def tw195730920636644149:Unit:=()
def tw791491598460123317:Unit:=()
def tw18327720089807857939:Unit:=()
def tw18318600694519929782:Unit:=()
def tw8689828118504835950:Unit:=()
def tw12737356573120639396:Unit:=()
def tw16456004117722263568:Unit:=()
def tw5222327208402466506:Unit:=()
def tw40376188371339658:Unit:=()
def tw8770144992533659033:Unit:=()
def tw14744458207239721418:Unit:=()
def tw15266629853082179013:Unit:=()
def tw450968747233198191:Unit:=()
def tw3502443305860108475:Unit:=()
def tw17614950905152352959:Unit:=()
def tw5778626486703168303:Unit:=()
def tw14025304688311246452:Unit:=()
def tw1400277395786041028:Unit:=()
def tw5736296534190401044:Unit:=()
def tw15714957548088080023:Unit:=()
def tw11316814944636434723:Unit:=()
def tw1916747624062805917:Unit:=()
def tw13187540261167549634:Unit:=()
def tw18331226386865901556:Unit:=()
def tw9719430485018941183:Unit:=()
def tw5187124714858042919:Unit:=()
def tw6320845744526169054:Unit:=()
def tw3834928739428737987:Unit:=()
def tw6341903475744770458:Unit:=()
def tw4884607988098530022:Unit:=()
def tw17382471087856448412:Unit:=()
def tw2705937132287244318:Unit:=()
def tw10994886488776006483:Unit:=()
def tw1689177316872397168:Unit:=()
def tw15610818593965976598:Unit:=()
def tw10713898965424104445:Unit:=()
def tw3674092980835199219:Unit:=()
def tw9832700532407203992:Unit:=()
def tw2648053715008837176:Unit:=()
def tw5562056758672665020:Unit:=()
def tw16097456191444382973:Unit:=()
def tw3184982527225151095:Unit:=()
def tw7074339278361025949:Unit:=()
def tw16020671246816191912:Unit:=()
def tw5461812554669495202:Unit:=()
def tw15392725997590252111:Unit:=()
def tw6547531521820869846:Unit:=()
def tw4094613952785972970:Unit:=()
def tw9918655606629707258:Unit:=()
def tw17590740336718587519:Unit:=()
def tw1814229690600615003:Unit:=()
def tw2803052003473613857:Unit:=()
def tw6906102654751876901:Unit:=()
def tw6254479664961991332:Unit:=()
def tw682177288225489491:Unit:=()
def tw8640334230781108148:Unit:=()
def tw7961607649905447112:Unit:=()
def tw7041121110594208578:Unit:=()
def tw3339920904935668157:Unit:=()
def tw2418261221310567543:Unit:=()
def tw7957771976936807507:Unit:=()
def tw6322182037133039788:Unit:=()
def tw16829853402829314072:Unit:=()
def tw3222214917003724276:Unit:=()
def tw11344643151644715607:Unit:=()
def tw16376892157442105861:Unit:=()
def tw7205665573454821746:Unit:=()
def tw16753600951958917642:Unit:=()
def tw17032416601892369996:Unit:=()
def tw14077546442270277765:Unit:=()
def tw12667442354384523305:Unit:=()
def tw2776582982307051104:Unit:=()
def tw6690821312278336030:Unit:=()
def tw12722590557847084548:Unit:=()
def tw5478418196482833218:Unit:=()
def tw6507335120119908206:Unit:=()
def tw10185824195465582132:Unit:=()
def tw12664392677567865476:Unit:=()
def tw1691909385574797264:Unit:=()
def tw3449641103725074043:Unit:=()
def tw12390420438036043232:Unit:=()
def tw5343575873142551939:Unit:=()
def tw14301022230819864067:Unit:=()
def tw13402148744004164554:Unit:=()
def tw9229483592517228617:Unit:=()
def tw6033318674026073569:Unit:=()
def tw17934301147708478098:Unit:=()
def tw11401373827325907414:Unit:=()
def tw9088204389518811336:Unit:=()
def tw18364317990406684621:Unit:=()
def tw13762920753485537065:Unit:=()
def tw12074787966643907737:Unit:=()
def tw14511688216614131139:Unit:=()
def tw4899896181691511709:Unit:=()
def tw15492235594014108377:Unit:=()
def tw10069378940871937720:Unit:=()
def tw4530306005645894036:Unit:=()
def tw7728450868199027931:Unit:=()
def tw17528046622911676671:Unit:=()
def tw16114228206033839719:Unit:=()
def tw11884106033986436883:Unit:=()
def tw945425129687840501:Unit:=()
def tw3515955118791435594:Unit:=()
def tw18293463456855486042:Unit:=()
def tw18347758021303926199:Unit:=()
def tw10549479397290120993:Unit:=()
def tw13811731106369006719:Unit:=()
def tw8762138584136232036:Unit:=()
def tw9956007859283940417:Unit:=()
def tw16095494289033996899:Unit:=()
def tw15447163397651415839:Unit:=()
def tw366208566356807920:Unit:=()
def tw3100247933819887141:Unit:=()
def tw13758169572330345711:Unit:=()
def tw16127122914165830:Unit:=()
def tw9297990345759421715:Unit:=()
def tw7065039744515095408:Unit:=()
def tw14660235135780762891:Unit:=()
def tw4246133873548802177:Unit:=()
def tw14025763219387982997:Unit:=()
def tw16677897308422418090:Unit:=()
def tw2004204398561169170:Unit:=()
def tw5698434841613996896:Unit:=()
def tw14274821185216783213:Unit:=()
def tw12979187673356051607:Unit:=()
def tw10383156088849386690:Unit:=()
def tw9606552493046036711:Unit:=()
def tw3761396620693313597:Unit:=()
def tw14755760216780744936:Unit:=()
def tw7922508906936735499:Unit:=()
def tw12042566382678125750:Unit:=()
def tw10344931206545029605:Unit:=()
def tw5660950288315834027:Unit:=()
def tw16165710540815003787:Unit:=()
def tw5838867717422184146:Unit:=()
def tw15650297535663698262:Unit:=()
def tw7135078391881059556:Unit:=()
def tw14885977146713721368:Unit:=()
def tw17278300477984653631:Unit:=()
def tw5101978790960583181:Unit:=()
def tw6201761885655157233:Unit:=()
def tw5384215482423758364:Unit:=()
def tw1829635190729554142:Unit:=()
def tw12685537324426662927:Unit:=()
def tw15666417131832995021:Unit:=()
def tw5293002084543285141:Unit:=()
def tw194038594091796692:Unit:=()
def tw10372020943462262703:Unit:=()
def tw339009175013770139:Unit:=()
def tw194555720963023850:Unit:=()
def tw5615449071740413882:Unit:=()
def tw17525458419185299882:Unit:=()
def tw10740711317536044310:Unit:=()
def tw17759169805194990830:Unit:=()
def tw3663307160829913437:Unit:=()
def tw9968586787311504517:Unit:=()
def tw2258146612381722684:Unit:=()
def tw12310794144309201843:Unit:=()
def tw11088336005710443128:Unit:=()
def tw17650112823807315962:Unit:=()
def tw14009481323285057291:Unit:=()
def tw14889944135274620849:Unit:=()
def tw10814730672504022711:Unit:=()
def tw1372496910959852615:Unit:=()
def tw6610998493875030584:Unit:=()
def tw5791057586028923380:Unit:=()
def tw1379664449471251123:Unit:=()
def tw5871358099377045685:Unit:=()
def tw17876033455081198812:Unit:=()
def tw2020753685307094565:Unit:=()
def tw15454822256984430640:Unit:=()
def tw500248095925445869:Unit:=()
def tw12516636410368221624:Unit:=()
def tw6939247823390384072:Unit:=()
def tw8334804076016940386:Unit:=()
def tw8597242534594855249:Unit:=()
def tw15444872871739330950:Unit:=()
def tw3237788024847075137:Unit:=()
def tw1928355057739999316:Unit:=()
def tw13999484936980013263:Unit:=()
def tw6068066501812715235:Unit:=()
def tw1541165265885421001:Unit:=()
def tw16709738314254844507:Unit:=()
def tw7967691870919070898:Unit:=()
def tw14084033319679660965:Unit:=()
def tw14949839771699881315:Unit:=()
def tw6904762911756183925:Unit:=()
def tw15174439364796287394:Unit:=()
def tw17302760022609789330:Unit:=()
def tw13636918508944533636:Unit:=()
def tw6406143977814157135:Unit:=()
def tw10381801321769416602:Unit:=()
def tw12089858935487045044:Unit:=()
def tw9018998058405735057:Unit:=()
end PySem.W.Fast
open PySem PySem.W PyProof.Rows
set_option maxRecDepth 100000 in
set_option maxHeartbeats 0 in
theorem PySem.Challenge.cw_inkloom_k18_papers_refused_holds : PySem.Challenge.rw_inkloom_k18_papers_refused.Holds := by
 w_on;o_law;k_head;(case hw=>w_witness2)
 k_fill
 refine L2.nC.walk (l:=PySem.Challenge.rw_inkloom_k18_papers_refused) rfl rfl (fun w h Y=>PySem.W.kIn_of Y) ?F
 case F=>
  intro w mg fa h KX G iE
  refine' L2.nC.all_mk KX G iE ?E8 ?E9 ?E_ ?Fb ?Fc ?Fd ?Fe ?Ff ?Fg ?Fh ?Fi ?yJ ?Fj ?Fl ?Fm ?Fn ?Fo ?Fp ?Fq ?Fs ?Ft ?yK ?yL ?yM ?yN ?Fu ?Fv ?Fw ?Fx ?Fy ?Fz ?FA ?FC ?FD ?FE ?FF ?FG ?FH ?FI ?FJ ?FK ?FL ?FN ?FO ?FP ?FQ ?FR ?FT ?FU ?FV ?FW ?FX ?FY ?FZ ?F_ ?Ga ?Gb ?Ge ?Gf ?Gg ?Gh ?Gi ?Gj ?Gk ?Gm ?Gn ?Gp ?Gq ?Gr ?Gs ?Gu ?Gv ?Gw ?Gx ?Gy ?Gz ?GA ?GB ?GC ?GD ?GF ?GG ?GH ?GI ?GJ ?GK ?GN ?GO ?GP ?GQ ?GR ?GS ?GV ?GW ?GX ?GY ?GZ ?G0 ?G1 ?G3 ?G4 ?G5 ?G6 ?G7 ?G8 ?G9 ?G_ ?Ha ?Hb ?Hc ?He ?Hf ?Hg ?Hh ?Hi ?Hj ?Hk ?Hl ?Hm ?Hn ?Ho ?Hq ?Hr ?Hs ?Ht ?Hu ?Hv ?Hw ?Hx ?e5 ?e6 ?a0 ?l0 ?c0 ?k0 ?a1 ?l1 ?c1 ?k1 ?a2 ?l2 ?c2 ?k2 ?a3 ?l3 ?c3 ?k3 ?a4 ?l4 ?c4 ?k4 ?a5 ?l5 ?c5 ?k5 ?a6 ?l6 ?c6 ?k6 ?a7 ?l7 ?c7 ?k7 ?a8 ?l8 ?c8 ?k8 ?a9 ?l9 ?c9 ?k9 ?Hy ?Hz ?gU ?t6 ?HA ?HB ?gW ?t9 ?HC ?HD ?gX ?lR ?HE ?HF ?HG ?HH ?HI ?HJ ?HK ?HL ?HM ?HN ?sU ?HP ?HQ ?HR ?wq ?HS ?yO ?HU ?HV ?HW ?yP ?HX ?HY ?HZ ?yQ ?H9 ?H_ ?Ia ?Ib ?Ic ?Ie ?Ig ?Ih ?Ii ?Ij ?Ik ?yR ?Il ?Im ?Io ?yS ?Ip ?Iq ?Ir ?Iu ?Iv ?Iw ?Iy ?Iz ?IA ?sV ?IB ?IC ?ID ?sW ?IE ?IF ?IG ?IH ?II ?IJ ?IL ?IM ?IP ?IQ ?yT ?IS ?IT ?IU ?IV ?yU ?IW ?IX ?IY ?IZ ?yV ?I_ ?Ja ?Jb ?Jc ?yW ?Jd ?Je ?Jf ?Jg ?yX ?Jh ?Ji ?Jj ?Jk ?Jl ?Jm ?Jo ?Jp ?Jq ?Jr ?Js ?Jt ?Ju ?Jv ?Jw ?Jx ?Jy ?Jz ?JA ?JB ?JC ?JD ?JE ?JF ?JG ?yY ?JH ?JI ?JJ ?JK ?yZ ?JL ?JM ?JN ?JO ?y0 ?JP ?JQ ?JR ?JS ?y2 ?JT ?JU ?JV ?JW ?y6 ?JX ?JY ?JZ ?J0 ?y7 ?J3 ?J4 ?J5 ?J6 ?y_ ?J7 ?J8 ?J9 ?J_ ?za ?Ka ?Kb ?Kc ?Kd ?zb ?Ke ?Kf ?Kg ?Kh ?Ki ?Kj ?Kk ?Kl ?Km ?Kn ?Ko ?Kq ?Kr ?Ks ?Kt ?Ku ?Kv ?Kw ?Kx ?Ky ?Kz ?KA ?KC ?KD ?KG ?KH ?KI ?KJ ?KL ?KN ?KO ?KP ?KQ ?KR ?KS ?KU ?KW ?KY ?KZ ?K0 ?K1 ?K2 ?K3 ?K4 ?K5 ?K6 ?K7 ?K8 ?K9 ?K_ ?La ?Lb ?Lc ?Ld ?Le ?Lf ?Lg ?Lh ?Li ?Lj ?Lk ?Ll ?Lm ?Ln ?Lo ?Lp ?Lq ?Lr ?Ls ?Lu ?Lv ?Lw ?Lx ?Ly
  (case E8=>k_is)
  (case E9=>k_is)
  (case E_=>k_is)
  (case Fb=>k_is)
  (case Fc=>k_is)
  (case Fd=>k_is)
  (case Fe=>k_is)
  (case Ff=>k_is)
  (case Fg=>k_is)
  (case Fh=>k_is)
  (case Fi=>k_is)
  (case yJ=>k_is)
  (case Fj=>k_is)
  (case Fl=>k_is)
  (case Fm=>k_is)
  (case Fn=>k_is)
  (case Fo=>k_is)
  (case Fp=>k_is)
  (case Fq=>k_is)
  (case Fs=>k_is)
  (case Ft=>k_is)
  (case yK=>k_is)
  (case yL=>k_is)
  (case yM=>k_is)
  (case yN=>k_is)
  (case Fu=>k_is)
  (case Fv=>k_is)
  (case Fw=>k_is)
  (case Fx=>k_is)
  (case Fy=>k_is)
  (case Fz=>k_is)
  (case FA=>k_is)
  (case FC=>k_is)
  (case FD=>k_is)
  (case FE=>k_exc)
  (case FF=>k_exc)
  (case FG=>k_exc)
  (case FH=>k_exc)
  (case FI=>k_is)
  (case FJ=>k_is)
  (case FK=>kernel_rfl)
  (case FL=>k_is)
  (case FN=>k_is)
  (case FO=>k_is)
  (case FP=>kernel_rfl)
  (case FQ=>kernel_rfl)
  (case FR=>kernel_rfl)
  (case FT=>kernel_rfl)
  (case FU=>kernel_rfl)
  (case FV=>kernel_rfl)
  (case FW=>kernel_rfl)
  (case FX=>kernel_rfl)
  (case FY=>kernel_rfl)
  (case FZ=>kernel_rfl)
  (case F_=>kernel_rfl)
  (case Ga=>kernel_rfl)
  (case Gb=>kernel_rfl)
  (case Ge=>kernel_rfl)
  (case Gf=>kernel_rfl)
  (case Gg=>kernel_rfl)
  (case Gh=>k_is)
  (case Gi=>k_is)
  (case Gj=>kernel_rfl)
  (case Gk=>k_is)
  (case Gm=>k_is)
  (case Gn=>k_is)
  (case Gp=>kernel_rfl)
  (case Gq=>kernel_rfl)
  (case Gr=>kernel_rfl)
  (case Gs=>kernel_rfl)
  (case Gu=>kernel_rfl)
  (case Gv=>kernel_rfl)
  (case Gw=>kernel_rfl)
  (case Gx=>kernel_rfl)
  (case Gy=>kernel_rfl)
  (case Gz=>kernel_rfl)
  (case GA=>kernel_rfl)
  (case GB=>kernel_rfl)
  (case GC=>kernel_rfl)
  (case GD=>kernel_rfl)
  (case GF=>kernel_rfl)
  (case GG=>kernel_rfl)
  (case GH=>k_is)
  (case GI=>k_is)
  (case GJ=>kernel_rfl)
  (case GK=>k_is)
  (case GN=>k_is)
  (case GO=>k_is)
  (case GP=>kernel_rfl)
  (case GQ=>kernel_rfl)
  (case GR=>kernel_rfl)
  (case GS=>kernel_rfl)
  (case GV=>kernel_rfl)
  (case GW=>kernel_rfl)
  (case GX=>kernel_rfl)
  (case GY=>kernel_rfl)
  (case GZ=>kernel_rfl)
  (case G0=>kernel_rfl)
  (case G1=>kernel_rfl)
  (case G3=>kernel_rfl)
  (case G4=>kernel_rfl)
  (case G5=>kernel_rfl)
  (case G6=>kernel_rfl)
  (case G7=>kernel_rfl)
  (case G8=>k_is)
  (case G9=>k_is)
  (case G_=>kernel_rfl)
  (case Ha=>k_is)
  (case Hb=>k_is)
  (case Hc=>k_is)
  (case He=>kernel_rfl)
  (case Hf=>kernel_rfl)
  (case Hg=>kernel_rfl)
  (case Hh=>kernel_rfl)
  (case Hi=>kernel_rfl)
  (case Hj=>kernel_rfl)
  (case Hk=>kernel_rfl)
  (case Hl=>kernel_rfl)
  (case Hm=>kernel_rfl)
  (case Hn=>kernel_rfl)
  (case Ho=>kernel_rfl)
  (case Hq=>kernel_rfl)
  (case Hr=>kernel_rfl)
  (case Hs=>kernel_rfl)
  (case Ht=>kernel_rfl)
  (case Hu=>kernel_rfl)
  (case Hv=>k_is)
  (case Hw=>k_is)
  (case Hx=>kernel_rfl)
  (case e5=>k_is)
  (case e6=>k_is)
  (case a0=>k_is)
  (case l0=>k_is)
  (case c0=>k_is)
  (case k0=>k_is)
  (case a1=>k_is)
  (case l1=>k_is)
  (case c1=>k_is)
  (case k1=>k_is)
  (case a2=>k_is)
  (case l2=>k_is)
  (case c2=>k_is)
  (case k2=>k_is)
  (case a3=>k_is)
  (case l3=>k_is)
  (case c3=>k_is)
  (case k3=>k_is)
  (case a4=>k_is)
  (case l4=>k_is)
  (case c4=>k_is)
  (case k4=>k_is)
  (case a5=>k_is)
  (case l5=>k_is)
  (case c5=>k_is)
  (case k5=>k_is)
  (case a6=>k_is)
  (case l6=>k_is)
  (case c6=>k_is)
  (case k6=>k_is)
  (case a7=>k_is)
  (case l7=>k_is)
  (case c7=>k_is)
  (case k7=>k_is)
  (case a8=>k_is)
  (case l8=>k_is)
  (case c8=>k_is)
  (case k8=>k_is)
  (case a9=>k_is)
  (case l9=>k_is)
  (case c9=>k_is)
  (case k9=>k_is)
  (case Hy=>k_is)
  (case Hz=>k_is)
  (case gU=>k_is)
  (case t6=>k_is)
  (case HA=>k_is)
  (case HB=>k_is)
  (case gW=>k_is)
  (case t9=>k_is)
  (case HC=>k_is)
  (case HD=>k_is)
  (case gX=>k_is)
  (case lR=>k_is)
  (case HE=>k_is)
  (case HF=>k_is)
  (case HG=>k_is)
  (case HH=>k_is)
  (case HI=>k_is)
  (case HJ=>k_is)
  (case HK=>k_is)
  (case HL=>k_is)
  (case HM=>k_is)
  (case HN=>k_is)
  (case sU=>k_is)
  (case HP=>k_is)
  (case HQ=>k_is)
  (case HR=>k_is)
  (case wq=>k_is)
  (case HS=>k_is)
  (case yO=>k_is)
  (case HU=>k_is)
  (case HV=>k_is)
  (case HW=>k_is)
  (case yP=>k_is)
  (case HX=>k_is)
  (case HY=>k_is)
  (case HZ=>k_is)
  (case yQ=>k_is)
  (case H9=>k_is)
  (case H_=>k_is)
  (case Ia=>k_is)
  (case Ib=>k_is)
  (case Ic=>k_is)
  (case Ie=>k_is)
  (case Ig=>k_is)
  (case Ih=>k_is)
  (case Ii=>k_is)
  (case Ij=>k_is)
  (case Ik=>k_is)
  (case yR=>k_is)
  (case Il=>k_is)
  (case Im=>k_is)
  (case Io=>k_is)
  (case yS=>k_is)
  (case Ip=>k_is)
  (case Iq=>k_is)
  (case Ir=>k_is)
  (case Iu=>k_is)
  (case Iv=>k_is)
  (case Iw=>k_is)
  (case Iy=>k_is)
  (case Iz=>k_is)
  (case IA=>k_is)
  (case sV=>k_is)
  (case IB=>k_is)
  (case IC=>k_is)
  (case ID=>k_is)
  (case sW=>k_is)
  (case IE=>k_is)
  (case IF=>k_is)
  (case IG=>k_is)
  (case IH=>k_is)
  (case II=>k_is)
  (case IJ=>k_is)
  (case IL=>k_is)
  (case IM=>k_is)
  (case IP=>k_is)
  (case IQ=>k_is)
  (case yT=>k_is)
  (case IS=>k_is)
  (case IT=>k_is)
  (case IU=>k_is)
  (case IV=>k_is)
  (case yU=>k_is)
  (case IW=>k_is)
  (case IX=>k_is)
  (case IY=>k_is)
  (case IZ=>k_is)
  (case yV=>k_is)
  (case I_=>k_is)
  (case Ja=>k_is)
  (case Jb=>k_is)
  (case Jc=>k_is)
  (case yW=>k_is)
  (case Jd=>k_is)
  (case Je=>k_is)
  (case Jf=>k_is)
  (case Jg=>k_is)
  (case yX=>k_is)
  (case Jh=>k_is)
  (case Ji=>k_is)
  (case Jj=>k_is)
  (case Jk=>k_is)
  (case Jl=>k_is)
  (case Jm=>k_is)
  (case Jo=>k_is)
  (case Jp=>k_is)
  (case Jq=>k_is)
  (case Jr=>k_is)
  (case Js=>k_is)
  (case Jt=>k_is)
  (case Ju=>k_is)
  (case Jv=>k_is)
  (case Jw=>k_is)
  (case Jx=>k_is)
  (case Jy=>k_is)
  (case Jz=>k_is)
  (case JA=>k_is)
  (case JB=>k_is)
  (case JC=>k_is)
  (case JD=>k_is)
  (case JE=>k_is)
  (case JF=>k_is)
  (case JG=>k_is)
  (case yY=>k_is)
  (case JH=>k_is)
  (case JI=>k_is)
  (case JJ=>k_is)
  (case JK=>k_is)
  (case yZ=>k_is)
  (case JL=>k_is)
  (case JM=>k_is)
  (case JN=>k_is)
  (case JO=>k_is)
  (case y0=>k_is)
  (case JP=>k_is)
  (case JQ=>k_is)
  (case JR=>k_is)
  (case JS=>k_is)
  (case y2=>k_is)
  (case JT=>k_is)
  (case JU=>k_is)
  (case JV=>k_is)
  (case JW=>k_is)
  (case y6=>k_is)
  (case JX=>k_is)
  (case JY=>k_is)
  (case JZ=>k_is)
  (case J0=>k_is)
  (case y7=>k_is)
  (case J3=>k_is)
  (case J4=>k_is)
  (case J5=>k_is)
  (case J6=>k_is)
  (case y_=>k_is)
  (case J7=>k_is)
  (case J8=>k_is)
  (case J9=>k_is)
  (case J_=>k_is)
  (case za=>k_is)
  (case Ka=>k_is)
  (case Kb=>k_is)
  (case Kc=>k_is)
  (case Kd=>k_is)
  (case zb=>k_is)
  (case Ke=>k_is)
  (case Kf=>k_is)
  (case Kg=>k_is)
  (case Kh=>k_is)
  (case Ki=>k_is)
  (case Kj=>k_is)
  (case Kk=>k_is)
  (case Kl=>k_is)
  (case Km=>k_is)
  (case Kn=>k_is)
  (case Ko=>k_is)
  (case Kq=>k_is)
  (case Kr=>k_is)
  (case Ks=>k_is)
  (case Kt=>k_is)
  (case Ku=>k_is)
  (case Kv=>k_is)
  (case Kw=>k_is)
  (case Kx=>k_is)
  (case Ky=>k_is)
  (case Kz=>k_is)
  (case KA=>k_is)
  (case KC=>k_is)
  (case KD=>k_is)
  (case KG=>k_is)
  (case KH=>k_is)
  (case KI=>k_is)
  (case KJ=>k_is)
  (case KL=>k_is)
  (case KN=>k_is)
  (case KO=>k_is)
  (case KP=>k_is)
  (case KQ=>k_is)
  (case KR=>k_is)
  (case KS=>k_is)
  (case KU=>k_is)
  (case KW=>k_is)
  (case KY=>k_is)
  (case KZ=>k_is)
  (case K0=>k_is)
  (case K1=>k_is)
  (case K2=>k_is)
  (case K3=>k_is)
  (case K4=>k_is)
  (case K5=>k_is)
  (case K6=>k_is)
  (case K7=>k_is)
  (case K8=>k_is)
  (case K9=>k_is)
  (case K_=>k_is)
  (case La=>k_is)
  (case Lb=>k_is)
  (case Lc=>k_is)
  (case Ld=>k_is)
  (case Le=>k_is)
  (case Lf=>k_is)
  (case Lg=>k_is)
  (case Lh=>k_is)
  (case Li=>k_is)
  (case Lj=>k_is)
  (case Lk=>k_is)
  (case Ll=>k_is)
  (case Lm=>k_is)
  (case Ln=>k_is)
  (case Lo=>k_is)
  (case Lp=>k_is)
  (case Lq=>k_is)
  (case Lr=>k_is)
  (case Ls=>k_is)
  (case Lu=>k_is)
  (case Lv=>k_is)
  (case Lw=>k_is)
  (case Lx=>k_is)
  (case Ly=>k_is)
