import PyProof.Rows.All
import Wide.All
import OpenK.AllK
import Wide.FinOn
import Lean
import PyProof.EqAt
import PyProof.EqKinds
import PyProof.TupleCall
import PyProof.Rows.EqDataRows
import PyProof.DictList
import PyProof.FactsAll.dict_1
import PyProof.FactsAll.subtypes_4
import KE.KTryMore
import PyProof.WalksEnum
import PyProof.EnumMake
import PyProof.ListStr
import PyProof.TupleOfStr
import PyProof.Dict
import PyProof.ToksMono
import PyProof.StrCalls6
import PyProof.StrWalks
import PyProof.ConsumeWalk
import PyProof.CallStr
import PyProof.MeetsStr
import KE.KIntText
import PyProof.StrCalls2
import PyProof.StrOps2
import KE.KSortTup
import PyProof.WalksMore
import PyProof.TupleIter
import PyProof.ListRange
import KE.KRevIter
import PyProof.StrLawsIn
import PyProof.Rows.StrCut
import PySem.Challenge.RW_inkloom_k33_cursors_carried
set_option Elab.async false
set_option linter.all false
set_option maxRecDepth 100000
set_option compiler.extract_closed false
noncomputable section
open PySem.W (Frag InstAt callWith_K cellsFrom_some codeIn codeRec_of emptyDict exmOne fnOf handedIn hasDictIn hideAll hideAll_get instObj isFn keepIn kia_one kitOne kitx_dict kitx_list lookIn makesIn methodObj mg_none_of mg_of nsIn of_hideAll plainGet plainGet_of plainOver takerIn)
namespace L2
open PySem PySem.Spec PyProof.Rows
abbrev Key:=Sum Int Str
def p9:Key→Value→Bool
 | .inl k,v=>Value.isInt k v
 | .inr x,v=>Value.isStrOf x v
def OR(w:World):Key→Int
 | .inl k=>hashInt k
 | .inr x=>hashStr w x
theorem kA: ∀{k:Key} {v:Value},p9 k v=true→(∃i t,k=Sum.inl i∧v=Value.int i t)∨(∃x t,k=Sum.inr x∧v=Value.str x t)
 | .inl i,v,h=>by
  obtain⟨t,e⟩:=Value.isInt_shape (k:=i) (v:=v) h
  exact .inl ⟨i,t,rfl,e⟩
 | .inr x,v,h=>by
  obtain⟨t,e⟩:=Value.isStrOf_shape (x:=x) (v:=v) h
  exact .inr ⟨x,t,rfl,e⟩
theorem OS(i:Int)(t:Tok):p9 (.inl i) (.int i t)=true:=by simp[p9,Value.isInt]
theorem OT(x:Str)(t:Tok):p9 (.inr x) (.str x t)=true:=by simp[p9,Value.isStrOf]
theorem OU(a b:Int):decide ((Sum.inl a:Key)=Sum.inl b)=(a==b):=by
 by_cases e:a=b
 ·subst e;simp
 ·have h: ¬(Sum.inl a:Key)=Sum.inl b:=fun q=>e (Sum.inl.inj q)
  rw[decide_eq_false h]
  exact(beq_eq_false_iff_ne.mpr e).symm
theorem OV(a b:Str):decide ((Sum.inr a:Key)=Sum.inr b)=decide (a=b):=by
 by_cases e:a=b
 ·subst e;simp
 ·have h: ¬(Sum.inr a:Key)=Sum.inr b:=fun q=>e (Sum.inr.inj q)
  rw[decide_eq_false h,decide_eq_false e]
theorem OW(a:Int)(b:Str):decide ((Sum.inl a:Key)=Sum.inr b)=false:=decide_eq_false (fun q=>nomatch q)
theorem OX(a:Str)(b:Int):decide ((Sum.inr a:Key)=Sum.inl b)=false:=decide_eq_false (fun q=>nomatch q)
def dX(prog:Program)(w:World):PySem.KeyKind prog w Key where
 is:=p9
 hash:=OR w
 inj:=fun v a b ha hb=>by
  rcases kA ha with⟨i,t,rfl,rfl⟩ | ⟨x,t,rfl,rfl⟩
  ·rcases kA hb with⟨j,u,rfl,e⟩ | ⟨y,u,rfl,e⟩
   ·injection e with e1 _;rw[e1]
   ·exact nomatch e
  ·rcases kA hb with⟨j,u,rfl,e⟩ | ⟨y,u,rfl,e⟩
   ·exact nomatch e
   ·injection e with e1 _;rw[e1]
 byValue:=fun k v h=>by
  rcases kA h with⟨i,t,rfl,rfl⟩ | ⟨x,t,rfl,rfl⟩ <;>rfl
 pyHash:=fun hv h=>by
  rcases kA hv with⟨i,t,rfl,rfl⟩ | ⟨x,t,rfl,rfl⟩
  ·exact wpAny_pyHash_int h
  ·exact wpAny_pyHash_str h
 eqBool:=fun hu hv h=>by
  rcases kA hu with⟨i,t,rfl,rfl⟩ | ⟨x,t,rfl,rfl⟩
  ·rcases kA hv with⟨j,u,rfl,rfl⟩ | ⟨y,u,rfl,rfl⟩
   ·rw[OU] at h;exact wpAny_eqBool_int h
   ·rw[OW] at h;exact SeqAt.EqAt.int_str i t y u _ _ _ _ h
  ·rcases kA hv with⟨j,u,rfl,rfl⟩ | ⟨y,u,rfl,rfl⟩
   ·rw[OX] at h;exact SeqAt.EqAt.str_int x t j u _ _ _ _ h
   ·rw[OV] at h;exact wpAny_eqBool_str h
 «strs»:=fun k x t v h=>by
  rcases kA h with⟨i,u,rfl,e⟩ | ⟨y,u,rfl,e⟩
  ·exact nomatch e
  ·injection e with e1 _
   subst e1
   cases v<;>rfl
theorem FH(prog:Program)(w:World)(i:Int)(t:Tok):(dX prog w).is (.inl i) (.int i t)=true:=OS i t
theorem FI(prog:Program)(w:World)(x:Str)(t:Tok):(dX prog w).is (.inr x) (.str x t)=true:=OT x t
inductive V where
 | aD | bl (b:Bool) | int (i:Int) | str (x:Str) | fj (b:Array UInt8) | mL (b:UInt64) | ref (a:Addr) | ty (n:String)
 deriving DecidableEq
def RelV:V→Value→Prop
 | .aD,u=>u=Value.none
 | .bl b,u=>u=Value.bool b
 | .int i,u=> ∃t,u=Value.int i t
 | .str x,u=> ∃t,u=Value.str x t
 | .fj b,u=> ∃t,u=Value.bytes b t
 | .mL b,u=> ∃t,u=Value.float b t
 | .ref a,u=>u=Value.ref a
 | .ty n,u=>u=Value.type n
abbrev Vals:List V→List Value→Prop:=Paired RelV
theorem Vals.length{xs:List V}{us:List Value}(r:Vals xs us):xs.length=us.length:=Paired.length r
theorem Vals.get: ∀{xs:List V} {us:List Value} {i:Nat} {x:V},Vals xs us→xs[i]?=some x→ ∃u,us[i]?=some u∧RelV x u
 | _,_,_,_, .nil,e=>by simp at e
 | _,_,0,_, .cons r _,e=>by simp at e;subst e;exact⟨_,rfl,r⟩
 | _,_,i+1,x, .cons _ t,e=>by
  obtain⟨u,h1,h2⟩:=Vals.get (i:=i) (x:=x) t (by simpa using e)
  exact⟨u,by simpa using h1,h2⟩
theorem Vals.set{x:V}{u:Value}(r:RelV x u): ∀{xs:List V} {us:List Value} (i:Nat),Vals xs us→Vals (xs.set i x) (us.set i u)
 | _,_,_, .nil=> .nil
 | _,_,0, .cons _ t=> .cons r t
 | _,_,i+1, .cons q t=> .cons q (Vals.set r i t)
theorem Vals.append: ∀{xs ys:List V} {us ws:List Value},Vals xs us→Vals ys ws→Vals (xs++ys) (us++ws)
 | _,_,_,_, .nil,s=>s
 | _,_,_,_, .cons r t,s=> .cons r (Vals.append t s)
theorem Vals.take: ∀{xs:List V} {us:List Value} (n:Nat),Vals xs us→Vals (xs.take n) (us.take n)
 | _,_,0,_=> .nil
 | _,_,_+1, .nil=> .nil
 | _,_,n+1, .cons r t=> .cons r (Vals.take n t)
theorem Vals.drop: ∀{xs:List V} {us:List Value} (n:Nat),Vals xs us→Vals (xs.drop n) (us.drop n)
 | _,_,0,r=>r
 | _,_,_+1, .nil=> .nil
 | _,_,n+1, .cons _ t=>Vals.drop n t
def fM:Option V→Option Value→Prop
 | some v,some u=>RelV v u
 | none,none=>True
 | _,_=>False
def KV{κ:Type}:List (κ×V)→List (κ×Value)→Prop:=Paired fun(p:κ×V) (q:κ×Value)=>p.1=q.1∧RelV p.2 q.2
def kV:Key→V
 | .inl i=> .int i
 | .inr x=> .str x
inductive HO where
 | lst (xs:List V)
 | tup (xs:List V)
 | dK (av:List (Key×V)) | dT (av:List (List Key×V))
 | set (S:Int→Bool) (n:Nat)
 | ins (C dx:Addr) (fs:List (Str×V))
 | own (x:Addr)
 | xd (fs:List (Str×V))
 | met (f x:Addr)
 | fk (lo hi:Int)
 | bz (o:Obj) (u:HO)
 | jL (ps:Array Value)
 | ext (φ:Heap→Prop)
abbrev Hp:=Addr→Option HO
def upd(H:Hp)(a:Addr)(o:HO):Hp:=fun b=>if b=a then some o else H b
theorem aw{H:Hp}{a:Addr}{o:HO}:upd H a o a=some o:=by unfold upd;rw[if_pos rfl]
theorem aG{H:Hp}{a b:Addr}{o:HO}(h:b≠a):upd H a o b=H b:=by unfold upd;rw[if_neg h]
theorem FJ{H:Hp}{a b:Addr}{o u:HO}(h:H a=some o)(h':H b=some u)(d:o≠u):a≠b:=by
 intro e;subst e;rw[h] at h';exact d (Option.some.inj h')
theorem bD{H:Hp}{a b:Addr}{o:HO}(h:H a=some o)(h':H b=none):a≠b:=by
 intro e;subst e;rw[h] at h';cases h'
section
variable (P:Program) (w:World)
def cm(H:Hp)(h:Heap)(a:Addr):HO→Prop
 | .lst xs=>xs.length≤sizeLine∧ ∃(its:List Value) (n:Nat),Vals xs its∧h.get? a=some {cls:= .type "list",data:= .seq its.toArray n}
 | .tup xs=>xs.length≤sizeLine∧ ∃its:List Value,Vals xs its∧IsTup h a its.toArray
 | .dK av=>av.length≤sizeLine∧(a==sysModules)=false∧ ∃vs,KV av vs∧h.DictOf (dX P w) a vs
 | .dT av=>av.length≤sizeLine∧(a==sysModules)=false∧ ∃xs:List (List Key×Addr×Value),
   Paired (fun(p:List Key×V) (q:List Key×Addr×Value)=>p.1=q.1∧H q.2.1=some (.tup (p.1.map kV))∧RelV p.2 q.2.2) av xs∧
   ∃o es ep,h.get? a=some o∧o.ExactDict∧o.data= .dict es ep∧es.toList=xs.map (entryOfKey (tupleKind (dX P w)))∧(xs.map (·.1)).Nodup
 | .set S n=>h.SetOf (intKind P w) a S n
 | .ins C dx fs=>H dx=some (.own a)∧fs.length≤1000∧dx≠a∧h.get? a=some (instObj C dx)∧
   ∃mA,h.Ns1 dx mA∧(∀f,fM (fs.lookup f) (mA f))∧PySem.Within mA (fs.map (·.1))
 | .own _=> ∃o,h.get? a=some o
 | .xd fs=> ∃mA,h.Ns1 a mA∧ ∀f,fM (fs.lookup f) (mA f)
 | .fk lo hi=> ∃t u v,h.get? a=some {cls:= .type "range",data:= .fields #[.int lo t, .int hi u, .int 1 v]}
 | .bz o u=>h.get? a=some o∧cm H h a u
 | .jL ps=>h.get? a=some {cls:= .none,data:= .fields ps}
 | .met f x=>h.get? a=some (methodObj (.ref f) (.ref x))
 | .ext φ=>φ h∧(∃o,h.get? a=some o)∧ ∀h1 h2:Heap,φ h1→(∀o,h1.get? a=some o→h2.get? a=some o)→φ h2
def bN(H:Hp)(h:Heap):Prop:= ∀a o,H a=some o→cm P w H h a o
end
section
variable {P:Program} {w:World} {H H':Hp} {h h':Heap} {a:Addr} {o:HO}
theorem cm.lt(x:cm P w H h a o):a<h.objs.size:=by
 cases o with
 | lst xs=>obtain⟨_,_,_,_,e⟩:=x;exact Heap.lt_size e
 | tup xs=>obtain⟨_,_,_,p⟩:=x;exact p.lt
 | dK av=>obtain⟨_,_,_,_,o,_,_,e,_⟩:=x;exact Heap.lt_size e
 | dT av=>obtain⟨_,_,_,_,o,_,_,e,_⟩:=x;exact Heap.lt_size e
 | set S n=>obtain⟨o,_,_,_,e,_⟩:=x;exact Heap.lt_size e
 | ins C dx fs=>obtain⟨_,_,_,e,_⟩:=x;exact Heap.lt_size e
 | own y=>obtain⟨_,e⟩:=x;exact Heap.lt_size e
 | xd fs=>obtain⟨_,⟨_,_,_,e,_⟩,_⟩:=x;exact Heap.lt_size e
 | fk lo hi=>obtain⟨_,_,_,e⟩:=x;exact Heap.lt_size e
 | bz ob u=>obtain⟨e,_⟩:=x;exact Heap.lt_size e
 | jL ps=>exact Heap.lt_size (show h.get? a=some _ from x)
 | met f y=>exact Heap.lt_size (show h.get? a=some _ from x)
 | ext φ=>obtain⟨_,⟨_,e⟩,_⟩:=x;exact Heap.lt_size e
theorem Paired.eQ{α β:Type}{F G:α→β→Prop}: ∀{l₁:List α} {l₂:List β},Paired F l₁ l₂→(∀a b,F a b→G a b)→Paired G l₁ l₂
 | _,_, .nil,_=> .nil
 | _,_, .cons r t,f=> .cons (f _ _ r) (Paired.eQ t f)
theorem cm.iE(x:cm P w H h a o)(k: ∀b u,(b=a∨H b=some (.own a))→h.get? b=some u→h'.get? b=some u)
  (ho: ∀b,H b=some (.own a)→H' b=some (.own a)) (ht: ∀b xs,H b=some (.tup xs)→H' b=some (.tup xs)):cm P w H' h' a o:=by
 induction o with
 | lst xs=>obtain⟨z,its,n,r,e⟩:=x;exact⟨z,its,n,r,k _ _ (.inl rfl) e⟩
 | tup xs=>obtain⟨z,its,r,ob,e,c⟩:=x;exact⟨z,its,r,ob,k _ _ (.inl rfl) e,c⟩
 | dK av=>obtain⟨z,y,vs,r,ob,es,ep,e,c⟩:=x;exact⟨z,y,vs,r,ob,es,ep,k _ _ (.inl rfl) e,c⟩
 | dT av=>
  obtain⟨z,y,xs,r,ob,es,ep,e,c⟩:=x
  exact⟨z,y,xs,Paired.eQ r fun p q z=> ⟨z.1,ht _ _ z.2.1,z.2.2⟩,ob,es,ep,k _ _ (.inl rfl) e,c⟩
 | set S n=>obtain⟨ob,es,ep,t,e,c⟩:=x;exact⟨ob,es,ep,t,k _ _ (.inl rfl) e,c⟩
 | ins C dx fs=>
  obtain⟨d,z,ne,e,mA,⟨od,es,ep,e2,c⟩,r⟩:=x
  exact⟨ho _ d,z,ne,k _ _ (.inl rfl) e,mA,⟨od,es,ep,k _ _ (.inr d) e2,c⟩,r⟩
 | own y=>obtain⟨ob,e⟩:=x;exact⟨ob,k _ _ (.inl rfl) e⟩
 | xd fs=>obtain⟨mA,⟨od,es,ep,e,c⟩,r⟩:=x;exact⟨mA,⟨od,es,ep,k _ _ (.inl rfl) e,c⟩,r⟩
 | fk lo hi=>obtain⟨t,u,v,e⟩:=x;exact⟨t,u,v,k _ _ (.inl rfl) e⟩
 | bz ob u ih=>obtain⟨e,q⟩:=x;exact⟨k _ _ (.inl rfl) e,ih q⟩
 | jL ps=>
  have e:h.get? a=some {cls:= .none,data:= .fields ps}:=x
  show h'.get? a=some {cls:= .none,data:= .fields ps}
  exact k a _ (.inl rfl) e
 | met f y=>
  have e:h.get? a=some (methodObj (.ref f) (.ref y)):=x
  show h'.get? a=some (methodObj (.ref f) (.ref y))
  exact k a _ (.inl rfl) e
 | ext φ=>obtain⟨p,⟨o,e⟩,st⟩:=x;exact⟨st _ _ p fun o q=>k _ _ (.inl rfl) q,⟨o,k _ _ (.inl rfl) e⟩,st⟩
theorem bN.lt(x:bN P w H h)(e:H a=some o):a<h.objs.size:=(x a o e).lt
theorem bN.fresh(x:bN P w H h)(e:h.objs.size≤a):H a=none:=by
 cases q:H a with
 | none=>rfl
 | some u=>exact absurd (Nat.lt_of_lt_of_le (x.lt q) e) (Nat.lt_irrefl _)
theorem bN.kept(x:bN P w H h)(k: ∀b u,h.get? b=some u→h'.get? b=some u):bN P w H h':=fun a o e=>
 (x a o e).iE (fun b u _ q=>k b u q) (fun _ q=>q) fun _ _ q=>q
theorem bN.laid(x:bN P w H h)(k: ∀b u,h.get? b=some u→h'.get? b=some u)(hp:h.objs.size≤a)(new:cm P w (upd H a o) h' a o):bN P w (upd H a o) h':=fun b u e=>by
 have hn:=x.fresh hp
 by_cases hb:b=a
 ·subst hb;rw[aw] at e;cases e;exact new
 ·rw[aG hb] at e
  exact(x b u e).iE (fun c v _ q=>k c v q) (fun c q=>by rw[aG (bD q hn)];exact q) fun c xs q=>by rw[aG (bD q hn)];exact q
end
def Rd(H:Hp)(a:Addr)(u:HO):Prop:=H a=some u∨ ∃o,H a=some (.bz o u)
theorem Rd.ok{P:Program}{w:World}{H:Hp}{h:Heap}{a:Addr}{u:HO}(r:Rd H a u)(x:bN P w H h):cm P w H h a u:=by
 rcases r with r | ⟨o,r⟩
 ·exact x a u r
 ·obtain⟨_,q⟩:=x a _ r
  exact q
def sG:Option HO→Prop
 | some (.lst _)=>True
 | some (.dK _)=>True
 | some (.dT _)=>True
 | some (.set _ _)=>True
 | some (.ins _ _ _)=>True
 | some (.ext _)=>True
 | _=>False
section
variable {P:Program} {w:World} {H:Hp} {h h':Heap} {x e:Addr} {o':HO}
theorem bN.write(ok:bN P w H h)(mu:sG (H x))(he:e=x∨H e=some (.own x))(k: ∀b u,b≠e→h.get? b=some u→h'.get? b=some u)(p_: ∃u,h'.get? e=some u)
  (new:cm P w (upd H x o') h' x o'):bN P w (upd H x o') h':=fun b u q=>by
 have FK: ∀c y,H c=some (.own y)→c≠x:=fun c y r z=>by subst z;rw[r] at mu;exact mu
 have OY: ∀c xs,H c=some (.tup xs)→c≠x:=fun c xs r z=>by subst z;rw[r] at mu;exact mu
 by_cases hb:b=x
 ·subst hb;rw[aw] at q;cases q;exact new
 ·rw[aG hb] at q
  by_cases oj:b=e
  ·have q':H b=some (.own x):=by
    rcases he with z | z
    ·exact absurd (oj.trans z) hb
    ·rw[oj];exact z
   rw[q] at q';cases q'
   obtain⟨v,hv⟩:=p_
   exact⟨v,by rw[oj];exact hv⟩
  ·refine(ok b u q).iE (fun c v hc r=>k c v ?_ r) (fun c r=>by rw[aG (FK c b r)];exact r) fun c xs r=>by rw[aG (OY c xs r)];exact r
   rcases hc with rfl | hc
   ·exact oj
   ·rintro rfl
    rcases he with z | z
    ·exact FK c b hc z
    ·rw[hc] at z;cases z;exact hb rfl
end
structure Un (fs ex:List Addr) (H H':Hp) (h h':Heap):Prop where
 keep: ∀b o,h.get? b=some o→H b=none→b∉fs→b∉ex→h'.get? b=some o
 slot: ∀b o,h.get? b=some o→H b=none→b∈fs→b∉ex→ ∃sl,h'.get? b=some {o with slots:=sl}
 free: ∀b o,h.get? b=some o→H b=none→b∉ex→H' b=none
 there: ∀b o,h.get? b=some o→b∉ex→ ∃o',h'.get? b=some o'
 eR: ∀b xs,H b=some (.tup xs)→H' b=some (.tup xs)
 eS: ∀b o u,H b=some (.bz o u)→H' b=some (.bz o u)
 fN: ∀b ps,H b=some (.jL ps)→ ∃more,H' b=some (.jL (ps++more))
section
variable {fs OZ ex ex':List Addr} {H H1 H2:Hp} {h h1 h2 h':Heap} {a x e:Addr} {o:HO}
theorem Un.any(u:Un fs ex H H1 h h1){b:Addr}{ob:Obj}(q:h.get? b=some ob)(n:H b=none)(hx:b∉ex): ∃sl,h1.get? b=some {ob with slots:=sl}:=by
 by_cases hb:b∈fs
 ·exact u.slot b ob q n hb hx
 ·exact⟨ob.slots,u.keep b ob q n hb hx⟩
theorem Un.kept(k: ∀b u,h.get? b=some u→h'.get? b=some u):Un fs ex H H h h':=
 ⟨fun b ob q _ _ _=>k b ob q,fun b ob q _ _ _=> ⟨ob.slots,k b ob q⟩,fun _ _ _ n _=>n,fun b ob q _=> ⟨ob,k b ob q⟩,fun _ _ q=>q,fun _ _ _ q=>q,fun _ ps q=> ⟨#[],by rw[q];simp⟩⟩
theorem Un.refl:Un fs ex H H h h:=Un.kept fun _ _ q=>q
theorem Un.laid(k: ∀b u,h.get? b=some u→h'.get? b=some u)(hp:h.objs.size≤a)(hn:H a=none):Un fs ex H (upd H a o) h h' where
 keep:=fun b u q _ _ _=>k b u q
 slot:=fun b u q _ _ _=> ⟨u.slots,k b u q⟩
 free:=fun b u q n _=>by rw[aG (Nat.ne_of_lt (Nat.lt_of_lt_of_le (Heap.lt_size q) hp))];exact n
 there:=fun b u q _=> ⟨u,k b u q⟩
 eR:=fun b xs q=>by rw[aG (bD q hn)];exact q
 eS:=fun b u xs q=>by rw[aG (bD q hn)];exact q
 fN:=fun b ps q=> ⟨#[],by rw[aG (bD q hn),q];simp⟩
theorem Un.write(mu:sG (H x))(he:e=x∨H e=some (.own x))(k: ∀b u,b≠e→h.get? b=some u→h'.get? b=some u)(p_: ∃u,h'.get? e=some u):Un fs ex H (upd H x o) h h':=by
 have hx: ∀b,H b=none→b≠x:=fun b n z=>by subst z;rw[n] at mu;exact mu
 have hb: ∀b,H b=none→b≠e:=fun b n z=>by
  subst z
  rcases he with r | r
  ·exact hx b n r
  ·rw[n] at r;cases r
 have hm: ∀b u,H b=some u→ ¬sG (some u)→b≠x:=fun b u q nm z=>by subst z;rw[q] at mu;exact nm mu
 refine⟨fun b u q n _ _=>k b u (hb b n) q,fun b u q n _ _=> ⟨u.slots,k b u (hb b n) q⟩,fun b u q n _=>by rw[aG (hx b n)];exact n,fun b u q _=> ?_,
  fun b xs q=>by rw[aG (hm b _ q fun z=>z)];exact q,fun b u xs q=>by rw[aG (hm b _ q fun z=>z)];exact q,fun b ps q=> ⟨#[],by rw[aG (hm b _ q fun z=>z),q];simp⟩⟩
 by_cases oj:b=e
 ·subst oj;exact p_
 ·exact⟨u,k b u oj q⟩
end
def jM(h:Heap)(H:Hp):List Addr:=(List.range h.objs.size).filter fun a=> (H a).isSome
def kD(h:Heap)(H:Hp):Heap:=hideAll h (jM h H)
theorem O0(h:Heap)(H:Hp):(kD h H).objs.size=h.objs.size:=PySem.W.hideAll_size _ _
theorem O1{h:Heap}{H:Hp}{b:Addr}{o:Obj}(e:h.get? b=some o)(n:H b=none):(kD h H).get? b=some o:=
 hideAll_get _ e fun hm=>by
  have q:(H b).isSome=true:=(List.mem_filter.mp hm).2
  rw[n] at q;simp at q
theorem O2{h:Heap}{H:Hp}{b:Addr}{o:Obj}(e:(kD h H).get? b=some o):h.get? b=some o∧H b=none:=by
 have e':h.get? b=some o:=of_hideAll (jM h H) e
 refine⟨e', ?_⟩
 cases q:H b with
 | none=>rfl
 | some x=>
  have hm:b∈jM h H:=List.mem_filter.mpr ⟨List.mem_range.mpr (Heap.lt_size e'),by simp[q]⟩
  have z:(kD h H).get? b=none:=PySem.W.hideAll_none (jM h H) hm
  rw[z] at e;cases e
structure Mod (K:Frag) (mg:Str→Option Value) (base:Heap):Prop where
 om:K.In base
 glob:base.Ns mainGlobals mg
 blt: ∃mb,base.Ns builtinsNs mb∧ ∀x:Str,x≠"__name__"→mb x=bootBuiltins x
 nolimit:base.NoLimit
structure Cx where
 prog:Program
 w:World
 K:Frag
 mg:Str→Option Value
 base:Heap
 A:Around
 N:List Str
 s₀:Shared
 H₀:Hp
 env:Env
 outer:List Env
 stack:List Env
 ex:List Addr
 fn:Str→Bool
 calm:Bool
 pn:List (Addr×Obj)
 xe:Value→Shared→Prop
def br(l:List Env):List Addr:=l.filterMap (·.frame)
abbrev Cx.fs(X:Cx):List Addr:=br X.outer
def we(sc:Scope)(x:Str):Prop:=sc.names.lookup x=some .local∨sc.names.lookup x=some .cell∨sc.names.lookup x=some .free
def Loc(sc:Scope)(x:Str):Prop:=sc.names.lookup x=some .local∨sc.names.lookup x=some .cell
def Look(env:Env)(h:Heap)(m:Str→Option Value)(x:Str)(u:Value):Prop:=
 (env.kindOf x=some .local∧m x=some u)∨((env.kindOf x=some .cell∨env.kindOf x=some .free)∧ ∃c,env.cells.lookup x=some c∧h.IsCell c (some u))
structure Cx.Ok (X:Cx):Prop where
 mod:Mod X.K X.mg X.base
 kind:X.env.scope.kind= .function
 glob:X.env.globals=mainGlobals
 blt:X.env.builtins=builtinsNs
 above:X.s₀.heap.objs.size≤X.env.locals
 inj: ∀x y c,X.env.cells.lookup x=some c→X.env.cells.lookup y=some c→x=y
 has: ∀x,(X.env.kindOf x=some .cell∨X.env.kindOf x=some .free)→ ∃c,X.env.cells.lookup x=some c
 wg: ∀x c,X.fn x=true→X.env.cells.lookup x=some c→X.s₀.heap.objs.size≤c
 hd:X.calm=true→X.A.handled=none
 frames:X.A.frames=some X.stack
 iG:X.stack=X.outer∨(X.stack=X.env::X.outer∧X.env.frame=some X.env.locals)
 O3: ∀b∈X.ex,b≠X.env.locals∧ ∀x c,X.env.cells.lookup x=some c→c≠b
 bs: ∀b o,X.base.get? b=some o→X.s₀.heap.get? b=some o∧X.H₀ b=none
 mM:X.base.objs.size≤X.s₀.heap.objs.size
 wj: ∀b o,X.base.get? b=some o→b∉X.ex
 wk: ∀b∈X.ex,b∉X.fs
 iH:X.s₀.heap.FunFrames X.base X.outer
 oo: ∀b∈X.fs,X.H₀ b=none
structure Inv (X:Cx) (pins:List (Addr×Obj)) (σ:List (Option V)) (H:Hp) (s:Shared):Prop where
 ok:X.Ok
 os:s.os=X.s₀.os
 bare:AllBare s.gens
 base:Un X.fs X.ex X.H₀ H X.s₀.heap s.heap
 loc: ∃m,s.heap.Ns X.env.locals m∧ ∀(i:Nat) (x:Str) (v:V),X.N[i]?=some x→σ[i]?=some (some v)→we X.env.scope x→ ∃u,RelV v u∧Look X.env s.heap m x u
 cell: ∀x c,X.env.cells.lookup x=some c→ ∃v,s.heap.IsCell c v
 free:H X.env.locals=none
 gu: ∀x c,X.env.cells.lookup x=some c→H c=none
 pin: ∀p∈X.pn++pins,s.heap.get? p.1=some p.2∧H p.1=none∧p.1≠X.env.locals∧p.1∉X.fs∧ ∀v,p.2.data≠ .cell v
 aE:bN X.prog X.w H s.heap
 len:σ.length=X.N.length
section
variable {X:Cx} {pins:List (Addr×Obj)} {σ:List (Option V)} {H H':Hp} {s:Shared} {h':Heap}
theorem Cx.Ok.O4(ok:X.Ok){b:Addr}{o:Obj}(e:X.base.get? b=some o):b∉X.fs:=fun hb=>by
 have:=(ok.iH.mem hb).1
 rw[e] at this;cases this
theorem Inv.bs(I:Inv X pins σ H s): ∀b o,X.base.get? b=some o→s.heap.get? b=some o∧H b=none:=fun b o e=>
 ⟨I.base.keep b o (I.ok.bs b o e).1 (I.ok.bs b o e).2 (I.ok.O4 e) (I.ok.wj b o e),I.base.free b o (I.ok.bs b o e).1 (I.ok.bs b o e).2 (I.ok.wj b o e)⟩
theorem Inv.bk(I:Inv X pins σ H s): ∀b o,X.base.get? b=some o→s.heap.get? b=some o:=fun b o e=> (I.bs b o e).1
theorem Inv.mod(I:Inv X pins σ H s):Mod X.K X.mg X.base:=I.ok.mod
theorem Inv.cT(I:Inv X pins σ H s):X.K.In s.heap:=I.ok.mod.om.keeps I.bk
theorem Inv.lt(I:Inv X pins σ H s):X.env.locals<s.heap.objs.size:=let ⟨_,hn,_⟩:=I.loc;hn.lt
theorem Inv.sz(I:Inv X pins σ H s):X.s₀.heap.objs.size≤s.heap.objs.size:=Nat.le_trans I.ok.above (Nat.le_of_lt I.lt)
theorem Inv.FL(I:Inv X pins σ H s){a:Addr}(h:s.heap.objs.size≤a):a∉X.fs:=fun hb=>by
 obtain⟨_,o,ho,_⟩:=I.ok.iH.mem hb
 exact absurd (Nat.lt_of_lt_of_le (Heap.lt_size ho) (Nat.le_trans I.sz h)) (Nat.lt_irrefl _)
theorem Inv.oq(I:Inv X pins σ H s): ∀x c,X.env.cells.lookup x=some c→c≠X.env.locals:=fun x c e z=>by
 obtain⟨v,o,ho,hd⟩:=I.cell x c e
 obtain⟨m,⟨o',es,ep,dO,qc,_⟩,_⟩:=I.loc
 rw[z,dO] at ho;cases ho;rw[qc] at hd;cases hd
theorem Inv.iH(I:Inv X pins σ H s):s.heap.FunFrames X.base X.outer:=by
 have all: ∀(l:List Env),(∀b∈br l,b∈X.fs)→X.s₀.heap.FunFrames X.base l→s.heap.FunFrames X.base l:=by
  intro l
  induction l with
  | nil=>intro _ _;trivial
  | cons env r ih=>
   intro hs hl
   obtain⟨hk,⟨L,o,hf,hn,ho,hd⟩,hr⟩:=hl
   have hL:L∈X.fs:=hs L (by unfold br;rw[List.filterMap_cons,hf];exact List.mem_cons_self)
   obtain⟨sl,e⟩:=I.base.slot L o ho (I.ok.oo L hL) hL fun z=>I.ok.wk L z hL
   exact⟨hk,⟨L,_,hf,hn,e,hd⟩,ih (fun b hb=>hs b (by unfold br;rw[List.filterMap_cons,hf];exact List.mem_cons_of_mem _ hb)) hr⟩
 exact all X.outer (fun _ hb=>hb) I.ok.iH
theorem Inv.stack(I:Inv X pins σ H s):s.heap.FunFrames X.base X.stack:=by
 rcases I.ok.iG with e | ⟨e,hf⟩
 ·rw[e];exact I.iH
 ·rw[e]
  obtain⟨m,hn,_⟩:=I.loc
  refine .cons (by rw[I.ok.kind];decide) hf hn ?_ I.iH
  exact Heap.get?_none_of_le (Nat.le_trans I.ok.mM I.ok.above)
theorem Inv.wm(I:Inv X pins σ H s): ∀b∈br X.stack,b∈X.env.locals::X.fs:=fun b hb=>by
 rcases I.ok.iG with e | ⟨e,hf⟩
 ·rw[e] at hb;exact List.mem_cons_of_mem _ hb
 ·rw[e] at hb
  unfold br at hb
  rw[List.filterMap_cons,hf] at hb
  exact hb
theorem Inv.wo(I:Inv X pins σ H s): ∀b∈br X.stack,H b=none:=fun b hb=>by
 rcases List.mem_cons.mp (I.wm b hb) with e | hb
 ·rw[e];exact I.free
 ·obtain⟨_,o,ho,_⟩:=I.ok.iH.mem hb
  exact I.base.free b o ho (I.ok.oo b hb) fun z=>I.ok.wk b z hb
theorem Inv.step{g':Array GenState}{t':Nat}{d':Drawn}{ch:List Addr}(I:Inv X pins σ H s)
  (ez: ∀b∈ch,(b∈X.ex∨X.s₀.heap.objs.size≤b)∧b≠X.env.locals∧(∀x c,X.env.cells.lookup x=some c→c≠b)∧ ∀p∈X.pn++pins,p.1≠b)
  (keep: ∀b o,b≠X.env.locals→b∉X.fs→b∉ch→s.heap.get? b=some o→H b=none→h'.get? b=some o)
  (slot: ∀b o,b≠X.env.locals→b∈X.fs→b∉ch→s.heap.get? b=some o→H b=none→ ∃sl,h'.get? b=some {o with slots:=sl}) (free: ∀b o,b∉ch→s.heap.get? b=some o→H b=none→H' b=none)
  (there: ∀b o,b∉ch→s.heap.get? b=some o→ ∃o',h'.get? b=some o')
  (eR: ∀b xs,H b=some (.tup xs)→H' b=some (.tup xs)) (eS: ∀b o u,H b=some (.bz o u)→H' b=some (.bz o u)) (fN: ∀b ps,H b=some (.jL ps)→ ∃more,H' b=some (.jL (ps++more)))
  (ns: ∀m,s.heap.Ns X.env.locals m→h'.Ns X.env.locals m) (aE:bN X.prog X.w H' h') (hg:AllBare g'):
  Inv X pins σ H' {s with heap:=h',gens:=g',drawn:=d',toks:=t'}:=by
 have FN: ∀b o,X.s₀.heap.get? b=some o→b≠X.env.locals:=fun b o e=>Nat.ne_of_lt (Nat.lt_of_lt_of_le (Heap.lt_size e) I.ok.above)
 have wq: ∀b o,X.s₀.heap.get? b=some o→b∉X.ex→b∉ch:=fun b o e hx hb=>by
  rcases (ez b hb).1 with z | z
  ·exact hx z
  ·exact absurd (Nat.lt_of_lt_of_le (Heap.lt_size e) z) (Nat.lt_irrefl _)
 have cellK: ∀x c,X.env.cells.lookup x=some c→ ∀v,s.heap.IsCell c v→h'.IsCell c v:=fun x c e v ⟨o,ho,hd⟩=>by
  have sJ:c∉ch:=fun z=> (ez c z).2.2.1 x c e rfl
  by_cases hc:c∈X.fs
  ·obtain⟨sl,q⟩:=slot c o (I.oq x c e) hc sJ ho (I.gu x c e)
   exact⟨_,q,hd⟩
  ·exact⟨o,keep c o (I.oq x c e) hc sJ ho (I.gu x c e),hd⟩
 refine⟨I.ok,I.os,hg,⟨fun b o e n hb hx=> ?_,fun b o e n hb hx=> ?_,fun b o e n hx=> ?_,fun b o e hx=> ?_,fun b xs e=>eR b xs (I.base.eR b xs e),fun b o xs e=>eS b o xs (I.base.eS b o xs e),fun b ps e=> ?_⟩, ?_,fun x c e=> ?_, ?_,fun x c e=> ?_,fun p hp=> ?_,aE,I.len⟩
 ·exact keep b o (FN b o e) hb (wq b o e hx) (I.base.keep b o e n hb hx) (I.base.free b o e n hx)
 ·obtain⟨sl,e1⟩:=I.base.slot b o e n hb hx
  obtain⟨zE,e2⟩:=slot b _ (FN b o e) hb (wq b o e hx) e1 (I.base.free b o e n hx)
  exact⟨zE,e2⟩
 ·obtain⟨o',e1⟩:=I.base.there b o e hx
  exact free b o' (wq b o e hx) e1 (I.base.free b o e n hx)
 ·obtain⟨o',e1⟩:=I.base.there b o e hx
  exact there b o' (wq b o e hx) e1
 ·obtain⟨m1,e1⟩:=I.base.fN b ps e
  obtain⟨m2,e2⟩:=fN b _ e1
  exact⟨m1++m2,by rw[e2,Array.append_assoc]⟩
 ·obtain⟨m,hn,hl⟩:=I.loc
  refine⟨m,ns m hn,fun i x v e1 e2 e3=> ?_⟩
  obtain⟨u,r,l⟩:=hl i x v e1 e2 e3
  refine⟨u,r, ?_⟩
  rcases l with l | ⟨k,c,e,z⟩
  ·exact .inl l
  ·exact .inr ⟨k,c,e,cellK x c e _ z⟩
 ·obtain⟨v,z⟩:=I.cell x c e
  exact⟨v,cellK x c e v z⟩
 ·obtain⟨m,⟨o,_,_,ho,_⟩,_⟩:=I.loc
  exact free _ o (fun z=> (ez _ z).2.1 rfl) ho I.free
 ·obtain⟨v,o,ho,hd⟩:=I.cell x c e
  exact free c o (fun z=> (ez c z).2.2.1 x c e rfl) ho (I.gu x c e)
 ·obtain⟨e,n,ne,nf,d⟩:=I.pin p hp
  have sJ:p.1∉ch:=fun z=> (ez p.1 z).2.2.2 p hp rfl
  exact⟨keep p.1 p.2 ne nf sJ e n,free p.1 p.2 sJ e n,ne,nf,d⟩
theorem Inv.un{t':Nat}(I:Inv X pins σ H s)(u:Un X.fs [] H H' s.heap h')(aE:bN X.prog X.w H' h'):Inv X pins σ H' {s with heap:=h',toks:=t'}:=by
 obtain⟨m,⟨o,es,ep,ho,r⟩,_⟩:=id I.loc
 obtain⟨sl,hL⟩:=u.any ho I.free (by simp)
 exact I.step (g':=s.gens) (d':=s.drawn) (ch:=[]) (fun _ z=>nomatch z) (fun b o _ hb _ e n=>u.keep b o e n hb (by simp)) (fun b o _ hb _ e n=>u.slot b o e n hb (by simp)) (fun b o _ e n=>u.free b o e n (by simp)) (fun b o _ e=>u.there b o e (by simp)) u.eR u.eS u.fN (fun m' hm=>by
  obtain⟨o',zF,zG,dO,r'⟩:=hm
  rw[ho] at dO;cases dO
  exact⟨_,zF,zG,hL,r'⟩) aE I.bare
theorem Inv.call{g':Array GenState}{t':Nat}{d':Drawn}{ch:List Addr}(I:Inv X pins σ H s)(u:Un (br X.stack) ch H H' s.heap h')(aE:bN X.prog X.w H' h')(hg:AllBare g')
  (ez: ∀b∈ch,(b∈X.ex∨X.s₀.heap.objs.size≤b)∧b≠X.env.locals∧(∀x c,X.env.cells.lookup x=some c→c≠b)∧ ∀p∈X.pn++pins,p.1≠b):
  Inv X pins σ H' {s with heap:=h',gens:=g',drawn:=d',toks:=t'}:=by
 obtain⟨m,⟨o,es,ep,ho,r⟩,_⟩:=id I.loc
 obtain⟨sl,hL⟩:=u.any ho I.free fun z=> (ez _ z).2.1 rfl
 exact I.step (ch:=ch) ez (fun b o hL hb hc e n=>u.keep b o e n (fun z=> (List.mem_cons.mp (I.wm b z)).elim hL hb) hc) (fun b o _ _ hc e n=>u.any e n hc) (fun b o hc e n=>u.free b o e n hc) (fun b o hc e=>u.there b o e hc) u.eR u.eS u.fN (fun m' hm=>by
  obtain⟨o',zF,zG,dO,r'⟩:=hm
  rw[ho] at dO;cases dO
  exact⟨_,zF,zG,hL,r'⟩) aE hg
theorem Inv.turned{t':Nat}{it:Addr}(I:Inv X pins σ H s)(k: ∀b o,b≠it→s.heap.get? b=some o→h'.get? b=some o)(hn:H it=none)(hL:it≠X.env.locals)
  (h1:it∈X.ex∨X.s₀.heap.objs.size≤it) (h2: ∀x c,X.env.cells.lookup x=some c→c≠it) (h3: ∀p∈X.pn++pins,p.1≠it):Inv X pins σ H {s with heap:=h',toks:=t'}:=by
 have FO: ∀b u,H b=some u→b≠it:=fun b u e z=>by rw[z,hn] at e;cases e
 refine I.step (g':=s.gens) (d':=s.drawn) (ch:=[it]) (fun b hb=> ?_) (fun b o _ _ hc e _=>k b o (fun z=>hc (by simp[z])) e) (fun b o _ _ hc e _=> ⟨o.slots,k b o (fun z=>hc (by simp[z])) e⟩) (fun _ _ _ _ n=>n)
  (fun b o hc e=> ⟨o,k b o (fun z=>hc (by simp[z])) e⟩) (fun _ _ e=>e) (fun _ _ _ e=>e) (fun b ps e=> ⟨#[],by rw[e];simp⟩) (fun m hm=> ?_) (fun b u e=> ?_) I.bare
 ·have e:b=it:=by simpa using hb
  subst e
  exact⟨h1,hL,h2,h3⟩
 ·obtain⟨o,es,ep,ho,r⟩:=hm
  exact⟨o,es,ep,k _ o (Ne.symm hL) ho,r⟩
 ·refine(I.aE b u e).iE (fun c v hc q=>k c v ?_ q) (fun _ q=>q) fun _ _ q=>q
  rcases hc with z | z
  ·rw[z];exact FO b u e
  ·exact FO c _ z
theorem Inv.tok(I:Inv X pins σ H s)(t:Nat):Inv X pins σ H {s with toks:=t}:=I.un (h':=s.heap) (t':=t) Un.refl I.aE
theorem Inv.kept{t':Nat}(I:Inv X pins σ H s)(k: ∀b u,s.heap.get? b=some u→h'.get? b=some u):Inv X pins σ H {s with heap:=h',toks:=t'}:=I.un (Un.kept k) (I.aE.kept k)
theorem Inv.laid{a:Addr}{o:HO}{t':Nat}(I:Inv X pins σ H s)(k: ∀b u,s.heap.get? b=some u→h'.get? b=some u)(hp:s.heap.objs.size≤a)(new:cm X.prog X.w (upd H a o) h' a o):
  Inv X pins σ (upd H a o) {s with heap:=h',toks:=t'}:=I.un (Un.laid k hp (I.aE.fresh hp)) (I.aE.laid k hp new)
theorem Inv.write{x e:Addr}{o:HO}{t':Nat}(I:Inv X pins σ H s)(mu:sG (H x))(he:e=x∨H e=some (.own x))(k: ∀b u,b≠e→s.heap.get? b=some u→h'.get? b=some u)(p_: ∃u,h'.get? e=some u)
  (new:cm X.prog X.w (upd H x o) h' x o):Inv X pins σ (upd H x o) {s with heap:=h',toks:=t'}:=I.un (Un.write mu he k p_) (I.aE.write mu he k p_ new)
theorem Inv.qd{iI:List (Addr×Obj)}(I:Inv X pins σ H s)(h: ∀p∈iI,s.heap.get? p.1=some p.2∧H p.1=none∧p.1≠X.env.locals∧p.1∉X.fs∧ ∀v,p.2.data≠ .cell v):Inv X iI σ H s:=
 ⟨I.ok,I.os,I.bare,I.base,I.loc,I.cell,I.free,I.gu,fun p hp=> (List.mem_append.mp hp).elim (fun z=>I.pin p (List.mem_append_left _ z)) (h p),I.aE,I.len⟩
theorem FP{N:List Str}(hN:N.Nodup){i j:Nat}{x:Str}(a:N[i]?=some x)(b:N[j]?=some x):i=j:=by
 obtain⟨h1,e1⟩:=List.getElem?_eq_some_iff.mp a
 obtain⟨h2,e2⟩:=List.getElem?_eq_some_iff.mp b
 exact(List.getElem_inj hN).mp (e1.trans e2.symm)
theorem FQ{M:Model}{A:Around}{E:Value→Shared→Prop}{i:Nat}{x:Str}{v:V}{u:Value}{Q:Unit→Shared→Prop}(I:Inv X pins σ H s)(hN:X.N.Nodup)(hi:X.N[i]?=some x)(hx:Loc X.env.scope x)(r:RelV v u)
  (h: ∀s',Inv X pins (σ.set i (some v)) H s'→(∃a,Heap.SameBut a s.heap s'.heap∧(a=X.env.locals∨X.env.cells.lookup x=some a))→Q () s') (hf:X.fn x=true∨X.env.scope.names.lookup x=some .local:=by first | exact .inl rfl | exact .inr rfl | assumption):wpAny M A (storeName X.env x u) Q E s:=by
 obtain⟨m,hn,hl⟩:=id I.loc
 have O5:(X.env.scope.kind== .class || (X.env.scope.kind== .module && X.env.locals !=X.env.globals))=false:=by rw[I.ok.kind];rfl
 have FR:i<σ.length:=by rw[I.len];exact(List.getElem?_eq_some_iff.mp hi).1
 have oq:=I.oq
 have tracked: ∀{a:Addr} {h':Heap},(∃o,s.heap.get? a=some o∧H a=none)→Heap.SameBut a s.heap h'→bN X.prog X.w H h':=fun {a h'} ha hs b ob e=>by
  obtain⟨_,_,FT⟩:=ha
  refine(I.aE b ob e).iE (fun c w' hc q=> (hs.2 c ?_).trans q) (fun _ q=>q) fun _ _ q=>q
  rintro rfl
  rcases hc with rfl | hc
  ·rw[FT] at e;cases e
  ·rw[FT] at hc;cases hc
 rcases hx with hk | hk
 ·refine wpAny_storeName_local hk hn (fun h' zH hs=> ?_) O5
  obtain⟨oL,_,_,wt,_⟩:=id hn
  refine h _ ⟨I.ok,I.os,I.bare,⟨fun b o e n hb hx=> ?_,fun b o e n hb hx=> ?_,I.base.free,fun b o e hx=> ?_,I.base.eR,I.base.eS,I.base.fN⟩,⟨_,zH,fun j y v' e1 e2 e3=> ?_⟩,fun y c e=> ?_,I.free,I.gu,fun p hp=> ?_,tracked ⟨oL,wt,I.free⟩ hs,by simpa using I.len⟩ ⟨_,hs, .inl rfl⟩
  ·exact(hs.2 b (Nat.ne_of_lt (Nat.lt_of_lt_of_le (Heap.lt_size e) I.ok.above))).trans (I.base.keep b o e n hb hx)
  ·obtain⟨sl,e1⟩:=I.base.slot b o e n hb hx
   exact⟨sl,(hs.2 b (Nat.ne_of_lt (Nat.lt_of_lt_of_le (Heap.lt_size e) I.ok.above))).trans e1⟩
  ·obtain⟨o',e1⟩:=I.base.there b o e hx
   exact⟨o',(hs.2 b (Nat.ne_of_lt (Nat.lt_of_lt_of_le (Heap.lt_size e) I.ok.above))).trans e1⟩
  ·by_cases hj:j=i
   ·subst hj
    rw[hi] at e1;cases e1
    rw[List.getElem?_set_self FR] at e2
    cases e2
    exact⟨u,r, .inl ⟨hk,by simp⟩⟩
   ·rw[List.getElem?_set_ne (Ne.symm hj)] at e2
    obtain⟨u',r',q⟩:=hl j y v' e1 e2 e3
    refine⟨u',r', ?_⟩
    rcases q with⟨k,e⟩ | ⟨k,c,e,z⟩
    ·refine .inl ⟨k, ?_⟩
     have:y≠x:=fun e=>hj (FP hN e1 (e ▸ hi))
     simp[this,e]
    ·exact .inr ⟨k,c,e,z.sameBut hs (oq y c e)⟩
  ·obtain⟨w',z⟩:=I.cell y c e
   exact⟨w',z.sameBut hs (oq y c e)⟩
  ·obtain⟨e,n,ne,nf,d⟩:=I.pin p hp
   exact⟨(hs.2 p.1 ne).trans e,n,ne,nf,d⟩
 ·have zI:X.fn x=true:=by
   rcases hf with z | z
   ·exact z
   ·rw[z] at hk;cases hk
  obtain⟨c,hc⟩:=I.ok.has x (.inl hk)
  obtain⟨w',z⟩:=I.cell x c hc
  refine wpAny_storeName_cell I.ok.kind hk hc z (fun h' cn hs=> ?_)
  obtain⟨oc,FU,O6⟩:=id z
  refine h {s with heap:=h'} ⟨I.ok,I.os,I.bare,⟨fun b o e n hb hx=> ?_,fun b o e n hb hx=> ?_,I.base.free,fun b o e hx=> ?_,I.base.eR,I.base.eS,I.base.fN⟩,⟨m,hn.sameBut hs (Ne.symm (oq x c hc)),fun j y v' e1 e2 e3=> ?_⟩,fun y c' e=> ?_,I.free,I.gu,fun p hp=> ?_,tracked ⟨oc,FU,I.gu x c hc⟩ hs,by simpa using I.len⟩ ⟨c,hs, .inr hc⟩
  ·exact(hs.2 b (Nat.ne_of_lt (Nat.lt_of_lt_of_le (Heap.lt_size e) (I.ok.wg x c zI hc)))).trans (I.base.keep b o e n hb hx)
  ·obtain⟨sl,e1⟩:=I.base.slot b o e n hb hx
   exact⟨sl,(hs.2 b (Nat.ne_of_lt (Nat.lt_of_lt_of_le (Heap.lt_size e) (I.ok.wg x c zI hc)))).trans e1⟩
  ·obtain⟨o',e1⟩:=I.base.there b o e hx
   exact⟨o',(hs.2 b (Nat.ne_of_lt (Nat.lt_of_lt_of_le (Heap.lt_size e) (I.ok.wg x c zI hc)))).trans e1⟩
  ·by_cases hj:j=i
   ·subst hj
    rw[hi] at e1;cases e1
    rw[List.getElem?_set_self FR] at e2
    cases e2
    exact⟨u,r, .inr ⟨.inl hk,c,hc,cn⟩⟩
   ·rw[List.getElem?_set_ne (Ne.symm hj)] at e2
    obtain⟨u',r',q⟩:=hl j y v' e1 e2 e3
    refine⟨u',r', ?_⟩
    rcases q with q | ⟨k,c',e,z'⟩
    ·exact .inl q
    ·refine .inr ⟨k,c',e,z'.sameBut hs ?_⟩
     rintro rfl
     exact hj (FP hN e1 (I.ok.inj _ _ _ e hc ▸ hi))
  ·by_cases qe:c'=c
   ·subst qe;exact⟨_,cn⟩
   ·obtain⟨w2,z2⟩:=I.cell y c' e
    exact⟨w2,z2.sameBut hs qe⟩
  ·obtain⟨e,n,ne,nf,d⟩:=I.pin p hp
   refine⟨(hs.2 p.1 ?_).trans e,n,ne,nf,d⟩
   intro q
   rw[q,FU] at e
   have q':oc=p.2:=Option.some.inj e
   exact d w' (by rw[←q'];exact O6)
theorem zJ{M:Model}{A:Around}{E:Value→Shared→Prop}{i:Nat}{x:Str}{v:V}{u:Value}{Q:Unit→Shared→Prop}(I:Inv X pins σ H s)(hN:X.N.Nodup)(hi:X.N[i]?=some x)(hx:Loc X.env.scope x)(r:RelV v u)
  (h: ∀s',Inv X pins (σ.set i (some v)) H s'→Q () s') (hf:X.fn x=true∨X.env.scope.names.lookup x=some .local:=by first | exact .inl rfl | exact .inr rfl | assumption):wpAny M A (storeName X.env x u) Q E s:=
 FQ I hN hi hx r (fun s' I' _=>h s' I') hf
theorem Inv.zK{s':Shared}{ch:List Addr}(I:Inv X pins σ H s)(ho:s'.os=s.os)(u:Un (br X.stack) ch H H' s.heap s'.heap)(aE:bN X.prog X.w H' s'.heap)(hg:AllBare s'.gens)
  (ez: ∀b∈ch,(b∈X.ex∨X.s₀.heap.objs.size≤b)∧b≠X.env.locals∧(∀x c,X.env.cells.lookup x=some c→c≠b)∧ ∀p∈X.pn++pins,p.1≠b):Inv X pins σ H' s':=by
 obtain⟨h',g',d',t',o'⟩:=s'
 have e:o'=s.os:=ho
 subst e
 exact I.call (g':=g') (t':=t') (d':=d') u aE hg ez
end
abbrev XK:=Value→Option Addr→Hp→Prop
abbrev St:=List (Option V)
abbrev VK:=V→Hp→Prop
abbrev TE:=St→Hp→VK→Prop
abbrev TT:=St→Hp→(Bool→Hp→Prop)→Prop
abbrev TA:=St→Hp→(List V→Hp→Prop)→Prop
structure Ends where
 nx:St→Hp→Prop
 rt:VK
 bk:St→Hp→Prop:=fun _ _=>False
 ct:St→Hp→Prop:=fun _ _=>False
abbrev TS:=Ends→St→Hp→Prop
def EP(X:Cx)(pins:List (Addr×Obj))(σ:St)(Q:VK)(u:Value)(s':Shared):Prop:= ∃v H',Inv X pins σ H' s'∧RelV v u∧Q v H'
def TP(X:Cx)(pins:List (Addr×Obj))(σ:St)(Q:Bool→Hp→Prop)(b:Bool)(s':Shared):Prop:= ∃H',Inv X pins σ H' s'∧Q b H'
def AP(X:Cx)(pins:List (Addr×Obj))(σ:St)(Q:List V→Hp→Prop)(us:List Value)(s':Shared):Prop:= ∃vs H',Inv X pins σ H' s'∧Vals vs us∧Q vs H'
def SP(X:Cx)(pins:List (Addr×Obj))(D:Ends)(f:Flow)(s':Shared):Prop:=
 match f with
 | .next=> ∃σ' H',Inv X pins σ' H' s'∧D.nx σ' H'
 | .brk=> ∃σ' H',Inv X pins σ' H' s'∧D.bk σ' H'
 | .cont=> ∃σ' H',Inv X pins σ' H' s'∧D.ct σ' H'
 | .ret u=> ∃v σ' H',Inv X pins σ' H' s'∧RelV v u∧D.rt v H'
def PE(X:Cx)(e:Expr)(t:TE):Prop:=
 ∀(pins:List (Addr×Obj)) (s:Shared) (σ:St) (H:Hp) (Q:VK),Inv X pins σ H s→t σ H Q→wpAny (model X.prog X.w) X.A (eval e X.env) (EP X pins σ Q) X.xe s
def PT(X:Cx)(e:Expr)(t:TT):Prop:=
 ∀(pins:List (Addr×Obj)) (s:Shared) (σ:St) (H:Hp) (Q:Bool→Hp→Prop),Inv X pins σ H s→t σ H Q→wpAny (model X.prog X.w) X.A (isTrue e X.env (eval e X.env)) (TP X pins σ Q) X.xe s
def PW(X:Cx)(e:Expr)(t:TT):Prop:=
 ∀(whole:Sem Value) (pins:List (Addr×Obj)) (s:Shared) (σ:St) (H:Hp) (Q:Bool→Hp→Prop),Inv X pins σ H s→t σ H Q→wpAny (model X.prog X.w) X.A (isTrue e X.env whole) (TP X pins σ Q) X.xe s
theorem PW.pt{X:Cx}{e:Expr}{t:TT}(h:PW X e t):PT X e t:=h _
def PA(X:Cx)(es:List Expr)(t:TA):Prop:=
 ∀(pos:Pos) (pins:List (Addr×Obj)) (s:Shared) (σ:St) (H:Hp) (Q:List V→Hp→Prop),Inv X pins σ H s→t σ H Q→wpAny (model X.prog X.w) X.A (spliced (backTo pos (starEach es X.env))) (AP X pins σ Q) X.xe s
def PS(X:Cx)(st:Stmt)(t:TS):Prop:=
 ∀(pins:List (Addr×Obj)) (s:Shared) (σ:St) (H:Hp) (D:Ends),Inv X pins σ H s→t D σ H→wpAny (model X.prog X.w) X.A (exec st X.env) (SP X pins D) X.xe s
def dz(X:Cx)(st:List Stmt)(t:TS):Prop:=
 ∀(pins:List (Addr×Obj)) (s:Shared) (σ:St) (H:Hp) (D:Ends),Inv X pins σ H s→t D σ H→wpAny (model X.prog X.w) X.A (execs st X.env) (SP X pins D) X.xe s
theorem aK{α:Type}{t:Sem α}{Q Q':α→Shared→Prop}{M:Model}{A:Around}{E:Value→Shared→Prop}{s:Shared}(h:wpAny M A t Q E s)(hQ: ∀a s,Q a s→Q' a s):wpAny M A t Q' E s:=wpAny_mono h hQ fun _ _ x=>x
section
variable {X:Cx}
def zL(i:Nat):TE:=fun σ H Q=> ∃v,σ[i]?=some (some v)∧Q v H
def tC(v:V):TE:=fun _ H Q=>Q v H
theorem O7{i:Nat}{x:Str}{pos:Pos}(hN:X.N[i]?=some x)(hv:we X.env.scope x)(hd:(x==("__debug__":Str))=false:=by decide)(ia:(x==("__classdict__":Str))=false:=by decide):PE X (.Name x pos) (zL i):=by
 intro pins s σ H Q I h
 obtain⟨v,e,h⟩:=h
 obtain⟨m,hn,hl⟩:=I.loc
 obtain⟨u,r,l⟩:=hl i x v hN e hv
 have fin:EP X pins σ Q u s:=⟨v,H,I,r,h⟩
 rcases l with⟨hk,hm⟩ | ⟨hk,c,hc,FV⟩
 ·exact wpAny_Name (wpAny_loadName_local I.ok.kind hk hn hm fin) hd
 ·rcases hk with hk | hk
  ·exact wpAny_Name (wpAny_loadName_cell I.ok.kind hk hc FV fin) hd
  ·exact wpAny_Name (wpAny_loadName_free I.ok.kind hk hc FV fin ia) hd
theorem O8{i j pos}:PE X (.Constant (.int i) j pos) (tC (.int i)):=fun _ _ _ H _ I h=>wpAny_Constant_int ⟨.int i,H,I.tok _,⟨_,rfl⟩,h⟩
theorem O9{b j pos}:PE X (.Constant (.bool b) j pos) (tC (.bl b)):=fun _ _ _ H _ I h=>Constant_bool ⟨.bl b,H,I,rfl,h⟩
theorem O_{j pos}:PE X (.Constant .none j pos) (tC .aD):=fun _ _ _ H _ I h=>Constant_none ⟨.aD,H,I,rfl,h⟩
theorem Pa{x j pos}:PE X (.Constant (.str x) j pos) (tC (.str x)):=fun _ _ _ H _ I h=>Calls.Constant_str ⟨.str x,H,I.tok _,⟨_,rfl⟩,h⟩
def Gl(X:Cx)(x:Str):Prop:=X.env.kindOf x=some .globalImplicit
theorem sM{E:Value→Shared→Prop}{pins:List (Addr×Obj)}{s:Shared}{σ:St}{H:Hp}{x:Str}{u:Value}{pos:Pos}{Q:Value→Shared→Prop}(I:Inv X pins σ H s)(hg:Gl X x)(hm:X.mg x=some u)(h:Q u s)
  (hd:(x==("__debug__":Str))=false:=by decide):wpAny (model X.prog X.w) X.A (eval (.Name x pos) X.env) Q E s:=
 Calls.Name_function_global I.ok.kind hg (Calls.loadGlobal_global (by rw[I.ok.glob];exact I.mod.glob.keeps I.bk) hm h) hd
theorem ot{E:Value→Shared→Prop}{pins:List (Addr×Obj)}{s:Shared}{σ:St}{H:Hp}{x:Str}{u:Value}{pos:Pos}{Q:Value→Shared→Prop}(I:Inv X pins σ H s)(hg:Gl X x)(hm:X.mg x=none)(hv:bootBuiltins x=some u)(h:Q u s)
  (hn:x≠"__name__":=by decide) (hd:(x==("__debug__":Str))=false:=by decide):wpAny (model X.prog X.w) X.A (eval (.Name x pos) X.env) Q E s:=by
 obtain⟨mb,h1,h2⟩:=I.mod.blt
 exact Calls.Name_function_global I.ok.kind hg (Calls.loadGlobal_builtin (by rw[I.ok.glob];exact I.mod.glob.keeps I.bk) hm (by rw[I.ok.blt];exact h1.keeps I.bk) ((h2 x hn).trans hv) h) hd
theorem FW{x:Str}{v:V}{u:Value}{pos:Pos}(hg:Gl X x)(hm:X.mg x=some u)(r:RelV v u)(hd:(x==("__debug__":Str))=false:=by decide):PE X (.Name x pos) (tC v):=
 fun _ _ _ H _ I h=>sM I hg hm ⟨v,H,I,r,h⟩ hd
theorem FX{x:Str}{v:V}{u:Value}{pos:Pos}(hg:Gl X x)(hm:X.mg x=none)(hv:bootBuiltins x=some u)(r:RelV v u)(hn:x≠"__name__":=by decide)(hd:(x==("__debug__":Str))=false:=by decide):PE X (.Name x pos) (tC v):=
 fun _ _ _ H _ I h=>ot I hg hm hv ⟨v,H,I,r,h⟩ hn hd
variable {a b:Expr} {ta tb:TE} {pos:Pos}
def tB(t:TE):TT:=fun σ H Q=>t σ H fun x H1=> ∃c,x= .bl c∧Q c H1
variable {tA wu:TT} {rest:List Expr}
def FY(t u:TT):TT:=fun σ H Q=>t σ H fun c H1=>if c=true then u σ H1 Q else Q false H1
def FZ(t u:TT):TT:=fun σ H Q=>t σ H fun c H1=>if c=true then Q true H1 else u σ H1 Q
def F_(t:TT):TT:=fun σ H Q=>t σ H fun c H1=>Q (!c) H1
theorem pw_and1(ha:PT X a tA):PW X (.BoolOp .And [a] pos) tA:=by
 intro wh pins s σ H Q I h
 refine isTrue_and (aK (ha pins s σ H Q I h) fun c s1 e=> ?_)
 cases c with
 | true=>exact isTrue_and_nil e
 | false=>exact e
theorem pw_or1(ha:PT X a tA):PW X (.BoolOp .Or [a] pos) tA:=by
 intro wh pins s σ H Q I h
 refine isTrue_or (aK (ha pins s σ H Q I h) fun c s1 e=> ?_)
 cases c with
 | false=>exact isTrue_or_nil e
 | true=>exact e
theorem pw_and(ha:PT X a tA)(hb:PW X (.BoolOp .And (b::rest) pos) wu):PW X (.BoolOp .And (a::b::rest) pos) (FY tA wu):=by
 intro wh pins s σ H Q I h
 refine isTrue_and (aK (ha pins s σ H _ I h) fun c s1 ⟨H1,I1,q1⟩=> ?_)
 cases c with
 | true=>exact hb wh pins s1 σ H1 Q I1 q1
 | false=>exact⟨H1,I1,q1⟩
theorem pw_or(ha:PT X a tA)(hb:PW X (.BoolOp .Or (b::rest) pos) wu):PW X (.BoolOp .Or (a::b::rest) pos) (FZ tA wu):=by
 intro wh pins s σ H Q I h
 refine isTrue_or (aK (ha pins s σ H _ I h) fun c s1 ⟨H1,I1,q1⟩=> ?_)
 cases c with
 | true=>exact⟨H1,I1,q1⟩
 | false=>exact hb wh pins s1 σ H1 Q I1 q1
theorem Pb(ha:PT X a tA):PT X (.UnaryOp .Not a pos) (F_ tA):=by
 intro pins s σ H Q I h
 exact isTrue_not (ha pins s σ H (fun c H1=>Q (!c) H1) I h)
def Ga(ta tb:TE):TE:=fun σ H Q=>ta σ H fun x H1=> ∃c,x= .bl c∧if c=true then tb σ H1 Q else Q (.bl false) H1
def Gb(ta tb:TE):TE:=fun σ H Q=>ta σ H fun x H1=> ∃c,x= .bl c∧if c=true then Q (.bl true) H1 else tb σ H1 Q
theorem Gd{op}{t:TE}(h:PE X a t):PE X (.BoolOp op [a] pos) t:=fun pins s σ H Q I hw=>BoolOp_one (h pins s σ H Q I hw)
theorem Pc(ha:PE X a ta)(hb:PE X (.BoolOp .And (b::rest) pos) tb):PE X (.BoolOp .And (a::b::rest) pos) (Ga ta tb):=by
 intro pins s σ H Q I h
 refine BoolOp_and (aK (ha pins s σ H _ I h) fun v s1 ⟨x,H1,I1,r1,q1⟩=> ?_)
 obtain⟨c,rfl,q1⟩:=q1
 cases r1
 refine wpAny_truthy_bool ?_
 cases c with
 | true=>exact hb pins s1 σ H1 Q I1 q1
 | false=>exact⟨.bl false,H1,I1,rfl,q1⟩
theorem Pd(ha:PE X a ta)(hb:PE X (.BoolOp .Or (b::rest) pos) tb):PE X (.BoolOp .Or (a::b::rest) pos) (Gb ta tb):=by
 intro pins s σ H Q I h
 refine BoolOp_or (aK (ha pins s σ H _ I h) fun v s1 ⟨x,H1,I1,r1,q1⟩=> ?_)
 obtain⟨c,rfl,q1⟩:=q1
 cases r1
 refine wpAny_truthy_bool ?_
 cases c with
 | false=>exact hb pins s1 σ H1 Q I1 q1
 | true=>exact⟨.bl true,H1,I1,rfl,q1⟩
def Ge(t:TT)(ta tb:TE):TE:=fun σ H Q=>t σ H fun c H1=>if c=true then ta σ H1 Q else tb σ H1 Q
theorem Pe{c:Expr}(hc:PT X c tA)(ha:PE X a ta)(hb:PE X b tb):PE X (.IfExp c a b pos) (Ge tA ta tb):=by
 intro pins s σ H Q I h
 refine wpAny_IfExp (aK (hc pins s σ H _ I h) fun d s1 ⟨H1,I1,q1⟩=> ?_)
 cases d with
 | true=>exact ha pins s1 σ H1 Q I1 q1
 | false=>exact hb pins s1 σ H1 Q I1 q1
end
def aq(K:Frag)(H:Hp)(a:Addr)(xs:List V):Prop:=
 Rd H a (.lst xs)∨
  ∃(o:Obj) (its:Array Value) (n:Nat),K.lookup a=some o∧o.cls= .type "list"∧o.dict=none∧o.data= .seq its n∧its.size≤sizeLine∧Vals xs its.toList
def aL(K:Frag)(H:Hp)(a:Addr)(xs:List V):Prop:=
 Rd H a (.tup xs)∨
  ∃(o:Obj) (its:Array Value) (n:Nat),K.lookup a=some o∧o.cls= .type "tuple"∧o.data= .seq its n∧its.size≤sizeLine∧Vals xs its.toList
def Pf:Value→Option V
 | .none=>some .aD
 | .bool b=>some (.bl b)
 | .int i _=>some (.int i)
 | .str x _=>some (.str x)
 | .bytes b _=>some (.fj b)
 | .float b _=>some (.mL b)
 | .ref a=>some (.ref a)
 | .type n=>some (.ty n)
 | _=>none
theorem RelV.abs{x:V}{u:Value}(r:RelV x u):Pf u=some x:=by
 cases x with
 | aD=>cases r;rfl
 | bl _=>cases r;rfl
 | int _=>obtain⟨t,rfl⟩:=r;rfl
 | str _=>obtain⟨t,rfl⟩:=r;rfl
 | fj _=>obtain⟨t,rfl⟩:=r;rfl
 | mL _=>obtain⟨t,rfl⟩:=r;rfl
 | ref _=>cases r;rfl
 | ty _=>cases r;rfl
theorem RelV.inj{x y:V}{u:Value}(r:RelV x u)(q:RelV y u):x=y:=Option.some.inj (r.abs.symm.trans q.abs)
theorem Vals.inj: ∀{xs ys:List V} {us:List Value},Vals xs us→Vals ys us→xs=ys
 | _,_,_, .nil, .nil=>rfl
 | _,_,_, .cons r t, .cons r' t'=>by rw[r.inj r',Vals.inj t t']
section
variable {X:Cx} {pins:List (Addr×Obj)} {σ:St} {H:Hp} {s:Shared} {a:Addr} {xs ys:List V}
theorem aq.of{K:Frag}(h:H a=some (.lst xs)):aq K H a xs:= .inl (.inl h)
theorem aL.of{K:Frag}(h:H a=some (.tup xs)):aL K H a xs:= .inl (.inl h)
theorem Inv.list(I:Inv X pins σ H s)(h:aq X.K H a xs): ∃its:List Value,Vals xs its∧PlainL s.heap a its.toArray∧xs.length≤sizeLine:=by
 rcases h with h | ⟨o,its,n,hk,hc,hd,hs,hz,r⟩
 ·obtain⟨z,its,n,r,e⟩:=h.ok I.aE
  exact⟨its,r,⟨_,n,e,rfl,rfl,rfl⟩,z⟩
 ·refine⟨its.toList,r,⟨o,n,I.cT a o hk,hc,hd,by simpa using hs⟩, ?_⟩
  have e:=r.length
  simp only[Array.length_toList] at e
  omega
theorem Inv.tuple(I:Inv X pins σ H s)(h:aL X.K H a xs): ∃its:List Value,Vals xs its∧IsTup s.heap a its.toArray∧xs.length≤sizeLine:=by
 rcases h with h | ⟨o,its,n,hk,hc,hs,hz,r⟩
 ·obtain⟨z,its,r,p⟩:=h.ok I.aE
  exact⟨its,r,p,z⟩
 ·refine⟨its.toList,r,⟨o,I.cT a o hk,hc,n,by simpa using hs⟩, ?_⟩
  have e:=r.length
  simp only[Array.length_toList] at e
  omega
theorem Inv.sN(I:Inv X pins σ H s)(h:aq X.K H a xs)(h':aq X.K H a ys):xs=ys:=by
 obtain⟨its,r,⟨o,n,e,_,_,d⟩,_⟩:=I.list h
 obtain⟨gw,r',⟨o',n',e',_,_,d'⟩,_⟩:=I.list h'
 rw[e] at e';cases e'
 rw[d] at d'
 injection d' with d1 _
 have:its=gw:=by simpa using congrArg Array.toList d1
 subst this
 exact r.inj r'
end
section
variable {X:Cx} {pins:List (Addr×Obj)} {σ:St} {H:Hp} {s:Shared} {E:Value→Shared→Prop}
end
section
variable {X:Cx} {st:Stmt} {rest:List Stmt} {t u:TS} {e:Expr} {te:TE} {pos:Pos}
def zM:TS:=fun D σ H=>D.nx σ H
def Gf(t u:TS):TS:=fun D σ H=>t {D with nx:=u D} σ H
theorem Gg:dz X [] zM:=fun _ _ σ H _ I h=>wpAny_execs_nil ⟨σ,H,I,h⟩
theorem Pg(h1:PS X st t)(h2:dz X rest u):dz X (st::rest) (Gf t u):=by
 intro pins s σ H D I h
 refine wpAny_execs_cons (aK (h1 pins s σ H {D with nx:=u D} I h) fun f s1 q=> ?_)
 cases f with
 | next=>
  obtain⟨σ',H',I',q⟩:=q
  exact h2 pins s1 σ' H' D I' q
 | ret v=>exact q
 | brk=>exact q
 | cont=>exact q
def Ph:TS:=fun D σ H=>D.bk σ H
def Pj:TS:=fun D σ H=>D.ct σ H
theorem Inv.quiet{pins:List (Addr×Obj)}{σ:St}{H:Hp}{s:Shared}(I:Inv X pins σ H s):interactive X.env=false:=by simp[interactive,I.ok.kind]
def Gh(te:TE):TS:=fun D σ H=>te σ H fun _ H1=>D.nx σ H1
theorem Pk(he:PE X e te)(hs:swapsWith e none pos.line X.env=pure false:=by rfl):PS X (.Expr e pos) (Gh te):=by
 intro pins s σ H D I h
 exact wpAny_Expr_any (aK (he pins s σ H _ I h) fun v s1 ⟨x,H1,I1,r1,q1⟩=> ⟨σ,H1,I1,q1⟩) I.quiet hs
def Gi(te:TE):TS:=fun D σ H=>te σ H D.rt
theorem Pl(he:PE X e te):PS X (.Return (some e) pos) (Gi te):=by
 intro pins s σ H D I h
 exact wpAny_Return_some (aK (he pins s σ H _ I h) fun v s1 ⟨x,H1,I1,r1,q1⟩=> ⟨x,σ,H1,I1,r1,q1⟩)
def Pn:TS:=fun D _ H=>D.rt .aD H
def Gj(c:TT)(t u:TS):TS:=fun D σ H=>c σ H fun b H1=>if b=true then t D σ H1 else u D σ H1
theorem Po{c:Expr}{a b:List Stmt}{tc:TT}(hc:PT X c tc)(ha:dz X a t)(hb:dz X b u):PS X (.If c a b pos) (Gj tc t u):=by
 intro pins s σ H D I h
 refine wpAny_If (aK (hc pins s σ H _ I h) fun d s1 ⟨H1,I1,q1⟩=> ?_)
 cases d with
 | true=>exact ha pins s1 σ H1 D I1 q1
 | false=>exact hb pins s1 σ H1 D I1 q1
def Pp:TS:=fun _ _ _=>False
end
abbrev TG:=V→St→Hp→(St→Hp→Prop)→Prop
abbrev jd:=List V→St→Hp→(St→Hp→Prop)→Prop
def PG(X:Cx)(target:Expr)(t:TG):Prop:=
 ∀(pins:List (Addr×Obj)) (s:Shared) (σ:St) (H:Hp) (v:V) (u:Value) (Q:St→Hp→Prop),Inv X pins σ H s→RelV v u→t v σ H Q→
  wpAny (model X.prog X.w) X.A (assign target X.env u) (fun _ s'=> ∃σ' H',Inv X pins σ' H' s'∧Q σ' H') X.xe s
def ou(X:Cx)(ts:List Expr)(t:jd):Prop:=
 ∀(pins:List (Addr×Obj)) (s:Shared) (σ:St) (H:Hp) (vs:List V) (us:List Value) (Q:St→Hp→Prop),Inv X pins σ H s→Vals vs us→t vs σ H Q→
  wpAny (model X.prog X.w) X.A (assignInOrder ((assignEach ts X.env).map (·.2)) us) (fun _ s'=> ∃σ' H',Inv X pins σ' H' s'∧Q σ' H') X.xe s
abbrev zN:=V→V→V→Hp→(Hp→Prop)→Prop
def Gk(X:Cx)(t:zN):Prop:=
 ∀(pins:List (Addr×Obj)) (s:Shared) (σ:St) (H:Hp) (o i v:V) (ov iv u:Value) (Q:Hp→Prop),Inv X pins σ H s→RelV o ov→RelV i iv→RelV v u→t o i v H Q→
  wpAny (model X.prog X.w) X.A (setItem ov iv u) (fun _ s'=> ∃H',Inv X pins σ H' s'∧Q H') X.xe s
section
variable {X:Cx} {pos:Pos}
def c_(i:Nat):TG:=fun v σ H Q=>Q (σ.set i (some v)) H
theorem kJ{i:Nat}{x:Str}(hN:X.N.Nodup)(hi:X.N[i]?=some x)(hx:Loc X.env.scope x)(hf:X.fn x=true∨X.env.scope.names.lookup x=some .local:=by first | exact .inl rfl | exact .inr rfl | assumption):PG X (.Name x pos) (c_ i):=by
 intro pins s σ H v u Q I r h
 exact wpAny_assign_Name (zJ I hN hi hx r (fun s' I'=> ⟨_,H,I',h⟩) hf)
def sO:jd:=fun vs σ H Q=>vs=[]∧Q σ H
def kN(t:TG)(u:jd):jd:=fun vs σ H Q=> ∃v r,vs=v::r∧t v σ H fun σ' H'=>u r σ' H' Q
theorem wx:ou X [] sO:=by
 intro pins s σ H vs us Q I r h
 obtain⟨e,h⟩:=h
 subst e
 cases r
 exact assignInOrder_nil ⟨σ,H,I,h⟩
theorem mO{e:Expr}{es:List Expr}{t:TG}{u:jd}(h1:PG X e t)(h2:ou X es u)
  (hs:(assignEach (e::es) X.env).map (·.2)=assign e X.env::(assignEach es X.env).map (·.2):=by rfl):ou X (e::es) (kN t u):=by
 intro pins s σ H vs us Q I r h
 obtain⟨v,vr,e1,h⟩:=h
 subst e1
 cases r with
 | cons r rr=>
  rw[hs]
  refine assignInOrder_cons (aK (h1 pins s σ H _ _ _ I r h) fun _ s1 ⟨σ1,H1,I1,q1⟩=> ?_)
  exact h2 pins s1 σ1 H1 _ _ Q I1 rr q1
def sP(K:Frag)(n:Nat)(t:jd):TG:=fun v σ H Q=> ∃a xs,v= .ref a∧aL K H a xs∧xs.length=n∧t xs σ H Q
theorem zO{es:List Expr}{k:Nat}{t:jd}{n:Nat}(hc:X.calm=true)(h:ou X es t)
  (hn:(assignEach es X.env).length=n:=by rfl) (je:(assignEach es X.env).findIdx? (·.1)=none:=by rfl):PG X (.Tuple es k pos) (sP X.K n t):=by
 intro pins s σ H v u Q I r hw
 obtain⟨a,xs,e1,hq,hl,hw⟩:=hw
 subst e1
 cases r
 obtain⟨its,rv,ht,hz⟩:=I.tuple hq
 refine assign_Tuple_tuple (I.ok.hd hc) ht (by simp[hn,←hl,rv.length]) je fun h' hx=> ?_
 have I1:Inv X pins σ H {s with heap:=h'}:=I.kept (t':=s.toks) fun b o e=>hx b o (Nat.ne_of_lt (Heap.lt_size e)) e
 exact h pins _ σ H xs _ Q I1 (by simpa using rv) hw
def Gm(to ti:TE)(t:zN):TG:=fun v σ H Q=>to σ H fun o H1=>ti σ H1 fun i H2=>t o i v H2 fun H3=>Q σ H3
theorem Pq{o i:Expr}{to ti:TE}{t:zN}(ho:PE X o to)(hi:PE X i ti)(hs:Gk X t)
  (ha: ∀v,assign (.Subscript o i pos) X.env v=(do
   let ov ←holding [v] (eval o X.env)
   let iv ←holding [v,ov] (eval i X.env)
   standAt pos
   holding [v,ov,iv] (setItem ov iv v)
   release [v,ov,iv] []):=by intro _;rfl):PG X (.Subscript o i pos) (Gm to ti t):=by
 intro pins s σ H v u Q I r h
 rw[ha]
 refine wpAny_bind (wpAny_holding (aK (ho pins s σ H _ I h) fun ov s1 ⟨x,H1,I1,r1,q1⟩=> ?_))
 refine wpAny_bind (wpAny_holding (aK (hi pins s1 σ H1 _ I1 q1) fun iv s2 ⟨y,H2,I2,r2,q2⟩=> ?_))
 refine wpAny_bind (wpAny_standAt (wpAny_bind (wpAny_holding (aK (hs pins s2 σ H2 x y v ov iv u _ I2 r1 r2 r q2) fun _ s3 ⟨H3,I3,q3⟩=> ?_))))
 exact wpAny_release ⟨σ,H3,I3,q3⟩
def jN(te:TE)(g:TG):TS:=fun D σ H=>te σ H fun x H1=>g x σ H1 D.nx
theorem Gn{tg e:Expr}{te:TE}{g:TG}(he:PE X e te)(hg:PG X tg g)(hs:swapsWithSole [tg] e pos.line X.env=pure false:=by rfl)(hw:swappedStores [tg] e X.env=pure none:=by rfl)
  (h1:(assignEach [tg] X.env).map (·.2)=[assign tg X.env]:=by rfl):PS X (.Assign [tg] e pos) (jN te g):=by
 intro pins s σ H D I h
 refine wpAny_Assign_stores (aK (he pins s σ H _ I h) fun v s1 ⟨x,H1,I1,r1,q1⟩=> ?_) hs hw
 rw[h1]
 exact aK (hg pins s1 σ H1 x v _ I1 r1 q1) fun _ s2 q=>q
theorem Pr{i:Nat}{x:Str}{e:Expr}{te:TE}{pos':Pos}(hN:X.N.Nodup)(hi:X.N[i]?=some x)(hx:Loc X.env.scope x)(he:PE X e te)(hs:swapsWith e (some (.Name x pos')) pos.line X.env=pure false:=by rfl)(hf:X.fn x=true∨X.env.scope.names.lookup x=some .local:=by first | exact .inl rfl | exact .inr rfl | assumption):
  PS X (.Assign [.Name x pos'] e pos) (jN te (c_ i)):=by
 intro pins s σ H D I h
 refine wpAny_Assign_Name (aK (he pins s σ H _ I h) fun v s1 ⟨y,H1,I1,r1,q1⟩=> ?_) hs
 exact zJ I1 hN hi hx r1 (fun s2 I2=> ⟨_,H1,I2,q1⟩) hf
end
section
variable {X:Cx} {pos:Pos}
def Gp(c:TT)(tb:TS):TS:=fun D σ H=> ∃W:Nat→St→Hp→Prop,(∃m,W m σ H)∧ ∀m σ H,W m σ H→
 c σ H fun b H1=>if b=true then ∃N:St→Hp→Prop,(∀σ' H',N σ' H'→ ∃m',m'<m∧W m' σ' H')∧tb {D with nx:=N,ct:=N,bk:=D.nx} σ H1 else D.nx σ H1
theorem Pu{c:Expr}{body:List Stmt}{tc:TT}{tb:TS}(hp:PassesOwn (model X.prog X.w) X.A X.env X.xe)(hc:PT X c tc)(hb:dz X body tb):PS X (.While c body [] pos) (Gp tc tb):=by
 intro pins s σ H D I h
 obtain⟨W,⟨m0,w0⟩,turn⟩:=h
 refine wpAny_While (codeAny_whileLoop (fun n s'=> ∃σ' H',Inv X pins σ' H' s'∧W n σ' H') ?_ m0 ⟨σ,H,I,w0⟩)
 rintro n s1 ⟨σ1,H1,I1,w1⟩
 refine wpAny_passesOwn hp (aK (hc pins s1 σ1 H1 _ I1 (turn n σ1 H1 w1)) fun b s2 ⟨H2,I2,q2⟩=> ?_)
 cases b with
 | true=>
  obtain⟨N,hN,q2⟩:=q2
  rw[if_pos rfl]
  refine wpAny_passesOwn hp (aK (hb pins s2 σ1 H2 _ I2 q2) fun f s3 q3=> ?_)
  cases f with
  | next=>
   obtain⟨σ3,H3,I3,n3⟩:=q3
   obtain⟨m',hm,w3⟩:=hN σ3 H3 n3
   exact⟨m',hm,σ3,H3,I3,w3⟩
  | cont=>
   obtain⟨σ3,H3,I3,n3⟩:=q3
   obtain⟨m',hm,w3⟩:=hN σ3 H3 n3
   exact⟨m',hm,σ3,H3,I3,w3⟩
  | brk=>exact q3
  | ret v=>exact q3
 | false=>
  rw[if_neg Bool.false_ne_true]
  exact wpAny_execs_nil ⟨σ1,H2,I2,q2⟩
end
structure It where
 go:Nat→Hp→Prop
 fo:Nat→Hp→V→Hp→Prop
 stop:Nat→Hp→Prop
def iJ(X:Cx)(pins:List (Addr×Obj))(H:Hp)(b:Addr):Prop:=
 H b=none∧b≠X.env.locals∧b∉X.fs∧(b∈X.ex∨X.s₀.heap.objs.size≤b)∧(∀x c,X.env.cells.lookup x=some c→c≠b)∧ ∀p∈X.pn++pins,p.1≠b
theorem Inv.sQ{X:Cx}{pins:List (Addr×Obj)}{σ:St}{H H':Hp}{s:Shared}{b:Addr}(I:Inv X pins σ H s)(hb:s.heap.objs.size≤b)(hn:H' b=none):iJ X pins H' b:=by
 refine⟨hn,Nat.ne_of_gt (Nat.lt_of_lt_of_le I.lt hb),I.FL hb, .inr (Nat.le_trans I.sz hb),fun x c e z=> ?_,fun p hp z=> ?_⟩
 ·obtain⟨v,q⟩:=I.cell x c e
  exact absurd (Nat.lt_of_lt_of_le q.lt (by rw[z];exact hb)) (Nat.lt_irrefl _)
 ·exact absurd (Nat.lt_of_lt_of_le (Heap.lt_size (I.pin p hp).1) (by rw[z];exact hb)) (Nat.lt_irrefl _)
structure Turn (P:Program) (w:World) (K:Frag) (tg:Expr) (J:It) (fp:List Addr) (it:Addr) (tn:Nat→Heap→Prop):Prop where
 mem:it∈fp
 obj: ∀i h,tn i h→ ∀b∈fp,∃o,h.get? b=some o∧ ∀v,o.data≠ .cell v
 keep: ∀i h h',tn i h→(∀b∈fp,∀o,h.get? b=some o→h'.get? b=some o)→tn i h'
 item: ∀(X:Cx),X.prog=P→X.w=w→X.K=K→X.calm=true→ ∀(i:Nat) (pins:List (Addr×Obj)) (s:Shared) (σ:St) (H:Hp) (E:Value→Shared→Prop),Inv X pins σ H s→(∀b∈fp,iJ X pins H b)→tn i s.heap→J.go i H→
  wpAny (model P w) X.A (pyNext (.ref it)) (fun r s1=> ∃u,r=some u∧
   wpAny (model P w) X.A (letOwnedTupleGo tg (.ref it) u) (fun _ s2=> ∃x H',Inv X pins σ H' s2∧RelV x u∧J.fo i H x H'∧tn (i+1) s2.heap∧ ∀b∈fp,H' b=none) E s1) E s
 done: ∀(X:Cx),X.prog=P→X.w=w→X.K=K→X.calm=true→ ∀(i:Nat) (pins:List (Addr×Obj)) (s:Shared) (σ:St) (H:Hp) (E:Value→Shared→Prop),Inv X pins σ H s→(∀b∈fp,iJ X pins H b)→tn i s.heap→J.stop i H→
  wpAny (model P w) X.A (pyNext (.ref it)) (fun r s1=>r=none∧Inv X pins σ H s1) E s
 self: ∀(A:Around) (i:Nat) (s:Shared) (Q:Value→Shared→Prop) (E:Value→Shared→Prop),tn i s.heap→Q (.ref it) s→wpAny (model P w) A (pyIter (.ref it)) Q E s
abbrev TI:=St→Hp→(It→Hp→Prop)→Prop
def Gq(X:Cx)(pins:List (Addr×Obj))(σ:St)(tg:Expr)(R:It→Hp→Prop)(ow:Value)(s2:Shared):Prop:=
 ∃(it:Addr) (fp:List Addr) (tn:Nat→Heap→Prop) (J:It) (H':Hp),ow= .ref it∧Inv X pins σ H' s2∧Turn X.prog X.w X.K tg J fp it tn∧tn 0 s2.heap∧(∀b∈fp,iJ X pins H' b)∧R J H'
def PI(X:Cx)(tg iter:Expr)(wi:TI):Prop:=
 ∀(pins:List (Addr×Obj)) (s:Shared) (σ:St) (H:Hp) (R:It→Hp→Prop),Inv X pins σ H s→wi σ H R→
  wpAny (model X.prog X.w) X.A (eval iter X.env) (fun v s1=>wpAny (model X.prog X.w) X.A (pyIter v) (Gq X pins σ tg R) X.xe s1) X.xe s
theorem zP{M:Model}{A:Around}{E:Value→Shared→Prop}{s:Shared}{tg:Expr}{it:Addr}{u:Value}{o:Obj}{n:String}{vs:Array Value}{Q:Unit→Shared→Prop}(ho:s.heap.get? it=some o)(hc:o.cls= .type n)(hd:o.data= .fields vs)
    (hn:["enumerate","zip","dict_itemiterator","dict_reverseitemiterator","odict_iterator","itertools.zip_longest","itertools.pairwise"].contains n=false) (hQ:Q () s):wpAny M A (letOwnedTupleGo tg (.ref it) u) Q E s:=by
  unfold letOwnedTupleGo
  cases tg<;>first
    | exact wpAny_pure hQ
    | (cases u<;>first
        | exact wpAny_pure hQ
        | (refine wpAny_bind (wpAny_load ho ?_)
           rw[hc,hd]
           show wpAny M A (if (["enumerate","zip","dict_itemiterator","dict_reverseitemiterator","odict_iterator","itertools.zip_longest","itertools.pairwise"].contains n && vs[0]?==some (rawInt _))=true then _ else _) Q E s
           rw[if_neg (by intro h;rw[hn,Bool.false_and] at h;cases h)]
           exact wpAny_pure hQ))
def eT(K:Frag)(a:Addr):It:=
 ⟨fun i H=> ∃xs x,aq K H a xs∧xs[i]?=some x,fun i H x H'=>H'=H∧ ∀xs,aq K H a xs→xs[i]?=some x,fun i H=> ∃xs,aq K H a xs∧xs.length≤i⟩
def Pw(K:Frag)(a:Addr):It:=
 ⟨fun i H=> ∃xs x,aL K H a xs∧xs[i]?=some x,fun i H x H'=>H'=H∧ ∀xs,aL K H a xs→xs[i]?=some x,fun i H=> ∃xs,aL K H a xs∧xs.length≤i⟩
def fP(lo:Int)(n:Nat):It:=⟨fun i _=>i<n,fun i H x H'=>H'=H∧x= .int (lo+i),fun i _=>n≤i⟩
theorem wy{P:Program}{w:World}{K:Frag}{tg:Expr}(a it:Addr):Turn P w K tg (eT K a) [it] it (fun i h=>h.IsListIter it a i) where
 mem:=by simp
 obj:=fun i h st b hb=>by
  have e:b=it:=by simpa using hb
  subst e
  obtain⟨o,e,c,d⟩:=st
  exact⟨o,e,fun v z=>by rw[d] at z;cases z⟩
 keep:=fun i h h' st k=>st.at fun o e=>k it (by simp) o e
 item:=by
  intro X hP hw hK hc i pins s σ H E I hf st hg
  subst hP hw hK
  obtain⟨xs,x,hq,hx⟩:=hg
  obtain⟨its,rv,p,hz⟩:=I.list hq
  obtain⟨u,hu,ru⟩:=rv.get hx
  obtain⟨f0,f1,f2,f3,f4,f5⟩:=hf it (by simp)
  refine wpAny_pyNext_list_item st p.isList (x:=u) (by simpa using hu) fun h' eU sb=> ?_
  have I1:Inv X pins σ H {s with heap:=h'}:=I.turned (t':=s.toks) (fun b o hb e=> (sb.2 b hb).trans e) f0 f1 f3 f4 f5
  obtain⟨o,e,c,d⟩:=id eU
  exact⟨u,rfl,zP (s:={s with heap:=h'}) e c d (by decide) ⟨x,H,I1,ru,⟨rfl,fun ys hy=>by rw[I.sN hy hq];exact hx⟩,eU,fun b hb=> (hf b hb).1⟩⟩
 done:=by
  intro X hP hw hK hc i pins s σ H E I hf st hg
  subst hP hw hK
  obtain⟨xs,hq,hx⟩:=hg
  obtain⟨its,rv,p,hz⟩:=I.list hq
  obtain⟨f0,f1,f2,f3,f4,f5⟩:=hf it (by simp)
  have hl:=rv.length
  exact wpAny_pyNext_list_end (I.ok.hd hc) st p.isList (by simp;omega) fun h' eb=> ⟨rfl,I.turned (t':=s.toks) (fun b o hb e=>eb b o hb e) f0 f1 f3 f4 f5⟩
 self:=fun _ _ _ _ _ st h=>wpAny_pyIter_listiter st h
theorem Px{P:Program}{w:World}{K:Frag}{tg:Expr}(it:Addr)(lo:Int)(n:Nat):Turn P w K tg (fP lo n) [it] it (fun i h=>IsRangeIter h it (lo+ (i:Nat)*1) ((n:Int) - (i:Nat)) 1) where
 mem:=by simp
 obj:=fun i h st b hb=>by
  have e:b=it:=by simpa using hb
  subst e
  exact⟨_,st,fun v z=>by
   have z':Data.fields _=Data.cell v:=z
   cases z'⟩
 keep:=fun i h h' st k=>k it (by simp) _ st
 item:=by
  intro X hP hw hK hc i pins s σ H E I hf st hg
  subst hP hw hK
  obtain⟨f0,f1,f2,f3,f4,f5⟩:=hf it (by simp)
  have W:=Walks.range (prog:=X.prog) (w:=X.w) (I.ok.hd hc) it lo 1 n
  refine W.item i s _ _ hg st fun v h' tk hv eU kk=> ?_
  obtain⟨t,rfl⟩:=hv
  have I1:Inv X pins σ H {s with heap:=h',toks:=tk}:=I.turned (fun b o hb e=>kk b o (by simpa using hb) e) f0 f1 f3 f4 f5
  refine⟨_,rfl,zP (s:={s with heap:=h',toks:=tk}) (n:="range_iterator") eU rfl rfl (by decide) ⟨.int (lo+i),H,I1,⟨t, ?_⟩,⟨rfl,rfl⟩,eU,fun b hb=> (hf b hb).1⟩⟩
  rw[Int.mul_one]
 done:=by
  intro X hP hw hK hc i pins s σ H E I hf st hg
  subst hP hw hK
  obtain⟨f0,f1,f2,f3,f4,f5⟩:=hf it (by simp)
  exact wpAny_pyNext_range_end (I.ok.hd hc) st (by have:n≤i:=hg;omega) fun h' eb=> ⟨rfl,I.turned (t':=s.toks) (fun b o hb e=>eb b o hb e) f0 f1 f3 f4 f5⟩
 self:=fun _ _ _ _ _ st h=>wpAny_pyIter_rangeiter st h
section
variable {X:Cx} {tg:Expr}
def sS(K:Frag)(tl:TE):TI:=fun σ H R=>tl σ H fun x H1=> ∃a,x= .ref a∧(∃xs,aq K H1 a xs)∧R (eT K a) H1
def Py(K:Frag)(tl:TE):TI:=fun σ H R=>tl σ H fun x H1=> ∃a,x= .ref a∧(∃xs,aL K H1 a xs)∧R (Pw K a) H1
theorem Pz{l:Expr}{tl:TE}(hl:PE X l tl):PI X tg l (sS X.K tl):=by
 intro pins s σ H R I h
 refine aK (hl pins s σ H _ I h) fun v s1 ⟨x,H1,I1,r1,q1⟩=> ?_
 obtain⟨a,e,⟨xs,hq⟩,q⟩:=q1
 subst e
 cases r1
 obtain⟨its,rv,p,hz⟩:=I1.list hq
 refine wpAny_pyIter_list p.isList ?_
 refine⟨s1.heap.objs.size,[s1.heap.objs.size],_,_,H1,rfl,I1.kept (t':=s1.toks) fun b o e=>Heap.get?_push_of_some _ e,wy a _,⟨_,Heap.get?_push_size _ rfl,rfl,rfl⟩,fun b hb=> ?_,q⟩
 have e:b=s1.heap.objs.size:=by simpa using hb
 subst e
 exact I1.sQ (Nat.le_refl _) (I1.aE.fresh (Nat.le_refl _))
theorem Gs{pins:List (Addr×Obj)}{σ:St}{H:Hp}{s:Shared}{R:It→Hp→Prop}{E:Value→Shared→Prop}{lo hi:Int}{t u v:Tok}{tk:Nat}(I:Inv X pins σ H s)(h1: -(2 ^ 62)≤lo)(h2:lo<2 ^ 62)(h3: -(2 ^ 62)≤hi)(h4:hi<2 ^ 62)
  (q:R (fP lo (hi - lo).toNat) H):wpAny (model X.prog X.w) X.A (pyIter (.ref s.heap.objs.size)) (Gq X pins σ tg R) E {s with heap:=s.heap.push {cls:= .type "range",data:= .fields #[.int lo t, .int hi u, .int 1 v]},toks:=tk}:=by
 refine wpAny_pyIter_range (IsRange.new ..) (small_one h1 h2 h3 h4) ?_
 have I1:Inv X pins σ H {s with heap:=s.heap.push {cls:= .type "range",data:= .fields #[.int lo t, .int hi u, .int 1 v]},toks:=tk}:=I.kept fun b o e=>Heap.get?_push_of_some _ e
 refine⟨(s.heap.push {cls:= .type "range",data:= .fields #[.int lo t, .int hi u, .int 1 v]}).objs.size,[(s.heap.push {cls:= .type "range",data:= .fields #[.int lo t, .int hi u, .int 1 v]}).objs.size],_,_,H,rfl,
  I1.kept (t':=tk) fun b o e=>Heap.get?_push_of_some _ e,Px _ lo (hi - lo).toNat, ?_,fun b hb=> ?_,q⟩
 ·have e1:lo+ ((0:Nat):Int)*1=lo:=by simp
  have e2:(((hi - lo).toNat:Nat):Int) - ((0:Nat):Int)=Builtin.Range.rangeSize lo hi 1:=by rw[rangeSize_one];split<;>omega
  show IsRangeIter _ _ (lo+ ((0:Nat):Int)*1) ((((hi - lo).toNat:Nat):Int) - ((0:Nat):Int)) 1
  rw[e1,e2]
  exact Heap.get?_push_size _ rfl
 ·have e:b=(s.heap.push {cls:= .type "range",data:= .fields #[.int lo t, .int hi u, .int 1 v]}).objs.size:=by simpa using hb
  subst e
  exact I1.sQ (Nat.le_refl _) (I1.aE.fresh (Nat.le_refl _))
def Gu(ta:TA):TI:=fun σ H R=>ta σ H fun vs H1=> ∃j:Int,vs=[.int j]∧ -(2 ^ 62)≤j∧j<2 ^ 62∧R (fP 0 j.toNat) H1
def Gv(ta:TA):TI:=fun σ H R=>ta σ H fun vs H1=> ∃i j:Int,vs=[.int i, .int j]∧(-(2 ^ 62)≤i∧i<2 ^ 62∧ -(2 ^ 62)≤j∧j<2 ^ 62)∧R (fP i (j - i).toNat) H1
theorem PB{a:Expr}{ta:TA}{p pos:Pos}(hg:Gl X "range")(hm:X.mg "range"=none)(ha:PA X [a] ta)(hs:starEach [a] X.env=[(false,eval a X.env)]:=by rfl):PI X tg (.Call (.Name "range" p) [a] [] pos) (Gu ta):=by
 intro pins s σ H R I h
 refine Call_ (ot I hg hm boot_range (PyProof.Rows.callWith_type1 (aK (ha pos pins s σ H _ I h) fun us s1 ⟨vs,H1,I1,r1,q1⟩=> ?_) hs rfl))
 obtain⟨j,e,q1,q2,q⟩:=q1
 subst e
 cases r1 with
 | cons r rr=>
  cases rr
  obtain⟨t,rfl⟩:=r
  exact call_range_1 (Gs I1 (by omega) (by omega) q1 q2 (by simpa using q))
theorem PC{a b:Expr}{ta:TA}{p pos:Pos}(hg:Gl X "range")(hm:X.mg "range"=none)(ha:PA X [a,b] ta)(hs:starEach [a,b] X.env=[(false,eval a X.env),(false,eval b X.env)]:=by rfl)(kO:starEach [b] X.env=[(false,eval b X.env)]:=by rfl):
  PI X tg (.Call (.Name "range" p) [a,b] [] pos) (Gv ta):=by
 intro pins s σ H R I h
 refine Call_ (ot I hg hm boot_range (PyProof.Rows.callWith_type1 (aK (ha pos pins s σ H _ I h) fun us s1 ⟨vs,H1,I1,r1,q1⟩=> ?_) (by rw[hs,kO]) (by rw[kO];rfl)))
 obtain⟨i,j,e,⟨q1,q2,q3,q4⟩,q⟩:=q1
 subst e
 cases r1 with
 | cons r rr=>
  cases rr with
  | cons r' rr=>
   cases rr
   obtain⟨t,rfl⟩:=r
   obtain⟨t',rfl⟩:=r'
   exact call_range_2 (Gs I1 q1 q2 q3 q4 q)
def wz(wi:TI)(g:TG)(tb:TS):TS:=fun D σ H=>wi σ H fun J H1=> ∃W:Nat→Nat→St→Hp→Prop,(∃m,W 0 m σ H1)∧ ∀i m σ H,W i m σ H→
 (J.stop i H∧D.nx σ H)∨(J.go i H∧ ∃N:St→Hp→Prop,(∀σ' H',N σ' H'→ ∃m',m'<m∧W (i+1) m' σ' H')∧ ∀x H',J.fo i H x H'→g x σ H' fun σ2 H2=>tb {D with nx:=N,ct:=N,bk:=D.nx} σ2 H2)
def qf(fp:List Addr)(h:Heap):List (Addr×Obj):=fp.filterMap fun b=> (h.get? b).map fun o=> (b,o)
theorem wA{fp:List Addr}{h:Heap}{b:Addr}{o:Obj}(hb:b∈fp)(e:h.get? b=some o):(b,o)∈qf fp h:=List.mem_filterMap.mpr ⟨b,hb,by rw[e];rfl⟩
theorem PD{fp:List Addr}{h:Heap}{p:Addr×Obj}(hp:p∈qf fp h):p.1∈fp∧h.get? p.1=some p.2:=by
 obtain⟨b,hb,e⟩:=List.mem_filterMap.mp hp
 cases q:h.get? b with
 | none=>rw[q] at e;cases e
 | some o=>
  rw[q] at e
  have e':(b,o)=p:=Option.some.inj e
  subst e'
  exact⟨hb,q⟩
theorem Inv.pinned{pins:List (Addr×Obj)}{σ:St}{H:Hp}{s:Shared}{fp:List Addr}(I:Inv X pins σ H s)(hf: ∀b∈fp,iJ X pins H b)(ho: ∀b∈fp,∃o,s.heap.get? b=some o∧ ∀v,o.data≠ .cell v):Inv X (pins++qf fp s.heap) σ H s:=
 I.qd fun p hp=> (List.mem_append.mp hp).elim (fun z=>I.pin p (List.mem_append_right _ z)) fun z=>by
  obtain⟨hb,e⟩:=PD z
  obtain⟨f0,f1,f2,_⟩:=hf p.1 hb
  obtain⟨o,e',d⟩:=ho p.1 hb
  rw[e] at e';cases e'
  exact⟨e,f0,f1,f2,d⟩
theorem Inv.zQ{pins pl:List (Addr×Obj)}{σ:St}{H:Hp}{s:Shared}(I:Inv X (pins++pl) σ H s):Inv X pins σ H s:=I.qd fun p hp=>I.pin p (List.mem_append_right _ (List.mem_append_left _ hp))
theorem Gw{iter:Expr}{body:List Stmt}{wi:TI}{g:TG}{tb:TS}{pos:Pos}(hp:PassesOwn (model X.prog X.w) X.A X.env X.xe)(hc:X.calm=true)(hi:PI X tg iter wi)(hg:PG X tg g)(hb:dz X body tb)
  (hs: ∀x,foldedSetIterable iter X.env x=pure x:=by intro _;rfl):PS X (.For tg iter body [] pos) (wz wi g tb):=by
 intro pins s σ H D I h
 refine wpAny_For (aK (hi pins s σ H _ I h) fun v s1 h1=>aK h1 fun ow s2 h2=> ?_) hs
 obtain⟨it,fp,tn,J,H2,e,I2,T,sT,f2,W,⟨m0,w0⟩,turn⟩:=h2
 subst e
 have oz: ∀{H':Hp},(∀b∈fp,H' b=none)→ ∀b∈fp,iJ X pins H' b:=fun hn b hb=> ⟨hn b hb,(f2 b hb).2⟩
 refine codeAny_forLoop_any (fun n s'=> ∃i σ' H',Inv X pins σ' H' s'∧tn i s'.heap∧(∀b∈fp,H' b=none)∧W i n σ' H') ?_ m0 ⟨0,σ,H2,I2,sT,fun b hb=> (f2 b hb).1,w0⟩
 rintro n s3 ⟨i,σ3,H3,I3,Gx,Gy,w3⟩
 rcases turn i n σ3 H3 w3 with⟨stop,qn⟩ | ⟨go,N,hN,step⟩
 ·refine wpAny_passesOwn hp (aK (T.done X rfl rfl rfl hc i pins s3 σ3 H3 X.xe I3 (oz Gy) Gx stop) fun r s4 ⟨hr,I4⟩=> ?_)
  subst hr
  exact wpAny_execs_nil ⟨σ3,H3,I4,qn⟩
 ·refine wpAny_passesOwn hp (aK (T.item X rfl rfl rfl hc i pins s3 σ3 H3 X.xe I3 (oz Gy) Gx go) fun r s4 ⟨u,hr,h4⟩=> ?_)
  subst hr
  refine wpAny_passesOwn hp (aK h4 fun _ s5 ⟨x,H5,I5,r5,y5,oA,zR⟩=> ?_)
  have sU:=I5.pinned (oz zR) (T.obj _ _ oA)
  refine wpAny_passesOwn hp (aK (hg _ s5 σ3 H5 x u _ sU r5 (step x H5 y5)) fun _ s6 ⟨σ6,H6,I6,q6⟩=> ?_)
  refine wpAny_passesOwn hp (aK (hb _ s6 σ6 H6 _ I6 q6) fun f s7 q7=> ?_)
  have again: ∀{σ7:St} {H7:Hp},Inv X (pins++qf fp s5.heap) σ7 H7 s7→N σ7 H7→ ∃m,m<n∧ ∃i σ' H',Inv X pins σ' H' s7∧tn i s7.heap∧(∀b∈fp,H' b=none)∧W i m σ' H':=fun {σ7 H7} I7 n7=>by
   obtain⟨m',hm,w7⟩:=hN σ7 H7 n7
   refine⟨m',hm,i+1,σ7,H7,I7.zQ,T.keep _ _ _ oA fun b hb o e=> (I7.pin (b,o) (List.mem_append_right _ (List.mem_append_right _ (wA hb e)))).1,fun b hb=> ?_,w7⟩
   obtain⟨o,e,d⟩:=T.obj _ _ oA b hb
   exact(I7.pin (b,o) (List.mem_append_right _ (List.mem_append_right _ (wA hb e)))).2.1
  cases f with
  | next=>obtain⟨σ7,H7,I7,n7⟩:=q7;exact again I7 n7
  | cont=>obtain⟨σ7,H7,I7,n7⟩:=q7;exact again I7 n7
  | brk=>obtain⟨σ7,H7,I7,q7⟩:=q7;exact⟨σ7,H7,I7.zQ,q7⟩
  | ret v=>obtain⟨x7,σ7,H7,I7,r7,q7⟩:=q7;exact⟨x7,σ7,H7,I7.zQ,r7,q7⟩
end
theorem jO{K:Frag}{a:Addr}{xs:List V}{g:TG}{tb:TS}{D:Ends}{σ:St}{H:Hp}(Pv:Nat→St→Hp→Prop)(h0:Pv 0 σ H)(hl: ∀i σ H,i≤xs.length→Pv i σ H→aq K H a xs)
  (hs: ∀i x σ H,xs[i]?=some x→Pv i σ H→g x σ H fun σ2 H2=>tb {D with nx:=Pv (i+1),ct:=Pv (i+1),bk:=D.nx} σ2 H2) (hd: ∀σ H,Pv xs.length σ H→D.nx σ H):
  ∃W:Nat→Nat→St→Hp→Prop,(∃m,W 0 m σ H)∧ ∀i m σ H,W i m σ H→
   ((eT K a).stop i H∧D.nx σ H)∨((eT K a).go i H∧ ∃N:St→Hp→Prop,(∀σ' H',N σ' H'→ ∃m',m'<m∧W (i+1) m' σ' H')∧ ∀x H',(eT K a).fo i H x H'→g x σ H' fun σ2 H2=>tb {D with nx:=N,ct:=N,bk:=D.nx} σ2 H2):=by
 refine⟨fun i m σ H=>m=xs.length - i∧i≤xs.length∧Pv i σ H,⟨xs.length,by simp,Nat.zero_le _,h0⟩, ?_⟩
 rintro i m σ H ⟨rfl,hi,p⟩
 have q:=hl i σ H hi p
 by_cases aQ:i<xs.length
 ·refine .inr ⟨⟨xs,xs[i],q,by simp[aQ]⟩,Pv (i+1),fun σ' H' p'=> ⟨xs.length - (i+1),by omega,rfl,aQ,p'⟩,fun x H' y=> ?_⟩
  obtain⟨e,y⟩:=y
  subst e
  exact hs i x σ _ (y xs q) p
 ·have e:i=xs.length:=by omega
  subst e
  exact .inl ⟨⟨xs,q,Nat.le_refl _⟩,hd σ H p⟩
theorem wB{lo:Int}{n:Nat}{g:TG}{tb:TS}{D:Ends}{σ:St}{H:Hp}(Pv:Nat→St→Hp→Prop)(h0:Pv 0 σ H)
  (hs: ∀i σ H,i<n→Pv i σ H→g (.int (lo+i)) σ H fun σ2 H2=>tb {D with nx:=Pv (i+1),ct:=Pv (i+1),bk:=D.nx} σ2 H2) (hd: ∀σ H,Pv n σ H→D.nx σ H):
  ∃W:Nat→Nat→St→Hp→Prop,(∃m,W 0 m σ H)∧ ∀i m σ H,W i m σ H→
   ((fP lo n).stop i H∧D.nx σ H)∨((fP lo n).go i H∧ ∃N:St→Hp→Prop,(∀σ' H',N σ' H'→ ∃m',m'<m∧W (i+1) m' σ' H')∧ ∀x H',(fP lo n).fo i H x H'→g x σ H' fun σ2 H2=>tb {D with nx:=N,ct:=N,bk:=D.nx} σ2 H2):=by
 refine⟨fun i m σ H=>m=n - i∧i≤n∧Pv i σ H,⟨n,by simp,Nat.zero_le _,h0⟩, ?_⟩
 rintro i m σ H ⟨rfl,hi,p⟩
 by_cases aQ:i<n
 ·refine .inr ⟨aQ,Pv (i+1),fun σ' H' p'=> ⟨n - (i+1),by omega,rfl,aQ,p'⟩,fun x H' y=> ?_⟩
  obtain⟨e,y⟩:=y
  subst e y
  exact hs i σ _ aQ p
 ·have e:i=n:=by omega
  subst e
  exact .inl ⟨Nat.le_refl _,hd σ H p⟩
abbrev R2:=V→V→Hp→VK→Prop
def aY(X:Cx)(f:Value→Value→Sem Value)(r:R2):Prop:=
 ∀(pins:List (Addr×Obj)) (s:Shared) (σ:St) (H:Hp) (x y:V) (v u:Value) (Q:VK),Inv X pins σ H s→RelV x v→RelV y u→r x y H Q→
  wpAny (model X.prog X.w) X.A (f v u) (EP X pins σ Q) X.xe s
def wC(X:Cx)(f:Value→Sem Value)(r:V→Hp→VK→Prop):Prop:=
 ∀(pins:List (Addr×Obj)) (s:Shared) (σ:St) (H:Hp) (x:V) (v:Value) (Q:VK),Inv X pins σ H s→RelV x v→r x H Q→
  wpAny (model X.prog X.w) X.A (f v) (EP X pins σ Q) X.xe s
def cc(X:Cx)(f:Value)(r:List V→Hp→VK→Prop):Prop:=
 ∀(pins:List (Addr×Obj)) (s:Shared) (σ:St) (H:Hp) (xs:List V) (us:List Value) (Q:VK),Inv X pins σ H s→Vals xs us→r xs H Q→
  wpAny (model X.prog X.w) X.A (call f us) (EP X pins σ Q) X.xe s
def PF(X:Cx)(r:V→Hp→(Bool→Hp→Prop)→Prop):Prop:=
 ∀(pins:List (Addr×Obj)) (s:Shared) (σ:St) (H:Hp) (x:V) (v:Value) (Q:Bool→Hp→Prop),Inv X pins σ H s→RelV x v→r x H Q→
  wpAny (model X.prog X.w) X.A (truthy v) (TP X pins σ Q) X.xe s
def eI(r:R2)(ta tb:TE):TE:=fun σ H Q=>ta σ H fun x H1=>tb σ H1 fun y H2=>r x y H2 Q
def Gz(r:V→Hp→VK→Prop)(ta:TE):TE:=fun σ H Q=>ta σ H fun x H1=>r x H1 Q
def rI(C:Int→Int→Prop)(g:Int→Int→V):R2:=fun x y H Q=> ∃i j,x= .int i∧y= .int j∧C i j∧Q (g i j) H
def kP(g:Int→Int→V):R2:=fun x y H Q=> ∃i j,x= .int i∧y= .int j∧Q (g i j) H
def rU(g:Int→V):V→Hp→VK→Prop:=fun x H Q=> ∃i,x= .int i∧Q (g i) H
section
variable {X:Cx} {a b c:Expr} {ta tb tc:TE} {pos:Pos}
theorem zS(ha:PE X a ta)(hb:PE X b tb){pins:List (Addr×Obj)}{s:Shared}{σ:St}{H:Hp}{R:V→V→Hp→Prop}(I:Inv X pins σ H s)
  (h:ta σ H fun x H1=>tb σ H1 fun y H2=>R x y H2) {Q:Value→Shared→Prop} {f:Value→Value→Sem Value}
  (hf: ∀v u s2 x y H2,Inv X pins σ H2 s2→RelV x v→RelV y u→R x y H2→wpAny (model X.prog X.w) X.A (f v u) Q X.xe s2):
  wpAny (model X.prog X.w) X.A (eval a X.env) (fun v s₁=>wpAny (model X.prog X.w) X.A (eval b X.env) (fun u s₂=>wpAny (model X.prog X.w) X.A (f v u) Q X.xe s₂) X.xe s₁) X.xe s:=by
 refine aK (ha pins s σ H _ I h) fun v s1 ⟨x,H1,I1,r1,q1⟩=> ?_
 refine aK (hb pins s1 σ H1 _ I1 q1) fun u s2 ⟨y,H2,I2,r2,q2⟩=> ?_
 exact hf v u s2 x y H2 I2 r1 r2 q2
theorem PH{op:Operator}{r:R2}(ho:aY X (binaryOp op) r)(ha:PE X a ta)(hb:PE X b tb):PE X (.BinOp a op b pos) (eI r ta tb):=by
 intro pins s σ H Q I h
 exact wpAny_BinOp (zS ha hb I h fun v u s2 x y H2 I2 rx ry q=>ho pins s2 σ H2 x y v u Q I2 rx ry q)
theorem PJ{op:UnaryOp}{r:V→Hp→VK→Prop}(ho:wC X (unaryOp op) r)(ha:PE X a ta):PE X (.UnaryOp op a pos) (Gz r ta):=by
 intro pins s σ H Q I h
 exact UnaryOp_ (aK (ha pins s σ H _ I h) fun v s1 ⟨x,H1,I1,r1,q1⟩=>ho pins s1 σ H1 x v Q I1 r1 q1)
theorem wD{f:Value→Value→Sem Value}{C:Int→Int→Prop}{g:Int→Int→Int}
  (rule: ∀(i j:Int) (t u:Tok) (s:Shared) (Q:Value→Shared→Prop) (E:Value→Shared→Prop),C i j→Q (.int (g i j) s.toks) {s with toks:=s.toks+1}→wpAny (model X.prog X.w) X.A (f (.int i t) (.int j u)) Q E s):
  aY X f (rI C fun i j=> .int (g i j)):=by
 intro pins s σ H x y v u Q I rx ry h
 obtain⟨i,j,rfl,rfl,hc,q⟩:=h
 obtain⟨t,rfl⟩:=rx
 obtain⟨t',rfl⟩:=ry
 exact rule i j t t' s _ _ hc ⟨.int (g i j),H,I.tok _,⟨_,rfl⟩,q⟩
theorem GA{f:Value→Value→Sem Value}{g:Int→Int→Int}
  (rule: ∀(i j:Int) (t u:Tok) (s:Shared) (Q:Value→Shared→Prop) (E:Value→Shared→Prop),Q (.int (g i j) s.toks) {s with toks:=s.toks+1}→wpAny (model X.prog X.w) X.A (f (.int i t) (.int j u)) Q E s):
  aY X f (kP fun i j=> .int (g i j)):=by
 intro pins s σ H x y v u Q I rx ry h
 obtain⟨i,j,rfl,rfl,q⟩:=h
 obtain⟨t,rfl⟩:=rx
 obtain⟨t',rfl⟩:=ry
 exact rule i j t t' s _ _ ⟨.int (g i j),H,I.tok _,⟨_,rfl⟩,q⟩
theorem wF{f:Value→Value→Sem Value}{g:Int→Int→Bool}
  (rule: ∀(i j:Int) (t u:Tok) (s:Shared) (Q:Value→Shared→Prop) (E:Value→Shared→Prop),Q (.bool (g i j)) s→wpAny (model X.prog X.w) X.A (f (.int i t) (.int j u)) Q E s):
  aY X f (kP fun i j=> .bl (g i j)):=by
 intro pins s σ H x y v u Q I rx ry h
 obtain⟨i,j,rfl,rfl,q⟩:=h
 obtain⟨t,rfl⟩:=rx
 obtain⟨t',rfl⟩:=ry
 exact rule i j t t' s _ _ ⟨.bl (g i j),H,I,rfl,q⟩
def GB(i j:Int):Prop:=0<j∧j<1073741824
def GC(i j:Int):Prop:=0≤j∧j≤1000000∧i.natAbs<2 ^ 64
def wG(i j:Int):Prop:=(-(2 ^ 64) <i∧i<2 ^ 64)∨(-(2 ^ 64) <j∧j<2 ^ 64)
theorem wG.ok{i j:Int}(h:wG i j):IntMulOk i j:=by
 rcases h with⟨h1,h2⟩ | ⟨h1,h2⟩
 ·exact .of_left (intBits_le_64 h1 h2)
 ·exact .of_right (intBits_le_64 h1 h2)
theorem PK:aY X (binaryOp .Add) (kP fun i j=> .int (i+j)):=GA fun _ _ _ _ _ _ _ q=>add_int q
theorem PL:aY X (binaryOp .Sub) (kP fun i j=> .int (i - j)):=GA fun _ _ _ _ _ _ _ q=>sub_int q
theorem PM:aY X (binaryOp .Mult) (rI wG fun i j=> .int (i*j)):=wD fun _ _ _ _ _ _ _ hc q=>mul_int q hc.ok
theorem PN:aY X (binaryOp .FloorDiv) (rI GB fun i j=> .int (i / j)):=wD fun i j _ _ _ _ _ hc q=>by
 have h1:(0:Int) <j:=hc.1
 have h2:j<1073741824:=hc.2
 exact floordiv_int (by omega) (by rw[Int.fdiv_eq_ediv_of_nonneg i (by omega)];exact q) (.inl (PyProof.noPylong_small (by omega)))
theorem PQ:aY X (binaryOp .Mod) (rI (fun _ j=>0<j) fun i j=> .int (i % j)):=wD fun i j _ _ _ _ _ hc q=>by
 have h1:(0:Int) <j:=hc
 exact mod_int' (by omega) (by rw[Int.fmod_eq_emod_of_nonneg i (by omega)];exact q)
theorem PR:aY X (binaryOp .Pow) (rI GC fun i j=> .int (i ^ j.toNat)):=wD fun _ _ _ _ _ _ _ hc q=>pow_int_small hc.1 hc.2.1 hc.2.2 q
theorem PU{f:Value→Sem Value}{g:Int→Int}
  (rule: ∀(i:Int) (t:Tok) (s:Shared) (Q:Value→Shared→Prop) (E:Value→Shared→Prop),Q (.int (g i) s.toks) {s with toks:=s.toks+1}→wpAny (model X.prog X.w) X.A (f (.int i t)) Q E s):
  wC X f (rU fun i=> .int (g i)):=by
 intro pins s σ H x v Q I rx h
 obtain⟨i,rfl,q⟩:=h
 obtain⟨t,rfl⟩:=rx
 exact rule i t s _ _ ⟨.int (g i),H,I.tok _,⟨_,rfl⟩,q⟩
theorem PV:wC X (unaryOp .USub) (rU fun i=> .int (-i)):=PU fun _ _ _ _ _ q=>neg_int q
end
def jP:V→V→Bool
 | .aD, .aD=>true | .aD, .int _=>true | .int _, .aD=>true | .aD, .bl _=>true | .bl _, .aD=>true | .aD, .str _=>true | .str _, .aD=>true
 | .int _, .int _=>true | .bl _, .bl _=>true | .str _, .str _=>true | .fj _, .fj _=>true
 | .int _, .str _=>true | .str _, .int _=>true | .bl _, .str _=>true | .str _, .bl _=>true
 | _,_=>false
def PX:R2:=fun x y H Q=>jP x y=true∧Q (.bl (decide (x=y))) H
def PY:R2:=fun x y H Q=>jP x y=true∧Q (.bl (!decide (x=y))) H
theorem GD{i j:Int}:decide (V.int i=V.int j)=(i==j):=by
 rw[Bool.eq_iff_iff]
 simp
theorem GF{i j:Bool}:decide (V.bl i=V.bl j)=(i==j):=by
 rw[Bool.eq_iff_iff]
 simp
theorem jf{i j:Str}:decide (V.str i=V.str j)=(i==j):=by
 rw[Bool.eq_iff_iff]
 simp
theorem GG{i j:Array UInt8}:decide (V.fj i=V.fj j)=(i.toList==j.toList):=by
 rw[Bool.eq_iff_iff]
 cases i
 cases j
 simp
section
variable {X:Cx} {a b c:Expr} {ta tb tc:TE} {pos:Pos}
theorem cq{pins:List (Addr×Obj)}{σ:St}{H:Hp}{s:Shared}{Q:VK}{k k':Bool}(I:Inv X pins σ H s)(q:Q (.bl k) H)(e:k=k'):EP X pins σ Q (.bool k') s:=by
 subst e
 exact⟨.bl k,H,I,rfl,q⟩
theorem PZ:aY X (compareOp .Eq) PX:=by
 intro pins s σ H x y v u Q I rx ry h
 obtain⟨hs,q⟩:=h
 cases x with
 | aD=>
  cases rx
  cases y with
  | aD=>cases ry;exact PySem.EqNone.eq_none_none (cq I q (by simp))
  | bl j=>cases ry;exact PySem.EqNone.eq_none_bool (cq I q (by simp))
  | int j=>obtain⟨t',rfl⟩:=ry;exact PySem.EqNone.eq_none_int (cq I q (by simp))
  | str j=>obtain⟨t',rfl⟩:=ry;exact PySem.EqNone.eq_none_str (cq I q (by simp))
  | _=>exact absurd (show false=true from hs) Bool.false_ne_true
 | bl i=>
  cases rx
  cases y with
  | aD=>cases ry;exact PySem.EqNone.eq_bool_none (cq I q (by simp))
  | bl j=>cases ry;exact eq_bool (cq I q GF)
  | str j=>obtain⟨t',rfl⟩:=ry;exact PySem.EqMixed.eq_bool_str (cq I q (by simp))
  | _=>exact absurd (show false=true from hs) Bool.false_ne_true
 | int i=>
  obtain⟨t,rfl⟩:=rx
  cases y with
  | aD=>cases ry;exact PySem.EqNone.eq_int_none (cq I q (by simp))
  | int j=>obtain⟨t',rfl⟩:=ry;exact eq_int (cq I q GD)
  | str j=>obtain⟨t',rfl⟩:=ry;exact PySem.EqMixed.eq_int_str (cq I q (by simp))
  | _=>exact absurd (show false=true from hs) Bool.false_ne_true
 | str i=>
  obtain⟨t,rfl⟩:=rx
  cases y with
  | aD=>cases ry;exact PySem.EqNone.eq_str_none (cq I q (by simp))
  | bl j=>cases ry;exact PySem.EqMixed.eq_str_bool (cq I q (by simp))
  | int j=>obtain⟨t',rfl⟩:=ry;exact PySem.EqMixed.eq_str_int (cq I q (by simp))
  | str j=>obtain⟨t',rfl⟩:=ry;exact eq_str (cq I q jf)
  | _=>exact absurd (show false=true from hs) Bool.false_ne_true
 | fj i=>
  obtain⟨t,rfl⟩:=rx
  cases y with
  | fj j=>obtain⟨t',rfl⟩:=ry;exact PySem.W.eq_bytes (cq I q GG)
  | _=>exact absurd (show false=true from hs) Bool.false_ne_true
 | _=>cases y<;>exact absurd (show false=true from hs) Bool.false_ne_true
theorem P4:aY X (compareOp .NotEq) PY:=by
 intro pins s σ H x y v u Q I rx ry h
 obtain⟨hs,q⟩:=h
 cases x with
 | aD=>
  cases rx
  cases y with
  | aD=>cases ry;exact PySem.EqNone.ne_none_none (cq I q (by simp))
  | bl j=>cases ry;exact PySem.EqNone.ne_none_bool (cq I q (by simp))
  | int j=>obtain⟨t',rfl⟩:=ry;exact PySem.EqNone.ne_none_int (cq I q (by simp))
  | str j=>obtain⟨t',rfl⟩:=ry;exact PySem.EqNone.ne_none_str (cq I q (by simp))
  | _=>exact absurd (show false=true from hs) Bool.false_ne_true
 | bl i=>
  cases rx
  cases y with
  | aD=>cases ry;exact PySem.EqNone.ne_bool_none (cq I q (by simp))
  | bl j=>cases ry;exact ne_bool (cq I q (congrArg not GF))
  | str j=>obtain⟨t',rfl⟩:=ry;exact PySem.EqMixed.ne_bool_str (cq I q (by simp))
  | _=>exact absurd (show false=true from hs) Bool.false_ne_true
 | int i=>
  obtain⟨t,rfl⟩:=rx
  cases y with
  | aD=>cases ry;exact PySem.EqNone.ne_int_none (cq I q (by simp))
  | int j=>obtain⟨t',rfl⟩:=ry;exact ne_int (cq I q (congrArg not GD))
  | str j=>obtain⟨t',rfl⟩:=ry;exact PySem.EqMixed.ne_int_str (cq I q (by simp))
  | _=>exact absurd (show false=true from hs) Bool.false_ne_true
 | str i=>
  obtain⟨t,rfl⟩:=rx
  cases y with
  | aD=>cases ry;exact PySem.EqNone.ne_str_none (cq I q (by simp))
  | bl j=>cases ry;exact PySem.EqMixed.ne_str_bool (cq I q (by simp))
  | int j=>obtain⟨t',rfl⟩:=ry;exact PySem.EqMixed.ne_str_int (cq I q (by simp))
  | str j=>obtain⟨t',rfl⟩:=ry;exact ne_str (cq I q (congrArg not jf))
  | _=>exact absurd (show false=true from hs) Bool.false_ne_true
 | fj i=>
  obtain⟨t,rfl⟩:=rx
  cases y with
  | fj j=>obtain⟨t',rfl⟩:=ry;exact PySem.W.ne_bytes (cq I q (congrArg not GG))
  | _=>exact absurd (show false=true from hs) Bool.false_ne_true
 | _=>cases y<;>exact absurd (show false=true from hs) Bool.false_ne_true
theorem P5:aY X (compareOp .Lt) (kP fun i j=> .bl (decide (i<j))):=wF fun _ _ _ _ _ _ _ q=>lt_int q
theorem P6:aY X (compareOp .LtE) (kP fun i j=> .bl (decide (i≤j))):=wF fun _ _ _ _ _ _ _ q=>le_int q
theorem P7:aY X (compareOp .Gt) (kP fun i j=> .bl (decide (j<i))):=wF fun _ _ _ _ _ _ _ q=>gt_int q
theorem P8:aY X (compareOp .GtE) (kP fun i j=> .bl (decide (j≤i))):=wF fun _ _ _ _ _ _ _ q=>ge_int q
theorem P9:aY X (compareOp .In) (fun x y H Q=> ∃i j,x= .str i∧y= .str j∧Q (.bl (!(Builtin.Str.occurrences j i 0 j.length 1).isEmpty)) H):=by
 intro pins s σ H x y v u Q I rx ry h
 obtain⟨i,j,rfl,rfl,q⟩:=h
 obtain⟨t,rfl⟩:=rx
 obtain⟨t',rfl⟩:=ry
 exact in_str (cq I q rfl)
theorem P_:aY X (compareOp .Is) (fun x y H Q=>y= .aD∧Q (.bl (decide (x= .aD))) H):=by
 intro pins s σ H x y v u Q I rx ry h
 obtain⟨rfl,q⟩:=h
 cases ry
 refine is_none_gen (cq I q ?_)
 cases x<;>first
  | (cases rx;rfl)
  | (obtain⟨t,rfl⟩:=rx;rfl)
theorem Qa:aY X (compareOp .IsNot) (fun x y H Q=>y= .aD∧Q (.bl (!decide (x= .aD))) H):=by
 intro pins s σ H x y v u Q I rx ry h
 obtain⟨rfl,q⟩:=h
 cases ry
 refine isnot_none_gen (cq I q ?_)
 cases x<;>first
  | (cases rx;rfl)
  | (obtain⟨t,rfl⟩:=rx;rfl)
theorem Qc:aY X (compareOp .NotIn) (fun x y H Q=> ∃i j,x= .str i∧y= .str j∧Q (.bl (!(!(Builtin.Str.occurrences j i 0 j.length 1).isEmpty))) H):=by
 intro pins s σ H x y v u Q I rx ry h
 obtain⟨i,j,rfl,rfl,q⟩:=h
 obtain⟨t,rfl⟩:=rx
 obtain⟨t',rfl⟩:=ry
 exact notIn_str (cq I q rfl)
theorem aY.or{f:Value→Value→Sem Value}{r r':R2}(h:aY X f r)(h':aY X f r'):aY X f (fun x y H Q=>r x y H Q∨r' x y H Q):=by
 intro pins s σ H x y v u Q I rx ry q
 rcases q with q | q
 ·exact h pins s σ H x y v u Q I rx ry q
 ·exact h' pins s σ H x y v u Q I rx ry q
theorem Qd{op:CmpOp}{r:R2}(ho:aY X (compareOp op) r)(ha:PE X a ta)(hb:PE X b tb)(hm:behindInMarks op b=false):PE X (.Compare a [op] [b] pos) (eI r ta tb):=by
 intro pins s σ H Q I h
 exact wpAny_Compare1 (zS ha hb I h fun v u s2 x y H2 I2 rx ry q=>ho pins s2 σ H2 x y v u Q I2 rx ry q) hm
def mP(t:TE):TT:=fun σ H Q=>t σ H fun x H'=> ∃k,x= .bl k∧Q k H'
theorem Qe{op:CmpOp}{r:R2}(ho:aY X (compareOp op) r)(ha:PE X a ta)(hb:PE X b tb)(hm:behindInMarks op b=false):PT X (.Compare a [op] [b] pos) (mP (eI r ta tb)):=by
 intro pins s σ H Q I h
 refine wpAny_isTrue_Compare1 (aK (ha pins s σ H _ I h) fun v s1 ⟨x,H1,I1,r1,q1⟩=>aK (hb pins s1 σ H1 _ I1 q1) fun u s2 ⟨y,H2,I2,r2,q2⟩=>
  aK (ho pins s2 σ H2 x y v u _ I2 r1 r2 q2) fun c s3 ⟨z,H3,I3,r3,k,e,q3⟩=> ?_) hm
 subst e
 cases r3
 exact wpAny_truthy_bool ⟨H3,I3,q3⟩
def qg(r r':R2)(ta tb tc:TE):TE:=fun σ H Q=>ta σ H fun x H1=>tb σ H1 fun y H2=>r x y H2 fun z H3=> ∃k,z= .bl k∧
 (if k=true then tc σ H3 fun w' H4=>r' y w' H4 Q else Q (.bl false) H3)
theorem Qg{op cH:CmpOp}{r r':R2}(ho:aY X (compareOp op) r)(dO:aY X (compareOp cH) r')(ha:PE X a ta)(hb:PE X b tb)(hc:PE X c tc)
  (hm:lastMarks [op,cH] [b,c]=false:=by with_unfolding_all rfl):PE X (.Compare a [op,cH] [b,c] pos) (qg r r' ta tb tc):=by
 intro pins s σ H Q I h
 refine Compare_chain (aK (ha pins s σ H _ I h) fun v s1 ⟨x,H1,I1,r1,q1⟩=>chain_link (aK (hb pins s1 σ H1 _ I1 q1) fun u s2 ⟨y,H2,I2,r2,q2⟩=>
  aK (ho pins s2 σ H2 x y v u _ I2 r1 r2 q2) fun d s3 ⟨z,H3,I3,r3,k,e,q3⟩=> ?_)) hm
 subst e
 cases r3
 refine wpAny_truthy_bool ?_
 cases k with
 | false=>exact ite_ff ⟨.bl false,H3,I3,rfl,q3⟩
 | true=>exact ite_tt (chain_last (aK (hc pins s3 σ H3 _ I3 q3) fun w' s4 ⟨z',H4,I4,r4,q4⟩=>dO pins s4 σ H4 y z' u w' Q I4 r2 r4 q4))
theorem Qh{op cH:CmpOp}{r r':R2}(ho:aY X (compareOp op) r)(dO:aY X (compareOp cH) r')(ha:PE X a ta)(hb:PE X b tb)(hc:PE X c tc)
  (hm:lastMarks [op,cH] [b,c]=false:=by with_unfolding_all rfl):PT X (.Compare a [op,cH] [b,c] pos) (mP (qg r r' ta tb tc)):=by
 intro pins s σ H Q I h
 refine isTrue_chain (aK (ha pins s σ H _ I h) fun v s1 ⟨x,H1,I1,r1,q1⟩=>test_link (aK (hb pins s1 σ H1 _ I1 q1) fun u s2 ⟨y,H2,I2,r2,q2⟩=>
  aK (ho pins s2 σ H2 x y v u _ I2 r1 r2 q2) fun d s3 ⟨z,H3,I3,r3,k,e,q3⟩=> ?_)) hm
 subst e
 cases r3
 refine wpAny_truthy_bool ?_
 cases k with
 | false=>
  obtain⟨k',e',q'⟩:=q3
  cases e'
  exact ite_ff ⟨H3,I3,q'⟩
 | true=>
  refine ite_tt (test_last (aK (hc pins s3 σ H3 _ I3 q3) fun w' s4 ⟨z',H4,I4,r4,q4⟩=>aK (dO pins s4 σ H4 y z' u w' _ I4 r2 r4 q4) fun d' s5 ⟨z2,H5,I5,r5,k2,e2,q5⟩=> ?_))
  subst e2
  cases r5
  exact wpAny_truthy_bool ⟨H5,I5,q5⟩
def GH(K:Frag)(x:V)(H:Hp)(k:Bool):Prop:=
 match x with
 | .aD=>k=false
 | .bl b=>k=b
 | .int i=>k=(i !=0)
 | .str y=>y.length≤sizeLine∧k=((y.length:Int) !=0)
 | .fj y=>y.size≤sizeLine∧k=((y.size:Int) !=0)
 | .ref p=> (∃xs,aq K H p xs∧k= !xs.isEmpty)∨(∃xs,aL K H p xs∧k= !xs.isEmpty)∨ ∃av,H p=some (.dK av)∧k= !av.isEmpty
 | _=>False
theorem Qi{κ:Type}{av:List (κ×V)}{vs:List (κ×Value)}(r:KV av vs):(!vs.isEmpty)= !av.isEmpty:=by
 cases r<;>rfl
theorem GJ{xs:List V}{its:List Value}(r:Vals xs its):(!its.toArray.isEmpty)= !xs.isEmpty:=by
 cases r<;>simp
theorem mQ:(sizeLine:Nat) <2 ^ 63:=by rw[sizeLine_eq];decide
theorem GK:PF X (fun x H Q=> ∃k,GH X.K x H k∧Q k H):=by
 intro pins s σ H x v Q I rx h
 obtain⟨k,e,q⟩:=h
 have hl:=mQ
 have hs:sizeLine=16777216:=sizeLine_eq
 cases x with
 | aD=>
  cases rx
  have e':k=false:=e
  subst e'
  exact truthy_none ⟨H,I,q⟩
 | bl b=>
  cases rx
  have e':k=b:=e
  subst e'
  exact wpAny_truthy_bool ⟨H,I,q⟩
 | int i=>
  obtain⟨t,rfl⟩:=rx
  have e':k=(i !=0):=e
  subst e'
  exact PySem.P.truthy_int ⟨H,I,q⟩
 | str y=>
  obtain⟨t,rfl⟩:=rx
  obtain⟨hy,e'⟩:y.length≤sizeLine∧k=((y.length:Int) !=0):=e
  subst e'
  exact PySem.P.truthy_str (by omega) ⟨H,I.tok _,q⟩
 | fj y=>
  obtain⟨t,rfl⟩:=rx
  obtain⟨hy,e'⟩:y.size≤sizeLine∧k=((y.size:Int) !=0):=e
  subst e'
  exact PySem.W.truthy_bytes (by omega) ⟨H,I.tok _,q⟩
 | ref p=>
  cases rx
  have e':(∃xs,aq X.K H p xs∧k= !xs.isEmpty)∨(∃xs,aL X.K H p xs∧k= !xs.isEmpty)∨ ∃av,H p=some (.dK av)∧k= !av.isEmpty:=e
  rcases e' with⟨xs,hx,e'⟩ | ⟨xs,hx,e'⟩ | ⟨av,hx,e'⟩
  ·subst e'
   obtain⟨its,r,pl,hz⟩:=I.list hx
   have hlen:=r.length
   exact wpAny_truthy_list pl.isList (by simp only[List.size_toArray];omega) ⟨H,I.tok _,by rw[GJ r];exact q⟩
  ·subst e'
   obtain⟨its,r,pl,hz⟩:=I.tuple hx
   have hlen:=r.length
   exact truthy_tuple pl (by simp only[List.size_toArray];omega) ⟨H,I.tok _,by rw[GJ r];exact q⟩
  ·subst e'
   obtain⟨hz,hS,vs,r,m⟩:av.length≤sizeLine∧(p==sysModules)=false∧ ∃vs,KV av vs∧s.heap.DictOf (dX X.prog X.w) p vs:=I.aE p _ hx
   have hlen:av.length=vs.length:=Paired.length r
   exact wpAny_truthy_dict hS m (by omega) ⟨H,I.tok _,by rw[Qi r];exact q⟩
 | _=>exact(show False from e).elim
theorem Qj:aY X (binaryOp .Add) (fun x y H Q=> ∃i j,x= .str i∧y= .str j∧i.length+j.length≤sizeLine∧Q (.str (i++j)) H):=by
 intro pins s σ H x y v u Q I rx ry h
 obtain⟨i,j,rfl,rfl,hz,q⟩:=h
 obtain⟨t,rfl⟩:=rx
 obtain⟨t',rfl⟩:=ry
 exact add_str (fun t' tk=> ⟨.str (i++j),H,I.tok _,⟨_,rfl⟩,q⟩) hz
theorem vals1{x:V}{us:List Value}(r:Vals [x] us): ∃u,us=[u]∧RelV x u:=by
 cases r with
 | cons r1 r2=>cases r2;exact⟨_,rfl,r1⟩
theorem vals2{x y:V}{us:List Value}(r:Vals [x,y] us): ∃u w',us=[u,w']∧RelV x u∧RelV y w':=by
 cases r with
 | cons r1 r2=>
  cases r2 with
  | cons r3 r4=>cases r4;exact⟨_,_,rfl,r1,r3⟩
theorem Qk:cc X (.builtin "abs") (fun xs H Q=> ∃i,xs=[.int i]∧Q (.int (if i<0 then -i else i)) H):=by
 intro pins s σ H xs us Q I r h
 obtain⟨i,rfl,q⟩:=h
 obtain⟨u,rfl,t,rfl⟩:=vals1 r
 exact call_abs_int fun u tk=> ⟨.int (if i<0 then -i else i),H,I.tok _,⟨_,rfl⟩,q⟩
theorem Ql(hc:X.calm=true):cc X (.builtin "max") (fun xs H Q=> ∃i j,xs=[.int i, .int j]∧Q (.int (if j>i then j else i)) H):=by
 intro pins s σ H xs us Q I r h
 obtain⟨i,j,rfl,q⟩:=h
 obtain⟨u,w',rfl,⟨t,rfl⟩,⟨t',rfl⟩⟩:=vals2 r
 refine max_two_ints (I.ok.hd hc) fun h' tk k=> ⟨_,H,I.kept k, ?_,q⟩
 by_cases hj:j>i
 ·rw[if_pos hj,if_pos hj];exact⟨_,rfl⟩
 ·rw[if_neg hj,if_neg hj];exact⟨_,rfl⟩
theorem Qm(hc:X.calm=true):cc X (.builtin "min") (fun xs H Q=> ∃i j,xs=[.int i, .int j]∧Q (.int (if j<i then j else i)) H):=by
 intro pins s σ H xs us Q I r h
 obtain⟨i,j,rfl,q⟩:=h
 obtain⟨u,w',rfl,⟨t,rfl⟩,⟨t',rfl⟩⟩:=vals2 r
 refine min_two_ints (I.ok.hd hc) fun h' tk k=> ⟨_,H,I.kept k, ?_,q⟩
 by_cases hj:j<i
 ·rw[if_pos hj,if_pos hj];exact⟨_,rfl⟩
 ·rw[if_neg hj,if_neg hj];exact⟨_,rfl⟩
theorem Qn:cc X (.type "int") (fun xs H Q=> (∃i,xs=[.int i]∧Q (.int i) H)∨ ∃k,xs=[.bl k]∧Q (.int (if k then 1 else 0)) H):=by
 intro pins s σ H xs us Q I r h
 rcases h with⟨i,rfl,q⟩ | ⟨k,rfl,q⟩
 ·obtain⟨u,rfl,t,rfl⟩:=vals1 r
  exact call_int_int ⟨.int i,H,I,⟨_,rfl⟩,q⟩
 ·obtain⟨u,rfl,r1⟩:=vals1 r
  cases r1
  exact call_int_bool ⟨.int (if k then 1 else 0),H,I.tok _,⟨_,rfl⟩,q⟩
def GN(K:Frag)(x:V)(H:Hp)(n:Nat):Prop:=
 match x with
 | .str y=>y.length≤sizeLine∧n=y.length
 | .fj y=>y.size≤sizeLine∧n=y.size
 | .ref p=> (∃xs,aq K H p xs∧n=xs.length)∨ ∃xs,aL K H p xs∧n=xs.length
 | _=>False
theorem Qo:cc X (.builtin "len") (fun xs H Q=> ∃x n,xs=[x]∧GN X.K x H n∧Q (.int n) H):=by
 intro pins s σ H xs us Q I r h
 obtain⟨x,n,rfl,e,q⟩:=h
 obtain⟨u,rfl,rx⟩:=vals1 r
 have hl:=mQ
 have hs:sizeLine=16777216:=sizeLine_eq
 cases x with
 | str y=>
  obtain⟨t,rfl⟩:=rx
  obtain⟨hy,e'⟩:y.length≤sizeLine∧n=y.length:=e
  subst e'
  exact len_str (by omega) ⟨.int _,H,I.tok _,⟨_,rfl⟩,q⟩
 | fj y=>
  obtain⟨t,rfl⟩:=rx
  obtain⟨hy,e'⟩:y.size≤sizeLine∧n=y.size:=e
  subst e'
  exact PySem.W.len_bytes (by omega) ⟨.int _,H,I.tok _,⟨_,rfl⟩,q⟩
 | ref p=>
  cases rx
  have e':(∃xs,aq X.K H p xs∧n=xs.length)∨ ∃xs,aL X.K H p xs∧n=xs.length:=e
  rcases e' with⟨xs,hx,e'⟩ | ⟨xs,hx,e'⟩
  ·subst e'
   obtain⟨its,r',pl,hz⟩:=I.list hx
   have hlen:=r'.length
   exact Calls.call_len_list pl.isList (by simp only[List.size_toArray];omega) ⟨.int xs.length,H,I.tok _,⟨_,by simp only[List.size_toArray];rw[hlen]⟩,q⟩
  ·subst e'
   obtain⟨its,r',pl,hz⟩:=I.tuple hx
   have hlen:=r'.length
   exact len_tuple pl (by simp only[List.size_toArray];omega) ⟨.int xs.length,H,I.tok _,⟨_,by simp only[List.size_toArray];rw[hlen]⟩,q⟩
 | _=>exact(show False from e).elim
end
structure oB (h:Heap) (x dx C:Addr) (mA:Str→Option Value):Prop where
 obj:h.get? x=some (instObj C dx)
 ns:h.Ns1 dx mA
 ne:dx≠x
theorem Qp{h:Heap}{dx:Addr}{mA:Str→Option Value}(n:h.Ns1 dx mA): ∃od,h.get? dx=some od∧ ∀name,lookIn name od=some (mA name):=by
 obtain⟨o,es,ep,ho,hd,hk,_,hm⟩:=n
 refine⟨o,ho,fun name=> ?_⟩
 have e:=hm name
 unfold nsFind findBy at e
 rw[←Array.find?_toList] at e
 unfold lookIn
 rw[hd]
 dsimp only
 split
 ·rename_i y q
  rw[q] at e
  exact congrArg some e
 ·rename_i q
  rw[q] at e
  have a:es.toList.any (·.refKey)=false:=by
   rw[List.any_eq_false]
   intro y hy
   obtain⟨z,t,Qq⟩:=hk y (Array.mem_toList_iff.mp hy)
   simp[DictEntry.refKey,Qq]
  have a': ¬es.toList.any (·.refKey)=true:=by rw[a];exact Bool.false_ne_true
  rw[if_neg a']
  exact congrArg some e
theorem oB.look{h:Heap}{x dx C:Addr}{mA:Str→Option Value}(I:oB h x dx C mA): ∃od,InstAt h x (instObj C dx) C (some od)∧ ∀name,lookIn name od=some (mA name):=
 let ⟨od,ho,hl⟩:=Qp I.ns
 ⟨od,⟨I.obj,rfl,rfl,ho⟩,hl⟩
section
variable {prog:Program} {w:World} {A:Around} {E:Value→Shared→Prop} {s:Shared} {K:Frag} {x dx C f:Addr} {mA:Str→Option Value} {name:Str} {v:Value}
theorem get_map{expr:Bool}{Q:Value→Shared→Prop}(X:K.In s.heap)(I:oB s.heap x dx C mA)(hg:plainGet K C name=true)(hh:hasDictIn K C=true)
  (ha:PySem.W.findIn K (.ref C) name=some none) (hv:mA name=some v) (Qr:handedIn v=true) (h:Q v {s with toks:=s.toks+1}):
  wpAny (model prog w) A (getAttr (.ref x) name expr) Q E s:=by
 obtain⟨od,J,hl⟩:=I.look
 exact PySem.W.get_value X J (plainGet_of hg).1 (PySem.W.findObj_own hh ha rfl (by rw[hl,hv])) Qr h
theorem Qs{pl:Sem Bool}{Q:Value×List Value→Shared→Prop}(X:K.In s.heap)(I:oB s.heap x dx C mA)(hg:plainGet K C name=true)
  (hf:PySem.W.findIn K (.ref C) name=some (some (.ref f))) (ht:isFn K (.ref f)=true) (hv:mA name=none) (h:Q (.ref f,[.ref x]) s):
  wpAny (model prog w) A (getMethod (.ref x) name pl) Q E s:=by
 obtain⟨od,J,hl⟩:=I.look
 exact PySem.W.method_fn X J (plainGet_of hg).1 (plainGet_of hg).2 hf (beq_iff_eq.mp ht) (by show(lookIn name od).map (·.isSome)=some false;rw[hl,hv];rfl) h
theorem Qt{ns:List Str}{Q:Unit→Shared→Prop}(X:K.In s.heap)(I:oB s.heap x dx C mA)
  (hs:PySem.W.findIn K (.ref C) "__setattr__"=some (some (.builtin "object.__setattr__"))) (hp:plainOver K C=true) (ht:takerIn K C name=some none) (hh:hasDictIn K C=true)
  (hw:PySem.Within mA ns) (hsz:ns.length≤sizeLine)
  (h: ∀h',oB h' x dx C (fun y=>if y=name then some v else mA y)→Heap.SameBut dx s.heap h'→Q () {s with heap:=h',toks:=s.toks+2}):
  wpAny (model prog w) A (setAttr (.ref x) name v) Q E s:=by
 obtain⟨od,J,hl⟩:=I.look
 refine PySem.W.set_plain X J hs (PySem.W.osa_open (s:={s with toks:=s.toks+1}) (r:=none) X J hp ht fun b=> ?_)
 obtain⟨cd,hc,qc⟩:=PySem.W.any_some hh
 have hx:s.heap.get? x=some ⟨.ref C,some dx, .plain,#[]⟩:=I.obj
 refine wpAny_bind (wpAny_pure (wpAny_bind (wpAny_bind (wpAny_loadPart hx (wpAny_bind (PySem.W.Looks.here (s:={s with toks:=s.toks+1}) (PySem.W.looks_clsIn X hc) ?_))))))
 rw[qc]
 refine wpAny_pure (a:=some dx) (wpAny_bind (wpAny_pure (wpAny_bind ?_)))
 refine wpAny_nsSet1 (s:={s with toks:=s.toks+1}) I.ns fun h' mR kO=> ?_
 obtain⟨oD,esD,epD,Qu,Qw,kQ⟩:=mR.count (PySem.Within.cons name v hw)
 refine wpAny_bind (wpAny_lookBehind Qu (by rw[Qw];exact pastItsLine_dict (Nat.le_trans kQ (by rw[List.length_cons];omega))) ?_)
 exact wpAny_pure (h _ ⟨(kO.2 _ (Ne.symm I.ne)).trans I.obj,mR,I.ne⟩ kO)
theorem Qx{R:Result→Shared→Prop}{vs:List Value}{kw:List (Str×Value)}(X:K.In s.heap)(hm:makesIn K C=true)
  (hi:PySem.W.findIn K (.ref C) "__init__"=some (some (.ref f))) (hf:PySem.W.typeIn K (.ref f)=some (.type "function"))
  (h:codeAny (model prog w) (A.under (.builtin "type.__call__" ⟨.ref C::vs,kw⟩)) (.call (.ref f) ⟨.ref (s.heap.objs.size+1)::vs,kw⟩) (PySem.W.InitBack (s.heap.objs.size+1) R)
   {s with heap:=(s.heap.push emptyDict).push (instObj C s.heap.objs.size)}):
  codeAny (model prog w) A (.call (.ref C) ⟨vs,kw⟩) R s:=by
 obtain⟨hh,g,d,t,os⟩:=s
 exact PySem.W.make_core (PySem.W.makes_of X hm) (PySem.W.looks_findIn X hi) (fun self=>PySem.W.bind_fn X self hf) (.inl rfl) h
end
def cI(f:Str)(v:V):List (Str×V)→List (Str×V)
 | []=> [(f,v)]
 | (g,x)::r=>if g=f then (g,v)::r else (g,x)::cI f v r
theorem GO(f g:Str)(v:V): ∀fs:List (Str×V),(cI f v fs).lookup g=if g=f then some v else fs.lookup g
 | []=>by
  show List.lookup g [(f,v)]=_
  by_cases h:g=f
  ·have hb:(g==f)=true:=beq_iff_eq.mpr h
   simp only[List.lookup,hb,if_pos h]
  ·have hb:(g==f)=false:=beq_eq_false_iff_ne.mpr h
   simp only[List.lookup,hb,if_neg h]
 | (k,x)::r=>by
  have ih:=GO f g v r
  rw[show cI f v ((k,x)::r)=(if k=f then (k,v)::r else (k,x)::cI f v r) from rfl]
  by_cases hk:k=f
  ·rw[if_pos hk]
   by_cases h:g=k
   ·have hb:(g==k)=true:=beq_iff_eq.mpr h
    simp only[List.lookup,hb,if_pos (h.trans hk)]
   ·have hb:(g==k)=false:=beq_eq_false_iff_ne.mpr h
    simp only[List.lookup,hb,if_neg (fun e:g=f=>h (e.trans hk.symm))]
  ·rw[if_neg hk]
   by_cases h:g=k
   ·have hb:(g==k)=true:=beq_iff_eq.mpr h
    simp only[List.lookup,hb,if_neg (fun e:g=f=>hk (h.symm.trans e))]
   ·have hb:(g==k)=false:=beq_eq_false_iff_ne.mpr h
    simp only[List.lookup,hb]
    exact ih
theorem zT(f:Str)(v:V): ∀fs:List (Str×V),f∈ (cI f v fs).map (·.1)∧ ∀g,g∈fs.map (·.1)→g∈ (cI f v fs).map (·.1)
 | []=> ⟨by simp[cI],fun g h=>by simp at h⟩
 | (k,x)::r=>by
  obtain⟨i1,i2⟩:=zT f v r
  rw[show cI f v ((k,x)::r)=(if k=f then (k,v)::r else (k,x)::cI f v r) from rfl]
  by_cases hk:k=f
  ·rw[if_pos hk]
   subst hk
   exact⟨by simp,fun g h=>by simpa using h⟩
  ·rw[if_neg hk]
   refine⟨?_,fun g h=> ?_⟩
   ·rw[List.map_cons]
    exact List.mem_cons_of_mem _ i1
   ·rw[List.map_cons] at h⊢
    rcases List.mem_cons.mp h with e | e
    ·exact List.mem_cons.mpr (.inl e)
    ·exact List.mem_cons_of_mem _ (i2 g e)
theorem GP(f:Str)(v:V): ∀fs:List (Str×V),(cI f v fs).length≤fs.length+1
 | []=>by simp[cI]
 | (k,x)::r=>by
  have ih:=GP f v r
  rw[show cI f v ((k,x)::r)=(if k=f then (k,v)::r else (k,x)::cI f v r) from rfl]
  by_cases hk:k=f
  ·rw[if_pos hk,List.length_cons,List.length_cons];omega
  ·rw[if_neg hk,List.length_cons,List.length_cons];omega
theorem fM.some_of{v:V}{o:Option Value}(r:fM (some v) o): ∃u,o=some u∧RelV v u:=by
 cases o with
 | none=>exact(show False from r).elim
 | some u=>exact⟨u,rfl,r⟩
theorem fM.none_of{o:Option Value}(r:fM none o):o=none:=by
 cases o with
 | none=>rfl
 | some u=>exact(show False from r).elim
theorem Qy{v:V}{u:Value}(r:RelV v u):handedIn u=true:=by
 cases v with
 | aD=>cases (show u=Value.none from r);rfl
 | bl b=>cases (show u=Value.bool b from r);rfl
 | int i=>obtain⟨t,e⟩:=(show ∃t,u=Value.int i t from r);cases e;rfl
 | str x=>obtain⟨t,e⟩:=(show ∃t,u=Value.str x t from r);cases e;rfl
 | fj b=>obtain⟨t,e⟩:=(show ∃t,u=Value.bytes b t from r);cases e;rfl
 | mL b=>obtain⟨t,e⟩:=(show ∃t,u=Value.float b t from r);cases e;rfl
 | ref a=>cases (show u=Value.ref a from r);rfl
 | ty n=>cases (show u=Value.type n from r);rfl
section
variable {P:Program} {w:World} {H H':Hp} {h h':Heap} {a C dx:Addr} {fs OZ:List (Str×V)}
theorem wH(aE:bN P w H h)(e:H a=some (.ins C dx fs)): ∃mA,oB h a dx C mA∧(∀f,fM (fs.lookup f) (mA f))∧PySem.Within mA (fs.map (·.1))∧fs.length≤1000∧H dx=some (.own a):=by
 obtain⟨d,z,ne,ob,mA,n,r,q⟩:=(show cm P w H h a (.ins C dx fs) from aE a _ e)
 exact⟨mA,⟨ob,n,ne⟩,r,q,z,d⟩
end
structure jg (K:Frag) (C:Addr):Prop where
 pg:plainGet K C Str.empty=true
 hd:hasDictIn K C=true
 po:plainOver K C=true
 sa:PySem.W.findIn K (.ref C) "__setattr__"=some (some (.builtin "object.__setattr__"))
theorem jg.get{K:Frag}{C:Addr}(c:jg K C)(f:Str):plainGet K C f=true:=c.pg
def jh(K:Frag)(C:Addr)(f:Str):Prop:=PySem.W.findIn K (.ref C) f=some none
theorem jh.Qz{K:Frag}{C:Addr}{f:Str}(n:jh K C f):takerIn K C f=some none:=by
 unfold takerIn
 rw[show PySem.W.findIn K (.ref C) f=some none from n]
 rfl
structure Meth (K:Frag) (C:Addr) (m:Str) (f:Addr):Prop where
 at_:PySem.W.findIn K (.ref C) m=some (some (.ref f))
 fn:isFn K (.ref f)=true
 kp:keepIn K (.ref f)=true
section
variable {X:Cx} {pins:List (Addr×Obj)} {σ:St} {H:Hp} {s:Shared} {a C dx:Addr} {fs:List (Str×V)} {f:Str} {v:V} {A:Around} {E:Value→Shared→Prop}
theorem QC{b:Bool}{Q:Value→Shared→Prop}(I:Inv X pins σ H s)(e:H a=some (.ins C dx fs))(c:jg X.K C)(n:jh X.K C f)(l:fs.lookup f=some v)
  (h: ∀u s',Inv X pins σ H s'→RelV v u→Q u s'):wpAny (model X.prog X.w) A (getAttr (.ref a) f b) Q E s:=by
 obtain⟨mA,O,r,_,_,_⟩:=wH I.aE e
 obtain⟨u,hu,ru⟩:=fM.some_of (v:=v) (o:=mA f) (by rw[←l];exact r f)
 exact get_map I.cT O (c.get f) c.hd n hu (Qy ru) (h u _ (I.tok _) ru)
theorem QD{m:Str}{g:Addr}{pl:Sem Bool}{Q:Value×List Value→Shared→Prop}(I:Inv X pins σ H s)(e:H a=some (.ins C dx fs))(c:jg X.K C)(k:Meth X.K C m g)(l:fs.lookup m=none)
  (h:Q (.ref g,[.ref a]) s):wpAny (model X.prog X.w) A (getMethod (.ref a) m pl) Q E s:=by
 obtain⟨mA,O,r,_,_,_⟩:=wH I.aE e
 have hn:mA m=none:=fM.none_of (by rw[←l];exact r m)
 exact Qs I.cT O (c.get m) k.at_ k.fn hn h
theorem QE{y:V}{u:Value}{Q:Unit→Shared→Prop}(I:Inv X pins σ H s)(e:H a=some (.ins C dx fs))(c:jg X.K C)(n:jh X.K C f)(hl:fs.length<1000)(ry:RelV y u)
  (h: ∀s',Inv X pins σ (upd H a (.ins C dx (cI f y fs))) s'→Q () s'):wpAny (model X.prog X.w) A (setAttr (.ref a) f u) Q E s:=by
 obtain⟨mA,O,r,wi,_,ho⟩:=wH I.aE e
 have hz:(fs.map (·.1)).length≤sizeLine:=by rw[List.length_map,sizeLine_eq];omega
 refine Qt I.cT O c.sa c.po n.Qz c.hd wi hz fun h' O' sb=>h _ ?_
 have hd: ∃o,h'.get? dx=some o:=let ⟨o,_,_,e',_⟩:=O'.ns;⟨o,e'⟩
 refine I.write (x:=a) (e:=dx) (by rw[e];exact True.intro) (.inr ho) (fun b q hb z=> (sb.2 b hb).trans z) hd ?_
 refine⟨by rw[aG O.ne];exact ho, ?_,O.ne,O'.obj,_,O'.ns,fun g=> ?_,fun g hg=> ?_⟩
 ·have:=GP f y fs;omega
 ·show fM ((cI f y fs).lookup g) (if g=f then some u else mA g)
  rw[GO]
  by_cases q:g=f
  ·rw[if_pos q,if_pos q];exact ry
  ·rw[if_neg q,if_neg q];exact r g
 ·by_cases q:g=f
  ·rw[q];exact(zT f y fs).1
  ·refine(zT f y fs).2 g (wi g fun z=>hg ?_)
   show(if g=f then some u else mA g)=none
   rw[if_neg q];exact z
theorem Inv.made(I:Inv X pins σ H s):Inv X pins σ (upd (upd H s.heap.objs.size (.own (s.heap.objs.size+1))) (s.heap.objs.size+1) (.ins C s.heap.objs.size []))
  {s with heap:=(s.heap.push emptyDict).push (instObj C s.heap.objs.size)}:=by
 have e1:(s.heap.push emptyDict).get? s.heap.objs.size=some emptyDict:=Heap.get?_push_size s.heap rfl
 have e2:((s.heap.push emptyDict).push (instObj C s.heap.objs.size)).get? (s.heap.objs.size+1)=some (instObj C s.heap.objs.size):=by
  have:=Heap.get?_push_size (s.heap.push emptyDict) (o:=instObj C s.heap.objs.size) rfl
  rwa [Heap.size_push] at this
 have e3:(s.heap.push emptyDict).Ns s.heap.objs.size (fun _=>none):=⟨emptyDict,#[],_,e1,rfl,(fun e he=>absurd he (by simp)),fun _=>rfl⟩
 have I1:=I.laid (a:=s.heap.objs.size) (o:= .own (s.heap.objs.size+1)) (h':=s.heap.push emptyDict) (t':=s.toks) (fun b u q=>Heap.get?_push_of_some _ q) (Nat.le_refl _) ⟨_,e1⟩
 refine I1.laid (a:=s.heap.objs.size+1) (o:= .ins C s.heap.objs.size []) (t':=s.toks) (fun b u q=>Heap.get?_push_of_some _ q) (Nat.le_of_eq (Heap.size_push _ _)) ?_
 have ne:s.heap.objs.size≠s.heap.objs.size+1:=Nat.ne_of_lt (Nat.lt_succ_self _)
 refine⟨by rw[aG ne,aw],Nat.zero_le _,ne,e2,fun _=>none,(Heap.Ns1.of_empty e3).at fun o q=>Heap.get?_push_of_some _ q,fun _=>True.intro,fun y hy=>absurd rfl hy⟩
theorem QF{prog:Program}{w:World}{env:Env}{e:Expr}{f:Str}{pos:Pos}{s:Shared}{Q:Value→Shared→Prop}(hb:attributeBase e f env (eval e env)=eval e env)
  (h:wpAny (model prog w) A (eval e env) (fun o s₁=>wpAny (model prog w) A (getAttr o f true) Q E s₁) E s):wpAny (model prog w) A (eval (.Attribute e f pos) env) Q E s:=
 Attribute_any_ h (by rw[arm_eval_Attribute,hb])
end
def wI(K:Frag)(ta:TE)(f:Str):TE:=fun σ H Q=>ta σ H fun x H1=> ∃a C dx fs v,x= .ref a∧H1 a=some (.ins C dx fs)∧jg K C∧jh K C f∧fs.lookup f=some v∧Q v H1
def zU(K:Frag)(ta tv:TE)(f:Str):TS:=fun D σ H=>tv σ H fun y H1=>ta σ H1 fun x H2=> ∃a C dx fs,x= .ref a∧H2 a=some (.ins C dx fs)∧jg K C∧jh K C f∧fs.length<1000∧
 D.nx σ (upd H2 a (.ins C dx (cI f y fs)))
section
variable {X:Cx} {o e value:Expr} {f:Str} {pos pos' sV:Pos} {ta tv:TE}
theorem QG(he:PE X e ta)(hb:attributeBase e f X.env (eval e X.env)=eval e X.env):PE X (.Attribute e f pos) (wI X.K ta f):=by
 intro pins s σ H Q I h
 refine QF hb (aK (he pins s σ H _ I h) fun u s1 ⟨x,H1,I1,rx,a,C,dx,fs,v,ex,ea,c,n,l,q⟩=> ?_)
 subst ex
 obtain rfl:u=Value.ref a:=rx
 exact QC I1 ea c n l fun u' s2 I2 ru=> ⟨v,H1,I2,ru,q⟩
theorem QH(ha:PE X o ta)(hv:PE X value tv)(hs:swapsWith value (some (.Attribute o f pos')) pos.line X.env=pure false):PS X (.Assign [.Attribute o f pos'] value pos) (zU X.K ta tv f):=by
 intro pins s σ H D I h
 refine plainObj_wpAny_Assign_Attribute (aK (hv pins s σ H _ I h) fun u s1 ⟨y,H1,I1,ry,q⟩=>aK (ha pins s1 σ H1 _ I1 q) fun ov s2 ⟨x,H2,I2,rx,a,C,dx,fs,ex,ea,c,n,l,q2⟩=> ?_) hs
 subst ex
 obtain rfl:ov=Value.ref a:=rx
 exact QE I2 ea c n l ry fun s3 I3=> ⟨σ,_,I3,q2⟩
end
section
variable {X:Cx} {pins:List (Addr×Obj)} {σ:St} {H:Hp} {s:Shared} {A:Around} {E:Value→Shared→Prop} {Q:Value→Shared→Prop} {c:Value} {b:Bool}
inductive iK (K:Frag) (H:Hp):V→Value→Prop where
 | aD:iK K H .aD (.type "NoneType")
 | bl (x:Bool):iK K H (.bl x) (.type "bool")
 | int (i:Int):iK K H (.int i) (.type "int")
 | str (x:Str):iK K H (.str x) (.type "str")
 | mL (x:UInt64):iK K H (.mL x) (.type "float")
 | lst {a:Addr} {xs:List V} (e:H a=some (.lst xs)):iK K H (.ref a) (.type "list")
 | bz {a:Addr} {o:Obj} {xs:List V} (e:H a=some (.bz o (.lst xs))):iK K H (.ref a) (.type "list")
 | tup {a:Addr} {xs:List V} (e:H a=some (.tup xs)):iK K H (.ref a) (.type "tuple")
 | dK {a:Addr} {av:List (Key×V)} (e:H a=some (.dK av)):iK K H (.ref a) (.type "dict")
 | dT {a:Addr} {av:List (List Key×V)} (e:H a=some (.dT av)):iK K H (.ref a) (.type "dict")
 | ins {a C dx:Addr} {fs:List (Str×V)} (e:H a=some (.ins C dx fs)) (cl:jg K C) (ha:PySem.W.findIn K (.ref C) "__class__"=some (some (.builtin "object.__class__")))
   (hn:PySem.W.specialIn K (.builtin "object.__class__") "__get__"=some (some (.builtin "getset_descriptor.__get__"))) (mS:PySem.W.takesIn K (.builtin "object.__class__")=some true)
   (hm:PySem.W.mroIn K C (.type "object")=some true):iK K H (.ref a) (.ref C)
theorem kR{x:V}{u t:Value}(I:Inv X pins σ H s)(rx:RelV x u)(ty:iK X.K H x t)(e:kitOne X.K t c=some b)(h: ∀tk,Q (.bool b) {s with toks:=tk}):
  wpAny (model X.prog X.w) A (call (.builtin "isinstance") [u,c]) Q E s:=by
 cases ty with
 | aD=>cases (show u=Value.none from rx);exact kia_one PySem.W.kitx_none I.cT True.intro e (fun z=>nomatch z) h
 | bl y=>cases (show u=Value.bool y from rx);exact kia_one PySem.W.kitx_bool I.cT True.intro e (fun z=>nomatch z) h
 | int i=>obtain⟨t,q⟩:=(show ∃t,u=Value.int i t from rx);cases q;exact kia_one PySem.W.kitx_int I.cT True.intro e (fun z=>nomatch z) h
 | str y=>obtain⟨t,q⟩:=(show ∃t,u=Value.str y t from rx);cases q;exact kia_one PySem.W.kitx_str I.cT True.intro e (fun z=>nomatch z) h
 | mL y=>obtain⟨t,q⟩:=(show ∃t,u=Value.float y t from rx);cases q;exact kia_one PySem.W.kitx_float I.cT True.intro e (fun z=>nomatch z) h
 | @lst a xs ea=>
  cases (show u=Value.ref a from rx)
  obtain⟨_,_,n,_,h1⟩:=(show cm X.prog X.w H s.heap a (.lst xs) from I.aE a _ ea)
  exact kia_one kitx_list I.cT ⟨_,h1,rfl⟩ e (fun z=>nomatch z) h
 | @bz a ob xs ea=>
  cases (show u=Value.ref a from rx)
  obtain⟨_,_,_,n,_,h1⟩:=(show cm X.prog X.w H s.heap a (.bz ob (.lst xs)) from I.aE a _ ea)
  exact kia_one kitx_list I.cT ⟨_,h1,rfl⟩ e (fun z=>nomatch z) h
 | @tup a xs ea=>
  cases (show u=Value.ref a from rx)
  obtain⟨_,_,_,p⟩:=(show cm X.prog X.w H s.heap a (.tup xs) from I.aE a _ ea)
  obtain⟨o,h1,h2,_⟩:=p
  exact kia_one PySem.W.kitx_tuple I.cT ⟨o,h1,h2⟩ e (fun z=>nomatch z) h
 | @dK a av ea=>
  cases (show u=Value.ref a from rx)
  obtain⟨_,_,vs,_,p⟩:=(show cm X.prog X.w H s.heap a (.dK av) from I.aE a _ ea)
  obtain⟨o,es,ep,h1,h2,_⟩:=p
  exact kia_one kitx_dict I.cT ⟨o,h1,h2.1⟩ e (fun z=>nomatch z) h
 | @dT a av ea=>
  cases (show u=Value.ref a from rx)
  obtain⟨_,_,xs,_,o,es,ep,h1,h2,_⟩:=(show cm X.prog X.w H s.heap a (.dT av) from I.aE a _ ea)
  exact kia_one kitx_dict I.cT ⟨o,h1,h2.1⟩ e (fun z=>nomatch z) h
 | @ins a C dx fs ea cl ha hn mS hm=>
  cases (show u=Value.ref a from rx)
  obtain⟨mA,O,_⟩:=wH I.aE ea
  obtain⟨od,J,_⟩:=O.look
  exact kia_one (PySem.W.kitx_own (cl.get _) cl.hd ha hn mS hm) I.cT J e (fun z=>nomatch z) h
end
structure dh (k:Nat) (A:Around):Prop where
 hd:A.handled=none
 dp:A.depth+3*k+5<recursionLimit
 un:A.units+16*k+200<cLine
theorem dh.mono{j k:Nat}{A:Around}(r:dh k A)(h:j≤k):dh j A:=⟨r.hd,by have:=r.dp;omega,by have:=r.un;omega⟩
theorem dh.deeper{k:Nat}{A:Around}(r:dh (k+1) A)(env:Env):dh k (A.deeper env):=
 ⟨r.hd,by have:=r.dp;show A.depth+1+3*k+5<_;omega,by have:=r.un;show A.units+3+16*k+200<_;omega⟩
theorem QI{A:Around}{C:Addr}{us:List Value}{kw:List (Str×Value)}:(A.under (.builtin "type.__call__" ⟨.ref C::us,kw⟩)).depth=A.depth+1:=by
 first | rfl | simp[Around.under,Code.weight,Code.isCreation,Code.isGuard,Code.isCaller,Code.frames,Code.isFrame,guardIds]
theorem QJ{A:Around}{C:Addr}{us:List Value}{kw:List (Str×Value)}:(A.under (.builtin "type.__call__" ⟨.ref C::us,kw⟩)).units=A.units+1:=by
 first | rfl | simp[Around.under,Code.cUnits,Code.frames,Code.isFrame]
theorem dh.make{k:Nat}{A:Around}(r:dh (k+1) A)(C:Addr)(us:List Value)(kw:List (Str×Value)):dh k (A.under (.builtin "type.__call__" ⟨.ref C::us,kw⟩)):=
 ⟨r.hd,by have:=r.dp;rw[QI];omega,by have:=r.un;rw[QJ];omega⟩
theorem dh.depth{k:Nat}{A:Around}(r:dh k A):A.depth<recursionLimit:=by have:=r.dp;omega
theorem dh.units{k:Nat}{A:Around}(r:dh k A):A.units+64<cLine:=by have:=r.un;omega
def g5:TA:=fun _ H Q=>Q [] H
def di(ta:TE)(tr:TA):TA:=fun σ H Q=>ta σ H fun x H1=>tr σ H1 fun xs H2=>Q (x::xs) H2
section
variable {X:Cx} {e:Expr} {es:List Expr} {te:TE} {t:TA} {pos:Pos}
theorem mT:PA X [] g5:=fun _ _ _ _ H Q I h=>Calls.spliced_nil ⟨[],H,I, .nil,h⟩
theorem iL(ha:PE X e te)(hr:PA X es t)(hs:starEach (e::es) X.env=(false,eval e X.env)::starEach es X.env:=by rfl):PA X (e::es) (di te t):=by
 intro pos pins s σ H Q I h
 rw[hs]
 show wpAny _ _ (spliced ((false,eval e X.env)::backTo pos (starEach es X.env))) _ _ s
 refine Calls.spliced_cons (aK (ha pins s σ H _ I h) fun u s1 ⟨x,H1,I1,r1,q1⟩=> ?_)
 exact aK (hr pos pins s1 σ H1 _ I1 q1) fun us s2 ⟨xs,H2,I2,r2,q2⟩=> ⟨x::xs,H2,I2, .cons r1 r2,q2⟩
def GQ(t:TA):TE:=fun σ H Q=>t σ H fun xs H1=>xs.length≤sizeLine∧ ∀p,H1 p=none→Q (.ref p) (upd H1 p (.tup xs))
def GS(t:TA):TE:=fun σ H Q=>t σ H fun xs H1=>xs.length≤sizeLine∧ ∀p,H1 p=none→Q (.ref p) (upd H1 p (.lst xs))
theorem QK{x1}(h:PA X es t):PE X (.Tuple es x1 pos) (GQ t):=by
 intro pins s σ H Q I hq
 refine wpAny_Tuple_spliced (aK (h pos pins s σ H _ I hq) fun us s1 ⟨xs,H1,I1,r,z,q⟩=> ⟨by rw[←r.length];exact z, ?_⟩)
 have hf:H1 s1.heap.objs.size=none:=I1.aE.fresh (Nat.le_refl _)
 refine⟨.ref s1.heap.objs.size,upd H1 s1.heap.objs.size (.tup xs),I1.laid (t':=s1.toks) (fun b u e=>Heap.get?_push_of_some _ e) (Nat.le_refl _) ?_,rfl,q _ hf⟩
 exact⟨z,us,r,⟨_,Heap.get?_push_size _ rfl,rfl,_,rfl⟩⟩
theorem QL(h:PA X es t):PE X (.List es pos) (GS t):=by
 intro pins s σ H Q I hq
 refine wpAny_List_spliced (aK (h pos pins s σ H _ I hq) fun us s1 ⟨xs,H1,I1,r,z,q⟩=> ⟨by rw[←r.length];exact z, ?_⟩)
 have hf:H1 s1.heap.objs.size=none:=I1.aE.fresh (Nat.le_refl _)
 refine⟨.ref s1.heap.objs.size,upd H1 s1.heap.objs.size (.lst xs),I1.laid (t':=s1.toks) (fun b u e=>Heap.get?_push_of_some _ e) (Nat.le_refl _) ?_,rfl,q _ hf⟩
 exact⟨z,us,0,r,Heap.get?_push_size _ rfl⟩
end
abbrev Sp:=List V→Hp→VK→XK→Prop
abbrev bU:=List Env→Hp→Shared→XK→Value→Shared→Prop
structure kS (P:Program) (w:World) (K:Frag) (mg:Str→Option Value) (base:Heap) (A:Around) (outer:List Env) (s:Shared) (H:Hp):Prop where
 frames:A.frames=some outer
 mod:Mod K mg base
 bs: ∀b o,base.get? b=some o→s.heap.get? b=some o∧H b=none
 mM:base.objs.size≤s.heap.objs.size
 iH:s.heap.FunFrames base outer
 oo: ∀b∈br outer,H b=none
 aE:bN P w H s.heap
 bare:AllBare s.gens
def CE(outer:List Env)(P:Program)(w:World)(H:Hp)(s:Shared)(Q:VK)(u:Value)(s':Shared):Prop:=
 ∃v H',s'.os=s.os∧AllBare s'.gens∧Un (br outer) [] H H' s.heap s'.heap∧bN P w H' s'.heap∧RelV v u∧Q v H'
def CR(CX:bU)(outer:List Env)(P:Program)(w:World)(H:Hp)(s:Shared)(Q:VK)(E:XK)(r:Result)(s':Shared):Prop:=
 match r with
 | .ok (.ret u)=>CE outer P w H s Q u s'
 | .ok _=>False
 | .error e=>CX outer H s E e s'
structure cw (P:Program) (w:World) (K:Frag) (mg:Str→Option Value) (base:Heap) (CX:bU) (k:Nat) (f:Addr) (fd:FuncData) (ps:List Str) (sp:Sp):Prop where
 len: ∀vs H Q E,sp vs H Q E→vs.length=ps.length
 run: ∀(A:Around) (outer:List Env) (s:Shared) (H:Hp) (args:Args) (us:List Value) (vs:List V) (Q:VK) (E:XK),dh k A→kS P w K mg base A outer s H→BindsTo s fd args (ps.zip us)→Vals vs us→sp vs H Q E→
  codeAny (model P w) A (.call (.ref f) args) (CR CX outer P w H s Q E) s
theorem cw.mono{P:Program}{w:World}{K:Frag}{mg:Str→Option Value}{base:Heap}{CX:bU}{j k:Nat}{f:Addr}{fd:FuncData}{ps:List Str}{sp:Sp}(F:cw P w K mg base CX j f fd ps sp)(h:j≤k):
  cw P w K mg base CX k f fd ps sp:=⟨F.len,fun A outer s H args us vs Q E hr=>F.run A outer s H args us vs Q E (hr.mono h)⟩
theorem kS.make{P:Program}{w:World}{K:Frag}{mg:Str→Option Value}{base:Heap}{A:Around}{outer:List Env}{s:Shared}{H:Hp}(e:kS P w K mg base A outer s H)(C:Addr)(us:List Value)(kw:List (Str×Value)):
  kS P w K mg base (A.under (.builtin "type.__call__" ⟨.ref C::us,kw⟩)) outer s H:=⟨by first | exact e.frames | (simpa[Around.under,Code.envs,Code.isFrame,pushEnvs] using e.frames),e.mod,e.bs,e.mM,e.iH,e.oo,e.aE,e.bare⟩
section
variable {X:Cx} {pins:List (Addr×Obj)} {σ:St} {H:Hp} {s s':Shared}
theorem Inv.zV(I:Inv X pins σ H s):kS X.prog X.w X.K X.mg X.base X.A X.stack s H:=
 ⟨I.ok.frames,I.ok.mod,I.bs,Nat.le_trans I.ok.mM I.sz,I.stack,I.wo,I.aE,I.bare⟩
theorem Inv.after{Q:VK}{u:Value}(I:Inv X pins σ H s)(h:CE X.stack X.prog X.w H s Q u s'):EP X pins σ Q u s':=by
 obtain⟨v,H',os,bare,un,aE,r,q⟩:=h
 obtain⟨hh,g,d,t,QM⟩:=s'
 obtain rfl:QM=s.os:=os
 exact⟨v,H',I.call (h':=hh) (g':=g) (d':=d) (t':=t) (ch:=[]) un aE bare (fun b z=>absurd z (by simp)),r,q⟩
end
def zW(sp:Sp)(fq:List V)(E:XK)(t:TA):TE:=fun σ H Q=>t σ H fun vs H1=>sp (vs++fq) H1 Q E
def wJ(C:Addr)(m:Str)(sp:Sp)(fq:List V)(E:XK)(ta:TE)(t:TA):TE:=fun σ H Q=>ta σ H fun x H1=> ∃a dx fs,x= .ref a∧H1 a=some (.ins C dx fs)∧fs.lookup m=none∧
 t σ H1 fun vs H2=>sp (x::(vs++fq)) H2 Q E
def zX(C:Addr)(sp:Sp)(fq:List V)(E:XK)(t:TA):TE:=fun σ H Q=>t σ H fun vs H1=> ∀x dx,H1 x=none→H1 dx=none→dx≠x→
 sp (.ref x::(vs++fq)) (upd (upd H1 dx (.own x)) x (.ins C dx [])) (fun v H2=>v= .aD∧Q (.ref x) H2) E
def Binds(K:Frag)(fd:FuncData)(ps:List Str)(ds:List Value):Prop:=
 ∀(s:Shared) (us:List Value),K.In s.heap→(us++ds).length=ps.length→BindsTo s fd ⟨us,[]⟩ (ps.zip (us++ds))
theorem Binds.all{K:Frag}{fd:FuncData}{ps:List Str}(h: ∀us:List Value,us.length=ps.length→bindArgs fd ⟨us,[]⟩=pure (ps.zip us)):Binds K fd ps []:=fun s us _ hl=>by
 rw[List.append_nil] at hl⊢
 exact .of_eq (h us hl)
def Passes(CX:bU)(X:Cx)(E:XK):Prop:= ∀(pins:List (Addr×Obj)) (σ:St) (H:Hp) (s:Shared) (e:Value) (s':Shared),Inv X pins σ H s→CX X.stack H s E e s'→X.xe e s'
section
variable {X:Cx} {CX:bU} {k:Nat} {f C:Addr} {fd:FuncData} {ps:List Str} {sp:Sp} {fq:List V} {ds:List Value} {E:XK} {x m:Str} {p pos apos:Pos} {e o:Expr} {es:List Expr} {ta:TE} {t:TA}
theorem GU{pins:List (Addr×Obj)}{σ:St}{H:Hp}{s:Shared}{Q:VK}{us:List Value}{vs:List V}(F:cw X.prog X.w X.K X.mg X.base CX k f fd ps sp)(hr:dh k X.A)(hb:Binds X.K fd ps ds)(hd:Vals fq ds)(hx:Passes CX X E)
  (I:Inv X pins σ H s) (r:Vals vs us) (h:sp (vs++fq) H Q E):wpAny (model X.prog X.w) X.A (call (.ref f) us) (EP X pins σ Q) X.xe s:=by
 have r2:Vals (vs++fq) (us++ds):=r.append hd
 have hl:(us++ds).length=ps.length:=by rw[←r2.length];exact F.len _ _ _ _ h
 refine wpAny_call (codeAny_mono (F.run X.A X.stack s H ⟨us,[]⟩ (us++ds) (vs++fq) Q E hr I.zV (hb s us I.cT hl) r2 h) fun r s' hq=> ?_)
 cases r with
 | error e=>exact hx pins σ H s e s' I hq
 | ok fl=>
  cases fl with
  | ret u=>exact I.after hq
  | next=>exact False.elim hq
  | brk=>exact False.elim hq
  | cont=>exact False.elim hq
theorem QN(F:cw X.prog X.w X.K X.mg X.base CX k f fd ps sp)(hr:dh k X.A)(hg:Gl X x)(hm:X.mg x=some (.ref f))(hk:keepIn X.K (.ref f)=true)(hb:Binds X.K fd ps ds)(hd:Vals fq ds)(hx:Passes CX X E)
  (ha:PA X (e::es) t) (kT:(x==("__debug__":Str))=false:=by decide) (he:starEach (e::es) X.env=(false,eval e X.env)::starEach es X.env:=by rfl) (jQ:(backTo pos (starEach es X.env)).any (·.1)=false:=by rfl):
  PE X (.Call (.Name x p) (e::es) [] pos) (zW sp fq E t):=by
 intro pins s σ H Q I h
 refine wpAny_Call_Name_kw (sM I hg hm ?_ kT)
 refine callWith_K (h₀:=X.base) I.ok.mod.om hk (aK (ha pos pins s σ H _ I h) fun us s1 ⟨vs,H1,I1,r,q⟩=> ⟨I1.cT, ?_⟩) he jQ
 exact GU F hr hb hd hx I1 r q
structure Mk (K:Frag) (C f:Addr):Prop where
 makes:makesIn K C=true
 init:PySem.W.findIn K (.ref C) "__init__"=some (some (.ref f))
 fn:isFn K (.ref f)=true
 kp:keepIn K (.ref C)=true
theorem QO{pins:List (Addr×Obj)}{σ:St}{H:Hp}{s:Shared}{Q:VK}{us:List Value}{vs:List V}(M:Mk X.K C f)(F:cw X.prog X.w X.K X.mg X.base CX k f fd ps sp)(hr:dh (k+1) X.A)(hb:Binds X.K fd ps ds)(hd:Vals fq ds)
  (hx:Passes CX X E) (I:Inv X pins σ H s) (r:Vals vs us)
  (h: ∀x dx,H x=none→H dx=none→dx≠x→sp (.ref x::(vs++fq)) (upd (upd H dx (.own x)) x (.ins C dx [])) (fun v H2=>v= .aD∧Q (.ref x) H2) E):
  wpAny (model X.prog X.w) X.A (call (.ref C) us) (EP X pins σ Q) X.xe s:=by
 have hq:=h (s.heap.objs.size+1) s.heap.objs.size (I.aE.fresh (Nat.le_succ _)) (I.aE.fresh (Nat.le_refl _)) (Nat.ne_of_lt (Nat.lt_succ_self _))
 have I2:=Inv.made (C:=C) I
 have r2:Vals (V.ref (s.heap.objs.size+1)::(vs++fq)) (Value.ref (s.heap.objs.size+1)::(us++ds)):= .cons rfl (r.append hd)
 have hl:(Value.ref (s.heap.objs.size+1)::us++ds).length=ps.length:=by
  have e:=r2.length
  rw[F.len _ _ _ _ hq] at e
  exact e.symm
 refine wpAny_call (Qx (f:=f) I.cT M.makes M.init (beq_iff_eq.mp M.fn) (codeAny_mono (F.run _ X.stack _ _ ⟨Value.ref (s.heap.objs.size+1)::us,[]⟩ (Value.ref (s.heap.objs.size+1)::(us++ds)) _ _ E (hr.make C us [])
  (I2.zV.make C us []) (hb _ (Value.ref (s.heap.objs.size+1)::us) I2.cT hl) r2 hq) fun r s' sW=> ?_))
 cases r with
 | error e=>exact hx pins σ _ _ e s' I2 sW
 | ok fl=>
  cases fl with
  | ret u=>
   obtain⟨v,H',I3,rv,ev,q3⟩:=I2.after sW
   subst ev
   exact⟨rv,⟨V.ref (s.heap.objs.size+1),H',I3,rfl,q3⟩⟩
  | next=>exact False.elim sW
  | brk=>exact False.elim sW
  | cont=>exact False.elim sW
theorem QP(M:Mk X.K C f)(F:cw X.prog X.w X.K X.mg X.base CX k f fd ps sp)(hr:dh (k+1) X.A)(hg:Gl X x)(hm:X.mg x=some (.ref C))(hb:Binds X.K fd ps ds)(hd:Vals fq ds)(hx:Passes CX X E)
  (ha:PA X (e::es) t) (kT:(x==("__debug__":Str))=false:=by decide) (he:starEach (e::es) X.env=(false,eval e X.env)::starEach es X.env:=by rfl) (jQ:(backTo pos (starEach es X.env)).any (·.1)=false:=by rfl):
  PE X (.Call (.Name x p) (e::es) [] pos) (zX C sp fq E t):=by
 intro pins s σ H Q I h
 refine wpAny_Call_Name_kw (sM I hg hm ?_ kT)
 refine callWith_K (h₀:=X.base) I.ok.mod.om M.kp (aK (ha pos pins s σ H _ I h) fun us s1 ⟨vs,H1,I1,r,q⟩=> ⟨I1.cT, ?_⟩) he jQ
 exact QO M F hr hb hd hx I1 r q
end
section
variable {X:Cx} {CX:bU} {k:Nat} {f C:Addr} {fd:FuncData} {ps ks:List Str} {sp:Sp} {E:XK} {x m:Str} {p pos apos amZ:Pos} {e o:Expr} {es:List Expr} {kws:List Keyword} {te ta:TE} {t tk:TA} {nm:Option Str}
variable {g:List Value→List Value→List Value} {gV:List V→List V→List V}
end
structure bA (N P:List Str) (sc:Scope):Prop where
 kind:sc.kind= .function
 co:sc.isCoroutine=false
 gen:sc.isGenerator=false
 nd:N.Nodup
 pre:N.take P.length=P
 par: ∀x∈P,sc.names.lookup x=some .local∨sc.names.lookup x=some .cell
 QR: ∀y∈sc.names,y.2≠ .free
theorem bO{N P:List Str}{sc:Scope}(a:sc.kind= .function:=by kernel_rfl)(b:sc.isCoroutine=false:=by kernel_rfl)(c:sc.isGenerator=false:=by kernel_rfl)(d:N.Nodup:=by decide+kernel)(e:N.take P.length=P:=by kernel_rfl)(f: ∀x∈P,sc.names.lookup x=some .local∨sc.names.lookup x=some .cell:=by decide+kernel)(g: ∀y∈sc.names,y.2≠ .free:=by decide+kernel):bA N P sc:=⟨a,b,c,d,e,f,g⟩
theorem GV{kindOf:Str→Option NameKind}{x:Str}: ∀{binds:List (Str×Value)} {m:Str→Option Value},(∀v,(x,v)∉binds)→bindL kindOf binds m x=m x
 | [],_,_=>rfl
 | (n,v)::r,m,h=>by
  unfold bindL
  rw[GV fun w hw=>h w (List.mem_cons_of_mem _ hw)]
  split
  ·have:x≠n:=by rintro rfl;exact h v List.mem_cons_self
   simp[this]
  ·rfl
theorem GW{kindOf:Str→Option NameKind}{x:Str}: ∀{binds:List (Str×Value)} {m:Str→Option Value},(∀v,(x,v)∉binds)→bindC kindOf binds m x=m x
 | [],_,_=>rfl
 | (n,v)::r,m,h=>by
  unfold bindC
  rw[GW fun w hw=>h w (List.mem_cons_of_mem _ hw)]
  split
  ·rfl
  ·have:x≠n:=by rintro rfl;exact h v List.mem_cons_self
   simp[this]
theorem GX{kindOf:Str→Option NameKind}{x:Str}{v:Value}: ∀{P:List Str} {vs:List Value} {i:Nat} {m:Str→Option Value},P.Nodup→P[i]?=some x→vs[i]?=some v→kindOf x=some .local→
  bindL kindOf (P.zip vs) m x=some v
 | [],_,_,_,_,h,_,_=>by simp at h
 | _::_,[],_,_,_,_,h,_=>by simp at h
 | p::P,w::vs,0,m,nd,h1,h2,hk=>by
  simp at h1 h2;subst h1;subst h2
  show bindL kindOf ((p,w)::P.zip vs) m p=_
  unfold bindL
  rw[GV fun v hv=> (List.nodup_cons.mp nd).1 (List.of_mem_zip hv).1,if_pos hk]
  simp
 | p::P,w::vs,i+1,m,nd,h1,h2,hk=>by
  show bindL kindOf ((p,w)::P.zip vs) m x=_
  unfold bindL
  exact GX (i:=i) (List.nodup_cons.mp nd).2 (by simpa using h1) (by simpa using h2) hk
theorem GY{kindOf:Str→Option NameKind}{x:Str}{v:Value}: ∀{P:List Str} {vs:List Value} {i:Nat} {m:Str→Option Value},P.Nodup→P[i]?=some x→vs[i]?=some v→kindOf x≠some .local→
  bindC kindOf (P.zip vs) m x=some v
 | [],_,_,_,_,h,_,_=>by simp at h
 | _::_,[],_,_,_,_,h,_=>by simp at h
 | p::P,w::vs,0,m,nd,h1,h2,hk=>by
  simp at h1 h2;subst h1;subst h2
  show bindC kindOf ((p,w)::P.zip vs) m p=_
  unfold bindC
  rw[GW fun v hv=> (List.nodup_cons.mp nd).1 (List.of_mem_zip hv).1,if_neg hk]
  simp
 | p::P,w::vs,i+1,m,nd,h1,h2,hk=>by
  show bindC kindOf ((p,w)::P.zip vs) m x=_
  unfold bindC
  exact GY (i:=i) (List.nodup_cons.mp nd).2 (by simpa using h1) (by simpa using h2) hk
def start(N:List Str)(vs:List V):St:=vs.map some++List.replicate (N.length - vs.length) none
def kU(CX:bU)(P:Program)(w:World)(K:Frag)(mg:Str→Option Value)(base:Heap)(N:List Str)(qual:Str)(scope:Scope)(f:Addr)(cd:Value)(A:Around)(outer:List Env)(s:Shared)(H:Hp)(E:XK):Cx where
 prog:=P
 w:=w
 K:=K
 mg:=mg
 base:=base
 A:=A.deeper (envOfC qual scope s.heap.objs.size f cd)
 N:=N
 s₀:=s
 H₀:=H
 env:=envOfC qual scope s.heap.objs.size f cd
 outer:=outer
 stack:=envOfC qual scope s.heap.objs.size f cd::outer
 ex:=[]
 calm:=true
 fn:=fun _=>true
 pn:=[]
 xe:=fun e s'=>wpAny (model P w) (A.deeper (envOfC qual scope s.heap.objs.size f cd)) (leaving (envOfC qual scope s.heap.objs.size f cd) e) (fun _ gA=>CX outer H s E e gA) (fun e' gA=>CX outer H s E e' gA) s'
theorem GZ{sc:Scope}{n:Nat}{x:Str}(h:sc.names.lookup x=some .cell): ∃c,(cellsFrom n sc.names []).lookup x=some c:=by
 have q:=cellsFrom_some sc.names n [] (.inl h)
 exact Option.isSome_iff_exists.mp q
theorem G0{CX:bU}{P:Program}{w:World}{K:Frag}{mg:Str→Option Value}{base:Heap}{N ps:List Str}{qual:Str}{scope:Scope}{f:Addr}{cd:Value}{A:Around}{outer:List Env}{s s1:Shared}{H:Hp}{E:XK}{us:List Value}{vs:List V}
  (S:bA N ps scope) (hd:A.handled=none) (e0:kS P w K mg base A outer s H) (hl:vs.length=ps.length) (r:Vals vs us)
  (x:InCallC s s.heap.objs.size (bindL (envOfC qual scope s.heap.objs.size f cd).kindOf (ps.zip us) fun _=>none) (cellsFrom (s.heap.objs.size+1) scope.names []) (bindC (envOfC qual scope s.heap.objs.size f cd).kindOf (ps.zip us) fun _=>none) s1):
  Inv (kU CX P w K mg base N qual scope f cd A outer s H E) [] (start N vs) H s1:=by
 have jQ:ps.length≤N.length:=by have:=congrArg List.length S.pre;rw[List.length_take] at this;omega
 obtain⟨h1,tk,rfl,hk⟩:=x.done
 have sX: ∀b:Addr,b∉ (kU CX P w K mg base N qual scope f cd A outer s H E).ex:=fun b z=>absurd (show b∈ ([]:List Addr) from z) (by simp)
 refine⟨⟨e0.mod,S.kind,rfl,rfl,Nat.le_refl _,fun y z c h1 h2=> ?_,fun y hy=> ?_,fun y c _ h=> ?_,fun _=>hd,Around.frames_deeper e0.frames, .inr ⟨rfl,rfl⟩,fun b z=>absurd z (sX b),e0.bs,e0.mM,fun b _ _=>sX b,fun b z=>absurd z (sX b),e0.iH,e0.oo⟩,
  rfl,e0.bare,Un.kept hk,⟨_,x.toInCall.ns,fun i y v h1 h2 h3=> ?_⟩,fun y c h=> ⟨_,x.cell y c h⟩,e0.aE.fresh (Nat.le_refl _),fun y c h=> ?_,fun p hp=>absurd (show p∈ ([]:List (Addr×Obj)) from hp) (by simp),e0.aE.kept hk, ?_⟩
 ·exact name_of_addr x.apart (PySem.mem_of_lookup h1) (PySem.mem_of_lookup h2)
 ·have hy:scope.names.lookup y=some .cell∨scope.names.lookup y=some .free:=hy
  rcases hy with hy | hy
  ·exact GZ hy
  ·exact absurd rfl (S.QR _ (PySem.mem_of_lookup hy))
 ·exact Nat.le_of_lt (x.above y c (PySem.mem_of_lookup h))
 ·have hi:i<vs.length:=by
   unfold start at h2
   by_cases hi:i<vs.length
   ·exact hi
   ·rw[List.getElem?_append_right (by simpa using hi)] at h2
    rw[List.getElem?_replicate] at h2
    split at h2<;>cases h2
  have ha:vs[i]?=some v:=by
   unfold start at h2
   rw[List.getElem?_append_left (by simpa using hi),List.getElem?_map] at h2
   cases e:vs[i]? with
   | none=>rw[e] at h2;cases h2
   | some a=>rw[e] at h2;cases h2;rfl
  obtain⟨u,hu,rv⟩:=r.get ha
  have hp:ps[i]?=some y:=by
   rw[←S.pre,List.getElem?_take_of_lt (by omega)];exact h1
  have G1:ps.Nodup:=by rw[←S.pre];exact S.nd.sublist (List.take_sublist _ _)
  refine⟨u,rv, ?_⟩
  rcases S.par y (List.mem_of_getElem? hp) with k | k
  ·exact .inl ⟨k,GX G1 hp hu k⟩
  ·obtain⟨c,e⟩:=GZ (n:=s.heap.objs.size+1) k
   refine .inr ⟨.inl k,c,e, ?_⟩
   have q:=x.cell y c e
   rw[GY G1 hp hu (by show scope.names.lookup y≠_;rw[k];decide)] at q
   exact q
 ·exact e0.aE.fresh (Nat.le_of_lt (x.above y c (PySem.mem_of_lookup h)))
 ·unfold start
  show _=N.length
  rw[List.length_append,List.length_map,List.length_replicate]
  omega
theorem QS{CX:bU}{P:Program}{w:World}{K:Frag}{mg:Str→Option Value}{base:Heap}{k:Nat}{f:Addr}{name qual:Str}{params:Arguments}{body:List Stmt}{scope:Scope}{dV kV doc pm bK ct oc:Value}{an od:Option Addr}
  {ji:Array (Option Value)} {N ps:List Str} {sp:Sp} (lk:K.lookup f=some ⟨oc,od, .func (fnOf name qual params body scope dV kV doc pm an bK ct),ji⟩) (ia:codeIn K bK qual=true) (S:bA N ps scope)
  (len: ∀vs H Q E,sp vs H Q E→vs.length=ps.length)
  (zY: ∀(A:Around) (outer:List Env) (s:Shared) (H:Hp) (vs:List V) (Q:VK) (E:XK),dh k (A.deeper (envOfC qual scope s.heap.objs.size f bK))→sp vs H Q E→
   ∃t,dz (kU CX P w K mg base N qual scope f bK A outer s H E) body t∧t {nx:=fun _ H'=>Q .aD H',rt:=Q} (start N vs) H):
  cw P w K mg base CX (k+1) f (fnOf name qual params body scope dV kV doc pm an bK ct) ps sp:=by
 refine⟨len,fun A outer s H args us vs Q E hr e0 hb r ib=> ?_⟩
 have hl:=len _ _ _ _ ib
 have KX:K.In s.heap:=e0.mod.om.keeps fun b o e=> (e0.bs b o e).1
 have lim:s.heap.NoLimit:=e0.mod.nolimit.keeps fun b o e=> (e0.bs b o e).1
 have zZ: ∀y∈ps.zip us,scope.names.lookup y.1=some .local∨(scope.names.lookup y.1=some .cell∧((cellsFrom (s.heap.objs.size+1) scope.names []).lookup y.1).isSome=true):=fun⟨n,v⟩ hy=>by
  rcases S.par n (List.of_mem_zip hy).1 with q | q
  ·exact .inl q
  ·exact .inr ⟨q,cellsFrom_some _ _ _ (.inl q)⟩
 refine codeAny_call_function hr.depth (KX _ _ lk) rfl S.co S.gen rfl (codeRec_of KX ia) (hb _ _ _ _ ?_)
 refine wpAny_newFunctionEnv_cells S.kind zZ fun env he s1 x=> ?_
 subst he
 refine⟨lim.keeps x.toInCall.keep,codeAny_func ?_⟩
 obtain⟨t,ht,hq⟩:=zY A outer s H vs Q E (hr.deeper _) ib
 have I:Inv (kU CX P w K mg base N qual scope f bK A outer s H E) [] (start N vs) H s1:=G0 S hr.hd e0 hl r x
 refine wpAny_mono (ht [] s1 (start N vs) H _ I hq) (fun fl s' hs=> ?_) fun e s' hs=>hs
 have fin: ∀{σ':St} {H':Hp} {v:V} {u:Value},Inv (kU CX P w K mg base N qual scope f bK A outer s H E) [] σ' H' s'→RelV v u→Q v H'→CE outer P w H s Q u s':=
  fun {σ' H' v u} J rv q=> ⟨v,H',J.os,J.bare,J.base,J.aE,rv,q⟩
 cases fl with
 | ret u=>
  obtain⟨v,σ',H',J,rv,q⟩:=hs
  exact fin J rv q
 | next=>
  obtain⟨σ',H',J,q⟩:=hs
  exact fin (v:=V.aD) (u:=Value.none) J rfl q
 | brk=>
  obtain⟨_,_,_,q⟩:=hs
  exact False.elim q
 | cont=>
  obtain⟨_,_,_,q⟩:=hs
  exact False.elim q
section
variable {X:Cx} {x:Str} {p pos:Pos} {e:Expr} {es:List Expr} {t:TA} {id T:String} {r:List V→Hp→VK→Prop}
def dY(r:List V→Hp→VK→Prop)(t:TA):TE:=fun σ H Q=>t σ H fun vs H1=>r vs H1 Q
theorem mU(hc:cc X (.builtin id) r)(hg:Gl X x)(hm:X.mg x=none)(hv:bootBuiltins x=some (.builtin id))(ha:PA X (e::es) t)(hn:x≠"__name__":=by decide)(kT:(x==("__debug__":Str))=false:=by decide)
  (he:starEach (e::es) X.env=(false,eval e X.env)::starEach es X.env:=by rfl) (jQ:(backTo pos (starEach es X.env)).any (·.1)=false:=by rfl):PE X (.Call (.Name x p) (e::es) [] pos) (dY r t):=by
 intro pins s σ H Q I h
 refine wpAny_Call_Name_kw (ot I hg hm hv ?_ hn kT)
 exact PyProof.Rows.callWith_builtin1 (aK (ha pos pins s σ H _ I h) fun us s1 ⟨vs,H1,I1,r1,q1⟩=>hc pins s1 σ H1 vs us Q I1 r1 q1) he jQ
theorem QU(hc:cc X (.type T) r)(hg:Gl X x)(hm:X.mg x=none)(hv:bootBuiltins x=some (.type T))(ha:PA X (e::es) t)(hn:x≠"__name__":=by decide)(kT:(x==("__debug__":Str))=false:=by decide)
  (he:starEach (e::es) X.env=(false,eval e X.env)::starEach es X.env:=by rfl) (jQ:(backTo pos (starEach es X.env)).any (·.1)=false:=by rfl):PE X (.Call (.Name x p) (e::es) [] pos) (dY r t):=by
 intro pins s σ H Q I h
 refine wpAny_Call_Name_kw (ot I hg hm hv ?_ hn kT)
 exact PyProof.Rows.callWith_type1 (aK (ha pos pins s σ H _ I h) fun us s1 ⟨vs,H1,I1,r1,q1⟩=>hc pins s1 σ H1 vs us Q I1 r1 q1) he jQ
end
end L2
namespace HT
open PySem PyProof.Rows
section
open PySem.SeqAt
open PySem.AutoSeq1 (wpAny_loadPart')
open PySem.MeetsSeq PySem.MeetsSeq2 PySem.MeetsSeq3
end
section
variable {prog:Program} {w:World} {A:Around} {E:Value→Shared→Prop} {s:Shared}
theorem QV{t b:Addr}{vs ws:List Value}{Q:Value→Shared→Prop}(ht:IsTup s.heap t vs.toArray)(hb:IsTup s.heap b ws.toArray)(hv:vs≠ [])
  (h1:ws=[]→Q (.ref t) s) (h2:ws≠ []→Q (.ref s.heap.objs.size) {s with heap:=s.heap.push {cls:= .type "tuple",data:= .seq (vs++ws).toArray}})
  (hsz:vs.length+ws.length≤sizeLine):wpAny (model prog w) A (binaryOp .Add (.ref t) (.ref b)) Q E s:=by
 obtain⟨⟨cls,dd,data,sl⟩,ho,hc,n,hd⟩:=id ht
 obtain⟨⟨am1,G3,data2,oC⟩,ic,sY,n2,hd2⟩:=id hb
 simp only at hc hd sY hd2
 subst hc hd sY hd2
 have e:vs.toArray++ws.toArray=(vs++ws).toArray:=by simp
 by_cases hw:ws=[]
 ·exact concat_meets ⟨_,ho,rfl⟩ ⟨_,ic,rfl⟩ noFill_tuple_add seq_tuple_add PySem.F.slot_tuple_add PySem.F.entry_tuple_add (PySem.F.args_tuple_add_2 _ _)
   (tuple_addW1 t b vs.toArray ws.toArray n n2 dd G3 sl oC (by simpa using hv) (by simp[hw])) ⟨ho,ic,h1 hw⟩
 ·refine concat_meets ⟨_,ho,rfl⟩ ⟨_,ic,rfl⟩ noFill_tuple_add seq_tuple_add PySem.F.slot_tuple_add PySem.F.entry_tuple_add (PySem.F.args_tuple_add_2 _ _)
   (tuple_addW2 t b vs.toArray ws.toArray n n2 dd G3 sl oC (by simpa using hv) (by simpa using hw) (by rw[List.size_toArray,List.size_toArray];exact hsz)) ⟨ho,ic, ?_⟩
  rw[e]
  exact h2 hw
def aV(n d:Nat):Option Int→Nat
 | none=>d
 | some v=>if v<0 then (v+ (n:Int)).toNat else min v.toNat n
theorem z0(n d:Nat):aV n d none=d:=rfl
theorem oE(n d k:Nat):aV n d (some (k:Int))=min k n:=by
 show(if (k:Int) <0 then ((k:Int)+ (n:Int)).toNat else min (k:Int).toNat n)=min k n
 rw[if_neg (by omega),Int.toNat_natCast]
theorem z_(n d:Nat)(hd:d≤n)(o:Option Int):aV n d o≤n:=by
 cases o with
 | none=>exact hd
 | some v=>
  show(if v<0 then (v+ (n:Int)).toNat else min v.toNat n)≤n
  by_cases hv:v<0
  ·rw[if_pos hv];omega
  ·rw[if_neg hv];exact Nat.min_le_right _ _
theorem G4(v:Int)(n d:Nat):(if v<0 then max (v+ (n:Int)) 0 else min v (n:Int))=((aV n d (some v):Nat):Int):=by
 show(if v<0 then max (v+ (n:Int)) 0 else min v (n:Int))=(((if v<0 then (v+ (n:Int)).toNat else min v.toNat n):Nat):Int)
 by_cases hv:v<0
 ·simp only[if_pos hv];omega
 ·simp only[if_neg hv];omega
theorem QW(lo hi:Option Int)(n:Nat):Builtin.Slice.sliceAdjust lo hi 1 (n:Int)=(((aV n 0 lo:Nat):Int),((aV n n hi:Nat):Int)):=by
 have h1: ¬((1:Int) <0):=by omega
 unfold Builtin.Slice.sliceAdjust
 simp only[h1,if_false]
 refine Prod.ext ?_ ?_
 ·cases lo with
  | none=>rfl
  | some v=>exact G4 v n 0
 ·cases hi with
  | none=>rfl
  | some v=>exact G4 v n n
theorem QX(i j:Nat):Builtin.Slice.slicePlaces (i:Int) (j:Int) 1=j - i:=by
 unfold Builtin.Slice.slicePlaces
 have h1:(1:Int) >0:=by omega
 simp only[h1,if_true,Int.ediv_one]
 split<;>omega
theorem G5{v:Value}{o:Option Int}{Q:Option Int→Shared→Prop}(p:IsPart v o)(h:Q o s):wpAny (model prog w) A (Builtin.Slice.slicePartIndex v) Q E s:=by
 cases p with
 | none=>exact slicePart_none h
 | int i t=>exact slicePart_int h
theorem QY{sl:Addr}{vl vu:Value}{lo hi:Option Int}{n:Nat}{Q:Int×Int×Nat→Shared→Prop}(hs:s.heap.IsSliceOf sl vl vu .none)(pl:IsPart vl lo)(pu:IsPart vu hi)
  (h:Q (((aV n 0 lo:Nat):Int),1,aV n n hi - aV n 0 lo) s):wpAny (model prog w) A (Builtin.Slice.sliceApplied (.ref sl) (pure (n:Int))) Q E s:=by
 obtain⟨os,sZ,cO,mV⟩:=id hs
 unfold Builtin.Slice.sliceApplied Builtin.Slice.sliceFields
 refine wpAny_bind (wpAny_bind (wpAny_field sZ mV (x:=vl) rfl (wpAny_bind (wpAny_field sZ mV (x:=vu) rfl (wpAny_bind (wpAny_field sZ mV (x:= .none) rfl (wpAny_pure ?_)))))))
 refine wpAny_bind (slicePart_none ?_)
 show wpAny _ _ (if ((1:Int)==0)=true then _ else _) _ _ s
 rw[if_neg (by decide)]
 refine wpAny_bind (G5 pl (wpAny_bind (G5 pu (wpAny_bind (wpAny_pure ?_)))))
 show wpAny _ _ (match Builtin.Slice.sliceAdjust lo hi 1 (n:Int) with | (lo,hi)=>pure (lo,(1:Int),Builtin.Slice.slicePlaces lo hi 1)) _ _ s
 rw[QW lo hi n]
 show wpAny _ _ (pure (((aV n 0 lo:Nat):Int),(1:Int),Builtin.Slice.slicePlaces ((aV n 0 lo:Nat):Int) ((aV n n hi:Nat):Int) 1)) _ _ s
 rw[QX]
 exact wpAny_pure h
theorem QZ(xs:Array Value)(i k:Nat):((List.range k).filterMap fun(m:Nat)=>xs[((i:Int)+ (m:Int)*1).toNat]?).toArray=((xs.toList.drop i).take k).toArray:=by
 have e:(fun(m:Nat)=>xs[((i:Int)+ (m:Int)*1).toNat]?)=fun m=>xs[i+m]?:=by
  funext m
  have:((i:Int)+ (m:Int)*1).toNat=i+m:=by omega
  rw[this]
 rw[e]
 have:=pick_run xs i k
 rw[List.filterMap_map] at this
 have e2:((fun x=>xs[x]?)∘fun x=>i+x)=fun m=>xs[i+m]?:=rfl
 rw[e2] at this
 rw[this]
theorem Q0{t sl:Addr}{items:Array Value}{vl vu:Value}{lo hi:Option Int}{Q:Value→Shared→Prop}(ht:IsTup s.heap t items)(hs:s.heap.IsSliceOf sl vl vu .none)(pl:IsPart vl lo)(pu:IsPart vu hi)
  (hw: ¬(aV items.size 0 lo=0∧aV items.size items.size hi=items.size))
  (h:Q (.ref s.heap.objs.size) {s with heap:=s.heap.push {cls:= .type "tuple",data:= .seq ((items.toList.drop (aV items.size 0 lo)).take (aV items.size items.size hi - aV items.size 0 lo)).toArray}})
  (hsz:items.size≤sizeLine):wpAny (model prog w) A (getItem (.ref t) (.ref sl)) Q E s:=by
 have wK:sizeOk (.seq ((items.toList.drop (aV items.size 0 lo)).take (aV items.size items.size hi - aV items.size 0 lo)).toArray):=by
  show((items.toList.drop (aV items.size 0 lo)).take (aV items.size items.size hi - aV items.size 0 lo)).toArray.size≤sizeLine
  rw[List.size_toArray,List.length_take,List.length_drop,Array.length_toList]
  omega
 have hj:aV items.size items.size hi≤items.size:=z_ _ _ (Nat.le_refl _) hi
 obtain⟨os,sZ,cO,mV⟩:=id hs
 have Q2:s.TypeIs (.ref sl) "slice":=⟨os,sZ,cO⟩
 unfold getItem
 try with_reducible refine wpAny_holding ?_
 first | refine wpAny_bind (wpAny_pure ?_) | skip
 refine wpAny_bind (wpAny_sequenceKey ht.typeIs (by decide) ?_)
 refine wpAny_bind (wpAny_callSpecial?_slot (name:=Str.ofString "__getitem__") ht.typeIs PyProof.Rows.slot_tuple_getitem
  (wpAny_call_entry PyProof.Rows.slot_tuple_getitem ht.typeIs entry_tuple_getitem ?_ (args_tuple_getitem _ _)))
 show wpAny _ _ (Builtin.Tuple.tupleItemsOf (.ref t) >>=_) _ _ s
 refine wpAny_bind (tupleItemsOf_ ht ?_)
 refine wpAny_bind (wpAny_typeOf Q2 ?_)
 rw[if_pos (by decide)]
 refine wpAny_bind (QY hs pl pu ?_)
 have Q3: ¬((((aV items.size 0 lo:Nat):Int)==0 && (1:Int)==1 && (aV items.size items.size hi - aV items.size 0 lo)==items.size)=true):=by
  intro q
  rw[Bool.and_eq_true,Bool.and_eq_true] at q
  have q1:((aV items.size 0 lo:Nat):Int)=0:=eq_of_beq q.1.1
  have q2:aV items.size items.size hi - aV items.size 0 lo=items.size:=eq_of_beq q.2
  exact hw ⟨by omega,by omega⟩
 show wpAny _ _ (if (((aV items.size 0 lo:Nat):Int)==0 && (1:Int)==1 && (aV items.size items.size hi - aV items.size 0 lo)==items.size)=true then _ else _) _ _ s
 rw[if_neg Q3,QZ]
 first
  | exact wpAny_bind (m:=Builtin.Tuple.tupleExact _) (wpAny_newObj_type (wpAny_pure ⟨_,rfl,wpAny_pure h⟩) wK)
  | exact wpAny_bind (m:=Builtin.Tuple.tupleExact _) (wpAny_newObj_type (wpAny_bind (wpAny_pure (wpAny_pure ⟨_,rfl,wpAny_pure h⟩))) wK)
  | exact wpAny_bind (wpAny_bind (m:=Builtin.Tuple.tupleExact _) (wpAny_newObj_type (wpAny_pure (wpAny_pure ⟨_,rfl,wpAny_pure h⟩)) wK))
  | exact wpAny_bind (wpAny_bind (m:=Builtin.Tuple.tupleExact _) (wpAny_newObj_type (wpAny_pure ⟨_,rfl,wpAny_pure h⟩) wK))
end
end HT
namespace L2
open PySem PySem.Spec PyProof.Rows
abbrev TO:=St→Hp→(Option Int→Hp→Prop)→Prop
def PO(X:Cx)(e:Option Expr)(t:TO):Prop:=
 ∀(pins:List (Addr×Obj)) (s:Shared) (σ:St) (H:Hp) (Q:Option Int→Hp→Prop),Inv X pins σ H s→t σ H Q→
  wpAny (model X.prog X.w) X.A (evalPart e X.env) (fun u s'=> ∃o H',Inv X pins σ H' s'∧IsPart u o∧Q o H') X.xe s
def G6:TO:=fun _ H Q=>Q none H
def wL(t:TE):TO:=fun σ H Q=>t σ H fun x H1=> ∃i,x= .int i∧Q (some i) H1
theorem intsAre_of{ns:List Int}: ∀{us:List Value},Vals (ns.map V.int) us→IntsAre us ns:=by
 induction ns with
 | nil=>intro us r;rw[List.map_nil] at r;cases r;exact .nil
 | cons n ns ih=>
  intro us r
  rw[List.map_cons] at r
  cases r with
  | cons r1 r2=>
   obtain⟨t,e⟩:=r1
   subst e
   exact .cons n t (ih r2)
section
variable {X:Cx} {e:Expr} {te:TE} {lo hi:Option Expr} {tl th:TO} {pos p2:Pos}
theorem Q4:PO X none G6:=by
 intro pins s σ H Q I h
 rw[evalPart_none]
 exact wpAny_pure ⟨none,H,I, .none,h⟩
theorem Q5(h:PE X e te):PO X (some e) (wL te):=by
 intro pins s σ H Q I hw
 rw[evalPart_some]
 refine aK (h pins s σ H _ I hw) fun u s1 ⟨x,H1,I1,r1,q1⟩=> ?_
 obtain⟨i,rfl,q⟩:=q1
 obtain⟨t,rfl⟩:=r1
 exact⟨some i,H1,I1, .int i t,q⟩
def wM(X:Cx)(r:V→Option Int→Option Int→Hp→VK→Prop):Prop:=
 ∀(pins:List (Addr×Obj)) (s:Shared) (σ:St) (H:Hp) (x:V) (v vl vu:Value) (lo hi:Option Int) (sl:Addr) (Q:VK),Inv X pins σ H s→RelV x v→s.heap.IsSliceOf sl vl vu .none→IsPart vl lo→IsPart vu hi→r x lo hi H Q→
  ∃T id,typeLookup (.type T) "__getitem__"=pure (some (.builtin id))∧s.TypeIs v T∧wpAny (model X.prog X.w) X.A (getItem v (.ref sl)) (EP X pins σ Q) X.xe s
def Aa(r:V→Option Int→Option Int→Hp→VK→Prop)(te:TE)(tl th:TO):TE:=fun σ H Q=>te σ H fun x H1=>tl σ H1 fun l H2=>th σ H2 fun u H3=>r x l u H3 Q
theorem Q6{r:V→Option Int→Option Int→Hp→VK→Prop}(hr:wM X r)(he:PE X e te)(hl:PO X lo tl)(hu:PO X hi th):PE X (.Subscript e (.Slice lo hi none p2) pos) (Aa r te tl th):=by
 intro pins s σ H Q I h
 refine Subscript_ (aK (he pins s σ H _ I h) fun v s1 ⟨x,H1,I1,r1,q1⟩=> ?_)
 refine wpAny_Slice (aK (hl pins s1 σ H1 _ I1 q1) fun vl s2 ⟨l,H2,I2,pl,q2⟩=>aK (hu pins s2 σ H2 _ I2 q2) fun vu s3 ⟨u,H3,I3,pu,q3⟩=> ?_)
 rw[evalPart_none]
 refine wpAny_pure ?_
 have I4:Inv X pins σ H3 {s3 with heap:=s3.heap.push {cls:= .type "slice",data:= .fields #[vl,vu, .none]}}:=I3.kept (t':=s3.toks) fun b ob q=>Heap.get?_push_of_some _ q
 obtain⟨T,id,hT,ht,hg⟩:=hr pins {s3 with heap:=s3.heap.push {cls:= .type "slice",data:= .fields #[vl,vu, .none]}} σ H3 x v vl vu l u s3.heap.objs.size Q I4 r1 (Heap.IsSliceOf.new ..) pl pu q3
 show wpAny (model X.prog X.w) X.A (subscriptTail e (.Slice lo hi none p2) v (.ref s3.heap.objs.size)) (EP X pins σ Q) X.xe {s3 with heap:=s3.heap.push {cls:= .type "slice",data:= .fields #[vl,vu, .none]}}
 exact tail_any (ops:=[.ref s3.heap.objs.size,v]) ht hT hg (by with_unfolding_all rfl)
def eV(xs:List V)(lo hi:Option Int):List V:=(xs.drop (HT.aV xs.length 0 lo)).take (HT.aV xs.length xs.length hi - HT.aV xs.length 0 lo)
theorem G7(xs:List V)(lo hi:Option Int):(eV xs lo hi).length≤xs.length:=by
 unfold eV
 rw[List.length_take,List.length_drop]
 omega
def Q7(K:Frag):V→Option Int→Option Int→Hp→VK→Prop:=fun x lo hi H Q=> ∃a xs,x= .ref a∧aL K H a xs∧
 ¬(HT.aV xs.length 0 lo=0∧HT.aV xs.length xs.length hi=xs.length)∧ ∀p,H p=none→Q (.ref p) (upd H p (.tup (eV xs lo hi)))
theorem Q8:wM X (Q7 X.K):=by
 intro pins s σ H x v vl vu lo hi sl Q I rx hs pl pu h
 obtain⟨a,xs,rfl,hx,hw,q⟩:=h
 cases rx
 obtain⟨its,r,ht,hz⟩:=I.tuple hx
 have hlen:its.toArray.size=xs.length:=by rw[List.size_toArray];exact r.length.symm
 refine⟨"tuple",_,PyProof.Rows.slot_tuple_getitem.lookup,ht.typeIs, ?_⟩
 refine HT.Q0 ht hs pl pu (by rw[hlen];exact hw) ?_ (by rw[hlen];exact hz)
 rw[hlen]
 refine⟨.ref s.heap.objs.size,_,I.laid (t':=s.toks) (o:= .tup (eV xs lo hi)) (fun b ob q=>Heap.get?_push_of_some _ q) (Nat.le_refl _) ?_,rfl,q _ (I.aE.fresh (Nat.le_refl _))⟩
 exact⟨Nat.le_trans (G7 xs lo hi) hz,_,(r.drop (HT.aV xs.length 0 lo)).take (HT.aV xs.length xs.length hi - HT.aV xs.length 0 lo),IsTup.new _ _⟩
def G8(K:Frag):R2:=fun x y H Q=> ∃a b xs ys,x= .ref a∧y= .ref b∧aL K H a xs∧aL K H b ys∧xs≠ []∧xs.length+ys.length≤sizeLine∧
 (ys=[]→Q (.ref a) H)∧(ys≠ []→ ∀p,H p=none→Q (.ref p) (upd H p (.tup (xs++ys))))
theorem Vals.Ab{xs:List V}{us:List Value}(r:Vals xs us):us=[]↔xs=[]:=by
 cases r with
 | nil=>simp
 | cons _ _=>simp
theorem Q9:aY X (binaryOp .Add) (G8 X.K):=by
 intro pins s σ H x y v u Q I rx ry h
 obtain⟨a,b,xs,ys,rfl,rfl,ha,hb,hx,hz,q1,q2⟩:=h
 cases rx
 cases ry
 obtain⟨its,r1,p1,_⟩:=I.tuple ha
 obtain⟨fQ,r2,p2,_⟩:=I.tuple hb
 refine HT.QV p1 p2 (fun z=>hx (r1.Ab.mp z)) (fun z=> ⟨.ref a,H,I,rfl,q1 (r2.Ab.mp z)⟩) (fun z=> ?_) (by rw[←r1.length,←r2.length];exact hz)
 refine⟨.ref s.heap.objs.size,_,I.laid (t':=s.toks) (o:= .tup (xs++ys)) (fun b ob q=>Heap.get?_push_of_some _ q) (Nat.le_refl _) ?_,rfl,q2 (fun w=>z (r2.Ab.mpr w)) _ (I.aE.fresh (Nat.le_refl _))⟩
 exact⟨by rw[List.length_append];exact hz,_,r1.append r2,IsTup.new _ _⟩
end
def g6(n:Nat)(i:Int):Option Nat:=if 0≤i then (if i<n then some i.toNat else none) else if -(n:Int)≤i then some (i+n).toNat else none
def dj{α:Type}(xs:List α)(i:Int):Option α:=(g6 xs.length i).bind fun j=>xs[j]?
theorem G9{n:Nat}{i:Int}{j:Nat}(h:g6 n i=some j):seqIndex? i n=some j∧j<n∧ -(n:Int)≤i∧i<n:=by
 unfold g6 at h
 by_cases h0:0≤i
 ·rw[if_pos h0] at h
  by_cases h1:i<n
  ·rw[if_pos h1] at h
   have e:i.toNat=j:=Option.some.inj h
   exact⟨by rw[seqIndex_of h0 h1,e],by omega,by omega,h1⟩
  ·rw[if_neg h1] at h;cases h
 ·rw[if_neg h0] at h
  by_cases h1: -(n:Int)≤i
  ·rw[if_pos h1] at h
   have e:(i+n).toNat=j:=Option.some.inj h
   exact⟨by rw[seqIndex_neg (by omega) h1,e],by omega,h1,by omega⟩
  ·rw[if_neg h1] at h;cases h
theorem Ac{α:Type}{xs:List α}{i:Int}{v:α}(h:dj xs i=some v): ∃j,seqIndex? i xs.length=some j∧xs[j]?=some v∧j<xs.length∧ -(xs.length:Int)≤i∧i<xs.length:=by
 unfold dj at h
 cases e:g6 xs.length i with
 | none=>rw[e] at h;cases h
 | some j=>
  rw[e] at h
  obtain⟨h1,h2,h3,h4⟩:=G9 e
  exact⟨j,h1,h,h2,h3,h4⟩
theorem gB{α:Type}{xs:List α}{j:Nat}{v:α}(h:xs[j]?=some v):dj xs (j:Int)=some v:=by
 have hj:j<xs.length:=(List.getElem?_eq_some_iff.mp h).1
 have e:g6 xs.length (j:Int)=some j:=by
  unfold g6
  rw[if_pos (by omega),if_pos (by omega)];simp
 unfold dj;rw[e];exact h
theorem G_{α:Type}(xs:List α)(v:α):dj (xs++ [v]) (-1)=some v:=by
 have hl:(xs++ [v]).length=xs.length+1:=by simp
 have e:g6 (xs++ [v]).length (-1)=some xs.length:=by
  unfold g6
  rw[hl,if_neg (by decide),if_pos (by omega)]
  congr 1
  omega
 unfold dj
 rw[e]
 show(xs++ [v])[xs.length]?=some v
 simp
def Ha(b:Expr):Prop:= ∀o i,subscripted b false o i=operate [o,i] (getItem o i)
def jR(X:Cx)(r:R2):Prop:=
 ∀(value slice:Expr) (pins:List (Addr×Obj)) (s:Shared) (σ:St) (H:Hp) (x y:V) (v u:Value) (Q:VK),Inv X pins σ H s→RelV x v→RelV y u→r x y H Q→
  subscripted slice false v u=operate [v,u] (getItem v u)→wpAny (model X.prog X.w) X.A (subscriptTail value slice v u) (EP X pins σ Q) X.xe s
def kW(X:Cx)(id:String)(r:V→List V→Hp→VK→Prop):Prop:=
 ∀(pins:List (Addr×Obj)) (s:Shared) (σ:St) (H:Hp) (x:V) (xs:List V) (v:Value) (us:List Value) (Q:VK),Inv X pins σ H s→RelV x v→Vals xs us→r x xs H Q→
  wpAny (model X.prog X.w) X.A (call (.builtin id) (v::us)) (EP X pins σ Q) X.xe s
section
variable {X:Cx} {a b:Expr} {ta tb:TE} {pos:Pos}
theorem jR.or{r r':R2}(h:jR X r)(h':jR X r'):jR X (fun x y H Q=>r x y H Q∨r' x y H Q):=by
 intro value slice pins s σ H x y v u Q I rx ry q hs
 rcases q with q | q
 ·exact h value slice pins s σ H x y v u Q I rx ry q hs
 ·exact h' value slice pins s σ H x y v u Q I rx ry q hs
theorem Q_{r:R2}(hr:jR X r)(ha:PE X a ta)(hb:PE X b tb)(hs:Ha b):PE X (.Subscript a b pos) (eI r ta tb):=by
 intro pins s σ H Q I h
 exact Subscript_ (zS ha hb I h fun v u s2 x y H2 I2 rx ry q=>hr a b pins s2 σ H2 x y v u Q I2 rx ry q (hs _ _))
def Hb(K:Frag):R2:=fun x y H Q=> ∃p xs i v,x= .ref p∧y= .int i∧aq K H p xs∧dj xs i=some v∧Q v H
def Hc(K:Frag):R2:=fun x y H Q=> ∃p xs i v,x= .ref p∧y= .int i∧aL K H p xs∧dj xs i=some v∧Q v H
def He:R2:=fun x y H Q=> ∃z i c,x= .str z∧y= .int i∧z.length≤sizeLine∧dj z.cps.toList i=some c∧Q (.str ⟨#[c]⟩) H
theorem Ra:jR X (Hb X.K):=by
 intro value slice pins s σ H x y v u Q I rx ry h hs
 obtain⟨p,xs,i,z,rfl,rfl,hq,he,q⟩:=h
 cases rx
 obtain⟨t,rfl⟩:=ry
 obtain⟨its,r,pl,hz⟩:=I.list hq
 obtain⟨j,h1,h2,h3,h4,h5⟩:=Ac he
 obtain⟨w,ew,kY⟩:=r.get h2
 have hl:=r.length
 have hn:=mQ
 have fin:EP X pins σ Q w s:=⟨z,H,I,kY,q⟩
 by_cases h0:0≤i
 ·have hj:i.toNat=j:=by
   rw[seqIndex_of h0 h5] at h1
   exact Option.some.inj h1
  exact item_listR pl.isList h0 (by omega) (by rw[hj];simpa using ew) fin hs
 ·have hj:(i+ (its.toArray.size:Int)).toNat=j:=by
   rw[seqIndex_neg (by omega) h4] at h1
   rw[List.size_toArray,←hl]
   exact Option.some.inj h1
  exact subscriptTail_builtinR (x:=w) pl.isList.typeIs slot_list_getitem.lookup
   (wpAny_getItem_list_neg (Q:=fun r s'=>r=w∧EP X pins σ Q r s') pl.isList (by omega) (by rw[List.size_toArray] <;>omega) (by omega) (by rw[hj];simpa using ew) ⟨rfl,fin⟩) hs
theorem Rb:jR X (Hc X.K):=by
 intro value slice pins s σ H x y v u Q I rx ry h hs
 obtain⟨p,xs,i,z,rfl,rfl,hq,he,q⟩:=h
 cases rx
 obtain⟨t,rfl⟩:=ry
 obtain⟨its,r,pl,hz⟩:=I.tuple hq
 obtain⟨j,h1,h2,h3,h4,h5⟩:=Ac he
 obtain⟨w,ew,kY⟩:=r.get h2
 have hl:=r.length
 have hn:=mQ
 have fin:EP X pins σ Q w s:=⟨z,H,I,kY,q⟩
 exact subscriptTail_builtinR (x:=w) pl.typeIs slot_tuple_getitem.lookup
  (getItem_tuple (j:=j) (Q:=fun r s'=>r=w∧EP X pins σ Q r s') pl (by omega) (by omega) (by rw[List.size_toArray,←hl];exact h1) (by simpa using ew) ⟨rfl,fin⟩) hs
theorem Rc:jR X He:=by
 intro value slice pins s σ H x y v u Q I rx ry h hs
 obtain⟨z,i,c,rfl,rfl,hz,he,q⟩:=h
 obtain⟨t,rfl⟩:=rx
 obtain⟨t',rfl⟩:=ry
 obtain⟨j,h1,h2,h3,h4,h5⟩:=Ac he
 have hl:z.cps.toList.length=z.length:=by simp[Str.length]
 rw[hl] at h1 h4 h5
 have hn:=mQ
 exact tail_any (typeIs_str s z t) slot_str_getitem.lookup (getItem_str (c:=c) (by
  have e1:decide (i< -(2 ^ 63:Int))=false:=decide_eq_false (by omega)
  have e2:decide (i≥2 ^ 63)=false:=decide_eq_false (by omega)
  rw[e1,e2,Bool.or_false]) (by rw[h1];simpa using h2) ⟨.str ⟨#[c]⟩,H,I.tok _,⟨_,rfl⟩,q⟩) hs
theorem Rf(its:List Value)(n j:Nat)(u:Value):Obj.mapSeq (·.setIfInBounds j u) {cls:= .type "list",data:= .seq its.toArray n}={cls:= .type "list",data:= .seq (its.set j u).toArray n}:=by
 simp[Obj.mapSeq]
theorem Inv.lst{pins:List (Addr×Obj)}{σ:St}{H:Hp}{s:Shared}{p:Addr}{xs:List V}(I:Inv X pins σ H s)(h:H p=some (.lst xs)):
  ∃(its:List Value) (n:Nat),Vals xs its∧s.heap.get? p=some {cls:= .type "list",data:= .seq its.toArray n}∧xs.length≤sizeLine:=by
 obtain⟨z,its,n,r,e⟩:=I.aE p _ h
 exact⟨its,n,r,e,z⟩
theorem Inv.Rg{pins:List (Addr×Obj)}{σ:St}{H:Hp}{s:Shared}{p:Addr}{xs ys:List V}{its gw:List Value}{n n':Nat}{f:Obj→Obj}(I:Inv X pins σ H s)(h:H p=some (.lst xs))
  (ho:s.heap.get? p=some {cls:= .type "list",data:= .seq its.toArray n}) (hf:f {cls:= .type "list",data:= .seq its.toArray n}={cls:= .type "list",data:= .seq gw.toArray n'}) (r:Vals ys gw) (hz:ys.length≤sizeLine) (t:Nat):
  Inv X pins σ (upd H p (.lst ys)) {s with heap:=s.heap.update p f,toks:=t}:=by
 have e:(s.heap.update p f).get? p=some {cls:= .type "list",data:= .seq gw.toArray n'}:=by
  rw[Heap.get?_update_self f ho (by rw[hf] <;>rfl),hf]
 refine I.write (x:=p) (e:=p) (by rw[h];trivial) (.inl rfl) (fun b u hb q=> (Heap.get?_update_other _ _ (Ne.symm hb)).trans q) ⟨_,e⟩ ?_
 exact⟨hz,gw,n',r,e⟩
def wN:V→V→V→Hp→(Hp→Prop)→Prop:=fun o i v H Q=> ∃p xs k j,o= .ref p∧i= .int k∧H p=some (.lst xs)∧g6 xs.length k=some j∧Q (upd H p (.lst (xs.set j v)))
theorem set_list:Gk X wN:=by
 intro pins s σ H o i v ov iv u Q I ro ri rv h
 obtain⟨p,xs,k,j,rfl,rfl,hp,hj,q⟩:=h
 cases ro
 obtain⟨t,rfl⟩:=ri
 obtain⟨its,n,r,ho,hz⟩:=I.lst hp
 obtain⟨h1,h2,h3,h4⟩:=G9 hj
 have hl:=r.length
 have hn:=mQ
 have I':Inv X pins σ (upd H p (.lst (xs.set j v))) {s with heap:=s.heap.update p (Obj.mapSeq (·.setIfInBounds j u))}:=
  I.Rg hp ho (Rf its n j u) (r.set rv j) (by rw[List.length_set];exact hz) s.toks
 by_cases h0:0≤k
 ·have hk:k.toNat=j:=by
   rw[seqIndex_of h0 h4] at h1
   exact Option.some.inj h1
  exact PySem.W.ki_setAt ho h0 (by omega) (by rw[List.size_toArray,←hl];exact h4) (by rw[hk];exact⟨_,I',q⟩)
 ·have hk:(k+ (its.toArray.size:Int)).toNat=j:=by
   rw[seqIndex_neg (by omega) h3] at h1
   rw[List.size_toArray,←hl]
   exact Option.some.inj h1
  exact PySem.W.ki_setBack ho (by omega) (by rw[List.size_toArray,←hl];exact h3) (by omega) (by rw[hk];exact⟨_,I',q⟩)
theorem Ad(lo hi:Option Int)(n:Nat):(sliceBounds lo hi none n).1=((HT.aV n 0 lo:Nat):Int)∧(sliceBounds lo hi none n).2.1=((HT.aV n n hi:Nat):Int)∧(sliceBounds lo hi none n).2.2=1:=by
 refine⟨?_, ?_,rfl⟩
 ·cases lo with
  | none=>simp[sliceBounds,HT.aV]
  | some i=>
   simp only[sliceBounds,HT.aV,Option.getD_none,show(1:Int) >0 by decide,if_true]
   by_cases h:i<0
   ·simp only[h,if_true] <;>omega
   ·simp only[h,if_false] <;>omega
 ·cases hi with
  | none=>simp[sliceBounds,HT.aV]
  | some i=>
   simp only[sliceBounds,HT.aV,Option.getD_none,show(1:Int) >0 by decide,if_true]
   by_cases h:i<0
   ·simp only[h,if_true] <;>omega
   ·simp only[h,if_false] <;>omega
theorem Rh(its:List Value)(lo hi:Option Int):slicePick its.toArray lo hi none=((its.drop (HT.aV its.length 0 lo)).take (HT.aV its.length its.length hi - HT.aV its.length 0 lo)).toArray:=by
 obtain⟨h1,h2,h3⟩:=Ad lo hi its.toArray.size
 unfold slicePick
 rw[h1,h2,h3]
 simp only[sliceRange_one,pick_run,List.size_toArray] <;>rfl
def Ri(K:Frag):V→Option Int→Option Int→Hp→VK→Prop:=fun x lo hi H Q=> ∃a xs,x= .ref a∧aq K H a xs∧ ∀p,H p=none→Q (.ref p) (upd H p (.lst (eV xs lo hi)))
theorem Rj:wM X (Ri X.K):=by
 intro pins s σ H x v vl vu lo hi sl Q I rx hs pl pu h
 obtain⟨a,xs,rfl,hx,q⟩:=h
 cases rx
 obtain⟨its,r,ht,hz⟩:=I.list hx
 have hlen:=r.length
 refine⟨"list",_,slot_list_getitem.lookup,ht.isList.typeIs, ?_⟩
 refine wpAny_getItem_list_slice ht.isList hs pl pu .none (by simp) ?_ (by rw[List.size_toArray] <;>omega)
 rw[Rh,←hlen]
 refine⟨.ref s.heap.objs.size,_,I.laid (t':=s.toks) (o:= .lst (eV xs lo hi)) (fun b ob q=>Heap.get?_push_of_some _ q) (Nat.le_refl _) ?_,rfl,q _ (I.aE.fresh (Nat.le_refl _))⟩
 exact⟨Nat.le_trans (G7 xs lo hi) hz,_,0,(r.drop (HT.aV xs.length 0 lo)).take (HT.aV xs.length xs.length hi - HT.aV xs.length 0 lo),Heap.get?_push_size _ rfl⟩
def eJ:V→Bool
 | .aD=>true
 | .bl _=>true
 | .int _=>true
 | .str _=>true
 | _=>false
def eW:V→V→Bool
 | .aD, .aD=>true
 | .bl a, .bl b=>a==b
 | .bl a, .int b=> (if a then 1 else 0)==b
 | .int a, .bl b=>a==(if b then 1 else 0)
 | .int a, .int b=>a==b
 | .str a, .str b=>a==b
 | _,_=>false
theorem Rk{A:Around}{s:Shared}{y x:V}{u v:Value}(ry:RelV y u)(rx:RelV x v)(fy:eJ y=true)(fx:eJ x=true):SeqAt.EqAt A s u v (eW y x):=by
 cases y with
 | aD=>
  cases ry
  cases x with
  | aD=>cases rx;exact SeqAt.EqAt.same _
  | bl b=>cases rx;exact SeqAt.EqAt.none_bool b
  | int b=>obtain⟨t,rfl⟩:=rx;exact SeqAt.EqAt.none_int b t
  | str b=>obtain⟨t,rfl⟩:=rx;exact SeqAt.EqAt.none_str b t
  | _=>exact absurd (show false=true from fx) Bool.false_ne_true
 | bl a=>
  cases ry
  cases x with
  | aD=>cases rx;exact SeqAt.EqAt.bool_none a
  | bl b=>cases rx;exact SeqAt.EqAt.bool_bool a b
  | int b=>obtain⟨t,rfl⟩:=rx;exact SeqAt.EqAt.bool_int a b t
  | str b=>obtain⟨t,rfl⟩:=rx;exact SeqAt.EqAt.bool_str a b t
  | _=>exact absurd (show false=true from fx) Bool.false_ne_true
 | int a=>
  obtain⟨t',rfl⟩:=ry
  cases x with
  | aD=>cases rx;exact SeqAt.EqAt.int_none a t'
  | bl b=>cases rx;exact SeqAt.EqAt.int_bool a t' b
  | int b=>obtain⟨t,rfl⟩:=rx;exact SeqAt.EqAt.int_int a t' b t
  | str b=>obtain⟨t,rfl⟩:=rx;exact SeqAt.EqAt.int_str a t' b t
  | _=>exact absurd (show false=true from fx) Bool.false_ne_true
 | str a=>
  obtain⟨t',rfl⟩:=ry
  cases x with
  | aD=>cases rx;exact SeqAt.EqAt.str_none a t'
  | bl b=>cases rx;exact SeqAt.EqAt.str_bool a t' b
  | int b=>obtain⟨t,rfl⟩:=rx;exact SeqAt.EqAt.str_int a t' b t
  | str b=>obtain⟨t,rfl⟩:=rx;exact SeqAt.EqAt.str_str a t' b t
  | _=>exact absurd (show false=true from fx) Bool.false_ne_true
 | _=>exact absurd (show false=true from fy) Bool.false_ne_true
def dZ(x:V)(u:Value):Bool:=match u with
 | .none=>eW .aD x
 | .bool b=>eW (.bl b) x
 | .int i _=>eW (.int i) x
 | .str z _=>eW (.str z) x
 | _=>false
theorem wO{x y:V}{u:Value}(r:RelV y u)(f:eJ y=true):dZ x u=eW y x:=by
 cases y with
 | aD=>cases r;rfl
 | bl b=>cases r;rfl
 | int i=>obtain⟨t,rfl⟩:=r;rfl
 | str z=>obtain⟨t,rfl⟩:=r;rfl
 | _=>exact absurd (show false=true from f) Bool.false_ne_true
theorem s_{x:V}: ∀{xs:List V} {us:List Value},Vals xs us→xs.all eJ=true→us.any (dZ x)=xs.any fun y=>eW y x
 | _,_, .nil,_=>rfl
 | y::xs,u::us, .cons r t,f=>by
  rw[List.all_cons,Bool.and_eq_true] at f
  rw[List.any_cons,List.any_cons,wO r f.1,s_ t f.2]
theorem oF{A:Around}{s:Shared}{x:V}{v:Value}(rx:RelV x v)(fx:eJ x=true): ∀{xs:List V} {us:List Value},Vals xs us→xs.all eJ=true→ ∀u∈us,SeqAt.EqAt A s u v (dZ x u)
 | _,_, .nil,_=>fun u hu=>by cases hu
 | y::xs,u::us, .cons r t,f=>fun u' hu=>by
  rw[List.all_cons,Bool.and_eq_true] at f
  rcases List.mem_cons.mp hu with rfl | hu
  ·rw[wO r f.1];exact Rk r rx f.1 fx
  ·exact oF rx fx t f.2 u' hu
def gC(x:V)(xs:List V):Bool:=xs.any fun y=>eW y x
def Ae(K:Frag)(neg:Bool):R2:=fun x y H Q=> ∃p xs,y= .ref p∧(aq K H p xs∨aL K H p xs)∧eJ x=true∧xs.all eJ=true∧Q (.bl (if neg then !gC x xs else gC x xs)) H
theorem Rl:aY X (compareOp .In) (Ae X.K false):=by
 intro pins s σ H x y v u Q I rx ry h
 obtain⟨p,xs,rfl,hq,fx,fs,q⟩:=h
 cases ry
 rcases hq with hq | hq
 ·obtain⟨its,r,pl,hz⟩:=I.list hq
  refine SeqAt.in_listAt (dZ x) pl.isList (fun w hw=>oF rx fx r fs w (by simpa using hw)) ⟨.bl _,H,I,rfl, ?_⟩
  rw[show its.toArray.any (dZ x)=its.any (dZ x) by simp,s_ r fs]
  exact q
 ·obtain⟨its,r,pl,hz⟩:=I.tuple hq
  refine SeqAt.in_tupleAt (dZ x) pl (fun w hw=>oF rx fx r fs w (by simpa using hw)) ⟨.bl _,H,I,rfl, ?_⟩
  rw[show its.toArray.any (dZ x)=its.any (dZ x) by simp,s_ r fs]
  exact q
theorem Rm:aY X (compareOp .NotIn) (Ae X.K true):=by
 intro pins s σ H x y v u Q I rx ry h
 obtain⟨p,xs,rfl,hq,fx,fs,q⟩:=h
 cases ry
 rcases hq with hq | hq
 ·obtain⟨its,r,pl,hz⟩:=I.list hq
  refine SeqAt.notIn_listAt (dZ x) pl.isList (fun w hw=>oF rx fx r fs w (by simpa using hw)) ⟨.bl _,H,I,rfl, ?_⟩
  rw[show its.toArray.any (dZ x)=its.any (dZ x) by simp,s_ r fs]
  exact q
 ·obtain⟨its,r,pl,hz⟩:=I.tuple hq
  refine SeqAt.notIn_tupleAt (dZ x) pl (fun w hw=>oF rx fx r fs w (by simpa using hw)) ⟨.bl _,H,I,rfl, ?_⟩
  rw[show its.toArray.any (dZ x)=its.any (dZ x) by simp,s_ r fs]
  exact q
theorem cc.or{f:Value}{r r':List V→Hp→VK→Prop}(h:cc X f r)(h':cc X f r'):cc X f (fun xs H Q=>r xs H Q∨r' xs H Q):=by
 intro pins s σ H xs us Q I rs q
 rcases q with q | q
 ·exact h pins s σ H xs us Q I rs q
 ·exact h' pins s σ H xs us Q I rs q
theorem Rn:cc X (.type "list") (fun xs H Q=> ∃p ys,xs=[.ref p]∧(aq X.K H p ys∨aL X.K H p ys)∧ ∀l,H l=none→Q (.ref l) (upd H l (.lst ys))):=by
 intro pins s σ H xs us Q I r h
 obtain⟨p,ys,rfl,hq,q⟩:=h
 obtain⟨u,rfl,rx⟩:=vals1 r
 cases rx
 have fin: ∀(its:List Value),Vals ys its→ys.length≤sizeLine→ ∀(h':Heap) (c':Nat),(∀b o',s.heap.get? b=some o'→h'.get? b=some o')→
   h'.get? s.heap.objs.size=some {cls:= .type "list",dict:=none,data:= .seq its.toArray c',slots:= #[]}→EP X pins σ Q (.ref s.heap.objs.size) {s with heap:=h'}:=fun its r' hz h' c' kp e=>
  ⟨.ref s.heap.objs.size,_,I.laid (t':=s.toks) kp (Nat.le_refl _) (show cm X.prog X.w _ h' _ (.lst ys) from⟨hz,its,c',r',e⟩),rfl,q _ (I.aE.fresh (Nat.le_refl _))⟩
 rcases hq with hq | hq
 ·obtain⟨its,r',pl,hz⟩:=I.list hq
  have hlen:=r'.length
  obtain⟨o,ho,hc,n,hd⟩:=pl.isList
  exact call_list_seq p (.inl rfl) ho hc hd (fun h' c' kp e=>fin its r' hz h' c' kp e) (by simp only[List.size_toArray] <;>omega)
 ·obtain⟨its,r',pl,hz⟩:=I.tuple hq
  have hlen:=r'.length
  obtain⟨o,ho,hc,n,hd⟩:=pl
  exact call_list_seq p (.inr rfl) ho hc hd (fun h' c' kp e=>fin its r' hz h' c' kp e) (by simp only[List.size_toArray] <;>omega)
theorem Ro:cc X (.type "tuple") (fun xs H Q=> ∃p ys,xs=[.ref p]∧((aq X.K H p ys∧ ∀l,H l=none→Q (.ref l) (upd H l (.tup ys)))∨(aL X.K H p ys∧Q (.ref p) H))):=by
 intro pins s σ H xs us Q I r h
 obtain⟨p,ys,rfl,h⟩:=h
 obtain⟨u,rfl,rx⟩:=vals1 r
 cases rx
 rcases h with⟨hq,q⟩ | ⟨hq,q⟩
 ·obtain⟨its,r',pl,hz⟩:=I.list hq
  have hlen:=r'.length
  refine call_tuple_list pl.isList (fun h' kp=> ?_) (by simp only[List.size_toArray] <;>omega)
  have I1:Inv X pins σ H {s with heap:=h'}:=I.kept (t':=s.toks) kp
  have I2:Inv X pins σ (upd H h'.objs.size (.tup ys)) {s with heap:=h'.push {cls:= .type "tuple",data:= .seq its.toArray}}:=
   I1.laid (t':=s.toks) (fun b o e=>Heap.get?_push_of_some _ e) (Nat.le_refl _) (show cm X.prog X.w _ _ _ (.tup ys) from⟨hz,its,r',IsTup.new _ _⟩)
  exact⟨.ref h'.objs.size,_,I2,rfl,q _ (I1.aE.fresh (Nat.le_refl _))⟩
 ·obtain⟨its,r',pl,hz⟩:=I.tuple hq
  exact call_tuple_same pl ⟨.ref p,H,I,rfl,q⟩
def tj(K:Frag)(T:String)(x:V)(H:Hp):Prop:=match x with
 | .str _=>T="str"
 | .int _=>T="int"
 | .ref p=> (T="list"∧ ∃xs,aq K H p xs)∨(T="tuple"∧ ∃o,K.lookup p=some o∧o.cls= .type "tuple"∧o.dict=none)∨
   (T="dict"∧((∃av,H p=some (.dK av))∨ ∃av,H p=some (.dT av)))∨(T="set"∧ ∃S n,H p=some (.set S n))
 | _=>False
theorem Hf{pins:List (Addr×Obj)}{σ:St}{H:Hp}{s:Shared}{T:String}{x:V}{v:Value}(I:Inv X pins σ H s)(r:RelV x v)(ty:tj X.K T x H):
  s.TypeIs v T∧ ∀a,v= .ref a→ ∃ob,s.heap.get? a=some ob∧ob.dict=none:=by
 cases x with
 | str z=>
  obtain⟨t,rfl⟩:=r
  cases (show T="str" from ty)
  exact⟨typeIs_str s z t,fun _ e=>nomatch e⟩
 | int i=>
  obtain⟨t,rfl⟩:=r
  cases (show T="int" from ty)
  exact⟨typeIs_int s i t,fun _ e=>nomatch e⟩
 | ref p=>
  cases r
  rcases ty with⟨rfl,xs,hq⟩ | ⟨rfl,o,hk,hc,hd⟩ | ⟨rfl,hk⟩ | ⟨rfl,S,n,hk⟩
  ·obtain⟨its,_,pl,_⟩:=I.list hq
   refine⟨pl.isList.typeIs,fun a e=> ?_⟩
   cases e
   obtain⟨o,n,e,c,hd,_⟩:=pl
   exact⟨o,e,hd⟩
  ·refine⟨⟨o,I.cT p o hk,hc⟩,fun a e=> ?_⟩
   cases e
   exact⟨o,I.cT _ o hk,hd⟩
  ·have z: ∃o,s.heap.get? p=some o∧o.ExactDict:=by
    rcases hk with⟨av,hk⟩ | ⟨av,hk⟩
    ·obtain⟨_,_,_,_,o,_,_,e,ex,_⟩:=I.aE p _ hk
     exact⟨o,e,ex⟩
    ·obtain⟨_,_,_,_,o,_,_,e,ex,_⟩:=I.aE p _ hk
     exact⟨o,e,ex⟩
   obtain⟨o,e,ex⟩:=z
   refine⟨⟨o,e,ex.1⟩,fun a e2=> ?_⟩
   cases e2
   exact⟨o,e,ex.2.1⟩
  ·obtain⟨o,_,_,_,e,ex,_⟩:=I.aE p _ hk
   refine⟨⟨o,e,ex.1⟩,fun a e2=> ?_⟩
   cases e2
   exact⟨o,e,ex.2.1⟩
 | _=>exact False.elim ty
def Rp(K:Frag)(T:String)(r:V→List V→Hp→VK→Prop)(to:TE):TE:=fun σ H Q=>to σ H fun x H1=>tj K T x H1∧r x [] H1 Q
def Rq(K:Frag)(T:String)(r:V→List V→Hp→VK→Prop)(to:TE)(t:TA):TE:=fun σ H Q=>to σ H fun x H1=>tj K T x H1∧t σ H1 fun xs H2=>r x xs H2 Q
variable {o e:Expr} {es:List Expr} {to:TE} {t:TA} {name:Str} {apos cL:Pos} {T id:String} {r:V→List V→Hp→VK→Prop}
theorem Rr(pa:PlainAttrs T)(slot:Slot T name id)(Af:typeOf (.builtin id)=pure (.type "method_descriptor"))(hm:kW X id r)(ho:PE X o to)
  (Ag:attributeBase o name X.env (eval o X.env)=eval o X.env:=by rfl) (Ah:(apos.endLine==cL.line)=true:=by rfl):PE X (.Call (.Attribute o name apos) [] [] cL) (Rp X.K T r to):=by
 intro pins s σ H Q I h
 refine wpAny_Call_method0_late Ag Ah (aK (ho pins s σ H _ I h) fun v s1 ⟨x,H1,I1,r1,ty,q1⟩=> ?_)
 obtain⟨h1,h2⟩:=Hf I1 r1 ty
 exact⟨T,id,pa,slot,Af,h1,h2,Calls.callWith_builtin rfl (PySem.evalArgs_none (hm pins s1 σ H1 x [] v [] Q I1 r1 .nil q1))⟩
theorem Rt(pa:PlainAttrs T)(slot:Slot T name id)(Af:typeOf (.builtin id)=pure (.type "method_descriptor"))(hm:kW X id r)(ho:PE X o to)(ha:PA X (e::es) t)
  (Ag:attributeBase o name X.env (eval o X.env)=eval o X.env:=by rfl)
  (Ru:((backTo cL (starEach (e::es) X.env)).all (fun x=> !x.1) && (backToKw cL (keywordEach [] X.env)).all (fun x=>x.1.isSome)
   && decide ((e::es).length+ ([]:List Keyword).length+ (if ([]:List Keyword).isEmpty then 0 else 1) <30))=true:=by rfl)
  (Ah:(apos.endLine==cL.line)=true:=by rfl) (hs:starEach (e::es) X.env=(false,eval e X.env)::starEach es X.env:=by rfl) (Rv:(backTo cL (starEach es X.env)).any (·.1)=false:=by rfl):
  PE X (.Call (.Attribute o name apos) (e::es) [] cL) (Rq X.K T r to t):=by
 intro pins s σ H Q I h
 refine wpAny_Call_method_late Ag Ru Ah rfl (aK (ho pins s σ H _ I h) fun v s1 ⟨x,H1,I1,r1,ty,q1⟩=> ?_)
 obtain⟨h1,h2⟩:=Hf I1 r1 ty
 refine⟨T,id,pa,slot,Af,h1,h2, ?_⟩
 have hA:=ha cL pins s1 σ H1 _ I1 q1
 rw[hs] at hA⊢
 refine Calls.callWith_builtin (by show(false || (backTo cL (starEach es X.env)).any (·.1))=false;rw[Rv] <;>rfl) (Calls.evalArgs_plain ?_)
 exact aK hA fun us s2 ⟨vs,H2,I2,r2,q2⟩=>hm pins s2 σ H2 x vs v us Q I2 r1 r2 q2
end
def tm(X:Cx)(id:String)(r:V→List V→Hp→VK→Prop):Prop:=
 ∀(pins:List (Addr×Obj)) (s:Shared) (σ:St) (H:Hp) (x:V) (xs:List V) (v:Value) (us:List Value) (Q:VK),Inv X pins σ H s→RelV x v→Vals xs us→r x xs H Q→
  wpAny (model X.prog X.w) X.A (call (.builtin id) (v::us)) (EP X pins σ Q) X.xe s
theorem Vals.one: ∀{x:V} {us:List Value},Vals [x] us→ ∃u,us=[u]∧RelV x u
 | _,_, .cons r .nil=> ⟨_,rfl,r⟩
theorem Vals.zero: ∀{us:List Value},Vals [] us→us=[]
 | _, .nil=>rfl
theorem Vals.dropLast{xs:List V}{us:List Value}(h:Vals xs us):Vals xs.dropLast us.dropLast:=by
 induction h with
 | nil=>exact .nil
 | cons r t ih=>
  cases t with
  | nil=>exact .nil
  | cons q t'=>exact .cons r ih
theorem Vals.reverse{xs:List V}{us:List Value}(h:Vals xs us):Vals xs.reverse us.reverse:=by
 induction h with
 | nil=>exact .nil
 | cons r t ih=>rw[List.reverse_cons,List.reverse_cons];exact Vals.append ih (.cons r .nil)
theorem Vals.rep{xs:List V}{us:List Value}(h:Vals xs us): ∀k:Nat,Vals (List.replicate k xs).flatten (List.replicate k us).flatten
 | 0=> .nil
 | k+1=>by
  rw[List.replicate_succ,List.replicate_succ,List.flatten_cons,List.flatten_cons]
  exact Vals.append h (Vals.rep h k)
theorem Rw{α:Type}(l:List α):l.eraseIdx (l.length - 1)=l.dropLast:=by
 induction l with
 | nil=>rfl
 | cons a r ih=>
  cases r with
  | nil=>rfl
  | cons b r=>
   have e:(a::b::r).length - 1=((b::r).length - 1)+1:=by
    have h1:(a::b::r).length=r.length+2:=rfl
    have h2:(b::r).length=r.length+1:=rfl
    omega
   rw[e,List.eraseIdx_cons_succ,ih]
   all_goals rfl
theorem foldl_rep(its:List Value): ∀(k:Nat) (acc:List Value),
  List.foldl (fun x1 x2=>x1++x2) acc.toArray (List.replicate k its.toArray)=(acc++ (List.replicate k its).flatten).toArray
 | 0,acc=>by simp
 | k+1,acc=>by
  have e:acc.toArray++its.toArray=(acc++its).toArray:=by simp
  have e2:(acc++its)++ (List.replicate k its).flatten=acc++ (List.replicate (k+1) its).flatten:=by
   rw[List.replicate_succ,List.flatten_cons,List.append_assoc]
  rw[←e2,←foldl_rep its k (acc++its),←e,List.replicate_succ,List.foldl_cons]
section
variable {X:Cx} {pins:List (Addr×Obj)} {σ:St} {H:Hp} {s:Shared} {l b:Addr} {xs ys zs:List V}
theorem Inv.tq{its gw:List Value}{n:Nat}{f:Array Value→Array Value}{t':Nat}(I:Inv X pins σ H s)(hH:H l=some (.lst xs))
  (e:s.heap.get? l=some {cls:= .type "list",data:= .seq its.toArray n}) (hf:f its.toArray=gw.toArray) (hv:Vals ys gw) (hz:ys.length≤sizeLine):
  Inv X pins σ (upd H l (.lst ys)) {s with heap:=s.heap.update l (Obj.mapSeq f),toks:=t'}:=by
 have q:=PySem.IsL.update e f
 rw[hf] at q
 refine I.write (x:=l) (e:=l) (by rw[hH];exact trivial) (.inl rfl) (fun b' u hb hu=> (Heap.get?_update_other s.heap (Obj.mapSeq f) (Ne.symm hb)).trans hu) ⟨_,q⟩ ?_
 exact⟨hz,gw,_,hv,q⟩
theorem Inv.Hg{its:List Value}{t':Nat}(I:Inv X pins σ H s)(hv:Vals ys its)(hz:ys.length≤sizeLine):
  Inv X pins σ (upd H s.heap.objs.size (.lst ys)) {s with heap:=s.heap.push {cls:= .type "list",data:= .seq its.toArray},toks:=t'}:=
 I.laid (fun _ _ q=>Heap.get?_push_of_some _ q) (Nat.le_refl _) ⟨hz,its,0,hv,Heap.get?_push_size _ rfl⟩
theorem Inv.fresh(I:Inv X pins σ H s):H s.heap.objs.size=none:=I.aE.fresh (Nat.le_refl _)
theorem Inv.kZ(I:Inv X pins σ H s)(hH:H l=some (.lst xs)):xs.length≤sizeLine∧ ∃(its:List Value) (n:Nat),Vals xs its∧xs.length=its.length∧s.heap.get? l=some {cls:= .type "list",data:= .seq its.toArray n}:=by
 obtain⟨z,its,n,r,e⟩:=I.aE l _ hH
 exact⟨z,its,n,r,r.length,e⟩
theorem Hh{n:Nat}(h:n≤sizeLine):Builtin.List.listTooLong n=false:=by
 unfold Builtin.List.listTooLong
 exact decide_eq_false (by omega)
end
section
variable {X:Cx}
def Rx:V→List V→Hp→VK→Prop:=fun x vs H Q=> ∃l xs y,x= .ref l∧vs=[y]∧H l=some (.lst xs)∧xs.length<sizeLine∧Q .aD (upd H l (.lst (xs++ [y])))
theorem Ry:tm X "list.append" Rx:=by
 intro pins s σ H x vs v us Q I rx rv h
 obtain⟨l,xs,y,rfl,rfl,hH,hz,q⟩:=h
 cases rx
 obtain⟨u,rfl,ru⟩:=rv.one
 obtain⟨z,its,n,r,hl,e⟩:=I.kZ hH
 refine call_meets F.slot_list_append ⟨_,e,rfl⟩ F.entry_list_append (F.args_list_append_2 _ _) (PySem.list_append l its.toArray n u (by rw[List.size_toArray];omega)) ⟨e, ?_⟩
 refine⟨.aD,_,I.tq (gw:=its++ [u]) hH e (by simp) (r.append (.cons ru .nil)) ?_,rfl,q⟩
 rw[List.length_append,List.length_singleton]
 omega
def Rz:V→List V→Hp→VK→Prop:=fun x vs H Q=> ∃l b xs zs,x= .ref l∧vs=[.ref b]∧H l=some (.lst xs)∧H b=some (.lst zs)∧xs.length+zs.length≤sizeLine∧Q .aD (upd H l (.lst (xs++zs)))
theorem RA:tm X "list.extend" Rz:=by
 intro pins s σ H x vs v us Q I rx rv h
 obtain⟨l,b,xs,zs,rfl,rfl,hH,hB,hz,q⟩:=h
 cases rx
 obtain⟨u,rfl,ru⟩:=rv.one
 cases ru
 obtain⟨z,its,n,r,hl,e⟩:=I.kZ hH
 obtain⟨z2,fQ,n2,r2,jS,e2⟩:=I.kZ hB
 have hsz:its.toArray.size+fQ.toArray.size≤sizeLine:=by rw[List.size_toArray,List.size_toArray];omega
 have Ai: ¬(!its.toArray.isEmpty && Builtin.List.listTooLong (its.toArray.size+fQ.toArray.size))=true:=by
  rw[Hh hsz,Bool.and_false]
  exact Bool.false_ne_true
 refine call_meets F.slot_list_extend ⟨_,e,rfl⟩ F.entry_list_extend (F.args_list_extend_2 _ _)
  (AutoSeq1.list_extend_list_list_0 l its.toArray n b fQ.toArray n2 Ai (by rw[List.size_toArray];omega) (by omega)) ⟨e,e2, ?_⟩
 refine⟨.aD,_,I.tq (gw:=its++fQ) hH e (by simp) (r.append r2) ?_,rfl,q⟩
 rw[List.length_append]
 omega
def RB:V→List V→Hp→VK→Prop:=fun x vs H Q=> ∃l xs y,x= .ref l∧vs=[]∧H l=some (.lst xs)∧xs[xs.length - 1]?=some y∧Q y (upd H l (.lst xs.dropLast))
theorem RC:tm X "list.pop" RB:=by
 intro pins s σ H x vs v us Q I rx rv h
 obtain⟨l,xs,y,rfl,rfl,hH,hy,q⟩:=h
 cases rx
 have tu:=rv.zero
 subst tu
 obtain⟨z,its,n,r,hl,e⟩:=I.kZ hH
 obtain⟨u,hu,ru⟩:=r.get hy
 have oG:its.toArray[its.toArray.size - 1]?=some u:=by
  show its.toArray[its.length - 1]?=some u
  rw[←Array.getElem?_toList,←hl]
  exact hu
 refine call_meets F.slot_list_pop ⟨_,e,rfl⟩ F.entry_list_pop (F.args_list_pop_1 _) (MeetsSeq.list_pop_last l its.toArray n u oG (by rw[List.size_toArray];omega)) ⟨e, ?_⟩
 refine⟨y,_,I.tq (gw:=its.dropLast) hH e ?_ r.dropLast ?_,ru,q⟩
 ·show its.toArray.eraseIdxIfInBounds (its.toArray.size - 1)=its.dropLast.toArray
  rw[List.size_toArray,List.eraseIdxIfInBounds_toArray,Rw]
 ·rw[List.length_dropLast]
  omega
def RD:V→List V→Hp→VK→Prop:=fun x vs H Q=> ∃l xs,x= .ref l∧vs=[]∧H l=some (.lst xs)∧Q .aD (upd H l (.lst xs.reverse))
theorem RF:tm X "list.reverse" RD:=by
 intro pins s σ H x vs v us Q I rx rv h
 obtain⟨l,xs,rfl,rfl,hH,q⟩:=h
 cases rx
 have tu:=rv.zero
 subst tu
 obtain⟨z,its,n,r,hl,e⟩:=I.kZ hH
 refine call_meets F.slot_list_reverse ⟨_,e,rfl⟩ F.entry_list_reverse (F.args_list_reverse_1 _) (AutoSeq1.list_reverse_list_0 l its.toArray n (by rw[List.size_toArray];omega)) ⟨e, ?_⟩
 refine⟨.aD,_,I.tq (gw:=its.reverse) hH e (by simp) r.reverse ?_,rfl,q⟩
 rw[List.length_reverse]
 omega
def RG:V→List V→Hp→VK→Prop:=fun x vs H Q=> ∃l xs,x= .ref l∧vs=[]∧H l=some (.lst xs)∧Q .aD (upd H l (.lst []))
theorem RH:tm X "list.clear" RG:=by
 intro pins s σ H x vs v us Q I rx rv h
 obtain⟨l,xs,rfl,rfl,hH,q⟩:=h
 cases rx
 have tu:=rv.zero
 subst tu
 obtain⟨z,its,n,r,hl,e⟩:=I.kZ hH
 refine call_meets F.slot_list_clear ⟨_,e,rfl⟩ F.entry_list_clear (F.args_list_clear_1 _) (AutoSeq1.list_clear_list_0 l its.toArray n (by rw[List.size_toArray];omega)) ⟨e, ?_⟩
 exact⟨.aD,_,I.tq (gw:=[]) (ys:=[]) hH e rfl .nil (Nat.zero_le _),rfl,q⟩
def Hi:R2:=fun x y H Q=> ∃l b xs zs,x= .ref l∧y= .ref b∧H l=some (.lst xs)∧H b=some (.lst zs)∧xs.length+zs.length≤sizeLine∧ ∀p,H p=none→Q (.ref p) (upd H p (.lst (xs++zs)))
theorem RJ:aY X (binaryOp .Add) Hi:=by
 intro pins s σ H x y v u Q I rx ry h
 obtain⟨l,b,xs,zs,rfl,rfl,hH,hB,hz,q⟩:=h
 cases rx
 cases ry
 obtain⟨z,its,n,r,hl,e⟩:=I.kZ hH
 obtain⟨z2,fQ,n2,r2,jS,e2⟩:=I.kZ hB
 refine PySem.P.add_list e e2 ?_ (by rw[List.size_toArray,List.size_toArray];omega)
 have ea:its.toArray++fQ.toArray=(its++fQ).toArray:=by simp
 rw[ea]
 exact⟨.ref _,_,I.Hg (t':=s.toks) (r.append r2) (by rw[List.length_append];omega),rfl,q _ I.fresh⟩
def Hj:R2:=fun x y H Q=> ∃l k xs,x= .ref l∧y= .int k∧H l=some (.lst xs)∧ -(2 ^ 63)≤k∧k<2 ^ 63∧xs.length*k.toNat≤sizeLine∧
 ∀p,H p=none→Q (.ref p) (upd H p (.lst (List.replicate k.toNat xs).flatten))
theorem len_rep{α:Type}(xs:List α)(k:Nat):(List.replicate k xs).flatten.length=k*xs.length:=by
 induction k with
 | zero=>simp
 | succ k ih=>rw[List.replicate_succ,List.flatten_cons,List.length_append,ih,Nat.succ_mul,Nat.add_comm]
theorem RK:aY X (binaryOp .Mult) Hj:=by
 intro pins s σ H x y v u Q I rx ry h
 obtain⟨l,k,xs,rfl,rfl,hH,h1,h2,hz,q⟩:=h
 cases rx
 obtain⟨t,rfl⟩:=ry
 obtain⟨z,its,n,r,hl,e⟩:=I.kZ hH
 have hlen:its.toArray.size*k.toNat≤sizeLine:=by rw[List.size_toArray,←hl];exact hz
 have RL: ¬its.toArray.size*k.toNat> (2 ^ 63 - 1) / 8:=by
  have:(sizeLine:Nat)≤ (2 ^ 63 - 1) / 8:=by decide
  omega
 have RM: ¬(!Builtin.List.listFitsIndex k)=true:=by
  rw[fitsIndex_both h1 h2]
  exact Bool.false_ne_true
 have Ai: ¬Builtin.List.listTooLong (its.toArray.size*k.toNat)=true:=by
  rw[Hh hlen]
  exact Bool.false_ne_true
 have RN:List.foldl (fun x1 x2=>x1++x2) #[] (List.replicate (if its.toArray.isEmpty=true then 0 else k.toNat) its.toArray)=(List.replicate k.toNat its).flatten.toArray:=by
  have f0: ∀m:Nat,List.foldl (fun x1 x2=>x1++x2) #[] (List.replicate m its.toArray)=(List.replicate m its).flatten.toArray:=fun m=>by
   have:=foldl_rep its m []
   rw[List.nil_append] at this
   exact this
  rw[f0]
  cases its with
  | nil=>simp
  | cons a r'=>rw[if_neg (by simp)]
 refine wpAny_binaryOp_repeat_ref (T:="list") (U:="int") (by decide) ⟨_,e,rfl⟩ (fun s'=>typeIs_int s' k t) noFill_list_mul F.fills_int_mul F.slot_int_rmul repeat_list F.slot_int_index.lookup
  (call_meets F.slot_int_rmul (typeIs_int s k t) F.entry_int_rmul (F.args_int_rmul_2 _ _) (int___rmul___int_list k t l its.toArray n)
   ⟨e,rfl,⟨_,e,rfl⟩,call_meets F.slot_list_mul ⟨_,e,rfl⟩ F.entry_list_mul (F.args_list_mul_2 _ _) (AutoListH.list___mul___list_int_3 l its.toArray n k t RM RL Ai) ⟨e, ?_⟩⟩)
 rw[RN]
 exact⟨.ref _,_,I.Hg (t':=s.toks) (r.rep k.toNat) (by rw[len_rep,Nat.mul_comm];exact hz),rfl,q _ I.fresh⟩
end
section
variable {prog:Program} {w:World} {A:Around} {E:Value→Shared→Prop} {s:Shared}
end
section
variable {X:Cx}
end
end L2
namespace Hk
open PySem PySem.W PySem.Calls PyProof.Rows
theorem RO{P:Params}{h:Heap}: ∀(ns:List Int) (vs:List Value),WellAll P h vs (ns.map WData.int)→IntsAre vs ns:=by
 intro ns
 induction ns with
 | nil=>
  intro vs w
  rw[List.map_nil] at w
  cases w
  exact .nil
 | cons n ns ih=>
  intro vs w
  rw[List.map_cons] at w
  cases w with
  | cons a b=>
   cases a
   exact .cons _ _ (ih _ b)
theorem RP{l:OpenLaw}{n:Nat}(hn:l.most=some n){P:Params}{h:Heap}{args:List WData}{vals:List Value}
  (k_:l.row.toRowW.claim.pre args=true) (Aj:WellAll P h vals args):
  ∃a vs ns,vals=[Value.ref a]∧args=[WData.list (ns.map WData.int)]∧h.get? a=some {cls:= .type "list",data:= .seq vs.toArray}∧IntsAre vs ns∧ns.length≤n:=by
 have RQ:WShape.hasAll [] args [.list .int]=true:=(pre_splitW k_).1
 have hc:l.pre.holds [] {args:=args}=true:=(pre_splitW k_).2
 obtain⟨d,r,rfl,h1,h2⟩:=hasAllW_cons RQ
 obtain rfl:=hasAllW_nil h2
 obtain⟨xs,rfl,h3⟩:=hasW_list h1
 obtain⟨ns,rfl⟩:=items_int h3
 have hlen:ns.length≤n:=by
  unfold OpenLaw.pre at hc
  have h4:(WTm.not (.lt (.lit (.int (n:Int))) (.len (.arg 0)))).holds [] {args:=[.list (ns.map .int)]}=true:=by
   have h4:=(holds_andW hc).1
   rw[hn] at h4
   exact h4
  have h5:=condW_of h4 (w_not (w_lt w_lit (w_len_list (w_arg rfl))))
  rw[List.length_map] at h5
  refine Nat.le_of_not_lt fun q=> ?_
  have q':(n:Int) < ((ns.length:Nat):Int):=by omega
  first
   | (rw[decide_eq_true q'] at h5;exact absurd h5 (by decide))
   | (simp at h5;omega)
 cases Aj with
 | cons w1 w2=>
  cases w2
  cases w1 with
  | list ho tw=>exact⟨_,_,ns,rfl,rfl,ho,RO ns _ tw,hlen⟩
theorem RT(l:OpenLaw)(args:List WData):l.row.toRowW.claim.post args (.bool true) args=true:=
 postW_of (r:=l.row.toRowW) (X:=(true==true))
  (show WShape.has [] (.bool true) .bool=true by first | rfl | decide | simp[WShape.has,WShape.arms,WShape.armsAll])
  (show(WTm.eq .res (.lit (.bool true))).value [] {args:=args,res:=some (.bool true),after:=args}=some (.bool (true==true)) from w_eq_bool (w_res rfl) w_lit) rfl
theorem RU{l:OpenLaw}{n:Nat}{q:Program}{loose:List Str}{XP:(Str→Option Value)→Heap→Prop}{YP:World→Heap→Prop}{d:DefRec}
  (hn:l.most=some n) (tD:d.params.defaults=[])
  (call: ∀(w:World) (s₀ s₁:Shared) (mg mb:Str→Option Value) (fa:Addr) (o:Obj) (pm cd doc:Value) (a:Addr) (vs:List Value) (ns:List Int),
   Ground q loose [] XP w s₀ mg mb s₁.heap→YP w s₁.heap→
   s₁.heap.get? fa=some o→o.data= .func (docDef d.name d.params d.body d.scope pm cd doc)→s₁.heap.CodeRec cd d.name→mg d.name=some (.ref fa)→
   s₁.heap.get? a=some {cls:= .type "list",data:= .seq vs.toArray}→IntsAre vs ns→ns.length≤n→s₁.gens= #[]→
   codeAny (model l.prog w) callerA (.call (.ref fa) ⟨[.ref a],[]⟩) (fun r s'=>r= .ok (.ret (.bool true))∧OldK s₁.heap s'.heap∧s'.os=s₁.os∧AllBare s'.gens) s₁):
  WalkO q loose XP YP l.row.toRowW d [] (fun f vs=>PySem.call f vs):=by
 intro w s₀ s₁ mg mb G Y fa o pm cd doc dV kV ho hd ia hD lj hg args vals as k_ am2 hrd Aj wQ
 obtain rfl:dV= .none:=Dflts.none hD tD
 obtain rfl:kV= .none:=Dflts.noKw hD
 obtain⟨a,vs,ns,rfl,rfl,Ak,hints,hlen⟩:=RP hn k_ Aj
 refine enter_call (codeAny_mono (call w s₀ s₁ mg mb fa o pm cd doc a vs ns G Y ho (fd_plain hd) ia lj Ak hints hlen hg) fun r s' hq=> ?_)
 obtain⟨rfl,h2,h3,h4⟩:=hq
 exact⟨.inl ⟨.bool true, .bool true,[],rfl,fun _=>rfl, .bool true,RT l _,fun _=> ⟨List.Pairwise.nil,fun _ hm=> (nomatch hm)⟩⟩,h2,h3,h4⟩
section
variable {prog:Program} {w:World} {A:Around} {E:Value→Shared→Prop} {s:Shared} {K:Frag}
end
end Hk
namespace L2
open PySem PySem.Spec PyProof.Rows
theorem Hl: ∀{vs:List Value} {ns:List Int},IntsAre vs ns→Vals (ns.map V.int) vs
 | _,_, .nil=> .nil
 | _,_, .cons n t h=> .cons ⟨t,rfl⟩ (Hl h)
def Al(H:Hp):Prop:= ∀b,H b=none∨ ∃o xs,H b=some (.bz o (.lst xs))
theorem RV{P:Program}{w:World}{K:Frag}{mg mb:Str→Option Value}{CX:bU}{k:Nat}{fa a:Addr}{fd:FuncData}{x:Str}{sp:Sp}{s₁:Shared}{vs:List Value}{ns:List Int}
  (KX:K.In s₁.heap) (wR:s₁.heap.Ns mainGlobals mg) (hb:s₁.heap.Ns builtinsNs mb) (RW: ∀x:Str,x≠"__name__"→mb x=bootBuiltins x) (RX:s₁.heap.NoLimit) (hg:s₁.gens= #[])
  (ha:s₁.heap.get? a=some {cls:= .type "list",data:= .seq vs.toArray}) (hi:IntsAre vs ns) (hl:ns.length≤sizeLine) (hr:dh k callerA)
  (F: ∀base:Heap,K.In base→base.Ns mainGlobals mg→cw P w K mg base CX k fa fd [x] sp) (RY: ∀(s:Shared) (u:Value),BindsTo s fd ⟨[u],[]⟩ [(x,u)])
  (ib: ∀H:Hp,Al H→aq K H a (ns.map V.int)→sp [.ref a] H (fun v _=>v= .bl true) fun _ _ _=>False)
  (Am: ∀H e s',CX [] H s₁ (fun _ _ _=>False) e s'→False):
  codeAny (model P w) callerA (.call (.ref fa) ⟨[.ref a],[]⟩) (fun r s'=>r= .ok (.ret (.bool true))∧OldK s₁.heap s'.heap∧s'.os=s₁.os∧AllBare s'.gens) s₁:=by
 have rv:=Hl hi
 have tE:=hi.length
 have core: ∀H:Hp,Al H→aq K H a (ns.map V.int)→bN P w H s₁.heap→(∀b,H b≠none→b=a)→(H a≠none→K.lookup a=none)→
   codeAny (model P w) callerA (.call (.ref fa) ⟨[.ref a],[]⟩) (fun r s'=>r= .ok (.ret (.bool true))∧OldK s₁.heap s'.heap∧s'.os=s₁.os∧AllBare s'.gens) s₁:=by
  intro H hO hS aE hA hK
  have mW: ∀{b:Addr} {o:Obj},s₁.heap.get? b=some o→H b=none→(kD s₁.heap H).get? b=some o:=fun e n=>O1 e n
  have sX: ∀{b:Addr} {o:Obj} {es:Array DictEntry} {ep:Nat},s₁.heap.get? b=some o→o.data= .dict es ep→H b=none:=fun {b o es ep} e d=>by
   cases q:H b with
   | none=>rfl
   | some u=>
    have e':b=a:=hA b (by rw[q];simp)
    subst e'
    rw[ha] at e;cases e
    have d':Data.seq vs.toArray _=Data.dict es ep:=d
    cases d'
  have wU: ∀{b:Addr} {m:Str→Option Value},s₁.heap.Ns b m→(kD s₁.heap H).Ns b m:=fun {b m} ⟨o,es,ep,e,d,r⟩=> ⟨o,es,ep,mW e (sX e d),d,r⟩
  have Hn:K.In (kD s₁.heap H):=fun b o e=>mW (KX b o e) (by
   cases q:H b with
   | none=>rfl
   | some u=>
    have e':b=a:=hA b (by rw[q];simp)
    subst e'
    rw[hK (by rw[q];simp)] at e;cases e)
  have hM:Mod K mg (kD s₁.heap H):=⟨Hn,wU wR,⟨mb,wU hb,RW⟩,let ⟨mc,h1,h2⟩:=RX;⟨mc,wU h1,h2⟩⟩
  have e0:kS P w K mg (kD s₁.heap H) callerA [] s₁ H:=⟨rfl,hM,fun b o e=>O2 e,Nat.le_of_eq (O0 _ _),trivial,fun b hb=>absurd (show b∈ ([]:List Addr) from hb) (by simp),aE, .of_eq hg⟩
  refine codeAny_mono ((F _ Hn (wU wR)).run callerA [] s₁ H ⟨[.ref a],[]⟩ [.ref a] [.ref a] _ _ hr e0 (RY s₁ (.ref a)) (.cons rfl .nil) (ib H hO hS)) fun r s' h=> ?_
  cases r with
  | error e=>exact(Am H e s' h).elim
  | ok fl=>
   cases fl with
   | next=>exact False.elim h
   | brk=>exact False.elim h
   | cont=>exact False.elim h
   | ret u=>
    obtain⟨v,H',os,bare,un,RZ,r',q⟩:=h
    have q':v= .bl true:=q
    subst q'
    obtain rfl:u=Value.bool true:=r'
    refine⟨rfl,OldK.of_keep fun b o e=> ?_,os,bare⟩
    cases q:H b with
    | none=>exact un.keep b o e q (by intro z;exact absurd (show b∈ ([]:List Addr) from z) (by simp)) (by simp)
    | some u=>
     rcases hO b with z | ⟨ob,xs,z⟩
     ·rw[q] at z;cases z
     ·have z2:=un.eS b ob _ z
      obtain⟨e1,_⟩:=aE b _ z
      obtain⟨e2,_⟩:=RZ b _ z2
      rw[e] at e1;cases e1
      exact e2
 cases hk:K.lookup a with
 | some o=>
  have e:=KX a o hk
  rw[ha] at e
  cases e
  refine core (fun _=>none) (fun _=> .inl rfl) (.inr ⟨_,vs.toArray,_,hk,rfl,rfl,rfl,by rw[List.size_toArray,tE];exact hl,by simpa using rv⟩) (fun b u z=>by have z':(none:Option HO)=some u:=z;cases z') (fun b z=>absurd rfl z) fun z=>absurd rfl z
 | none=>
  refine core (fun b=>if b=a then some (.bz {cls:= .type "list",data:= .seq vs.toArray} (.lst (ns.map V.int))) else none) (fun b=> ?_) (.inl (.inr ⟨{cls:= .type "list",data:= .seq vs.toArray},if_pos rfl⟩)) (fun b u z=> ?_) (fun b z=> ?_) fun _=>hk
  ·by_cases hb:b=a
   ·exact .inr ⟨_,_,if_pos hb⟩
   ·exact .inl (if_neg hb)
  ·by_cases hb:b=a
   ·have z':=(if_pos hb).symm.trans z
    cases z'
    subst hb
    exact⟨ha,by rw[List.length_map];exact hl,vs,_,rv,ha⟩
   ·have z':=(if_neg hb).symm.trans z
    cases z'
  ·by_cases hb:b=a
   ·exact hb
   ·exact absurd (if_neg hb) z
theorem R0{l:PySem.W.OpenLaw}{n k:Nat}{q:Program}{loose:List Str}{XP:(Str→Option Value)→Heap→Prop}{YP:World→Heap→Prop}{d:DefRec}{K:Params→Frag}{CX:World→bU}{sp:World→Sp}{x:Str}
  (hn:l.most=some n) (mR:n≤sizeLine) (tD:d.params.defaults=[]) (hr:dh k callerA)
  (hY: ∀(w:World) (h:Heap),YP w h→(K w.params).In h)
  (F: ∀(w:World) (mg:Str→Option Value) (fa:Addr) (h:Heap),(K w.params).In h→h.Ns mainGlobals mg→mg d.name=some (.ref fa)→
   ∃fd:FuncData,(∀(s:Shared) (u:Value),BindsTo s fd ⟨[u],[]⟩ [(x,u)])∧
    ∀base:Heap,(K w.params).In base→base.Ns mainGlobals mg→cw l.prog w (K w.params) mg base (CX w) k fa fd [x] (sp w))
  (ib: ∀(w:World) (H:Hp) (a:Addr) (ns:List Int),ns.length≤n→Al H→aq (K w.params) H a (ns.map V.int)→sp w [.ref a] H (fun v _=>v= .bl true) fun _ _ _=>False)
  (Am: ∀(w:World) (H:Hp) (s:Shared) (e:Value) (s':Shared),CX w [] H s (fun _ _ _=>False) e s'→False):
  PySem.W.WalkO q loose XP YP l.row.toRowW d [] (fun f vs=>PySem.call f vs):=by
 refine Hk.RU hn tD fun w s₀ s₁ mg mb fa o pm cd doc a vs ns G Y ho hd ia lj Ak hints hlen hg=> ?_
 have KX:=hY w _ Y
 obtain⟨fd,hb,hF⟩:=F w mg fa _ KX G.T.g lj
 exact RV KX G.T.g G.T.b G.T.builtins G.T.nolimit hg Ak hints (Nat.le_trans hlen mR) hr hF hb (fun H hO hS=>ib w H a ns hlen hO hS) fun H e s'=>Am w H s₁ e s'
end L2
namespace L2
open PySem PySem.Spec PyProof.Rows
def inClass(s:Stmt)(j:Nat):Stmt:=match s with
 | .ClassDef _ _ _ body _ _ _ _ _ _ _=>body.getD j (.Pass ⟨0,0,0,0⟩)
 | _=> .Pass ⟨0,0,0,0⟩
def bt(s:Stmt):Arguments:=match s with
 | .FunctionDef _ a _ _ _ _ _ _ _ _=>a
 | _=> {posonlyargs:=[],args:=[],vararg:=none,kwonlyargs:=[],kw_defaults:=[],kwarg:=none,defaults:=[]}
def bc(s:Stmt):List Stmt:=match s with
 | .FunctionDef _ _ b _ _ _ _ _ _ _=>b
 | _=> []
def aJ(s:Stmt):Scope:=match s with
 | .FunctionDef _ _ _ _ _ _ sc _ _ _=>sc
 | _=> {kind:= .function,names:=[],isGenerator:=false,isCoroutine:=false}
abbrev wV:bU:=fun _ _ _ _ _ _=>False
abbrev E0:XK:=fun _ _ _=>False
structure mX (K:Frag) (x qual:Str) (st:Stmt) (f:Addr) (fd:FuncData):Prop where
 ex: ∃(oc:Value) (od:Option Addr) (kV doc pm:Value) (an:Option Addr) (bK ct:Value) (ji:Array (Option Value)),
  fd=fnOf x qual (bt st) (bc st) (aJ st) .none kV doc pm an bK ct∧K.lookup f=some ⟨oc,od, .func fd,ji⟩∧codeIn K bK qual=true
 kp:keepIn K (.ref f)=true
section
variable {P:Program} {w:World} {K:Frag} {mg:Str→Option Value} {base:Heap}
theorem mX.binds{x qual:Str}{st:Stmt}{f:Addr}{fd:FuncData}{ps:List Str}(F:mX K x qual st f fd)
  (h: ∀(kV doc pm:Value) (an:Option Addr) (bK ct:Value) (us:List Value),us.length=ps.length→bindArgs (fnOf x qual (bt st) (bc st) (aJ st) .none kV doc pm an bK ct) ⟨us,[]⟩=pure (ps.zip us)):Binds K fd ps []:=by
 obtain⟨oc,od,kV,doc,pm,an,bK,ct,ji,rfl,lk,ia⟩:=F.ex
 exact .all (h kV doc pm an bK ct)
theorem bP{x qual:Str}{st:Stmt}{f:Addr}{oc:Value}{od an:Option Addr}{ji:Array (Option Value)}{kV doc pm bK ct:Value}(l:K.lookup f=some ⟨oc,od, .func (fnOf x qual (bt st) (bc st) (aJ st) .none kV doc pm an bK ct),ji⟩)
  (c:codeIn K bK qual=true) (k:keepIn K (.ref f)=true):mX K x qual st f (fnOf x qual (bt st) (bc st) (aJ st) .none kV doc pm an bK ct):=⟨⟨oc,od,kV,doc,pm,an,bK,ct,ji,rfl,l,c⟩,k⟩
end
section
variable {X:Cx}
end
theorem lq{A B:Prop}(h:B):if false=true then A else B:=by
 rw[if_neg Bool.false_ne_true]
 exact h
theorem fS{A B:Prop}(h:A):if true=true then A else B:=by
 rw[if_pos rfl]
 exact h
theorem ie{c A B:Prop}[Decidable c](h1:c→A)(h2: ¬c→B):if c then A else B:=by
 by_cases h:c
 ·rw[if_pos h]
  exact h1 h
 ·rw[if_neg h]
  exact h2 h
def au(H H':Hp):Prop:= ∀b o,H b=some o→H' b=some o
theorem au.refl(H:Hp):au H H:=fun _ _ h=>h
theorem au.trans{H H1 H2:Hp}(a:au H H1)(b:au H1 H2):au H H2:=fun c o h=>b c o (a c o h)
theorem au.free{H H':Hp}(e:au H H'){l:Addr}(h:H' l=Option.none):H l=Option.none:=by
 cases q:H l with
 | none=>rfl
 | some o=>
  rw[e l o q] at h
  cases h
theorem au.seq{K:Frag}{H H':Hp}{a:Addr}{xs:List V}(e:au H H')(h:aq K H a xs):aq K H' a xs:=by
 rcases h with(h | ⟨o,h⟩) | h
 ·exact .inl (.inl (e _ _ h))
 ·exact .inl (.inr ⟨o,e _ _ h⟩)
 ·exact .inr h
section
variable {κ:Type} [DecidableEq κ]
def fU(av:List (κ×V))(k:κ):Option V:=(av.find? fun kv=>decide (kv.1=k)).map (·.2)
def putK(av:List (κ×V))(k:κ)(v:V):List (κ×V):=
 if (av.any fun kv=>decide (kv.1=k))=true then av.map (fun kv=>if kv.1=k then (kv.1,v) else kv) else av++ [(k,v)]
theorem An{p:κ×V}{r:List (κ×V)}{k:κ}(e:p.1=k):fU (p::r) k=some p.2:=by simp[fU,List.find?_cons,e]
theorem Ao{p:κ×V}{r:List (κ×V)}{k:κ}(e: ¬p.1=k):fU (p::r) k=fU r k:=by simp[fU,List.find?_cons,e]
theorem Ap(k:κ): ∀av:List (κ×V),(av.any fun kv=>decide (kv.1=k))=(fU av k).isSome
 | []=>rfl
 | p::r=>by
  rw[List.any_cons]
  by_cases e:p.1=k
  ·simp only[An e,decide_eq_true e,Bool.true_or,Option.isSome_some]
  ·rw[Ao e,decide_eq_false e,Bool.false_or];exact Ap k r
theorem Ho(av:List (κ×V))(k:κ)(v:V):(putK av k v).length≤av.length+1:=by
 unfold putK
 split
 ·rw[List.length_map];omega
 ·rw[List.length_append,List.length_cons,List.length_nil];omega
theorem R1{av:List (κ×V)}{k:κ}(v:V)(h:fU av k=none):putK av k v=av++ [(k,v)]:=by
 unfold putK
 rw[Ap,h]
 exact if_neg (by decide)
theorem fM.R3{o:Option V}{u:Option Value}(r:fM o u):o.isSome=u.isSome:=by
 cases o with
 | none=>cases u with
  | none=>rfl
  | some _=>exact(show False from r).elim
 | some _=>cases u with
  | none=>exact(show False from r).elim
  | some _=>rfl
theorem fM.getD{o:Option V}{u:Option Value}{d:V}{d':Value}(r:fM o u)(rd:RelV d d'):RelV (o.getD d) (u.getD d'):=by
 cases o with
 | none=>cases u with
  | none=>exact rd
  | some _=>exact(show False from r).elim
 | some _=>cases u with
  | none=>exact(show False from r).elim
  | some _=>exact r
theorem KV.val{av:List (κ×V)}{vs:List (κ×Value)}(r:KV av vs)(k:κ):fM (fU av k) (valueAt vs k):=by
 unfold KV at r
 induction r with
 | nil=>exact True.intro
 | @cons p q ps qs h t ih=>
  obtain⟨h1,h2⟩:=h
  by_cases e:p.1=k
  ·have e':q.1=k:=h1.symm.trans e
   have b:valueAt (q::qs) k=some q.2:=by simp[valueAt,List.find?_cons,e']
   rw[An e,b];exact h2
  ·have e': ¬q.1=k:=fun z=>e (h1.trans z)
   have b:valueAt (q::qs) k=valueAt qs k:=by simp[valueAt,List.find?_cons,e']
   rw[Ao e,b];exact ih
theorem KV.any{av:List (κ×V)}{vs:List (κ×Value)}(r:KV av vs)(k:κ):(av.any fun kv=>decide (kv.1=k))=vs.any fun kv=>decide (kv.1=k):=by
 unfold KV at r
 induction r with
 | nil=>rfl
 | cons h t ih=>rw[List.any_cons,List.any_cons,ih,h.1]
theorem KV.Aq{av:List (κ×V)}{vs:List (κ×Value)}(r:KV av vs)(k:κ){y:V}{u:Value}(ry:RelV y u):
  KV (av.map fun kv=>if kv.1=k then (kv.1,y) else kv) (vs.map fun kv=>if kv.1=k then (kv.1,u) else kv):=by
 unfold KV at r⊢
 induction r with
 | nil=>exact .nil
 | @cons p q ps qs h t ih=>
  rw[List.map_cons,List.map_cons]
  refine .cons ?_ ih
  obtain⟨h1,h2⟩:=h
  by_cases e:p.1=k
  ·rw[if_pos e,if_pos (h1.symm.trans e)];exact⟨h1,ry⟩
  ·rw[if_neg e,if_neg (fun z=>e (h1.trans z))];exact⟨h1,h2⟩
theorem KV.put{av:List (κ×V)}{vs:List (κ×Value)}(r:KV av vs)(k:κ){y:V}{u:Value}(ry:RelV y u):KV (putK av k y) (stored vs k u):=by
 unfold putK stored
 rw[r.any k]
 by_cases e:(vs.any fun kv=>decide (kv.1=k))=true
 ·rw[if_pos e,if_pos e];exact r.Aq k ry
 ·rw[if_neg e,if_neg e];exact Paired.snoc r ⟨rfl,ry⟩
theorem KV.length{av:List (κ×V)}{vs:List (κ×Value)}(r:KV av vs):av.length=vs.length:=Paired.length r
end
theorem Ar{P:Program}{w:World}{k:Key}{u:Value}(r:RelV (kV k) u):(dX P w).is k u=true:=by
 cases k with
 | inl i=>obtain⟨t,e⟩:=(show ∃t,u=Value.int i t from r);subst e;exact FH P w i t
 | inr x=>obtain⟨t,e⟩:=(show ∃t,u=Value.str x t from r);subst e;exact FI P w x t
theorem Hq{P:Program}{w:World}: ∀{ks:List Key} {us:List Value},Vals (ks.map kV) us→ItemsAre (dX P w) ks us
 | [],_,r=>by rw[List.map_nil] at r;cases r;exact .nil
 | k::ks,_,r=>by
  rw[List.map_cons] at r
  cases r with
  | cons h t=>exact .cons (Ar h) (Hq t)
abbrev KT(H:Hp):List (List Key×V)→List (List Key×Addr×Value)→Prop:=Paired fun p q=>p.1=q.1∧H q.2.1=some (.tup (p.1.map kV))∧RelV p.2 q.2.2
theorem KT.val{H:Hp}{av:List (List Key×V)}{xs:List (List Key×Addr×Value)}(r:KT H av xs)(k:List Key):fM (fU av k) ((atKey xs k).map (·.2)):=by
 induction r with
 | nil=>exact True.intro
 | @cons p q ps qs h t ih=>
  obtain⟨h1,_,h2⟩:=h
  by_cases e:p.1=k
  ·have e':q.1=k:=h1.symm.trans e
   have b:atKey (q::qs) k=some q.2:=by simp[atKey,List.find?_cons,e']
   rw[An e,b];exact h2
  ·have e': ¬q.1=k:=fun z=>e (h1.trans z)
   have b:atKey (q::qs) k=atKey qs k:=by simp[atKey,List.find?_cons,e']
   rw[Ao e,b];exact ih
theorem KT.Aq{H:Hp}{av:List (List Key×V)}{xs:List (List Key×Addr×Value)}(r:KT H av xs)(k:List Key){y:V}{u:Value}(ry:RelV y u):
  KT H (av.map fun kv=>if kv.1=k then (kv.1,y) else kv) (xs.map (putAt k u)):=by
 induction r with
 | nil=>exact .nil
 | @cons p q ps qs h t ih=>
  rw[List.map_cons,List.map_cons]
  refine .cons ?_ ih
  obtain⟨h1,h2,h3⟩:=h
  unfold putAt
  by_cases e:p.1=k
  ·rw[if_pos e,if_pos (h1.symm.trans e)];exact⟨h1,h2,ry⟩
  ·rw[if_neg e,if_neg (fun z=>e (h1.trans z))];exact⟨h1,h2,h3⟩
theorem KT.put{H:Hp}{av:List (List Key×V)}{xs:List (List Key×Addr×Value)}(r:KT H av xs)(k:List Key){b:Addr}{y:V}{u:Value}(hb:H b=some (.tup (k.map kV)))(ry:RelV y u):
  KT H (putK av k y) (storedH xs k b u):=by
 have e:(av.any fun kv=>decide (kv.1=k))=(atKey xs k).isSome:=by
  rw[Ap,(r.val k).R3,Option.isSome_map]
 unfold putK storedH
 rw[e]
 by_cases q:(atKey xs k).isSome=true
 ·rw[if_pos q,if_pos q];exact r.Aq k ry
 ·rw[if_neg q,if_neg q];exact Paired.snoc r ⟨rfl,hb,ry⟩
theorem KT.keeps{H H':Hp}{av:List (List Key×V)}{xs:List (List Key×Addr×Value)}(r:KT H av xs)(ht: ∀b ys,H b=some (.tup ys)→H' b=some (.tup ys)):KT H' av xs:=
 Paired.eQ r fun _ _ z=> ⟨z.1,ht _ _ z.2.1,z.2.2⟩
section
variable {P:Program} {w:World} {H:Hp} {h:Heap} {a:Addr}
theorem Hr{u:HO}(ok:bN P w H h)(e:Rd H a u):cm P w H h a u:=e.ok ok
theorem As{av:List (Key×V)}(ok:bN P w H h)(e:Rd H a (.dK av)):av.length≤sizeLine∧(a==sysModules)=false∧ ∃vs,KV av vs∧h.DictOf (dX P w) a vs:=
 show cm P w H h a (.dK av) from Hr ok e
theorem R4{av:List (Key×V)}(ok:bN P w H h)(e:H a=some (.dK av)):av.length≤sizeLine∧(a==sysModules)=false∧ ∃vs,KV av vs∧h.DictOf (dX P w) a vs:=As ok (.inl e)
theorem Au{ks:List Key}(ok:bN P w H h)(e:H a=some (.tup (ks.map kV))):(tupleKind (dX P w)).is h ks a:=by
 obtain⟨_,its,r,o,h1,h2,n,h3⟩:=(show cm P w H h a (.tup (ks.map kV)) from ok a _ e)
 exact⟨o,its.toArray,n,h1,h2,h3,by simpa using Hq r⟩
theorem Av{av:List (List Key×V)}(ok:bN P w H h)(e:Rd H a (.dT av)):av.length≤sizeLine∧(a==sysModules)=false∧
  ∃xs,KT H av xs∧h.DictOfH (tupleKind (dX P w)) a xs:=by
 obtain⟨z,y,xs,r,o,es,ep,h1,h2,h3,h4,h5⟩:=(show cm P w H h a (.dT av) from Hr ok e)
 refine⟨z,y,xs,r,o,es,ep,h1,h2,h3,h4,fun x hx=> ?_,h5⟩
 have all: ∀{l:List (List Key×V)} {m:List (List Key×Addr×Value)},KT H l m→ ∀x∈m,(tupleKind (dX P w)).is h x.1 x.2.1:=by
  intro l m q
  induction q with
  | nil=>intro x hx;exact nomatch hx
  | @cons p q ps qs hq t ih=>
   intro x hx
   rcases List.mem_cons.mp hx with e | hx
   ·subst e
    exact Au ok (by rw[←hq.1];exact hq.2.1)
   ·exact ih x hx
 exact all r x hx
theorem R5{av:List (List Key×V)}(ok:bN P w H h)(e:H a=some (.dT av)):av.length≤sizeLine∧(a==sysModules)=false∧
  ∃xs,KT H av xs∧h.DictOfH (tupleKind (dX P w)) a xs:=Av ok (.inl e)
end
def mY(H:Hp)(a:Addr)(y:V)(r:Option V):Prop:=
 (∃av k,Rd H a (.dK av)∧y=kV k∧r=fU av k)∨ ∃av k b,Rd H a (.dT av)∧y= .ref b∧H b=some (.tup (k.map kV))∧r=fU av k
def tF(H:Hp)(a:Addr)(y v:V)(H':Hp):Prop:=
 (∃av k,H a=some (.dK av)∧y=kV k∧av.length<sizeLine∧H'=upd H a (.dK (putK av k v)))∨
 ∃av k b,H a=some (.dT av)∧y= .ref b∧H b=some (.tup (k.map kV))∧av.length<sizeLine∧H'=upd H a (.dT (putK av k v))
theorem mY.t{H:Hp}{a b:Addr}{av:List (List Key×V)}{k:List Key}(e:H a=some (.dT av))(eb:H b=some (.tup (k.map kV))):mY H a (.ref b) (fU av k):= .inr ⟨av,k,b, .inl e,rfl,eb,rfl⟩
theorem tF.t{H:Hp}{a b:Addr}{av:List (List Key×V)}{k:List Key}{v:V}(e:H a=some (.dT av))(eb:H b=some (.tup (k.map kV)))(hl:av.length<sizeLine):
  tF H a (.ref b) v (upd H a (.dT (putK av k v))):= .inr ⟨av,k,b,e,rfl,eb,hl,rfl⟩
section
variable {X:Cx} {pins:List (Addr×Obj)} {σ:St} {H:Hp} {s:Shared} {a:Addr} {y v:V} {u r:Value} {o:Option V} {A:Around} {E:Value→Shared→Prop}
theorem Inv.big(I:Inv X pins σ H s):sysModules<s.heap.objs.size:=by
 have h:mainGlobals<s.heap.objs.size:=(I.mod.glob.keeps I.bk).lt
 exact Nat.lt_trans (by decide) h
theorem Hs{h':Heap}{t':Nat}{ob:HO}(I:Inv X pins σ H s)(mu:sG (H a))(hs:Heap.SameBut a s.heap h')(he: ∃q,h'.get? a=some q)(new:cm X.prog X.w (upd H a ob) h' a ob):
  Inv X pins σ (upd H a ob) {s with heap:=h',toks:=t'}:=
 I.write (x:=a) (e:=a) mu (.inl rfl) (fun b q hb z=> (hs.2 b hb).trans z) he new
theorem R6{P:Program}{w:World}{H':Hp}{h':Heap}{av:List (Key×V)}{vs:List (Key×Value)}(z:av.length≤sizeLine)(hd:(a==sysModules)=false)(rel:KV av vs)(dd:h'.DictOf (dX P w) a vs):
  cm P w H' h' a (.dK av):=⟨z,hd,vs,rel,dd⟩
theorem R7{H':Hp}{Q:Unit→Shared→Prop}(hu:A.units+1<cLine)(I:Inv X pins σ H s)(g:tF H a y v H')(ry:RelV y u)(rv:RelV v r)(h: ∀s',Inv X pins σ H' s'→Q () s'):
  wpAny (model X.prog X.w) A (setItem (.ref a) u r) Q E s:=by
 rcases g with⟨av,k,e,ey,l,eH⟩ | ⟨av,k,b,e,ey,eb,l,eH⟩
 ·subst ey eH
  obtain⟨z,hd,vs,rel,dd⟩:=R4 I.aE e
  have hz:vs.length≤sizeLine:=by rw[←rel.length];exact z
  have hl:(putK av k v).length≤sizeLine:=by have:=Ho av k v;omega
  refine wpAny_setItem_pairs (hsz:=hz) (Ar ry) dd fun h' wW hs=>h _ ?_
  have he: ∃q,h'.get? a=some q:=let ⟨q,_,_,hq,_⟩:=wW;⟨q,hq⟩
  exact Hs I (by rw[e];exact True.intro) hs he (R6 hl hd (rel.put k rv) wW)
 ·subst ey eH
  cases (show u=Value.ref b from ry)
  obtain⟨z,hd,xs,rel,dd⟩:=R5 I.aE e
  have hz:xs.length≤sizeLine:=by rw[←Paired.length rel];exact z
  have hl:(putK av k v).length≤sizeLine:=by have:=Ho av k v;omega
  refine wpAny_setItem_heap (hsz:=hz) (tupleKind_room_in1 hu) (Au I.aE eb) dd fun h' wW hs=>h _ ?_
  obtain⟨q,es,ep,hq,h2,h3,h4,_,h5⟩:=wW
  refine Hs I (by rw[e];exact True.intro) hs ⟨q,hq⟩ ⟨hl,hd,_,(rel.put k eb rv).keeps fun c ys ec=> ?_,q,es,ep,hq,h2,h3,h4,h5⟩
  rw[aG (FJ ec e (fun z=>nomatch z))]
  exact ec
end
section
variable {X:Cx} {pins:List (Addr×Obj)} {σ:St} {H:Hp} {s:Shared} {a:Addr} {av:List (Key×V)} {k:Key} {u:Value} {A:Around} {E:Value→Shared→Prop}
end
def R8(td ty:TE):TE:=fun σ H Q=>td σ H fun x H1=>ty σ H1 fun y H2=> ∃a v,x= .ref a∧mY H2 a y (some v)∧Q v H2
def Ht(ty td:TE):TE:=fun σ H Q=>ty σ H fun y H1=>td σ H1 fun x H2=> ∃a o,x= .ref a∧mY H2 a y o∧Q (.bl o.isSome) H2
def Hu(ty td:TE):TE:=fun σ H Q=>ty σ H fun y H1=>td σ H1 fun x H2=> ∃a o,x= .ref a∧mY H2 a y o∧Q (.bl (!o.isSome)) H2
def Hv(td ty tv:TE):TS:=fun D σ H=>tv σ H fun v H1=>td σ H1 fun x H2=>ty σ H2 fun y H3=> ∃a H4,x= .ref a∧tF H3 a y v H4∧D.nx σ H4
section
variable {X:Cx} {o i e value:Expr} {pos pos' sV:Pos} {td ty tv:TE}
theorem R9(hu:X.A.units+1<cLine)(ho:PE X o td)(hi:PE X i ty)(hv:PE X value tv)(hs:swapsWith value (some (.Subscript o i pos')) pos.line X.env=pure false):
  PS X (.Assign [.Subscript o i pos'] value pos) (Hv td ty tv):=by
 intro pins s σ H D I h
 refine wpAny_Assign_Subscript (aK (hv pins s σ H _ I h) fun r s1 ⟨v,H1,I1,rv,q1⟩=>aK (ho pins s1 σ H1 _ I1 q1) fun u s2 ⟨x,H2,I2,rx,q2⟩=>aK (hi pins s2 σ H2 _ I2 q2) fun iv s3 ⟨y,H3,I3,ry,a,H4,ex,g,q3⟩=> ?_) hs
 subst ex
 obtain rfl:u=Value.ref a:=rx
 exact R7 hu I3 g ry rv fun s4 I4=> ⟨σ,H4,I4,q3⟩
end
theorem R_{P:Program}{w:World}{H:Hp}(h:Heap)(hb:sysModules<h.objs.size):cm P w H (h.push {cls:= .type "dict",data:= .dict #[]}) h.objs.size (.dT []):=
 ⟨Nat.zero_le _,beq_eq_false_iff_ne.mpr (Ne.symm (Nat.ne_of_lt hb)),[], .nil,_,#[],0,Heap.get?_push_size _ rfl,⟨rfl,rfl,rfl⟩,rfl,rfl,List.nodup_nil⟩
def Hw:TE:=fun _ H Q=> ∀p,H p=none→Q (.ref p) (upd H p (.dT []))
section
variable {X:Cx} {pos:Pos}
theorem Sa:PE X (.Dict [] [] pos) Hw:=fun pins s σ H Q I h=>
 wpAny_Dict_empty ⟨.ref s.heap.objs.size,_,I.laid (a:=s.heap.objs.size) (o:= .dT []) (t':=s.toks) (fun _ _ q=>Heap.get?_push_of_some _ q) (Nat.le_refl _) (R_ s.heap I.big),rfl,h _ (I.aE.fresh (Nat.le_refl _))⟩
end
structure M2 (X:Cx) (o:Expr) (m:Str) (apos:Pos) (e f:Expr) (cL:Pos):Prop where
 base:attributeBase o m X.env (eval o X.env)=eval o X.env
 Sb:((backTo cL (starEach [e,f] X.env)).all (fun x=> !x.1) && (backToKw cL (keywordEach [] X.env)).all (fun x=>x.1.isSome)
  && decide (([e,f]:List Expr).length+ ([]:List Keyword).length+ (if ([]:List Keyword).isEmpty then 0 else 1) <30))=true
 line:(apos.endLine==cL.line)=true
 trees:backTo cL (starEach [e,f] X.env)=[(false,eval e X.env),(false,eval f X.env)]
def Hx(H:Hp)(a:Addr):Prop:=(∃av,Rd H a (.dK av))∨ ∃av,Rd H a (.dT av)
theorem Sd{X:Cx}{pins:List (Addr×Obj)}{σ:St}{H:Hp}{s:Shared}{a:Addr}(I:Inv X pins σ H s)(d:Hx H a):
  s.TypeIs (.ref a) "dict"∧(∀b,Value.ref a= .ref b→ ∃ob,s.heap.get? b=some ob∧ob.dict=none)∧(a==sysModules)=false:=by
 rcases d with⟨av,e⟩ | ⟨av,e⟩
 ·obtain⟨_,hd,vs,_,dd⟩:=As I.aE e
  refine⟨dd.typeIs,fun b q=> ?_,hd⟩
  cases q
  obtain⟨ob,_,_,h1,h2,_⟩:=dd
  exact⟨ob,h1,h2.2.1⟩
 ·obtain⟨_,hd,xs,_,dd⟩:=Av I.aE e
  refine⟨dd.typeIs,fun b q=> ?_,hd⟩
  cases q
  obtain⟨ob,_,_,h1,h2,_⟩:=dd
  exact⟨ob,h1,h2.2.1⟩
section
variable {X:Cx} {pins:List (Addr×Obj)} {σ:St} {H:Hp} {s:Shared} {a:Addr} {y d:V} {u r:Value} {o:Option V} {A:Around} {E:Value→Shared→Prop}
theorem Se{Q:Value→Shared→Prop}(hu:A.units+1<cLine)(I:Inv X pins σ H s)(g:mY H a y o)(ry:RelV y u)(rd:RelV d r)(h: ∀w' s',Inv X pins σ H s'→RelV (o.getD d) w'→Q w' s'):
  wpAny (model X.prog X.w) A (call (.builtin "dict.get") [.ref a,u,r]) Q E s:=by
 rcases g with⟨av,k,e,ey,l⟩ | ⟨av,k,b,e,ey,eb,l⟩
 ·subst ey
  obtain⟨z,hd,vs,rel,dd⟩:=As I.aE e
  refine call_meetsIn PySem.F.slot_dict_get dd.typeIs PySem.F.entry_dict_get (PySem.F.args_dict_get_3 _ _ _) (meets_dict_get_default (dX X.prog X.w) a (Ar ry) hd r) ⟨_,dd.mapOf,h _ _ (I.tok _) ?_⟩
  rw[l]
  exact(rel.val k).getD rd
 ·subst ey
  cases (show u=Value.ref b from ry)
  obtain⟨z,hd,xs,rel,dd⟩:=Av I.aE e
  refine call_meetsIn PySem.F.slot_dict_get dd.typeIs PySem.F.entry_dict_get (PySem.F.args_dict_get_3 _ _ _) (meetsH_dict_get_default (tupleKind (dX X.prog X.w)) a b hd r) ⟨tupleKind_room_in1 hu,k,xs,Au I.aE eb,dd,h _ _ (I.tok _) ?_⟩
  rw[l]
  exact(rel.val k).getD rd
end
def Hy(td ty tx:TE):TE:=fun σ H Q=>td σ H fun x H1=> ∃a,x= .ref a∧Hx H1 a∧ty σ H1 fun y H2=>tx σ H2 fun z H3=> ∃o,mY H3 a y o∧Q (o.getD z) H3
section
variable {X:Cx} {o e f:Expr} {apos cL:Pos} {td ty tx:TE}
theorem Sf(hu:X.A.units+1<cLine)(ho:PE X o td)(he:PE X e ty)(hf:PE X f tx)(m:M2 X o "get" apos e f cL):PE X (.Call (.Attribute o "get" apos) [e,f] [] cL) (Hy td ty tx):=by
 intro pins s σ H Q I h
 refine wpAny_Call_method m.base m.Sb m.line PySem.F.plainAttrs_dict PySem.F.slot_dict_get PySem.F.type_dict_get (aK (ho pins s σ H _ I h) fun u s1 ⟨x,H1,I1,rx,a,ex,d,q1⟩=> ?_)
 subst ex
 obtain rfl:u=Value.ref a:=rx
 obtain⟨t1,t2,_⟩:=Sd I1 d
 refine⟨t1,t2, ?_⟩
 rw[m.trees]
 refine Calls.callWith_builtin rfl (Calls.evalArgs_plain (Calls.spliced_cons (aK (he pins s1 σ H1 _ I1 q1) fun iv s2 ⟨y,H2,I2,ry,q2⟩=>
  Calls.spliced_cons (aK (hf pins s2 σ H2 _ I2 q2) fun fv s3 ⟨z,H3,I3,rz,ov,g,q3⟩=>Calls.spliced_nil ?_))))
 exact Se hu I3 g ry rz fun w' s4 I4 kY=> ⟨_,H3,I4,kY,q3⟩
end
end L2
set_option maxHeartbeats 4000000
namespace L2
open PySem PySem.Spec PyProof.Rows
section
variable {X:Cx} {pins:List (Addr×Obj)} {σ:St} {H:Hp} {s:Shared} {a:Addr} {o:HO}
theorem Inv.Aw(I:Inv X pins σ H s)(hn:H a=none)(h0:X.s₀.heap.objs.size≤a)(hL:a≠X.env.locals)(hC: ∀x c,X.env.cells.lookup x=some c→c≠a)
  (hp: ∀p∈X.pn++pins,p.1≠a) (new:cm X.prog X.w (upd H a o) s.heap a o):Inv X pins σ (upd H a o) s:=by
 have Sg: ∀b u,X.s₀.heap.get? b=some u→b≠a:=fun b u e=>Nat.ne_of_lt (Nat.lt_of_lt_of_le (Heap.lt_size e) h0)
 have tG: ∀b u,H b=some u→b≠a:=fun b u e=>bD e hn
 refine⟨I.ok,I.os,I.bare,⟨I.base.keep,I.base.slot,fun b u e n hx=> ?_,I.base.there,fun b xs e=> ?_,fun b u xs e=> ?_,fun b ps e=> ?_⟩,I.loc,I.cell, ?_,fun x c e=> ?_,fun p q=> ?_,fun b u e=> ?_,I.len⟩
 ·rw[aG (Sg b u e)];exact I.base.free b u e n hx
 ·have z:=I.base.eR b xs e
  rw[aG (tG b _ z)];exact z
 ·have z:=I.base.eS b u xs e
  rw[aG (tG b _ z)];exact z
 ·obtain⟨m,z⟩:=I.base.fN b ps e
  exact⟨m,by rw[aG (tG b _ z)];exact z⟩
 ·rw[aG (Ne.symm hL)];exact I.free
 ·rw[aG (hC x c e)];exact I.gu x c e
 ·obtain⟨z1,z2,z3⟩:=I.pin p q
  exact⟨z1,by rw[aG (hp p q)];exact z2,z3⟩
 ·by_cases hb:b=a
  ·subst hb;rw[aw] at e;cases e;exact new
  ·rw[aG hb] at e
   exact(I.aE b u e).iE (fun _ _ _ q=>q) (fun c q=>by rw[aG (tG c _ q)];exact q) fun c xs q=>by rw[aG (tG c _ q)];exact q
end
def dA(cells:List (Str×Addr)):List (Str×NameKind)→List (Str×Addr)→List (Str×Addr)
 | [],acc=>acc
 | (n,k)::r,acc=>dA cells r (if k= .free then (n,(cells.lookup n).getD 0)::acc else acc)
theorem Hz(env:Env): ∀(names:List (Str×NameKind)) (acc:List (Str×Addr)),(∀y∈names,y.2= .free→ ∃c,env.cells.lookup y.1=some c)→
  (forIn names acc (fun(x:Str×NameKind) (cs:List (Str×Addr))=>match x with
   | (name,kind)=>if (kind==NameKind.free)=true then do let a ←cellOf env name;pure (ForInStep.yield ((name,a)::cs)) else pure (ForInStep.yield cs)):Sem (List (Str×Addr)))=pure (dA env.cells names acc)
 | [],acc,_=>rfl
 | (n,k)::r,acc,h=>by
  have hr:=fun Ax=>Hz env r Ax fun y hy=>h y (List.mem_cons_of_mem _ hy)
  rw[List.forIn_cons]
  by_cases hk:k= .free
  ·subst hk
   obtain⟨c,e⟩:=h (n, .free) List.mem_cons_self rfl
   have e':cellOf env n=pure c:=by unfold cellOf;rw[e]
   have ec:dA env.cells ((n, .free)::r) acc=dA env.cells r ((n,c)::acc):=by simp[dA,e]
   rw[ec,←hr]
   simp[e']
  ·have hb:(k==NameKind.free)=false:=by simpa using hk
   have ec:dA env.cells ((n,k)::r) acc=dA env.cells r acc:=by simp[dA,hk]
   rw[ec,←hr]
   simp[hb]
theorem Sh{scope:Scope}{env:Env}(h: ∀y∈scope.names,y.2= .free→ ∃c,env.cells.lookup y.1=some c):closureFor scope env=pure (dA env.cells scope.names []):=by
 have:=Hz env scope.names [] h
 simp only[closureFor]
 rw[←this]
 simp
theorem HL{cells:List (Str×Addr)}: ∀(names:List (Str×NameKind)) (acc:List (Str×Addr)) (x:Str) (c:Addr),(dA cells names acc).lookup x=some c→(acc.lookup x=some c)∨((x, .free)∈names∧(cells.lookup x).getD 0=c)
 | [],acc,x,c,h=> .inl h
 | (n,k)::r,acc,x,c,h=>by
  simp only[dA] at h
  rcases HL r _ x c h with z | ⟨z1,z2⟩
  ·by_cases hk:k= .free
   ·subst hk
    simp only[if_true] at z
    rw[List.lookup_cons] at z
    by_cases hx:x==n
    ·simp only[hx] at z
     have Si:x=n:=eq_of_beq hx
     subst Si
     exact .inr ⟨List.mem_cons_self,Option.some.inj z⟩
    ·have dr:(x==n)=false:=by simpa using hx
     simp only[dr] at z
     exact .inl z
   ·simp only[if_neg hk] at z
    exact .inl z
  ·exact .inr ⟨List.mem_cons_of_mem _ z1,z2⟩
theorem Ay{cells:List (Str×Addr)}: ∀(names:List (Str×NameKind)) (acc:List (Str×Addr)) (x:Str),((x,NameKind.free)∈names∨ ∃c,acc.lookup x=some c)→ ∃c,(dA cells names acc).lookup x=some c
 | [],acc,x,h=>by
  rcases h with h | h
  ·cases h
  ·exact h
 | (n,k)::r,acc,x,h=>by
  simp only[dA]
  refine Ay r _ x ?_
  rcases h with h | ⟨c,h⟩
  ·rcases List.mem_cons.mp h with e | h
   ·cases e
    refine .inr ?_
    simp[List.lookup_cons]
   ·exact .inl h
  ·refine .inr ?_
   by_cases hk:k= .free
   ·simp only[if_pos hk,List.lookup_cons]
    cases hx:x==n
    ·exact⟨c,h⟩
    ·exact⟨_,rfl⟩
   ·simp only[if_neg hk];exact⟨c,h⟩
theorem HM{env:Env}: ∀(names:List (Str×NameKind)) (x:Str),
  (names.map fun(n,k)=>if (k==NameKind.free && env.scope.kind== .function && env.kindOf n==some .cell) then (n,NameKind.cell) else (n,k)).lookup x=
   (names.lookup x).map fun k=>if (k==NameKind.free && env.scope.kind== .function && env.kindOf x==some .cell) then NameKind.cell else k
 | [],_=>rfl
 | (n,k)::r,x=>by
  have ih:=HM (env:=env) r x
  show List.lookup x ((if (k==NameKind.free && env.scope.kind== .function && env.kindOf n==some .cell)=true then (n,NameKind.cell) else (n,k))::_)=_
  cases hx:x==n with
  | true=>
   have e:x=n:=eq_of_beq hx
   subst e
   by_cases hc:(k==NameKind.free && env.scope.kind== .function && env.kindOf x==some .cell)=true
   ·rw[if_pos hc];simp only[List.lookup_cons,beq_self_eq_true,Option.map_some];rw[if_pos hc]
   ·rw[if_neg hc];simp only[List.lookup_cons,beq_self_eq_true,Option.map_some];rw[if_neg hc]
  | false=>
   by_cases hc:(k==NameKind.free && env.scope.kind== .function && env.kindOf n==some .cell)=true
   ·rw[if_pos hc];simp only[List.lookup_cons,hx];exact ih
   ·rw[if_neg hc];simp only[List.lookup_cons,hx];exact ih
section
variable {prog:Program} {w:World} {A:Around} {R:Result→Shared→Prop} {s:Shared}
theorem Sj{elt target iter:Expr}{ifs:List Expr}{scope:Scope}{pos:Pos}{it acc:Value}{env:Env}(I:Nat→Shared→Prop)
  (turn: ∀n s,I n s→wpAny (model prog w) A (pyNext it) (fun r s₁=>match r with
   | none=>R (.ok .next) s₁
   | some v=>wpAny (model prog w) A (letOwnedTupleGo target it v) (fun _ HN=>wpAny (model prog w) A (assign target env v) (fun _ s₂=>
     wpAny (model prog w) A (forIn ifs true fun c r=>if r=true then do let ok ←isTrue c env (eval c env);pure (ForInStep.yield ok) else pure (ForInStep.yield r)) (fun ok s₃=>
      if ok=true then wpAny (model prog w) A (eval elt env) (fun x s₄=>
       wpAny (model prog w) A (call (.builtin "list.append") [acc,x]) (fun _ s₅=> ∃m,m<n∧I m s₅) (fun _ _=>False) s₄) (fun _ _=>False) s₃
      else ∃m,m<n∧I m s₃) (fun _ _=>False) s₂) (fun _ _=>False) HN) (fun _ _=>False) s₁) (fun _ _=>False) s)
  (n:Nat) (h:I n s):codeAny (model prog w) A (.compLoop (.ListComp elt [⟨target,iter,ifs,0⟩] scope pos) 0 it acc env) R s:=by
 refine codeAny_loop rfl I (fun n s hI=> ?_) n h
 show wpAny _ A ((compTurn (.ListComp elt [⟨target,iter,ifs,0⟩] scope pos) 0 it acc env).onRaise (fun x=>do noteFrame x env;theTreesLotGoes x)) _ _ s
 refine wpAny_noted ?_
 rw[compTurn_list]
 refine wpAny_bind (wpAny_standAt (wpAny_bind (wpAny_mono (turn n s hI) (fun r s₁ h₁=> ?_) fun _ _ h'=>h'.elim)))
 cases r with
 | none=>exact wpAny_pure h₁
 | some v=>
  refine wpAny_bind (wpAny_mono h₁ (fun _ HN Sk=> ?_) fun _ _ h'=>h'.elim)
  refine wpAny_bind (wpAny_mono Sk (fun _ s₂ h₂=>wpAny_bind (wpAny_mono h₂ (fun ok s₃ h₃=> ?_) fun _ _ h'=>h'.elim)) fun _ _ h'=>h'.elim)
  cases ok with
  | false=>exact wpAny_pure ⟨rfl,h₃⟩
  | true=>
   exact wpAny_bind (wpAny_bind (wpAny_mono h₃ (fun x s₄ h₄=>wpAny_bind (wpAny_mono h₄ (fun _ s₅ h₅=>wpAny_pure (wpAny_pure ⟨rfl,h₅⟩)) fun _ _ h'=>h'.elim)) fun _ _ h'=>h'.elim))
end
def fV(X:Cx)(scope:Scope)(N:List Str)(ex:List Addr)(C:Addr)(s:Shared)(H:Hp):Cx where
 prog:=X.prog
 w:=X.w
 K:=X.K
 mg:=X.mg
 base:=X.base
 A:=X.A
 N:=N
 s₀:=s
 H₀:=H
 env:=compEnvC scope (dA X.env.cells scope.names []) C X.env
 outer:=X.stack
 stack:=X.stack
 ex:=ex
 fn:=fun _=>false
 calm:=X.calm
 pn:=[]
 xe:=fun _ _=>False
structure jT (X:Cx) (scope:Scope) (ln:List Str) (fv:List (Str×Nat)):Prop where
 kind:scope.kind= .function
 HP: ∀y∈scope.names,y.2≠ .cell
 locals: ∀y∈scope.names,y.2= .local→scope.names.lookup y.1=some .local
 free: ∀y∈scope.names,y.2= .free→(X.env.kindOf y.1=some .cell∨X.env.kindOf y.1=some .free)
 Sl: ∀p∈fv,X.N[p.2]?=some p.1∧scope.names.lookup p.1=some .free
def cf(σ:St)(fv:List (Str×Nat)):St:=fv.map fun p=> (σ[p.2]?).join
def jU(K:Frag):Option Nat→V→Hp→(List V→Prop)→Prop
 | none,x,_,Q=>Q [x]
 | some n,x,H,Q=> ∃a xs,x= .ref a∧aL K H a xs∧xs.length=n∧Q xs
def jV:Option TT→TT
 | none=>fun _ H k=>k true H
 | some t=>t
def oH(K:Frag)(wi:TI)(tk:Option Nat)(fv:List (Str×Nat))(tc:Option TT)(te:TE):TE:=fun σ H Q=>
 wi σ H fun J H1=> ∃W:Nat→Nat→List V→Hp→Prop,(∃m,W 0 m [] H1)∧ ∀i m ys H2,W i m ys H2→
  (J.stop i H2∧ ∀p,H2 p=none→Q (.ref p) (upd H2 p (.lst ys)))∨
  (J.go i H2∧ ∀x H3,J.fo i H2 x H3→jU K tk x H3 fun xs=>
   jV tc (xs.map some++cf σ fv) H3 fun b H5=>
    if b=true then te (xs.map some++cf σ fv) H5 fun y H6=>ys.length<sizeLine∧ ∃m',m'<m∧W (i+1) m' (ys++ [y]) H6
    else ∃m',m'<m∧W (i+1) m' ys H5)
section
variable {X:Cx} {pins:List (Addr×Obj)} {σ:St} {H:Hp} {s₂ s₃:Shared} {scope:Scope} {ln:List Str} {fv:List (Str×Nat)} {fp:List Addr} {h₁:Heap} {D C:Addr} {m:Str→Option Value} {t:Nat}
theorem jT.cells(S:jT X scope ln fv)(I:Inv X pins σ H s₂){x:Str}{c:Addr}(h:(dA X.env.cells scope.names []).lookup x=some c):X.env.cells.lookup x=some c∧(x,NameKind.free)∈scope.names:=by
 rcases HL _ _ _ _ h with z | ⟨z1,z2⟩
 ·cases z
 ·obtain⟨c',e⟩:=I.ok.has x (S.free _ z1 rfl)
  rw[e] at z2
  have z3:c'=c:=z2
  subst z3
  exact⟨e,z1⟩
theorem jT.HQ(S:jT X scope ln fv)(I:Inv X pins σ H s₂):closureFor scope X.env=pure (dA X.env.cells scope.names []):=
 Sh fun y hy hk=>I.ok.has y.1 (S.free y hy hk)
theorem Sm(S:jT X scope ln fv)(I:Inv X pins σ H s₂)(f2: ∀b∈fp,iJ X pins H b)(lA: ∀b∈fp,∃o,s₂.heap.get? b=some o)
  (os:s₃.os=s₂.os) (gens:s₃.gens=s₂.gens) (k3: ∀b o,s₂.heap.get? b=some o→s₃.heap.get? b=some o) (hD:D=s₂.heap.objs.size) (h3:s₃.heap.objs.size=s₂.heap.objs.size+1) (hC:C=s₃.heap.objs.size)
  (k4: ∀b o,s₃.heap.get? b=some o→h₁.get? b=some o) (wR:h₁.Ns C m):
  Inv (fV X scope (ln++fv.map (·.1)) (D::fp) C s₃ H) [] (ln.map (fun _=>none)++cf σ fv) H {s₃ with heap:=h₁,toks:=t}:=by
 have cl: ∀{x c},(dA X.env.cells scope.names []).lookup x=some c→X.env.cells.lookup x=some c:=fun h=> (S.cells I h).1
 have Sn: ∀{x c},(dA X.env.cells scope.names []).lookup x=some c→c<s₂.heap.objs.size:=fun h=>by
  obtain⟨v,q⟩:=I.cell _ _ (cl h)
  exact q.lt
 have So: ∀b∈fp,b<s₂.heap.objs.size:=fun b hb=>by obtain⟨o,e⟩:=lA b hb;exact Heap.lt_size e
 have Sq: ∀b∈D::fp,b≤s₂.heap.objs.size:=fun b hb=>by
  rcases List.mem_cons.mp hb with e | hb
  ·rw[e,hD];exact Nat.le_refl _
  ·exact Nat.le_of_lt (So b hb)
 have HR: ∀x,(relabel scope X.env).names.lookup x=(scope.names.lookup x).map fun k=>if (k==NameKind.free && X.env.scope.kind== .function && X.env.kindOf x==some .cell) then NameKind.cell else k:=fun x=>HM scope.names x
 have Ss: ∀x,scope.names.lookup x=some .free→((relabel scope X.env).names.lookup x=some .cell∨(relabel scope X.env).names.lookup x=some .free):=fun x e=>by
  rw[HR,e]
  simp only[Option.map_some]
  split
  ·exact .inl rfl
  ·exact .inr rfl
 have Su: ∀x,((relabel scope X.env).names.lookup x=some .cell∨(relabel scope X.env).names.lookup x=some .free)→(x,NameKind.free)∈scope.names:=fun x e=>by
  rw[HR] at e
  cases q:scope.names.lookup x with
  | none=>rw[q] at e;rcases e with e | e<;>cases e
  | some k=>
   rw[q] at e
   have hm:(x,k)∈scope.names:=PySem.mem_of_lookup q
   simp only[Option.map_some] at e
   by_cases hk:k= .free
   ·rw[hk] at hm;exact hm
   ·have hb:(k==NameKind.free)=false:=by simpa using hk
    simp only[hb,Bool.false_and,Bool.false_eq_true,if_false] at e
    rcases e with e | e
    ·exact absurd (Option.some.inj e) (S.HP _ hm)
    ·exact absurd (Option.some.inj e) hk
 refine⟨⟨I.ok.mod,S.kind,I.ok.glob,I.ok.blt,Nat.le_of_eq hC.symm,fun x y c h1 h2=>I.ok.inj x y c (cl h1) (cl h2),fun x hx=>Ay _ _ x (.inl (Su x hx)),fun x c h _=> (by cases h),I.ok.hd,I.ok.frames, .inl rfl,fun b hb=> ⟨?_,fun x c e=> ?_⟩,fun b o e=> ⟨k3 b o (I.bs b o e).1,(I.bs b o e).2⟩, ?_,fun b o e hb=> ?_,fun b hb hf=> ?_, ?_,I.wo⟩,
  rfl, ?_,Un.kept fun b u e=>k4 b u e,⟨m,wR,fun i x v e1 e2 e3=> ?_⟩,fun x c e=> ?_,I.aE.fresh ?_,fun x c e=>I.gu x c (cl e),fun p hp=>absurd (show p∈ ([]:List (Addr×Obj)) from hp) (by simp),I.aE.kept fun b u e=>k4 b u (k3 b u e), ?_⟩
 ·show b≠C
  have:=Sq b hb
  rw[hC,h3];exact Nat.ne_of_lt (Nat.lt_succ_of_le this)
 ·have q1:=Sn e
  rcases List.mem_cons.mp hb with z | z
  ·rw[z,hD];exact Nat.ne_of_lt q1
  ·exact(f2 b z).2.2.2.2.1 x c (cl e)
 ·show X.base.objs.size≤s₃.heap.objs.size
  have:=Nat.le_trans I.ok.mM I.sz
  omega
 ·have e2:=(I.bs b o e).1
  have mZ:b∈D::fp:=hb
  rcases List.mem_cons.mp mZ with z | z
  ·have:=Heap.lt_size e2
   rw[z,hD] at this;exact Nat.lt_irrefl _ this
  ·rcases (f2 b z).2.2.2.1 with q | q
   ·exact I.ok.wj b o e q
   ·exact absurd (Nat.lt_of_lt_of_le (Heap.lt_size (I.ok.bs b o e).1) q) (Nat.lt_irrefl _)
 ·have HS:b∈br X.stack:=hf
  have mZ:b∈D::fp:=hb
  rcases List.mem_cons.mp mZ with z | z
  ·rcases List.mem_cons.mp (I.wm b HS) with q | q
   ·have:=I.lt
    rw[←q,z,hD] at this;exact Nat.lt_irrefl _ this
   ·exact I.FL (by rw[z,hD];exact Nat.le_refl _) q
  ·rcases List.mem_cons.mp (I.wm b HS) with q | q
   ·exact(f2 b z).2.1 q
   ·exact(f2 b z).2.2.1 q
 ·exact PySem.Heap.FunFrames.of_keeps (fun b o e _=> ⟨o,k3 b o e,rfl⟩) I.stack
 ·show AllBare s₃.gens
  rw[gens];exact I.bare
 ·have hi:ln.length≤i:=by
   by_cases hi:i<ln.length
   ·exfalso
    rw[List.getElem?_append_left (by simpa using hi),List.getElem?_map] at e2
    cases q:ln[i]? with
    | none=>rw[q] at e2;cases e2
    | some y=>rw[q] at e2;cases e2
   ·omega
  have oJ:(ln++fv.map (·.1))[i]?=some x:=e1
  rw[List.getElem?_append_right hi,List.getElem?_map] at oJ
  rw[List.getElem?_append_right (by simpa using hi),List.length_map] at e2
  unfold cf at e2
  rw[List.getElem?_map] at e2
  cases q:fv[i - ln.length]? with
  | none=>rw[q] at oJ;cases oJ
  | some p=>
   rw[q] at oJ e2
   have ex:p.1=x:=Option.some.inj oJ
   have ev:(σ[p.2]?).join=some v:=Option.some.inj e2
   obtain⟨g1,g2⟩:=S.Sl p (List.mem_of_getElem? q)
   rw[ex] at g1 g2
   have Sv:σ[p.2]?=some (some v):=by
    cases z:σ[p.2]? with
    | none=>rw[z] at ev;cases ev
    | some o=>rw[z] at ev;rw[show o=some v from ev]
   have hk:=S.free _ (PySem.mem_of_lookup g2) rfl
   obtain⟨m2,mR,hl⟩:=I.loc
   obtain⟨u,r,l⟩:=hl p.2 x v g1 Sv (by rcases hk with k | k;exact .inr (.inl k);exact .inr (.inr k))
   refine⟨u,r, .inr ?_⟩
   rcases l with⟨k,_⟩ | ⟨_,c,ec,z⟩
   ·rcases hk with k' | k'<;> (rw[k] at k';cases k')
   ·refine⟨Ss x g2,c, ?_, ?_⟩
    ·obtain⟨c',e'⟩:=Ay (cells:=X.env.cells) scope.names [] x (.inl (PySem.mem_of_lookup g2))
     have:=cl e'
     rw[ec] at this;cases this
     exact e'
    ·obtain⟨o,ho,hd⟩:=z
     exact⟨o,k4 c o (k3 c o ho),hd⟩
 ·obtain⟨v,o,ho,hd⟩:=I.cell x c (cl e)
  exact⟨v,o,k4 c o (k3 c o ho),hd⟩
 ·show s₂.heap.objs.size≤C
  rw[hC,h3];exact Nat.le_succ _
 ·show(ln.map (fun _=>none)++cf σ fv).length=(ln++fv.map (·.1)).length
  simp[cf]
end
structure Az (Φ:Cx→Prop) (P:Program) (w:World) (K:Frag) (tg:Expr) (J:It) (fp:List Addr) (it:Addr) (tn:Nat→Heap→Prop):Prop where
 mem:it∈fp
 obj: ∀i h,tn i h→ ∀b∈fp,∃o,h.get? b=some o∧ ∀v,o.data≠ .cell v
 keep: ∀i h h',tn i h→(∀b∈fp,∀o,h.get? b=some o→h'.get? b=some o)→tn i h'
 item: ∀(X:Cx),X.prog=P→X.w=w→X.K=K→Φ X→ ∀(i:Nat) (pins:List (Addr×Obj)) (s:Shared) (σ:St) (H:Hp) (E:Value→Shared→Prop),Inv X pins σ H s→(∀b∈fp,iJ X pins H b)→tn i s.heap→J.go i H→
  wpAny (model P w) X.A (pyNext (.ref it)) (fun r s1=> ∃u,r=some u∧
   wpAny (model P w) X.A (letOwnedTupleGo tg (.ref it) u) (fun _ s2=> ∃x H',Inv X pins σ H' s2∧RelV x u∧J.fo i H x H'∧tn (i+1) s2.heap∧ ∀b∈fp,H' b=none) E s1) E s
 done: ∀(X:Cx),X.prog=P→X.w=w→X.K=K→Φ X→ ∀(i:Nat) (pins:List (Addr×Obj)) (s:Shared) (σ:St) (H:Hp) (E:Value→Shared→Prop),Inv X pins σ H s→(∀b∈fp,iJ X pins H b)→tn i s.heap→J.stop i H→
  wpAny (model P w) X.A (pyNext (.ref it)) (fun r s1=>r=none∧Inv X pins σ H s1) E s
 self: ∀(A:Around) (i:Nat) (s:Shared) (Q:Value→Shared→Prop) (E:Value→Shared→Prop),tn i s.heap→Q (.ref it) s→wpAny (model P w) A (pyIter (.ref it)) Q E s
def wX(Φ:Cx→Prop)(X:Cx)(tg iter:Expr)(wi:TI):Prop:=
 ∀(pins:List (Addr×Obj)) (s:Shared) (σ:St) (H:Hp) (R:It→Hp→Prop),Inv X pins σ H s→wi σ H R→
  wpAny (model X.prog X.w) X.A (eval iter X.env) (fun v s1=>wpAny (model X.prog X.w) X.A (pyIter v) (fun ow s2=>
   ∃(it:Addr) (fp:List Addr) (tn:Nat→Heap→Prop) (J:It) (H':Hp),ow= .ref it∧Inv X pins σ H' s2∧Az Φ X.prog X.w X.K tg J fp it tn∧tn 0 s2.heap∧(∀b∈fp,iJ X pins H' b)∧R J H') X.xe s1) X.xe s
abbrev Calm(X:Cx):Prop:=X.calm=true
theorem PI.p{X:Cx}{tg iter:Expr}{wi:TI}(h:PI X tg iter wi):wX Calm X tg iter wi:=fun pins s σ H R I q=>
 aK (h pins s σ H R I q) fun v s1 h1=>aK h1 fun ow s2 ⟨it,fp,tn,J,H',e,I',T,st,f,r⟩=> ⟨it,fp,tn,J,H',e,I',⟨T.mem,T.obj,T.keep,T.item,T.done,T.self⟩,st,f,r⟩
section
variable {X:Cx} {pins:List (Addr×Obj)} {σ:St} {H:Hp} {s₂:Shared} {scope:Scope} {ln:List Str} {fv:List (Str×Nat)} {elt tg iter:Expr} {ifs:List Expr} {pos:Pos}
 {J:It} {fp:List Addr} {it:Addr} {tn:Nat→Heap→Prop} {tk:Option Nat} {tc:Option TT} {te:TE} {Qv:VK} {RR:Value→Addr→Result→Shared→Prop} {E:Value→Shared→Prop}
def wY(Ψ:Hp→Prop)(X:Cx)(scope:Scope)(ln:List Str)(fv:List (Str×Nat))(tg:Expr)(tk:Option Nat):Prop:=
 ∀(ex:List Addr) (C:Addr) (s:Shared) (H:Hp),Ψ H→ ∃g,PG (fV X scope (ln++fv.map (·.1)) ex C s H) tg g∧
  ∀(x:V) (pre φ:St) (H':Hp) (Q:St→Hp→Prop),pre.length=ln.length→jU X.K tk x H' (fun xs=>xs.length=ln.length→Q (xs.map some++φ) H')→g x (pre++φ) H' Q
def tH(X:Cx)(scope:Scope)(ln:List Str)(fv:List (Str×Nat))(tg:Expr)(tk:Option Nat):Prop:=
 ∀(ex:List Addr) (C:Addr) (s:Shared) (H:Hp),∃g,PG (fV X scope (ln++fv.map (·.1)) ex C s H) tg g∧
  ∀(x:V) (pre φ:St) (H':Hp) (Q:St→Hp→Prop),pre.length=ln.length→jU X.K tk x H' (fun xs=>xs.length=ln.length→Q (xs.map some++φ) H')→g x (pre++φ) H' Q
def wZ(X:Cx)(scope:Scope)(N:List Str)(ifs:List Expr)(tc:Option TT):Prop:=
 match tc with
 | none=>ifs=[]
 | some t=> ∃c,ifs=[c]∧ ∀(ex:List Addr) (C:Addr) (s:Shared) (H:Hp),PT (fV X scope N ex C s H) c t
theorem HU{Φ:Cx→Prop}{Ψ:Hp→Prop}(S:jT X scope ln fv)(hc: ∀Xc:Cx,Xc.A=X.A→Xc.calm=X.calm→Xc.H₀=H→Φ Xc)(hΨ:Ψ H)(hg:wY Ψ X scope ln fv tg tk)(ht:wZ X scope (ln++fv.map (·.1)) ifs tc)
  (he: ∀(ex:List Addr) (C:Addr) (s:Shared) (H:Hp),PE (fV X scope (ln++fv.map (·.1)) ex C s H) elt te)
  (I:Inv X pins σ H s₂) (T:Az Φ X.prog X.w X.K tg J fp it tn) (st:tn 0 s₂.heap) (f2: ∀b∈fp,iJ X pins H b)
  (h: ∃W:Nat→Nat→List V→Hp→Prop,(∃m,W 0 m [] H)∧ ∀i m ys H2,W i m ys H2→
   (J.stop i H2∧ ∀p,H2 p=none→Qv (.ref p) (upd H2 p (.lst ys)))∨
   (J.go i H2∧ ∀x H3,J.fo i H2 x H3→jU X.K tk x H3 fun xs=>
    jV tc (xs.map some++cf σ fv) H3 fun b H5=>
     if b=true then te (xs.map some++cf σ fv) H5 fun y H6=>ys.length<sizeLine∧ ∃m',m'<m∧W (i+1) m' (ys++ [y]) H6
     else ∃m',m'<m∧W (i+1) m' ys H5))
  (Sw: ∀D C H' s' m,Inv X pins σ H' s'→s'.heap.Ns C m→H' C=none→C≠X.env.locals→X.s₀.heap.objs.size≤C→(∀x c,X.env.cells.lookup x=some c→c≠C)→(∀p∈X.pn++pins,p.1≠C)→Qv (.ref D) H'→RR (.ref D) C (.ok .next) s'):
  wpAny (model X.prog X.w) X.A (newList []) (fun acc s₃=>wpAny (model X.prog X.w) X.A (newFunctionEnv scope X.env.globals (dA X.env.cells scope.names []) [] X.env.qual none .none (some X.env)) (fun HV s₄=>
   codeAny (model X.prog X.w) X.A (.compStart (.ListComp elt [⟨tg,iter,ifs,0⟩] scope pos) 0 (.ref it) acc {HV with scope:=relabel scope X.env}) (RR acc HV.locals) s₄) E s₃) E s₂:=by
 obtain⟨W,⟨m0,w0⟩,turn⟩:=h
 refine wpAny_newObj_type (wpAny_newFunctionEnv S.HP (by intro y hy;simp at hy) (fun h₁ w4 w5=> ?_) S.kind)
 dsimp only at w4 w5⊢
 generalize w6:({s₂ with heap:=s₂.heap.push {cls:= .type "list",dict:=none,data:= .seq ([]:List Value).toArray}}:Shared)=s₃
 have tI:s₂.heap.push {cls:= .type "list",dict:=none,data:= .seq ([]:List Value).toArray}=s₃.heap:=by rw[←w6]
 rw[tI] at w4 w5⊢
 have HW:s₃.os=s₂.os:=by rw[←w6]
 have Sx:s₃.gens=s₂.gens:=by rw[←w6]
 have oK:s₃.heap.objs.size=s₂.heap.objs.size+1:=by rw[←tI,Heap.size_push]
 have k3: ∀b o,s₂.heap.get? b=some o→s₃.heap.get? b=some o:=fun b o e=>by rw[←tI];exact Heap.get?_push_of_some _ e
 have k4: ∀b o,s₃.heap.get? b=some o→h₁.get? b=some o:=fun b o e=>w5.extBut b o (Nat.ne_of_lt (Heap.lt_size e)) (Heap.get?_push_of_some _ e)
 have gD:s₃.heap.get? s₂.heap.objs.size=some {cls:= .type "list",dict:=none,data:= .seq ([]:List Value).toArray}:=by rw[←tI];exact Heap.get?_push_size _ rfl
 generalize eD:s₂.heap.objs.size=D at gD
 generalize eC:s₃.heap.objs.size=C at w4 w5⊢
 have w9:D≠C:=by rw[←eD,←eC,oK];exact Nat.ne_of_lt (Nat.lt_succ_self _)
 have lA: ∀b∈fp,∃o,s₂.heap.get? b=some o:=fun b hb=>by obtain⟨o,e,_⟩:=T.obj 0 _ st b hb;exact⟨o,e⟩
 have HX: ∀b∈fp,b≠D:=fun b hb=>by obtain⟨o,e⟩:=lA b hb;rw[←eD];exact Nat.ne_of_lt (Heap.lt_size e)
 have Sy: ∀b∈fp,b≠C:=fun b hb=>by
  obtain⟨o,e⟩:=lA b hb
  have:=Heap.lt_size e
  rw[←eC,oK];exact Nat.ne_of_lt (Nat.lt_succ_of_lt this)
 generalize eX:fV X scope (ln++fv.map (·.1)) (D::fp) C s₃ H=Xc
 have I4: ∀t,Inv Xc [] (ln.map (fun _=>none)++cf σ fv) H {s₃ with heap:=h₁,toks:=t}:=fun t=>by
  rw[←eX]
  exact Sm S I f2 lA HW Sx k3 eD.symm oK eC.symm k4 w4
 have xL:Xc.env.locals=C:=by rw[←eX];rfl
 have w_:Xc.ex=D::fp:=by rw[←eX];rfl
 have Sz:Xc.fs=br X.stack:=by rw[←eX];rfl
 have xP:Xc.prog=X.prog:=by rw[←eX];rfl
 have xw:Xc.w=X.w:=by rw[←eX];rfl
 have xK:Xc.K=X.K:=by rw[←eX];rfl
 have xA:Xc.A=X.A:=by rw[←eX];rfl
 have xc:Φ Xc:=hc Xc xA (by rw[←eX];rfl) (by rw[←eX];rfl)
 have HY:Xc.pn=[]:=by rw[←eX];rfl
 have AA:Xc.xe=fun _ _=>False:=by rw[←eX];rfl
 have HZ:Xc.env.cells=dA X.env.cells scope.names []:=by rw[←eX];rfl
 have AB:Xc.env=compEnvC scope (dA X.env.cells scope.names []) C X.env:=by rw[←eX];rfl
 have cD: ∀x c,Xc.env.cells.lookup x=some c→c≠D:=fun x c e=>by
  rw[HZ] at e
  obtain⟨v,q⟩:=I.cell x c (S.cells I e).1
  rw[←eD];exact Nat.ne_of_lt q.lt
 have cF: ∀x c,Xc.env.cells.lookup x=some c→ ∀b∈fp,c≠b:=fun x c e b hb=>by
  rw[HZ] at e
  exact(f2 b hb).2.2.2.2.1 x c (S.cells I e).1
 have sF: ∀b∈D::fp,b∉Xc.fs:=fun b hb hf=>by
  have:=(I4 0).ok.wk b (by rw[w_];exact hb)
  exact this hf
 have oz: ∀{H':Hp} {oD:Obj},(∀b∈fp,H' b=none)→ ∀b∈fp,iJ Xc [(D,oD)] H' b:=fun hn b hb=>
  ⟨hn b hb,by rw[xL];exact Sy b hb,sF b (List.mem_cons_of_mem _ hb), .inl (by rw[w_];exact List.mem_cons_of_mem _ hb),fun x c e=>cF x c e b hb,fun p hp=>by
   rw[HY] at hp
   rcases List.mem_singleton.mp (show p∈ [(D,_)] from hp) with rfl
   exact(HX b hb).symm⟩
 have loop: ∀s₄:Shared,s₄={s₃ with heap:=h₁,toks:=s₃.toks+ ([]:List (Str×Value)).length}→
   codeAny (model X.prog X.w) X.A (.compLoop (.ListComp elt [⟨tg,iter,ifs,0⟩] scope pos) 0 (.ref it) (.ref D) (compEnvC scope (dA X.env.cells scope.names []) C X.env)) (RR (.ref D) C) s₄:=by
  rintro s₄ rfl
  refine Sj (fun n s'=> ∃i pre ys its nn H',Inv Xc [(D,{cls:= .type "list",data:= .seq (List.toArray its) nn})] (pre++cf σ fv) H' s'∧pre.length=ln.length∧tn i s'.heap∧(∀b∈fp,H' b=none)∧Vals ys its∧ys.length≤sizeLine∧W i n ys H') ?_ m0
   ⟨0,ln.map (fun _=>none),[],[],0,H,(I4 _).qd (fun p hp=> ?_),by simp,T.keep 0 _ _ st (fun b _ o e=>k4 b o (k3 b o e)),fun b hb=> (f2 b hb).1, .nil,Nat.zero_le _,w0⟩
  rotate_left
  ·have AD:=List.mem_singleton.mp hp
   subst AD
   refine⟨k4 _ _ gD,I.aE.fresh (Nat.le_of_eq eD),by rw[xL];exact w9,sF D List.mem_cons_self,fun v z=>by cases z⟩
  rintro n s' ⟨i,pre,ys,its,nn,H',I',k_,eU,H_,hv,hz,w'⟩
  have am4:=I'.pin (D,_) (List.mem_append_right _ List.mem_cons_self)
  rcases turn i n ys H' w' with⟨stop,qn⟩ | ⟨go,step⟩
  ·have td:=T.done Xc xP xw xK xc i _ s' _ H' (fun _ _=>False) I' (oz H_) eU stop
   rw[xA] at td
   refine aK td fun r s1 ⟨hr,I1⟩=> ?_
   subst hr
   have AE:=I1.pin (D,_) (List.mem_append_right _ List.mem_cons_self)
   have b1:=I1.base
   rw[Sz,w_] at b1
   have Ia:Xc.s₀=s₃:=by rw[←eX];rfl
   have SA:Xc.H₀=H:=by rw[←eX];rfl
   rw[Ia,SA] at b1
   have nD: ∀b o,s₂.heap.get? b=some o→b∉fp→b∉D::fp:=fun b o e hb hm=>by
    rcases List.mem_cons.mp hm with z | z
    ·have:=Heap.lt_size e
     rw[z,eD] at this;exact Nat.lt_irrefl _ this
    ·exact hb z
   have un:Un (br X.stack) fp H H' s₂.heap s1.heap:=⟨fun b o e nb hb hx=>b1.keep b o (k3 b o e) nb hb (nD b o e hx),fun b o e nb hb hx=>b1.slot b o (k3 b o e) nb hb (nD b o e hx),fun b o e nb hx=>b1.free b o (k3 b o e) nb (nD b o e hx),
    fun b o e hx=>b1.there b o (k3 b o e) (nD b o e hx),b1.eR,b1.eS,b1.fN⟩
   have SD:s1.os=s₂.os:=by rw[I1.os,Ia,HW]
   have qh:=I1.aE
   rw[xP,xw] at qh
   have J1:Inv X pins σ H' s1:=I.zK SD un qh I1.bare fun b hb=> ⟨(f2 b hb).2.2.2.1,(f2 b hb).2.1,(f2 b hb).2.2.2.2.1,(f2 b hb).2.2.2.2.2⟩
   have SE: ∀x c,X.env.cells.lookup x=some c→c≠D:=fun x c e=>by
    obtain⟨v,q⟩:=I.cell x c e
    rw[←eD];exact Nat.ne_of_lt q.lt
   have SF: ∀x c,X.env.cells.lookup x=some c→c≠C:=fun x c e=>by
    obtain⟨v,q⟩:=I.cell x c e
    rw[←eC,oK];exact Nat.ne_of_lt (Nat.lt_succ_of_lt q.lt)
   have pD: ∀p∈X.pn++pins,p.1≠D:=fun p hp=>by rw[←eD];exact Nat.ne_of_lt (Heap.lt_size (I.pin p hp).1)
   have pC: ∀p∈X.pn++pins,p.1≠C:=fun p hp=>by
    rw[←eC,oK];exact Nat.ne_of_lt (Nat.lt_succ_of_lt (Heap.lt_size (I.pin p hp).1))
   have lD:D≠X.env.locals:=by rw[←eD];exact Nat.ne_of_gt I.lt
   have lC:C≠X.env.locals:=by
    rw[←eC,oK];exact Nat.ne_of_gt (Nat.lt_succ_of_lt I.lt)
   have J2:Inv X pins σ (upd H' D (.lst ys)) s1:=Inv.Aw J1 AE.2.1 (by rw[←eD];exact I.sz) lD SE pD ⟨hz,its,nn,hv,AE.1⟩
   obtain⟨mC,Ib,_⟩:=I1.loc
   rw[xL] at Ib
   have fC:H' C=none:=by have:=I1.free;rw[xL] at this;exact this
   exact Sw D C _ s1 mC J2 Ib (by rw[aG (Ne.symm w9)];exact fC) lC (by rw[←eC,oK];exact Nat.le_succ_of_le I.sz) SF pC (qn D AE.2.1)
  ·have ti:=T.item Xc xP xw xK xc i _ s' _ H' (fun _ _=>False) I' (oz H_) eU go
   rw[xA] at ti
   refine aK ti fun r s4 ⟨u,hr,h4⟩=> ?_
   subst hr
   refine aK h4 fun _ s5 ⟨x,H5,I5,r5,y5,oA,zR⟩=> ?_
   have sU:=I5.pinned (oz zR) (T.obj _ _ oA)
   obtain⟨g,pg,gq⟩:=hg (D::fp) C s₃ H hΨ
   rw[eX] at pg
   have rd:=step x H5 y5
   have Ic:=pg _ s5 _ H5 x u (fun σ6 H6=> ∃xs:List V,σ6=xs.map some++cf σ fv∧xs.length=ln.length∧H6=H5∧
     jV tc (xs.map some++cf σ fv) H5 fun b H5=>
     if b=true then te (xs.map some++cf σ fv) H5 fun y H6=>ys.length<sizeLine∧ ∃m',m'<n∧W (i+1) m' (ys++ [y]) H6
     else ∃m',m'<n∧W (i+1) m' ys H5) sU r5 (gq x pre (cf σ fv) H5 _ k_ (by
      cases tk with
      | none=>exact fun hl=> ⟨_,rfl,hl,rfl,rd⟩
      | some k=>
       obtain⟨a,xs,e1,e2,e3,rd⟩:=rd
       exact⟨a,xs,e1,e2,e3,fun hl=> ⟨xs,rfl,hl,rfl,rd⟩⟩))
   rw[xA,xP,xw,AA,AB] at Ic
   refine aK Ic fun _ s6 ⟨σ6,H6,I6,xs,e6,tJ,eH,Ie⟩=> ?_
   subst e6 eH
   have Ig: ∀{H7:Hp} {σ7:St} {s7:Shared},Inv Xc ([(D,{cls:= .type "list",data:= .seq (List.toArray its) nn})]++qf fp s5.heap) σ7 H7 s7→tn (i+1) s7.heap∧(∀b∈fp,H7 b=none)∧s7.heap.get? D=some {cls:= .type "list",data:= .seq (List.toArray its) nn}∧H7 D=none:=fun {H7 σ7 s7} I7=>by
    refine⟨T.keep _ _ _ oA fun b hb o e=> (I7.pin (b,o) (List.mem_append_right _ (List.mem_append_right _ (wA hb e)))).1,fun b hb=> ?_, ?_, ?_⟩
    ·obtain⟨o,e,d⟩:=T.obj _ _ oA b hb
     exact(I7.pin (b,o) (List.mem_append_right _ (List.mem_append_right _ (wA hb e)))).2.1
    ·exact(I7.pin (D,_) (List.mem_append_right _ (List.mem_append_left _ List.mem_cons_self))).1
    ·exact(I7.pin (D,_) (List.mem_append_right _ (List.mem_append_left _ List.mem_cons_self))).2.1
   have tests:wpAny (model X.prog X.w) X.A (forIn ifs true fun c r=>if r=true then do let ok ←isTrue c (compEnvC scope (dA X.env.cells scope.names []) C X.env) (eval c (compEnvC scope (dA X.env.cells scope.names []) C X.env));pure (ForInStep.yield ok) else pure (ForInStep.yield r))
     (fun ok s7=> ∃H7,Inv Xc ([(D,{cls:= .type "list",data:= .seq (List.toArray its) nn})]++qf fp s5.heap) (xs.map some++cf σ fv) H7 s7∧
      if ok=true then te (xs.map some++cf σ fv) H7 fun y H6=>ys.length<sizeLine∧ ∃m',m'<n∧W (i+1) m' (ys++ [y]) H6
      else ∃m',m'<n∧W (i+1) m' ys H7) (fun _ _=>False) s6:=by
    cases tc with
    | none=>
     have AF:ifs=[]:=ht
     subst AF
     exact wpAny_tests_nil ⟨_,I6,Ie⟩
    | some t=>
     obtain⟨c,AF,pt⟩:=(show ∃c,ifs=[c]∧ ∀(ex:List Addr) (C:Addr) (s:Shared) (H:Hp),PT (fV X scope (ln++fv.map (·.1)) ex C s H) c t from ht)
     subst AF
     have Ih:=pt (D::fp) C s₃ H
     rw[eX] at Ih
     have q:=Ih _ s6 _ _ _ I6 Ie
     rw[xA,xP,xw,AA,AB] at q
     exact wpAny_tests_one (aK q fun b s7 ⟨H7,I7,q7⟩=> ⟨H7,I7,q7⟩)
   refine aK tests fun ok s7 ⟨H7,I7,q7⟩=> ?_
   cases ok with
   | false=>
    simp only[Bool.false_eq_true,if_false] at q7⊢
    obtain⟨m',hm,w7⟩:=q7
    obtain⟨t7,f7,d7,n7⟩:=Ig I7
    refine⟨m',hm,i+1,xs.map some,ys,its,nn,H7,I7.qd (fun p hp=> ?_),by simpa using tJ,t7,f7,hv,hz,w7⟩
    exact I7.pin p (List.mem_append_right _ (List.mem_append_left _ hp))
   | true=>
    simp only[if_true] at q7⊢
    have q:=he (D::fp) C s₃ H
    rw[eX] at q
    have q:=q _ s7 _ H7 _ I7 q7
    rw[xA,xP,xw,AA,AB] at q
    refine aK q fun uy s8 ⟨y,H8,I8,r8,aQ,m',hm,w8⟩=> ?_
    obtain⟨t8,f8,d8,n8⟩:=Ig I8
    have hl:=hv.length
    refine call_meets F.slot_list_append ⟨_,d8,rfl⟩ F.entry_list_append (F.args_list_append_2 _ _) (PySem.list_append D its.toArray nn uy (by rw[List.size_toArray];omega)) ⟨d8, ?_⟩
    have I9: ∀t,Inv Xc [] (xs.map some++cf σ fv) H8 {s8 with heap:=s8.heap.update D (Obj.mapSeq (·.push uy)),toks:=t}:=fun t=>
     (I8.qd (iI:=[]) (fun p hp=>absurd hp (by simp))).turned (it:=D) (t':=t) (fun b o hb e=> (Heap.get?_update_other s8.heap (Obj.mapSeq (·.push uy)) (Ne.symm hb)).trans e) n8 (by rw[xL];exact w9) (.inl (by rw[w_];exact List.mem_cons_self)) cD
      (fun p hp=>by rw[HY] at hp;exact absurd hp (by simp))
    have g9:=PySem.IsL.update d8 (·.push uy)
    obtain⟨n9,SH⟩: ∃n9,(s8.heap.update D (Obj.mapSeq (·.push uy))).get? D=some {cls:= .type "list",data:= .seq (its++ [uy]).toArray n9}:=
     ⟨_,by rw[show(its++ [uy]).toArray=its.toArray.push uy by simp];exact g9⟩
    refine⟨m',hm,i+1,xs.map some,ys++ [y],its++ [uy],n9,H8,(I9 _).qd (fun p hp=> ?_),by simpa using tJ, ?_,f8,hv.append (.cons r8 .nil), ?_,w8⟩
    ·have AD:=List.mem_singleton.mp hp
     subst AD
     exact⟨SH,n8,by rw[xL];exact w9,sF D List.mem_cons_self,fun v z=>by cases z⟩
    ·exact T.keep _ _ _ t8 fun b hb o e=> (Heap.get?_update_other s8.heap (Obj.mapSeq (·.push uy)) (Ne.symm (HX b hb))).trans e
    ·rw[List.length_append,List.length_singleton];omega
 have SI:tn 0 h₁:=T.keep 0 _ _ st fun b _ o e=>k4 b o (k3 b o e)
 have e4:({s₂ with heap:=h₁,toks:=s₂.toks+ ([]:List (Str×Value)).length}:Shared)={s₃ with heap:=h₁,toks:=s₃.toks+ ([]:List (Str×Value)).length}:=by rw[←w6]
 exact codeAny_compStart_list (loop _ e4) (T.self X.A 0 _ _ _ SI (loop _ e4))
end
section
variable {X:Cx} {scope:Scope} {ln:List Str} {fv:List (Str×Nat)} {elt tg iter:Expr} {ifs:List Expr} {pos:Pos} {wi:TI} {tk:Option Nat} {tc:Option TT} {te:TE}
theorem SJ{Φ:Cx→Prop}{Ψ:Hp→Prop}(S:jT X scope ln fv)(hc: ∀H,Ψ H→ ∀Xc:Cx,Xc.A=X.A→Xc.calm=X.calm→Xc.H₀=H→Φ Xc)(hΨ: ∀pins σ H s,Inv X pins σ H s→Ψ H)(hi:wX Φ X tg iter wi)(hg:wY Ψ X scope ln fv tg tk)(ht:wZ X scope (ln++fv.map (·.1)) ifs tc)
  (he: ∀(ex:List Addr) (C:Addr) (s:Shared) (H:Hp),PE (fV X scope (ln++fv.map (·.1)) ex C s H) elt te) (hs: ∀x,foldedSetIterable iter X.env x=pure x:=by intro _;rfl):
  PE X (.ListComp elt [⟨tg,iter,ifs,0⟩] scope pos) (oH X.K wi tk fv tc te):=by
 intro pins s σ H Q I h
 rw[eval_ListComp]
 refine wpAny_comprehension_free (use:=none) rfl hs (S.HQ I) S.kind S.locals (aK (hi pins s σ H _ I h) fun v s1 h1=>aK h1 fun ow s2 h2=> ?_)
 obtain⟨it,fp,tn,J,H2,e,I2,T,sT,f2,hW⟩:=h2
 subst e
 refine HU (RR:=fun acc C=>compPost (model X.prog X.w) X.A X.xe none (EP X pins σ Q) acc C) S (hc H2 (hΨ _ _ _ _ I2)) (hΨ _ _ _ _ I2) hg ht he I2 T sT f2 hW ?_
 intro D C H' s' m I' ns hn hL h0 xa hp q
 refine⟨m,ns,fun h' sb=> ⟨.ref D,H', ?_,rfl,q⟩⟩
 exact I'.turned (it:=C) (t':=s'.toks) (fun b o hb e=>sb.extBut b o hb e) hn hL (.inr h0) xa hp
theorem SK{Φ:Cx→Prop}{Ψ:Hp→Prop}{i:Nat}{y:Str}{py Ii:Pos}(hN:X.N.Nodup)(bV:X.N[i]?=some y)(hy:Loc X.env.scope y)(SM:swapsWith (.ListComp elt [⟨tg,iter,ifs,0⟩] scope pos) (some (.Name y py)) Ii.line X.env=pure true)
  (S:jT X scope ln fv) (hc: ∀H,Ψ H→ ∀Xc:Cx,Xc.A=X.A→Xc.calm=X.calm→Xc.H₀=H→Φ Xc) (hΨ: ∀pins σ H s,Inv X pins σ H s→Ψ H) (hi:wX Φ X tg iter wi) (hg:wY Ψ X scope ln fv tg tk) (ht:wZ X scope (ln++fv.map (·.1)) ifs tc)
  (he: ∀(ex:List Addr) (C:Addr) (s:Shared) (H:Hp),PE (fV X scope (ln++fv.map (·.1)) ex C s H) elt te) (hs: ∀x,foldedSetIterable iter X.env x=pure x:=by intro _;rfl)
  (hf:X.fn y=true∨X.env.scope.names.lookup y=some .local:=by first | exact .inl rfl | exact .inr rfl | assumption):
  PS X (.Assign [.Name y py] (.ListComp elt [⟨tg,iter,ifs,0⟩] scope pos) Ii) (jN (oH X.K wi tk fv tc te) (c_ i)):=by
 intro pins s σ H D I h
 rw[exec_Assign_Name_used _ _ _ _ SM]
 refine wpAny_bind (wpAny_standAt (wpAny_bind ?_))
 show wpAny _ X.A (do let _ ←comprehension (.ListComp elt [⟨tg,iter,ifs,0⟩] scope pos) scope X.env _ (newList []) false (eval iter X.env) (some (assign (.Name y py) X.env))) _ _ s
 refine wpAny_bind (wpAny_mono (wpAny_comprehension_free (use:=some (assign (.Name y py) X.env)) (Q:=fun _ s'=>SP X pins D .next s') rfl hs (S.HQ I) S.kind S.locals
  (aK (hi pins s σ H _ I h) fun v s1 h1=>aK h1 fun ow s2 h2=> ?_)) (fun _ s' hq=>wpAny_pure (wpAny_pure hq)) fun _ _ e=>e)
 obtain⟨it,fp,tn,J,H2,e,I2,T,sT,f2,hW⟩:=h2
 subst e
 refine HU (Qv:=fun x H1=>c_ i x σ H1 D.nx) (RR:=fun acc C=>compPost (model X.prog X.w) X.A X.xe (some (assign (.Name y py) X.env)) (fun _ s'=>SP X pins D .next s') acc C) S (hc H2 (hΨ _ _ _ _ I2)) (hΨ _ _ _ _ I2) hg ht he I2 T sT f2 hW ?_
 intro Da C H' s' m I' ns hn hL h0 xa hp q
 show wpAny _ X.A (assign (.Name y py) X.env (.ref Da)) _ _ _
 refine wpAny_assign_Name (FQ I' hN bV hy (v:= .ref Da) rfl (fun s4 I4 ⟨a,sb,ha⟩=> ?_) hf)
 have SN:C≠a:=by
  rcases ha with z | z
  ·rw[z];exact hL
  ·exact Ne.symm (xa _ _ z)
 refine⟨m,ns.sameBut sb SN,fun h' SO=> ⟨_,H', ?_,q⟩⟩
 exact I4.turned (it:=C) (t':=s4.toks) (fun b o hb e=>SO.extBut b o hb e) hn hL (.inr h0) xa hp
theorem Ij(S:jT X scope ln fv)(hc:X.calm=true)(hi:PI X tg iter wi)(hg:tH X scope ln fv tg tk)(ht:wZ X scope (ln++fv.map (·.1)) ifs tc)
  (he: ∀(ex:List Addr) (C:Addr) (s:Shared) (H:Hp),PE (fV X scope (ln++fv.map (·.1)) ex C s H) elt te) (hs: ∀x,foldedSetIterable iter X.env x=pure x:=by intro _;rfl):
  PE X (.ListComp elt [⟨tg,iter,ifs,0⟩] scope pos) (oH X.K wi tk fv tc te):=
 SJ (Φ:=Calm) (Ψ:=fun _=>True) S (fun _ _ Xc _ e _=>e.trans hc) (fun _ _ _ _ _=>trivial) hi.p (fun ex C s H _=>hg ex C s H) ht he hs
end
section
variable {X:Cx} {scope:Scope} {fv:List (Str×Nat)}
theorem SQ{x:Str}{px:Pos}(hl:scope.names.lookup x=some .local)(g7:(x::fv.map (·.1)).Nodup):tH X scope [x] fv (.Name x px) none:=by
 intro ex C s H
 have SR:Loc (fV X scope ([x]++fv.map (·.1)) ex C s H).env.scope x:= .inl (lookup_relabel_local hl)
 refine⟨c_ 0,kJ (X:=fV X scope ([x]++fv.map (·.1)) ex C s H) g7 rfl SR (.inr (lookup_relabel_local hl)),fun v pre φ H' Q hp h=> ?_⟩
 obtain⟨a,rfl⟩: ∃a,pre=[a]:=by
  match pre,hp with
  | [a],_=>exact⟨a,rfl⟩
 exact h rfl
theorem SS{x y:Str}{px py pos:Pos}{k:Nat}(hc:X.calm=true)(hx:scope.names.lookup x=some .local)(hy:scope.names.lookup y=some .local)(g7:(x::y::fv.map (·.1)).Nodup):tH X scope [x,y] fv (.Tuple [.Name x px, .Name y py] k pos) (some 2):=by
 intro ex C s H
 generalize eX:fV X scope ([x,y]++fv.map (·.1)) ex C s H=Xc
 have xN:Xc.N=x::y::fv.map (·.1):=by rw[←eX];rfl
 have xc:Xc.calm=true:=by rw[←eX];exact hc
 have lx:Xc.env.scope.names.lookup x=some .local:=by rw[←eX];exact lookup_relabel_local hx
 have ly:Xc.env.scope.names.lookup y=some .local:=by rw[←eX];exact lookup_relabel_local hy
 have p1:PG Xc (.Name x px) (c_ 0):=kJ (by rw[xN];exact g7) (by rw[xN];rfl) (.inl lx) (.inr lx)
 have p2:PG Xc (.Name y py) (c_ 1):=kJ (by rw[xN];exact g7) (by rw[xN];rfl) (.inl ly) (.inr ly)
 have xK:Xc.K=X.K:=by rw[←eX];rfl
 refine⟨sP Xc.K 2 (kN (c_ 0) (kN (c_ 1) sO)),zO xc (mO p1 (mO p2 wx)),fun v pre φ H' Q hp h=> ?_⟩
 obtain⟨a,b,rfl⟩: ∃a b,pre=[a,b]:=by
  match pre,hp with
  | [a,b],_=>exact⟨a,b,rfl⟩
 obtain⟨a',xs,rfl,e2,e3,q⟩:=h
 obtain⟨v1,v2,rfl⟩: ∃v1 v2,xs=[v1,v2]:=by
  match xs,e3 with
  | [v1,v2],_=>exact⟨v1,v2,rfl⟩
 exact⟨a',_,rfl,by rw[xK];exact e2,rfl,v1,_,rfl,v2,_,rfl,rfl,q rfl⟩
end
section
variable {X:Cx}
theorem aY.imp{f:Value→Value→Sem Value}{r r':R2}(h:aY X f r)(i: ∀x y H Q,r' x y H Q→r x y H Q):aY X f r':=fun pins s σ H x y v u Q I rx ry q=>h pins s σ H x y v u Q I rx ry (i _ _ _ _ q)
theorem cc.imp{f:Value}{r r':List V→Hp→VK→Prop}(h:cc X f r)(i: ∀xs H Q,r' xs H Q→r xs H Q):cc X f r':=fun pins s σ H xs us Q I rv q=>h pins s σ H xs us Q I rv (i _ _ _ q)
def Ik(K:Frag):R2:=fun x y H Q=>match x,y with
 | .int i, .int j=>Q (.int (i+j)) H
 | .str i, .str j=>i.length+j.length≤sizeLine∧Q (.str (i++j)) H
 | .ref l, .ref b=>Hi (.ref l) (.ref b) H Q∨G8 K (.ref l) (.ref b) H Q
 | _,_=>False
theorem SU:aY X (binaryOp .Add) (Ik X.K):=by
 refine aY.imp ((PK.or Qj).or (RJ.or Q9)) fun x y H Q h=> ?_
 cases x<;>cases y<;>first
  | exact False.elim h
  | exact .inl (.inl ⟨_,_,rfl,rfl,h⟩)
  | exact .inl (.inr ⟨_,_,rfl,rfl,h⟩)
  | exact .inr h
def jW(C:Int→Int→Prop)(g:Int→Int→V):R2:=fun x y H Q=>match x,y with
 | .int i, .int j=>C i j∧Q (g i j) H
 | _,_=>False
theorem AG{C:Int→Int→Prop}{g:Int→Int→V}(x y:V)(H:Hp)(Q:VK)(h:jW C g x y H Q):rI C g x y H Q:=by
 cases x<;>cases y<;>first
  | exact False.elim h
  | exact⟨_,_,rfl,rfl,h⟩
theorem tK{g:Int→Int→V}(x y:V)(H:Hp)(Q:VK)(h:jW (fun _ _=>True) g x y H Q):kP g x y H Q:=by
 cases x<;>cases y<;>first
  | exact False.elim h
  | exact⟨_,_,rfl,rfl,h.2⟩
def AH:R2:=fun x y H Q=>match x,y with
 | .int i, .int j=>wG i j∧Q (.int (i*j)) H
 | .ref l, .int k=>Hj (.ref l) (.int k) H Q
 | _,_=>False
theorem SV:aY X (binaryOp .Mult) AH:=by
 refine aY.imp (PM.or RK) fun x y H Q h=> ?_
 cases x<;>cases y<;>first
  | exact False.elim h
  | exact .inl ⟨_,_,rfl,rfl,h⟩
  | exact .inr h
def qi(K:Frag):Operator→R2
 | .Add=>Ik K
 | .Sub=>jW (fun _ _=>True) fun i j=> .int (i - j)
 | .Mult=>AH
 | .FloorDiv=>jW GB fun i j=> .int (i / j)
 | .Mod=>jW (fun _ j=>0<j) fun i j=> .int (i % j)
 | .Pow=>jW GC fun i j=> .int (i ^ j.toNat)
 | _=>fun _ _ _ _=>False
theorem SW(op:Operator):aY X (binaryOp op) (qi X.K op):=by
 cases op<;>first
  | exact SU
  | exact aY.imp PL tK
  | exact SV
  | exact aY.imp PN AG
  | exact aY.imp PQ AG
  | exact aY.imp PR AG
  | exact fun _ _ _ _ _ _ _ _ _ _ _ _ h=>False.elim h
mutual
def Is(H:Hp):PyData→V→Prop
 | .none,v=>v= .aD
 | .bool b,v=>v= .bl b
 | .int i,v=>v= .int i
 | .str x,v=>v= .str x
 | .list xs,v=> ∃a vs,v= .ref a∧H a=some (.lst vs)∧IsL H xs vs
 | .tuple xs,v=> ∃a vs,v= .ref a∧H a=some (.tup vs)∧IsL H xs vs
 | .dict _,_=>False
def IsL(H:Hp):List PyData→List V→Prop
 | [],vs=>vs=[]
 | d::ds,vs=> ∃v r,vs=v::r∧Is H d v∧IsL H ds r
end
mutual
theorem Is.reads{pins:List (Addr×Obj)}{σ:St}{H:Hp}{s:Shared}(I:Inv X pins σ H s): ∀(d:PyData) (v:V) (u:Value),Is H d v→RelV v u→ ∃as,Reads s.heap u d as
 | .none,v,u,h,r=>by rw[show v= .aD from h] at r;rw[show u= .none from r];exact⟨_, .none⟩
 | .bool b,v,u,h,r=>by rw[show v= .bl b from h] at r;rw[show u= .bool b from r];exact⟨_, .bool b⟩
 | .int i,v,u,h,r=>by rw[show v= .int i from h] at r;obtain⟨t,e⟩:=r;rw[e];exact⟨_, .int i t⟩
 | .str x,v,u,h,r=>by rw[show v= .str x from h] at r;obtain⟨t,e⟩:=r;rw[e];exact⟨_, .str x t⟩
 | .list xs,v,u,h,r=>by
  obtain⟨a,vs,e,hH,hl⟩:=(show ∃a vs,v= .ref a∧H a=some (.lst vs)∧IsL H xs vs by simpa only[Is] using h)
  rw[e] at r
  rw[show u= .ref a from r]
  obtain⟨_,its,n,hv,hg⟩:=I.aE a _ hH
  obtain⟨as,q⟩:=IsL.reads I xs vs its hl hv
  exact⟨_, .list hg rfl rfl (by simpa using q)⟩
 | .tuple xs,v,u,h,r=>by
  obtain⟨a,vs,e,hH,hl⟩:=(show ∃a vs,v= .ref a∧H a=some (.tup vs)∧IsL H xs vs by simpa only[Is] using h)
  rw[e] at r
  rw[show u= .ref a from r]
  obtain⟨_,its,hv,o,hg,hc,n,hd⟩:=I.aE a _ hH
  obtain⟨as,q⟩:=IsL.reads I xs vs its hl hv
  exact⟨_, .tuple hg hc hd (by simpa using q)⟩
 | .dict _,v,u,h,r=>by simp only[Is] at h
theorem IsL.reads{pins:List (Addr×Obj)}{σ:St}{H:Hp}{s:Shared}(I:Inv X pins σ H s): ∀(ds:List PyData) (vs:List V) (us:List Value),IsL H ds vs→Vals vs us→ ∃as,ReadsAll s.heap us ds as
 | [],vs,us,h,r=>by
  rw[show vs=[] from h] at r
  cases r
  exact⟨_, .nil⟩
 | d::ds,vs,us,h,r=>by
  obtain⟨v,q,e,h1,h2⟩:=(show ∃v r,vs=v::r∧Is H d v∧IsL H ds r by simpa only[IsL] using h)
  rw[e] at r
  cases r with
  | cons r1 r2=>
   obtain⟨as,q1⟩:=Is.reads I d v _ h1 r1
   obtain⟨bs,q2⟩:=IsL.reads I ds q _ h2 r2
   exact⟨_, .cons q1 q2⟩
end
def SX:V→Bool
 | .mL _=>false
 | .fj _=>false
 | _=>true
def SY:R2:=fun x y H Q=> ∃a b xs,x= .ref a∧y= .ref b∧H a=some (.lst xs)∧H b=some (.lst xs)∧xs.all SX=true∧Q (.bl true) H
def lB(neg:Bool):R2:=fun x y H Q=>match jP x y with
 | true=>Q (.bl (neg ^^ decide (x=y))) H
 | false=> ∃d e,Is H d x∧Is H e y∧SeqAt.shaped d=true∧SeqAt.shaped e=true∧Q (.bl (neg ^^ PyData.eqv d e)) H
def S4:R2:=fun x y H Q=>lB false x y H Q∨SY x y H Q
theorem S5(hu:X.A.units+64<cLine):aY X (compareOp .Eq) (lB false):=by
 intro pins s σ H x y v u Q I rx ry h
 unfold lB at h
 by_cases hs:jP x y=true
 ·rw[hs] at h
  simp only[Bool.false_xor] at h
  exact PZ pins s σ H x y v u Q I rx ry ⟨hs,h⟩
 ·rw[show jP x y=false by simpa using hs] at h
  obtain⟨d,e,h1,h2,h3,h4,q⟩:=h
  rw[Bool.false_xor] at q
  obtain⟨as,r1⟩:=Is.reads I d x v h1 rx
  obtain⟨bs,r2⟩:=Is.reads I e y u h2 ry
  exact eq_dataH r1 r2 h3 h4 hu ⟨.bl _,H,I,rfl,q⟩
theorem S6(hu:X.A.units+64<cLine):aY X (compareOp .NotEq) (lB true):=by
 intro pins s σ H x y v u Q I rx ry h
 unfold lB at h
 by_cases hs:jP x y=true
 ·rw[hs] at h
  simp only[Bool.true_xor] at h
  exact P4 pins s σ H x y v u Q I rx ry ⟨hs,h⟩
 ·rw[show jP x y=false by simpa using hs] at h
  obtain⟨d,e,h1,h2,h3,h4,q⟩:=h
  rw[Bool.true_xor] at q
  obtain⟨as,r1⟩:=Is.reads I d x v h1 rx
  obtain⟨bs,r2⟩:=Is.reads I e y u h2 ry
  exact ne_dataH r1 r2 h3 h4 hu ⟨.bl _,H,I,rfl,q⟩
theorem S7(l:Addr)(o:Obj)(es:Array DictEntry)(ep:Nat)(hc:o.cls= .type "dict")(hd:o.data= .dict es ep)(b:Str)(u:Tok):
  Meets (Builtin.«dict.__eq__» ⟨[.ref l, .str b u],[]⟩) (fun _ R s=>s.heap.get? l=some o∧R (.ok (.ret .notImplemented)) s):=
 .of_wp fun prog w A R s h=>by obtain⟨hp,g,d,tk,os⟩:=s;obtain⟨hl,h⟩:=h;obtain⟨cls,dd,data,sl⟩:=o;simp only at hc hd;subst hc hd;have f1:=F.sub_str_dict;wp_walk using AutoSeq1.wpAny_loadPart' hl;exact⟨_,rfl,h⟩
theorem S8(b:Str)(u:Tok)(l:Addr)(o:Obj)(es:Array DictEntry)(ep:Nat)(hc:o.cls= .type "dict")(hd:o.data= .dict es ep):
  Meets (Builtin.«str.__eq__» ⟨[.str b u, .ref l],[]⟩) (fun _ R s=>s.heap.get? l=some o∧R (.ok (.ret .notImplemented)) s):=
 .of_wp fun prog w A R s h=>by obtain⟨hp,g,d,tk,os⟩:=s;obtain⟨hl,h⟩:=h;obtain⟨cls,dd,data,sl⟩:=o;simp only at hc hd;subst hc hd;wp_walk using AutoSeq1.wpAny_loadPart' hl,wpAny_load hl;exact⟨_,rfl,h⟩
theorem S9{A:Around}{s:Shared}{l:Addr}{o:Obj}{es:Array DictEntry}{ep:Nat}(b:Str)(u:Tok)(ho:s.heap.get? l=some o)(hc:o.cls= .type "dict")(hd:o.data= .dict es ep)(hu:A.units<cLine):SeqAt.EqAt A s (.str b u) (.ref l) false:=fun prog w E Q h=>by
 have rc:SeqAt.RcAt A s (.str b u) (.ref l) false:=fun prog w E Q h=>
  SeqAt.rc_eq_decline_or (k:=false) (typeIs_str s b u) ⟨_,ho,hc⟩ (by decide) F.sub_dict_str F.slot_str_eq F.slot_dict_eq_refl
   (fun _ hq=>call_meets F.slot_str_eq (typeIs_str s b u) F.entry_str_eq (F.args_str_eq_2 _ _) (S8 b u l o es ep hc hd) ⟨ho,hq⟩)
   (fun _ hq=>call_meets F.slot_dict_eq_refl ⟨_,ho,hc⟩ F.entry_dict_eq (F.args_dict_eq_2 _ _) (S7 l o es ep hc hd b u) ⟨ho,hq⟩)
   (fun _ hq=>wpAny_of_eq (rfl:isSame (.str b u) (.ref l)=pure false) hq) (.inr hu) h
 unfold eqBool
 refine wpAny_holding ?_
 refine wpAny_ite_split (fun AI=>absurd (eq_of_beq AI) nofun) (fun _=> ?_)
 exact wpAny_bind (rc prog w E _ (wpAny_truthy_bool h))
def Il(K:Frag)(H:Hp)(a:Addr):Prop:=(∃xs,aq K H a xs)∨(∃xs,aL K H a xs)∨ ∃av,H a=some (.dK av)
theorem tL{pins:List (Addr×Obj)}{σ:St}{H:Hp}{s:Shared}{a:Addr}(I:Inv X pins σ H s)(hc:Il X.K H a)(hu:X.A.units+64<cLine): ∀{ts:List Str} {us:List Value},Vals (ts.map V.str) us→ ∀u∈us,SeqAt.EqAt X.A.in1 s u (.ref a) false
 | [],_, .nil=>fun u hu=>by cases hu
 | t::ts,u::us, .cons r rs=>fun u' tM=>by
  rcases List.mem_cons.mp tM with rfl | tM
  ·obtain⟨k,rfl⟩:=(show ∃k,_=Value.str t k from r)
   have AJ:X.A.in1.units<cLine:=by show X.A.units+1<cLine;omega
   rcases hc with⟨xs,hc⟩ | ⟨xs,hc⟩ | ⟨av,hc⟩
   ·obtain⟨its,_,pl,_⟩:=I.list hc
    exact SeqAt.EqAt.str_list t k pl.isList AJ
   ·obtain⟨its,_,pl,_⟩:=I.tuple hc
    exact SeqAt.EqAt.str_tuple t k pl AJ
   ·obtain⟨_,_,vs,_,o,es,ep,ho,hx,hd,_⟩:=(show cm X.prog X.w H s.heap a (.dK av) from I.aE a _ hc)
    exact S9 t k ho hx.1 hd AJ
  ·exact tL I hc hu rs u' tM
def xb(K:Frag)(neg:Bool):R2:=fun x y H Q=>match y with
 | .str j=> ∃i,x= .str i∧Q (.bl (if neg then !(!(Builtin.Str.occurrences j i 0 j.length 1).isEmpty) else !(Builtin.Str.occurrences j i 0 j.length 1).isEmpty)) H
 | .ref p=>match x with
  | .ref a=> ∃ts:List Str,(aq K H p (ts.map V.str)∨aL K H p (ts.map V.str))∧Il K H a∧Q (.bl neg) H
  | x=>Ae K neg x (.ref p) H Q
 | _=>False
theorem S_(hu:X.A.units+64<cLine):aY X (compareOp .In) (xb X.K false):=by
 intro pins s σ H x y v u Q I rx ry h
 cases y with
 | str j=>
  obtain⟨i,e,q⟩:=h
  exact P9 pins s σ H x _ v u Q I rx ry ⟨i,j,e,rfl,q⟩
 | ref p=>
  cases x with
  | ref a=>
   obtain⟨ts,hq,hc,q⟩:=h
   cases rx
   cases ry
   rcases hq with hq | hq
   ·obtain⟨its,r,pl,hz⟩:=I.list hq
    refine SeqAt.in_listAt (fun _=>false) pl.isList (fun w hw=>tL I hc hu r w (by simpa using hw)) ⟨.bl _,H,I,rfl, ?_⟩
    rw[show(its.toArray.any fun _=>false)=false by simp];exact q
   ·obtain⟨its,r,pl,hz⟩:=I.tuple hq
    refine SeqAt.in_tupleAt (fun _=>false) pl (fun w hw=>tL I hc hu r w (by simpa using hw)) ⟨.bl _,H,I,rfl, ?_⟩
    rw[show(its.toArray.any fun _=>false)=false by simp];exact q
  | _=>exact Rl pins s σ H _ _ v u Q I rx ry h
 | _=>exact False.elim h
theorem Ta(hu:X.A.units+64<cLine):aY X (compareOp .NotIn) (xb X.K true):=by
 intro pins s σ H x y v u Q I rx ry h
 cases y with
 | str j=>
  obtain⟨i,e,q⟩:=h
  exact Qc pins s σ H x _ v u Q I rx ry ⟨i,j,e,rfl,q⟩
 | ref p=>
  cases x with
  | ref a=>
   obtain⟨ts,hq,hc,q⟩:=h
   cases rx
   cases ry
   rcases hq with hq | hq
   ·obtain⟨its,r,pl,hz⟩:=I.list hq
    refine SeqAt.notIn_listAt (fun _=>false) pl.isList (fun w hw=>tL I hc hu r w (by simpa using hw)) ⟨.bl _,H,I,rfl, ?_⟩
    rw[show(its.toArray.any fun _=>false)=false by simp];exact q
   ·obtain⟨its,r,pl,hz⟩:=I.tuple hq
    refine SeqAt.notIn_tupleAt (fun _=>false) pl (fun w hw=>tL I hc hu r w (by simpa using hw)) ⟨.bl _,H,I,rfl, ?_⟩
    rw[show(its.toArray.any fun _=>false)=false by simp];exact q
  | _=>exact Rm pins s σ H _ _ v u Q I rx ry h
 | _=>exact False.elim h
theorem Tb{M:Model}{A:Around}{E:Value→Shared→Prop}{s:Shared}{Q:Value→Shared→Prop}{v:Value}{d:Bool}(hv: ∀id,v≠ .builtin id)(h:Q (.bool (v== .bool d)) s):wpAny M A (compareOp .Is v (.bool d)) Q E s:=by
 cases v<;>first | exact wpAny_pure h | exact absurd rfl (hv _)
theorem Tc{M:Model}{A:Around}{E:Value→Shared→Prop}{s:Shared}{Q:Value→Shared→Prop}{v:Value}{d:Bool}(hv: ∀id,v≠ .builtin id)(h:Q (.bool (!(v== .bool d))) s):wpAny M A (compareOp .IsNot v (.bool d)) Q E s:=by
 cases v<;>first | exact wpAny_pure h | exact absurd rfl (hv _)
def Im:R2:=fun x y H Q=>match y with
 | .bl b=>Q (.bl (decide (x= .bl b))) H
 | _=>y= .aD∧Q (.bl (decide (x= .aD))) H
def Io:R2:=fun x y H Q=>match y with
 | .bl b=>Q (.bl (!decide (x= .bl b))) H
 | _=>y= .aD∧Q (.bl (!decide (x= .aD))) H
theorem Td:aY X (compareOp .Is) Im:=by
 intro pins s σ H x y v u Q I rx ry h
 cases y with
 | bl b=>
  cases ry
  have nb: ∀id,v≠ .builtin id:=fun id z=>by
   subst z
   cases x<;>first
    | (obtain⟨t,e⟩:=rx;cases e;done)
    | (cases rx;done)
  refine Tb nb (cq I (show Q (.bl (decide (x= .bl b))) H from h) ?_)
  cases x<;>first
   | (cases rx;rfl)
   | (obtain⟨t,rfl⟩:=rx;rfl)
   | (cases rx;rename_i a;cases a<;>cases b<;>rfl)
 | _=>exact P_ pins s σ H x _ v u Q I rx ry h
theorem Te:aY X (compareOp .IsNot) Io:=by
 intro pins s σ H x y v u Q I rx ry h
 cases y with
 | bl b=>
  cases ry
  have nb: ∀id,v≠ .builtin id:=fun id z=>by
   subst z
   cases x<;>first
    | (obtain⟨t,e⟩:=rx;cases e;done)
    | (cases rx;done)
  refine Tc nb (cq I (show Q (.bl (!decide (x= .bl b))) H from h) ?_)
  cases x<;>first
   | (cases rx;rfl)
   | (obtain⟨t,rfl⟩:=rx;rfl)
   | (cases rx;rename_i a;cases a<;>cases b<;>rfl)
 | _=>exact Qa pins s σ H x _ v u Q I rx ry h
def cz(K:Frag):CmpOp→R2
 | .Eq=>lB false
 | .NotEq=>lB true
 | .Lt=>jW (fun _ _=>True) fun i j=> .bl (decide (i<j))
 | .LtE=>jW (fun _ _=>True) fun i j=> .bl (decide (i≤j))
 | .Gt=>jW (fun _ _=>True) fun i j=> .bl (decide (j<i))
 | .GtE=>jW (fun _ _=>True) fun i j=> .bl (decide (j≤i))
 | .In=>xb K false
 | .NotIn=>xb K true
 | .Is=>Im
 | .IsNot=>Io
theorem qj(hu:X.A.units+64<cLine)(op:CmpOp):aY X (compareOp op) (cz X.K op):=by
 cases op with
 | Eq=>exact S5 hu
 | NotEq=>exact S6 hu
 | Lt=>exact aY.imp P5 tK
 | LtE=>exact aY.imp P6 tK
 | Gt=>exact aY.imp P7 tK
 | GtE=>exact aY.imp P8 tK
 | In=>exact S_ hu
 | NotIn=>exact Ta hu
 | Is=>exact Td
 | IsNot=>exact Te
inductive Ty where | int | str | bool | list | tuple | dict
 deriving DecidableEq
def Ty.nm:Ty→String
 | .int=> "int" | .str=> "str" | .bool=> "bool" | .list=> "list" | .tuple=> "tuple" | .dict=> "dict"
def bW(T:Ty)(x:V)(H:Hp)(Q:Bool→Prop):Prop:=match x with
 | .aD=>Q false
 | .bl _=>Q (T== .bool || T== .int)
 | .int _=>Q (T== .int)
 | .str _=>Q (T== .str)
 | .ref a=>match H a with
  | some (.lst _)=>Q (T== .list)
  | some (.bz _ (.lst _))=>Q (T== .list)
  | some (.tup _)=>Q (T== .tuple)
  | some (.dK _)=>Q (T== .dict)
  | some (.dT _)=>Q (T== .dict)
  | _=>False
 | _=>False
theorem m3(K:Frag)(S T:Ty):kitOne K (.type S.nm) (.type T.nm)=some (S==T || (S== .bool && T== .int)):=by
 cases S<;>cases T<;>rfl
theorem Tf(K:Frag)(T:Ty):kitOne K (.type "NoneType") (.type T.nm)=some false:=by
 cases T<;>rfl
theorem Tg(hc:X.calm=true):cc X (.builtin "sum") (fun xs H Q=> ∃(p:Addr) (ns:List Int),xs=[.ref p]∧aq X.K H p (ns.map V.int)∧Q (.int ns.sum) H):=by
 intro pins s σ H xs us Q I r h
 obtain⟨p,ns,rfl,hq,q⟩:=h
 obtain⟨u,rfl,ru⟩:=vals1 r
 cases ru
 obtain⟨its,rv,pl,hz⟩:=I.list hq
 have hi:=intsAre_of rv
 obtain⟨xs,hx⟩:=hi.allInts.items
 have fW:s.heap.IsList p (intItems xs):=hx ▸ pl.isList
 refine sum_intListG (I.ok.hd hc) fW fun h' tk t' hk=> ?_
 have e1:ns=xs.toList.map (·.1):=by
  rw[←nums_intItems,←hx]
  exact(show numsOf its.toArray.toList=ns from hi.numsOf).symm
 have e2:preSum (numAt xs) xs.size=ns.sum:=by
  rw[preSum_eq,List.take_of_length_le (by simp),e1]
 rw[e2]
 exact⟨.int ns.sum,H,I.kept (t':=tk) hk,⟨t',rfl⟩,q⟩
theorem Ip: ∀{ts:List Str} {us:List Value},Vals (ts.map V.str) us→ ∃l:List (Str×Tok),us=strValues l∧l.map (·.1)=ts
 | [],_, .nil=> ⟨[],rfl,rfl⟩
 | x::ts,_, .cons ⟨t,e⟩ r=>by
  obtain⟨l,e1,e2⟩:=Ip r
  subst e e1
  exact⟨(x,t)::l,rfl,by simp[e2]⟩
def rJoin(K:Frag):V→List V→Hp→VK→Prop:=fun x vs H Q=> ∃(sep:Str) (p:Addr) (ts:List Str),x= .str sep∧vs=[.ref p]∧aq K H p (ts.map V.str)∧JoinOk sep ts=true∧Q (.str (Txt.join sep ts)) H
theorem Th:kW X "str.join" (rJoin X.K):=by
 intro pins s σ H x vs v us Q I rx rv h
 obtain⟨sep,p,ts,rfl,rfl,hq,hj,q⟩:=h
 obtain⟨t,rfl⟩:=rx
 obtain⟨u,rfl,ru⟩:=vals1 rv
 cases ru
 obtain⟨its,rv,pl,hz⟩:=I.list hq
 obtain⟨l,rfl,e2⟩:=Ip rv
 exact SC.join pl.isList e2 hj fun t' k=> ⟨.str _,H,I.tok k,⟨t',rfl⟩,q⟩
def Ti:V→List V→Hp→VK→Prop:=fun x vs H Q=> ∃z y,x= .str z∧vs=[.str y]∧z.length≤sizeLine∧Q (.str (Txt.lstripChars z y)) H
theorem Tj:kW X "str.lstrip" Ti:=by
 intro pins s σ H x vs v us Q I rx rv h
 obtain⟨z,y,rfl,rfl,hz,q⟩:=h
 obtain⟨t,rfl⟩:=rx
 obtain⟨u,rfl,⟨t2,rfl⟩⟩:=vals1 rv
 refine call_gives F.slot_str_lstrip (typeIs_str _ _ _) F.entry_str_lstrip (F.args_str_lstrip_2 _ _) (gives_str_lstrip_chars z y t t2) (post_val_or_made (fun _=>fits_stripped _ _ _ hz) fun t' k=> ?_)
 exact⟨.str _,H,I.tok k,⟨t',rfl⟩,q⟩
def Tn:V→List V→Hp→VK→Prop:=fun x vs H Q=> ∃z y i,x= .str z∧vs=[.str y, .int i]∧Q (.bl (decide (fromIndex z.length i+y.length≤z.length) && Builtin.Str.subAt z y (fromIndex z.length i))) H
theorem To:kW X "str.startswith" Tn:=by
 intro pins s σ H x vs v us Q I rx rv h
 obtain⟨z,y,i,rfl,rfl,q⟩:=h
 obtain⟨t,rfl⟩:=rx
 obtain⟨u,w,rfl,⟨t2,rfl⟩,⟨t3,rfl⟩⟩:=vals2 rv
 exact call_gives F.slot_str_startswith (typeIs_str _ _ _) F.entry_str_startswith (F.args_str_startswith_3 _ _ _) (gives_str_startswith_from z y i t t2 t3) ⟨.bl _,H,I,rfl,q⟩
def m4{α:Type}(xs:List α)(lo hi:Option Int):List α:=(xs.drop (HT.aV xs.length 0 lo)).take (HT.aV xs.length xs.length hi - HT.aV xs.length 0 lo)
def tN(z:Str)(lo hi:Option Int):Str:=⟨(m4 z.cps.toList lo hi).toArray⟩
theorem Tp(z:Str)(lo hi:Option Int):((Builtin.Str.strSliceIndices lo hi 1 z.length).filterMap (z.cps[·]?))=m4 z.cps.toList lo hi:=by
 obtain⟨h1,h2,h3⟩:=Ad lo hi z.length
 have e0:Builtin.Str.strSliceIndices lo hi 1 z.length=sliceRange (sliceBounds lo hi none z.length).1 (sliceBounds lo hi none z.length).2.1 (sliceBounds lo hi none z.length).2.2:=rfl
 have hz:z.cps.toList.length=z.length:=by simp[Str.length]
 rw[e0,h1,h2,h3,sliceRange_one,pick_run]
 unfold m4
 rw[hz]
end
section
variable {X:Cx}
def xf(K:Frag)(neg:Bool):R2:=fun x y H Q=> ∃p xs d es,y= .ref p∧aq K H p xs∧Is H d x∧IsL H es xs∧SeqAt.shaped d=true∧d.depth≤60∧(∀e∈es,SeqAt.shaped e=true)∧Q (.bl (neg ^^ es.any fun e=>PyData.eqv e d)) H
open Classical in
end
def jX:HO:= .ext fun _=>True
structure AK (ob:Obj) (cls:Value) (vs:Array Value):Prop where
 cls:ob.cls=cls
 data:ob.data= .fields vs
 Tq:vs[2]?=some .none
 dict:ob.dict=none
def ExcAt(H:Hp)(ea D:Addr):Prop:= ∃ob vs,H ea=some (.bz ob jX)∧AK ob (.ref D) vs
structure tO (K:Frag) (D:Addr):Prop where
 tP:PySem.W.findIn K (.ref D) "__getattribute__"=some (some (.builtin "BaseException.__getattribute__"))
 tQ:PySem.W.findIn K (.ref D) "__getattr__"=some none
 hk:(PySem.W.clsIn K D).isSome=true
 ha:PySem.W.findIn K (.ref D) "__class__"=some (some (.builtin "object.__class__"))
 hn:PySem.W.specialIn K (.builtin "object.__class__") "__get__"=some (some (.builtin "getset_descriptor.__get__"))
 mS:PySem.W.takesIn K (.builtin "object.__class__")=some true
 hm:PySem.W.mroIn K D (.type "object")=some true
 hb:PySem.W.mroIn K D (.type "BaseException")=some true
def cV:V→Value
 | .ref a=> .ref a
 | .ty n=> .type n
 | _=> .none
def jY(K:Frag):List V→Hp→VK→Prop
 | [.ref ea,c],H,Q=> ∃D b,ExcAt H ea D∧tO K D∧((∃C,c= .ref C)∨ ∃n,c= .ty n)∧kitOne K (.ref D) (cV c)=some b∧Q (.bl b) H
 | _,_,_=>False
def Iq(sp:Sp)(hv:Option Addr)(t:TA):TE:=fun σ H Q=>t σ H fun vs H1=> (∃ea D,hv=some ea∧ExcAt H1 ea D)∧sp vs H1 Q E0
def AL(C:Addr)(E:XK)(t:TA):TS:=fun _ σ H=>t σ H fun vs H1=>vs.length≤sizeLine∧E (.ref C) none H1
def Ir(K:Frag)(C:Addr)(i n:Nat)(th:Addr→TS)(D:Ends):XK:=fun cls _ H'=>exmOne K cls (.ref C)=some true∧
 ∀(ea:Addr) (ob:Obj) (vs:Array Value) (σ':St),H' ea=none→σ'.length=n→AK ob cls vs→th ea {nx:=fun _ _=>False,rt:=D.rt} (σ'.set i (some (.ref ea))) (upd H' ea (.bz ob jX))
def xg(K:Frag)(C:Addr)(i n:Nat)(tb:XK→TS)(th:Addr→TS):TS:=fun D σ H=>tb (Ir K C i n th D) {nx:=D.nx,rt:=D.rt} σ H
inductive m5 where | len | min | max | sum | int | list | tuple | abs
 deriving DecidableEq
inductive ig where | append | pop | extend | join | lstrip | starts | reverse | clear | index | find | count | AM | AN
 deriving DecidableEq
inductive IK where | list | tup | fk | xh | zip | xi | txt | Ts
 deriving DecidableEq
inductive RE where
 | v (i:Nat) | c (x:V) | g (j:Nat)
 | bin (op:Operator) (a b:RE) | neg (a:RE)
 | cmp (op:CmpOp) (a b:RE) | jZ (op cH:CmpOp) (a b d:RE) | Iu (op cH Iv:CmpOp) (a b d f:RE)
 | and (as:List RE) | or (as:List RE) | not (a:RE) | xj (t a b:RE)
 | call (j:Nat) (as:List RE) | blt (b:m5) (as:List RE) | eK (T:Ty) (a:RE)
 | bC (m:ig) (o:RE) (as:List RE)
 | ix (a b:RE) | sl (a:RE) (lo hi:Option RE)
 | tup (as:List RE) | lst (as:List RE)
 | comp (tk:Option Nat) (fv:List (Str×Nat)) (k:IK) (its:List RE) (cond:Option RE) (elt:RE)
 | da (a c:RE) | AO (j:Nat) (a:RE) | Tt | same (a b:RE)
 | AQ | Tu (a b:RE) | Iw (a b:RE) | Iy (a b:RE) | AR (o a b:RE) | inD (a b:RE) | Iz (a b:RE)
 | xt (T:Frag→TA→TE) (as:List RE) | xm (T:Frag→TE→TA→TE) (o:RE) (as:List RE)
 | fld (o:RE) (f:Str) | qk (j:Nat) (m:Str) (o:RE) (as:List RE) | make (j:Nat) (as:List RE)
inductive RS where
 | asg (i:Nat) (e:RE) | xk (i:Nat) (e:RE) | set (o ix e:RE)
 | drop (e:RE) | ret (e:RE) | Tv
 | ite (c:RE) (t e:List RS)
 | lE (i:Nat) (k:IK) (its:List RE) (body:List RS)
 | iM (is:List Nat) (k:IK) (its:List RE) (body:List RS)
 | AS (c:RE) (body:List RS)
 | pass | brk | cont | never
 | Tw (o lo hi e:RE) | oM (o:RE) (f:Str) (e:RE)
 | tR (is:List Nat) (e:RE) | dput (o i e:RE) | m7 (j:Nat) (as:List RE) | AU (n i j:Nat) (body su:List RS)
structure aO where
 K:Frag
 fs:Nat→Sp
 gv:Nat→V
 E:XK
 sd:Addr→List (Key×V)→Prop
 ms:Nat→Addr×Sp
 kt:Nat→Addr×Sp
 ex:Nat→Addr
 hs:Nat→Sp
 hv:Option Addr
abbrev aO.calm(Γ:aO):aO:={Γ with E:=E0}
def iN(K:Frag)(x:V)(H:Hp)(Q:Bool→Prop):Prop:=match x with
 | .aD=>Q false
 | .bl b=>Q b
 | .int i=>Q (i !=0)
 | .str y=>y.length≤sizeLine∧Q ((y.length:Int) !=0)
 | .ref p=> (∃xs,aq K H p xs∧Q (!xs.isEmpty))∨(∃xs,aL K H p xs∧Q (!xs.isEmpty))∨ ∃av,H p=some (.dK av)∧Q (!av.isEmpty)
 | _=>False
theorem IA{K:Frag}{x:V}{H:Hp}{Q:Bool→Prop}(h:iN K x H Q): ∃k,GH K x H k∧Q k:=by
 cases x with
 | aD=>exact⟨_,rfl,h⟩
 | bl b=>exact⟨_,rfl,h⟩
 | int i=>exact⟨_,rfl,h⟩
 | str y=>exact⟨_,⟨h.1,rfl⟩,h.2⟩
 | ref p=>
  rcases h with⟨xs,h1,h2⟩ | ⟨xs,h1,h2⟩ | ⟨xs,h1,h2⟩
  ·exact⟨_, .inl ⟨xs,h1,rfl⟩,h2⟩
  ·exact⟨_, .inr (.inl ⟨xs,h1,rfl⟩),h2⟩
  ·exact⟨_, .inr (.inr ⟨xs,h1,rfl⟩),h2⟩
 | _=>exact False.elim h
def eY(K:Frag)(t:TE):TT:=fun σ H Q=>t σ H fun x H1=>iN K x H1 fun b=>Q b H1
def AV(K:Frag)(t:TE):TE:=fun σ H Q=>t σ H fun x H1=>iN K x H1 fun b=>Q (.bl (!b)) H1
def IB:V→Hp→VK→Prop:=fun x H Q=>match x with | .int i=>Q (.int (-i)) H | _=>False
def tE(K:Frag)(x:V)(H:Hp)(Q:Nat→Prop):Prop:=match x with
 | .str y=>y.length≤sizeLine∧Q y.length
 | .ref p=> (∃xs,aq K H p xs∧Q xs.length)∨ ∃xs,aL K H p xs∧Q xs.length
 | _=>False
def signs(x:Str):List V:=x.cps.toList.map fun c=>V.str ⟨#[c]⟩
def Tx:TE:=fun _ H Q=> ∀p,H p=none→Q (.ref p) (upd H p (.dK []))
def ql(K:Frag):m5→List V→Hp→VK→Prop
 | .len,[x],H,Q=>tE K x H fun n=>Q (.int n) H
 | .min,[.int i, .int j],H,Q=>Q (.int (if j<i then j else i)) H
 | .max,[.int i, .int j],H,Q=>Q (.int (if j>i then j else i)) H
 | .min,[.ref p],H,Q=> ∃ns:List Int,aq K H p (ns.map V.int)∧ns≠ []∧ ∀m:Int,m∈ns→(∀n∈ns,m≤n)→Q (.int m) H
 | .max,[.ref p],H,Q=> ∃ns:List Int,aq K H p (ns.map V.int)∧ns≠ []∧ ∀m:Int,m∈ns→(∀n∈ns,n≤m)→Q (.int m) H
 | .sum,[.ref p],H,Q=> ∃ns:List Int,aq K H p (ns.map V.int)∧Q (.int ns.sum) H
 | .int,[.int i],H,Q=>Q (.int i) H
 | .int,[.bl k],H,Q=>Q (.int (if k then 1 else 0)) H
 | .list,[.ref p],H,Q=> ∃ys,(aq K H p ys∨aL K H p ys)∧ ∀l,H l=none→Q (.ref l) (upd H l (.lst ys))
 | .list,[.str x],H,Q=>x.length≤sizeLine∧ ∀l,H l=none→Q (.ref l) (upd H l (.lst (signs x)))
 | .tuple,[.str x],H,Q=>x.length≤sizeLine∧ ∀l,H l=none→Q (.ref l) (upd H l (.tup (signs x)))
 | .abs,[.int i],H,Q=>Q (.int (if i<0 then -i else i)) H
 | .tuple,[.ref p],H,Q=> ∃ys,(aq K H p ys∧ ∀l,H l=none→Q (.ref l) (upd H l (.tup ys)))∨(aL K H p ys∧Q (.ref p) H)
 | _,_,_,_=>False
def m8(T:Ty):List V→Hp→VK→Prop
 | [x, .ty n],H,Q=>n=T.nm∧bW T x H fun b=>Q (.bl b) H
 | _,_,_=>False
def xl(K:Frag):ig→V→List V→Hp→VK→Prop
 | .append, .ref l,[y],H,Q=> ∃xs,H l=some (.lst xs)∧xs.length<sizeLine∧Q .aD (upd H l (.lst (xs++ [y])))
 | .pop, .ref l,[],H,Q=> ∃xs y,H l=some (.lst xs)∧xs[xs.length - 1]?=some y∧Q y (upd H l (.lst xs.dropLast))
 | .extend, .ref l,[.ref b],H,Q=> ∃xs zs,H l=some (.lst xs)∧H b=some (.lst zs)∧xs.length+zs.length≤sizeLine∧Q .aD (upd H l (.lst (xs++zs)))
 | .join, .str sep,[.ref p],H,Q=> ∃ts:List Str,aq K H p (ts.map V.str)∧JoinOk sep ts=true∧Q (.str (Txt.join sep ts)) H
 | .lstrip, .str z,[.str y],H,Q=>z.length≤sizeLine∧Q (.str (Txt.lstripChars z y)) H
 | .starts, .str z,[.str y, .int i],H,Q=>Q (.bl (decide (fromIndex z.length i+y.length≤z.length) && Builtin.Str.subAt z y (fromIndex z.length i))) H
 | .find, .str z,[.str y],H,Q=>Q (.int (match Builtin.Str.occurrences z y 0 z.length 1 with | i::_=> (i:Int) | []=> -1)) H
 | .find, .str z,[.str y, .int i],H,Q=>Q (.int (match Builtin.Str.occurrences z y (fromIndex z.length i) z.length 1 with | k::_=> (k:Int) | []=> -1)) H
 | .count, .str z,[.str y],H,Q=>Q (.int (Builtin.Str.occurrences z y 0 z.length (z.length+1)).length) H
 | .reverse, .ref l,[],H,Q=> ∃xs,H l=some (.lst xs)∧Q .aD (upd H l (.lst xs.reverse))
 | .index, .ref l,[.str y],H,Q=> ∃ts:List Str,aq K H l (ts.map V.str)∧y∈ts∧Q (.int (ts.idxOf y:Nat)) H
 | .clear, .ref l,[],H,Q=> ∃xs,H l=some (.lst xs)∧Q .aD (upd H l (.lst []))
 | .AM, .ref l,[y],H,Q=> ∃xs,aq K H l xs∧eJ y=true∧xs.all eJ=true∧Q (.int (xs.countP (fun z=>eW z y):Nat)) H
 | .AN, .ref l,[y],H,Q=> ∃xs,aq K H l xs∧eJ y=true∧xs.all eJ=true∧gC y xs=true∧Q (.int (xs.findIdx (fun z=>eW z y):Nat)) H
 | _,_,_,_,_=>False
def xn:ig→String
 | .join | .lstrip | .starts | .find | .count=> "str"
 | _=> "list"
def qm(K:Frag)(m:ig)(to:TE)(t:TA):TE:=fun σ H Q=>to σ H fun x H1=>tj K (xn m) x H1∧t σ H1 fun xs H2=>xl K m x xs H2 Q
def tU(K:Frag):V→Option Int→Option Int→Hp→VK→Prop:=fun x lo hi H Q=>match x with
 | .str z=>z.length≤sizeLine∧Q (.str (tN z lo hi)) H
 | .ref a=> (∃xs,aq K H a xs∧ ∀p,H p=none→Q (.ref p) (upd H p (.lst (eV xs lo hi))))∨
  (∃xs,aL K H a xs∧ ¬(HT.aV xs.length 0 lo=0∧HT.aV xs.length xs.length hi=xs.length)∧ ∀p,H p=none→Q (.ref p) (upd H p (.tup (eV xs lo hi))))
 | _=>False
def oN(av:List (Key×V))(k:Key):Option V:=(av.find? fun kv=>decide (kv.1=k)).map (·.2)
def IC(sd:Addr→List (Key×V)→Prop):R2:=fun x y H Q=> ∃p av k v,x= .ref p∧y=kV k∧sd p av∧oN av k=some v∧Q v H
def m_(K:Frag)(sd:Addr→List (Key×V)→Prop):R2:=fun x y H Q=>Hb K x y H Q∨Hc K x y H Q∨He x y H Q∨IC sd x y H Q
def Tz(r r' r2:R2)(ta tb tc td:TE):TT:=fun σ H Q=>ta σ H fun x H1=>tb σ H1 fun y H2=>r x y H2 fun z H3=> ∃k,z= .bl k∧
 (if k=true then tc σ H3 fun w H4=>r' y w H4 fun z2 H5=> ∃k2,z2= .bl k2∧(if k2=true then td σ H5 fun u H6=>r2 w u H6 fun z3 H7=> ∃k3,z3= .bl k3∧Q k3 H7 else Q false H5) else Q false H3)
def nc(K:Frag)(a b:Addr):It:=
  ⟨fun i H=> ∃xs ys,aq K H a xs∧aq K H b ys∧i<xs.length∧i<ys.length,
   fun i H x H'=> ∃T,H T=none∧x= .ref T∧ ∀xs ys u v,aq K H a xs→aq K H b ys→xs[i]?=some u→ys[i]?=some v→H'=upd H T (.tup [u,v]),
   fun i H=> ∃xs ys,aq K H a xs∧aq K H b ys∧i=min xs.length ys.length⟩
def tV(K:Frag)(a:Addr):It:=
  ⟨fun i H=> ∃xs,aq K H a xs∧i<xs.length,
   fun i H x H'=> ∃T,H T=none∧x= .ref T∧ ∀xs u,aq K H a xs→xs[i]?=some u→H'=upd H T (.tup [.int (i:Nat),u]),
   fun i H=> ∃xs,aq K H a xs∧i=xs.length⟩
def AW(K:Frag)(ta:TA):TI:=fun σ H R=>ta σ H fun vs H1=> ∃a,vs=[.ref a]∧(∃xs,aq K H1 a xs)∧R (tV K a) H1
def AX(K:Frag)(ta:TA):TI:=fun σ H R=>ta σ H fun vs H1=> ∃a b,vs=[.ref a, .ref b]∧(∃xs,aq K H1 a xs)∧(∃ys,aq K H1 b ys)∧R (nc K a b) H1
def TB(K:Frag)(a b:Addr):It:=
  ⟨fun i H=> ∃xs ys,aL K H a xs∧aL K H b ys∧i<xs.length∧i<ys.length,
   fun i H x H'=> ∃T,H T=none∧x= .ref T∧ ∀xs ys u v,aL K H a xs→aL K H b ys→xs[i]?=some u→ys[i]?=some v→H'=upd H T (.tup [u,v]),
   fun i H=> ∃xs ys,aL K H a xs∧aL K H b ys∧i=min xs.length ys.length⟩
def TC(K:Frag)(ta:TA):TI:=fun σ H R=>ta σ H fun vs H1=> ∃a b,vs=[.ref a, .ref b]∧(∃xs,aL K H1 a xs)∧(∃ys,aL K H1 b ys)∧R (TB K a b) H1
def TF(z:Str):It:=⟨fun i _=>i<z.length,fun i H x H'=>H'=H∧ ∃c,z.cps[i]?=some c∧x= .str ⟨#[c]⟩,fun i _=>i=z.length⟩
def TH(ta:TE):TI:=fun σ H R=>ta σ H fun x H1=> ∃z,x= .str z∧R (TF z) H1
mutual
def ah(Γ:aO):RE→TE
 | .v i=>zL i
 | .c x=>tC x
 | .g j=>tC (Γ.gv j)
 | .bin op a b=>eI (qi Γ.K op) (ah Γ a) (ah Γ b)
 | .neg a=>Gz IB (ah Γ a)
 | .cmp op a b=>eI (cz Γ.K op) (ah Γ a) (ah Γ b)
 | .jZ op cH a b d=>qg (cz Γ.K op) (cz Γ.K cH) (ah Γ a) (ah Γ b) (ah Γ d)
 | .Iu _ _ _ _ _ _ _=>fun _ _ _=>False
 | .and as=>ID Γ as
 | .or as=>IE Γ as
 | .not a=>AV Γ.K (ah Γ a)
 | .xj t a b=>Ge (aZ Γ t) (ah Γ a) (ah Γ b)
 | .call j as=>zW (Γ.fs j) [] Γ.E (aS Γ as)
 | .blt b as=>dY (ql Γ.K b) (aS Γ as)
 | .eK T a=>dY (m8 T) (di (ah Γ a) (di (tC (.ty T.nm)) g5))
 | .bC m o as=>qm Γ.K m (ah Γ o) (aS Γ as)
 | .ix a b=>eI (m_ Γ.K Γ.sd) (ah Γ a) (ah Γ b)
 | .sl a lo hi=>Aa (tU Γ.K) (ah Γ a) (ng Γ lo) (ng Γ hi)
 | .tup as=>GQ (aS Γ as)
 | .lst as=>GS (aS Γ as)
 | .comp tk fv k its cond elt=>oH Γ.K (gE Γ k its) tk fv (tW Γ.calm cond) (ah Γ.calm elt)
 | .da a c=>dY (jY Γ.K) (di (ah Γ a) (di (ah Γ c) g5))
 | .Tt=>Tx
 | .same a b=>eI S4 (ah Γ a) (ah Γ b)
 | .inD a b=>eI (xf Γ.K false) (ah Γ a) (ah Γ b)
 | .Iz a b=>eI (xf Γ.K true) (ah Γ a) (ah Γ b)
 | .AQ=>Hw
 | .Tu a b=>R8 (ah Γ a) (ah Γ b)
 | .Iw a b=>Ht (ah Γ a) (ah Γ b)
 | .Iy a b=>Hu (ah Γ a) (ah Γ b)
 | .AR o a b=>Hy (ah Γ o) (ah Γ a) (ah Γ b)
 | .xt T as=>T Γ.K (aS Γ as)
 | .xm T o as=>T Γ.K (ah Γ o) (aS Γ as)
 | .AO j a=>Iq (Γ.hs j) Γ.hv (di (ah Γ a) g5)
 | .fld o f=>wI Γ.K (ah Γ o) f
 | .qk j m o as=>wJ (Γ.ms j).1 m (Γ.ms j).2 [] Γ.E (ah Γ o) (aS Γ as)
 | .make j as=>zX (Γ.kt j).1 (Γ.kt j).2 [] Γ.E (aS Γ as)
def aZ(Γ:aO):RE→TT
 | .not a=>F_ (aZ Γ a)
 | .inD a b=>mP (eI (xf Γ.K false) (ah Γ a) (ah Γ b))
 | .Iz a b=>mP (eI (xf Γ.K true) (ah Γ a) (ah Γ b))
 | .Iw a b=>tB (Ht (ah Γ a) (ah Γ b))
 | .Iy a b=>tB (Hu (ah Γ a) (ah Γ b))
 | .and as=>IF Γ as
 | .or as=>IG Γ as
 | .cmp op a b=>mP (eI (cz Γ.K op) (ah Γ a) (ah Γ b))
 | .jZ op cH a b d=>mP (qg (cz Γ.K op) (cz Γ.K cH) (ah Γ a) (ah Γ b) (ah Γ d))
 | .Iu op cH Iv a b d f=>Tz (cz Γ.K op) (cz Γ.K cH) (cz Γ.K Iv) (ah Γ a) (ah Γ b) (ah Γ d) (ah Γ f)
 | .v i=>eY Γ.K (zL i)
 | .call j as=>eY Γ.K (zW (Γ.fs j) [] Γ.E (aS Γ as))
 | .eK T a=>eY Γ.K (dY (m8 T) (di (ah Γ a) (di (tC (.ty T.nm)) g5)))
 | .da a c=>eY Γ.K (dY (jY Γ.K) (di (ah Γ a) (di (ah Γ c) g5)))
 | .bC m o as=>eY Γ.K (qm Γ.K m (ah Γ o) (aS Γ as))
 | .ix a b=>eY Γ.K (eI (m_ Γ.K Γ.sd) (ah Γ a) (ah Γ b))
 | .bin op a b=>eY Γ.K (eI (qi Γ.K op) (ah Γ a) (ah Γ b))
 | .fld o f=>eY Γ.K (wI Γ.K (ah Γ o) f)
 | .xt T as=>eY Γ.K (T Γ.K (aS Γ as))
 | .xm T o as=>eY Γ.K (T Γ.K (ah Γ o) (aS Γ as))
 | .qk j m o as=>eY Γ.K (wJ (Γ.ms j).1 m (Γ.ms j).2 [] Γ.E (ah Γ o) (aS Γ as))
 | _=>fun _ _ _=>False
def aS(Γ:aO):List RE→TA
 | []=>g5
 | a::r=>di (ah Γ a) (aS Γ r)
def ID(Γ:aO):List RE→TE
 | []=>fun _ _ _=>False
 | [a]=>ah Γ a
 | a::r=>Ga (ah Γ a) (ID Γ r)
def IE(Γ:aO):List RE→TE
 | []=>fun _ _ _=>False
 | [a]=>ah Γ a
 | a::r=>Gb (ah Γ a) (IE Γ r)
def IF(Γ:aO):List RE→TT
 | []=>fun _ _ _=>False
 | [a]=>aZ Γ a
 | a::r=>FY (aZ Γ a) (IF Γ r)
def IG(Γ:aO):List RE→TT
 | []=>fun _ _ _=>False
 | [a]=>aZ Γ a
 | a::r=>FZ (aZ Γ a) (IG Γ r)
def ng(Γ:aO):Option RE→TO
 | none=>G6
 | some a=>wL (ah Γ a)
def tW(Γ:aO):Option RE→Option TT
 | none=>none
 | some a=>some (aZ Γ a)
def gE(Γ:aO)(k:IK):List RE→TI
 | []=>fun _ _ _=>False
 | a::r=>match k with
  | .list=>sS Γ.K (ah Γ a)
  | .tup=>Py Γ.K (ah Γ a)
  | .fk=>Gu (di (ah Γ a) (aS Γ r))
  | .xh=>Gv (di (ah Γ a) (aS Γ r))
  | .zip=>AX Γ.K (di (ah Γ a) (aS Γ r))
  | .xi=>AW Γ.K (di (ah Γ a) (aS Γ r))
  | .txt=>TH (ah Γ a)
  | .Ts=>TC Γ.K (di (ah Γ a) (aS Γ r))
end
structure cA where
 N:List Str
 sc:Scope
 fn:List Str
 gn:List Str
 bl:List Str
 mn:List Str
 kn:List Str
 en:List Str
 hn:List Str
 md:Nat
def AY(sc:Scope)(x:Str):Bool:=match sc.names.lookup x with
 | some .local=>true | some .cell=>true | some .free=>true | _=>false
def loc(sc:Scope)(x:Str):Bool:=match sc.names.lookup x with
 | some .local=>true | some .cell=>true | _=>false
def lF(sc:Scope)(x:Str):Bool:=match sc.names.lookup x with
 | some .globalImplicit=>true | _=>false
theorem TJ{sc:Scope}{x:Str}(h:AY sc x=true):we sc x:=by
 unfold AY at h
 unfold we
 cases e:sc.names.lookup x with
 | none=>rw[e] at h;cases h
 | some k=>rw[e] at h;cases k<;>first | exact .inl rfl | exact .inr (.inl rfl) | exact .inr (.inr rfl) | cases h
theorem AZ{sc:Scope}{x:Str}(h:loc sc x=true):Loc sc x:=by
 unfold loc at h
 unfold Loc
 cases e:sc.names.lookup x with
 | none=>rw[e] at h;cases h
 | some k=>rw[e] at h;cases k<;>first | exact .inl rfl | exact .inr rfl | cases h
theorem TL{sc:Scope}{x:Str}(h:lF sc x=true):sc.names.lookup x=some .globalImplicit:=by
 unfold lF at h
 cases e:sc.names.lookup x with
 | none=>rw[e] at h;cases h
 | some k=>rw[e] at h;cases k<;>first | rfl | cases h
structure tX where
 elt:Expr
 tg:Expr
 iter:Expr
 ifs:List Expr
 sc:Scope
def m5.nm:m5→Str
 | .len=> "len" | .min=> "min" | .max=> "max" | .sum=> "sum" | .int=> "int" | .list=> "list" | .tuple=> "tuple" | .abs=> "abs"
def ig.nm:ig→Str
 | .append=> "append" | .pop=> "pop" | .extend=> "extend" | .join=> "join" | .lstrip=> "lstrip" | .starts=> "startswith" | .reverse=> "reverse" | .clear=> "clear" | .index=> "index" | .find=> "find" | .count=> "count" | .AM=> "count" | .AN=> "index"
def oO:Expr→Bool
 | .Call (.Name _ _) [] [] _=>false
 | _=>true
def noStar:Expr→Bool
 | .Starred ..=>false
 | _=>true
def tY:Expr→Bool
 | .Set ..=>false
 | _=>true
def A5(IH sc:Scope):Scope:=
 {IH with names:=IH.names.map fun(n,k)=>if (k== .free && sc.kind== .function && sc.names.lookup n==some .cell) then (n, .cell) else (n,k)}
def A7(tk:Option Nat)(tg:Expr):Option (List Str):=match tk,tg with
 | none, .Name x _=>some [x]
 | some 2, .Tuple [.Name x _, .Name y _] _ _=>some [x,y]
 | _,_=>none
def II(S:cA)(c:tX)(ln:List Str)(fv:List (Str×Nat)):cA:={S with N:=ln++fv.map (·.1),sc:=A5 c.sc S.sc,en:=[],md:=if S.md=0 then 0 else 2}
def xo(S:cA)(c:tX)(ln:List Str)(fv:List (Str×Nat)):Bool:=
 decide (c.sc.kind= .function) && c.sc.names.all (fun y=>decide (y.2≠ .cell)) && c.sc.names.all (fun y=>decide (y.2≠ .local) || decide (c.sc.names.lookup y.1=some .local))
 && c.sc.names.all (fun y=>decide (y.2≠ .free) || decide (S.sc.names.lookup y.1=some .cell) || decide (S.sc.names.lookup y.1=some .free))
 && fv.all (fun p=>decide (S.N[p.2]?=some p.1) && decide (c.sc.names.lookup p.1=some .free))
 && ln.all (fun x=>decide (c.sc.names.lookup x=some .local)) && decide ((ln++fv.map (·.1)).Nodup) && tY c.iter
theorem TM{P:Program}{w:World}{K:Frag}{elts:List Expr}{k:Nat}{pos:Pos}{z TI TO i1 i2 l1 l2:Addr}(D:ZipApart z TI TO i1 i2 l1 l2)(dl:l1≠TI∧l2≠TI):
  Turn P w K (.Tuple elts k pos) (nc K l1 l2) [z,TI,TO,i1,i2] z
   (fun i h=>IsZip h z TI TO .none∧IsPair h TI (.ref i1) (.ref i2)∧(∃a b,IsPair h TO a b)∧h.IsListIter i1 l1 i∧h.IsListIter i2 l2 i) where
 mem:=by simp
 obj:=fun i h st b hb=>by
  obtain⟨hz,lG,⟨a,b',lH⟩,⟨o1,e1,c1,d1⟩,⟨o2,e2,c2,d2⟩⟩:=st
  simp only[List.mem_cons,List.not_mem_nil,or_false] at hb
  rcases hb with rfl | rfl | rfl | rfl | rfl
  ·exact⟨_,hz,fun v q=>by cases q⟩
  ·exact⟨_,lG,fun v q=>by cases q⟩
  ·exact⟨_,lH,fun v q=>by cases q⟩
  ·exact⟨_,e1,fun v q=>by rw[d1] at q;cases q⟩
  ·exact⟨_,e2,fun v q=>by rw[d2] at q;cases q⟩
 keep:=fun i h h' st hk=>by
  obtain⟨hz,lG,⟨a,b',lH⟩,h1,h2⟩:=st
  exact⟨hk z (by simp) _ hz,hk TI (by simp) _ lG,⟨a,b',hk TO (by simp) _ lH⟩,h1.at fun o e=>hk i1 (by simp) o e,h2.at fun o e=>hk i2 (by simp) o e⟩
 item:=by
  intro X hP hw hK hc i pins s σ H E I hf st hg
  subst hP hw hK
  obtain⟨xs,ys,hx,hy,TN,IJ⟩:=hg
  obtain⟨gF,r1,p1,z1⟩:=I.list hx
  obtain⟨fQ,r2,p2,z2⟩:=I.list hy
  have A9:=r1.length
  have jS:=r2.length
  have W:=WalksT.zip2 (prog:=X.prog) (w:=X.w) (A:=X.A) (I.ok.hd hc) z TI TO i1 i2 l1 l2 D gF.toArray fQ.toArray
  obtain⟨hz,lG,lH,h1,h2⟩:=id st
  have hn:i<min gF.toArray.size fQ.toArray.size:=by simp only[List.size_toArray];omega
  refine W.item i s _ _ hn ⟨hz,lG,lH,h1,h2,p1.isList,p2.isList⟩ fun T vals h' tk hv hT A_ mid hk=> ?_
  refine⟨.ref T,rfl, ?_⟩
  refine W.go elts k pos i T _ _ _ mid fun lI Ba tZ=> ?_
  obtain⟨u,v,eu,ev,rfl⟩:=hv
  have fz: ∀b∈ [z,TO,i1,i2],b∈ [z,TI,TO,i1,i2]:=fun b hb=>by
   simp only[List.mem_cons,List.not_mem_nil,or_false] at hb⊢
   rcases hb with rfl | rfl | rfl | rfl<;>simp
  have kk: ∀b o,b∉ [z,TO,i1,i2]→s.heap.get? b=some o→lI.get? b=some o:=fun b o hb e=>tZ b o hb (hk b o hb e)
  have I1:Inv X pins σ H {s with heap:=lI,toks:=tk}:=by
   refine I.step (g':=s.gens) (d':=s.drawn) (ch:=[z,TO,i1,i2]) (fun b hb=> ?_) (fun b o _ _ hc e _=>kk b o hc e) (fun b o _ _ hc e _=> ⟨o.slots,kk b o hc e⟩) (fun _ _ _ _ n=>n)
    (fun b o hc e=> ⟨o,kk b o hc e⟩) (fun _ _ e=>e) (fun _ _ _ e=>e) (fun b ps e=> ⟨#[],by rw[e];simp⟩) (fun m hm=> ?_) (fun b o e=> ?_) I.bare
   ·obtain⟨f0,f1,f2,f3,f4,f5⟩:=hf b (fz b hb)
    exact⟨f3,f1,f4,f5⟩
   ·obtain⟨o,es,ep,ho,r⟩:=hm
    exact⟨o,es,ep,kk _ o (fun hb=> (hf _ (fz _ hb)).2.1 rfl) ho,r⟩
   ·have nb: ∀c o',H c=some o'→c∉ [z,TO,i1,i2]:=fun c o' e hb=>by
     rw[(hf c (fz c hb)).1] at e;cases e
    refine(I.aE b o e).iE (fun c q cn e'=>kk c q ?_ e') (fun _ q=>q) fun _ _ q=>q
    rcases cn with rfl | cn
    ·exact nb _ _ e
    ·exact nb _ _ cn
  have ij:s.heap.objs.size≤T:=hT
  have fT:H T=none:=I.aE.fresh ij
  have aT:T∉ [z,TO,i1,i2]:=W.apart i T h' mid
  have tT:lI.IsTuple T #[u,v]:=by
   obtain⟨o,ho,q⟩:=A_
   exact⟨o,tZ T o aT ho,q⟩
  obtain⟨a,Bb,ra⟩: ∃a,xs[i]?=some a∧RelV a u:=by
   have e:gF[i]?=some u:=by simpa using eu
   have:i<xs.length:=by omega
   obtain⟨u',e',r'⟩:=r1.get (i:=i) (x:=xs[i]) (by simp[this])
   rw[e] at e';cases e'
   exact⟨xs[i],by simp[this],r'⟩
  obtain⟨b,TQ,rb⟩: ∃b,ys[i]?=some b∧RelV b v:=by
   have e:fQ[i]?=some v:=by simpa using ev
   have:i<ys.length:=by omega
   obtain⟨u',e',r'⟩:=r2.get (i:=i) (x:=ys[i]) (by simp[this])
   rw[e] at e';cases e'
   exact⟨ys[i],by simp[this],r'⟩
  have TU:=I.sz
  have I2:Inv X pins σ (upd H T (.tup [a,b])) {s with heap:=lI,toks:=tk}:=by
   refine Inv.Aw I1 fT (Nat.le_trans I.sz ij) (Nat.ne_of_gt (Nat.lt_of_lt_of_le I.lt ij)) (fun x c e q=> ?_) (fun p hp q=> ?_) ⟨by show 2≤sizeLine;decide,[u,v], .cons ra (.cons rb .nil),tT⟩
   ·obtain⟨v',q'⟩:=I.cell x c e
    have:=q'.lt
    rw[q] at this
    exact absurd (Nat.lt_of_lt_of_le this ij) (Nat.lt_irrefl _)
   ·have:=Heap.lt_size (I.pin p hp).1
    rw[q] at this
    exact absurd (Nat.lt_of_lt_of_le this ij) (Nat.lt_irrefl _)
  refine⟨.ref T,_,I2,rfl,⟨T,fT,rfl,fun g8 fX a' b' dr oG ea eb=> ?_⟩, ?_,fun c cn=> ?_⟩
  ·rw[I.sN dr hx,Bb] at ea
   rw[I.sN oG hy,TQ] at eb
   cases ea;cases eb;rfl
  ·obtain⟨q1,q2,q3,q4,q5,_⟩:=Ba
   exact⟨q1,q2,q3,q4,q5⟩
  ·have n0:=(hf c cn).1
   have:c≠T:=fun q=>by
    obtain⟨o,e,_⟩: ∃o,s.heap.get? c=some o∧True:=by
     obtain⟨hz,lG,⟨a',b',lH⟩,⟨o1,e1,_⟩,⟨o2,e2,_⟩⟩:=st
     simp only[List.mem_cons,List.not_mem_nil,or_false] at cn
     rcases cn with rfl | rfl | rfl | rfl | rfl
     ·exact⟨_,hz,trivial⟩
     ·exact⟨_,lG,trivial⟩
     ·exact⟨_,lH,trivial⟩
     ·exact⟨_,e1,trivial⟩
     ·exact⟨_,e2,trivial⟩
    have:=Heap.lt_size e
    rw[q] at this
    exact absurd (Nat.lt_of_lt_of_le this ij) (Nat.lt_irrefl _)
   rw[aG this];exact n0
 done:=by
  intro X hP hw hK hc i pins s σ H E I hf st hg
  subst hP hw hK
  obtain⟨xs,ys,hx,hy,hi⟩:=hg
  obtain⟨gF,r1,p1,z1⟩:=I.list hx
  obtain⟨fQ,r2,p2,z2⟩:=I.list hy
  have A9:=r1.length
  have jS:=r2.length
  have W:=WalksT.zip2 (prog:=X.prog) (w:=X.w) (A:=X.A) (I.ok.hd hc) z TI TO i1 i2 l1 l2 D gF.toArray fQ.toArray
  obtain⟨hz,lG,lH,h1,h2⟩:=id st
  have hn:i=min gF.toArray.size fQ.toArray.size:=by simp only[List.size_toArray];omega
  subst hn
  refine W.done s _ _ ⟨hz,lG,lH,h1,h2,p1.isList,p2.isList⟩ fun h' tk hk=> ⟨rfl, ?_⟩
  have fz: ∀b∈ [z,TO,i1,i2],b∈ [z,TI,TO,i1,i2]:=fun b hb=>by
   simp only[List.mem_cons,List.not_mem_nil,or_false] at hb⊢
   rcases hb with rfl | rfl | rfl | rfl<;>simp
  refine I.step (g':=s.gens) (d':=s.drawn) (ch:=[z,TO,i1,i2]) (fun b hb=> ?_) (fun b o _ _ hc e _=>hk b o hc e) (fun b o _ _ hc e _=> ⟨o.slots,hk b o hc e⟩) (fun _ _ _ _ n=>n)
   (fun b o hc e=> ⟨o,hk b o hc e⟩) (fun _ _ e=>e) (fun _ _ _ e=>e) (fun b ps e=> ⟨#[],by rw[e];simp⟩) (fun m hm=> ?_) (fun b o e=> ?_) I.bare
  ·obtain⟨f0,f1,f2,f3,f4,f5⟩:=hf b (fz b hb)
   exact⟨f3,f1,f4,f5⟩
  ·obtain⟨o,es,ep,ho,r⟩:=hm
   exact⟨o,es,ep,hk _ o (fun hb=> (hf _ (fz _ hb)).2.1 rfl) ho,r⟩
  ·have nb: ∀c o',H c=some o'→c∉ [z,TO,i1,i2]:=fun c o' e hb=>by
    rw[(hf c (fz c hb)).1] at e;cases e
   refine(I.aE b o e).iE (fun c q cn e'=>hk c q ?_ e') (fun _ q=>q) fun _ _ q=>q
   rcases cn with rfl | cn
   ·exact nb _ _ e
   ·exact nb _ _ cn
 self:=fun A i s Q E st hQ=>wpAny_pyIter_zip st.1 hQ
theorem boot_zip:bootBuiltins "zip"=some (.type "zip"):=by decide+kernel
theorem TV{X:Cx}{elts:List Expr}{k:Nat}{sV:Pos}{a b:Expr}{ta:TA}{p pos:Pos}(hg:Gl X "zip")(hm:X.mg "zip"=none)(ha:PA X [a,b] ta)
  (hs:starEach [a,b] X.env=(false,eval a X.env)::starEach [b] X.env) (jQ:(backTo pos (starEach [b] X.env)).any (·.1)=false):
  PI X (.Tuple elts k sV) (.Call (.Name "zip" p) [a,b] [] pos) (AX X.K ta):=by
 intro pins s σ H R I h
 refine Call_ (ot I hg hm boot_zip (PyProof.Rows.callWith_type1 (aK (ha pos pins s σ H _ I h) fun us s1 ⟨vs,H1,I1,r1,q1⟩=> ?_) hs jQ))
 obtain⟨l1,l2,e,⟨xs,hx⟩,⟨ys,hy⟩,q⟩:=q1
 subst e
 obtain⟨u,v,rfl,ru,rv⟩:=vals2 r1
 cases ru
 cases rv
 obtain⟨gF,TX,p1,z1⟩:=I1.list hx
 obtain⟨fQ,rr2,p2,z2⟩:=I1.list hy
 refine call_zip_2 p1.isList p2.isList fun h' a1 a2 a3 a4 a5 a6 hk=> ?_
 refine wpAny_pyIter_zip a1 ?_
 have TY: @LT.lt Nat _ l1 s1.heap.objs.size:=by obtain⟨_,e,_⟩:=p1.isList;exact Heap.lt_size e
 have lt2: @LT.lt Nat _ l2 s1.heap.objs.size:=by obtain⟨_,e,_⟩:=p2.isList;exact Heap.lt_size e
 have D:ZipApart (s1.heap.objs.size+4) (s1.heap.objs.size+2) (s1.heap.objs.size+3) s1.heap.objs.size (s1.heap.objs.size+1) l1 l2:=by
  constructor<;> (show @Ne Nat _ _;omega)
 have I2:Inv X pins σ H1 {s1 with heap:=h'}:=I1.kept (t':=s1.toks) hk
 refine⟨_,_,_,_,H1,rfl,I2,TM D ⟨by show @Ne Nat _ _;omega,by show @Ne Nat _ _;omega⟩,⟨a1,a2,⟨_,_,a3⟩,a4,a5⟩,fun b' hb=> ?_,q⟩
 have hle:s1.heap.objs.size≤b':=by
  simp only[List.mem_cons,List.not_mem_nil,or_false] at hb
  rcases hb with rfl | rfl | rfl | rfl | rfl
  ·exact Nat.le_add_right _ _
  ·exact Nat.le_add_right _ _
  ·exact Nat.le_add_right _ _
  ·exact Nat.le_refl _
  ·exact Nat.le_add_right _ _
 have:=I1.sQ (b:=b') (H':=H1) hle (I1.aE.fresh hle)
 exact this
theorem TZ{P:Program}{w:World}{K:Frag}{elts:List Expr}{k:Nat}{pos:Pos}{z it l:Addr}(d1:z≠it)(d2:l≠z)(d3:l≠it):
  Turn P w K (.Tuple elts k pos) (tV K l) [z,it] z
   (fun i h=> (∃old,IsEnum h z it i old)∧h.IsListIter it l i) where
 mem:=by simp
 obj:=fun i h st b hb=>by
  obtain⟨⟨old,hz⟩,⟨o2,e2,c2,d2⟩⟩:=st
  simp only[List.mem_cons,List.not_mem_nil,or_false] at hb
  rcases hb with rfl | rfl
  ·exact⟨_,hz,fun v q=>by cases q⟩
  ·exact⟨_,e2,fun v q=>by rw[d2] at q;cases q⟩
 keep:=fun i h h' st hk=>by
  obtain⟨⟨old,hz⟩,h1⟩:=st
  exact⟨⟨old,hk z (by simp) _ hz⟩,h1.at fun o e=>hk it (by simp) o e⟩
 item:=by
  intro X hP hw hK hc i pins s σ H E I hf st hg
  subst hP hw hK
  obtain⟨xs,hx,TN⟩:=hg
  obtain⟨gF,r1,p1,z1⟩:=I.list hx
  have A9:=r1.length
  have W:=WalksT.enumerate (prog:=X.prog) (w:=X.w) (A:=X.A) (I.ok.hd hc) z it l d1 d2 d3 gF.toArray
  obtain⟨hz,h1⟩:=id st
  have hn:i<gF.toArray.size:=by simp only[List.size_toArray];omega
  refine W.item i s _ _ hn ⟨hz,h1,p1.isList⟩ fun T vals h' tk hv hT A_ mid hk=> ?_
  refine⟨.ref T,rfl, ?_⟩
  refine W.go elts k pos i T _ _ _ mid fun lI Ba tZ=> ?_
  obtain⟨t0,u,eu,rfl⟩:=hv
  have kk: ∀b o,b∉ [z,it]→s.heap.get? b=some o→lI.get? b=some o:=fun b o hb e=>tZ b o hb (hk b o hb e)
  have I1:Inv X pins σ H {s with heap:=lI,toks:=tk}:=by
   refine I.step (g':=s.gens) (d':=s.drawn) (ch:=[z,it]) (fun b hb=> ?_) (fun b o _ _ hc e _=>kk b o hc e) (fun b o _ _ hc e _=> ⟨o.slots,kk b o hc e⟩) (fun _ _ _ _ n=>n)
    (fun b o hc e=> ⟨o,kk b o hc e⟩) (fun _ _ e=>e) (fun _ _ _ e=>e) (fun b ps e=> ⟨#[],by rw[e];simp⟩) (fun m hm=> ?_) (fun b o e=> ?_) I.bare
   ·obtain⟨f0,f1,f2,f3,f4,f5⟩:=hf b hb
    exact⟨f3,f1,f4,f5⟩
   ·obtain⟨o,es,ep,ho,r⟩:=hm
    exact⟨o,es,ep,kk _ o (fun hb=> (hf _ hb).2.1 rfl) ho,r⟩
   ·have nb: ∀c o',H c=some o'→c∉ [z,it]:=fun c o' e hb=>by
     rw[(hf c hb).1] at e;cases e
    refine(I.aE b o e).iE (fun c q cn e'=>kk c q ?_ e') (fun _ q=>q) fun _ _ q=>q
    rcases cn with rfl | cn
    ·exact nb _ _ e
    ·exact nb _ _ cn
  have ij:s.heap.objs.size≤T:=hT
  have fT:H T=none:=I.aE.fresh ij
  have aT:T∉ [z,it]:=W.apart i T h' mid
  have tT:lI.IsTuple T #[.int (i:Nat) t0,u]:=by
   obtain⟨o,ho,q⟩:=A_
   exact⟨o,tZ T o aT ho,q⟩
  obtain⟨a,Bb,ra⟩: ∃a,xs[i]?=some a∧RelV a u:=by
   have e:gF[i]?=some u:=by simpa using eu
   have:i<xs.length:=by omega
   obtain⟨u',e',r'⟩:=r1.get (i:=i) (x:=xs[i]) (by simp[this])
   rw[e] at e';cases e'
   exact⟨xs[i],by simp[this],r'⟩
  have TU:=I.sz
  have I2:Inv X pins σ (upd H T (.tup [.int (i:Nat),a])) {s with heap:=lI,toks:=tk}:=by
   refine Inv.Aw I1 fT (Nat.le_trans I.sz ij) (Nat.ne_of_gt (Nat.lt_of_lt_of_le I.lt ij)) (fun x c e q=> ?_) (fun p hp q=> ?_) ⟨by show 2≤sizeLine;decide,[.int (i:Nat) t0,u], .cons ⟨t0,rfl⟩ (.cons ra .nil),tT⟩
   ·obtain⟨v',q'⟩:=I.cell x c e
    have:=q'.lt
    rw[q] at this
    exact absurd (Nat.lt_of_lt_of_le this ij) (Nat.lt_irrefl _)
   ·have:=Heap.lt_size (I.pin p hp).1
    rw[q] at this
    exact absurd (Nat.lt_of_lt_of_le this ij) (Nat.lt_irrefl _)
  refine⟨.ref T,_,I2,rfl,⟨T,fT,rfl,fun g8 a' dr ea=> ?_⟩, ?_,fun c cn=> ?_⟩
  ·rw[I.sN dr hx,Bb] at ea
   cases ea;rfl
  ·obtain⟨⟨q0,q1⟩,q2,_⟩:=Ba
   exact⟨⟨q0,q1⟩,q2⟩
  ·have n0:=(hf c cn).1
   have:c≠T:=fun q=>by
    obtain⟨o,e,_⟩: ∃o,s.heap.get? c=some o∧True:=by
     obtain⟨⟨old,hz⟩,⟨o2,e2,_⟩⟩:=st
     simp only[List.mem_cons,List.not_mem_nil,or_false] at cn
     rcases cn with rfl | rfl
     ·exact⟨_,hz,trivial⟩
     ·exact⟨_,e2,trivial⟩
    have:=Heap.lt_size e
    rw[q] at this
    exact absurd (Nat.lt_of_lt_of_le this ij) (Nat.lt_irrefl _)
   rw[aG this];exact n0
 done:=by
  intro X hP hw hK hc i pins s σ H E I hf st hg
  subst hP hw hK
  obtain⟨xs,hx,hi⟩:=hg
  obtain⟨gF,r1,p1,z1⟩:=I.list hx
  have A9:=r1.length
  have W:=WalksT.enumerate (prog:=X.prog) (w:=X.w) (A:=X.A) (I.ok.hd hc) z it l d1 d2 d3 gF.toArray
  obtain⟨hz,h1⟩:=id st
  have hn:i=gF.toArray.size:=by simp only[List.size_toArray];omega
  subst hn
  refine W.done s _ _ ⟨hz,h1,p1.isList⟩ fun h' tk hk=> ⟨rfl, ?_⟩
  refine I.step (g':=s.gens) (d':=s.drawn) (ch:=[z,it]) (fun b hb=> ?_) (fun b o _ _ hc e _=>hk b o hc e) (fun b o _ _ hc e _=> ⟨o.slots,hk b o hc e⟩) (fun _ _ _ _ n=>n)
   (fun b o hc e=> ⟨o,hk b o hc e⟩) (fun _ _ e=>e) (fun _ _ _ e=>e) (fun b ps e=> ⟨#[],by rw[e];simp⟩) (fun m hm=> ?_) (fun b o e=> ?_) I.bare
  ·obtain⟨f0,f1,f2,f3,f4,f5⟩:=hf b hb
   exact⟨f3,f1,f4,f5⟩
  ·obtain⟨o,es,ep,ho,r⟩:=hm
   exact⟨o,es,ep,hk _ o (fun hb=> (hf _ hb).2.1 rfl) ho,r⟩
  ·have nb: ∀c o',H c=some o'→c∉ [z,it]:=fun c o' e hb=>by
    rw[(hf c hb).1] at e;cases e
   refine(I.aE b o e).iE (fun c q cn e'=>hk c q ?_ e') (fun _ q=>q) fun _ _ q=>q
   rcases cn with rfl | cn
   ·exact nb _ _ e
   ·exact nb _ _ cn
 self:=fun A i s Q E st hQ=>by
  obtain⟨⟨old,hz⟩,_⟩:=st
  exact wpAny_pyIter_enum hz hQ
theorem T_:bootBuiltins "enumerate"=some (.type "enumerate"):=by decide+kernel
theorem Ua{X:Cx}{elts:List Expr}{k:Nat}{sV:Pos}{a:Expr}{ta:TA}{p pos:Pos}(hg:Gl X "enumerate")(hm:X.mg "enumerate"=none)(ha:PA X [a] ta)
  (hs:starEach [a] X.env=[(false,eval a X.env)]):PI X (.Tuple elts k sV) (.Call (.Name "enumerate" p) [a] [] pos) (AW X.K ta):=by
 intro pins s σ H R I h
 refine Call_ (ot I hg hm T_ (PyProof.Rows.callWith_type1 (aK (ha pos pins s σ H _ I h) fun us s1 ⟨vs,H1,I1,r1,q1⟩=> ?_) hs rfl))
 obtain⟨l1,e,⟨xs,hx⟩,q⟩:=q1
 subst e
 obtain⟨u,rfl,ru⟩:=vals1 r1
 cases ru
 obtain⟨gF,TX,p1,z1⟩:=I1.list hx
 refine call_enumerate_list p1.isList fun h' a1 a2 a3 hk=> ?_
 refine wpAny_pyIter_enum a1 ?_
 have TY: @LT.lt Nat _ l1 s1.heap.objs.size:=by obtain⟨_,e,_⟩:=p1.isList;exact Heap.lt_size e
 have I2:Inv X pins σ H1 {s1 with heap:=h'}:=I1.kept (t':=s1.toks) hk
 refine⟨_,_,_,_,H1,rfl,I2,TZ (z:=s1.heap.objs.size+1) (it:=s1.heap.objs.size) (l:=l1) (by show @Ne Nat _ _;omega) (by show @Ne Nat _ _;omega) (by show @Ne Nat _ _;omega),⟨⟨_,a1⟩,a2⟩,fun b' hb=> ?_,q⟩
 have hle:s1.heap.objs.size≤b':=by
  simp only[List.mem_cons,List.not_mem_nil,or_false] at hb
  rcases hb with rfl | rfl
  ·exact Nat.le_add_right _ _
  ·exact Nat.le_refl _
 have:=I1.sQ (b:=b') (H':=H1) hle (I1.aE.fresh hle)
 exact this
end L2
set_option maxHeartbeats 400000
namespace L2
open PySem PySem.Spec PyProof.Rows
def il(A:Around)(h:Heap):Prop:=A.handled=none∨ ∃e o vs,A.handled=some (.ref e)∧h.get? e=some o∧o.data= .fields vs∧vs[2]?=some .none
theorem il.keeps{A:Around}{h h':Heap}(x:il A h)(k: ∀b o vs,h.get? b=some o→o.data= .fields vs→vs[2]?=some .none→h'.get? b=some o):il A h':=by
 rcases x with x | ⟨e,o,vs,a,b,c,d⟩
 ·exact .inl x
 ·exact .inr ⟨e,o,vs,a,k e o vs b c d,c,d⟩
theorem Ub:entryFor table "proto.unchain"=some Builtin.«proto.unchain»:=entryFor_of_fast (by kernel_rfl)
section
variable {prog:Program} {w:World} {A:Around} {E:Value→Shared→Prop} {s:Shared}
theorem Ue{a:Addr}{o:Obj}{vs:Array Value}{i:Nat}{v:Value}{Q:Unit→Shared→Prop}(ho:s.heap.get? a=some o)(hd:o.data= .fields vs)(hi:i<vs.size)(h:Q () {s with heap:=s.heap.update a (Obj.mapFields (·.setIfInBounds i v))}):
  wpAny (model prog w) A (updateField a i v) Q E s:=by
 unfold updateField
 refine wpAny_bind (wpAny_load ho ?_)
 rw[hd]
 show wpAny _ _ (if i<vs.size then _ else _) _ _ s
 rw[if_pos hi]
 exact wpAny_update ho h
theorem Ug{α:Type}{a:Addr}{o:Obj}{vs:Array Value}{Q:α→Shared→Prop}(hh:il A s.heap)(ho:s.heap.get? a=some o)(hd:o.data= .fields vs)(h2:2<vs.size)(cP: ∀e,A.handled=some (.ref e)→e≠a)
  (hE: ∀h',Heap.SameBut a s.heap h'→(∃o',h'.get? a=some o'∧o'.cls=o.cls)→E (.ref a) {s with heap:=h'}):wpAny (model prog w) A (raiseNew (.ref a):Sem α) Q E s:=by
 unfold raiseNew
 refine wpAny_bind (wpAny_handled ?_)
 rcases hh with hh | ⟨e,oe,ve,hh,he,Uh,Ui⟩
 ·rw[hh]
  exact wpAny_bind (wpAny_pure (wpAny_throw (hE s.heap (Heap.SameBut.refl ..) ⟨o,ho,rfl⟩)))
 ·rw[hh]
  have ne:e≠a:=cP e hh
  have hb:((Value.ref e) !=(Value.ref a))=true:=by
   simp only[bne_iff_ne,ne_eq,Value.ref.injEq]
   exact ne
  dsimp only
  rw[if_pos hb]
  refine wpAny_bind (wpAny_holding (wpAny_runValue (codeAny_builtin Ub ?_)))
  unfold Builtin.«proto.unchain»
  dsimp only
  refine wpAny_bind (wpAny_field he Uh Ui ?_)
  rw[if_pos (by rfl)]
  refine wpAny_bind (wpAny_pure (wpAny_pure ?_))
  dsimp only
  refine wpAny_bind (Ue ho hd h2 ?_)
  refine wpAny_throw (hE _ (Heap.SameBut.update ..) ⟨_,Heap.get?_update_self _ ho (Obj.isFreed_of_fields (Obj.data_mapFields hd _)),Obj.cls_mapFields ..⟩)
theorem IL{it:Addr}{f:Obj→Obj}{Qf:Fin→Shared→Prop}{Q:Option Value→Shared→Prop}(hh:il A s.heap)(hn: ∀vs:Array Value,¬ ∃o,s.heap.get? it=some o∧o.data= .fields vs∧vs[2]?=some .none)
  (hQ: ∀h',Heap.ExtBut it s.heap h'→Q none {s with heap:=h'}):
  wpAny (model prog w) A.in1 Builtin.SmallTypes.stopIteration Qf (fun e s'=>wpAny (model prog w) A (do let b ←isInstance e (.type "StopIteration");if b=true then pure none else throw e) Q E s') {s with heap:=s.heap.update it f}:=by
 show wpAny _ _ (newExc (.type "StopIteration") [] >>=_) _ _ _
 refine wpAny_bind ?_
 simp only[newExc,newTuple]
 refine wpAny_bind (wpAny_newObj_type ?_ (by size_fits))
 refine wpAny_bind (m:=firstArgMember _ _) (wpAny_of_eq (a:=Value.none) (by first | rfl | (simp only[firstArgMember];rfl)) ?_)
 refine wpAny_newObj_type ?_ (by size_fits)
 dsimp only
 have lt: ∀b o,s.heap.get? b=some o→b≠it→(s.heap.update it f).get? b=some o:=fun b o e hb=> (Heap.get?_update_other _ _ (Ne.symm hb)).trans e
 have xp:il A.in1 (((s.heap.update it f).push {cls:= .type "tuple",data:= .seq ([]:List Value).toArray}).push
   {cls:= .type "StopIteration",data:= .fields (#[.ref (s.heap.update it f).objs.size, .none, .none, .none, .bool false, .none]++ownMembersOf (.type "StopIteration") [])}):=by
  rcases hh with hh | ⟨e,oe,ve,h1,h2,h3,h4⟩
  ·exact .inl hh
  ·refine .inr ⟨e,oe,ve,h1,Heap.get?_push_of_some _ (Heap.get?_push_of_some _ (lt e oe h2 fun z=> ?_)),h3,h4⟩
   subst z
   exact hn ve ⟨oe,h2,h3,h4⟩
 refine Ug xp (Heap.get?_push_size _ rfl) rfl (Nat.lt_of_lt_of_le (show 2<6 by decide) (by rw[Array.size_append];exact Nat.le_add_right 6 _)) (fun e he=> ?_) (fun h' sb ⟨o',q1,q2⟩=> ?_)
 ·rcases hh with hh | ⟨e',oe,ve,h1,h2,h3,h4⟩
  ·rw[show A.in1.handled=none from hh] at he;cases he
  ·rw[show A.in1.handled=_ from h1] at he
   cases he
   have:=Heap.lt_size h2
   refine Nat.ne_of_lt (Nat.lt_of_lt_of_le this ?_)
   rw[Heap.size_push,Heap.size_update]
   exact Nat.le_succ _
 ·refine wpAny_bind (wpAny_isInstance (T:="StopIteration") (b:=true) ⟨_,q1,q2⟩ isSubtype_stop ?_)
  refine wpAny_pure (hQ _ fun b o hb e=> ?_)
  have e3:=lt b o e hb
  have e4:=Heap.get?_push_of_some {cls:= .type "StopIteration",data:= .fields (#[.ref (s.heap.update it f).objs.size, .none, .none, .none, .bool false, .none]++ownMembersOf (.type "StopIteration") [])} (Heap.get?_push_of_some {cls:= .type "tuple",data:= .seq ([]:List Value).toArray} e3)
  refine(sb.2 b (Nat.ne_of_lt (Nat.lt_of_lt_of_le (Heap.lt_size e3) ?_))).trans e4
  rw[Heap.size_push]
  exact Nat.le_succ _
theorem Uj{it l:Addr}{i:Nat}{items}{Q:Option Value→Shared→Prop}(hh:il A s.heap)
  (hit:s.heap.IsListIter it l i) (hl:s.heap.IsList l items) (hx:items[i]?=none)
  (hQ: ∀h',Heap.ExtBut it s.heap h'→Q none {s with heap:=h'}):wpAny (model prog w) A (pyNext (.ref it)) Q E s:=by
 obtain⟨o,ho,hc,hd⟩:=id hit
 obtain⟨ol,Bc,_,nl,ni⟩:=hl
 unfold pyNext
 refine wpAny_bind (wpAny_attempt (wpAny_callSpecial?_slot (name:=Str.ofString "__next__") hit.typeIs slot_listiter_next
  (wpAny_call_entry slot_listiter_next hit.typeIs entry_listiter_next ?_ (args_listiter_next _))))
 show wpAny _ _ (field (.ref it) 0>>=_) _ _ s
 refine wpAny_bind (wpAny_field ho hd (x:= .ref l) rfl ?_)
 show wpAny _ _ (if (Value.ref l==Value.none)=true then _ else _) _ _ s
 rw[if_neg (show ¬((Value.ref l==Value.none)=true) from Bool.false_ne_true)]
 show wpAny _ _ (field (.ref it) 1>>=_) _ _ s
 refine wpAny_bind (wpAny_field ho hd (x:= .int i 0) rfl ?_)
 show wpAny _ _ (seqItems? (.ref l) >>=_) _ _ s
 refine wpAny_bind (wpAny_seqItems Bc ni ?_)
 simp only[Int.toNat_natCast,hx]
 refine wpAny_bind (wpAny_rule (wpAny_bind (wpAny_setField ho hd (by simp) ?_)))
 exact IL hh (fun vs z=>by obtain⟨o',h1,h2,h3⟩:=z;rw[ho] at h1;cases h1;rw[hd] at h2;cases h2;cases h3) hQ
theorem Uk{it t:Addr}{i:Nat}{items}{Q:Option Value→Shared→Prop}(hh:il A s.heap)
  (hit:IsTupIter s.heap it t i) (ht:IsTup s.heap t items) (hx:items[i]?=none)
  (hQ: ∀h',Heap.ExtBut it s.heap h'→Q none {s with heap:=h'}):wpAny (model prog w) A (pyNext (.ref it)) Q E s:=by
 obtain⟨o,ho,hc,hd⟩:=id hit
 obtain⟨ol,Bc,_,nl,ni⟩:=ht
 unfold pyNext
 refine wpAny_bind (wpAny_attempt (wpAny_callSpecial?_slot (name:=Str.ofString "__next__") hit.typeIs slot_tupleiter_next
  (wpAny_call_entry slot_tupleiter_next hit.typeIs entry_tupleiter_next ?_ (args_tupleiter_next _))))
 show wpAny _ _ (field (.ref it) 0>>=_) _ _ s
 refine wpAny_bind (wpAny_field ho hd (x:= .ref t) rfl ?_)
 show wpAny _ _ (if (Value.ref t==Value.none)=true then _ else _) _ _ s
 rw[if_neg (show ¬((Value.ref t==Value.none)=true) from Bool.false_ne_true)]
 show wpAny _ _ (field (.ref it) 1>>=_) _ _ s
 refine wpAny_bind (wpAny_field ho hd (x:= .int i 0) rfl ?_)
 show wpAny _ _ (seqItems? (.ref t) >>=_) _ _ s
 refine wpAny_bind (wpAny_seqItems Bc ni ?_)
 simp only[Int.toNat_natCast,hx]
 refine wpAny_bind (wpAny_rule (wpAny_bind (wpAny_setField ho hd (by simp) ?_)))
 exact IL hh (fun vs z=>by obtain⟨o',h1,h2,h3⟩:=z;rw[ho] at h1;cases h1;rw[hd] at h2;cases h2;cases h3) hQ
theorem Ul{t:Addr}{items:Array Value}{Q:List Value→Shared→Prop}(hh:il A s.heap)(ht:IsTup s.heap t items)
  (hQ: ∀h',Heap.ExtBut s.heap.objs.size s.heap h'→Q items.toList {s with heap:=h'}):wpAny (model prog w) A (unpackItems (.ref t) items.size none) Q E s:=by
 have aQ:t≠s.heap.objs.size:=by obtain⟨o,ho,_⟩:=ht;exact Nat.ne_of_lt (Heap.lt_size ho)
 unfold unpackItems
 refine wpAny_bind ?_
 ·unfold notIterableAtAll
  refine wpAny_bind (wpAny_specialOf ht.typeIs slot_tuple_iter.lookup ?_)
  refine wpAny_pure ?_
  simp only[Bool.false_eq_true,if_false]
  refine wpAny_bind (wpAny_holding (iter_tuple ht ?_))
  refine wpAny_bind (wpAny_holding (draw_tuple aQ items.size 0 _ _ ⟨_,Heap.get?_push_size _ rfl,rfl,rfl⟩ (ht.push _) (by omega) fun h₁ t6 lJ=> ?_))
  have tw:List.take items.size (List.drop 0 items.toList)=items.toList:=by
   rw[List.drop_zero];exact List.take_of_length_le (by simp)
  rw[tw]
  rw[if_neg (by simp)]
  have Bd:IsTup h₁ t items:=(ht.push _).extBut lJ.extBut aQ
  have Um:il A h₁:=hh.keeps fun b o vs e _ _=>lJ.extBut b o (Nat.ne_of_lt (Heap.lt_size e)) (Heap.get?_push_of_some _ e)
  refine wpAny_bind (wpAny_holding (Uk Um t6 Bd (by simp) fun h₂ Be=> ?_))
  simp only[Option.isSome_none,Bool.false_eq_true,if_false]
  refine wpAny_pure (hQ h₂ fun b o hb e=>Be b o hb (lJ.extBut b o hb (Heap.get?_push_of_some _ e)))
theorem Uo{env:Env}{elts:List Expr}{x1}{pos:Pos}{t:Addr}{items:Array Value}{Q:Unit→Shared→Prop}(hh:il A s.heap)(ht:IsTup s.heap t items)
  (hn:(assignEach elts env).length=items.size) (Bf:(assignEach elts env).findIdx? (·.1)=none)
  (h: ∀h',Heap.ExtBut s.heap.objs.size s.heap h'→wpAny (model prog w) A (assignInOrder ((assignEach elts env).map (·.2)) items.toList) Q E {s with heap:=h'}):
  wpAny (model prog w) A (assign (.Tuple elts x1 pos) env (.ref t)) Q E s:=by
 rw[assign_Tuple]
 refine wpAny_bind (wpAny_standAt ?_)
 unfold unpack
 rw[hn,Bf]
 exact wpAny_bind (wpAny_holding (Ul hh ht h))
end
end L2
set_option maxHeartbeats 1000000
namespace L2
open PySem PySem.Spec PyProof.Rows PySem.W
section
variable {prog:Program} {w:World} {A:Around} {E:Value→Shared→Prop} {s:Shared} {K:Frag} {x D:Addr} {ox:Obj}
theorem Uq{Q:Option Value→Shared→Prop}(X:K.In s.heap)(I:InstAt s.heap x ox D none)(tP:findIn K (.ref D) "__getattribute__"=some (some (.builtin "BaseException.__getattribute__")))(tQ:findIn K (.ref D) "__getattr__"=some none)
  (hk:(clsIn K D).isSome=true) (ha:findIn K (.ref D) "__class__"=some (some (.builtin "object.__class__"))) (hn:specialIn K (.builtin "object.__class__") "__get__"=some (some (.builtin "getset_descriptor.__get__"))) (mS:takesIn K (.builtin "object.__class__")=some true)
  (hm:mroIn K D (.type "object")=some true) (hb:mroIn K D (.type "BaseException")=some true)
  (h:Q (some (.ref D)) {s with toks:=s.toks+1}):wpAny (model prog w) A (getAttr? (.ref x) "__class__") Q E s:=by
 have hf:findObj K D none "__class__"=some (.bind (.builtin "getset_descriptor.__get__") (.builtin "object.__class__")):=by
  obtain⟨cd,hc⟩:=Option.isSome_iff_exists.mp hk
  unfold findObj
  rw[hc,Option.bind_some,ha,Option.bind_some]
  simp only[hn,mS,Option.bind_some]
 obtain⟨hh,g,d,t,os⟩:=s
 have L0:=I.type (M:=model prog w)
 have L1:=looks_findIn (M:=model prog w) X tP
 have L2:=looks_findIn (M:=model prog w) X tQ
 have L3:=looks_find (M:=model prog w) X I hf
 unfold getAttr? getAttrBy? getAttrBy
 refine wpAny_bind (wpAny_mkText (wpAny_bind (wpAny_attempt (wpAny_holding (wpAny_bind (L0.at (wpAny_bind (L1.at ?_))))))))
 have t9:(Value.builtin "BaseException.__getattribute__"==Value.builtin "object.__getattribute__")=false:=by decide+kernel
 show wpAny _ _ (if (onTheHeap (Value.ref D) && Value.builtin "BaseException.__getattribute__"==Value.builtin "object.__getattribute__")=true then _ else _) _ _ _
 rw[t9,Bool.and_false,if_neg (by decide)]
 unfold getAttrByItsOwn hookBefore
 refine wpAny_bind (L2.at ?_)
 refine wpAny_bind (wpAny_attempt (wpAny_holding ?_))
 show wpAny _ _ (boundAndCalled _ _ _) _ _ _
 unfold boundAndCalled
 rw[F.excAttr_ValueError.ga.bind (.ref x)]
 refine wpAny_bind (wpAny_pure ?_)
 refine wpAny_call (codeAny_call_builtin F.excAttr_ValueError.ga.plain F.entry_bexc_ga ?_)
 have L4:=looks_mroIn (M:=model prog w) X hb
 have t_:builtinKind "BaseException.__getattribute__"=some .slot:=by decide+kernel
 have Ur:splitId "BaseException.__getattribute__"=some ("BaseException","__getattribute__"):=by decide+kernel
 have am7:=F.args_bexc_ga (.ref x) (.str "__class__" t)
 simp only[checkBuiltinCall,t_,Ur]
 have L5:Looks (model prog w) hh (isInstance (.ref x) (.type "BaseException")) true:=L0.andThen L4
 refine wpAny_bind (L5.at ?_)
 repeat (any_goals (first | assumption | (with_reducible refine wpAny_loadPart_at I.at_ ?_;rw[I.cls];refine wpAny_pure (wpAny_bind (L3.at ?_))) | wp_step))
 refine class_get (s:=⟨hh,g,d,t+1,os⟩) (ox:=ox) (od:=none) X I hm ?_
 exact wpAny_pure (wpAny_pure (wpAny_pure h))
theorem Us(tP:findIn K (.ref D) "__getattribute__"=some (some (.builtin "BaseException.__getattribute__")))(tQ:findIn K (.ref D) "__getattr__"=some none)
  (hk:(clsIn K D).isSome=true) (ha:findIn K (.ref D) "__class__"=some (some (.builtin "object.__class__"))) (hn:specialIn K (.builtin "object.__class__") "__get__"=some (some (.builtin "getset_descriptor.__get__"))) (mS:takesIn K (.builtin "object.__class__")=some true)
  (hm:mroIn K D (.type "object")=some true) (hb:mroIn K D (.type "BaseException")=some true):KitX K (.ref x) (.ref D) (fun h=>InstAt h x ox D none) where
 ty:=fun _ _ _ I=>I.type
 it:=fun _ _ X _=>by
  obtain⟨Ut,kQ⟩:=Option.isSome_iff_exists.mp hk
  unfold clsIn at kQ
  split at kQ
  ·rename_i c' d' Uu zE ho
   intro A' Q' E' s' k q
   unfold isType loadHead
   exact wpAny_bind (wpAny_loadPart (k _ _ (X _ _ ho)) (wpAny_pure q))
  ·cases kQ
 ne:=fun h tp dd its n sl X Uv=>by
  obtain⟨Ut,kQ⟩:=Option.isSome_iff_exists.mp hk
  refine Bool.eq_false_iff.mpr fun q=> ?_
  have e:D=tp:=Value.ref.inj (beq_iff_eq.mp q)
  subst e
  unfold clsIn at kQ
  split at kQ
  ·rename_i c' d' Uu zE ho
   have z:=(X _ _ ho).symm.trans Uv
   cases z
  ·cases kQ
 ca:=fun X I k=>Uq X I tP tQ hk ha hn mS hm hb k
end
end L2
set_option maxHeartbeats 400000
namespace L2
open PySem PySem.Spec PyProof.Rows
inductive bL (J:Shared→Prop) {α:Type}:Sem α→Prop
 | pure (a:α):bL J (.pure a)
 | raise (e:Value):bL J (.raise e)
 | unsupported (w:String):bL J (.unsupported w)
 | rule {t:String} {k:Unit→Sem α}:bL J (k ())→bL J (.rule t k)
 | load {a:Addr} {p:Option Value} {k:Obj→Sem α}:(∀o,bL J (k o))→bL J (.load a p k)
 | update {a:Addr} {p:Option Value} {f:Obj→Obj} {k:Unit→Sem α}:(∀s,J s→J {s with heap:=s.heap.update a f})→bL J (k ())→bL J (.update a p f k)
 | alloc {o:Obj} {k:Addr→Sem α}:(∀s,J s→J {s with heap:=s.heap.push o})→(∀a,bL J (k a))→bL J (.alloc o k)
 | stack {k:List (Code×Pos)→Sem α}:(∀t,bL J (k t))→bL J (.stack k)
theorem Uw{M:Model}{Γ:PySem.Ctx}{J:Shared→Prop}{α:Type}{t:Sem α}(kt:bL J t): ∀{Q:α→Pos→Shared→Prop} {E:Value→Pos→Shared→Prop} {p:Pos} {s:Shared},J s→Sem.wp M Γ t Q E p s→
  Sem.wp M Γ t (fun a p s=>Q a p s∧J s) (fun e p s=>E e p s∧J s) p s:=by
 induction kt with
 | pure a=>intro Q E p s j h;rw[Sem.wp] at h⊢;exact⟨h,j⟩
 | raise e=>intro Q E p s j h;rw[Sem.wp] at h⊢;exact⟨h,j⟩
 | unsupported w=>intro Q E p s j h;rw[Sem.wp] at h;exact h.elim
 | rule _ ih=>intro Q E p s j h;rw[Sem.wp] at h⊢;exact ih j h
 | load _ ih=>intro Q E p s j h;rw[Sem.wp] at h⊢;obtain⟨o,e,h⟩:=h;exact⟨o,e,ih o j h⟩
 | update f _ ih=>intro Q E p s j h;rw[Sem.wp] at h⊢;exact⟨h.1,ih (f _ j) h.2⟩
 | alloc f _ ih=>intro Q E p s j h;rw[Sem.wp] at h⊢;exact ih _ (f _ j) h
 | stack _ ih=>intro Q E p s j h;rw[Sem.wp] at h⊢;exact ih _ j h
theorem ua{M:Model}{A:Around}{J:Shared→Prop}{α:Type}{t:Sem α}{Q:α→Shared→Prop}{E:Value→Shared→Prop}{s:Shared}(k:bL J t)(j:J s)(h:wpAny M A t Q E s):
  wpAny M A t (fun a s=>Q a s∧J s) (fun e s=>E e s∧J s) s:=fun Γ p hΓ=>Uw k j (h Γ p hΓ)
def dP(e:Addr)(s:Shared):Prop:= ∃o vs,s.heap.get? e=some o∧o.data= .fields vs∧vs[2]?=some .none∧o.dict=none
theorem Ux(f:Array Value→Array Value)(o:Obj):(Obj.mapFields f o).dict=o.dict:=by
 unfold Obj.mapFields
 split<;>rfl
theorem Uy{e a:Addr}{i:Nat}{v:Value}(hi:i≠2)(s:Shared)(j:dP e s):dP e {s with heap:=s.heap.update a (Obj.mapFields (·.setIfInBounds i v))}:=by
 obtain⟨o,vs,h1,h2,h3,h4⟩:=j
 by_cases z:a=e
 ·subst z
  have d:=Obj.data_mapFields h2 (·.setIfInBounds i v)
  exact⟨_,_,Heap.get?_update_self _ h1 (Obj.isFreed_of_fields d),d,by rw[Array.getElem?_setIfInBounds_ne hi];exact h3,(Ux _ _).trans h4⟩
 ·exact⟨o,vs,(Heap.get?_update_other _ _ z).trans h1,h2,h3,h4⟩
theorem Uz{e a:Addr}{f:Obj→Obj}(hf: ∀o,(f o).data=o.data∧(f o).dict=o.dict)(s:Shared)(j:dP e s):dP e {s with heap:=s.heap.update a f}:=by
 obtain⟨o,vs,h1,h2,h3,h4⟩:=j
 by_cases z:a=e
 ·subst z
  exact⟨_,vs,Heap.get?_update_self _ h1 (Obj.isFreed_of_fields ((hf o).1.trans h2)),(hf o).1.trans h2,h3,(hf o).2.trans h4⟩
 ·exact⟨o,vs,(Heap.get?_update_other _ _ z).trans h1,h2,h3,h4⟩
theorem UA{e:Addr}{ob:Obj}(s:Shared)(j:dP e s):dP e {s with heap:=s.heap.push ob}:=by
 obtain⟨o,vs,h1,h2,h3,h4⟩:=j
 exact⟨o,vs,Heap.get?_push_of_some _ h1,h2,h3,h4⟩
theorem bL.bind{J:Shared→Prop}{α β:Type}{t:Sem α}{f:α→Sem β}(kt:bL J t)(h: ∀a,bL J (f a)):bL J (t>>=f):=by
 show bL J (t.bind f)
 induction kt with
 | pure a=>exact h a
 | raise e=>exact .raise e
 | unsupported w=>exact .unsupported w
 | rule _ ih=>exact .rule ih
 | load _ ih=>exact .load ih
 | update g _ ih=>exact .update g ih
 | alloc g _ ih=>exact .alloc g ih
 | stack _ ih=>exact .stack ih
section
variable {e:Addr}
theorem Bg{a:Addr}:bL (dP e) (load a):= .load fun o=> .pure o
theorem Bh{v x:Value}{i:Nat}(hi:i≠2):bL (dP e) (setField v i x):=by
 unfold setField
 split
 ·rename_i a
  unfold updateField
  refine Bg.bind fun o=> ?_
  split
  ·split
   ·exact .update (fun s j=>Uy hi s j) (.pure ())
   ·exact .unsupported _
  ·exact .unsupported _
 ·exact .unsupported _
theorem UB{v:Value}:bL (dP e) (fieldsOf v):=by
 unfold fieldsOf
 split
 ·refine Bg.bind fun o=> ?_
  split
  ·exact .pure _
  ·exact .unsupported _
 ·exact .unsupported _
theorem xq{v:Value}{i:Nat}:bL (dP e) (field v i):=by
 unfold field
 refine UB.bind fun vs=> ?_
 split
 ·exact .pure _
 ·exact .unsupported _
theorem Bi{v:Value}{f:Option Addr}:bL (dP e) (setFlight v f):=by
 unfold setFlight
 refine xq.bind fun tb=> ?_
 split
 ·exact Bh (by decide)
 ·exact .pure _
theorem Bj:bL (dP e) stack:= .stack fun t=> .pure t
theorem UC{ty:String}{vs:List Value}:bL (dP e) (newFields ty vs):=by
 unfold newFields newObj newObjAsIs
 show bL (dP e) (if vs.toArray.size>sizeLine+2 then (unsupported "record:memory" >>=_) else _)
 split
 ·exact .unsupported _
 ·exact bL.bind (.alloc (fun s j=>UA s j) fun a=> .pure a) fun a=> .pure _
theorem UD{f:Addr}{b:Bool}:bL (dP e) (entryPlaceOf f b):=by
 unfold entryPlaceOf
 refine Bj.bind fun am8=> ?_
 split
 ·exact .pure _
 ·exact .pure _
theorem IM: ∀l:List Env,bL (dP e) (readyFrames l)
 | []=> .pure _
 | env::outer=>by
  unfold readyFrames
  split
  ·refine Bg.bind fun o=> ?_
   split
   ·exact .pure _
   ·refine bL.bind ?_ fun im=>bL.bind ?_ fun bk=>bL.bind (.update (fun s j=>Uz (by intro o;exact⟨rfl,rfl⟩) s j) (.pure ())) fun _=>IM outer
    ·unfold behindIsImport
     split
     ·exact .pure _
     ·split
      ·exact .pure _
      ·exact xq.bind fun _=> .pure _
    ·unfold keptBack
     split
     ·split
      ·exact .pure _
      ·unfold underTheClaimsCaller
       exact bL.bind (Bj.bind fun _=> .pure _) fun _=> .pure _
     ·exact .pure _
  ·exact .unsupported _
theorem UE{env:Env}:bL (dP e) (PySem.frameOf env):=by
 unfold PySem.frameOf frameEnvs
 refine bL.bind (Bj.bind fun _=> .pure _) fun l=> ?_
 refine bL.bind ?_ fun r=> ?_
 ·unfold frameObject
  split
  ·exact .pure _
  ·exact(IM _).bind fun _=> .pure _
 ·split
  ·exact .pure _
  ·exact .unsupported _
theorem IP{v:Value}{env:Env}:bL (dP e) (noteFrame v env):=by
 unfold noteFrame
 split
 ·rename_i x d hq
  refine xq.bind fun hd=> ?_
  have tail:bL (dP e) (do let a ←PySem.frameOf env;let pl ←entryPlaceOf d (hd != .none);let b ←EntryCells.newEntry hd a .none (rawInt d) .none pl;setField v 1 b):=
   UE.bind fun a=>UD.bind fun pl=>bL.bind UC fun b=>Bh (by decide)
  dsimp only
  split
  ·refine xq.bind fun x=> ?_
   split
   ·exact .pure _
   ·exact(Bh (by decide)).bind fun _=>tail
  ·exact tail
 ·exact .unsupported _
theorem IQ{v:Value}{env:Env}:bL (dP e) (leaving env v):=by
 unfold leaving
 exact IP.bind fun _=>Bi
end
end L2
set_option maxHeartbeats 4000000
namespace L2
open PySem PySem.Spec PyProof.Rows
theorem cm.xr{P:Program}{w:World}{H:Hp}{h:Heap}{a:Addr}{o:HO}(x:cm P w H h a o): ∃ob,h.get? a=some ob:=by
 cases o with
 | lst xs=>obtain⟨_,_,_,_,e⟩:=x;exact⟨_,e⟩
 | tup xs=>obtain⟨_,_,_,ob,e,_⟩:=x;exact⟨_,e⟩
 | dK av=>obtain⟨_,_,_,_,o,_,_,e,_⟩:=x;exact⟨_,e⟩
 | dT av=>obtain⟨_,_,_,_,o,_,_,e,_⟩:=x;exact⟨_,e⟩
 | set S n=>obtain⟨o,_,_,_,e,_⟩:=x;exact⟨_,e⟩
 | ins C dx fs=>obtain⟨_,_,_,e,_⟩:=x;exact⟨_,e⟩
 | own y=>obtain⟨_,e⟩:=x;exact⟨_,e⟩
 | xd fs=>obtain⟨_,⟨_,_,_,e,_⟩,_⟩:=x;exact⟨_,e⟩
 | fk lo hi=>obtain⟨_,_,_,e⟩:=x;exact⟨_,e⟩
 | bz ob u=>obtain⟨e,_⟩:=x;exact⟨_,e⟩
 | jL ps=>exact⟨_,(show h.get? a=some _ from x)⟩
 | met f y=>exact⟨_,(show h.get? a=some _ from x)⟩
 | ext φ=>obtain⟨_,⟨_,e⟩,_⟩:=x;exact⟨_,e⟩
theorem bN.xu{P:Program}{w:World}{H:Hp}{h h':Heap}(ok:bN P w H h)(k: ∀b u,H b≠none→h.get? b=some u→h'.get? b=some u):bN P w H h':=fun a o e=>
 (ok a o e).iE (fun b u hb hu=>k b u (by
  rcases hb with rfl | hb
  ·rw[e];exact Option.some_ne_none _
  ·rw[hb];exact Option.some_ne_none _) hu) (fun _ z=>z) (fun _ _ z=>z)
def eL(P:Program)(w:World):bU:=fun outer H s E e s'=> ∃(ea:Addr) (cls:Value) (t:Addr) (B:Heap) (H':Hp),
 e= .ref ea∧s'.os=s.os∧AllBare s'.gens∧Un (br outer) [] H H' s.heap s'.heap∧bN P w H' s'.heap∧Heap.FlyingW B outer ea cls (.ref t) s'.heap∧dP ea s'∧H' ea=none∧
 (∀b,H' b≠none→ ∀o,s'.heap.get? b=some o→B.get? b=some o)∧(∀b o,s.heap.get? b=some o→b∉br outer→ ∀o',s'.heap.get? b=some o'→B.get? b=some o')∧E cls none H'
theorem xv{P:Program}{w:World}{outer:List Env}{H:Hp}{s:Shared}{e:Value}{s':Shared}(h:eL P w outer H s E0 e s'):False:=by
 obtain⟨_,_,_,_,_,_,_,_,_,_,_,_,_,_,_,h⟩:=h
 exact h
section
variable {P:Program} {w:World} {K:Frag} {mg:Str→Option Value} {base:Heap} {N:List Str} {qual:Str} {scope:Scope} {f:Addr} {cd:Value} {A:Around} {outer:List Env} {s₀:Shared} {H₀:Hp} {E:XK}
theorem UG:Passes (eL P w) (kU (eL P w) P w K mg base N qual scope f cd A outer s₀ H₀ E) E:=by
 intro pins σ H s e s' I hx
 obtain⟨ea,cls,t,B,H',rfl,os,bare,u,aE,fl,ub,jj,c1,c2,hE⟩:=hx
 have uc:=I.ok.frames
 have hL:s₀.heap.objs.size≤ (envOfC qual scope s₀.heap.objs.size f cd).locals:=I.ok.above
 have nL: ∀b o,s₀.heap.get? b=some o→b∉br outer→b∉br (envOfC qual scope s₀.heap.objs.size f cd::outer):=fun b o hb hn hm=>by
  have iO:b∈ (envOfC qual scope s₀.heap.objs.size f cd).locals::br outer:=hm
  rcases List.mem_cons.mp iO with rfl | z
  ·exact absurd (Heap.lt_size hb) (Nat.not_lt.mpr hL)
  ·exact hn z
 have iG: ∀b∈br (envOfC qual scope s₀.heap.objs.size f cd::outer),H' b=none:=fun b hb=>by
  obtain⟨o,ho,_⟩:=(I.stack.mem hb).2
  exact u.free b o ho (I.wo b hb) List.not_mem_nil
 refine wpAny_mono (ua IQ ub (wpAny_leaves_onW (Q:=fun _ gA=> ∃h',gA={s' with heap:=h'}∧Heap.FlyingW B outer ea cls (.ref t) h'∧s'.heap.UpToSlots h') (E:=fun _ _=>False) uc rfl fl fun h' g_ up=> ⟨h',rfl,g_,up⟩))
  (fun _ gA hq=> ?_) (fun _ _ z=>z.1.elim)
 obtain⟨⟨h',rfl,g_,up⟩,Bk⟩:=hq
 have into: ∀b o,s.heap.get? b=some o→b∉br (envOfC qual scope s₀.heap.objs.size f cd::outer)→ ∀o',s'.heap.get? b=some o'→h'.get? b=some o':=fun b o hb hn o' dO=>g_.1 b o' (c2 b o hb hn o' dO)
 have jM: ∀b o,H' b≠none→s'.heap.get? b=some o→h'.get? b=some o:=fun b o hb ho=>g_.1 b o (c1 b hb o ho)
 have fY: ∀b∈br (envOfC qual scope s₀.heap.objs.size f cd::outer),∀o,s'.heap.get? b=some o→ ∃sl,h'.get? b=some {o with slots:=sl}:=fun b hb o ho=>by
  obtain⟨o1,jk,hd⟩:=(fl.2.2.1.mem hb).2
  rw[ho] at jk
  cases jk
  exact up b o ho hd
 refine⟨ea,cls,t,B,H',rfl,os.trans I.os,bare,⟨fun b o q n hn _=> ?_,fun b o q n hn _=> ?_,fun b o q n _=> ?_,fun b o q _=> ?_,fun b xs q=>u.eR b xs (I.base.eR b xs q),fun b o v q=>u.eS b o v (I.base.eS b o v q),fun b ps q=> ?_⟩,
  aE.xu (fun b o hb ho=>jM b o hb ho),g_,Bk,jj,fun b hb o ho=> ?_,fun b o q hn o' dO=> ?_,hE⟩
 ·have q1:=I.base.keep b o q n hn List.not_mem_nil
  have n1:=I.base.free b o q n List.not_mem_nil
  have ip:=nL b o q hn
  exact into b o q1 ip o (u.keep b o q1 n1 ip List.not_mem_nil)
 ·obtain⟨sl,q1⟩:=I.base.slot b o q n hn List.not_mem_nil
  have n1:=I.base.free b o q n List.not_mem_nil
  have ip:b∈br (envOfC qual scope s₀.heap.objs.size f cd::outer):=List.mem_cons_of_mem _ hn
  obtain⟨oC,q2⟩:=u.slot b _ q1 n1 ip List.not_mem_nil
  obtain⟨ud,q3⟩:=fY b ip _ q2
  exact⟨ud,q3⟩
 ·obtain⟨o1,q1⟩:=I.base.there b o q List.not_mem_nil
  exact u.free b o1 q1 (I.base.free b o q n List.not_mem_nil) List.not_mem_nil
 ·obtain⟨o1,q1⟩:=I.base.there b o q List.not_mem_nil
  obtain⟨o2,q2⟩:=u.there b o1 q1 List.not_mem_nil
  by_cases hm:b∈br (envOfC qual scope s₀.heap.objs.size f cd::outer)
  ·obtain⟨sl,q3⟩:=fY b hm o2 q2
   exact⟨_,q3⟩
  ·exact⟨o2,into b o1 q1 hm o2 q2⟩
 ·obtain⟨m1,e1⟩:=I.base.fN b ps q
  obtain⟨m2,e2⟩:=u.fN b _ e1
  exact⟨m1++m2,by rw[e2,Array.append_assoc]⟩
 ·obtain⟨ic,hH⟩:=Option.ne_none_iff_exists'.mp hb
  obtain⟨o2,q2⟩:=(aE b ic hH).xr
  have q3:=jM b o2 hb q2
  have jl:h'.get? b=some o:=ho
  rw[q3] at jl
  cases jl
  exact c1 b hb _ q2
 ·obtain⟨o1,q1⟩:=I.base.there b o q List.not_mem_nil
  obtain⟨o2,q2⟩:=u.there b o1 q1 List.not_mem_nil
  have ip:=nL b o q hn
  have q3:=into b o1 q1 ip o2 q2
  have jl:h'.get? b=some o':=dO
  rw[q3] at jl
  cases jl
  exact c2 b o1 q1 ip _ q2
def Raises(X:Cx)(E:XK):Prop:= ∀(pins:List (Addr×Obj)) (σ:St) (H:Hp) (s:Shared) (h':Heap) (e:Addr) (cls:Value) (vs:List Value),Inv X pins σ H s→Heap.MadeExcOf s.heap h' e cls vs→E cls none H→X.xe (.ref e) {s with heap:=h'}
theorem UH:Raises (kU (eL P w) P w K mg base N qual scope f cd A outer s₀ H₀ E) E:=by
 intro pins σ H s h1 e cls vs I hx hE
 have uc:=I.ok.frames
 have hL:s₀.heap.objs.size≤ (envOfC qual scope s₀.heap.objs.size f cd).locals:=I.ok.above
 have nL: ∀b o,s₀.heap.get? b=some o→b∉br outer→b∉br (envOfC qual scope s₀.heap.objs.size f cd::outer):=fun b o hb hn hm=>by
  have iO:b∈ (envOfC qual scope s₀.heap.objs.size f cd).locals::br outer:=hm
  rcases List.mem_cons.mp iO with rfl | z
  ·exact absurd (Heap.lt_size hb) (Nat.not_lt.mpr hL)
  ·exact hn z
 have cW: ∀env∈ (envOfC qual scope s₀.heap.objs.size f cd::outer),∀b,env.frame=some b→b∈br (envOfC qual scope s₀.heap.objs.size f cd::outer):=fun env he b hb=>List.mem_filterMap.mpr ⟨env,he,hb⟩
 have ub:dP e {s with heap:=h1}:=by
  obtain⟨t,ht,_,_⟩:=hx.there
  exact⟨_,_,ht,rfl,rfl,rfl⟩
 refine wpAny_mono (ua IQ ub (wpAny_leaves_madeW (Q:=fun _ gA=> ∃h' t,gA={s with heap:=h'}∧Heap.FlyingW (hideAll s.heap (br (envOfC qual scope s₀.heap.objs.size f cd::outer))) outer e cls (.ref t) h'∧h1.UpToSlots h') (E:=fun _ _=>False)
  uc rfl (fun b o q=>of_hideAll _ q) (PySem.W.funFrames_hide I.stack cW) hx fun h' t g_ _ _ up=> ⟨h',t,rfl,g_,up⟩)) (fun _ gA hq=> ?_) (fun _ _ z=>z.1.elim)
 obtain⟨⟨h',t,rfl,g_,up⟩,Bk⟩:=hq
 have into: ∀b o,s.heap.get? b=some o→b∉br (envOfC qual scope s₀.heap.objs.size f cd::outer)→h'.get? b=some o:=fun b o hb hn=>g_.1 b o (hideAll_get _ hb hn)
 have Bl: ∀b,H b≠none→b∉br (envOfC qual scope s₀.heap.objs.size f cd::outer):=fun b hb hm=>hb (I.wo b hm)
 have fY: ∀b∈br (envOfC qual scope s₀.heap.objs.size f cd::outer),∀o,s.heap.get? b=some o→ ∃sl,h'.get? b=some {o with slots:=sl}:=fun b hb o ho=>by
  obtain⟨o1,jk,hd⟩:=(I.stack.mem hb).2
  rw[ho] at jk
  cases jk
  exact up b o (hx.keeps b o ho) hd
 refine⟨e,cls,t,_,H,rfl,I.os,I.bare,⟨fun b o q n hn _=> ?_,fun b o q n hn _=> ?_,fun b o q n _=>I.base.free b o q n List.not_mem_nil,fun b o q _=> ?_,I.base.eR,I.base.eS,I.base.fN⟩,
  I.aE.xu (fun b o hb ho=>into b o ho (Bl b hb)),g_,Bk, ?_,fun b hb o ho=> ?_,fun b o q hn o' dO=> ?_,hE⟩
 ·exact into b o (I.base.keep b o q n hn List.not_mem_nil) (nL b o q hn)
 ·obtain⟨sl,q1⟩:=I.base.slot b o q n hn List.not_mem_nil
  obtain⟨ud,q3⟩:=fY b (List.mem_cons_of_mem _ hn) _ q1
  exact⟨ud,q3⟩
 ·obtain⟨o1,q1⟩:=I.base.there b o q List.not_mem_nil
  by_cases hm:b∈br (envOfC qual scope s₀.heap.objs.size f cd::outer)
  ·obtain⟨sl,q3⟩:=fY b hm o1 q1
   exact⟨_,q3⟩
  ·exact⟨o1,into b o1 q1 hm⟩
 ·cases q:H e with
  | none=>rfl
  | some ho=>
   obtain⟨o2,q2⟩:=(I.aE e ho q).xr
   rw[hx.new] at q2
   cases q2
 ·obtain⟨ic,hH⟩:=Option.ne_none_iff_exists'.mp hb
  obtain⟨o2,q2⟩:=(I.aE b ic hH).xr
  have q3:=into b o2 q2 (Bl b hb)
  have jl:h'.get? b=some o:=ho
  rw[q3] at jl
  cases jl
  exact hideAll_get _ q2 (Bl b hb)
 ·obtain⟨o1,q1⟩:=I.base.there b o q List.not_mem_nil
  have ip:=nL b o q hn
  have q3:=into b o1 q1 ip
  have jl:h'.get? b=some o':=dO
  rw[q3] at jl
  cases jl
  exact hideAll_get _ q1 ip
end
section
variable {X:Cx}
theorem UI{x:Str}{C:Addr}{bm:List Value}{B newId qo:String}{e:Expr}{es:List Expr}{t:TA}{np cL pos:Pos}{E:XK}(hc:X.calm=true)(O:OwnCls x C bm newId X.mg X.base)(FB:ExcBaseFacts B newId qo bm)(Bm:Gl X x)
  (hd:(x==("__debug__":Str))=false) (ha:PA X (e::es) t) (hs:starEach (e::es) X.env=(false,eval e X.env)::starEach es X.env) (h1:(backTo cL (starEach es X.env)).any (·.1)=false) (hR:Raises X E):
  PS X (.Raise (some (.Call (.Name x np) (e::es) [] cL)) none pos) (AL C E t):=by
 intro pins s σ H D I h
 obtain⟨tl,N,nm,q,bs,hdct,sn,sub,ab,col,dd,k0,k1,k2,k3,k5,mN,hC,hN,xx,T⟩:=O.obj
 have hg:PE X (.Name x np) (tC (.ref C)):=FW Bm O.bound rfl hd
 refine wpAny_Raise_call_subT (C:=C) (nm:=nm) (q:=q) (N:=N) (bs:=bs) (bm:=tl) (hdct:=hdct) (sn:=sn) (sub:=sub) (ab:=ab) (col:=col) (dd:=dd) (k0:=k0) (k1:=k1) (k2:=k2) (k3:=k3) (k5:=k5)
  FB (mN:=mN) (T.hasType FB.hasBase) (I.ok.hd hc) (by rw[hs];show(false || (backTo cL (starEach es X.env)).any (·.1))=false;rw[h1];rfl) xx
  (aK (hg pins s σ H (fun v H1=>v= .ref C∧AL C E t D σ H1) I ⟨rfl,h⟩) fun f s1 ⟨v,H1,I1,r1,ev,q1⟩=> ?_)
 subst ev
 obtain rfl:f=Value.ref C:=r1
 refine⟨rfl, ?_⟩
 have hA:=ha cL pins s1 σ H1 _ I1 q1
 rw[hs] at hA⊢
 refine Calls.evalArgs_plain (aK hA fun us s2 ⟨vs,H2,I2,r2,hl,q2⟩=> ⟨rfl, ?_,I2.bk _ _ hC,hN.keeps I2.bk,T.keeps I2.bk,fun h' e' hm=>hR pins σ H2 s2 h' e' _ _ I2 hm q2⟩)
 have:=r2.length
 show us.length≤sizeLine
 omega
end
theorem IS{P:Program}{w:World}{l:List Env}{H H':Hp}{h h1 h' B:Heap}(u:Un (br l) [] H H' h h1)(aE:bN P w H' h1)(fr:h1.FunFrames B l)
  (c1: ∀b,H' b≠none→ ∀o,h1.get? b=some o→B.get? b=some o) (c2: ∀b o,h.get? b=some o→b∉br l→ ∀o',h1.get? b=some o'→B.get? b=some o') (st:B.StaysIn h') (up:h1.UpToSlots h'):
  Un (br l) [] H H' h h'∧bN P w H' h'∧(∀b,H' b≠none→ ∀o,h'.get? b=some o→B.get? b=some o)∧(∀b o,h.get? b=some o→b∉br l→ ∀o',h'.get? b=some o'→B.get? b=some o'):=by
 have jM: ∀b o,H' b≠none→h1.get? b=some o→h'.get? b=some o:=fun b o hb ho=>st b o (c1 b hb o ho)
 have into: ∀b o,h.get? b=some o→b∉br l→ ∀o',h1.get? b=some o'→h'.get? b=some o':=fun b o hb hn o' dO=>st b o' (c2 b o hb hn o' dO)
 have fY: ∀b∈br l,∀o,h1.get? b=some o→ ∃sl,h'.get? b=some {o with slots:=sl}:=fun b hb o ho=>by
  obtain⟨o1,jk,hd⟩:=(fr.mem hb).2
  rw[ho] at jk
  cases jk
  exact up b o ho hd
 refine⟨⟨fun b o q n hn _=>into b o q hn o (u.keep b o q n hn List.not_mem_nil),fun b o q n hn _=> ?_,u.free,fun b o q _=> ?_,u.eR,u.eS,u.fN⟩,aE.xu (fun b o hb ho=>jM b o hb ho),fun b hb o ho=> ?_,fun b o q hn o' dO=> ?_⟩
 ·obtain⟨sl,q1⟩:=u.slot b o q n hn List.not_mem_nil
  obtain⟨oC,q2⟩:=fY b hn _ q1
  exact⟨oC,q2⟩
 ·obtain⟨o1,q1⟩:=u.there b o q List.not_mem_nil
  by_cases hm:b∈br l
  ·obtain⟨sl,q3⟩:=fY b hm o1 q1
   exact⟨_,q3⟩
  ·exact⟨o1,into b o q hm o1 q1⟩
 ·obtain⟨ic,hH⟩:=Option.ne_none_iff_exists'.mp hb
  obtain⟨o2,q2⟩:=(aE b ic hH).xr
  have q3:=jM b o2 hb q2
  rw[q3] at ho
  cases ho
  exact c1 b hb _ q2
 ·obtain⟨o2,q2⟩:=u.there b o q List.not_mem_nil
  have q3:=into b o q hn o2 q2
  rw[q3] at dO
  cases dO
  exact c2 b o q hn _ q2
def Cx.alt(X:Cx)(A:Around)(calm:Bool)(pn:List (Addr×Obj))(xe:Value→Shared→Prop):Cx:={X with A:=A,calm:=calm,pn:=pn,xe:=xe}
theorem Inv.alt{X:Cx}{pins iI oP:List (Addr×Obj)}{σ:St}{H:Hp}{s:Shared}{A':Around}{qp:Bool}{Bn:Value→Shared→Prop}(I:Inv X pins σ H s)(hf:A'.frames=X.A.frames)(hc:qp=true→A'.handled=none)(hp: ∀p∈oP++iI,p∈X.pn++pins):
  Inv (X.alt A' qp oP Bn) iI σ H s where
 ok:=⟨I.ok.mod,I.ok.kind,I.ok.glob,I.ok.blt,I.ok.above,I.ok.inj,I.ok.has,I.ok.wg,hc,hf.trans I.ok.frames,I.ok.iG,I.ok.O3,I.ok.bs,I.ok.mM,I.ok.wj,I.ok.wk,I.ok.iH,I.ok.oo⟩
 os:=I.os
 bare:=I.bare
 base:=I.base
 loc:=I.loc
 cell:=I.cell
 free:=I.free
 gu:=I.gu
 pin:=fun p h=>I.pin p (hp p h)
 aE:=I.aE
 len:=I.len
theorem Inv.Bo{X:Cx}{pins iI oP:List (Addr×Obj)}{σ:St}{H:Hp}{s:Shared}{A':Around}{qp:Bool}{Bn:Value→Shared→Prop}(ok:X.Ok)(I:Inv (X.alt A' qp oP Bn) iI σ H s)(hp: ∀p∈X.pn++pins,p∈oP++iI):
  Inv X pins σ H s where
 ok:=ok
 os:=I.os
 bare:=I.bare
 base:=I.base
 loc:=I.loc
 cell:=I.cell
 free:=I.free
 gu:=I.gu
 pin:=fun p h=>I.pin p (hp p h)
 aE:=I.aE
 len:=I.len
theorem UJ{P:Program}{w:World}{H:Hp}{h:Heap}{ea:Addr}{ob:Obj}(h1:h.get? ea=some ob):cm P w H h ea (.bz ob jX):=
 ⟨h1,trivial,⟨ob,h1⟩,fun _ _ _ _=>trivial⟩
theorem bN.more{P:Program}{w:World}{H:Hp}{h:Heap}{a:Addr}{o:HO}(ok:bN P w H h)(ha:H a=none)(x:cm P w (upd H a o) h a o):bN P w (upd H a o) h:=fun b u e=>by
 by_cases z:b=a
 ·subst z
  rw[aw] at e
  cases e
  exact x
 ·rw[aG z] at e
  exact(ok b u e).iE (fun _ _ _ q=>q) (fun c q=>by rw[aG (bD q ha)];exact q) (fun c xs q=>by rw[aG (bD q ha)];exact q)
section
variable {X:Cx}
theorem Inv.UK{pins:List (Addr×Obj)}{σ:St}{H:Hp}{s:Shared}{h':Heap}{m':Str→Option Value}{tk:Nat}(I:Inv X pins σ H s)(hn:h'.Ns X.env.locals m')(sb:Heap.SameBut X.env.locals s.heap h'):
  Inv X pins (List.replicate X.N.length none) H {s with heap:=h',toks:=tk} where
 ok:=I.ok
 os:=I.os
 bare:=I.bare
 base:=by
  have ne: ∀b o,X.s₀.heap.get? b=some o→b≠X.env.locals:=fun b o q z=>by
   rw[z] at q
   exact absurd (Heap.lt_size q) (Nat.not_lt.mpr I.ok.above)
  refine⟨fun b o q n hn hx=> (sb.2 b (ne b o q)).trans (I.base.keep b o q n hn hx),fun b o q n hn hx=> ?_,I.base.free,fun b o q hx=> ?_,I.base.eR,I.base.eS,I.base.fN⟩
  ·obtain⟨sl,e⟩:=I.base.slot b o q n hn hx
   exact⟨sl,(sb.2 b (ne b o q)).trans e⟩
  ·obtain⟨o',e⟩:=I.base.there b o q hx
   exact⟨o',(sb.2 b (ne b o q)).trans e⟩
 loc:=⟨m',hn,fun i x v h1 h2=>by
  rw[List.getElem?_replicate] at h2
  split at h2<;>cases h2⟩
 cell:=fun x c h=>by
  obtain⟨v,o,e,d⟩:=I.cell x c h
  refine⟨v,o,(sb.2 c (fun z=> ?_)).trans e,d⟩
  obtain⟨m,⟨o2,es,ep,e2,d2,_⟩,_⟩:=I.loc
  rw[z,e2] at e
  cases e
  rw[d] at d2
  cases d2
 free:=I.free
 gu:=I.gu
 pin:=fun p hp=>by
  obtain⟨a,b,c,d,e⟩:=I.pin p hp
  exact⟨(sb.2 _ c).trans a,b,c,d,e⟩
 aE:=I.aE.xu fun b u hb hu=> (sb.2 b (fun z=>hb (by rw[z];exact I.free))).trans hu
 len:=List.length_replicate
theorem UL{x n:Str}{C:Addr}{i:Nat}{body:List Stmt}{b₀:Stmt}{Bp:List Stmt}{tb:XK→TS}{th:Addr→TS}{np xy pos:Pos}(je:X.stack=X.env::X.outer)(uc:X.env.frame=some X.env.locals)(hex:X.ex=[])
  (Bm:Gl X x) (hd:(x==("__debug__":Str))=false) (lj:X.mg x=some (.ref C)) (nd:X.N.Nodup) (hN:X.N[i]?=some n) (wQ:X.env.scope.names.lookup n=some .local)
  (hb: ∀(pn:List (Addr×Obj)) (xe:Value→Shared→Prop) (E:XK),PassesOwn (model X.prog X.w) X.A X.env xe→Passes (eL X.prog X.w) (X.alt X.A X.calm pn xe) E→dz (X.alt X.A X.calm pn xe) body (tb E))
  (hh: ∀(ea:Addr) (pn:List (Addr×Obj)),dz (X.alt (X.A.mark (some (.ref ea))) false pn fun _ _=>False) (b₀::Bp) (th ea)):
  PS X (.Try body [.ExceptHandler (some (.Name x np)) (some n) (b₀::Bp) xy] [] [] pos) (xg X.K C i X.N.length tb th):=by
 intro pins s σ H D I h
 refine wpAny_Try_except ?_
 have P1:Passes (eL X.prog X.w) (X.alt X.A X.calm (X.pn++pins) fun e s₁=>wpAny (model X.prog X.w) X.A (noteFrame e X.env) (fun _ s₂=>wpAny (model X.prog X.w) X.A (setFlight e none) (fun _ s₃=>wpAny (model X.prog X.w) X.A (handleBy e X.env [.ExceptHandler (some (.Name x np)) (some n) (b₀::Bp) xy]) (SP X pins D) X.xe s₃) X.xe s₂) X.xe s₁) (Ir X.K C i X.N.length th D):=by
  intro iI σ' H1 s1 e' s' I1 hx
  obtain⟨ea,cls,t,B,H',rfl,os,bare,u,aE,fl,ub,jj,c1,c2,hm,UM⟩:=hx
  have UN:X.A.frames=some (X.env::X.outer):=by rw[I.ok.frames,je]
  have g_:Heap.FlyingW B (X.env::X.outer) ea cls (.ref t) s'.heap:=by rw[←je];exact fl
  refine wpAny_mono (ua IP ub (wpAny_looks_onW (Q:=fun _ gA=> ∃h',gA={s' with heap:=h'}∧Heap.HeldW B (X.env::X.outer) ea cls (.ref t) X.env.locals h'∧s'.heap.UpToSlots h') (E:=fun _ _=>False) UN uc g_ fun h4 j2 Bq=> ⟨h4,rfl,j2,Bq⟩))
   (fun _ s4 hq=> ?_) (fun _ _ z=>z.1.elim)
  obtain⟨⟨h4,rfl,j2,Bq⟩,UO⟩:=hq
  refine wpAny_mono (ua Bi UO (wpAny_landsW (s:={s' with heap:=h4}) (Q:=fun _ gA=> ∃h',gA={s' with heap:=h'}∧Heap.FlyingW B (X.env::X.outer) ea cls (.ref t) h'∧h4.UpToSlots h') (E:=fun _ _=>False) j2 fun h5 qq Br=> ⟨h5,rfl,qq,Br⟩))
   (fun _ s5 hq=> ?_) (fun _ _ z=>z.1.elim)
  obtain⟨⟨h5,rfl,UP,Br⟩,UQ⟩:=hq
  have qq:Heap.FlyingW B X.stack ea cls (.ref t) h5:=by rw[je];exact UP
  obtain⟨u5,IT,Bs,Bt⟩:=IS (l:=X.stack) u aE fl.2.2.1 c1 c2 qq.1 (Bq.trans Br)
  obtain⟨oe,ws,UR,US,am9,am_⟩:=qq.first
  have I5:=I1.zK (s':={s' with heap:=h5}) (ch:=[]) os u5 IT bare (fun b z=>absurd z List.not_mem_nil)
  refine wpAny_handleBy_cons (codeAny_handlers_test ?_) (by intro q;cases q)
  have sU:Inv (X.alt (X.A.mark (some (.ref ea))) false (X.pn++pins) fun _ _=>False) [] σ' H' {s' with heap:=h5}:=I5.alt (A':=X.A.mark (some (.ref ea))) (qp:=false) (oP:=X.pn++pins) (iI:=[]) rfl (fun z=>nomatch z) (fun p hp=>List.mem_append.mpr (.inl (by rw[List.append_nil] at hp;exact hp)))
  refine sM sU Bm lj ?_ hd
  have LT:PySem.W.Looks (model X.prog X.w) h5 (typeOf (.ref ea)) cls:=by
   subst US
   exact(PySem.W.Looks.ld UR).andThen .now
  refine(PySem.W.exm_one I5.cT LT hm).here ?_
  refine codeAny_handlers_suite_as ?_
  refine wpAny_mono (ua Bi UQ (lands_againW (s:={s' with heap:=h5}) (Q:=fun _ gA=> ∃h',gA={s' with heap:=h'}∧Heap.FlyingW B X.stack ea cls (.ref t) h'∧h5.UpToSlots h') (E:=fun _ _=>False) qq fun h6 qr Bu=> ⟨h6,rfl,qr,Bu⟩))
   (fun _ s6 hq=> ?_) (fun _ _ z=>z.1.elim)
  obtain⟨⟨h6,rfl,qr,Bu⟩,UT⟩:=hq
  obtain⟨u6,UU,IU,Bv⟩:=IS (l:=X.stack) u5 IT qq.2.2.1 Bs Bt qr.1 Bu
  obtain⟨qt,IV,xB,UW,Bw,_⟩:=qr.first
  have UX:AK qt cls IV:=by
   obtain⟨o',vs',q1,q2,q3,q4⟩:=UT
   have j3:h6.get? ea=some o':=q1
   rw[xB] at j3
   cases j3
   rw[Bw] at q2
   cases q2
   exact⟨UW,Bw,q3,q4⟩
  have ne1:s1.heap.get? ea=none:=by
   cases q:s1.heap.get? ea with
   | none=>rfl
   | some o1=>
    by_cases IW:ea∈br X.stack
    ·obtain⟨o2,ic,hd2⟩:=(qr.2.2.1.mem IW).2
     rw[xB] at ic
     cases ic
     exact(hd2 _ Bw).elim
    ·have:=Bv ea o1 q IW qt xB
     rw[qr.2.1] at this
     cases this
  have u7:Un (br X.stack) [] H1 (upd H' ea (.bz qt jX)) s1.heap h6:=⟨u6.keep,u6.slot,fun b o q n hx=>by
    rw[aG (fun z=>by rw[z,ne1] at q;cases q)];exact u6.free b o q n hx,u6.there,fun b xs q=>by
    have q':=u6.eR b xs q
    rw[aG (bD q' jj)];exact q',fun b o v q=>by
    have q':=u6.eS b o v q
    rw[aG (bD q' jj)];exact q',fun b ps q=>by
    obtain⟨more,q'⟩:=u6.fN b ps q
    exact⟨more,by rw[aG (bD q' jj)];exact q'⟩⟩
  have UY:bN X.prog X.w (upd H' ea (.bz qt jX)) h6:=UU.more jj (UJ xB)
  have I7:=I1.zK (s':={s' with heap:=h6}) (ch:=[]) os u7 UY bare (fun b z=>absurd z List.not_mem_nil)
  have I8:Inv (X.alt (X.A.mark (some (.ref ea))) false (X.pn++pins) fun _ _=>False) [] σ' (upd H' ea (.bz qt jX)) {s' with heap:=h6}:=I7.alt (A':=X.A.mark (some (.ref ea))) (qp:=false) (oP:=X.pn++pins) (iI:=[]) rfl (fun z=>nomatch z) (fun p hp=>List.mem_append.mpr (.inl (by rw[List.append_nil] at hp;exact hp)))
  refine zJ (X:=X.alt (X.A.mark (some (.ref ea))) false (X.pn++pins) fun _ _=>False) (v:= .ref ea) I8 nd hN (.inl wQ) rfl (fun s9 I9=> ?_) (.inr wQ)
  refine wpAny_mono (hh ea (X.pn++pins) [] s9 _ _ {nx:=fun _ _=>False,rt:=D.rt} I9 (UM ea qt IV σ' jj I1.len UX)) (fun f jm hs=> ?_) fun _ _ z=>z.elim
  cases f with
  | next=>obtain⟨_,_,_,z⟩:=hs;exact z.elim
  | brk=>obtain⟨_,_,_,z⟩:=hs;exact z.elim
  | cont=>obtain⟨_,_,_,z⟩:=hs;exact z.elim
  | ret v=>
   obtain⟨v',UZ,Bx,U0,r,q⟩:=hs
   have IX:Inv X pins UZ Bx jm:=U0.Bo I.ok (fun p hp=>by simpa using hp)
   obtain⟨m,hn,_⟩:=IX.loc
   refine wpAny_nameGoes wQ hn (by rw[I.ok.kind];rfl) fun h' m' zH sb=> ?_
   exact⟨v',_,Bx,IX.UK zH sb,r,q⟩
 refine wpAny_mono (hb _ _ _ PassesOwn.looking P1 [] s σ H {nx:=D.nx,rt:=D.rt} (I.alt rfl I.ok.hd (fun p hp=>by simpa using hp)) h) (fun f s1 hs=> ?_) fun e' s' hx=>hx
 cases f with
 | next=>
  obtain⟨σ',H',I',q⟩:=hs
  exact Gg pins s1 σ' H' D (I'.Bo I.ok (fun p hp=>by simpa using hp)) q
 | brk=>obtain⟨_,_,_,z⟩:=hs;exact z.elim
 | cont=>obtain⟨_,_,_,z⟩:=hs;exact z.elim
 | ret v=>
  obtain⟨v',σ',H',I',r,q⟩:=hs
  exact⟨v',σ',H',I'.Bo I.ok (fun p hp=>by simpa using hp),r,q⟩
end
def gG(A:Around)(H:Hp):Prop:= ∃e D,A.handled=some (.ref e)∧ExcAt H e D
def Hd(X:Cx):Prop:=gG X.A X.H₀
theorem ExcAt.keeps{H H':Hp}{e D:Addr}(h:ExcAt H e D)(k: ∀b o u,H b=some (.bz o u)→H' b=some (.bz o u)):ExcAt H' e D:=by
 obtain⟨ob,vs,h1,h2⟩:=h
 exact⟨ob,vs,k _ _ _ h1,h2⟩
theorem gG.keeps{A:Around}{H H':Hp}(h:gG A H)(k: ∀b o u,H b=some (.bz o u)→H' b=some (.bz o u)):gG A H':=by
 obtain⟨e,D,h1,h2⟩:=h
 exact⟨e,D,h1,h2.keeps k⟩
theorem gG.ni{P:Program}{w:World}{A:Around}{H:Hp}{h:Heap}(x:gG A H)(ok:bN P w H h):il A h:=by
 obtain⟨e,D,h1,ob,vs,h2,h3⟩:=x
 exact .inr ⟨e,ob,vs,h1,(ok e _ h2).1,h3.data,h3.Tq⟩
section
variable {X:Cx} {pins:List (Addr×Obj)} {σ:St} {H:Hp} {s:Shared}
theorem Hd.at(h:Hd X)(I:Inv X pins σ H s):gG X.A H:=gG.keeps h I.base.eS
theorem Hd.ni(h:Hd X)(I:Inv X pins σ H s):il X.A s.heap:=(h.at I).ni I.aE
end
theorem U1{P:Program}{w:World}{K:Frag}{tg:Expr}(a it:Addr):Az Hd P w K tg (eT K a) [it] it (fun i h=>h.IsListIter it a i) where
 mem:=by simp
 obj:=(wy (P:=P) (w:=w) (K:=K) (tg:=tg) a it).obj
 keep:=(wy (P:=P) (w:=w) (K:=K) (tg:=tg) a it).keep
 item:=by
  intro X hP hw hK hc i pins s σ H E I hf st hg
  subst hP hw hK
  obtain⟨xs,x,hq,hx⟩:=hg
  obtain⟨its,rv,p,hz⟩:=I.list hq
  obtain⟨u,hu,ru⟩:=rv.get hx
  obtain⟨f0,f1,f2,f3,f4,f5⟩:=hf it (by simp)
  refine wpAny_pyNext_list_item st p.isList (x:=u) (by simpa using hu) fun h' eU sb=> ?_
  have I1:Inv X pins σ H {s with heap:=h'}:=I.turned (t':=s.toks) (fun b o hb e=> (sb.2 b hb).trans e) f0 f1 f3 f4 f5
  obtain⟨o,e,c,d⟩:=id eU
  exact⟨u,rfl,zP (s:={s with heap:=h'}) e c d (by decide) ⟨x,H,I1,ru,⟨rfl,fun ys hy=>by rw[I.sN hy hq];exact hx⟩,eU,fun b hb=> (hf b hb).1⟩⟩
 done:=by
  intro X hP hw hK hc i pins s σ H E I hf st hg
  subst hP hw hK
  obtain⟨xs,hq,hx⟩:=hg
  obtain⟨its,rv,p,hz⟩:=I.list hq
  obtain⟨f0,f1,f2,f3,f4,f5⟩:=hf it (by simp)
  have hl:=rv.length
  exact Uj (hc.ni I) st p.isList (by simp;omega) fun h' eb=> ⟨rfl,I.turned (t':=s.toks) (fun b o hb e=>eb b o hb e) f0 f1 f3 f4 f5⟩
 self:=(wy (P:=P) (w:=w) (K:=K) (tg:=tg) a it).self
section
variable {X:Cx} {tg:Expr}
theorem U3{l:Expr}{tl:TE}(hl:PE X l tl):wX Hd X tg l (sS X.K tl):=by
 intro pins s σ H R I h
 refine aK (hl pins s σ H _ I h) fun v s1 ⟨x,H1,I1,r1,q1⟩=> ?_
 obtain⟨a,e,⟨xs,hq⟩,q⟩:=q1
 subst e
 cases r1
 obtain⟨its,rv,p,hz⟩:=I1.list hq
 refine wpAny_pyIter_list p.isList ?_
 refine⟨s1.heap.objs.size,[s1.heap.objs.size],_,_,H1,rfl,I1.kept (t':=s1.toks) fun b o e=>Heap.get?_push_of_some _ e,U1 a _,⟨_,Heap.get?_push_size _ rfl,rfl,rfl⟩,fun b hb=> ?_,q⟩
 have e:b=s1.heap.objs.size:=by simpa using hb
 subst e
 exact I1.sQ (Nat.le_refl _) (I1.aE.fresh (Nat.le_refl _))
theorem U4{pos:Pos}{es:List Expr}{k:Nat}{t:jd}{n:Nat}(hd:Hd X)(h:ou X es t)
  (hn:(assignEach es X.env).length=n:=by rfl) (je:(assignEach es X.env).findIdx? (·.1)=none:=by rfl):PG X (.Tuple es k pos) (sP X.K n t):=by
 intro pins s σ H v u Q I r hw
 obtain⟨a,xs,e1,hq,hl,hw⟩:=hw
 subst e1
 cases r
 obtain⟨its,rv,ht,hz⟩:=I.tuple hq
 refine Uo (hd.ni I) ht (by simp[hn,←hl,rv.length]) je fun h' hx=> ?_
 have I1:Inv X pins σ H {s with heap:=h'}:=I.kept (t':=s.toks) fun b o e=>hx b o (Nat.ne_of_lt (Heap.lt_size e)) e
 exact h pins _ σ H xs _ Q I1 (by simpa using rv) hw
theorem U5{scope:Scope}{fv:List (Str×Nat)}{x y:Str}{px py pos:Pos}{k:Nat}(hx:scope.names.lookup x=some .local)(hy:scope.names.lookup y=some .local)(g7:(x::y::fv.map (·.1)).Nodup):wY (gG X.A) X scope [x,y] fv (.Tuple [.Name x px, .Name y py] k pos) (some 2):=by
 intro ex C s H hH
 generalize eX:fV X scope ([x,y]++fv.map (·.1)) ex C s H=Xc
 have xN:Xc.N=x::y::fv.map (·.1):=by rw[←eX];rfl
 have xd:Hd Xc:=by rw[←eX];exact hH
 have lx:Xc.env.scope.names.lookup x=some .local:=by rw[←eX];exact lookup_relabel_local hx
 have ly:Xc.env.scope.names.lookup y=some .local:=by rw[←eX];exact lookup_relabel_local hy
 have p1:PG Xc (.Name x px) (c_ 0):=kJ (by rw[xN];exact g7) (by rw[xN];rfl) (.inl lx) (.inr lx)
 have p2:PG Xc (.Name y py) (c_ 1):=kJ (by rw[xN];exact g7) (by rw[xN];rfl) (.inl ly) (.inr ly)
 have xK:Xc.K=X.K:=by rw[←eX];rfl
 refine⟨sP Xc.K 2 (kN (c_ 0) (kN (c_ 1) sO)),U4 xd (mO p1 (mO p2 wx)),fun v pre φ H' Q hp h=> ?_⟩
 obtain⟨a,b,rfl⟩: ∃a b,pre=[a,b]:=by
  match pre,hp with
  | [a,b],_=>exact⟨a,b,rfl⟩
 obtain⟨a',xs,rfl,e2,e3,q⟩:=h
 obtain⟨v1,v2,rfl⟩: ∃v1 v2,xs=[v1,v2]:=by
  match xs,e3 with
  | [v1,v2],_=>exact⟨v1,v2,rfl⟩
 exact⟨a',_,rfl,by rw[xK];exact e2,rfl,v1,_,rfl,v2,_,rfl,rfl,q rfl⟩
theorem U6{X:Cx}: ∀H,gG X.A H→ ∀Xc:Cx,Xc.A=X.A→Xc.calm=X.calm→Xc.H₀=H→Hd Xc:=fun H h Xc a _ b=>by
 show gG Xc.A Xc.H₀
 rw[a,b];exact h
theorem U7:cc X (.builtin "isinstance") (jY X.K):=by
 intro pins s σ H xs us Q I r h
 match xs,h with
 | [.ref ea,c],h=>
  obtain⟨D,b,⟨ob,vs,h1,h2⟩,hC,hc,hk,hq⟩:=h
  cases r with
  | cons r1 r=>
   cases r with
   | cons r2 r=>
    cases r
    rename_i u1 u2
    cases (show u1=Value.ref ea from r1)
    have e2:u2=cV c:=by
     rcases hc with⟨C,rfl⟩ | ⟨n,rfl⟩
     ·exact r2
     ·exact r2
    subst e2
    have at_:=(I.aE ea _ h1).1
    have inst:InstAt s.heap ea ob D none:=⟨at_,h2.cls,by unfold PySem.W.notCls;rw[h2.data],by rw[h2.dict];trivial⟩
    exact kia_one (Us hC.tP hC.tQ hC.hk hC.ha hC.hn hC.mS hC.hm hC.hb) I.cT inst hk (fun z=>nomatch z) fun tk=> ⟨.bl b,H,I.tok tk,rfl,hq⟩
end
structure gH (k:Nat) (A:Around):Prop where
 dp:A.depth+3*k+5<recursionLimit
 un:A.units+16*k+200<cLine
theorem dh.h{k:Nat}{A:Around}(r:dh k A):gH k A:=⟨r.dp,r.un⟩
theorem gH.mark{k:Nat}{A:Around}(r:gH k A)(v:Option Value):gH k (A.mark v):=⟨r.dp,r.un⟩
theorem gH.deeper{k:Nat}{A:Around}(r:gH (k+1) A)(env:Env):gH k (A.deeper env):=
 ⟨by have:=r.dp;show A.depth+1+3*k+5<_;omega,by have:=r.un;show A.units+3+16*k+200<_;omega⟩
theorem gH.depth{k:Nat}{A:Around}(r:gH k A):A.depth<recursionLimit:=by have:=r.dp;omega
theorem gH.units{k:Nat}{A:Around}(r:gH k A):A.units+64<cLine:=by have:=r.un;omega
def U8(outer:List Env)(P:Program)(w:World)(H:Hp)(s:Shared)(Q:VK)(r:Result)(s':Shared):Prop:=
 match r with
 | .ok (.ret u)=>CE outer P w H s Q u s'
 | _=>False
structure oQ (P:Program) (w:World) (K:Frag) (mg:Str→Option Value) (base:Heap) (k:Nat) (f:Addr) (fd:FuncData) (ps:List Str) (sp:Sp):Prop where
 len: ∀vs H Q E,sp vs H Q E→vs.length=ps.length
 run: ∀(A:Around) (outer:List Env) (s:Shared) (H:Hp) (args:Args) (us:List Value) (vs:List V) (Q:VK),gH k A→gG A H→kS P w K mg base A outer s H→BindsTo s fd args (ps.zip us)→Vals vs us→sp vs H Q E0→
  codeAny (model P w) A (.call (.ref f) args) (U8 outer P w H s Q) s
theorem oQ.mono{P:Program}{w:World}{K:Frag}{mg:Str→Option Value}{base:Heap}{j k:Nat}{f:Addr}{fd:FuncData}{ps:List Str}{sp:Sp}(F:oQ P w K mg base j f fd ps sp)(h:j≤k):oQ P w K mg base k f fd ps sp:=
 ⟨F.len,fun A outer s H args us vs Q hr=>F.run A outer s H args us vs Q ⟨by have:=hr.dp;omega,by have:=hr.un;omega⟩⟩
def xD(CX:bU)(P:Program)(w:World)(K:Frag)(mg:Str→Option Value)(base:Heap)(N:List Str)(qual:Str)(scope:Scope)(f:Addr)(cd:Value)(A:Around)(outer:List Env)(s:Shared)(H:Hp):Cx:=
 (kU CX P w K mg base N qual scope f cd {A with handled:=none} outer s H E0).alt (A.deeper (envOfC qual scope s.heap.objs.size f cd)) false [] fun _ _=>False
theorem U9{CX:bU}{P:Program}{w:World}{K:Frag}{mg:Str→Option Value}{base:Heap}{k:Nat}{f:Addr}{name qual:Str}{params:Arguments}{body:List Stmt}{scope:Scope}{dV kV doc pm bK ct oc:Value}{an od:Option Addr}
  {ji:Array (Option Value)} {N ps:List Str} {sp:Sp} (lk:K.lookup f=some ⟨oc,od, .func (fnOf name qual params body scope dV kV doc pm an bK ct),ji⟩) (ia:codeIn K bK qual=true) (S:bA N ps scope)
  (len: ∀vs H Q E,sp vs H Q E→vs.length=ps.length)
  (zY: ∀(A:Around) (outer:List Env) (s:Shared) (H:Hp) (vs:List V) (Q:VK),gH k (A.deeper (envOfC qual scope s.heap.objs.size f bK))→gG A H→sp vs H Q E0→
   ∃t,dz (xD CX P w K mg base N qual scope f bK A outer s H) body t∧t {nx:=fun _ H'=>Q .aD H',rt:=Q} (start N vs) H):
  oQ P w K mg base (k+1) f (fnOf name qual params body scope dV kV doc pm an bK ct) ps sp:=by
 refine⟨len,fun A outer s H args us vs Q hr hh e0 hb r ib=> ?_⟩
 have hl:=len _ _ _ _ ib
 have KX:K.In s.heap:=e0.mod.om.keeps fun b o e=> (e0.bs b o e).1
 have lim:s.heap.NoLimit:=e0.mod.nolimit.keeps fun b o e=> (e0.bs b o e).1
 have zZ: ∀y∈ps.zip us,scope.names.lookup y.1=some .local∨(scope.names.lookup y.1=some .cell∧((cellsFrom (s.heap.objs.size+1) scope.names []).lookup y.1).isSome=true):=fun⟨n,v⟩ hy=>by
  rcases S.par n (List.of_mem_zip hy).1 with q | q
  ·exact .inl q
  ·exact .inr ⟨q,cellsFrom_some _ _ _ (.inl q)⟩
 refine codeAny_call_function hr.depth (KX _ _ lk) rfl S.co S.gen rfl (codeRec_of KX ia) (hb _ _ _ _ ?_)
 refine wpAny_newFunctionEnv_cells S.kind zZ fun env he s1 x=> ?_
 subst he
 refine⟨lim.keeps x.toInCall.keep,codeAny_func ?_⟩
 obtain⟨t,ht,hq⟩:=zY A outer s H vs Q (hr.deeper _) hh ib
 have U_:kS P w K mg base {A with handled:=none} outer s H:=⟨e0.frames,e0.mod,e0.bs,e0.mM,e0.iH,e0.oo,e0.aE,e0.bare⟩
 have I0:Inv (kU CX P w K mg base N qual scope f bK {A with handled:=none} outer s H E0) [] (start N vs) H s1:=G0 S rfl U_ hl r x
 have I:Inv (xD CX P w K mg base N qual scope f bK A outer s H) [] (start N vs) H s1:=I0.alt rfl (fun z=>nomatch z) (fun p hp=>hp)
 refine wpAny_mono (ht [] s1 (start N vs) H _ I hq) (fun fl s' hs=> ?_) fun e s' hs=>hs.elim
 have fin: ∀{σ':St} {H':Hp} {v:V} {u:Value},Inv (xD CX P w K mg base N qual scope f bK A outer s H) [] σ' H' s'→RelV v u→Q v H'→CE outer P w H s Q u s':=
  fun {σ' H' v u} J rv q=> ⟨v,H',J.os,J.bare,J.base,J.aE,rv,q⟩
 cases fl with
 | ret u=>
  obtain⟨v,σ',H',J,rv,q⟩:=hs
  exact fin J rv q
 | next=>
  obtain⟨σ',H',J,q⟩:=hs
  exact fin (v:=V.aD) (u:=Value.none) J rfl q
 | brk=>
  obtain⟨_,_,_,q⟩:=hs
  exact False.elim q
 | cont=>
  obtain⟨_,_,_,q⟩:=hs
  exact False.elim q
theorem Va{CX:bU}{P:Program}{w:World}{K:Frag}{mg:Str→Option Value}{base:Heap}{N:List Str}{qual:Str}{scope:Scope}{f:Addr}{cd:Value}{A:Around}{outer:List Env}{s:Shared}{H:Hp}(h:gG A H):Hd (xD CX P w K mg base N qual scope f cd A outer s H):=h
section
variable {X:Cx} {k:Nat} {f:Addr} {fd:FuncData} {ps:List Str} {sp:Sp} {x:Str} {p pos:Pos} {e:Expr} {ta:TE} {hv:Option Addr}
theorem Vb(F:oQ X.prog X.w X.K X.mg X.base k f fd ps sp)(hr:gH k X.A)(hg:Gl X x)(hm:X.mg x=some (.ref f))(hk:keepIn X.K (.ref f)=true)(hb:Binds X.K fd ps [])(hh: ∀e,hv=some e→X.A.handled=some (.ref e))
  (ha:PE X e ta) (hs:noStar e=true) (kT:(x==("__debug__":Str))=false):PE X (.Call (.Name x p) [e] [] pos) (Iq sp hv (di ta g5)):=by
 intro pins s σ H Q I h
 have he:starEach [e] X.env=(false,eval e X.env)::starEach [] X.env:=by cases e<;>first | rfl | cases hs
 refine wpAny_Call_Name_kw (sM I hg hm ?_ kT)
 have hA:PA X [e] (di ta g5):=iL ha mT he
 refine callWith_K (h₀:=X.base) I.ok.mod.om hk (aK (hA pos pins s σ H _ I h) fun us s1 ⟨vs,H1,I1,r,⟨ea,D,h1,h2⟩,q⟩=> ⟨I1.cT, ?_⟩) he rfl
 have r2:Vals vs us:=r
 have hl:us.length=ps.length:=by rw[←r2.length];exact F.len _ _ _ _ q
 have mZ:=hb s1 us I1.cT (by rw[List.append_nil];exact hl)
 rw[List.append_nil] at mZ
 refine wpAny_call (codeAny_mono (F.run X.A X.stack s1 H1 ⟨us,[]⟩ us vs Q hr ⟨ea,D,hh ea h1,h2⟩ I1.zV mZ r2 q) fun r s' hq=> ?_)
 cases r with
 | error e=>exact False.elim hq
 | ok fl=>
  cases fl with
  | ret u=>exact I1.after hq
  | next=>exact False.elim hq
  | brk=>exact False.elim hq
  | cont=>exact False.elim hq
end
def IY(CX:bU)(X:Cx)(x:Str)(sp:Sp):Prop:=
 ∃k f fd ps,cw X.prog X.w X.K X.mg X.base CX k f fd ps sp∧dh k X.A∧X.mg x=some (.ref f)∧keepIn X.K (.ref f)=true∧Binds X.K fd ps []
def By(CX:bU)(X:Cx)(C:Addr)(m:Str)(sp:Sp):Prop:=
 jg X.K C∧ ∃k f fd ps,Meth X.K C m f∧cw X.prog X.w X.K X.mg X.base CX k f fd ps sp∧dh k X.A∧Binds X.K fd ps []
def IZ(CX:bU)(X:Cx)(x:Str)(C:Addr)(sp:Sp):Prop:=
 ∃k f fd ps,Mk X.K C f∧cw X.prog X.w X.K X.mg X.base CX k f fd ps sp∧dh (k+1) X.A∧X.mg x=some (.ref C)∧Binds X.K fd ps []
def I_(X:Cx)(x:Str)(sp:Sp):Prop:=
 ∃k f fd ps,oQ X.prog X.w X.K X.mg X.base k f fd ps sp∧gH k X.A∧X.mg x=some (.ref f)∧keepIn X.K (.ref f)=true∧Binds X.K fd ps []
def Ja(X:Cx)(x:Str)(C:Addr):Prop:= ∃bm B newId qo,OwnCls x C bm newId X.mg X.base∧ExcBaseFacts B newId qo bm
structure Good (CX:bU) (S:cA) (Γ:aO) (X:Cx):Prop where
 N:X.N=S.N
 sc:X.env.scope=S.sc
 K:X.K=Γ.K
 calm:S.md=0→X.calm=true
 units:X.A.units+64<cLine
 fns:S.md=0→ ∀j x,S.fn[j]?=some x→IY CX X x (Γ.fs j)
 j4: ∀j x,S.gn[j]?=some x→ ∃u,X.mg x=some u∧RelV (Γ.gv j) u
 dF: ∀x,S.bl.contains x=true→X.mg x=none
 pass:Passes CX X Γ.E
 j5: ∀outer H s e s',CX outer H s E0 e s'→False
 lK: ∀p av,Γ.sd p av→ ∀h:Heap,X.K.In h→ ∃vs,KV av vs∧h.DictOf (dX X.prog X.w) p vs
 nj:S.md=0→ ∀j m,S.mn[j]?=some m→By CX X (Γ.ms j).1 m (Γ.ms j).2
 nk:S.md=0→ ∀j x,S.kn[j]?=some x→IZ CX X x (Γ.kt j).1 (Γ.kt j).2
 cQ: ∀j x,S.en[j]?=some x→Ja X x (Γ.ex j)
 lM: ∀j x,S.hn[j]?=some x→I_ X x (Γ.hs j)
 nq: ∀e,Γ.hv=some e→X.A.handled=some (.ref e)
 oR:S.md=1→Hd X
theorem xF{S:cA}(h:(if S.md=0 then 0 else 2)=0):S.md=0:=by
 split at h
 ·assumption
 ·cases h
section
variable {CX:bU} {S:cA} {Γ:aO} {X:Cx}
theorem Good.inner(G:Good CX S Γ X)(c:tX)(ln:List Str)(fv:List (Str×Nat))(ex:List Addr)(C:Addr)(s:Shared)(H:Hp):
  Good CX (II S c ln fv) Γ.calm (fV X c.sc (ln++fv.map (·.1)) ex C s H) where
 N:=rfl
 sc:=by
  show relabel c.sc X.env=A5 c.sc S.sc
  rw[←G.sc];rfl
 K:=G.K
 calm:=fun h=>G.calm (xF h)
 units:=G.units
 fns:=fun m j x h=>G.fns (xF m) j x h
 j4:=G.j4
 dF:=G.dF
 pass:=fun _ _ _ _ _ _ _ h=> (G.j5 _ _ _ _ _ h).elim
 j5:=G.j5
 lK:=G.lK
 nj:=fun z j m h=>G.nj (xF z) j m h
 nk:=fun z j x h=>G.nk (xF z) j x h
 cQ:=fun j x h=>by simp[II] at h
 lM:=fun j x h=>G.lM j x h
 nq:=fun e h=>G.nq e h
 oR:=fun h=>by
  have h':(if S.md=0 then 0 else 2)=1:=h
  split at h'<;>cases h'
theorem Good.gl(G:Good CX S Γ X){x:Str}(h:lF S.sc x=true):Gl X x:=by
 show X.env.scope.names.lookup x=_
 rw[G.sc];exact TL h
theorem cC{e:Expr}{es:List Expr}{env:Env}(h:noStar e=true):starEach (e::es) env=(false,eval e env)::starEach es env:=by
 cases e<;>first | rfl | cases h
theorem mW{o:Expr}{x:Str}{env:Env}(h:oO o=true):attributeBase o x env (eval o env)=eval o env:=by
 unfold attributeBase
 split
 ·cases h
 ·rfl
theorem ue{e:Expr}{env:Env}(h:tY e=true): ∀x,foldedSetIterable e env x=pure x:=by
 intro x
 cases e<;>first | rfl | cases h
def d4(es:List Expr):Bool:=es.all noStar
theorem gI(env:Env)(pos:Pos): ∀(es:List Expr),d4 es=true→(backTo pos (starEach es env)).any (·.1)=false
 | [],h=>rfl
 | e::es,h=>by
  simp only[d4,List.all_cons,Bool.and_eq_true] at h
  rw[cC h.1]
  have ih:=gI env pos es h.2
  show(false || (backTo pos (starEach es env)).any (·.1))=false
  rw[ih];rfl
theorem xG(env:Env)(pos:Pos): ∀(es:List Expr),d4 es=true→(backTo pos (starEach es env)).all (fun x=> !x.1)=true
 | [],h=>rfl
 | e::es,h=>by
  simp only[d4,List.all_cons,Bool.and_eq_true] at h
  rw[cC h.1]
  have ih:=xG env pos es h.2
  show(!false && (backTo pos (starEach es env)).all (fun x=> !x.1))=true
  rw[ih];rfl
theorem cg{e:Expr}{es:List Expr}(h:d4 (e::es)=true):noStar e=true∧d4 es=true:=by
 simp only[d4,List.all_cons,Bool.and_eq_true] at h
 exact h
theorem Bz(G:Good CX S Γ X){c:tX}{ln:List Str}{fv:List (Str×Nat)}(h:xo S c ln fv=true):
  jT X c.sc ln fv∧(∀x∈ln,c.sc.names.lookup x=some .local)∧(ln++fv.map (·.1)).Nodup∧tY c.iter=true:=by
 simp only[xo,Bool.and_eq_true,decide_eq_true_eq,List.all_eq_true,Bool.or_eq_true] at h
 obtain⟨⟨⟨⟨⟨⟨⟨h1,h2⟩,h3⟩,h4⟩,h5⟩,h6⟩,h7⟩,h8⟩:=h
 refine⟨⟨h1,fun y hy=>h2 y hy,fun y hy hl=> ?_,fun y hy hf=> ?_,fun p hp=> ?_⟩,h6,h7,h8⟩
 ·rcases h3 y hy with z | z
  ·exact absurd hl z
  ·exact z
 ·show X.env.scope.names.lookup y.1=_∨X.env.scope.names.lookup y.1=_
  rw[G.sc]
  rcases h4 y hy with(z | z) | z
  ·exact absurd hf z
  ·exact .inl z
  ·exact .inr z
 ·rw[G.N];exact h5 p hp
theorem Vc(hc:X.calm=true){c:tX}{tk:Option Nat}{ln:List Str}{fv:List (Str×Nat)}(h:A7 tk c.tg=some ln)(hl: ∀x∈ln,c.sc.names.lookup x=some .local)(hn:(ln++fv.map (·.1)).Nodup):
  tH X c.sc ln fv c.tg tk:=by
 unfold A7 at h
 split at h
 ·rename_i x p he
  cases h
  rw[he]
  exact SQ (hl x (by simp)) hn
 ·rename_i x p y q k pos he
  cases h
  rw[he]
  exact SS hc (hl x (by simp)) (hl y (by simp)) hn
 ·cases h
theorem Vd{xs:List V}{H:Hp}{Q:VK}{K:Frag}(h:ql K .int xs H Q):(∃i,xs=[.int i]∧Q (.int i) H)∨ ∃k,xs=[.bl k]∧Q (.int (if k then 1 else 0)) H:=by
 match xs,h with
 | [.int i],h=>exact .inl ⟨i,rfl,h⟩
 | [.bl k],h=>exact .inr ⟨k,rfl,h⟩
theorem Ve{K:Frag}{x:V}{H:Hp}{Q:Nat→Prop}(h:tE K x H Q): ∃n,GN K x H n∧Q n:=by
 match x,h with
 | .str y,h=>exact⟨_,⟨h.1,rfl⟩,h.2⟩
 | .ref p, .inl ⟨xs,a,b⟩=>exact⟨_, .inl ⟨xs,a,rfl⟩,b⟩
 | .ref p, .inr ⟨xs,a,b⟩=>exact⟨_, .inr ⟨xs,a,rfl⟩,b⟩
inductive Vf (X:Cx) (b:m5):Prop where
 | fn (id:String) (hv:bootBuiltins b.nm=some (.builtin id)) (hc:cc X (.builtin id) (ql X.K b))
 | ty (T:String) (hv:bootBuiltins b.nm=some (.type T)) (hc:cc X (.type T) (ql X.K b))
theorem boot_min:bootBuiltins "min"=some (.builtin "min"):=by decide+kernel
theorem boot_max:bootBuiltins "max"=some (.builtin "max"):=by decide+kernel
theorem boot_abs:bootBuiltins "abs"=some (.builtin "abs"):=by decide+kernel
theorem boot_sum:bootBuiltins "sum"=some (.builtin "sum"):=by decide+kernel
theorem Jb:bootBuiltins "isinstance"=some (.builtin "isinstance"):=by decide+kernel
theorem Vg:bootBuiltins "int"=some (.type "int"):=by decide+kernel
theorem Vh:bootBuiltins "list"=some (.type "list"):=by decide+kernel
theorem Vi:bootBuiltins "tuple"=some (.type "tuple"):=by decide+kernel
theorem uf(f:Nat→Int)(lt:Nat→Nat→Bool)(h: ∀i j,lt i j=decide (f i<f j)): ∀n,argBest lt n≤n∧ ∀i,i≤n→f (argBest lt n)≤f i
 | 0=> ⟨Nat.le_refl _,fun i hi=>by
   obtain rfl:i=0:=by omega
   exact Int.le_refl _⟩
 | n+1=>by
  obtain⟨a,b⟩:=uf f lt h n
  have e:argBest lt (n+1)=if lt (n+1) (argBest lt n)=true then n+1 else argBest lt n:=rfl
  rw[e,h]
  split
  ·rename_i q
   have q:=of_decide_eq_true q
   refine⟨Nat.le_refl _,fun i hi=> ?_⟩
   by_cases z:i=n+1
   ·rw[z];exact Int.le_refl _
   ·have:=b i (by omega);omega
  ·rename_i q
   have q: ¬f (n+1) <f (argBest lt n):=fun z=>q (decide_eq_true z)
   refine⟨by omega,fun i hi=> ?_⟩
   by_cases z:i=n+1
   ·rw[z];omega
   ·exact b i (by omega)
theorem Jc{xs:Array (Int×Tok)}{i:Nat}(h:i<xs.size):numAt xs i=xs[i].1:=by
 unfold numAt
 rw[Array.getElem?_eq_getElem h];rfl
theorem xH{xs:Array (Int×Tok)}{i:Nat}(h:i<xs.size):numAt xs i∈xs.toList.map (·.1):=by
 rw[Jc h]
 exact List.mem_map.mpr ⟨xs[i],by simp,rfl⟩
theorem xI{xs:Array (Int×Tok)}{n:Int}(h:n∈xs.toList.map (·.1)): ∃i,i<xs.size∧n=numAt xs i:=by
 obtain⟨y,hy,rfl⟩:=List.mem_map.mp h
 obtain⟨i,hi,rfl⟩:=List.getElem_of_mem hy
 have bV:i<xs.size:=by simpa using hi
 exact⟨i,bV,by rw[Jc bV];simp⟩
theorem Jd{pins:List (Addr×Obj)}{σ:St}{H:Hp}{s:Shared}{p:Addr}{ns:List Int}(I:Inv X pins σ H s)(hq:aq X.K H p (ns.map V.int)): ∃xs:Array (Int×Tok),s.heap.IsList p (intItems xs)∧ns=xs.toList.map (·.1):=by
 obtain⟨its,rv,pl,hz⟩:=I.list hq
 have hi:=intsAre_of rv
 obtain⟨xs,hx⟩:=hi.allInts.items
 refine⟨xs,hx ▸ pl.isList, ?_⟩
 rw[←nums_intItems,←hx]
 exact(show numsOf its.toArray.toList=ns from hi.numsOf).symm
theorem Vj(hc:X.calm=true):cc X (.builtin "min") (fun xs H Q=> ∃(p:Addr) (ns:List Int),xs=[.ref p]∧aq X.K H p (ns.map V.int)∧ns≠ []∧ ∀m:Int,m∈ns→(∀n∈ns,m≤n)→Q (.int m) H):=by
 intro pins s σ H xs us Q I r h
 obtain⟨p,ns,rfl,hq,cP,q⟩:=h
 obtain⟨u,rfl,ru⟩:=vals1 r
 cases ru
 obtain⟨xs,hl,rfl⟩:=Jd I hq
 have sz:0<xs.size:=Nat.pos_of_ne_zero fun z=>cP (by rw[Array.eq_empty_of_size_eq_zero z];rfl)
 refine min_intList (I.ok.hd hc) hl sz fun v h' tk hv hk=> ?_
 obtain⟨t,rfl⟩:=intItems_at hv
 obtain⟨b1,b2⟩:=uf (numAt xs) (fun i j=>decide (numAt xs i<numAt xs j)) (fun _ _=>rfl) (xs.size - 1)
 refine⟨.int _,H,I.kept (t':=tk) hk,⟨t,rfl⟩,q _ (xH (by omega)) fun n hn=> ?_⟩
 obtain⟨i,hi,rfl⟩:=xI hn
 exact b2 i (by omega)
theorem Vk(hc:X.calm=true):cc X (.builtin "max") (fun xs H Q=> ∃(p:Addr) (ns:List Int),xs=[.ref p]∧aq X.K H p (ns.map V.int)∧ns≠ []∧ ∀m:Int,m∈ns→(∀n∈ns,n≤m)→Q (.int m) H):=by
 intro pins s σ H xs us Q I r h
 obtain⟨p,ns,rfl,hq,cP,q⟩:=h
 obtain⟨u,rfl,ru⟩:=vals1 r
 cases ru
 obtain⟨xs,hl,rfl⟩:=Jd I hq
 have sz:0<xs.size:=Nat.pos_of_ne_zero fun z=>cP (by rw[Array.eq_empty_of_size_eq_zero z];rfl)
 refine max_intList (I.ok.hd hc) hl sz fun v h' tk hv hk=> ?_
 obtain⟨t,rfl⟩:=intItems_at hv
 obtain⟨b1,b2⟩:=uf (fun i=> - numAt xs i) (fun i j=>decide (numAt xs i>numAt xs j)) (fun i j=>decide_eq_decide.mpr (by omega)) (xs.size - 1)
 refine⟨.int _,H,I.kept (t':=tk) hk,⟨t,rfl⟩,q _ (xH (by omega)) fun n hn=> ?_⟩
 obtain⟨i,hi,rfl⟩:=xI hn
 have:=b2 i (by omega)
 omega
theorem Je{x:Str}{acc:Array Value}(h:ItemsOf (SignAt x) acc x.cps.size):Vals (signs x) acc.toList:=by
 have go: ∀(l:List Nat) (us:List Value),us.length=l.length→(∀(j:Nat) (v:Value),us[j]?=some v→ ∃(c:Nat) (t:Tok),l[j]?=some c∧v=Value.str ⟨#[c]⟩ t)→Vals (l.map fun c=>V.str ⟨#[c]⟩) us:=by
  intro l
  induction l with
  | nil=>
   intro us hl _
   rw[List.length_eq_zero_iff.mp hl]
   exact .nil
  | cons c l ih=>
   intro us hl hv
   cases us with
   | nil=>cases hl
   | cons u us=>
    obtain⟨c',t,e1,e2⟩:=hv 0 u rfl
    have oJ:c=c':=by simpa using e1
    subst oJ
    exact .cons ⟨t,e2⟩ (ih us (by simpa using hl) fun j v hj=>by
     obtain⟨c2,t2,g1,g2⟩:=hv (j+1) v (by simpa using hj)
     exact⟨c2,t2,by simpa using g1,g2⟩)
 refine go x.cps.toList acc.toList ?_ fun j v hj=> ?_
 ·have:=h.1;simpa using this
 ·obtain⟨c,t,e1,e2⟩:=h.2 j v (by simpa using hj)
  exact⟨c,t,by simpa using e1,e2⟩
theorem Jf(x:Str):(signs x).length=x.length:=by simp[signs,Str.length]
theorem Vl(hc:X.calm=true):cc X (.type "list") (fun xs H Q=> ∃x,xs=[.str x]∧x.length≤sizeLine∧ ∀l,H l=none→Q (.ref l) (upd H l (.lst (signs x)))):=by
 intro pins s σ H xs us Q I r h
 obtain⟨x,rfl,hx,q⟩:=h
 obtain⟨u,rfl,t,rfl⟩:=vals1 r
 refine call_list_str (I.ok.hd hc) x t (fun h' tk Ax c' hk e BA=> ?_) hx
 have rv:=Je BA
 exact⟨.ref s.heap.objs.size,_,I.laid (t':=tk) hk (Nat.le_refl _) (show cm X.prog X.w _ h' _ (.lst (signs x)) from⟨by rw[Jf];exact hx,Ax.toList,c',rv,by simpa using e⟩),rfl,q _ (I.aE.fresh (Nat.le_refl _))⟩
theorem Vm(hc:X.calm=true):cc X (.type "tuple") (fun xs H Q=> ∃x,xs=[.str x]∧x.length≤sizeLine∧ ∀l,H l=none→Q (.ref l) (upd H l (.tup (signs x)))):=by
 intro pins s σ H xs us Q I r h
 obtain⟨x,rfl,hx,q⟩:=h
 obtain⟨u,rfl,t,rfl⟩:=vals1 r
 refine call_tuple_str (I.ok.hd hc) x t (fun h' tk acc hk BA=> ?_) hx
 have rv:=Je BA
 have I1:Inv X pins σ H {s with heap:=h',toks:=tk}:=I.kept (t':=tk) hk
 have I2:Inv X pins σ (upd H h'.objs.size (.tup (signs x))) {s with heap:=h'.push {cls:= .type "tuple",data:= .seq acc},toks:=tk}:=
  I1.laid (t':=tk) (fun b o e=>Heap.get?_push_of_some _ e) (Nat.le_refl _) (show cm X.prog X.w _ _ _ (.tup (signs x)) from⟨by rw[Jf];exact hx,acc.toList,rv,by simpa using IsTup.new _ _⟩)
 exact⟨.ref h'.objs.size,_,I2,rfl,q _ (I1.aE.fresh (Nat.le_refl _))⟩
theorem Vn(hc:X.calm=true)(b:m5):Vf X b:=by
 cases b with
 | len=>exact .fn "len" boot_len (cc.imp Qo fun xs H Q h=>by
   rcases xs with _ | ⟨x,_ | ⟨_,_⟩⟩ <;> (try exact False.elim h)
   obtain⟨n,h1,h2⟩:=Ve (Q:=fun n=>Q (.int n) H) h;exact⟨x,n,rfl,h1,h2⟩)
 | min=>exact .fn "min" boot_min (cc.imp ((Qm hc).or (Vj hc)) fun xs H Q h=>by
   match xs,h with
   | [.int i, .int j],h=>exact .inl ⟨i,j,rfl,h⟩
   | [.ref p],⟨ns,h1,h2,h3⟩=>exact .inr ⟨p,ns,rfl,h1,h2,h3⟩)
 | max=>exact .fn "max" boot_max (cc.imp ((Ql hc).or (Vk hc)) fun xs H Q h=>by
   match xs,h with
   | [.int i, .int j],h=>exact .inl ⟨i,j,rfl,h⟩
   | [.ref p],⟨ns,h1,h2,h3⟩=>exact .inr ⟨p,ns,rfl,h1,h2,h3⟩)
 | sum=>exact .fn "sum" boot_sum (cc.imp (Tg hc) fun xs H Q h=>by
   rcases xs with _ | ⟨x,_ | ⟨_,_⟩⟩ <;> (try exact False.elim h) <;>cases x<;> (try exact False.elim h)
   obtain⟨ns,h1,h2⟩:=h;exact⟨_,ns,rfl,h1,h2⟩)
 | abs=>exact .fn "abs" boot_abs (cc.imp Qk fun xs H Q h=>by
   rcases xs with _ | ⟨x,_ | ⟨_,_⟩⟩ <;> (try exact False.elim h) <;>cases x<;> (try exact False.elim h)
   exact⟨_,rfl,h⟩)
 | int=>exact .ty "int" Vg (cc.imp Qn fun xs H Q h=>Vd h)
 | list=>exact .ty "list" Vh (cc.imp (Rn.or (Vl hc)) fun xs H Q h=>by
   rcases xs with _ | ⟨x,_ | ⟨_,_⟩⟩ <;> (try exact False.elim h) <;>cases x<;> (try exact False.elim h)
   ·exact .inr ⟨_,rfl,h.1,h.2⟩
   ·obtain⟨ys,h1,h2⟩:=h;exact .inl ⟨_,ys,rfl,h1,h2⟩)
 | tuple=>exact .ty "tuple" Vi (cc.imp (Ro.or (Vm hc)) fun xs H Q h=>by
   rcases xs with _ | ⟨x,_ | ⟨_,_⟩⟩ <;> (try exact False.elim h) <;>cases x<;> (try exact False.elim h)
   ·exact .inr ⟨_,rfl,h.1,h.2⟩
   ·obtain⟨ys,h1⟩:=h;exact .inl ⟨_,ys,rfl,h1⟩)
structure Vo (X:Cx) (m:ig) (id:String):Prop where
 pa:PlainAttrs (xn m)
 slot:Slot (xn m) m.nm id
 ty:typeOf (.builtin id)=pure (.type "method_descriptor")
 mt:kW X id (xl X.K m)
theorem Vp{P:Program}{w:World}{k:Key}{u:Value}(r:RelV (kV k) u):(dX P w).is k u=true:=by
 cases k with
 | inl i=>obtain⟨t,e⟩:=(show ∃t,u=Value.int i t from r);subst e;exact FH P w i t
 | inr x=>obtain⟨t,e⟩:=(show ∃t,u=Value.str x t from r);subst e;exact FI P w x t
theorem Vq{av:List (Key×V)}{vs:List (Key×Value)}(r:KV av vs)(k:Key){v:V}(h:oN av k=some v): ∃u,valueAt vs k=some u∧RelV v u:=by
 unfold KV at r
 induction r with
 | nil=>cases h
 | @cons p q ps qs hh t ih=>
  obtain⟨h1,h2⟩:=hh
  by_cases e:p.1=k
  ·have e':q.1=k:=h1.symm.trans e
   have b:valueAt (q::qs) k=some q.2:=by simp[valueAt,List.find?_cons,e']
   have a:oN (p::ps) k=some p.2:=by simp[oN,List.find?_cons,e]
   rw[a] at h
   cases h
   exact⟨_,b,h2⟩
  ·have e': ¬q.1=k:=fun z=>e (h1.trans z)
   have b:valueAt (q::qs) k=valueAt qs k:=by simp[valueAt,List.find?_cons,e']
   have a:oN (p::ps) k=oN ps k:=by simp[oN,List.find?_cons,e]
   rw[a] at h
   rw[b]
   exact ih h
theorem Vr{sd:Addr→List (Key×V)→Prop}(BB: ∀p av,sd p av→ ∀h:Heap,X.K.In h→ ∃vs,KV av vs∧h.DictOf (dX X.prog X.w) p vs):jR X (IC sd):=by
 intro value slice pins s σ H x y v u Q I rx ry h hs
 obtain⟨p,av,k,z,rfl,rfl,hq,he,q⟩:=h
 cases rx
 obtain⟨vs,r,dd⟩:=BB p av hq s.heap I.cT
 obtain⟨w,ew,kY⟩:=Vq r k he
 exact subscriptTail_builtinR (x:=w) dd.mapOf.typeIs PySem.F.slot_dict_getitem.lookup
  (wpAny_getItem_of (Q:=fun r s'=>r=w∧EP X pins σ Q r s') (Vp ry) dd.mapOf ew ⟨rfl,z,H,I.tok _,kY,q⟩) hs
theorem Vs{sd:Addr→List (Key×V)→Prop}(BB: ∀p av,sd p av→ ∀h:Heap,X.K.In h→ ∃vs,KV av vs∧h.DictOf (dX X.prog X.w) p vs):jR X (m_ X.K sd):=Ra.or (Rb.or (Rc.or (Vr BB)))
theorem xJ(y:Str): ∀{ts:List Str} {us:List Value},Vals (ts.map V.str) us→ ∀(j:Nat) (h1:j<us.length) (h2:j<ts.length),(Value.isStrOf y us[j]=(ts[j]==y))
 | [],_, .nil,j,h1,_=>absurd h1 (Nat.not_lt_zero _)
 | t::ts,_, .cons r rs,0,_,_=>by
  obtain⟨k,rfl⟩:=(show ∃k,_=Value.str t k from r)
  rfl
 | t::ts,_, .cons r rs,j+1,h1,h2=>xJ y rs j (Nat.lt_of_succ_lt_succ h1) (Nat.lt_of_succ_lt_succ h2)
theorem Jg{y:Str}: ∀{ts:List Str} {j:Nat},j<ts.idxOf y→ ∀(h2:j<ts.length),(ts[j]==y)=false
 | n::r,0,h,_=>by
  by_cases e:n=y
  ·subst e;simp at h
  ·simpa using e
 | n::r,j+1,h,h2=>by
  by_cases e:n=y
  ·subst e;simp at h
  ·have hb:(n==y)=false:=by simpa using e
   have h':j<r.idxOf y:=by
    rw[List.idxOf_cons,hb] at h
    exact Nat.lt_of_succ_lt_succ h
   exact Jg h' (Nat.lt_of_succ_lt_succ h2)
theorem Vt:kW X "list.index" (fun x vs H Q=> ∃(l:Addr) (y:Str) (ts:List Str),x= .ref l∧vs=[.str y]∧aq X.K H l (ts.map V.str)∧y∈ts∧Q (.int (ts.idxOf y:Nat)) H):=by
 intro pins s σ H x vs v us Q I rx rv h
 obtain⟨l,y,ts,rfl,rfl,hq,hy,q⟩:=h
 cases rx
 obtain⟨u,rfl,⟨t,rfl⟩⟩:=vals1 rv
 obtain⟨its,r,⟨⟨cls,dd,data,sl⟩,n,ho,hc,ug,hd⟩,hz⟩:=I.list hq
 simp only at hc hd
 subst hc hd
 have hlen:=r.length
 rw[List.length_map] at hlen hz
 have hj:ts.idxOf y<ts.length:=List.idxOf_lt_length_iff.mpr hy
 have hn:=mQ
 refine call_meets PySem.F.slot_list_index ⟨_,ho,rfl⟩ PySem.F.entry_list_index (PySem.F.args_list_index_2 _ _)
  (PySem.SeqAt.list_indexAt l its.toArray n dd sl (.str y t) (Value.isStrOf y) (ts.idxOf y) (by simp;omega) (by omega) ?_ ?_) ⟨ho,fun z uh=> ?_,⟨.int _,H,I.tok _,⟨_,rfl⟩,q⟩⟩
 ·show Value.isStrOf y its[ts.idxOf y]=true
  rw[xJ y r _ (by omega) hj]
  simpa using List.getElem_idxOf hj
 ·intro j BC aQ
  show Value.isStrOf y its[j]=false
  rw[xJ y r j (by simpa using BC) (by omega)]
  exact Jg aQ _
 ·have hm:z∈its:=by simpa using uh
  obtain⟨j,xM,rfl⟩:=List.getElem_of_mem hm
  have Jh:j<ts.length:=by omega
  have e:=xJ y r j xM Jh
  obtain⟨k,ek⟩:=(r.get (i:=j) (x:= .str ts[j]) (by simp[Jh]))
  obtain⟨Vu,k2,Vv⟩:=ek
  have Vw:its[j]= .str ts[j] k2:=by
   have:=List.getElem?_eq_getElem xM
   rw[Vu] at this
   exact(Option.some.inj this).symm.trans Vv
  rw[e,Vw]
  exact PySem.SeqAt.EqAt.str_str _ _ _ _
theorem Ji{x:V}: ∀{xs:List V} {us:List Value},Vals xs us→xs.all eJ=true→us.countP (dZ x)=xs.countP fun y=>eW y x
 | _,_, .nil,_=>rfl
 | y::xs,u::us, .cons r t,f=>by
  rw[List.all_cons,Bool.and_eq_true] at f
  rw[List.countP_cons,List.countP_cons,wO r f.1,Ji t f.2]
theorem Vx:kW X "list.count" (fun x vs H Q=> ∃(l:Addr) (y:V) (xs:List V),x= .ref l∧vs=[y]∧aq X.K H l xs∧eJ y=true∧xs.all eJ=true∧Q (.int (xs.countP (fun z=>eW z y):Nat)) H):=by
 intro pins s σ H x vs v us Q I rx rv h
 obtain⟨l,y,xs,rfl,rfl,hq,fy,fs,q⟩:=h
 cases rx
 obtain⟨u,rfl,ru⟩:=vals1 rv
 obtain⟨its,r,⟨⟨cls,dd,data,sl⟩,n,ho,hc,ug,hd⟩,hz⟩:=I.list hq
 simp only at hc hd
 subst hc hd
 rw[←Ji r fs] at q
 exact call_meets PySem.F.slot_list_count ⟨_,ho,rfl⟩ PySem.F.entry_list_count (PySem.F.args_list_count_2 _ _)
  (PySem.SeqAt.list_countAt l its.toArray n dd sl u (dZ y)) ⟨ho,fun z uh=>oF ru fy r fs z (by simpa using uh),⟨.int _,H,I.tok _,⟨_,rfl⟩,q⟩⟩
theorem Vy:kW X "list.index" (fun x vs H Q=> ∃(l:Addr) (y:V) (xs:List V),x= .ref l∧vs=[y]∧aq X.K H l xs∧eJ y=true∧xs.all eJ=true∧gC y xs=true∧Q (.int (xs.findIdx (fun z=>eW z y):Nat)) H):=by
 intro pins s σ H x vs v us Q I rx rv h
 obtain⟨l,y,xs,rfl,rfl,hq,fy,fs,cW,q⟩:=h
 cases rx
 obtain⟨u,rfl,ru⟩:=vals1 rv
 obtain⟨its,r,⟨⟨cls,dd,data,sl⟩,n,ho,hc,ug,hd⟩,hz⟩:=I.list hq
 simp only at hc hd
 subst hc hd
 have hlen:=r.length
 have e: ∀j (h1:j<its.length) (h2:j<xs.length),dZ y its[j]=eW xs[j] y:=fun j h1 h2=>by
  obtain⟨w,e1,r1⟩:=r.get (i:=j) (x:=xs[j]) (by simp[h2])
  have e2:=List.getElem?_eq_getElem h1
  rw[e1] at e2
  rw[←Option.some.inj e2]
  exact wO r1 (List.all_eq_true.mp fs _ (List.getElem_mem h2))
 have hj:xs.findIdx (fun z=>eW z y) <xs.length:=List.findIdx_lt_length.mpr (List.any_eq_true.mp cW)
 have hn:=mQ
 refine call_meets PySem.F.slot_list_index ⟨_,ho,rfl⟩ PySem.F.entry_list_index (PySem.F.args_list_index_2 _ _)
  (PySem.SeqAt.list_indexAt l its.toArray n dd sl u (dZ y) (xs.findIdx fun z=>eW z y) (by simp;omega) (by omega) ?_ ?_) ⟨ho,fun z uh=>oF ru fy r fs z (by simpa using uh),⟨.int _,H,I.tok _,⟨_,rfl⟩,q⟩⟩
 ·show dZ y its[xs.findIdx fun z=>eW z y]=true
  rw[e _ (by omega) hj]
  exact List.findIdx_getElem (w:=hj)
 ·intro j BC aQ
  show dZ y its[j]=false
  rw[e j (by simpa using BC) (by omega)]
  simpa using List.not_of_lt_findIdx aQ
theorem Jj(m:ig): ∃id,Vo X m id:=by
 cases m with
 | append=>exact⟨_,F.plainAttrs_list,F.slot_list_append,F.type_list_append,fun pins s σ H x xs v us Q I rx rv h=>by
   cases x<;> (try exact False.elim h) <;>rcases xs with _ | ⟨y0,_ | ⟨_,_⟩⟩ <;> (try exact False.elim h)
   obtain⟨zs,h1,h2,h3⟩:=h
   exact Ry pins s σ H _ _ v us Q I rx rv ⟨_,zs,_,rfl,rfl,h1,h2,h3⟩⟩
 | pop=>exact⟨_,F.plainAttrs_list,F.slot_list_pop,F.type_list_pop,fun pins s σ H x xs v us Q I rx rv h=>by
   cases x<;> (try exact False.elim h) <;>rcases xs with _ | ⟨_,_⟩ <;> (try exact False.elim h)
   obtain⟨zs,y,h1,h2,h3⟩:=h
   exact RC pins s σ H _ _ v us Q I rx rv ⟨_,zs,y,rfl,rfl,h1,h2,h3⟩⟩
 | extend=>exact⟨_,F.plainAttrs_list,F.slot_list_extend,F.type_list_extend,fun pins s σ H x xs v us Q I rx rv h=>by
   cases x<;> (try exact False.elim h) <;>rcases xs with _ | ⟨y0,_ | ⟨_,_⟩⟩ <;> (try exact False.elim h) <;>cases y0<;> (try exact False.elim h)
   obtain⟨ys,zs,h1,h2,h3,h4⟩:=h
   exact RA pins s σ H _ _ v us Q I rx rv ⟨_,_,ys,zs,rfl,rfl,h1,h2,h3,h4⟩⟩
 | join=>exact⟨_,F.plainAttrs_str,F.slot_str_join,F.type_str_join,fun pins s σ H x xs v us Q I rx rv h=>by
   cases x<;> (try exact False.elim h) <;>rcases xs with _ | ⟨y0,_ | ⟨_,_⟩⟩ <;> (try exact False.elim h) <;>cases y0<;> (try exact False.elim h)
   obtain⟨ts,h1,h2,h3⟩:=h
   exact Th pins s σ H _ _ v us Q I rx rv ⟨_,_,ts,rfl,rfl,h1,h2,h3⟩⟩
 | lstrip=>exact⟨_,F.plainAttrs_str,F.slot_str_lstrip,F.type_str_lstrip,fun pins s σ H x xs v us Q I rx rv h=>by
   cases x<;> (try exact False.elim h) <;>rcases xs with _ | ⟨y0,_ | ⟨_,_⟩⟩ <;> (try exact False.elim h) <;>cases y0<;> (try exact False.elim h)
   obtain⟨h1,h2⟩:=h
   exact Tj pins s σ H _ _ v us Q I rx rv ⟨_,_,rfl,rfl,h1,h2⟩⟩
 | starts=>exact⟨_,F.plainAttrs_str,F.slot_str_startswith,F.type_str_startswith,fun pins s σ H x xs v us Q I rx rv h=>by
   cases x<;> (try exact False.elim h) <;>rcases xs with _ | ⟨y0,_ | ⟨y1,_ | ⟨_,_⟩⟩⟩ <;> (try exact False.elim h) <;>cases y0<;> (try exact False.elim h) <;>cases y1<;> (try exact False.elim h)
   exact To pins s σ H _ _ v us Q I rx rv ⟨_,_,_,rfl,rfl,h⟩⟩
 | find=>exact⟨_,F.plainAttrs_str,F.slot_str_find,F.type_str_find,fun pins s σ H x xs v us Q I rx rv h=>by
   match x,xs,h with
   | .str z,[.str y],h1=>
    obtain⟨t,rfl⟩:=rx
    obtain⟨u,rfl,⟨t2,rfl⟩⟩:=vals1 rv
    exact call_gives F.slot_str_find (typeIs_str _ _ _) F.entry_str_find (F.args_str_find_2 _ _) (gives_str_find z y t t2) ⟨.int _,H,I.tok _,⟨_,rfl⟩,h1⟩
   | .str z,[.str y, .int i],h1=>
    obtain⟨t,rfl⟩:=rx
    obtain⟨u,w',rfl,⟨t2,rfl⟩,⟨t3,rfl⟩⟩:=vals2 rv
    exact call_gives F.slot_str_find (typeIs_str _ _ _) F.entry_str_find (F.args_str_find_3 _ _ _) (gives_str_find_from z y i t t2 t3) ⟨.int _,H,I.tok _,⟨_,rfl⟩,h1⟩⟩
 | count=>exact⟨_,F.plainAttrs_str,F.slot_str_count,F.type_str_count,fun pins s σ H x xs v us Q I rx rv h=>by
   match x,xs,h with
   | .str z,[.str y],h1=>
    obtain⟨t,rfl⟩:=rx
    obtain⟨u,rfl,⟨t2,rfl⟩⟩:=vals1 rv
    exact call_gives F.slot_str_count (typeIs_str _ _ _) F.entry_str_count (F.args_str_count_2 _ _) (gives_str_count z y t t2) ⟨.int _,H,I.tok _,⟨_,rfl⟩,h1⟩⟩
 | reverse=>exact⟨_,F.plainAttrs_list,F.slot_list_reverse,F.type_list_reverse,fun pins s σ H x xs v us Q I rx rv h=>by
   cases x<;> (try exact False.elim h) <;>rcases xs with _ | ⟨_,_⟩ <;> (try exact False.elim h)
   obtain⟨zs,h1,h2⟩:=h
   exact RF pins s σ H _ _ v us Q I rx rv ⟨_,zs,rfl,rfl,h1,h2⟩⟩
 | index=>exact⟨_,F.plainAttrs_list,F.slot_list_index,F.type_list_index,fun pins s σ H x xs v us Q I rx rv h=>by
   cases x<;> (try exact False.elim h) <;>rcases xs with _ | ⟨y0,_ | ⟨_,_⟩⟩ <;> (try exact False.elim h) <;>cases y0<;> (try exact False.elim h)
   obtain⟨ts,h1,h2,h3⟩:=h
   exact Vt pins s σ H _ _ v us Q I rx rv ⟨_,_,ts,rfl,rfl,h1,h2,h3⟩⟩
 | AM=>exact⟨_,F.plainAttrs_list,F.slot_list_count,F.type_list_count,fun pins s σ H x xs v us Q I rx rv h=>by
   cases x<;> (try exact False.elim h) <;>rcases xs with _ | ⟨y0,_ | ⟨_,_⟩⟩ <;> (try exact False.elim h)
   obtain⟨zs,h1,h2,h3,h4⟩:=h
   exact Vx pins s σ H _ _ v us Q I rx rv ⟨_,_,zs,rfl,rfl,h1,h2,h3,h4⟩⟩
 | AN=>exact⟨_,F.plainAttrs_list,F.slot_list_index,F.type_list_index,fun pins s σ H x xs v us Q I rx rv h=>by
   cases x<;> (try exact False.elim h) <;>rcases xs with _ | ⟨y0,_ | ⟨_,_⟩⟩ <;> (try exact False.elim h)
   obtain⟨zs,h1,h2,h3,h4,h5⟩:=h
   exact Vy pins s σ H _ _ v us Q I rx rv ⟨_,_,zs,rfl,rfl,h1,h2,h3,h4,h5⟩⟩
 | clear=>exact⟨_,F.plainAttrs_list,F.slot_list_clear,F.type_list_clear,fun pins s σ H x xs v us Q I rx rv h=>by
   cases x<;> (try exact False.elim h) <;>rcases xs with _ | ⟨_,_⟩ <;> (try exact False.elim h)
   obtain⟨zs,h1,h2⟩:=h
   exact RH pins s σ H _ _ v us Q I rx rv ⟨_,zs,rfl,rfl,h1,h2⟩⟩
theorem Vz{pins:List (Addr×Obj)}{σ:St}{H:Hp}{s:Shared}{T:Ty}{x:V}{u:Value}{Qb:Bool→Prop}{Q:Value→Shared→Prop}{E:Value→Shared→Prop}(I:Inv X pins σ H s)(rx:RelV x u)(h:bW T x H Qb)
  (hq: ∀b tk,Qb b→Q (.bool b) {s with toks:=tk}):wpAny (model X.prog X.w) X.A (call (.builtin "isinstance") [u, .type T.nm]) Q E s:=by
 match x,rx,h with
 | .aD,rx,h=>exact kR I rx (.aD) (Tf _ T) fun tk=>hq _ _ h
 | .bl b,rx,h=>exact kR I rx (.bl b) (m3 X.K .bool T) fun tk=>hq _ _ (by cases T<;>exact h)
 | .int i,rx,h=>exact kR I rx (.int i) (m3 X.K .int T) fun tk=>hq _ _ (by cases T<;>exact h)
 | .str i,rx,h=>exact kR I rx (.str i) (m3 X.K .str T) fun tk=>hq _ _ (by cases T<;>exact h)
 | .ref a,rx,h=>
  cases e:H a with
  | none=>simp only[bW,e] at h
  | some o=>
   match o,e with
   | .lst xs,e=>simp only[bW,e] at h;exact kR I rx (.lst e) (m3 X.K .list T) fun tk=>hq _ _ (by cases T<;>exact h)
   | .bz ob (.lst xs),e=>simp only[bW,e] at h;exact kR I rx (.bz e) (m3 X.K .list T) fun tk=>hq _ _ (by cases T<;>exact h)
   | .tup xs,e=>simp only[bW,e] at h;exact kR I rx (.tup e) (m3 X.K .tuple T) fun tk=>hq _ _ (by cases T<;>exact h)
   | .dK xs,e=>simp only[bW,e] at h;exact kR I rx (.dK e) (m3 X.K .dict T) fun tk=>hq _ _ (by cases T<;>exact h)
   | .dT xs,e=>simp only[bW,e] at h;exact kR I rx (.dT e) (m3 X.K .dict T) fun tk=>hq _ _ (by cases T<;>exact h)
   | .set _ _,e=>simp only[bW,e] at h
   | .ins _ _ _,e=>simp only[bW,e] at h
   | .own _,e=>simp only[bW,e] at h
   | .xd _,e=>simp only[bW,e] at h
   | .met _ _,e=>simp only[bW,e] at h
   | .fk _ _,e=>simp only[bW,e] at h
   | .jL _,e=>simp only[bW,e] at h
   | .ext _,e=>simp only[bW,e] at h
   | .bz ob (.tup xs),e=>simp only[bW,e] at h
   | .bz ob (.dK xs),e=>simp only[bW,e] at h
   | .bz ob (.dT xs),e=>simp only[bW,e] at h
   | .bz ob (.set _ _),e=>simp only[bW,e] at h
   | .bz ob (.ins _ _ _),e=>simp only[bW,e] at h
   | .bz ob (.own _),e=>simp only[bW,e] at h
   | .bz ob (.xd _),e=>simp only[bW,e] at h
   | .bz ob (.met _ _),e=>simp only[bW,e] at h
   | .bz ob (.fk _ _),e=>simp only[bW,e] at h
   | .bz ob (.jL _),e=>simp only[bW,e] at h
   | .bz ob (.ext _),e=>simp only[bW,e] at h
   | .bz ob (.bz _ _),e=>simp only[bW,e] at h
theorem VA(T:Ty):bootBuiltins (Str.ofString T.nm)=some (.type T.nm):=by cases T<;>decide+kernel
theorem VB(T:Ty):cc X (.builtin "isinstance") (m8 T):=by
 intro pins s σ H xs us Q I r h
 match xs,r,h with
 | [x, .ty n],r,⟨e,h⟩=>
  subst e
  obtain⟨u,w',rfl,ru,kY⟩:=vals2 r
  cases kY
  exact Vz I ru h fun b tk hb=> ⟨.bl b,H,I.tok tk,rfl,hb⟩
theorem VC{T:Ty}{a:Expr}{ta:TE}{p q pos:Pos}(ha:PE X a ta)(hs:noStar a=true)(hg:Gl X "isinstance")(hm:X.mg "isinstance"=none)(VD:Gl X (Str.ofString T.nm))(VE:X.mg (Str.ofString T.nm)=none):
  PE X (.Call (.Name "isinstance" p) [a, .Name (Str.ofString T.nm) q] [] pos) (dY (m8 T) (di ta (di (tC (.ty T.nm)) g5))):=by
 have hT:PE X (.Name (Str.ofString T.nm) q) (tC (.ty T.nm)):=FX VD VE (VA T) rfl (by cases T<;>decide) (by cases T<;>decide)
 exact mU (VB T) hg hm Jb (iL ha (iL hT mT rfl) (cC hs)) (by decide) (by decide) (cC hs) rfl
end
section
variable {X:Cx}
theorem VF:wM X (tU X.K):=by
 intro pins s σ H x v vl vu lo hi sl Q I rx hs pl pu h
 match x,rx,h with
 | .ref a,rx, .inl ⟨xs,h1,h2⟩=>exact Rj pins s σ H _ v vl vu lo hi sl Q I rx hs pl pu ⟨a,xs,rfl,h1,h2⟩
 | .ref a,rx, .inr ⟨xs,h1,h2,h3⟩=>exact Q8 pins s σ H _ v vl vu lo hi sl Q I rx hs pl pu ⟨a,xs,rfl,h1,h2,h3⟩
 | .str z,rx,⟨h1,h2⟩=>
  obtain⟨t,rfl⟩:=rx
  obtain⟨l,el,ml⟩: ∃l:Option (Int×Tok),vl=partValue l∧l.map (·.1)=lo:=by
   cases pl with
   | none=>exact⟨none,rfl,rfl⟩
   | int i t=>exact⟨some (i,t),rfl,rfl⟩
  obtain⟨u,eu,mu⟩: ∃u:Option (Int×Tok),vu=partValue u∧u.map (·.1)=hi:=by
   cases pu with
   | none=>exact⟨none,rfl,rfl⟩
   | int i t=>exact⟨some (i,t),rfl,rfl⟩
  subst el eu
  refine⟨"str",_,F.slot_str_getitem.lookup,typeIs_str _ _ _, ?_⟩
  refine wpAny_getItem_str_slice (l:=l) (u:=u) (st:=none) hs rfl ?_
  obtain⟨b1,b2,b3⟩:=Ad lo hi z.length
  have hp:slicePicked z l u none=(List.range (HT.aV z.length z.length hi - HT.aV z.length 0 lo)).map (HT.aV z.length 0 lo+ ·):=by
   show Builtin.Str.strSliceIndices (l.map (·.1)) (u.map (·.1)) 1 z.length=_
   rw[ml,mu]
   have e0:Builtin.Str.strSliceIndices lo hi 1 z.length=sliceRange (sliceBounds lo hi none z.length).1 (sliceBounds lo hi none z.length).2.1 (sliceBounds lo hi none z.length).2.2:=rfl
   rw[e0,b1,b2,b3,sliceRange_one]
  have hc:((slicePicked z l u none).filterMap (z.cps[·]?))=m4 z.cps.toList lo hi:=by
   show(Builtin.Str.strSliceIndices (l.map (·.1)) (u.map (·.1)) 1 z.length).filterMap (z.cps[·]?)=_
   rw[ml,mu,Tp]
  have hz:z.cps.toList.length=z.length:=by simp[Str.length]
  have hA:=HT.z_ z.length 0 (Nat.zero_le _) lo
  have hB:=HT.z_ z.length z.length (Nat.le_refl _) hi
  unfold sliceMade
  refine post_val_or_made (fun _=> ?_) fun t' k=> ?_
  ·show(List.toArray ((slicePicked z l u none).filterMap (z.cps[·]?))).size≤sizeLine
   rw[hc,List.size_toArray]
   have:(m4 z.cps.toList lo hi).length≤z.cps.toList.length:=by unfold m4;simp only[List.length_take,List.length_drop];omega
   omega
  ·have e:(if (((none:Option (Int×Tok)).map (·.1)).getD 1==1 && (slicePicked z l u none).length==z.length)=true then z else ⟨((slicePicked z l u none).filterMap (z.cps[·]?)).toArray⟩)=tN z lo hi:=by
    split
    ·rename_i hq
     simp only[Bool.and_eq_true,beq_iff_eq] at hq
     have VG:=hq.2
     rw[hp,List.length_map,List.length_range] at VG
     have a0:HT.aV z.length 0 lo=0:=by omega
     have b0:HT.aV z.length z.length hi=z.length:=by omega
     unfold tN m4
     rw[hz,a0,b0,←hz,Nat.sub_zero,List.drop_zero,List.take_length]
    ·rw[hc];rfl
   rw[e]
   exact⟨.str _,H,I.tok k,⟨t',rfl⟩,h2⟩
theorem VH:wC X (unaryOp .USub) IB:=by
 intro pins s σ H x v Q I rx h
 match x,rx,h with
 | .int i,rx,h=>exact PV pins s σ H _ v Q I rx ⟨i,rfl,h⟩
theorem VI{a:Expr}{ta:TE}{pos:Pos}(ha:PE X a ta):PE X (.UnaryOp .Not a pos) (AV X.K ta):=by
 intro pins s σ H Q I h
 refine UnaryOp_ (aK (ha pins s σ H _ I h) fun v s1 ⟨x,H1,I1,r1,q1⟩=>not_of ?_)
 exact aK (GK pins s1 σ H1 x v (fun b H2=>Q (.bl (!b)) H2) I1 r1 (IA q1)) fun b s2 ⟨H2,I2,q2⟩=> ⟨.bl (!b),H2,I2,rfl,q2⟩
theorem ui{a:Expr}{ta:TE}(ha:PE X a ta)(he: ∀whole,isTrue a X.env whole=(do let v ←whole;standAt a.pos;holding [v] (truthy v))):PT X a (eY X.K ta):=by
 intro pins s σ H Q I h
 exact isTrue_plain (aK (ha pins s σ H _ I h) fun v s1 ⟨x,H1,I1,r1,q1⟩=>GK pins s1 σ H1 x v Q I1 r1 (IA q1)) (he _)
theorem VJ{m:ig}{o e:Expr}{es:List Expr}{to:TE}{t:TA}{apos cL:Pos}(ho:PE X o to)(ha:PA X (e::es) t)(hb:oO o=true)(hl:(apos.endLine==cL.line)=true)(hn:(e::es).length<29)
  (hs:starEach (e::es) X.env=(false,eval e X.env)::starEach es X.env) (h1:(backTo cL (starEach es X.env)).any (·.1)=false) (h2:(backTo cL (starEach (e::es) X.env)).all (fun x=> !x.1)=true):
  PE X (.Call (.Attribute o m.nm apos) (e::es) [] cL) (qm X.K m to t):=by
 obtain⟨id,M⟩:=Jj (X:=X) m
 exact Rt M.pa M.slot M.ty M.mt ho ha (mW hb) (by
  rw[h2]
  show(true && true && decide ((e::es).length+0+0<30))=true
  rw[decide_eq_true (by omega)];rfl) hl hs h1
theorem VL{m:ig}{o:Expr}{to:TE}{apos cL:Pos}(ho:PE X o to)(hb:oO o=true)(hl:(apos.endLine==cL.line)=true):
  PE X (.Call (.Attribute o m.nm apos) [] [] cL) (qm X.K m to g5):=by
 obtain⟨id,M⟩:=Jj (X:=X) m
 exact Rr M.pa M.slot M.ty M.mt ho (mW hb) hl
end
section
variable {X:Cx} {CX:bU}
theorem VM{o:Expr}{m:Str}{apos pos:Pos}{args:List Expr}{Q:Value→Shared→Prop}{E:Value→Shared→Prop}{A:Around}{s:Shared}{env:Env}{prog:Program}{w:World}
  (hb:oO o=true) (hl:(apos.endLine==pos.line)=true) (hn:args.length<29) (hf:(backTo pos (starEach args env)).all (fun x=> !x.1)=true)
  (h:wpAny (model prog w) A (eval o env) (fun ov s1=> ∀pl,wpAny (model prog w) A (getMethod ov m pl) (fun fx s2=>wpAny (model prog w) A (callWith pos fx.1 fx.2 (backTo pos (starEach args env)) (backToKw pos (keywordEach [] env))) Q E s2) E s1) E s):
  wpAny (model prog w) A (eval (.Call (.Attribute o m apos) args [] pos) env) Q E s:=by
 have VN:methodCallForm (args.length+0) (backTo pos (starEach args env)) (backToKw pos (keywordEach [] env))=true:=by
  show((backTo pos (starEach args env)).all (fun x=> !x.1) && true && decide (args.length+0+0<30))=true
  rw[hf,decide_eq_true (by omega)];rfl
 have line:methodCallPos true o env apos pos=pure pos:=by unfold methodCallPos;simp[hl]
 rw[arm_eval_Call,mW hb]
 refine wpAny_bind (wpAny_mono h (fun ov s1 h1=>wpAny_bind (wpAny_standAt ?_)) fun _ _ e=>e)
 unfold methodCall
 rw[show([]:List Keyword).length=0 from rfl,VN]
 refine wpAny_bind (wpAny_holding (wpAny_mono (h1 _) (fun fx s2 h2=> ?_) fun _ _ e=>e))
 exact wpAny_bind (wpAny_of_eq line h2)
theorem VO{o e:Expr}{es:List Expr}{to:TE}{t:TA}{apos pos:Pos}{C:Addr}{m:Str}{sp:Sp}{E:XK}(M:By CX X C m sp)(hx:Passes CX X E)(ho:PE X o to)(ha:PA X (e::es) t)(hb:oO o=true)(hl:(apos.endLine==pos.line)=true)(hn:(e::es).length<29)
  (hs:starEach (e::es) X.env=(false,eval e X.env)::starEach es X.env) (h1:(backTo pos (starEach es X.env)).any (·.1)=false) (h2:(backTo pos (starEach (e::es) X.env)).all (fun x=> !x.1)=true):
  PE X (.Call (.Attribute o m apos) (e::es) [] pos) (wJ C m sp [] E to t):=by
 obtain⟨c,k,f,fd,ps,hm,F,hr,BD⟩:=M
 intro pins s σ H Q I h
 refine VM hb hl hn h2 (aK (ho pins s σ H _ I h) fun u s1 ⟨x,H1,I1,rx,a,dx,fs,ex,ea,l,q⟩=>fun pl=> ?_)
 subst ex
 obtain rfl:u=Value.ref a:=rx
 refine QD I1 ea c hm l ?_
 refine callWith_K (first:=[.ref a]) (h₀:=X.base) I.ok.mod.om hm.kp (aK (ha pos pins s1 σ H1 _ I1 q) fun us s2 ⟨vs,H2,I2,r,q2⟩=> ⟨I2.cT, ?_⟩) hs h1
 exact GU (us:= .ref a::us) (vs:= .ref a::vs) F hr BD .nil hx I2 (.cons rfl r) q2
end
section
variable {prog:Program} {w:World} {A:Around} {E:Value→Shared→Prop} {s:Shared}
theorem Jk{it l:Addr}{items:Array Value}(cP:l≠it): ∀(n i:Nat) (s:Shared) (Q:List Value→Shared→Prop),s.heap.IsListIter it l i→s.heap.IsList l items→i+n≤items.size→
  (∀h',h'.IsListIter it l (i+n)→Heap.SameBut it s.heap h'→Q ((items.toList.drop i).take n) {s with heap:=h'})→wpAny (model prog w) A (draw (.ref it) n) Q E s
 | 0,i,s,Q,hit,_,_,hQ=>by
  show wpAny _ _ (pure []) Q E s
  exact wpAny_pure (by simpa using hQ s.heap hit (Heap.SameBut.refl ..))
 | n+1,i,s,Q,hit,ht,hle,hQ=>by
  have aQ:i<items.size:=by omega
  show wpAny _ _ (pyNext (.ref it) >>=_) Q E s
  refine wpAny_bind (wpAny_pyNext_list_item hit ht (x:=items[i]) (by simp[aQ]) fun h₁ t6 lJ=> ?_)
  refine wpAny_bind (wpAny_holding (Jk cP n (i+1) _ _ t6 (ht.extBut lJ.extBut cP) (by omega) fun h₂ VP VQ=>wpAny_pure ?_))
  have hd:items.toList.drop i=items[i]::items.toList.drop (i+1):=by simp[List.drop_eq_getElem_cons,aQ]
  have:=hQ h₂ (by rw[show i+ (n+1)=i+1+n by omega];exact VP) (lJ.trans VQ)
  rw[hd,List.take_succ_cons] at this
  exact this
theorem VR{t:Addr}{items:Array Value}{Q:List Value→Shared→Prop}(hh:A.handled=none)(ht:s.heap.IsList t items)
  (hQ: ∀h',Heap.ExtBut s.heap.objs.size s.heap h'→Q items.toList {s with heap:=h'}):wpAny (model prog w) A (unpackItems (.ref t) items.size none) Q E s:=by
 have aQ:t≠s.heap.objs.size:=by obtain⟨o,ho,_⟩:=ht;exact Nat.ne_of_lt (Heap.lt_size ho)
 unfold unpackItems
 refine wpAny_bind ?_
 ·unfold notIterableAtAll
  refine wpAny_bind (wpAny_specialOf ht.typeIs slot_list_iter.lookup ?_)
  refine wpAny_pure ?_
  simp only[Bool.false_eq_true,if_false]
  refine wpAny_bind (wpAny_holding (wpAny_pyIter_list ht ?_))
  refine wpAny_bind (wpAny_holding (Jk aQ items.size 0 _ _ ⟨_,Heap.get?_push_size _ rfl,rfl,rfl⟩ (ht.push _) (by omega) fun h₁ t6 lJ=> ?_))
  have tw:List.take items.size (List.drop 0 items.toList)=items.toList:=by
   rw[List.drop_zero];exact List.take_of_length_le (by simp)
  rw[tw]
  rw[if_neg (by simp)]
  have Bd:h₁.IsList t items:=(ht.push _).extBut lJ.extBut aQ
  refine wpAny_bind (wpAny_holding (wpAny_pyNext_list_end hh t6 Bd (by simp) fun h₂ Be=> ?_))
  simp only[Option.isSome_none,Bool.false_eq_true,if_false]
  refine wpAny_pure (hQ h₂ fun b o hb e=>Be b o hb (lJ.extBut b o hb (Heap.get?_push_of_some _ e)))
theorem VS{env:Env}{elts:List Expr}{x1}{pos:Pos}{t:Addr}{items:Array Value}{Q:Unit→Shared→Prop}(hh:A.handled=none)(ht:s.heap.IsList t items)
  (hn:(assignEach elts env).length=items.size) (Bf:(assignEach elts env).findIdx? (·.1)=none)
  (h: ∀h',Heap.ExtBut s.heap.objs.size s.heap h'→wpAny (model prog w) A (assignInOrder ((assignEach elts env).map (·.2)) items.toList) Q E {s with heap:=h'}):
  wpAny (model prog w) A (assign (.Tuple elts x1 pos) env (.ref t)) Q E s:=by
 rw[assign_Tuple]
 refine wpAny_bind (wpAny_standAt ?_)
 unfold unpack
 rw[hn,Bf]
 exact wpAny_bind (wpAny_holding (VR hh ht h))
end
def j6(K:Frag)(n:Nat)(t:jd):TG:=fun v σ H Q=> ∃a xs,v= .ref a∧(aL K H a xs∨aq K H a xs)∧xs.length=n∧t xs σ H Q
theorem Jl{X:Cx}{es:List Expr}{k:Nat}{t:jd}{n:Nat}{pos:Pos}(hc:X.calm=true)(h:ou X es t)
  (hn:(assignEach es X.env).length=n) (je:(assignEach es X.env).findIdx? (·.1)=none):PG X (.Tuple es k pos) (j6 X.K n t):=by
 intro pins s σ H v u Q I r hw
 obtain⟨a,xs,e1,hq,hl,hw⟩:=hw
 rcases hq with hq | hq
 ·exact zO hc h hn je pins s σ H v u Q I r ⟨a,xs,e1,hq,hl,hw⟩
 ·subst e1
  cases r
  obtain⟨its,rv,ht,hz⟩:=I.list hq
  refine VS (I.ok.hd hc) ht.isList (by simp[hn,←hl,rv.length]) je fun h' hx=> ?_
  have I1:Inv X pins σ H {s with heap:=h'}:=I.kept (t':=s.toks) fun b o e=>hx b o (Nat.ne_of_lt (Heap.lt_size e)) e
  exact h pins _ σ H xs _ Q I1 (by simpa using rv) hw
def jn:List Nat→jd
 | []=>sO
 | i::r=>kN (c_ i) (jn r)
def VT(to:TE)(tl th:TO):TG:=fun v σ H Q=>to σ H fun o H1=>tl σ H1 fun i H2=>th σ H2 fun j H3=> ∃l b xs ys a c,o= .ref l∧v= .ref b∧i=some a∧j=some c∧H3 l=some (.lst xs)∧H3 b=some (.lst ys)∧l≠b∧
 0≤a∧a≤c∧c≤xs.length∧xs.length+ys.length≤sizeLine∧Q σ (upd H3 l (.lst (xs.take a.toNat++ys++xs.drop c.toNat)))
mutual
def bY(Γ:aO):RS→TS
 | .asg i e=>jN (ah Γ e) (c_ i)
 | .xk i e=>jN (ah Γ e) (c_ i)
 | .set o ix e=>jN (ah Γ e) (Gm (ah Γ o) (ah Γ ix) wN)
 | .dput o i e=>Hv (ah Γ o) (ah Γ i) (ah Γ e)
 | .drop e=>Gh (ah Γ e)
 | .ret e=>Gi (ah Γ e)
 | .Tv=>Pn
 | .ite c t e=>Gj (aZ Γ c) (aB Γ t) (aB Γ e)
 | .lE i k its body=>wz (gE Γ k its) (c_ i) (aB Γ body)
 | .iM is k its body=>wz (gE Γ k its) (j6 Γ.K is.length (jn is)) (aB Γ body)
 | .AS c body=>Gp (aZ Γ c) (aB Γ body)
 | .pass=>zM
 | .brk=>Ph
 | .cont=>Pj
 | .never=>Pp
 | .Tw o lo hi e=>jN (ah Γ e) (VT (ah Γ o) (wL (ah Γ lo)) (wL (ah Γ hi)))
 | .oM o f e=>zU Γ.K (ah Γ o) (ah Γ e) f
 | .tR is e=>jN (ah Γ e) (j6 Γ.K is.length (jn is))
 | .m7 j as=>AL (Γ.ex j) Γ.E (aS Γ as)
 | .AU n i j body su=>fun D σ H=> ∃C,Γ.gv j= .ref C∧xg Γ.K C i n (fun E=>aB {Γ with E:=E} body) (fun ea=>aB {Γ with E:=E0,hv:=some ea} su) D σ H
def aB(Γ:aO):List RS→TS
 | []=>zM
 | s::r=>Gf (bY Γ s) (aB Γ r)
end
def BE:Expr→Bool
 | .Slice ..=>false | _=>true
def uj:Expr→Bool
 | .ListComp ..=>false | .SetComp ..=>false | .DictComp ..=>false | _=>true
def Jm(sc:Scope)(x:Str)(line:Nat)(s:Scope)(p:Pos):Bool:=
 decide (sc.kind= .function) && decide (sc.names.lookup x=some .local) && (line==p.line) && !(s.names.any fun(n,k)=>n==x && (k== .local || k== .cell))
def oS(N:List Str)(sc:Scope):List Nat→List Str→Bool
 | [],xs=>xs.isEmpty
 | i::r,xs=>match xs with
  | []=>false
  | x::t=>decide (N[i]?=some x) && loc sc x && oS N sc r t
structure dt (CX:bU) (S:cA) (Γ:aO) (X:Cx):Prop extends Good CX S Γ X where
 nd:S.N.Nodup
 lN: ∀x,X.fn x=true
 own:PassesOwn (model X.prog X.w) X.A X.env X.xe
 oT:X.env.scope.kind= .function
 rs: ∀(j:Nat) (x:Str),S.en[j]?=some x→Raises X Γ.E
 iG:X.stack=X.env::X.outer
 fY:X.env.frame=some X.env.locals
 oU:X.ex=[]
 lO:CX=eL X.prog X.w
def qV(S:cA)(i:Nat)(x:Str):Bool:=decide (S.N[i]?=some x) && AY S.sc x && !(x==("__debug__":Str)) && !(x==("__classdict__":Str))
def kG(S:cA)(j:Nat)(x:Str):Bool:=decide (S.gn[j]?=some x) && lF S.sc x && !(x==("__debug__":Str))
def kF(S:cA)(j:Nat)(x:Str):Bool:=decide (S.fn[j]?=some x) && lF S.sc x && !(x==("__debug__":Str))
def kK(S:cA)(j:Nat)(x:Str):Bool:=decide (S.kn[j]?=some x) && lF S.sc x && !(x==("__debug__":Str))
def kB(S:cA)(x y:Str):Bool:=decide (x=y) && lF S.sc x && S.bl.contains x
def kM(o:Expr)(m:Str)(x:Str)(n:Nat)(a c:Pos):Bool:=decide (x=m) && oO o && (a.endLine==c.line) && decide (n<29)
def kL(S:cA)(i:Nat)(x:Str):Bool:=decide (S.N[i]?=some x) && loc S.sc x
section
variable {CX:bU} {S:cA} {Γ:aO} {X:Cx} {e e2 a b c d:Expr} {es:List Expr} {x:Str} {p q pos:Pos} {r ra rb rc:RE} {rs:List RE} {i j:Nat}
theorem aa(G:Good CX S Γ X)(h:qV S i x=true:=by kernel_rfl):PE X (.Name x p) (ah Γ (.v i)):=by
 simp only[qV,Bool.and_eq_true,decide_eq_true_eq,Bool.not_eq_true'] at h
 exact O7 (by rw[G.N];exact h.1.1.1) (by rw[G.sc];exact TJ h.1.1.2) h.1.2 h.2
theorem ar{v:Int}{k:Nat}:PE X (.Constant (.int v) k p) (ah Γ (.c (.int v))):=O8
theorem aR{v:Str}{k:Nat}:PE X (.Constant (.str v) k p) (ah Γ (.c (.str v))):=Pa
theorem iP{v:Bool}{k:Nat}:PE X (.Constant (.bool v) k p) (ah Γ (.c (.bl v))):=O9
theorem fZ{k:Nat}:PE X (.Constant .none k p) (ah Γ (.c .aD)):=O_
theorem f_(G:Good CX S Γ X)(h:kG S j x=true:=by kernel_rfl):PE X (.Name x p) (ah Γ (.g j)):=by
 simp only[kG,Bool.and_eq_true,decide_eq_true_eq,Bool.not_eq_true'] at h
 obtain⟨u,hm,r⟩:=G.j4 j x h.1.1
 exact FW (G.gl h.1.2) hm r h.2
theorem aI{op:Operator}(G:Good CX S Γ X)(ha:PE X a (ah Γ ra))(hb:PE X b (ah Γ rb)):PE X (.BinOp a op b p) (ah Γ (.bin op ra rb)):=by
 show PE X _ (eI (qi Γ.K op) (ah Γ ra) (ah Γ rb))
 rw[←G.K]
 exact PH (SW op) ha hb
theorem iq(ha:PE X a (ah Γ ra)):PE X (.UnaryOp .USub a p) (ah Γ (.neg ra)):=PJ VH ha
theorem du{op:CmpOp}(G:Good CX S Γ X)(ha:PE X a (ah Γ ra))(hb:PE X b (ah Γ rb))(hm:behindInMarks op b=false:=by kernel_rfl):PE X (.Compare a [op] [b] p) (ah Γ (.cmp op ra rb)):=by
 show PE X _ (eI (cz Γ.K op) (ah Γ ra) (ah Γ rb))
 rw[←G.K]
 exact Qd (qj G.units op) ha hb hm
theorem VU{op cH:CmpOp}(G:Good CX S Γ X)(ha:PE X a (ah Γ ra))(hb:PE X b (ah Γ rb))(hc:PE X c (ah Γ rc))(hm:lastMarks [op,cH] [b,c]=false:=by kernel_rfl):PE X (.Compare a [op,cH] [b,c] p) (ah Γ (.jZ op cH ra rb rc)):=by
 show PE X _ (qg (cz Γ.K op) (cz Γ.K cH) (ah Γ ra) (ah Γ rb) (ah Γ rc))
 rw[←G.K]
 exact Qg (qj G.units op) (qj G.units cH) ha hb hc hm
theorem ir(h:PE X e (ah Γ r)):PE X (.BoolOp .And [e] p) (ah Γ (.and [r])):=Gd h
theorem gJ{r2:RE}(h:PE X e (ah Γ r))(t:PE X (.BoolOp .And (e2::es) p) (ah Γ (.and (r2::rs)))):PE X (.BoolOp .And (e::e2::es) p) (ah Γ (.and (r::r2::rs))):=Pc h t
theorem uk(h:PE X e (ah Γ r)):PE X (.BoolOp .Or [e] p) (ah Γ (.or [r])):=Gd h
theorem um{r2:RE}(h:PE X e (ah Γ r))(t:PE X (.BoolOp .Or (e2::es) p) (ah Γ (.or (r2::rs)))):PE X (.BoolOp .Or (e::e2::es) p) (ah Γ (.or (r::r2::rs))):=Pd h t
theorem BF(G:Good CX S Γ X)(ha:PE X a (ah Γ ra)):PE X (.UnaryOp .Not a p) (ah Γ (.not ra)):=by
 show PE X _ (AV Γ.K (ah Γ ra))
 rw[←G.K]
 exact VI ha
theorem VV(hc:PT X c (aZ Γ rc))(ha:PE X a (ah Γ ra))(hb:PE X b (ah Γ rb)):PE X (.IfExp c a b p) (ah Γ (.xj rc ra rb)):=Pe hc ha hb
theorem ak:PA X [] (aS Γ []):=mT
theorem ae(h:PE X e (ah Γ r))(t:PA X es (aS Γ rs))(hs:noStar e=true:=by kernel_rfl):PA X (e::es) (aS Γ (r::rs)):=iL h t (cC hs)
theorem aW(G:Good CX S Γ X)(hA:PA X (e::es) (aS Γ (r::rs)))(h:kF S j x=true:=by kernel_rfl)(hn:d4 (e::es)=true:=by kernel_rfl)(hq:S.md=0:=by rfl):PE X (.Call (.Name x p) (e::es) [] pos) (ah Γ (.call j (r::rs))):=by
 simp only[kF,Bool.and_eq_true,decide_eq_true_eq,Bool.not_eq_true'] at h
 obtain⟨k,f,fd,ps,F,hr,hm,hk,hb⟩:=G.fns hq j x h.1.1
 exact QN F hr (G.gl h.1.2) hm hk hb .nil G.pass hA h.2 (cC (cg hn).1) (gI _ _ es (cg hn).2)
theorem VW(G:Good CX S Γ X)(hA:PA X (e::es) (aS Γ (r::rs)))(h:kK S j x=true:=by kernel_rfl)(hn:d4 (e::es)=true:=by kernel_rfl)(hq:S.md=0:=by rfl):PE X (.Call (.Name x p) (e::es) [] pos) (ah Γ (.make j (r::rs))):=by
 simp only[kK,Bool.and_eq_true,decide_eq_true_eq,Bool.not_eq_true'] at h
 obtain⟨k,f,fd,ps,M,F,hr,hm,hb⟩:=G.nk hq j x h.1.1
 exact QP M F hr (G.gl h.1.2) hm hb .nil G.pass hA h.2 (cC (cg hn).1) (gI _ _ es (cg hn).2)
theorem bE{t:m5}(G:Good CX S Γ X)(hA:PA X (e::es) (aS Γ (r::rs)))(h:kB S x t.nm=true:=by kernel_rfl)(hn:d4 (e::es)=true:=by kernel_rfl)(hq:S.md=0:=by rfl):PE X (.Call (.Name x p) (e::es) [] pos) (ah Γ (.blt t (r::rs))):=by
 simp only[kB,Bool.and_eq_true,decide_eq_true_eq] at h
 obtain⟨⟨rfl,h2⟩,h3⟩:=h
 have n1:t.nm≠"__name__":=by cases t<;>decide
 have n2:(t.nm==("__debug__":Str))=false:=by cases t<;>decide
 show PE X _ (dY (ql Γ.K t) (aS Γ (r::rs)))
 rw[←G.K]
 cases Vn (X:=X) (G.calm hq) t with
 | fn id hv hc=>exact mU hc (G.gl h2) (G.dF _ h3) hv hA n1 n2 (cC (cg hn).1) (gI _ _ es (cg hn).2)
 | ty T hv hc=>exact QU hc (G.gl h2) (G.dF _ h3) hv hA n1 n2 (cC (cg hn).1) (gI _ _ es (cg hn).2)
theorem iQ{T:Ty}{y:Str}(G:Good CX S Γ X)(ha:PE X a (ah Γ ra))(h:kB S x "isinstance"=true:=by kernel_rfl)(h2:kB S y (Str.ofString T.nm)=true:=by kernel_rfl)(hs:noStar a=true:=by kernel_rfl):PE X (.Call (.Name x p) [a, .Name y q] [] pos) (ah Γ (.eK T ra)):=by
 simp only[kB,Bool.and_eq_true,decide_eq_true_eq] at h h2
 obtain⟨⟨rfl,g2⟩,g3⟩:=h
 obtain⟨⟨rfl,k2⟩,k3⟩:=h2
 exact VC ha hs (G.gl g2) (G.dF _ g3) (G.gl k2) (G.dF _ k3)
theorem gK(G:Good CX S Γ X)(ha:PE X a (ah Γ ra))(hb:PE X b (ah Γ rb))(h:kB S x "isinstance"=true:=by kernel_rfl)(hn:d4 [a,b]=true:=by kernel_rfl):PE X (.Call (.Name x p) [a,b] [] pos) (ah Γ (.da ra rb)):=by
 simp only[kB,Bool.and_eq_true,decide_eq_true_eq] at h
 obtain⟨⟨rfl,g2⟩,g3⟩:=h
 show PE X _ (dY (jY Γ.K) (di (ah Γ ra) (di (ah Γ rb) g5)))
 rw[←G.K]
 exact mU U7 (G.gl g2) (G.dF _ g3) Jb (iL ha (iL hb mT (cC (cg (cg hn).2).1)) (cC (cg hn).1)) (by decide) (by decide) (cC (cg hn).1) (gI _ _ _ (cg hn).2)
theorem VX{n:String}(G:Good CX S Γ X)(hv:bootBuiltins (Str.ofString n)=some (.type n))(h1:Str.ofString n≠"__name__")(h2:(Str.ofString n==("__debug__":Str))=false)(h:kB S x (Str.ofString n)=true:=by kernel_rfl):PE X (.Name x p) (ah Γ (.c (.ty n))):=by
 simp only[kB,Bool.and_eq_true,decide_eq_true_eq] at h
 obtain⟨⟨rfl,g2⟩,g3⟩:=h
 exact FX (G.gl g2) (G.dF _ g3) hv rfl h1 h2
def kH(S:cA)(j:Nat)(x:Str):Bool:=decide (S.hn[j]?=some x) && lF S.sc x && !(x==("__debug__":Str))
theorem VY(G:Good CX S Γ X)(ha:PE X a (ah Γ ra))(h:kH S j x=true:=by kernel_rfl)(hs:noStar a=true:=by kernel_rfl):PE X (.Call (.Name x p) [a] [] pos) (ah Γ (.AO j ra)):=by
 simp only[kH,Bool.and_eq_true,decide_eq_true_eq,Bool.not_eq_true'] at h
 obtain⟨k,f,fd,ps,F,hr,hm,hk,hb⟩:=G.lM j x h.1.1
 exact Vb F hr (G.gl h.1.2) hm hk hb G.nq ha hs h.2
theorem VZ{m:ig}{o:Expr}{ro:RE}{ap:Pos}(G:Good CX S Γ X)(ho:PE X o (ah Γ ro))(h:kM o m.nm x 0 ap pos=true:=by kernel_rfl):PE X (.Call (.Attribute o x ap) [] [] pos) (ah Γ (.bC m ro [])):=by
 simp only[kM,Bool.and_eq_true,decide_eq_true_eq] at h
 obtain⟨⟨⟨rfl,h2⟩,h3⟩, -⟩:=h
 show PE X _ (qm Γ.K m (ah Γ ro) g5)
 rw[←G.K]
 exact VL ho h2 h3
theorem dQ{m:ig}{o:Expr}{ro:RE}{ap:Pos}(G:Good CX S Γ X)(ho:PE X o (ah Γ ro))(hA:PA X (e::es) (aS Γ (r::rs)))(h:kM o m.nm x (es.length+1) ap pos=true:=by kernel_rfl)(hn:d4 (e::es)=true:=by kernel_rfl):PE X (.Call (.Attribute o x ap) (e::es) [] pos) (ah Γ (.bC m ro (r::rs))):=by
 simp only[kM,Bool.and_eq_true,decide_eq_true_eq] at h
 obtain⟨⟨⟨rfl,h2⟩,h3⟩,h4⟩:=h
 show PE X _ (qm Γ.K m (ah Γ ro) (aS Γ (r::rs)))
 rw[←G.K]
 exact VJ ho hA h2 h3 h4 (cC (cg hn).1) (gI _ _ es (cg hn).2) (xG _ _ (e::es) hn)
theorem nr{f:Str}{ro:RE}(G:Good CX S Γ X)(ho:PE X a (ah Γ ro))(h:oO a=true:=by kernel_rfl):PE X (.Attribute a f p) (ah Γ (.fld ro f)):=by
 show PE X _ (wI Γ.K (ah Γ ro) f)
 rw[←G.K]
 exact QG ho (mW h)
theorem Jn{m:Str}{o:Expr}{ro:RE}{ap:Pos}(G:Good CX S Γ X)(ho:PE X o (ah Γ ro))(hA:PA X (e::es) (aS Γ (r::rs)))(h:(kM o m m (es.length+1) ap pos && decide (S.mn[j]?=some m))=true:=by kernel_rfl)(hn:d4 (e::es)=true:=by kernel_rfl)(hq:S.md=0:=by rfl):PE X (.Call (.Attribute o m ap) (e::es) [] pos) (ah Γ (.qk j m ro (r::rs))):=by
 simp only[kM,Bool.and_eq_true,decide_eq_true_eq] at h
 obtain⟨⟨⟨⟨-,h2⟩,h3⟩,h4⟩,h5⟩:=h
 exact VO (G.nj hq j _ h5) G.pass ho hA h2 h3 h4 (cC (cg hn).1) (gI _ _ es (cg hn).2) (xG _ _ (e::es) hn)
theorem V0(h:BE b=true):Ha b:=fun o i=>by cases b<;>first | rfl | cases h
theorem aN(G:Good CX S Γ X)(ha:PE X a (ah Γ ra))(hb:PE X b (ah Γ rb))(h:BE b=true:=by kernel_rfl):PE X (.Subscript a b p) (ah Γ (.ix ra rb)):=by
 show PE X _ (eI (m_ Γ.K Γ.sd) (ah Γ ra) (ah Γ rb))
 rw[←G.K]
 exact Q_ (Vs G.lK) ha hb (V0 h)
theorem V1:PE X (.Dict [] [] p) (ah Γ .AQ):=Sa
theorem V2{o f:Expr}{ro rf:RE}{ap:Pos}(G:Good CX S Γ X)(ho:PE X o (ah Γ ro))(he:PE X e (ah Γ r))(hf:PE X f (ah Γ rf))(h:kM o "get" x 2 ap pos=true:=by kernel_rfl)(hn:d4 [e,f]=true:=by kernel_rfl):PE X (.Call (.Attribute o x ap) [e,f] [] pos) (ah Γ (.AR ro r rf)):=by
 simp only[kM,Bool.and_eq_true,decide_eq_true_eq] at h
 obtain⟨⟨⟨rfl,h2⟩,h3⟩,h4⟩:=h
 refine Sf (by have:=G.units;omega) ho he hf ⟨mW h2, ?_,h3, ?_⟩
 ·rw[xG _ _ [e,f] hn];rfl
 ·rw[cC (cg hn).1,cC (cg (cg hn).2).1];rfl
theorem nu{lo hi:Option Expr}{rl rh:Option RE}(G:Good CX S Γ X)(ha:PE X a (ah Γ ra))(hl:PO X lo (ng Γ rl))(hh:PO X hi (ng Γ rh)):PE X (.Subscript a (.Slice lo hi none q) p) (ah Γ (.sl ra rl rh)):=by
 show PE X _ (Aa (tU Γ.K) (ah Γ ra) (ng Γ rl) (ng Γ rh))
 rw[←G.K]
 exact Q6 VF ha hl hh
theorem qu:PO X none (ng Γ none):=Q4
theorem j7(ha:PE X a (ah Γ ra)):PO X (some a) (ng Γ (some ra)):=Q5 ha
theorem bo{k}(hA:PA X es (aS Γ rs)):PE X (.Tuple es k p) (ah Γ (.tup rs)):=QK hA
theorem bw(hA:PA X es (aS Γ rs)):PE X (.List es p) (ah Γ (.lst rs)):=QL hA
def xO(CX:bU)(S:cA)(Γ:aO)(cond:Option RE)(ifs:List Expr):Prop:=match cond with
 | none=>ifs=[]
 | some r=> ∃e0,ifs=[e0]∧ ∀X,Good CX S Γ X→PT X e0 (aZ Γ r)
theorem iR:xO CX S Γ none []:=rfl
theorem BG(h: ∀X,Good CX S Γ X→PT X e (aZ Γ r)):xO CX S Γ (some r) [e]:=⟨e,rfl,h⟩
def kC(S:cA)(tk:Option Nat)(tg iter:Expr)(sc:Scope)(k:IK)(ln:List Str)(fv:List (Str×Nat)):Bool:=decide (A7 tk tg=some ln) && (decide (k≠ .zip) || tk.isSome) && xo S ⟨.Constant .none 0 ⟨0,0,0,0⟩,tg,iter,[],sc⟩ ln fv
abbrev cS(S:cA)(sc:Scope)(ln:List Str)(fv:List (Str×Nat)):cA:={S with N:=ln++fv.map (·.1),sc:=A5 sc S.sc,en:=[],md:=if S.md=0 then 0 else 2}
theorem iu{tk:Option Nat}{fv:List (Str×Nat)}{k:IK}{its:List RE}{cond:Option RE}{elt:RE}{el tg iter:Expr}{ifs:List Expr}{sc:Scope}{ln:List Str}(G:Good CX S Γ X)(h:kC S tk tg iter sc k ln fv=true)(hi:PI X tg iter (gE Γ k its))
  (hc:xO CX (cS S sc ln fv) Γ.calm cond ifs) (he: ∀X,Good CX (cS S sc ln fv) Γ.calm X→PE X el (ah Γ.calm elt)) (hq:S.md=0:=by rfl):PE X (.ListComp el [⟨tg,iter,ifs,0⟩] sc p) (ah Γ (.comp tk fv k its cond elt)):=by
 simp only[kC,Bool.and_eq_true,decide_eq_true_eq] at h
 obtain⟨⟨h1,h2⟩,h3⟩:=h
 obtain⟨o1,o2,o3,o4⟩:=Bz (c:=⟨.Constant .none 0 ⟨0,0,0,0⟩,tg,iter,[],sc⟩) G h3
 show PE X _ (oH Γ.K (gE Γ k its) tk fv (tW Γ.calm cond) (ah Γ.calm elt))
 rw[←G.K]
 refine Ij o1 (G.calm hq) hi (Vc (c:=⟨.Constant .none 0 ⟨0,0,0,0⟩,tg,iter,[],sc⟩) (G.calm hq) h1 o2 o3) ?_ (fun ex C s H=>he _ (G.inner ⟨.Constant .none 0 ⟨0,0,0,0⟩,tg,iter,[],sc⟩ ln fv ex C s H)) (ue o4)
 cases cond with
 | none=>exact hc
 | some r=>
  obtain⟨e0,q,hq⟩:=hc
  exact⟨e0,q,fun ex C s H=>hq _ (G.inner ⟨.Constant .none 0 ⟨0,0,0,0⟩,tg,iter,[],sc⟩ ln fv ex C s H)⟩
theorem fu(h:PT X a (aZ Γ ra)):PT X (.UnaryOp .Not a p) (aZ Γ (.not ra)):=Pb h
theorem BH(h:PT X e (aZ Γ r)):PW X (.BoolOp .And [e] p) (aZ Γ (.and [r])):=pw_and1 h
theorem BI{r2:RE}(h:PT X e (aZ Γ r))(t:PW X (.BoolOp .And (e2::es) p) (aZ Γ (.and (r2::rs)))):PW X (.BoolOp .And (e::e2::es) p) (aZ Γ (.and (r::r2::rs))):=pw_and h t
theorem nv(h:PT X e (aZ Γ r)):PW X (.BoolOp .Or [e] p) (aZ Γ (.or [r])):=pw_or1 h
theorem j8{r2:RE}(h:PT X e (aZ Γ r))(t:PW X (.BoolOp .Or (e2::es) p) (aZ Γ (.or (r2::rs)))):PW X (.BoolOp .Or (e::e2::es) p) (aZ Γ (.or (r::r2::rs))):=pw_or h t
theorem cB{op:CmpOp}(G:Good CX S Γ X)(ha:PE X a (ah Γ ra))(hb:PE X b (ah Γ rb))(hm:behindInMarks op b=false:=by kernel_rfl):PT X (.Compare a [op] [b] p) (aZ Γ (.cmp op ra rb)):=by
 show PT X _ (mP (eI (cz Γ.K op) (ah Γ ra) (ah Γ rb)))
 rw[←G.K]
 exact Qe (qj G.units op) ha hb hm
theorem V4{op cH:CmpOp}(G:Good CX S Γ X)(ha:PE X a (ah Γ ra))(hb:PE X b (ah Γ rb))(hc:PE X c (ah Γ rc))(hm:lastMarks [op,cH] [b,c]=false:=by kernel_rfl):PT X (.Compare a [op,cH] [b,c] p) (aZ Γ (.jZ op cH ra rb rc)):=by
 show PT X _ (mP (qg (cz Γ.K op) (cz Γ.K cH) (ah Γ ra) (ah Γ rb) (ah Γ rc)))
 rw[←G.K]
 exact Qh (qj G.units op) (qj G.units cH) ha hb hc hm
theorem Jo(G:Good CX S Γ X)(h:PE X (.Name x p) (ah Γ (.v i))):PT X (.Name x p) (aZ Γ (.v i)):=by
 show PT X _ (eY Γ.K (ah Γ (.v i)))
 rw[←G.K]
 exact ui h fun _=>rfl
theorem j9(G:Good CX S Γ X)(h:PE X (.Call a es [] p) (ah Γ (.call j rs))):PT X (.Call a es [] p) (aZ Γ (.call j rs)):=by
 show PT X _ (eY Γ.K (ah Γ (.call j rs)))
 rw[←G.K]
 exact ui h fun _=>rfl
theorem Jp(G:Good CX S Γ X)(h:PE X (.Call a es [] p) (ah Γ (.da ra rb))):PT X (.Call a es [] p) (aZ Γ (.da ra rb)):=by
 show PT X _ (eY Γ.K (ah Γ (.da ra rb)))
 rw[←G.K]
 exact ui h fun _=>rfl
theorem qv{T:Ty}(G:Good CX S Γ X)(h:PE X (.Call a es [] p) (ah Γ (.eK T ra))):PT X (.Call a es [] p) (aZ Γ (.eK T ra)):=by
 show PT X _ (eY Γ.K (ah Γ (.eK T ra)))
 rw[←G.K]
 exact ui h fun _=>rfl
theorem fA{tg:Expr}(G:Good CX S Γ X)(ha:PE X a (ah Γ ra)):PI X tg a (gE Γ .list [ra]):=by
 show PI X tg a (sS Γ.K (ah Γ ra))
 rw[←G.K]
 exact Pz ha
theorem qw{tg:Expr}(G:Good CX S Γ X)(ha:PE X a (ah Γ ra))(h:kB S x "range"=true:=by kernel_rfl)(hs:noStar a=true:=by kernel_rfl):PI X tg (.Call (.Name x p) [a] [] pos) (gE Γ .fk [ra]):=by
 simp only[kB,Bool.and_eq_true,decide_eq_true_eq] at h
 obtain⟨⟨rfl,h2⟩,h3⟩:=h
 exact PB (G.gl h2) (G.dF _ h3) (iL ha mT (cC hs)) (cC hs)
theorem V5{tg:Expr}(G:Good CX S Γ X)(ha:PE X a (ah Γ ra))(hb:PE X b (ah Γ rb))(h:kB S x "range"=true:=by kernel_rfl)(hs:noStar a=true:=by kernel_rfl)(kO:noStar b=true:=by kernel_rfl):PI X tg (.Call (.Name x p) [a,b] [] pos) (gE Γ .xh [ra,rb]):=by
 simp only[kB,Bool.and_eq_true,decide_eq_true_eq] at h
 obtain⟨⟨rfl,h2⟩,h3⟩:=h
 exact PC (G.gl h2) (G.dF _ h3) (iL ha (iL hb mT (cC kO)) (cC hs)) (by rw[cC hs,cC kO];rfl) (cC kO)
theorem Jq{ts:List Expr}{k}{tp:Pos}(G:Good CX S Γ X)(ha:PE X a (ah Γ ra))(h:kB S x "enumerate"=true:=by kernel_rfl)(hs:noStar a=true:=by kernel_rfl):PI X (.Tuple ts k tp) (.Call (.Name x p) [a] [] pos) (gE Γ .xi [ra]):=by
 simp only[kB,Bool.and_eq_true,decide_eq_true_eq] at h
 obtain⟨⟨rfl,h2⟩,h3⟩:=h
 show PI X _ _ (AW Γ.K (di (ah Γ ra) (aS Γ [])))
 rw[←G.K]
 exact Ua (G.gl h2) (G.dF _ h3) (iL ha mT (cC hs)) (cC hs)
theorem Jr{ts:List Expr}{k}{tp:Pos}(G:Good CX S Γ X)(ha:PE X a (ah Γ ra))(hb:PE X b (ah Γ rb))(h:kB S x "zip"=true:=by kernel_rfl)(hn:d4 [a,b]=true:=by kernel_rfl):PI X (.Tuple ts k tp) (.Call (.Name x p) [a,b] [] pos) (gE Γ .zip [ra,rb]):=by
 simp only[kB,Bool.and_eq_true,decide_eq_true_eq] at h
 obtain⟨⟨rfl,h2⟩,h3⟩:=h
 show PI X _ _ (AX Γ.K (di (ah Γ ra) (aS Γ [rb])))
 rw[←G.K]
 exact TV (G.gl h2) (G.dF _ h3) (iL ha (iL hb mT (cC (cg (cg hn).2).1)) (cC (cg hn).1)) (cC (cg hn).1) (gI _ _ _ (cg hn).2)
end
section
variable {CX:bU} {S:cA} {Γ:aO} {X:Cx} {e a b c v:Expr} {es:List Expr} {x:Str} {p q pos:Pos} {r ra rb rc:RE} {i j:Nat} {st:Stmt} {Js:List Stmt} {s:RS} {ss t u:List RS}
theorem xQ{v:Expr}{t:Option Expr}{l:Nat}{env:Env}(h:uj v=true):swapsWith v t l env=pure false:=by
 cases v<;>first | rfl | cases h
theorem V6{v:Expr}{x:Str}{p:Pos}{l:Nat}{env:Env}(h:env.kindOf x=some .cell):swapsWith v (some (.Name x p)) l env=pure false:=by
 cases v<;>first
  | rfl
  | (unfold swapsWith;simp only[h];have q:(some NameKind.cell==some NameKind.local)=false:=rfl;simp only[q,Bool.and_false,Bool.false_and])
theorem Jt{v o i:Expr}{p:Pos}{l:Nat}{env:Env}:swapsWith v (some (.Subscript o i p)) l env=pure false:=by
 cases v<;>rfl
theorem V7{v o i:Expr}{p:Pos}{env:Env}:swappedStores [.Subscript o i p] v env=pure none:=by
 cases v<;>rfl
theorem dt.name(G:dt CX S Γ X)(h:kL S i x=true):PG X (.Name x p) (c_ i):=by
 simp only[kL,Bool.and_eq_true,decide_eq_true_eq] at h
 exact kJ (by rw[G.N];exact G.nd) (by rw[G.N];exact h.1) (by rw[G.sc];exact AZ h.2) (.inl (G.lN x))
theorem aF:dz X [] (aB Γ []):=Gg
theorem ao(h:PS X st (bY Γ s))(t:dz X Js (aB Γ ss)):dz X (st::Js) (aB Γ (s::ss)):=Pg h t
theorem aP(G:dt CX S Γ X)(he:PE X v (ah Γ r))(h:kL S i x=true:=by kernel_rfl)(hc:(uj v || decide (S.sc.names.lookup x=some .cell))=true:=by kernel_rfl):PS X (.Assign [.Name x p] v q) (bY Γ (.asg i r)):=by
 simp only[kL,Bool.and_eq_true,decide_eq_true_eq,Bool.or_eq_true] at h hc
 refine Pr (by rw[G.N];exact G.nd) (by rw[G.N];exact h.1) (by rw[G.sc];exact AZ h.2) he ?_ (.inl (G.lN x))
 rcases hc with h4 | h4
 ·exact xQ h4
 ·exact V6 (by show X.env.scope.names.lookup x=_;rw[G.sc];exact h4)
theorem V8{fv:List (Str×Nat)}{cond:Option RE}{elt:RE}{el iter:Expr}{ifs:List Expr}{sc:Scope}{n1 n2:Str}{p1 p2 tp:Pos}{kt}{pc:Pos}(G:dt CX S Γ X)(h0:kL S i x=true)(hs:Jm S.sc x p.line sc pc=true)(h:kC S (some 2) (.Tuple [.Name n1 p1, .Name n2 p2] kt tp) iter sc .list [n1,n2] fv=true)(hi:PE X iter (ah Γ ra))
  (hc:xO CX (cS S sc [n1,n2] fv) Γ.calm cond ifs) (he: ∀X,Good CX (cS S sc [n1,n2] fv) Γ.calm X→PE X el (ah Γ.calm elt)) (hq:S.md=1:=by rfl):PS X (.Assign [.Name x p] (.ListComp el [⟨.Tuple [.Name n1 p1, .Name n2 p2] kt tp,iter,ifs,0⟩] sc pc) q) (bY Γ (.xk i (.comp (some 2) fv .list [ra] cond elt))):=by
 simp only[kC,kL,Jm,Bool.and_eq_true,decide_eq_true_eq,beq_iff_eq,Bool.not_eq_true'] at h h0 hs
 obtain⟨⟨h1,h2⟩,h3⟩:=h
 obtain⟨o1,o2,o3,o4⟩:=Bz (c:=⟨.Constant .none 0 ⟨0,0,0,0⟩, .Tuple [.Name n1 p1, .Name n2 p2] kt tp,iter,[],sc⟩) G.toGood h3
 show PS X _ (jN (oH Γ.K (sS Γ.K (ah Γ ra)) (some 2) fv (tW Γ.calm cond) (ah Γ.calm elt)) (c_ i))
 rw[←G.K]
 have hH:Hd X:=G.oR hq
 refine SK (Φ:=Hd) (Ψ:=gG X.A) (by rw[G.N];exact G.nd) (by rw[G.N];exact h0.1) (by rw[G.sc];exact AZ h0.2) ?_ o1 U6 (fun _ _ _ _ I=>hH.at I) (U3 hi) (U5 (o2 n1 (by simp)) (o2 n2 (by simp)) o3) ?_ (fun ex C s H=>he _ (G.toGood.inner ⟨.Constant .none 0 ⟨0,0,0,0⟩, .Tuple [.Name n1 p1, .Name n2 p2] kt tp,iter,[],sc⟩ [n1,n2] fv ex C s H)) (ue o4) (.inl (G.lN x))
 ·have e1:X.env.kindOf x=some .local:=by show X.env.scope.names.lookup x=_;rw[G.sc];exact hs.1.1.2
  have e2:X.env.blockKind= .function:=by unfold Env.blockKind;rw[G.oT];rfl
  unfold swapsWith
  simp only[e1,e2,hs.1.2,hs.2]
  show pure (true && true && (pc.line==pc.line) && !false)=pure true
  rw[beq_self_eq_true];rfl
 ·cases cond with
  | none=>exact hc
  | some r=>
   obtain⟨e0,q,hq⟩:=hc
   exact⟨e0,q,fun ex C s H=>hq _ (G.toGood.inner ⟨.Constant .none 0 ⟨0,0,0,0⟩, .Tuple [.Name n1 p1, .Name n2 p2] kt tp,iter,[],sc⟩ [n1,n2] fv ex C s H)⟩
theorem BJ(he:PE X v (ah Γ r))(ha:PE X a (ah Γ ra))(hb:PE X b (ah Γ rb))(h:BE b=true:=by kernel_rfl):PS X (.Assign [.Subscript a b p] v q) (bY Γ (.set ra rb r)):=
 Gn he (Pq ha hb set_list (by intro w;cases b<;>first | rfl | cases h)) (by exact Jt (o:=a) (i:=b) (p:=p) (l:=q.line) (env:=X.env)) V7 rfl
theorem V9(G:dt CX S Γ X)(he:PE X v (ah Γ r))(ha:PE X a (ah Γ ra))(hb:PE X b (ah Γ rb)):PS X (.Assign [.Subscript a b p] v q) (bY Γ (.dput ra rb r)):=
 R9 (by have:=G.toGood.units;omega) ha hb he (by exact Jt (o:=a) (i:=b) (p:=p) (l:=q.line) (env:=X.env))
theorem uo{f:Str}(G:dt CX S Γ X)(ho:PE X a (ah Γ ra))(he:PE X v (ah Γ r))(h:uj v=true:=by kernel_rfl):PS X (.Assign [.Attribute a f p] v q) (bY Γ (.oM ra f r)):=by
 show PS X _ (zU Γ.K (ah Γ ra) (ah Γ r) f)
 rw[←G.K]
 exact QH ho he (xQ h)
theorem d5(he:PE X v (ah Γ r))(h:uj v=true:=by kernel_rfl):PS X (.Expr v p) (bY Γ (.drop r)):=Pk he (xQ h)
theorem bh(he:PE X v (ah Γ r)):PS X (.Return (some v) p) (bY Γ (.ret r)):=Pl he
theorem bX{as bs:List Stmt}(hc:PT X c (aZ Γ rc))(ha:dz X as (aB Γ t))(hb:dz X bs (aB Γ u)):PS X (.If c as bs p) (bY Γ (.ite rc t u)):=Po hc ha hb
theorem V_{as:List Stmt}(G:dt CX S Γ X)(hc:PT X c (aZ Γ rc))(ha:dz X as (aB Γ t)):PS X (.While c as [] p) (bY Γ (.AS rc t)):=Pu G.own hc ha
theorem uq{k:IK}{its:List RE}{iter:Expr}{as:List Stmt}(G:dt CX S Γ X)(hi:PI X (.Name x p) iter (gE Γ k its))(ha:dz X as (aB Γ t))(h:kL S i x=true:=by kernel_rfl)(hs:tY iter=true:=by kernel_rfl)(hq:S.md=0:=by rfl):PS X (.For (.Name x p) iter as [] q) (bY Γ (.lE i k its t)):=
 Gw G.own (G.calm hq) hi (G.name h) ha (ue hs)
theorem BK(G:dt CX S Γ X): ∀(is:List Nat) (xs:List (Str×Pos)),oS S.N S.sc is (xs.map (·.1))=true→
  ou X (xs.map fun y=> .Name y.1 y.2) (jn is)∧(assignEach (xs.map fun y=>Expr.Name y.1 y.2) X.env).length=is.length∧(assignEach (xs.map fun y=>Expr.Name y.1 y.2) X.env).findIdx? (·.1)=none
 | [],xs,h=>by
  simp only[oS,List.isEmpty_iff,List.map_eq_nil_iff] at h
  subst h;exact⟨wx,rfl,rfl⟩
 | i::r,[],h=>by simp only[List.map_nil,oS] at h;cases h
 | i::r,y::t,h=>by
  simp only[List.map_cons,oS,Bool.and_eq_true] at h
  obtain⟨i1,i2,i3⟩:=BK G r t h.2
  refine⟨mO (G.name (by simp only[kL,Bool.and_eq_true];exact h.1)) i1 rfl, ?_, ?_⟩
  ·show(assignEach _ X.env).length+1=r.length+1
   rw[i2]
  ·show List.findIdx? (·.1) ((false,assign (.Name y.1 y.2) X.env)::assignEach _ X.env)=none
   rw[List.findIdx?_cons,i3];rfl
theorem lP{is:List Nat}{k:IK}{its:List RE}{iter:Expr}{as:List Stmt}{kt}{tp:Pos}(xs:List (Str×Pos))(G:dt CX S Γ X)(hi:PI X (.Tuple (xs.map fun y=> .Name y.1 y.2) kt tp) iter (gE Γ k its))(ha:dz X as (aB Γ t))(h:oS S.N S.sc is (xs.map (·.1))=true:=by kernel_rfl)(hs:tY iter=true:=by kernel_rfl)(hq:S.md=0:=by rfl):
  PS X (.For (.Tuple (xs.map fun y=> .Name y.1 y.2) kt tp) iter as [] q) (bY Γ (.iM is k its t)):=by
 obtain⟨i1,i2,i3⟩:=BK G is xs h
 show PS X _ (wz (gE Γ k its) (j6 Γ.K is.length (jn is)) (aB Γ t))
 rw[←G.K]
 exact Gw G.own (G.calm hq) hi (Jl (G.calm hq) i1 i2 i3) ha (ue hs)
def Wa:Expr→Bool
 | .Tuple ..=>false | _=>true
theorem Wb{is:List Nat}{kt}{tp:Pos}(xs:List (Str×Pos))(G:dt CX S Γ X)(he:PE X v (ah Γ r))(h:oS S.N S.sc is (xs.map (·.1))=true:=by kernel_rfl)(hc:(uj v && Wa v)=true:=by kernel_rfl)(hq:S.md=0:=by rfl):
  PS X (.Assign [.Tuple (xs.map fun y=> .Name y.1 y.2) kt tp] v q) (bY Γ (.tR is r)):=by
 simp only[Bool.and_eq_true] at hc
 obtain⟨i1,i2,i3⟩:=BK G is xs h
 show PS X _ (jN (ah Γ r) (j6 Γ.K is.length (jn is)))
 rw[←G.K]
 refine Gn he (Jl (G.calm hq) i1 i2 i3) (by show swapsWith v (some (.Tuple (xs.map fun y=>Expr.Name y.1 y.2) kt tp)) q.line X.env=pure false;exact xQ hc.1) ?_ rfl
 have h2:=hc.2
 cases v<;>first | rfl | cases h2
def kX(S:cA)(j:Nat)(x:Str):Bool:=decide (S.en[j]?=some x) && lF S.sc x && !(x==("__debug__":Str))
theorem qx{rs:List RE}{np cL:Pos}(G:dt CX S Γ X)(hA:PA X (e::es) (aS Γ (r::rs)))(h:kX S j x=true:=by kernel_rfl)(hn:d4 (e::es)=true:=by kernel_rfl)(hq:S.md=0:=by rfl):PS X (.Raise (some (.Call (.Name x np) (e::es) [] cL)) none pos) (bY Γ (.m7 j (r::rs))):=by
 simp only[kX,Bool.and_eq_true,decide_eq_true_eq,Bool.not_eq_true'] at h
 obtain⟨bm,B,newId,qo,O,FB⟩:=G.cQ j x h.1.1
 exact UI (G.calm hq) O FB (G.gl h.1.2) h.2 hA (cC (cg hn).1) (gI _ _ es (cg hn).2) (G.rs j x h.1.1)
abbrev tS(S:cA):cA:={S with en:=[]}
abbrev hS(S:cA):cA:={S with en:=[],md:=2}
theorem dt.Wc(G:dt CX S Γ X)(pn:List (Addr×Obj))(xe:Value→Shared→Prop)(E:XK)(ho:PassesOwn (model X.prog X.w) X.A X.env xe)(hp:Passes (eL X.prog X.w) (X.alt X.A X.calm pn xe) E):
  dt CX (tS S) {Γ with E:=E} (X.alt X.A X.calm pn xe):=
 {N:=G.N,sc:=G.sc,K:=G.K,calm:=G.calm,units:=G.units,fns:=G.fns,j4:=G.j4,dF:=G.dF,pass:=by rw[G.lO];exact hp,j5:=G.j5,lK:=G.lK,nj:=G.nj,nk:=G.nk,
  cQ:=fun _ _ h=> (by simp at h),lM:=G.lM,nq:=G.nq,oR:=G.oR,nd:=G.nd,lN:=G.lN,own:=ho,oT:=G.oT,rs:=fun _ _ h=> (by simp at h),iG:=G.iG,fY:=G.fY,oU:=G.oU,lO:=G.lO}
theorem dt.held(G:dt CX S Γ X)(ea:Addr)(pn:List (Addr×Obj)):
  dt CX (hS S) {Γ with E:=E0,hv:=some ea} (X.alt (X.A.mark (some (.ref ea))) false pn fun _ _=>False):=
 {N:=G.N,sc:=G.sc,K:=G.K,calm:=fun h=> (nomatch h),units:=G.units,fns:=fun h=> (nomatch h),j4:=G.j4,dF:=G.dF,pass:=fun _ _ _ _ _ _ _ h=> (G.j5 _ _ _ _ _ h).elim,j5:=G.j5,lK:=G.lK,nj:=fun h=> (nomatch h),nk:=fun h=> (nomatch h),
  cQ:=fun _ _ h=> (by simp at h),lM:=fun j x h=> (by
   obtain⟨k,f,fd,ps,F,r,m⟩:=G.lM j x h
   exact⟨k,f,fd,ps,F,r.mark _,m⟩),
  nq:=fun e h=> (by cases h;rfl),oR:=fun h=> (nomatch h),nd:=G.nd,lN:=G.lN,own:=PassesOwn.never,oT:=G.oT,rs:=fun _ _ h=> (by simp at h),iG:=G.iG,fY:=G.fY,oU:=G.oU,lO:=G.lO}
theorem Wd{n:Nat}{y:Str}{np xy:Pos}{body su:List Stmt}{b₀:Stmt}{rb ur:List RS}(G:dt CX S Γ X)(h:kG S j x=true)(hn:(decide (S.N.length=n) && decide (S.N[i]?=some y) && decide (S.sc.names.lookup y=some .local))=true)
  (hb: ∀{Γ:aO} {X:Cx},dt CX (tS S) Γ X→dz X body (aB Γ rb)) (hs: ∀{Γ:aO} {X:Cx},dt CX (hS S) Γ X→dz X (b₀::su) (aB Γ ur)):
  PS X (.Try body [.ExceptHandler (some (.Name x np)) (some y) (b₀::su) xy] [] [] pos) (bY Γ (.AU n i j rb ur)):=by
 simp only[kG,Bool.and_eq_true,decide_eq_true_eq,Bool.not_eq_true'] at h hn
 obtain⟨u,hm,hu⟩:=G.j4 j x h.1.1
 intro pins s σ H D I q
 obtain⟨C,e,q⟩:=(show ∃C,Γ.gv j= .ref C∧xg Γ.K C i n (fun E=>aB {Γ with E:=E} rb) (fun ea=>aB {Γ with E:=E0,hv:=some ea} ur) D σ H from q)
 rw[e] at hu
 have tM:u= .ref C:=hu
 subst tM
 have hl:X.N.length=n:=by rw[G.N];exact hn.1.1
 have q':xg X.K C i X.N.length (fun E=>aB {Γ with E:=E} rb) (fun ea=>aB {Γ with E:=E0,hv:=some ea} ur) D σ H:=by rw[G.K,hl];exact q
 exact UL (tb:=fun E=>aB {Γ with E:=E} rb) (th:=fun ea=>aB {Γ with E:=E0,hv:=some ea} ur) G.iG G.fY G.oU (G.gl h.1.2) h.2 hm (by rw[G.N];exact G.nd) (by rw[G.N];exact hn.1.2) (by rw[G.sc];exact hn.2)
  (fun pn xe E ho hp=>hb (G.Wc pn xe E ho hp)) (fun ea pn=>hs (G.held ea pn)) pins s σ H D I q'
end
section
variable {P:Program} {w:World} {K:Frag} {mg:Str→Option Value} {base:Heap}
def bF(P:Program)(w:World)(K:Frag)(mg:Str→Option Value)(base:Heap)(k:Nat)(x:Str)(sp:Sp):Prop:=
 ∃f fd ps,cw P w K mg base (eL P w) k f fd ps sp∧mg x=some (.ref f)∧keepIn K (.ref f)=true∧Binds K fd ps []
theorem bF.mono{j k:Nat}{x:Str}{sp:Sp}(h:bF P w K mg base j x sp)(hk:j≤k):bF P w K mg base k x sp:=by
 obtain⟨f,fd,ps,F,r⟩:=h
 exact⟨f,fd,ps,F.mono hk,r⟩
def ny(tab:List (Str×Sp))(j:Nat):Sp:=match tab[j]? with
 | some p=>p.2
 | none=>fun _ _ _ _=>False
def oV(tab:List (Str×V))(j:Nat):V:=match tab[j]? with
 | some p=>p.2
 | none=> .aD
structure eZ (mg:Str→Option Value) (p:Str×V):Prop where
 ex: ∃u,mg p.1=some u∧RelV p.2 u
def j_(tab:List (Str×Addr×Sp))(j:Nat):Addr×Sp:=match tab[j]? with
 | some p=>p.2
 | none=> (0,fun _ _ _ _=>False)
def xR(tab:List (Str×Addr))(j:Nat):Addr:=match tab[j]? with
 | some p=>p.2
 | none=>0
abbrev aM(K:Frag)(tab:List (Str×Sp))(gt:List (Str×V))(dk:List (Addr×List (Key×V)):=[])(mt kt:List (Str×Addr×Sp):=[])(et:List (Str×Addr):=[])(ht:List (Str×Sp):=[])(E:XK:=E0):aO:=
 {K:=K,fs:=ny tab,gv:=oV gt,E:=E,sd:=fun p av=> (p,av)∈dk,ms:=j_ mt,kt:=j_ kt,ex:=xR et,hs:=ny ht,hv:=none}
def uu(P:Program)(w:World)(K:Frag)(mg:Str→Option Value)(base:Heap)(k:Nat)(p:Str×Addr×Sp):Prop:=
 jg K p.2.1∧ ∃f fd ps,Meth K p.2.1 p.1 f∧cw P w K mg base (eL P w) k f fd ps p.2.2∧Binds K fd ps []
def nz(P:Program)(w:World)(K:Frag)(mg:Str→Option Value)(base:Heap)(k:Nat)(p:Str×Addr×Sp):Prop:=
 ∃j f fd ps,j+1≤k∧Mk K p.2.1 f∧cw P w K mg base (eL P w) j f fd ps p.2.2∧mg p.1=some (.ref p.2.1)∧Binds K fd ps []
theorem uu.mono{j k:Nat}{p:Str×Addr×Sp}(h:uu P w K mg base j p)(hk:j≤k):uu P w K mg base k p:=by
 obtain⟨c,f,fd,ps,m,F,b⟩:=h
 exact⟨c,f,fd,ps,m,F.mono hk,b⟩
theorem nz.mono{j k:Nat}{p:Str×Addr×Sp}(h:nz P w K mg base j p)(hk:j≤k):nz P w K mg base k p:=by
 obtain⟨i,f,fd,ps,m,r⟩:=h
 exact⟨i,f,fd,ps,Nat.le_trans m hk,r⟩
def We(P:Program)(w:World)(K:Frag)(q:Addr×List (Key×V)):Prop:= ∀h:Heap,K.In h→ ∃vs,KV q.2 vs∧h.DictOf (dX P w) q.1 vs
abbrev xS(N:List Str)(sc:Scope)(tab:List Str)(gt:List Str)(bl:List Str)(mn kn:List Str:=[])(en hn:List Str:=[])(md:Nat:=0):cA:={N:=N,sc:=sc,fn:=tab,gn:=gt,bl:=bl,mn:=mn,kn:=kn,en:=en,hn:=hn,md:=md}
def xT(mg:Str→Option Value)(base:Heap)(p:Str×Addr):Prop:= ∃bm B newId qo,OwnCls p.1 p.2 bm newId mg base∧ExcBaseFacts B newId qo bm
def qy(P:Program)(w:World)(K:Frag)(mg:Str→Option Value)(base:Heap)(k:Nat)(x:Str)(sp:Sp):Prop:=
 ∃f fd ps,oQ P w K mg base k f fd ps sp∧mg x=some (.ref f)∧keepIn K (.ref f)=true∧Binds K fd ps []
theorem qy.mono{P:Program}{w:World}{K:Frag}{mg:Str→Option Value}{base:Heap}{j k:Nat}{x:Str}{sp:Sp}(h:qy P w K mg base j x sp)(hk:j≤k):qy P w K mg base k x sp:=by
 obtain⟨f,fd,ps,F,r⟩:=h
 exact⟨f,fd,ps,F.mono hk,r⟩
theorem bB{x qual:Str}{st:Stmt}{f:Addr}{fd:FuncData}{N ps:List Str}{k:Nat}{sp:Sp}(F:mX K x qual st f fd)(S:bA N ps (aJ st))
  (tab:List (Str×Sp)) (gt:List (Str×V)) (bl:List Str) (mt kt:List (Str×Addr×Sp)) (et:List (Str×Addr)) (ht:List (Str×Sp)) (body:List RS)
  (hm: ∀{CX:bU} {Γ:aO} {X:Cx},dt CX (xS N (aJ st) (tab.map (·.1)) (gt.map (·.1)) bl (mt.map (·.1)) (kt.map (·.1)) (et.map (·.1)) (ht.map (·.1))) Γ X→dz X (bc st) (aB Γ body))
  (Wf: ∀p∈tab,bF P w K mg base k p.1 p.2) (BL: ∀p∈gt,eZ mg p) (BM: ∀y∈bl,mg y=none) (dk:List (Addr×List (Key×V))) (Wg: ∀q∈dk,We P w K q)
  (Wh: ∀p∈mt,uu P w K mg base k p) (Wi: ∀p∈kt,nz P w K mg base k p) (het: ∀p∈et,xT mg base p) (Wj: ∀p∈ht,qy P w K mg base k p.1 p.2)
  (len: ∀vs H Q E,sp vs H Q E→vs.length=ps.length)
  (BN: ∀vs H Q E,sp vs H Q E→aB (aM K tab gt dk mt kt et ht E) body {nx:=fun _ H'=>Q .aD H',rt:=Q} (start N vs) H):cw P w K mg base (eL P w) (k+1) f fd ps sp:=by
 obtain⟨oc,od,kV,doc,pm,an,bK,ct,ji,rfl,lk,ia⟩:=F.ex
 refine QS lk ia S len fun A outer s H vs Q E hr ib=> ⟨_,hm (CX:=eL P w) (Γ:=aM K tab gt dk mt kt et ht E) ?_,BN vs H Q E ib⟩
 refine {N:=rfl,sc:=rfl,K:=rfl,calm:=fun _=>rfl,units:=hr.units,fns:=fun _ j y hj=> ?_,j4:=fun j y hj=> ?_,dF:=fun y hy=> ?_,pass:=UG,j5:=fun _ _ _ _ _ h=>xv h,lK:=fun p av h=>Wg _ h,nj:=fun _ j y hj=> ?_,nk:=fun _ j y hj=> ?_,cQ:=fun j y hj=> ?_,lM:=fun j y hj=> ?_,nq:=fun _ h=> (nomatch h),oR:=fun h=> (nomatch h),nd:=S.nd,lN:=fun _=>rfl,own:=PassesOwn.leaving,oT:=S.kind,rs:=fun _ _ _=>UH,iG:=rfl,fY:=rfl,oU:=rfl,lO:=rfl}
 ·have bH:(tab.map (·.1))[j]?=some y:=hj
  rw[List.getElem?_map] at bH
  cases q:tab[j]? with
  | none=>rw[q] at bH;cases bH
  | some p=>
   rw[q] at bH
   have e:p.1=y:=Option.some.inj bH
   obtain⟨f',oW,oX,F',m',k',b'⟩:=Wf p (List.mem_of_getElem? q)
   have es:ny tab j=p.2:=by unfold ny;rw[q]
   show IY (eL P w) _ y (ny tab j)
   rw[es,←e]
   exact⟨k,f',oW,oX,F',hr,m',k',b'⟩
 ·have bH:(gt.map (·.1))[j]?=some y:=hj
  rw[List.getElem?_map] at bH
  cases q:gt[j]? with
  | none=>rw[q] at bH;cases bH
  | some p=>
   rw[q] at bH
   have e:p.1=y:=Option.some.inj bH
   obtain⟨u,h1,h2⟩:=(BL p (List.mem_of_getElem? q)).ex
   have es:oV gt j=p.2:=by unfold oV;rw[q]
   show ∃u,mg y=some u∧RelV (oV gt j) u
   rw[es,←e]
   exact⟨u,h1,h2⟩
 ·exact BM y (by simpa using hy)
 ·have bH:(mt.map (·.1))[j]?=some y:=hj
  rw[List.getElem?_map] at bH
  cases q:mt[j]? with
  | none=>rw[q] at bH;cases bH
  | some p=>
   rw[q] at bH
   have e:p.1=y:=Option.some.inj bH
   obtain⟨c,f',oW,oX,m',F',b'⟩:=Wh p (List.mem_of_getElem? q)
   have es:j_ mt j=p.2:=by unfold j_;rw[q]
   show By (eL P w) _ (j_ mt j).1 y (j_ mt j).2
   rw[es,←e]
   exact⟨c,k,f',oW,oX,m',F',hr,b'⟩
 ·have bH:(kt.map (·.1))[j]?=some y:=hj
  rw[List.getElem?_map] at bH
  cases q:kt[j]? with
  | none=>rw[q] at bH;cases bH
  | some p=>
   rw[q] at bH
   have e:p.1=y:=Option.some.inj bH
   obtain⟨i,f',oW,oX,hi,m',F',g',b'⟩:=Wi p (List.mem_of_getElem? q)
   have es:j_ kt j=p.2:=by unfold j_;rw[q]
   show IZ (eL P w) _ y (j_ kt j).1 (j_ kt j).2
   rw[es,←e]
   exact⟨i,f',oW,oX,m',F',hr.mono hi,g',b'⟩
 ·have bH:(et.map (·.1))[j]?=some y:=hj
  rw[List.getElem?_map] at bH
  cases q:et[j]? with
  | none=>rw[q] at bH;cases bH
  | some p=>
   rw[q] at bH
   have e:p.1=y:=Option.some.inj bH
   have es:xR et j=p.2:=by unfold xR;rw[q]
   show Ja _ y (xR et j)
   rw[es,←e]
   exact het p (List.mem_of_getElem? q)
 ·have bH:(ht.map (·.1))[j]?=some y:=hj
  rw[List.getElem?_map] at bH
  cases q:ht[j]? with
  | none=>rw[q] at bH;cases bH
  | some p=>
   rw[q] at bH
   have e:p.1=y:=Option.some.inj bH
   obtain⟨f',oW,oX,F',m',k',b'⟩:=Wj p (List.mem_of_getElem? q)
   have es:ny ht j=p.2:=by unfold ny;rw[q]
   show I_ _ y (ny ht j)
   rw[es,←e]
   exact⟨k,f',oW,oX,F',hr.h,m',k',b'⟩
section
variable {x qual:Str} {st:Stmt} {f C:Addr} {fd:FuncData} {N ps:List Str} {k:Nat} {sp:Sp}
end
end
section
variable {P:Program} {w:World} {K:Frag} {mg:Str→Option Value} {base:Heap} {x qual:Str} {st:Stmt} {f:Addr} {fd:FuncData} {N ps:List Str} {k:Nat} {sp:Sp}
theorem Wk(F:mX K x qual st f fd)(S:bA N ps (aJ st))(lj:mg x=some (.ref f))(hb:Binds K fd ps [])
  (gt:List (Str×V)) (bl:List Str) (body:List RS)
  (hm: ∀{CX:bU} {Γ:aO} {X:Cx},dt CX (xS N (aJ st) [] (gt.map (·.1)) bl (md:=1)) Γ X→dz X (bc st) (aB Γ body))
  (BL: ∀p∈gt,eZ mg p) (BM: ∀y∈bl,mg y=none) (len: ∀vs H Q E,sp vs H Q E→vs.length=ps.length)
  (BN: ∀vs H Q,sp vs H Q E0→aB (aM K [] gt) body {nx:=fun _ H'=>Q .aD H',rt:=Q} (start N vs) H):qy P w K mg base (k+1) x sp:=by
 obtain⟨oc,od,kV,doc,pm,an,bK,ct,ji,rfl,lk,ia⟩:=F.ex
 refine⟨f,_,ps,U9 (CX:=eL P w) lk ia S len fun A outer s H vs Q hr hh ib=> ⟨_,hm (CX:=eL P w) (Γ:=aM K [] gt) ?_,BN vs H Q ib⟩,lj,F.kp,hb⟩
 refine {N:=rfl,sc:=rfl,K:=rfl,calm:=fun h=> (nomatch h),units:=hr.units,fns:=fun h=> (nomatch h),j4:=fun j y hj=> ?_,dF:=fun y hy=> ?_,pass:=fun _ _ _ _ _ _ _ h=> (xv h).elim,j5:=fun _ _ _ _ _ h=>xv h,lK:=fun p av h=> (nomatch h),nj:=fun h=> (nomatch h),nk:=fun h=> (nomatch h),cQ:=fun j y hj=> (nomatch hj),lM:=fun j y hj=> (nomatch hj),nq:=fun _ h=> (nomatch h),oR:=fun _=>Va hh,nd:=S.nd,lN:=fun _=>rfl,own:=PassesOwn.never,oT:=S.kind,rs:=fun _ _ hj=> (nomatch hj),iG:=rfl,fY:=rfl,oU:=rfl,lO:=rfl}
 ·have bH:(gt.map (·.1))[j]?=some y:=hj
  rw[List.getElem?_map] at bH
  cases q:gt[j]? with
  | none=>rw[q] at bH;cases bH
  | some p=>
   rw[q] at bH
   have e:p.1=y:=Option.some.inj bH
   obtain⟨u,h1,h2⟩:=(BL p (List.mem_of_getElem? q)).ex
   have es:oV gt j=p.2:=by unfold oV;rw[q]
   show ∃u,mg y=some u∧RelV (oV gt j) u
   rw[es,←e]
   exact⟨u,h1,h2⟩
 ·exact BM y (by simpa using hy)
theorem cw.top{k:Nat}(F:cw P w K mg base (eL P w) k f fd ps sp):cw P w K mg base wV k f fd ps (fun vs H Q _=>sp vs H Q E0):=
 ⟨fun vs H Q E h=>F.len vs H Q E0 h,fun A outer s H args us vs Q E hr e0 hb hv hs=>codeAny_mono (F.run A outer s H args us vs Q E0 hr e0 hb hv hs) fun r s' h=>by
  cases r with
  | error e=>exact(xv h).elim
  | ok fl=>cases fl<;>exact h⟩
end
section
variable {Γ:aO} {D:Ends} {σ:St} {H:Hp} {r:List RS} {Q:VK}
theorem Wl{i:Nat}{e:RE}(h:ah Γ e σ H fun x H1=>aB Γ r D (σ.set i (some x)) H1):aB Γ (.asg i e::r) D σ H:=h
theorem Wm{i:Nat}{e:RE}(h:ah Γ e σ H fun x H1=>aB Γ r D (σ.set i (some x)) H1):aB Γ (.xk i e::r) D σ H:=h
theorem Wn{c:RE}{t e:List RS}(h:aZ Γ c σ H fun b H1=>if b=true then aB Γ t {D with nx:=aB Γ r D} σ H1 else aB Γ e {D with nx:=aB Γ r D} σ H1):aB Γ (.ite c t e::r) D σ H:=h
end
end L2
namespace L2.B
open PySem PySem.Spec PyProof.Rows
def dB:List Str:=["thing"]
noncomputable def BO:List RS:=
 [.ret (.and [(.eK .int (.v 0)),(.not (.eK .bool (.v 0)))])]
def af:List Str:=[]
def xU:List Str:=["isinstance","int","bool"]
def qz:List Str:=["thing","words"]
noncomputable def xV:List RS:=
 [.ret (.and [(.eK .str (.v 0)),(.cmp .In (.v 0) (.v 1))])]
def xW:List Str:=["isinstance","str"]
noncomputable def xX:List RS:=
 [.ret (.and [(.eK .str (.v 0)),(.cmp .Eq (.bC .lstrip (.v 0) [(.g 0)]) (.c (.str "")))])]
def Wo:List Str:=["SIGNS"]
noncomputable def uv:List RS:=
 [.ite (.or [(.not (.eK .tuple (.v 0))),(.cmp .NotEq (.blt .len [(.v 0)]) (.c (.int 2)))]) [.ret (.c (.bl false))] [],
 .ite (.call 0 [(.ix (.v 0) (.c (.int 0))),(.tup [(.c (.str "keep"))])]) [.ret (.and [(.call 1 [(.ix (.v 0) (.c (.int 1)))]),(.cmp .GtE (.ix (.v 0) (.c (.int 1))) (.c (.int 1)))])] [],
 .ret (.and [(.call 0 [(.ix (.v 0) (.c (.int 0))),(.tup [(.c (.str "cut")),(.c (.str "put"))])]),(.call 2 [(.ix (.v 0) (.c (.int 1)))]),(.cmp .NotEq (.ix (.v 0) (.c (.int 1))) (.c (.str "")))])]
def Wq:List Str:=["is_word","is_whole","is_text"]
def uw:List Str:=["isinstance","tuple","len"]
def ux:List Str:=["word","ahead"]
noncomputable def BP:List RS:=
 [.ret (.and [(.cmp .NotEq (.v 0) (.v 1)),(.not (.and [(.cmp .Eq (.v 1) (.c (.str "cut"))),(.cmp .Eq (.v 0) (.c (.str "put")))]))])]
def xY:List Str:=["change","ahead","part"]
def Ju:List Str:=["change"]
noncomputable def uz:List RS:=
 [.ite (.not (.eK .list (.v 0))) [.m7 0 [(.c (.str "a change is a list"))]] [],
 .asg 1 (.c (.str "")),
 .lE 2 .list [(.v 0)] [.ite (.not (.call 0 [(.v 2)])) [.m7 0 [(.c (.str "a part is a keep of 1 sign or more, or a cut or put of a text that is not empty"))]] [],
  .ite (.not (.call 1 [(.ix (.v 2) (.c (.int 0))),(.v 1)])) [.m7 0 [(.c (.str "neighbours have two words, and no put stands right behind a cut"))]] [],
  .asg 1 (.ix (.v 2) (.c (.int 0)))]]
def Wr:List Str:=["is_part","may_follow"]
def BQ:List Str:=["isinstance","list"]
def Ws:List Str:=["BadChange"]
def uA:List Str:=["_law_script","_law_k"]
noncomputable def BR:List RS:=
 [.ite (.cmp .Lt (.v 1) (.blt .len [(.v 0)])) [.ret (.ix (.v 0) (.v 1))] [],
 .ret (.c (.int 0))]
def oY:List Str:=["len"]
def BS:List Str:=["_law_cell","_law_k","_law_number"]
def Jv:List Str:=["_law_cell","_law_k"]
noncomputable def BU:List RS:=
 [.asg 2 (.bin .Mod (.bin .Add (.bin .Add (.bin .Mult (.v 0) (.c (.int 48271))) (.bin .Mult (.c (.int 7919)) (.v 1))) (.c (.int 11))) (.c (.int 1000003))),
 .ret (.bin .Mod (.bin .Mult (.bin .Mod (.bin .Mult (.v 2) (.v 2)) (.c (.int 1000003))) (.v 2)) (.c (.int 1000003)))]
def BV:List Str:=["_law_cell","_law_size_here","_law_some"]
def xZ:List Str:=["_law_cell","_law_size_here"]
noncomputable def BW:List RS:=
 [.asg 2 (.c (.str " !\"#$&'()*+,-./0123456789:;<=>?@ABCDEFGHIJKLMNOPQRSTUVWXYZ[\\]^_`")),
 .asg 2 (.bin .Add (.v 2) (.c (.str "abcdefghijklmnopqrstuvwxyz{|}~\n"))),
 .ite (.cmp .Eq (.bin .Mod (.v 0) (.c (.int 3))) (.c (.int 0))) [.asg 2 (.c (.str "ab\n"))] [],
 .ret (.bC .join (.c (.str "")) [(.comp none [("_law_some",2),("_law_cell",0)] .fk [(.v 1)] none (.ix (.v 1) (.bin .Mod (.bin .FloorDiv (.call 0 [(.v 2),(.v 0)]) (.c (.int 7))) (.blt .len [(.v 1)]))))])]
def Jw:List Str:=["_law_mixed"]
def nA:List Str:=["range","len"]
def uB:List Str:=["_law_cell"]
noncomputable def BX:List RS:=
 [.ite (.cmp .Eq (.bin .Mod (.v 0) (.c (.int 8))) (.c (.int 1))) [.ret (.bin .Mod (.bin .FloorDiv (.v 0) (.c (.int 8))) (.c (.int 401)))] [],
 .ret (.bin .Mod (.bin .FloorDiv (.v 0) (.c (.int 8))) (.c (.int 25)))]
def BY:List Str:=["_law_cell","_law_text_here","_law_many","_law_parts_here","_law_at","_law_k","_law_number","_law_size_here","_law_left"]
def oZ:List Str:=["_law_cell","_law_text_here","_law_many"]
noncomputable def BZ:List RS:=
 [.asg 3 (.lst []),
 .asg 4 (.c (.int 0)),
 .lE 5 .fk [(.v 2)] [.asg 6 (.call 0 [(.v 0),(.bin .Add (.c (.int 50)) (.v 5))]),
  .asg 7 (.ix (.lst [(.c (.int 1)),(.c (.int 2)),(.c (.int 0)),(.c (.int 3)),(.c (.int 5)),(.c (.int 40))]) (.bin .Mod (.bin .FloorDiv (.v 6) (.c (.int 4))) (.c (.int 6)))),
  .asg 8 (.blt .min [(.v 7),(.bin .Sub (.blt .len [(.v 1)]) (.v 4))]),
  .ite (.cmp .Eq (.bin .Mod (.v 6) (.c (.int 4))) (.c (.int 3))) [.drop (.bC .append (.v 3) [(.tup [(.c (.str "put")),(.call 1 [(.v 6),(.v 7)])])])] [.ite (.cmp .Eq (.bin .Mod (.v 6) (.c (.int 4))) (.c (.int 2))) [.drop (.bC .append (.v 3) [(.tup [(.c (.str "cut")),(.sl (.v 1) (some (.v 4)) (some (.bin .Add (.v 4) (.v 8))))])])] [.drop (.bC .append (.v 3) [(.tup [(.c (.str "keep")),(.v 8)])])]],
  .ite (.cmp .Lt (.bin .Mod (.v 6) (.c (.int 4))) (.c (.int 3))) [.asg 4 (.bin .Add (.v 4) (.v 8))] []],
 .ret (.bin .Add (.v 3) (.lst [(.tup [(.c (.str "keep")),(.bin .Sub (.blt .len [(.v 1)]) (.v 4))])]))]
def Wt:List Str:=["_law_mixed","_law_text"]
def Jx:List Str:=["range","min","len"]
def x9:List Str:=["_law_parts_here","_law_rows","_law_word","_law_thing","_law_found","_law_put","_law_cut","_law_keep","_law_some"]
def Jy:List Str:=["_law_parts_here"]
noncomputable def B_:List RS:=
 [.asg 1 (.lst [(.lst [(.c (.str "")),(.c (.str "")),(.c (.int 0))])]),
 .iM [2,3] .list [(.v 0)] [.ite (.cmp .Eq (.v 2) (.c (.str "keep"))) [.set (.ix (.v 1) (.neg (.c (.int 1)))) (.c (.int 2)) (.bin .Add (.ix (.ix (.v 1) (.neg (.c (.int 1)))) (.c (.int 2))) (.v 3))] [.ite (.cmp .NotEq (.v 3) (.c (.str ""))) [.ite (.cmp .Gt (.ix (.ix (.v 1) (.neg (.c (.int 1)))) (.c (.int 2))) (.c (.int 0))) [.drop (.bC .append (.v 1) [(.lst [(.c (.str "")),(.c (.str "")),(.c (.int 0))])])] [],
    .set (.ix (.v 1) (.neg (.c (.int 1)))) (.blt .int [(.cmp .Eq (.v 2) (.c (.str "cut")))]) (.bin .Add (.ix (.ix (.v 1) (.neg (.c (.int 1)))) (.blt .int [(.cmp .Eq (.v 2) (.c (.str "cut")))])) (.v 3))] []]],
 .asg 4 (.lst []),
 .iM [5,6,7] .list [(.v 1)] [.asg 8 (.lst [(.tup [(.c (.str "put")),(.v 5)]),(.tup [(.c (.str "cut")),(.v 6)]),(.tup [(.c (.str "keep")),(.v 7)])]),
  .asg 4 (.bin .Add (.v 4) (.comp none [] .list [(.v 8)] (some (.and [(.cmp .NotEq (.ix (.v 0) (.c (.int 1))) (.c (.str ""))),(.cmp .NotEq (.ix (.v 0) (.c (.int 1))) (.c (.int 0)))])) (.v 0)))],
 .ret (.v 4)]
def Jz:List Str:=["int"]
noncomputable def Ca:List RS:=
 [.ret (.call 0 [(.call 1 [(.v 0),(.v 1),(.v 2)])])]
def Wu:List Str:=["_law_neat","_law_parts"]
def iS:List Str:=["_law_e","_law_some","_law_found_here"]
def JA:List Str:=["_law_e"]
noncomputable def d6:List RS:=
 [.asg 1 (.lst [(.tup [(.c (.str "text")),(.da (.v 0) (.g 0))]),(.tup [(.c (.str "change")),(.da (.v 0) (.g 1))]),(.tup [(.c (.str "fit")),(.da (.v 0) (.g 2))])]),
 .asg 1 (.bin .Add (.v 1) (.lst [(.tup [(.c (.str "place")),(.da (.v 0) (.g 3))]),(.tup [(.c (.str "side")),(.da (.v 0) (.g 4))]),(.tup [(.c (.str "mark")),(.da (.v 0) (.g 5))])])),
 .asg 1 (.bin .Add (.v 1) (.lst [(.tup [(.c (.str "node")),(.da (.v 0) (.g 6))]),(.tup [(.c (.str "cursor")),(.da (.v 0) (.g 7))])])),
 .asg 1 (.bin .Add (.v 1) (.lst [(.tup [(.c (.str "deed")),(.da (.v 0) (.g 8))]),(.tup [(.c (.str "letter")),(.da (.v 0) (.g 9))])])),
 .asg 1 (.bin .Add (.v 1) (.lst [(.tup [(.c (.str "gone")),(.da (.v 0) (.g 10))]),(.tup [(.c (.str "hand")),(.da (.v 0) (.g 11))]),(.tup [(.c (.str "note")),(.da (.v 0) (.g 12))])])),
 .xk 2 (.comp (some 2) [] .list [(.v 1)] (some (.v 1)) (.v 0)),
 .ite (.or [(.not (.da (.v 0) (.g 13))),(.not (.da (.v 0) (.c (.ty "ValueError"))))]) [.drop (.bC .append (.v 2) [(.c (.str "bare"))])] [],
 .ret (.bC .join (.c (.str "/")) [(.v 2)])]
def lQ:List Str:=["BadText","BadChange","BadFit","NoPlace","BadSide","NoMark","NoNode","NoCursor","BadDeed","BadLetter","NoLetter","NoHand","NoNote","InkError"]
def kc:List Str:=["isinstance","ValueError"]
def uC:List Str:=["thing","least","most"]
noncomputable def Cb:List RS:=
 [.ret (.and [(.call 0 [(.v 0)]),(.jZ .LtE .LtE (.v 1) (.v 0) (.v 2))])]
def JB:List Str:=["is_whole"]
def x_:List Str:=["_law_found_here"]
noncomputable def Cc:List RS:=
 [.ret (.and [(.eK .int (.v 0)),(.not (.eK .bool (.v 0)))])]
def Cd:List Str:=["row","most","least","beyond","middle"]
def JC:List Str:=["row","most"]
noncomputable def Ce:List RS:=
 [.asg 2 (.c (.int 0)),
 .asg 3 (.blt .len [(.v 0)]),
 .AS (.cmp .Lt (.v 2) (.v 3)) [.asg 4 (.bin .FloorDiv (.bin .Add (.v 2) (.v 3)) (.c (.int 2))),
  .ite (.cmp .LtE (.ix (.v 0) (.v 4)) (.v 1)) [.asg 2 (.bin .Add (.v 4) (.c (.int 1)))] [.asg 3 (.v 4)]],
 .ret (.v 2)]
def yc:List Str:=["self","change","old","new","word","what"]
def JD:List Str:=["self","change"]
noncomputable def uD:List RS:=
 [.drop (.call 0 [(.v 1)]),
 .oM (.v 0) "olds" (.lst []),
 .oM (.v 0) "news" (.lst []),
 .oM (.v 0) "lengths" (.lst []),
 .asg 2 (.c (.int 0)),
 .asg 3 (.c (.int 0)),
 .iM [4,5] .list [(.v 1)] [.ite (.cmp .Eq (.v 4) (.c (.str "put"))) [.asg 3 (.bin .Add (.v 3) (.blt .len [(.v 5)]))] [.ite (.cmp .Eq (.v 4) (.c (.str "cut"))) [.asg 2 (.bin .Add (.v 2) (.blt .len [(.v 5)]))] [.drop (.bC .append (.fld (.v 0) "olds") [(.v 2)]),
    .drop (.bC .append (.fld (.v 0) "news") [(.v 3)]),
    .drop (.bC .append (.fld (.v 0) "lengths") [(.v 5)]),
    .asg 2 (.bin .Add (.v 2) (.v 5)),
    .asg 3 (.bin .Add (.v 3) (.v 5))]]],
 .oM (.v 0) "over" (.v 2),
 .oM (.v 0) "gives" (.v 3)]
def Wv:List Str:=["need_change"]
def Cf:List Str:=["self","place","run"]
def JE:List Str:=["self","place"]
noncomputable def Cg:List RS:=
 [.asg 2 (.bin .Sub (.call 0 [(.fld (.v 0) "olds"),(.bin .Sub (.v 1) (.c (.int 1)))]) (.c (.int 1))),
 .ite (.cmp .Lt (.v 2) (.c (.int 0))) [.ret (.c (.int 0))] [],
 .ret (.bin .Add (.ix (.fld (.v 0) "news") (.v 2)) (.blt .min [(.ix (.fld (.v 0) "lengths") (.v 2)),(.bin .Sub (.v 1) (.ix (.fld (.v 0) "olds") (.v 2)))]))]
def Ww:List Str:=["many_upto"]
def yd:List Str:=["min"]
structure uE (K:Frag) (C:Addr):Prop where
 cl:jg K C
 ye:jh K C "olds"
 Ci:jh K C "news"
 Cj:jh K C "lengths"
 Ck:jh K C "over"
 Wx:jh K C "gives"
def uF:List Str:=["_law_text_here"]
noncomputable def Cm:List RS:=
 [.ret (.comp none [("_law_text_here",0)] .fk [(.blt .len [(.v 0)])] none (.tup [(.tup [(.c (.str "old")),(.v 0)]),(.ix (.v 1) (.v 0))]))]
def yf:List Str:=["_law_rows","_law_change_here","_law_who","_law_found_here","_law_at","_law_many","_law_word_here","_law_thing"]
def JF:List Str:=["_law_rows","_law_change_here","_law_who"]
noncomputable def Cn:List RS:=
 [.asg 3 (.lst []),
 .asg 4 (.c (.int 0)),
 .asg 5 (.c (.int 0)),
 .iM [6,7] .list [(.v 1)] [.ite (.cmp .Eq (.v 6) (.c (.str "put"))) [.asg 3 (.bin .Add (.v 3) (.comp none [("_law_who",2),("_law_thing",7),("_law_many",5)] .fk [(.blt .len [(.v 7)])] none (.tup [(.tup [(.v 1),(.bin .Add (.v 3) (.v 0))]),(.ix (.v 2) (.v 0))]))),
   .asg 5 (.bin .Add (.v 5) (.blt .len [(.v 7)]))] [.ite (.cmp .Eq (.v 6) (.c (.str "cut"))) [.asg 4 (.bin .Add (.v 4) (.blt .len [(.v 7)]))] [.asg 3 (.bin .Add (.v 3) (.sl (.v 0) (some (.v 4)) (some (.bin .Add (.v 4) (.v 7))))),
    .asg 4 (.bin .Add (.v 4) (.v 7))]]],
 .ret (.v 3)]
end L2.B
namespace L2
open PySem PySem.Spec PyProof.Rows
section
variable {X:Cx}
def yg(K:Frag):List V→Hp→VK→Prop:=fun xs H Q=> ∃(p:Addr) (bs:List Bool),xs=[.ref p]∧aq K H p (bs.map V.bl)∧Q (.bl (bs.all id)) H
theorem Co: ∀{bs:List Bool} {us:List Value},Vals (bs.map V.bl) us→us=bs.map Value.bool
 | [],_, .nil=>rfl
 | b::r,_, .cons e t=>by
  have e':_=Value.bool b:=e
  rw[List.map_cons,←Co t,e']
theorem all_range(bs:List Bool):((List.range bs.length).all fun i=> (bs[i]?).getD true)=bs.all id:=by
 rw[Bool.eq_iff_iff,List.all_eq_true,List.all_eq_true]
 constructor
 ·intro h b hb
  obtain⟨i,hi,rfl⟩:=List.getElem_of_mem hb
  have:=h i (List.mem_range.mpr hi)
  simpa[hi] using this
 ·intro h i hi
  have hi:=List.mem_range.mp hi
  have:=h _ (List.getElem_mem hi)
  simpa[hi] using this
theorem Wy(hc:X.calm=true):cc X (.builtin "all") (yg X.K):=by
 intro pins s σ H xs us Q I r h
 obtain⟨p,bs,rfl,hq,q⟩:=h
 obtain⟨u,rfl,ru⟩:=vals1 r
 cases ru
 obtain⟨its,rv,pl,hz⟩:=I.list hq
 have e:=Co rv
 subst e
 have aQ: @LT.lt Nat _ p s.heap.objs.size:=by obtain⟨_,e,_⟩:=pl.isList;exact Heap.lt_size e
 refine call_all_walk (wpAny_pyIter_list pl.isList ?_)
 refine⟨s.heap.objs.size,[s.heap.objs.size,p],[s.heap.objs.size],(bs.map Value.bool).toArray.size,_,_,fun i=> (bs[i]?).getD true,rfl,
  Walks.list (A:=X.A.in1) (I.ok.hd hc) _ p (Nat.ne_of_lt aQ) _,⟨⟨_,Heap.get?_push_size _ rfl,rfl,rfl⟩,pl.isList.push _⟩,fun i v s' Q' E' hP hQ=> ?_,fun h' tk hk=> ?_⟩
 ·have jo:(bs.map Value.bool)[i]?=some v:=by simpa using hP
  rw[List.getElem?_map] at jo
  cases eb:bs[i]? with
  | none=>rw[eb] at jo;cases jo
  | some b=>
   rw[eb] at jo
   cases jo
   have uG:Q' ((bs[i]?).getD true) s':=hQ
   rw[eb] at uG
   exact wpAny_truthy_bool uG
 ·have e:((List.range (bs.map Value.bool).toArray.size).all fun i=> (bs[i]?).getD true)=bs.all id:=by
   have e0:(bs.map Value.bool).toArray.size=bs.length:=by simp
   rw[e0];exact all_range bs
  rw[e]
  refine⟨.bl _,H,I.kept (t':=tk) fun b o e=> ?_,rfl,q⟩
  exact hk b o (fun hm=>by rw[List.mem_singleton.mp hm] at e;exact Nat.lt_irrefl _ (Heap.lt_size e)) (Heap.get?_push_of_some _ e)
theorem boot_all:bootBuiltins "all"=some (.builtin "all"):=by decide+kernel
end
def Cp:Frag→TA→TE:=fun K t=>dY (yg K) t
section
variable {CX:bU} {S:cA} {Γ:aO} {X:Cx} {e e2 a b c d:Expr} {es:List Expr} {x:Str} {p q pos:Pos} {r ra rb rc:RE} {rs:List RE} {i j:Nat}
theorem Wz(G:Good CX S Γ X)(hA:PA X (e::es) (aS Γ (r::rs)))(h:kB S x "all"=true:=by kernel_rfl)(hn:d4 (e::es)=true:=by kernel_rfl)(hq:S.md=0:=by rfl):PE X (.Call (.Name x p) (e::es) [] pos) (ah Γ (.xt Cp (r::rs))):=by
 simp only[kB,Bool.and_eq_true,decide_eq_true_eq] at h
 obtain⟨⟨rfl,h2⟩,h3⟩:=h
 show PE X _ (dY (yg Γ.K) (aS Γ (r::rs)))
 rw[←G.K]
 exact mU (Wy (G.calm hq)) (G.gl h2) (G.dF _ h3) boot_all hA (by decide) (by decide) (cC (cg hn).1) (gI _ _ es (cg hn).2)
theorem JG{T:Frag→TA→TE}(G:Good CX S Γ X)(h:PE X (.Call a es [] p) (ah Γ (.xt T rs))):PT X (.Call a es [] p) (aZ Γ (.xt T rs)):=by
 show PT X _ (eY Γ.K (ah Γ (.xt T rs)))
 rw[←G.K]
 exact ui h fun _=>rfl
end
section
variable {CX:bU} {S:cA} {Γ:aO} {X:Cx} {a b:Expr} {x:Str} {p q pos:Pos} {ra rb:RE}
end
end L2
namespace L2.B
open PySem PySem.Spec PyProof.Rows
end L2.B
namespace L2
open PySem PySem.Spec PyProof.Rows
section
variable {X:Cx}
end
section
variable {CX:bU} {S:cA} {Γ:aO} {X:Cx} {e e2 a b c d:Expr} {es:List Expr} {x:Str} {p q pos:Pos} {r ra rb rc:RE} {rs:List RE} {i j:Nat}
end
section
variable {X:Cx}
def yh(K:Frag):List V→Hp→VK→Prop:=fun xs H Q=> ∃(p:Addr) (bs:List Bool),xs=[.ref p]∧aq K H p (bs.map V.bl)∧Q (.bl (bs.any id)) H
theorem any_range(bs:List Bool):((List.range bs.length).any fun i=> (bs[i]?).getD false)=bs.any id:=by
 rw[Bool.eq_iff_iff,List.any_eq_true,List.any_eq_true]
 constructor
 ·rintro⟨i,hi,h⟩
  have hi:=List.mem_range.mp hi
  exact⟨_,List.getElem_mem hi,by simpa[hi] using h⟩
 ·rintro⟨b,hb,h⟩
  obtain⟨i,hi,rfl⟩:=List.getElem_of_mem hb
  exact⟨i,List.mem_range.mpr hi,by simpa[hi] using h⟩
theorem WA(hc:X.calm=true):cc X (.builtin "any") (yh X.K):=by
 intro pins s σ H xs us Q I r h
 obtain⟨p,bs,rfl,hq,q⟩:=h
 obtain⟨u,rfl,ru⟩:=vals1 r
 cases ru
 obtain⟨its,rv,pl,hz⟩:=I.list hq
 have e:=Co rv
 subst e
 have aQ: @LT.lt Nat _ p s.heap.objs.size:=by obtain⟨_,e,_⟩:=pl.isList;exact Heap.lt_size e
 refine call_any_walk (wpAny_pyIter_list pl.isList ?_)
 refine⟨s.heap.objs.size,[s.heap.objs.size,p],[s.heap.objs.size],(bs.map Value.bool).toArray.size,_,_,fun i=> (bs[i]?).getD false,rfl,
  Walks.list (A:=X.A.in1) (I.ok.hd hc) _ p (Nat.ne_of_lt aQ) _,⟨⟨_,Heap.get?_push_size _ rfl,rfl,rfl⟩,pl.isList.push _⟩,fun i v s' Q' E' hP hQ=> ?_,fun h' tk hk=> ?_⟩
 ·have jo:(bs.map Value.bool)[i]?=some v:=by simpa using hP
  rw[List.getElem?_map] at jo
  cases eb:bs[i]? with
  | none=>rw[eb] at jo;cases jo
  | some b=>
   rw[eb] at jo
   cases jo
   have uG:Q' ((bs[i]?).getD false) s':=hQ
   rw[eb] at uG
   exact wpAny_truthy_bool uG
 ·have e:((List.range (bs.map Value.bool).toArray.size).any fun i=> (bs[i]?).getD false)=bs.any id:=by
   have e0:(bs.map Value.bool).toArray.size=bs.length:=by simp
   rw[e0];exact any_range bs
  rw[e]
  refine⟨.bl _,H,I.kept (t':=tk) fun b o e=> ?_,rfl,q⟩
  exact hk b o (fun hm=>by rw[List.mem_singleton.mp hm] at e;exact Nat.lt_irrefl _ (Heap.lt_size e)) (Heap.get?_push_of_some _ e)
theorem WB:bootBuiltins "any"=some (.builtin "any"):=by decide+kernel
end
def Cq:Frag→TA→TE:=fun K t=>dY (yh K) t
section
variable {CX:bU} {S:cA} {Γ:aO} {X:Cx} {e:Expr} {es:List Expr} {x:Str} {p pos:Pos} {r:RE} {rs:List RE}
theorem WC(G:Good CX S Γ X)(hA:PA X (e::es) (aS Γ (r::rs)))(h:kB S x "any"=true:=by kernel_rfl)(hn:d4 (e::es)=true:=by kernel_rfl)(hq:S.md=0:=by rfl):PE X (.Call (.Name x p) (e::es) [] pos) (ah Γ (.xt Cq (r::rs))):=by
 simp only[kB,Bool.and_eq_true,decide_eq_true_eq] at h
 obtain⟨⟨rfl,h2⟩,h3⟩:=h
 show PE X _ (dY (yh Γ.K) (aS Γ (r::rs)))
 rw[←G.K]
 exact mU (WA (G.calm hq)) (G.gl h2) (G.dF _ h3) WB hA (by decide) (by decide) (cC (cg hn).1) (gI _ _ es (cg hn).2)
end
end L2
namespace L2.B
open PySem PySem.Spec PyProof.Rows
def eA:List Str:=["cursor"]
noncomputable def Cr:List RS:=
 [.ret (.blt .min [(.ix (.v 0) (.c (.int 0))),(.ix (.v 0) (.c (.int 1)))])]
noncomputable def Cs:List RS:=
 [.ret (.blt .max [(.ix (.v 0) (.c (.int 0))),(.ix (.v 0) (.c (.int 1)))])]
def JH:List Str:=["max"]
noncomputable def Ct:List RS:=
 [.ret (.cmp .Eq (.ix (.v 0) (.c (.int 0))) (.ix (.v 0) (.c (.int 1))))]
noncomputable def uH:List RS:=
 [.ret (.or [(.cmp .Is (.v 0) (.c .aD)),(.and [(.call 0 [(.v 0)]),(.cmp .GtE (.v 0) (.c (.int 0)))])])]
def qA:List Str:=["thing","size"]
noncomputable def uI:List RS:=
 [.ite (.or [(.not (.eK .tuple (.v 0))),(.cmp .NotEq (.blt .len [(.v 0)]) (.c (.int 3)))]) [.ret (.c (.bl false))] [],
 .ret (.and [(.call 0 [(.ix (.v 0) (.c (.int 0))),(.c (.int 0)),(.v 1)]),(.call 0 [(.ix (.v 0) (.c (.int 1))),(.c (.int 0)),(.v 1)]),(.call 1 [(.ix (.v 0) (.c (.int 2)))])])]
def WD:List Str:=["is_between","is_goal"]
def uJ:List Str:=["begin","end","cursor"]
noncomputable def Cv:List RS:=
 [.ite (.cmp .Eq (.call 0 [(.v 2)]) (.v 1)) [.ret (.or [(.cmp .Eq (.v 0) (.v 1)),(.call 1 [(.v 2)])])] [],
 .ret (.cmp .Lt (.call 0 [(.v 2)]) (.v 1))]
def WE:List Str:=["begin_of","is_empty"]
def qB:List Str:=["size","cursors"]
noncomputable def uK:List RS:=
 [.ite (.or [(.not (.eK .list (.v 1))),(.not (.jZ .LtE .LtE (.c (.int 1)) (.blt .len [(.v 1)]) (.g 0)))]) [.m7 0 [(.c (.str "cursors are a list of 1 to 40"))]] [],
 .ite (.not (.xt Cp [(.comp none [("size",0)] .list [(.v 1)] none (.call 0 [(.v 0),(.v 1)]))])) [.m7 0 [(.c (.str "a cursor is a tuple of two places of the text and a goal"))]] [],
 .ite (.xt Cq [(.comp (some 2) [] .zip [(.v 1),(.sl (.v 1) (some (.c (.int 1))) none)] none (.call 1 [(.call 2 [(.v 0)]),(.call 3 [(.v 0)]),(.v 1)]))]) [.m7 0 [(.c (.str "cursors rise by their begins, and no two neighbours meet"))]] []]
def WG:List Str:=["is_cursor","meet","begin_of","end_of"]
def WH:List Str:=["MOST_CURSORS"]
def Cw:List Str:=["isinstance","list","len","all","any","zip"]
def WI:List Str:=["NoCursor"]
end L2.B
namespace L2.gb
open PySem PySem.W PyProof.Rows
structure Ord (n:Nat) (lt:Nat→Nat→Bool):Prop where
 aU: ∀i j,i<n→j<n→i≠j→lt i j=true∨lt j i=true
 WJ: ∀i j,i<n→j<n→lt i j=true→lt j i=false
 tr: ∀i j k,i<n→j<n→k<n→lt i j=true→lt j k=true→lt i k=true
def at'(p:Array Nat)(i:Nat):Nat:=p.getD i 0
structure Pm (n:Nat) (p:Array Nat):Prop where
 sz:p.size=n
 pm:p.toList.Perm (List.range n)
theorem uL{p:Array Nat}{i:Nat}(h:i<p.size):at' p i=p[i]:=by simp[at',Array.getD,h]
theorem uM{p q:Array Nat}{i j:Nat}(h:p[i]?=q[j]?):at' p i=at' q j:=by
 unfold at'
 rw[Array.getD_eq_getD_getElem?,Array.getD_eq_getD_getElem?,h]
section
variable {n:Nat} {lt:Nat→Nat→Bool} {p:Array Nat}
theorem Pm.inR(P:Pm n p){i:Nat}(h:i<n):at' p i<n:=by
 have hs:i<p.size:=by rw[P.sz];exact h
 rw[uL hs]
 have hm:p[i]∈p.toList:=by simp
 exact List.mem_range.mp (P.pm.subset hm)
theorem Pm.ne(P:Pm n p){i j:Nat}(hi:i<n)(hj:j<n)(h:i≠j):at' p i≠at' p j:=by
 have hs:i<p.size:=by rw[P.sz];exact hi
 have jq:j<p.size:=by rw[P.sz];exact hj
 rw[uL hs,uL jq]
 have nd:p.toList.Nodup:=P.pm.nodup_iff.mpr List.nodup_range
 intro e
 have e2:p.toList[i]'(by simpa using hs)=p.toList[j]'(by simpa using jq):=by simpa using e
 exact h ((List.getElem_inj nd).mp e2)
theorem Pm.perm(P:Pm n p){q:Array Nat}(h:q.Perm p):Pm n q:=⟨by rw[h.size_eq,P.sz],h.toList.trans P.pm⟩
def Up(lt:Nat→Nat→Bool)(p:Array Nat)(k:Nat):Prop:= ∀i j,i<j→j<k→lt (at' p i) (at' p j)=true
def Dn(lt:Nat→Nat→Bool)(p:Array Nat)(k:Nat):Prop:= ∀i j,i<j→j<k→lt (at' p j) (at' p i)=true
theorem Up.snoc(O:Ord n lt)(P:Pm n p){k:Nat}(U:Up lt p k)(hk:k<n)(h1:1≤k)(h:lt (at' p k) (at' p (k - 1))=false):Up lt p (k+1):=by
 intro i j jr hj
 by_cases e:j=k
 ·subst e
  have l1:lt (at' p (j - 1)) (at' p j)=true:=by
   rcases O.aU _ _ (P.inR (i:=j - 1) (by omega)) (P.inR hk) (P.ne (by omega) hk (by omega)) with z | z
   ·exact z
   ·rw[z] at h;cases h
  by_cases e2:i=j - 1
  ·rw[e2];exact l1
  ·exact O.tr _ _ _ (P.inR (by omega)) (P.inR (by omega)) (P.inR hk) (U i (j - 1) (by omega) (by omega)) l1
 ·exact U i j jr (by omega)
theorem Dn.snoc(O:Ord n lt)(P:Pm n p){k:Nat}(U:Dn lt p k)(hk:k<n)(h1:1≤k)(h:lt (at' p k) (at' p (k - 1))=true):Dn lt p (k+1):=by
 intro i j jr hj
 by_cases e:j=k
 ·subst e
  by_cases e2:i=j - 1
  ·rw[e2];exact h
  ·exact O.tr _ _ _ (P.inR hk) (P.inR (by omega)) (P.inR (by omega)) h (U i (j - 1) (by omega) (by omega))
 ·exact U i j jr (by omega)
theorem Up.one:Up lt p 1:=fun i j jr hj=>by omega
variable {cmp:Nat→Nat→(Bool→Shared→Prop)→Shared→Prop} {R:Shared→Prop}
def nB(n:Nat)(lt:Nat→Nat→Bool)(cmp:Nat→Nat→(Bool→Shared→Prop)→Shared→Prop)(R:Shared→Prop):Prop:=
 ∀i j (C:Bool→Shared→Prop),i<n→j<n→i≠j→(∀s,R s→C (lt i j) s)→ ∀s,R s→cmp i j C s
def TR(cmp:Nat→Nat→(Bool→Shared→Prop)→Shared→Prop)(R:Shared→Prop){α:Type}(t:KasT α)(P:α→Prop):Prop:= ∀Q:α→Shared→Prop,(∀a s,P a→R s→Q a s)→ ∀s,R s→t.kasWp cmp Q s
theorem TR.ret{α:Type}{a:α}{P:α→Prop}(h:P a):TR cmp R (.ret a) P:=fun Q q s r=>q a s h r
theorem TR.ask{α:Type}{i j:Nat}{k:Bool→KasT α}{P:α→Prop}(A:nB n lt cmp R)(hi:i<n)(hj:j<n)(ne:i≠j)(h:TR cmp R (k (lt i j)) P):TR cmp R (.ask i j k) P:=fun Q q s r=>A i j _ hi hj ne (fun s' r'=>h Q q s' r') s r
theorem TR.bind{α β:Type}{t:KasT α}{f:α→KasT β}{P1:α→Prop}{P:β→Prop}(h:TR cmp R t P1)(h2: ∀a,P1 a→TR cmp R (f a) P):TR cmp R (t.bind f) P:=fun Q q s r=>by
 rw[KasT.kasWp_bind]
 exact h _ (fun a s' p1 r'=>h2 a p1 Q q s' r') s r
theorem TR.mono{α:Type}{t:KasT α}{P P':α→Prop}(h:TR cmp R t P)(hp: ∀a,P a→P' a):TR cmp R t P':=fun Q q s r=>h Q (fun a s' pa r'=>q a s' (hp a pa) r') s r
theorem Cy(O:Ord n lt)(A:nB n lt cmp R)(P:Pm n p): ∀(f k:Nat),1≤k→k+f=n→Up lt p k→TR cmp R (kas_asc p f k) fun m=>k≤m∧m≤n∧Up lt p m∧(m=n∨lt (at' p m) (at' p (m - 1))=true)
 | 0,k,h1,h2,U=>TR.ret ⟨Nat.le_refl _,by omega,U, .inl (by omega)⟩
 | f+1,k,h1,h2,U=>by
  refine TR.ask A (P.inR (by omega)) (P.inR (by omega)) (P.ne (by omega) (by omega) (by omega)) ?_
  cases hc:lt (p.getD k 0) (p.getD (k - 1) 0) with
  | true=>exact TR.ret ⟨Nat.le_refl _,by omega,U, .inr hc⟩
  | false=>exact(Cy O A P f (k+1) (by omega) (by omega) (U.snoc O P (by omega) h1 hc)).mono fun m ⟨a,b,c,d⟩=> ⟨by omega,b,c,d⟩
theorem JI(O:Ord n lt)(A:nB n lt cmp R)(P:Pm n p): ∀(f k:Nat),1≤k→k+f=n→Dn lt p k→TR cmp R (kas_desc f p k 0) fun r=>r.1=p∧r.2.2=0∧k≤r.2.1∧r.2.1≤n∧Dn lt p r.2.1
 | 0,k,h1,h2,U=>TR.ret ⟨rfl,rfl,Nat.le_refl _,by show k≤n;omega,U⟩
 | f+1,k,h1,h2,U=>by
  refine TR.ask A (P.inR (by omega)) (P.inR (by omega)) (P.ne (by omega) (by omega) (by omega)) ?_
  cases hc:lt (p.getD k 0) (p.getD (k - 1) 0) with
  | true=>
   exact(JI O A P f (k+1) (by omega) (by omega) (U.snoc O P (by omega) h1 hc)).mono fun r ⟨a,b,c,d,e⟩=> ⟨a,b,by omega,d,e⟩
  | false=>
   have l1:lt (p.getD (k - 1) 0) (p.getD k 0)=true:=by
    rcases O.aU _ _ (P.inR (i:=k - 1) (by omega)) (P.inR (i:=k) (by omega)) (P.ne (by omega) (by omega) (by omega)) with z | z
    ·exact z
    ·have z':lt (p.getD k 0) (p.getD (k - 1) 0)=true:=z
     rw[z'] at hc;cases hc
   show TR cmp R (.ask (p.getD (k - 1) 0) (p.getD k 0) fun d=>if d=true then .ret (p,k,0) else kas_desc f p (k+1) (0+1)) _
   refine TR.ask A (P.inR (by omega)) (P.inR (by omega)) (P.ne (by omega) (by omega) (by omega)) ?_
   rw[l1]
   exact TR.ret ⟨rfl,rfl,Nat.le_refl _,by show k≤n;omega,U⟩
theorem JJ{p:Array Nat}{m i:Nat}(hm:m≤p.size):at' (kas_rev p 0 m) i=if i<m then at' p (m - 1 - i) else at' p i:=by
 have e:=getElem?_mirror_all (xs:=p) (i:=0) hm i
 by_cases h:i<m
 ·rw[if_pos ⟨Nat.zero_le _,h⟩,show 0+m - 1 - i=m - 1 - i by omega] at e
  rw[if_pos h];exact uM e
 ·rw[if_neg fun z=>h z.2] at e
  rw[if_neg h];exact uM e
theorem Dn.rev{m:Nat}(hm:m≤p.size)(U:Dn lt p m):Up lt (kas_rev p 0 m) m:=by
 intro i j jr hj
 rw[JJ hm,JJ hm,if_pos (by omega),if_pos hj]
 exact U (m - 1 - j) (m - 1 - i) (by omega) (by omega)
theorem Pm.rev(P:Pm n p)(m:Nat):Pm n (kas_rev p 0 m):=P.perm (mirror_perm _ _ _ _)
def Good(n:Nat)(lt:Nat→Nat→Bool)(r:Nat×Array Nat):Prop:=1≤r.1∧r.1≤n∧Pm n r.2∧Up lt r.2 r.1
theorem WK(O:Ord n lt)(A:nB n lt cmp R)(P:Pm n p)(hn:1≤n):TR cmp R (kas_count n p) (Good n lt):=by
 refine TR.bind (Cy O A P (n - 1) 1 (Nat.le_refl _) (by omega) Up.one) fun m ⟨h1,h2,U,h3⟩=> ?_
 by_cases e:m=n
 ·rw[if_pos (by simp[e])]
  exact TR.ret ⟨h1,h2,P,U⟩
 ·rw[if_neg (by simp[e])]
  have hd:lt (at' p m) (at' p (m - 1))=true:=by rcases h3 with h | h;exact absurd h e;exact h
  by_cases g:m>1
  ·rw[if_pos g]
   refine TR.ask A (P.inR (by omega)) (P.inR (by omega)) (P.ne (by omega) (by omega) (by omega)) ?_
   have c:=U 0 (m - 1) (by omega) (by omega)
   have c':lt (p.getD 0 0) (p.getD (m - 1) 0)=true:=c
   rw[c']
   exact TR.ret ⟨h1,h2,P,U⟩
  ·rw[if_neg g]
   have em:m=1:=by omega
   subst em
   have D2:Dn lt p 2:=by
    intro i j jr hj
    have e1:i=0:=by omega
    have e2:j=1:=by omega
    subst e1 e2;exact hd
   refine TR.bind (JI O A P (n - (1+1)) (1+1) (by omega) (by omega) D2) fun r ⟨a,b,c,d,f⟩=> ?_
   rw[if_neg (by omega),a]
   have U2:=f.rev (by rw[P.sz];exact d)
   refine TR.bind (Cy O A (P.rev r.2.1) (n - r.2.1) r.2.1 (by omega) (by omega) U2) fun m2 ⟨a1,a2,a3,a4⟩=> ?_
   exact TR.ret ⟨by show 1≤m2;omega,a2,P.rev _,a3⟩
theorem Cz(O:Ord n lt)(A:nB n lt cmp R)(P:Pm n p){k:Nat}(hk:k<n)(U:Up lt p k): ∀(f l r:Nat),r≤k→l≤r→r - l≤f→(∀i,i<l→lt (at' p i) (at' p k)=true)→(∀i,r≤i→i<k→lt (at' p k) (at' p i)=true)→
  TR cmp R (kas_place p k f l r) fun m=>m≤k∧(∀i,i<m→lt (at' p i) (at' p k)=true)∧ ∀i,m≤i→i<k→lt (at' p k) (at' p i)=true
 | 0,l,r,h1,h2,h3,ha,hb=>TR.ret ⟨by omega,ha,fun i hi=>hb i (by omega)⟩
 | f+1,l,r,h1,h2,h3,ha,hb=>by
  unfold kas_place
  by_cases e:l≥r
  ·rw[if_pos e]
   exact TR.ret ⟨by omega,ha,fun i hi=>hb i (by omega)⟩
  ·rw[if_neg e]
   have hm:(l+r) / 2<k:=by omega
   refine TR.ask A (P.inR hk) (P.inR (by omega)) (P.ne hk (by omega) (by omega)) ?_
   cases hc:lt (p.getD k 0) (p.getD ((l+r) / 2) 0) with
   | true=>
    refine Cz O A P hk U f l ((l+r) / 2) (by omega) (by omega) (by omega) ha fun i hi JK=> ?_
    by_cases e2:i=(l+r) / 2
    ·rw[e2];exact hc
    ·exact O.tr _ _ _ (P.inR hk) (P.inR (by omega)) (P.inR (by omega)) hc (U _ i (by omega) JK)
   | false=>
    have l1:lt (at' p ((l+r) / 2)) (at' p k)=true:=by
     rcases O.aU _ _ (P.inR (i:=(l+r) / 2) (by omega)) (P.inR hk) (P.ne (by omega) hk (by omega)) with z | z
     ·exact z
     ·have z':lt (p.getD k 0) (p.getD ((l+r) / 2) 0)=true:=z
      rw[z'] at hc;cases hc
    refine Cz O A P hk U f ((l+r) / 2+1) r h1 (by omega) (by omega) (fun i hi=> ?_) hb
    by_cases e2:i=(l+r) / 2
    ·rw[e2];exact l1
    ·exact O.tr _ _ _ (P.inR (by omega)) (P.inR (by omega)) (P.inR hk) (U i _ (by omega) (by omega)) l1
theorem JL{p:Array Nat}{k m i:Nat}(hk:k<p.size)(hm:m≤k):at' (bubble p k (k - m)) i=if i=m then at' p k else if m<i∧i≤k then at' p (i - 1) else at' p i:=by
 have e:=getElem?_bubble hk (k - m) (by omega) i
 rw[show k - (k - m)=m by omega] at e
 by_cases h:i=m
 ·rw[if_pos h] at e⊢;exact uM e
 ·rw[if_neg h] at e⊢
  by_cases g:m<i∧i≤k
  ·rw[if_pos g] at e⊢;exact uM e
  ·rw[if_neg g] at e⊢;exact uM e
theorem JM(O:Ord n lt)(A:nB n lt cmp R): ∀(f k:Nat) (p:Array Nat),Pm n p→k+f=n→Up lt p k→TR cmp R (kas_bin f p k) fun q=>Pm n q∧Up lt q n
 | 0,k,p,P,h,U=>TR.ret ⟨P,by rw[show n=k by omega];exact U⟩
 | f+1,k,p,P,h,U=>by
  have hk:k<n:=by omega
  refine TR.bind (Cz O A P hk U k 0 k (Nat.le_refl _) (Nat.zero_le _) (by omega) (fun i hi=>by omega) (fun i hi JK=>by omega)) fun m ⟨hm,ha,hb⟩=> ?_
  refine JM O A f (k+1) _ (P.perm (bubble_perm _ _ _)) (by omega) ?_
  intro i j jr hj
  have hs:k<p.size:=by rw[P.sz];exact hk
  rw[JL hs hm,JL hs hm]
  by_cases e1:i=m
  ·rw[if_pos e1,if_neg (by omega),if_pos (by omega)]
   exact hb (j - 1) (by omega) (by omega)
  ·rw[if_neg e1]
   by_cases e2:j=m
   ·rw[if_pos e2,if_neg (by omega)]
    exact ha i (by omega)
   ·rw[if_neg e2]
    by_cases e3:m<i∧i≤k
    ·rw[if_pos e3,if_pos (by omega)]
     exact U (i - 1) (j - 1) (by omega) (by omega)
    ·rw[if_neg e3]
     by_cases e4:m<j∧j≤k
     ·rw[if_pos e4]
      exact U i (j - 1) (by omega) (by omega)
     ·rw[if_neg e4]
      exact U i j jr (by omega)
theorem WL(O:Ord n lt)(A:nB n lt cmp R)(hn:1≤n):TR cmp R (kas_sort n) fun q=>Pm n q∧Up lt q n:=by
 have P0:Pm n (List.toArray (List.range n)):=⟨by simp,List.Perm.refl _⟩
 refine TR.bind (WK O A P0 hn) fun r ⟨h1,h2,P,U⟩=> ?_
 by_cases e:r.1<n
 ·rw[if_pos e,show max r.1 1=r.1 by omega]
  exact JM O A _ _ _ P (by omega) U
 ·rw[if_neg e]
  exact TR.ret ⟨P,by rw[show n=r.1 by omega];exact U⟩
end
end L2.gb
namespace L2
open PySem PySem.Spec PyProof.Rows PySem.W L2.gb
abbrev T3:=Int×Int×Int
def dC(a b:T3):Bool:=decide (a.1<b.1) || (a.1==b.1 && (decide (a.2.1<b.2.1) || (a.2.1==b.2.1 && decide (a.2.2<b.2.2))))
def nC(ts:List T3)(i j:Nat):Bool:=dC (ts.getD i (0,0,0)) (ts.getD j (0,0,0))
theorem uN{a b:T3}:dC a b=true↔a.1<b.1∨(a.1=b.1∧(a.2.1<b.2.1∨(a.2.1=b.2.1∧a.2.2<b.2.2))):=by
 unfold dC;simp
theorem WM{a b c:T3}(h1:dC a b=true)(h2:dC b c=true):dC a c=true:=by
 rw[uN] at*;omega
theorem JN{a b:T3}(h:dC a b=true):dC b a=false:=by
 cases e:dC b a with
 | false=>rfl
 | true=>rw[uN] at*;omega
theorem WN{a b:T3}(h:a≠b):dC a b=true∨dC b a=true:=by
 rw[uN,uN]
 obtain⟨a1,a2,a3⟩:=a
 obtain⟨b1,b2,b3⟩:=b
 have: ¬(a1=b1∧a2=b2∧a3=b3):=fun⟨x,y,z⟩=>h (by rw[x,y,z])
 simp only
 omega
theorem WO{ts:List T3}(nd:ts.Nodup):Ord ts.length (nC ts) where
 aU i j hi hj ne:=by
  unfold nC
  refine WN ?_
  have e1:ts.getD i (0,0,0)=ts[i]:=by simp[hi]
  have e2:ts.getD j (0,0,0)=ts[j]:=by simp[hj]
  rw[e1,e2]
  exact fun e=>ne ((List.getElem_inj nd).mp e)
 WJ i j _ _ h:=JN h
 tr i j k _ _ _ h1 h2:=WM h1 h2
def TupAt(h:Heap)(v:Value)(t:T3):Prop:= ∃a o n t1 t2 t3,v= .ref a∧h.get? a=some o∧o.cls= .type "tuple"∧o.data= .seq #[.int t.1 t1, .int t.2.1 t2, .int t.2.2 t3] n
theorem TupAt.kept{h h':Heap}{v:Value}{t:T3}(x:TupAt h v t)(k: ∀b o,h.get? b=some o→o.cls= .type "tuple"→h'.get? b=some o):TupAt h' v t:=by
 obtain⟨a,o,n,t1,t2,t3,rfl,e,c,d⟩:=x
 exact⟨a,o,n,t1,t2,t3,rfl,k _ _ e c,c,d⟩
section
variable {prog:Program} {w:World} {A:Around} {E:Value→Shared→Prop} {s:Shared} {vs:List Value} {ts:List T3}
theorem JO: ∀{vs:List Value} {ts:List T3},Paired (TupAt s.heap) vs ts→ ∃fs,KatTups s.heap vs fs∧fs.length=ts.length∧ ∀v∈fs,∃n t,v= .int n t
 | [],[], .nil=> ⟨[],KatTups.nil,rfl,fun v h=>by cases h⟩
 | v::vs,t::ts, .cons x r=>by
  obtain⟨a,o,n,t1,t2,t3,rfl,e,c,d⟩:=x
  obtain⟨fs,k,l,f⟩:=JO r
  refine⟨.int t.1 t1::fs,KatTups.cons e c d (by simp) k,by rw[List.length_cons,List.length_cons,l],fun v hv=> ?_⟩
  rcases List.mem_cons.mp hv with rfl | hv
  ·exact⟨_,_,rfl⟩
  ·exact f v hv
theorem CB{h:Heap}: ∀{vs:List Value} {ts:List T3},Paired (TupAt h) vs ts→ ∀i,i<ts.length→TupAt h (vs.getD i Value.none) (ts.getD i (0,0,0))
 | [],[],_,i,hi=>absurd hi (Nat.not_lt_zero _)
 | v::vs,t::ts, .cons x r,0,_=>x
 | v::vs,t::ts, .cons x r,i+1,hi=>CB r i (by simpa using hi)
theorem WQ{x y:Value}{a b:T3}{Q:Bool→Shared→Prop}(hx:TupAt s.heap x a)(hy:TupAt s.heap y b)(q:Q (dC a b) s):wpAny (model prog w) A (keyLt' (tuples' true) x y) Q E s:=by
 obtain⟨ax,ox,n,u1,u2,u3,rfl,ex,cx,dx⟩:=hx
 obtain⟨ay,oy,m,v1,v2,v3,rfl,ey,cy,dy⟩:=hy
 refine kat_lt ex dx ey dy ?_
 have lt: ∀{p r:Int} {t u:Tok} {Q:Bool→Shared→Prop},Q (decide (p<r)) s→wpAny (model prog w) A (oneLt' false (.int p t) (.int r u)) Q (fun _ _=>False) s:=fun h=>kat_one _ _ (PyProof.Rows.lt_int h)
 refine kat_cons (wpAny_eqBool_int (kat_go (fun e=>kat_yes ?_) fun e=>kat_no (oneLt_int ?_)))
 ·have e1:a.1=b.1:=by simpa using e
  refine kat_cons (wpAny_eqBool_int (kat_go (fun e=>kat_yes ?_) fun e=>kat_no (lt ?_)))
  ·have e2:a.2.1=b.2.1:=by simpa using e
   refine kat_cons (wpAny_eqBool_int (kat_go (fun e=>kat_yes (kat_nil ?_)) fun e=>kat_no (lt ?_)))
   ·have e3:a.2.2=b.2.2:=by simpa using e
    have:dC a b=false:=by unfold dC;simp[e1,e2,e3]
    rw[this] at q;exact q
   ·have:dC a b=decide (a.2.2<b.2.2):=by unfold dC;simp[e1,e2]
    rw[this] at q;exact q
  ·have e2: ¬a.2.1=b.2.1:=by simpa using e
   have:dC a b=decide (a.2.1<b.2.1):=by unfold dC;simp[e1,e2]
   rw[this] at q;exact q
 ·have e1: ¬a.1=b.1:=by simpa using e
  have:dC a b=decide (a.1<b.1):=by unfold dC;simp[e1]
  rw[this] at q;exact q
def uO(vs:List Value)(p:Array Nat):List Value:=p.toList.map fun i=>vs.getD i Value.none
theorem WR{a:Addr}{n:Nat}{P:PySem.Fin→Shared→Prop}(ho:s.heap.get? a=some (seqObj "list" vs.toArray n))(ht:Paired (TupAt s.heap) vs ts)(nd:ts.Nodup)(yi:vs.length<64)
  (h: ∀p,Pm ts.length p→Up (nC ts) p ts.length→P (.done (.ret .none)) {s with heap:=sortedHeap s.heap a vs (uO vs p).toArray}):
  wpAny (model prog w) A (Builtin.«list.sort» ⟨[.ref a],[]⟩) P E s:=by
 have hlen:vs.length=ts.length:=Paired.length ht
 rw[list_sort_plain]
 have ha:a<s.heap.objs.size:=Heap.lt_size ho
 refine wpAny_bind (listItems_at ho rfl ?_)
 refine wpAny_bind (listUpdate_at ho rfl ?_ (by rw[List.size_toArray,sizeLine_eq];omega) (Nat.zero_le _))
 obtain⟨e1,jk⟩: ∃e1,(s.heap.update a (Obj.mapSeq fun _=> #[])).get? a=some (seqObj "list" #[] e1):=⟨_,get?_update_seq ho (fun _=> #[])⟩
 refine wpAny_bind (seqEpoch_at jk rfl ?_)
 refine wpAny_bind (wpAny_newTuple ?_ (by show vs.length≤_;rw[sizeLine_eq];omega))
 refine wpAny_bind (wpAny_newList ?_ (Nat.zero_le _))
 refine wpAny_holding ?_
 have yj:(((s.heap.update a (Obj.mapSeq fun _=> #[])).push (seqObj "tuple" vs.toArray 0)).push (seqObj "list" #[] 0)).get? a=some (seqObj "list" #[] e1):=by
  rw[Heap.get?_push_ne _ _ _ (by rw[size_push',Heap.size_update];exact Nat.ne_of_lt (Nat.lt_succ_of_lt ha)),Heap.get?_push_ne _ _ _ (by rw[Heap.size_update];exact Nat.ne_of_lt ha)]
  exact jk
 have keep: ∀b o,s.heap.get? b=some o→o.cls= .type "tuple"→(((s.heap.update a (Obj.mapSeq fun _=> #[])).push (seqObj "tuple" vs.toArray 0)).push (seqObj "list" #[] 0)).get? b=some o:=fun b o e c=>by
  have hb:b≠a:=fun z=>by
   subst z
   rw[ho] at e
   cases e
   exact absurd c (by show Value.type "list"≠Value.type "tuple";decide+kernel)
  have aQ:b<s.heap.objs.size:=Heap.lt_size e
  rw[Heap.get?_push_ne _ _ _ (by rw[size_push',Heap.size_update];exact Nat.ne_of_lt (Nat.lt_succ_of_lt aQ)),Heap.get?_push_ne _ _ _ (by rw[Heap.size_update];exact Nat.ne_of_lt aQ),Heap.get?_update_ne _ _ _ _ hb]
  exact e
 show wpAny (model prog w) A _ P E {s with heap:=((s.heap.update a (Obj.mapSeq fun _=> #[])).push (seqObj "tuple" vs.toArray 0)).push (seqObj "list" #[] 0)}
 dsimp only
 have hsz:vs.toArray.size=vs.length:=by simp
 by_cases h2:vs.toArray.size<2
 ·rw[if_pos h2,if_pos h2]
  refine wpAny_bind (wpAny_pure ?_)
  rw[StateT.run_pure]
  refine wpAny_bind (wpAny_pure ?_)
  dsimp only
  refine wpAny_bind (seqEpoch_at yj rfl ?_)
  refine wpAny_bind (listUpdate_at yj rfl ?_ (hsz2:=by rw[Array.size_map];show(pairsOf vs).size≤_;rw[pairsOf_size,sizeLine_eq];omega))
  simp only[bne_self_eq_false,Bool.false_eq_true,if_false]
  refine wpAny_pure ?_
  have h':=h (List.toArray (List.range ts.length)) ⟨by simp,List.Perm.refl _⟩ (fun i j jr hj=>by omega)
  have e:(arrOf (SortSt.mk' general' (vs.toArray.zip vs.toArray) #[] 7 none)).map (·.2)=(uO vs (List.toArray (List.range ts.length))).toArray:=by
   have hz:(vs.toArray.zip vs.toArray).size=ts.length:=by rw[←hlen];simp
   have hr:=kas_range (vs.toArray.zip vs.toArray)
   rw[hz] at hr
   exact kat_snds (ks:=vs) (vs:=vs) (st:=SortSt.mk' general' (vs.toArray.zip vs.toArray) #[] 7 none) rfl hr.symm
  rw[e]
  exact h'
 ·rw[if_neg h2,if_neg h2]
  have gL:Paired (TupAt (((s.heap.update a (Obj.mapSeq fun _=> #[])).push (seqObj "tuple" vs.toArray 0)).push (seqObj "list" #[] 0))) vs ts:=L2.Paired.eQ ht fun v t x=>x.kept keep
  obtain⟨fs,kt,kl,kf⟩:=JO (s:={s with heap:=((s.heap.update a (Obj.mapSeq fun _=> #[])).push (seqObj "tuple" vs.toArray 0)).push (seqObj "list" #[] 0)}) gL
  refine wpAny_bind (kat_kind kt (by omega) (T:= .type "int") (fun v hv=> ?_) (by rfl) ?_)
  ·obtain⟨k,t,rfl⟩:=kf v hv
   exact Looks.now
  have as:nB ts.length (nC ts) (kas_ask prog w A (tuples' true) vs) (fun z=>z={s with heap:=((s.heap.update a (Obj.mapSeq fun _=> #[])).push (seqObj "tuple" vs.toArray 0)).push (seqObj "list" #[] 0)}):=by
   rintro i j C hi hj ne hC z rfl
   exact WQ (CB gL i hi) (CB gL j hj) (hC _ rfl)
  have WS:=WL (WO nd) as (by omega)
  refine wpAny_bind (wpAny_mono (kat_run (κ:=tuples' true) (ks:=vs) (Q:=fun eU s'=> ∃p,Pm ts.length p∧Up (nC ts) p ts.length∧arrOf eU=p.map (kas_item (vs.toArray.zip vs.toArray))∧failedOf eU=none∧s'={s with heap:=((s.heap.update a (Obj.mapSeq fun _=> #[])).push (seqObj "tuple" vs.toArray 0)).push (seqObj "list" #[] 0)})
   (G:=fun p s'=> (Pm ts.length p∧Up (nC ts) p ts.length)∧s'={s with heap:=((s.heap.update a (Obj.mapSeq fun _=> #[])).push (seqObj "tuple" vs.toArray 0)).push (seqObj "list" #[] 0)})
   rfl (by omega) yi (fun p eU s' a1 a2 a3 a4=> ⟨p,a4.1.1,a4.1.2,a2,a3,a4.2⟩) (by rw[hlen];exact WS _ (fun p s' hp hs=> ⟨hp,hs⟩) _ rfl)) ?_ fun _ _ e=>e)
  rintro⟨⟨⟩,eU⟩ s' ⟨p,pm,up,WT,hf,rfl⟩
  dsimp only
  have WU:=kat_snds (ks:=vs) (vs:=vs) rfl WT
  rw[WU]
  refine wpAny_bind (seqEpoch_at yj rfl ?_)
  refine wpAny_bind (listUpdate_at yj rfl ?_ (hsz2:=by rw[List.size_toArray,List.length_map,Array.length_toList,pm.sz,sizeLine_eq];omega))
  rw[hf]
  simp only[bne_self_eq_false,Bool.false_eq_true,if_false]
  exact wpAny_pure (h p pm up)
theorem WV{l:Addr}{Q:Value→Shared→Prop}(hl:s.heap.IsList l vs.toArray)(ht:Paired (TupAt s.heap) vs ts)(nd:ts.Nodup)(yi:vs.length<64)
  (h: ∀p,Pm ts.length p→Up (nC ts) p ts.length→Q (.ref (s.heap.objs.size+1)) {s with heap:=sortedAll s.heap vs (uO vs p).toArray}):
  wpAny (model prog w) A (call (.builtin "sorted") [.ref l]) Q E s:=by
 refine Calls.call_function_entry kind_sorted plain_sorted entry_sorted (args_sorted1 _) ?_
 unfold Builtin.«sorted»
 refine wpAny_bind (m:=checkCount "sorted" 1 1 _) (wpAny_pure ?_)
 refine wpAny_bind (collect_list hl ?_ (by rw[sizeLine_eq];omega))
 refine wpAny_bind (wpAny_newList ?_ (by rw[sizeLine_eq];omega))
 have hsz:((s.heap.push (seqObj "list" #[] 0)).update s.heap.objs.size (Obj.mapSeq (· ++vs.toArray))).objs.size=s.heap.objs.size+1:=by
  rw[Heap.size_update,size_push']
 have wt:(((s.heap.push (seqObj "list" #[] 0)).update s.heap.objs.size (Obj.mapSeq (· ++vs.toArray))).push (seqObj "list" vs.toArray 0)).get? (s.heap.objs.size+1)=some (seqObj "list" vs.toArray 0):=by
  rw[←hsz];exact Heap.get?_push_size _ rfl
 have keep: ∀b o,s.heap.get? b=some o→o.cls= .type "tuple"→(((s.heap.push (seqObj "list" #[] 0)).update s.heap.objs.size (Obj.mapSeq (· ++vs.toArray))).push (seqObj "list" vs.toArray 0)).get? b=some o:=fun b o q _=>by
  have aQ:b<s.heap.objs.size:=Heap.lt_size q
  rw[Heap.get?_push_ne _ _ _ (by rw[hsz];exact Nat.ne_of_lt (Nat.lt_succ_of_lt aQ)),Heap.get?_update_ne _ _ _ _ (Nat.ne_of_lt aQ),Heap.get?_push_ne _ _ _ (Nat.ne_of_lt aQ)]
  exact q
 show wpAny _ _ _ _ _ {s with heap:=((s.heap.push (seqObj "list" #[] 0)).update s.heap.objs.size (Obj.mapSeq (· ++vs.toArray))).push (seqObj "list" vs.toArray 0)}
 rw[hsz]
 refine wpAny_bind (wpAny_holding (wpAny_call_entry slot_list_sort ⟨_,wt,rfl⟩ entry_list_sort (WR wt (L2.Paired.eQ ht fun v t x=>x.kept keep) nd yi fun p a1 a2=> ⟨_,rfl, ?_⟩) (args_list_sort _)))
 exact wpAny_pure ⟨_,rfl,h p a1 a2⟩
end
def V3(H:Hp)(v:V)(t:T3):Prop:= ∃a,v= .ref a∧H a=some (.tup [.int t.1, .int t.2.1, .int t.2.2])
def yk(K:Frag):List V→Hp→VK→Prop:=fun xs H Q=> ∃(p:Addr) (vs:List V) (ts:List T3),xs=[.ref p]∧aq K H p vs∧Paired (V3 H) vs ts∧ts.Nodup∧ts.length<64∧
 ∀(q:Addr) (zs:List V) (us:List T3),H q=none→Paired (V3 H) zs us→us.Perm ts→us.Pairwise (fun a b=>dC a b=true)→Q (.ref q) (upd H q (.lst zs))
section
variable {X:Cx}
theorem JP: ∀{vs:List V} {its:List Value},Vals vs its→ ∀i,RelV (vs.getD i .aD) (its.getD i Value.none)
 | [],[], .nil,i=>rfl
 | v::vs,u::us, .cons x r,0=>x
 | v::vs,u::us, .cons x r,i+1=>JP r i
theorem JQ{vs:List V}{its:List Value}(h:Vals vs its): ∀l:List Nat,Vals (l.map fun i=>vs.getD i .aD) (l.map fun i=>its.getD i Value.none)
 | []=> .nil
 | i::l=> .cons (JP h i) (JQ h l)
theorem JR{H:Hp}: ∀{vs:List V} {ts:List T3},Paired (V3 H) vs ts→ ∀i,i<ts.length→V3 H (vs.getD i .aD) (ts.getD i (0,0,0))
 | [],[],_,i,hi=>absurd hi (Nat.not_lt_zero _)
 | v::vs,t::ts, .cons x r,0,_=>x
 | v::vs,t::ts, .cons x r,i+1,hi=>JR r i (by simpa using hi)
theorem JS{H:Hp}{vs:List V}{ts:List T3}(h:Paired (V3 H) vs ts): ∀l:List Nat,(∀i∈l,i<ts.length)→Paired (V3 H) (l.map fun i=>vs.getD i .aD) (l.map fun i=>ts.getD i (0,0,0))
 | [],_=> .nil
 | i::l,hl=> .cons (JR h i (hl i (.head _))) (JS h l fun j hj=>hl j (.tail _ hj))
theorem WW(ts:List T3):((List.range ts.length).map fun i=>ts.getD i (0,0,0))=ts:=by
 refine List.ext_getElem (by simp) fun i h1 h2=> ?_
 have CF:i<ts.length:=h2
 simp[CF]
theorem JT{pins:List (Addr×Obj)}{σ:St}{H:Hp}{s:Shared}(I:Inv X pins σ H s): ∀{vs:List V} {its:List Value} {ts:List T3},Vals vs its→Paired (V3 H) vs ts→Paired (TupAt s.heap) its ts
 | [],[],[],_,_=> .nil
 | v::vs,u::us,t::ts, .cons x r, .cons y r'=>by
  refine .cons ?_ (JT I r r')
  obtain⟨a,rfl,ha⟩:=y
  cases x
  obtain⟨_,its,rv,o,e,c,n,d⟩:=I.aE a _ ha
  obtain⟨u1,r1,rfl,x1,rv⟩: ∃u r,its=u::r∧RelV (.int t.1) u∧Vals [.int t.2.1, .int t.2.2] r:=by cases rv with | cons x r=>exact⟨_,_,rfl,x,r⟩
  obtain⟨u2,r2,rfl,x2,rv⟩: ∃u r,r1=u::r∧RelV (.int t.2.1) u∧Vals [.int t.2.2] r:=by cases rv with | cons x r=>exact⟨_,_,rfl,x,r⟩
  obtain⟨u3,r3,rfl,x3,rv⟩: ∃u r,r2=u::r∧RelV (.int t.2.2) u∧Vals [] r:=by cases rv with | cons x r=>exact⟨_,_,rfl,x,r⟩
  cases rv
  obtain⟨t1,rfl⟩:=x1
  obtain⟨t2,rfl⟩:=x2
  obtain⟨t3,rfl⟩:=x3
  exact⟨a,o,n,t1,t2,t3,rfl,e,c,d⟩
theorem WX:cc X (.builtin "sorted") (yk X.K):=by
 intro pins s σ H xs us Q I r h
 obtain⟨p,vs,ts,rfl,hq,h3,nd,yi,q⟩:=h
 obtain⟨u,rfl,ru⟩:=vals1 r
 cases ru
 obtain⟨its,rv,pl,hz⟩:=I.list hq
 have l1:=rv.length
 have l2:=Paired.length h3
 refine WV pl.isList (JT I rv h3) nd (by omega) fun pr pm up=> ?_
 obtain⟨e,he⟩:=sortedAll_at s.heap its (uO its pr).toArray
 have hlp:pr.toList.length=ts.length:=by rw[Array.length_toList,pm.sz]
 have cW: ∀i∈pr.toList,i<ts.length:=fun i hi=>List.mem_range.mp (pm.pm.subset hi)
 refine⟨.ref (s.heap.objs.size+1),_,I.laid (t':=s.toks) (fun b o e=>sortedAll_old e) (Nat.le_succ _) (show cm X.prog X.w _ _ _ (.lst (pr.toList.map fun i=>vs.getD i .aD)) from⟨by rw[List.length_map];omega,uO its pr,e,JQ rv _,he⟩),rfl, ?_⟩
 refine q _ _ (pr.toList.map fun i=>ts.getD i (0,0,0)) (I.aE.fresh (Nat.le_succ _)) (JS h3 _ cW) ?_ ?_
 ·have:=pm.pm.map fun i=>ts.getD i ((0,0,0):T3)
  rwa [WW] at this
 ·rw[List.pairwise_map]
  rw[List.pairwise_iff_getElem]
  intro i j hi hj jr
  have bV:i<pr.size:=by simpa using hi
  have bH:j<pr.size:=by simpa using hj
  have:=up i j jr (by rw[←pm.sz];exact bH)
  rw[uL bV,uL bH] at this
  simpa[nC] using this
theorem WY:bootBuiltins "sorted"=some (.builtin "sorted"):=by decide+kernel
end
def yl:Frag→TA→TE:=fun K t=>dY (yk K) t
section
variable {CX:bU} {S:cA} {Γ:aO} {X:Cx} {e:Expr} {es:List Expr} {x:Str} {p pos:Pos} {r:RE} {rs:List RE}
theorem JU(G:Good CX S Γ X)(hA:PA X (e::es) (aS Γ (r::rs)))(h:kB S x "sorted"=true:=by kernel_rfl)(hn:d4 (e::es)=true:=by kernel_rfl):PE X (.Call (.Name x p) (e::es) [] pos) (ah Γ (.xt yl (r::rs))):=by
 simp only[kB,Bool.and_eq_true,decide_eq_true_eq] at h
 obtain⟨⟨rfl,h2⟩,h3⟩:=h
 show PE X _ (dY (yk Γ.K) (aS Γ (r::rs)))
 rw[←G.K]
 exact mU WX (G.gl h2) (G.dF _ h3) WY hA (by decide) (by decide) (cC (cg hn).1) (gI _ _ es (cg hn).2)
end
end L2
namespace L2
open PySem PySem.Spec PyProof.Rows
section
variable {prog:Program} {w:World} {A:Around} {E:Value→Shared→Prop} {s:Shared} {l:Addr} {xs:Array (Int×Tok)}
theorem JV{Q:Value→Shared→Prop}(hl:s.heap.IsTuple l (intItems xs))
  (h: ∀s₂:Shared,s₂={s with heap:=s.heap.push {cls:= .type "tuple_iterator",data:= .fields #[.ref l, .int 0 0]}}→
   (s₂.heap.IsTupleIter s.heap.objs.size l 0∧s₂.heap.IsTuple l (intItems xs))→(∀b∈ [s.heap.objs.size,l],b<s₂.heap.objs.size)→l≠s.heap.objs.size→Q (.ref s.heap.objs.size) s₂):
  wpAny (model prog w) A (pyIter (.ref l)) Q E s:=by
 have aQ:l<s.heap.objs.size:=by obtain⟨_,e,_⟩:=hl;exact Heap.lt_size e
 refine wpAny_pyIter_tuple hl (h _ rfl ⟨⟨_,Heap.get?_push_size _ rfl,rfl,rfl⟩,hl.push _⟩ (fun b hb=> ?_) (Nat.ne_of_lt aQ))
 show b< (s.heap.push _).objs.size
 rw[Heap.size_push]
 rcases List.mem_cons.mp hb with rfl | hb
 ·exact Nat.lt_succ_self _
 ·rcases List.mem_cons.mp hb with rfl | hb
  ·exact Nat.lt_succ_of_lt aQ
  ·cases hb
theorem JW{h':Heap}(hk: ∀b o,b∉ [s.heap.objs.size]→(s.heap.push {cls:= .type "tuple_iterator",data:= .fields #[.ref l, .int 0 0]}).get? b=some o→h'.get? b=some o):
  ∀b o,s.heap.get? b=some o→h'.get? b=some o:=fun b o e=>by
 refine hk b o (fun hm=> ?_) (Heap.get?_push_of_some _ e)
 rcases List.mem_cons.mp hm with e1 | hm
 ·exact absurd (e1 ▸ Heap.lt_size e) (Nat.lt_irrefl _)
 ·cases hm
theorem WZ{Q:Value→Shared→Prop}(hh:A.handled=none)(hl:s.heap.IsTuple l (intItems xs))(cP:0<xs.size)
  (h: ∀v h' tk,(intItems xs)[argBest (fun i j=>decide (numAt xs i>numAt xs j)) (xs.size - 1)]?=some v→(∀b o,s.heap.get? b=some o→h'.get? b=some o)→Q v {s with heap:=h',toks:=tk}):
  wpAny (model prog w) A (call (.builtin "max") [.ref l]) Q E s:=by
 refine call_max_walk (JV hl fun s₂ e st CH CI=> ?_)
 subst e
 refine⟨_,_,_,_,_,_,_,rfl,Walks.tuple (A:=A.in1) hh _ l CI (intItems xs),st,CH,by simpa[intItems] using cP,CmpOf.ints_gt (numAt xs) (fun _ _=>intItems_at),fun v h' tk hP hk=> ?_⟩
 exact h v h' tk (by simpa[intItems] using hP) (JW hk)
theorem W0{Q:Value→Shared→Prop}(hh:A.handled=none)(hl:s.heap.IsTuple l (intItems xs))(cP:0<xs.size)
  (h: ∀v h' tk,(intItems xs)[argBest (fun i j=>decide (numAt xs i<numAt xs j)) (xs.size - 1)]?=some v→(∀b o,s.heap.get? b=some o→h'.get? b=some o)→Q v {s with heap:=h',toks:=tk}):
  wpAny (model prog w) A (call (.builtin "min") [.ref l]) Q E s:=by
 refine call_min_walk (JV hl fun s₂ e st CH CI=> ?_)
 subst e
 refine⟨_,_,_,_,_,_,_,rfl,Walks.tuple (A:=A.in1) hh _ l CI (intItems xs),st,CH,by simpa[intItems] using cP,CmpOf.ints_lt (numAt xs) (fun _ _=>intItems_at),fun v h' tk hP hk=> ?_⟩
 exact h v h' tk (by simpa[intItems] using hP) (JW hk)
end
section
variable {X:Cx}
theorem JX{pins:List (Addr×Obj)}{σ:St}{H:Hp}{s:Shared}{p:Addr}{ns:List Int}(I:Inv X pins σ H s)(hq:aL X.K H p (ns.map V.int)): ∃xs:Array (Int×Tok),s.heap.IsTuple p (intItems xs)∧ns=xs.toList.map (·.1):=by
 obtain⟨its,rv,pl,hz⟩:=I.tuple hq
 have hi:=intsAre_of rv
 obtain⟨xs,hx⟩:=hi.allInts.items
 refine⟨xs,hx ▸ pl, ?_⟩
 rw[←nums_intItems,←hx]
 exact(show numsOf its.toArray.toList=ns from hi.numsOf).symm
def ym(K:Frag):List V→Hp→VK→Prop:=fun xs H Q=> ∃(p:Addr) (ns:List Int),xs=[.ref p]∧aL K H p (ns.map V.int)∧ns≠ []∧ ∀m:Int,m∈ns→(∀n∈ns,m≤n)→Q (.int m) H
def yn(K:Frag):List V→Hp→VK→Prop:=fun xs H Q=> ∃(p:Addr) (ns:List Int),xs=[.ref p]∧aL K H p (ns.map V.int)∧ns≠ []∧ ∀m:Int,m∈ns→(∀n∈ns,n≤m)→Q (.int m) H
theorem W2(hc:X.calm=true):cc X (.builtin "min") (ym X.K):=by
 intro pins s σ H xs us Q I r h
 obtain⟨p,ns,rfl,hq,cP,q⟩:=h
 obtain⟨u,rfl,ru⟩:=vals1 r
 cases ru
 obtain⟨xs,hl,rfl⟩:=JX I hq
 have sz:0<xs.size:=Nat.pos_of_ne_zero fun z=>cP (by rw[Array.eq_empty_of_size_eq_zero z];rfl)
 refine W0 (I.ok.hd hc) hl sz fun v h' tk hv hk=> ?_
 obtain⟨t,rfl⟩:=intItems_at hv
 obtain⟨b1,b2⟩:=uf (numAt xs) (fun i j=>decide (numAt xs i<numAt xs j)) (fun _ _=>rfl) (xs.size - 1)
 refine⟨.int _,H,I.kept (t':=tk) hk,⟨t,rfl⟩,q _ (xH (by omega)) fun n hn=> ?_⟩
 obtain⟨i,hi,rfl⟩:=xI hn
 exact b2 i (by omega)
theorem W3(hc:X.calm=true):cc X (.builtin "max") (yn X.K):=by
 intro pins s σ H xs us Q I r h
 obtain⟨p,ns,rfl,hq,cP,q⟩:=h
 obtain⟨u,rfl,ru⟩:=vals1 r
 cases ru
 obtain⟨xs,hl,rfl⟩:=JX I hq
 have sz:0<xs.size:=Nat.pos_of_ne_zero fun z=>cP (by rw[Array.eq_empty_of_size_eq_zero z];rfl)
 refine WZ (I.ok.hd hc) hl sz fun v h' tk hv hk=> ?_
 obtain⟨t,rfl⟩:=intItems_at hv
 obtain⟨b1,b2⟩:=uf (fun i=> - numAt xs i) (fun i j=>decide (numAt xs i>numAt xs j)) (fun i j=>decide_eq_decide.mpr (by omega)) (xs.size - 1)
 refine⟨.int _,H,I.kept (t':=tk) hk,⟨t,rfl⟩,q _ (xH (by omega)) fun n hn=> ?_⟩
 obtain⟨i,hi,rfl⟩:=xI hn
 have:=b2 i (by omega)
 omega
end
def CJ:Frag→TA→TE:=fun K t=>dY (ym K) t
def yo:Frag→TA→TE:=fun K t=>dY (yn K) t
section
variable {CX:bU} {S:cA} {Γ:aO} {X:Cx} {e:Expr} {es:List Expr} {x:Str} {p pos:Pos} {r:RE} {rs:List RE}
theorem W4(G:Good CX S Γ X)(hA:PA X (e::es) (aS Γ (r::rs)))(h:kB S x "min"=true:=by kernel_rfl)(hn:d4 (e::es)=true:=by kernel_rfl)(hq:S.md=0:=by rfl):PE X (.Call (.Name x p) (e::es) [] pos) (ah Γ (.xt CJ (r::rs))):=by
 simp only[kB,Bool.and_eq_true,decide_eq_true_eq] at h
 obtain⟨⟨rfl,h2⟩,h3⟩:=h
 show PE X _ (dY (ym Γ.K) (aS Γ (r::rs)))
 rw[←G.K]
 exact mU (W2 (G.calm hq)) (G.gl h2) (G.dF _ h3) boot_min hA (by decide) (by decide) (cC (cg hn).1) (gI _ _ es (cg hn).2)
theorem JY(G:Good CX S Γ X)(hA:PA X (e::es) (aS Γ (r::rs)))(h:kB S x "max"=true:=by kernel_rfl)(hn:d4 (e::es)=true:=by kernel_rfl)(hq:S.md=0:=by rfl):PE X (.Call (.Name x p) (e::es) [] pos) (ah Γ (.xt yo (r::rs))):=by
 simp only[kB,Bool.and_eq_true,decide_eq_true_eq] at h
 obtain⟨⟨rfl,h2⟩,h3⟩:=h
 show PE X _ (dY (yn Γ.K) (aS Γ (r::rs)))
 rw[←G.K]
 exact mU (W3 (G.calm hq)) (G.gl h2) (G.dF _ h3) boot_max hA (by decide) (by decide) (cC (cg hn).1) (gI _ _ es (cg hn).2)
end
end L2
namespace L2.B
open PySem PySem.Spec PyProof.Rows
noncomputable def CK:List RS:=
 [.ret (.cmp .Lt (.ix (.v 0) (.c (.int 1))) (.ix (.v 0) (.c (.int 0))))]
def CL:List Str:=["cursors","order","groups","begin","end","number","group"]
def o5:List Str:=["cursors"]
noncomputable def CM:List RS:=
 [.asg 1 (.xt yl [(.comp (some 2) [] .xi [(.v 0)] none (.tup [(.call 0 [(.v 1)]),(.call 1 [(.v 1)]),(.v 0)]))]),
 .asg 2 (.lst []),
 .iM [3,4,5] .list [(.v 1)] [.ite (.and [(.cmp .Gt (.blt .len [(.v 2)]) (.c (.int 0))),(.call 2 [(.ix (.ix (.v 2) (.neg (.c (.int 1)))) (.c (.int 0))),(.ix (.ix (.v 2) (.neg (.c (.int 1)))) (.c (.int 1))),(.ix (.v 0) (.v 5))])]) [.asg 6 (.bC .pop (.v 2) []),
   .drop (.bC .append (.v 2) [(.tup [(.ix (.v 6) (.c (.int 0))),(.blt .max [(.ix (.v 6) (.c (.int 1))),(.v 4)]),(.bin .Add (.ix (.v 6) (.c (.int 2))) (.lst [(.v 5)]))])])] [.drop (.bC .append (.v 2) [(.tup [(.v 3),(.v 4),(.lst [(.v 5)])])])]],
 .ret (.v 2)]
def W5:List Str:=["begin_of","end_of","meet"]
def JZ:List Str:=["sorted","enumerate","len","max"]
def CN:List Str:=["cursors","group","first"]
def J0:List Str:=["cursors","group"]
noncomputable def CO:List RS:=
 [.asg 2 (.ix (.v 0) (.blt .min [(.ix (.v 1) (.c (.int 2)))])),
 .ite (.cmp .Eq (.blt .len [(.ix (.v 1) (.c (.int 2)))]) (.c (.int 1))) [.ret (.v 2)] [],
 .ret (.xj (.call 0 [(.v 2)]) (.tup [(.ix (.v 1) (.c (.int 1))),(.ix (.v 1) (.c (.int 0))),(.c .aD)]) (.tup [(.ix (.v 1) (.c (.int 0))),(.ix (.v 1) (.c (.int 1))),(.c .aD)]))]
def W6:List Str:=["is_backward"]
def J3:List Str:=["min","len"]
noncomputable def CQ:List RS:=
 [.ret (.comp none [("cursors",0)] .list [(.call 0 [(.v 0)])] none (.call 1 [(.v 1),(.v 0)]))]
def W7:List Str:=["gathered","as_one"]
def lR:List Str:=["_law_cursors_here","_law_rows_now","_law_begin","_law_end","_law_k","_law_touch","_law_low","_law_high","_law_some","_law_found","_law_first"]
noncomputable def hJ:List RS:=
 [.asg 1 (.lst []),
 .iM [2,3,4] .list [(.xt yl [(.comp (some 2) [] .xi [(.v 0)] none (.tup [(.xt CJ [(.sl (.v 1) none (some (.c (.int 2))))]),(.xt yo [(.sl (.v 1) none (some (.c (.int 2))))]),(.v 0)]))])] [.asg 5 (.c (.bl false)),
  .ite (.cmp .NotEq (.v 1) (.lst [])) [.tR [6,7,8] (.ix (.v 1) (.neg (.c (.int 1)))),
   .asg 5 (.or [(.cmp .Lt (.v 2) (.v 7)),(.and [(.cmp .Eq (.v 2) (.v 7)),(.or [(.cmp .Eq (.v 6) (.v 7)),(.cmp .Eq (.v 2) (.v 3))])])])] [],
  .ite (.v 5) [.set (.v 1) (.neg (.c (.int 1))) (.lst [(.v 6),(.blt .max [(.v 7),(.v 3)]),(.bin .Add (.v 8) (.lst [(.v 4)]))])] [.drop (.bC .append (.v 1) [(.lst [(.v 2),(.v 3),(.lst [(.v 4)])])])]],
 .asg 9 (.lst []),
 .iM [2,3,8] .list [(.v 1)] [.asg 10 (.ix (.v 0) (.blt .min [(.v 8)])),
  .ite (.cmp .Eq (.blt .len [(.v 8)]) (.c (.int 1))) [.drop (.bC .append (.v 9) [(.v 10)])] [.ite (.cmp .Lt (.ix (.v 10) (.c (.int 1))) (.ix (.v 10) (.c (.int 0)))) [.drop (.bC .append (.v 9) [(.tup [(.v 3),(.v 2),(.c .aD)])])] [.drop (.bC .append (.v 9) [(.tup [(.v 2),(.v 3),(.c .aD)])])]]],
 .ret (.v 9)]
def o6:List Str:=["sorted","enumerate","min","max","len"]
def yp:List Str:=["change","cursors","track"]
def J4:List Str:=["change","cursors"]
noncomputable def uP:List RS:=
 [.asg 2 (.make 0 [(.v 0)]),
 .drop (.call 0 [(.fld (.v 2) "over"),(.v 1)]),
 .ret (.call 1 [(.comp (some 3) [("track",2)] .list [(.v 1)] none (.tup [(.qk 0 "to_left" (.v 3) [(.v 0)]),(.qk 0 "to_left" (.v 3) [(.v 1)]),(.c .aD)]))])]
def W8:List Str:=["need_cursors","settled"]
def W9:List Str:=["to_left"]
def W_:List Str:=["Track"]
def CS:List Str:=["_law_cell","_law_size_here","_law_number","_law_anchor","_law_head"]
noncomputable def yq:List RS:=
 [.asg 2 (.call 0 [(.v 0),(.c (.int 3))]),
 .asg 3 (.ix (.lst [(.bin .Mod (.v 2) (.bin .Add (.v 1) (.c (.int 1)))),(.c (.int 0)),(.v 1),(.bin .Mod (.bin .FloorDiv (.v 2) (.c (.int 7))) (.bin .Add (.v 1) (.c (.int 1))))]) (.bin .Mod (.bin .FloorDiv (.v 2) (.c (.int 5))) (.c (.int 4)))),
 .asg 4 (.blt .max [(.c (.int 0)),(.blt .min [(.v 1),(.bin .Add (.v 3) (.ix (.lst [(.c (.int 0)),(.c (.int 0)),(.c (.int 1)),(.neg (.c (.int 1))),(.c (.int 3)),(.neg (.c (.int 4))),(.c (.int 9)),(.v 1)]) (.bin .Mod (.bin .FloorDiv (.v 2) (.c (.int 23))) (.c (.int 8)))))])]),
 .ret (.tup [(.v 3),(.v 4),(.ix (.lst [(.c .aD),(.c .aD),(.bin .Mod (.bin .FloorDiv (.v 2) (.c (.int 3))) (.c (.int 9))),(.v 2)]) (.bin .Mod (.bin .FloorDiv (.v 2) (.c (.int 11))) (.c (.int 4))))])]
def J5:List Str:=["max","min"]
def CT:List Str:=["_law_found","_law_due","_law_one","_law_other"]
def J6:List Str:=["_law_found","_law_due"]
noncomputable def CU:List RS:=
 [.ite (.or [(.not (.eK .list (.v 0))),(.cmp .NotEq (.blt .len [(.v 0)]) (.blt .len [(.v 1)]))]) [.ret (.c (.bl false))] [],
 .iM [2,3] .zip [(.v 0),(.v 1)] [.ite (.or [(.not (.eK .tuple (.v 2))),(.cmp .NotEq (.v 2) (.v 3)),(.not (.call 0 [(.ix (.v 2) (.c (.int 0)))])),(.not (.call 0 [(.ix (.v 2) (.c (.int 1)))]))]) [.ret (.c (.bl false))] [],
  .ite (.and [(.cmp .IsNot (.ix (.v 2) (.c (.int 2))) (.c .aD)),(.not (.call 0 [(.ix (.v 2) (.c (.int 2)))]))]) [.ret (.c (.bl false))] []],
 .ret (.c (.bl true))]
def Xa:List Str:=["_law_whole"]
def J7:List Str:=["isinstance","list","len","zip","tuple"]
end L2.B
namespace L2
open PySem PySem.Spec PyProof.Rows
section
variable {prog:Program} {w:World} {A:Around} {E:Value→Shared→Prop} {s:Shared}
end
section
variable {CX:bU} {S:cA} {Γ:aO} {X:Cx} {e:Expr} {es:List Expr} {x y:Str} {p p2 pos anc:Pos} {r:RE} {rs:List RE}
end
section
variable {X:Cx} {scope:Scope} {fv:List (Str×Nat)}
theorem Xb{x y z:Str}{px py pz pos:Pos}{k:Nat}(hc:X.calm=true)(hx:scope.names.lookup x=some .local)(hy:scope.names.lookup y=some .local)(hz:scope.names.lookup z=some .local)(g7:(x::y::z::fv.map (·.1)).Nodup):tH X scope [x,y,z] fv (.Tuple [.Name x px, .Name y py, .Name z pz] k pos) (some 3):=by
 intro ex C s H
 generalize eX:fV X scope ([x,y,z]++fv.map (·.1)) ex C s H=Xc
 have xN:Xc.N=x::y::z::fv.map (·.1):=by rw[←eX];rfl
 have xc:Xc.calm=true:=by rw[←eX];exact hc
 have lx:Xc.env.scope.names.lookup x=some .local:=by rw[←eX];exact lookup_relabel_local hx
 have ly:Xc.env.scope.names.lookup y=some .local:=by rw[←eX];exact lookup_relabel_local hy
 have lz:Xc.env.scope.names.lookup z=some .local:=by rw[←eX];exact lookup_relabel_local hz
 have p1:PG Xc (.Name x px) (c_ 0):=kJ (by rw[xN];exact g7) (by rw[xN];rfl) (.inl lx) (.inr lx)
 have p2:PG Xc (.Name y py) (c_ 1):=kJ (by rw[xN];exact g7) (by rw[xN];rfl) (.inl ly) (.inr ly)
 have p3:PG Xc (.Name z pz) (c_ 2):=kJ (by rw[xN];exact g7) (by rw[xN];rfl) (.inl lz) (.inr lz)
 have xK:Xc.K=X.K:=by rw[←eX];rfl
 refine⟨sP Xc.K 3 (kN (c_ 0) (kN (c_ 1) (kN (c_ 2) sO))),zO xc (mO p1 (mO p2 (mO p3 wx))),fun v pre φ H' Q hp h=> ?_⟩
 obtain⟨a,b,c,rfl⟩: ∃a b c,pre=[a,b,c]:=by
  match pre,hp with
  | [a,b,c],_=>exact⟨a,b,c,rfl⟩
 obtain⟨a',xs,rfl,e2,e3,q⟩:=h
 obtain⟨v1,v2,v3,rfl⟩: ∃v1 v2 v3,xs=[v1,v2,v3]:=by
  match xs,e3 with
  | [v1,v2,v3],_=>exact⟨v1,v2,v3,rfl⟩
 exact⟨a',_,rfl,by rw[xK];exact e2,rfl,v1,_,rfl,v2,_,rfl,v3,_,rfl,rfl,q rfl⟩
end
section
variable {CX:bU} {S:cA} {Γ:aO} {X:Cx} {p:Pos}
def Xd(S:cA)(n1 n2 n3:Str)(tg iter:Expr)(sc:Scope)(fv:List (Str×Nat)):Bool:=xo S ⟨.Constant .none 0 ⟨0,0,0,0⟩,tg,iter,[],sc⟩ [n1,n2,n3] fv
theorem Xe{fv:List (Str×Nat)}{its:List RE}{elt:RE}{el iter:Expr}{sc:Scope}{n1 n2 n3:Str}{p1 p2 p3 tp:Pos}{kt:Nat}(G:Good CX S Γ X)(h:Xd S n1 n2 n3 (.Tuple [.Name n1 p1, .Name n2 p2, .Name n3 p3] kt tp) iter sc fv=true)(hi:PI X (.Tuple [.Name n1 p1, .Name n2 p2, .Name n3 p3] kt tp) iter (gE Γ .list its))
  (he: ∀X,Good CX (cS S sc [n1,n2,n3] fv) Γ.calm X→PE X el (ah Γ.calm elt)) (hq:S.md=0:=by rfl):PE X (.ListComp el [⟨.Tuple [.Name n1 p1, .Name n2 p2, .Name n3 p3] kt tp,iter,[],0⟩] sc p) (ah Γ (.comp (some 3) fv .list its none elt)):=by
 obtain⟨o1,o2,o3,o4⟩:=Bz (c:=⟨.Constant .none 0 ⟨0,0,0,0⟩, .Tuple [.Name n1 p1, .Name n2 p2, .Name n3 p3] kt tp,iter,[],sc⟩) G h
 show PE X _ (oH Γ.K (gE Γ .list its) (some 3) fv (tW Γ.calm none) (ah Γ.calm elt))
 rw[←G.K]
 refine Ij o1 (G.calm hq) hi (Xb (G.calm hq) (o2 n1 (by simp)) (o2 n2 (by simp)) (o2 n3 (by simp)) o3) ?_ (fun ex C s H=>he _ (G.inner ⟨.Constant .none 0 ⟨0,0,0,0⟩, .Tuple [.Name n1 p1, .Name n2 p2, .Name n3 p3] kt tp,iter,[],sc⟩ [n1,n2,n3] fv ex C s H)) (ue o4)
 exact iR (CX:=CX) (S:=cS S sc [n1,n2,n3] fv) (Γ:=Γ.calm)
end
end L2
namespace L2.lU
open PySem PySem.Spec PyProof.Rows L2.B
def bQ(i:Nat):Stmt:=(PySem.Challenge.pw_inkloom_k33_cursors_carried.main.body).getD i (.Pass ⟨0,0,0,0⟩)
def qC:Stmt:=bQ 18
theorem Xf:bA dB dB (aJ qC):=bO
abbrev cX(s:Stmt)(k:Nat):Stmt:=(bc s).getD k (.Pass ⟨0,0,0,0⟩)
abbrev cY(b:List RS)(k:Nat):RS:=b.getD k (.ret (.c .aD))
abbrev MX(N:List Str)(s:Stmt)(f g l mn kn en hn:List Str)(b:List RS)(md:Nat):Prop:= ∀{CX:bU} {Γ:aO} {X:Cx},dt CX (xS N (aJ s) f g l mn kn en hn md) Γ X→dz X (bc s) (aB Γ b)
abbrev MY(N:List Str)(s:Stmt)(f g l mn kn en hn:List Str)(b:List RS)(md k:Nat):Prop:= ∀{CX:bU} {Γ:aO} {X:Cx},dt CX (xS N (aJ s) f g l mn kn en hn md) Γ X→PS X (cX s k) (bY Γ (cY b k))
theorem Xg:MX dB qC af af xU af af af af BO 0:=by
 intro CX Γ X G
 have g:=G.toGood
 exact(ao (bh (gJ (iQ g (aa g)) (ir (BF g (iQ g (aa g)))))) aF)
def qD:Stmt:=bQ 19
theorem Xh:bA uC uC (aJ qD):=bO
theorem Xi:MX uC qD JB af af af af af af Cb 0:=by
 intro CX Γ X G
 have g:=G.toGood
 exact(ao (bh (gJ (aW g (ae (aa g) ak)) (ir (VU g (aa g) (aa g) (aa g))))) aF)
def qE:Stmt:=bQ 20
theorem Xj:bA qz qz (aJ qE):=bO
theorem Xk:MX qz qE af af xW af af af af xV 0:=by
 intro CX Γ X G
 have g:=G.toGood
 exact(ao (bh (gJ (iQ g (aa g)) (ir (du g (aa g) (aa g))))) aF)
def qF:Stmt:=bQ 21
theorem Xl:bA dB dB (aJ qF):=bO
theorem Xm:MX dB qF af Wo xW af af af af xX 0:=by
 intro CX Γ X G
 have g:=G.toGood
 exact(ao (bh (gJ (iQ g (aa g)) (ir (du g (dQ g (aa g) (ae (f_ g) ak)) aR)))) aF)
def qG:Stmt:=bQ 23
theorem Xn:bA dB dB (aJ qG):=bO
theorem Xo:MX dB qG Wq af uw af af af af uv 0:=by
 intro CX Γ X G
 have g:=G.toGood
 exact(ao (bX (PW.pt (j8 (fu (qv g (iQ g (aa g)))) (nv (cB g (bE g (ae (aa g) ak)) ar)))) (ao (bh iP) aF) aF) (ao (bX (j9 g (aW g (ae (aN g (aa g) ar) (ae (bo (ae aR ak)) ak)))) (ao (bh (gJ (aW g (ae (aN g (aa g) ar) ak)) (ir (du g (aN g (aa g) ar) ar)))) aF) aF) (ao (bh (gJ (aW g (ae (aN g (aa g) ar) (ae (bo (ae aR (ae aR ak))) ak))) (gJ (aW g (ae (aN g (aa g) ar) ak)) (ir (du g (aN g (aa g) ar) aR))))) aF)))
def qH:Stmt:=bQ 24
theorem Xp:bA ux ux (aJ qH):=bO
theorem Xq:MX ux qH af af af af af af af BP 0:=by
 intro CX Γ X G
 have g:=G.toGood
 exact(ao (bh (gJ (du g (aa g) (aa g)) (ir (BF g (gJ (du g (aa g) aR) (ir (du g (aa g) aR))))))) aF)
def qI:Stmt:=bQ 25
theorem J8:bA xY Ju (aJ qI):=bO
theorem J9:MX xY qI Wr af BQ af af Ws af uz 0:=by
 intro CX Γ X G
 have g:=G.toGood
 exact(ao (bX (fu (qv g (iQ g (aa g)))) (ao (qx G (ae aR ak)) aF) aF) (ao (aP G aR) (ao (uq G (fA g (aa g)) (ao (bX (fu (j9 g (aW g (ae (aa g) ak)))) (ao (qx G (ae aR ak)) aF) aF) (ao (bX (fu (j9 g (aW g (ae (aN g (aa g) ar) (ae (aa g) ak))))) (ao (qx G (ae aR ak)) aF) aF) (ao (aP G (aN g (aa g) ar)) aF)))) aF)))
def qJ:Stmt:=bQ 27
theorem Xr:bA Cd JC (aJ qJ):=bO
theorem Xs:MX Cd qJ af af oY af af af af Ce 0:=by
 intro CX Γ X G
 have g:=G.toGood
 exact(ao (aP G ar) (ao (aP G (bE g (ae (aa g) ak))) (ao (V_ G (cB g (aa g) (aa g)) (ao (aP G (aI g (aI g (aa g) (aa g)) ar)) (ao (bX (cB g (aN g (aa g) (aa g)) (aa g)) (ao (aP G (aI g (aa g) ar)) aF) (ao (aP G (aa g)) aF)) aF))) (ao (bh (aa g)) aF))))
def qK:Stmt:=inClass (bQ 29) 0
theorem J_:bA yc JD (aJ qK):=bO
theorem Ka:MX yc qK Wv af oY af af af af uD 0:=by
 intro CX Γ X G
 have g:=G.toGood
 exact(ao (d5 (aW g (ae (aa g) ak))) (ao (uo G (aa g) (bw ak)) (ao (uo G (aa g) (bw ak)) (ao (uo G (aa g) (bw ak)) (ao (aP G ar) (ao (aP G ar) (ao (lP [(_,_),(_,_)] G (fA g (aa g)) (ao (bX (cB g (aa g) aR) (ao (aP G (aI g (aa g) (bE g (ae (aa g) ak)))) aF) (ao (bX (cB g (aa g) aR) (ao (aP G (aI g (aa g) (bE g (ae (aa g) ak)))) aF) (ao (d5 (dQ g (nr g (aa g)) (ae (aa g) ak))) (ao (d5 (dQ g (nr g (aa g)) (ae (aa g) ak))) (ao (d5 (dQ g (nr g (aa g)) (ae (aa g) ak))) (ao (aP G (aI g (aa g) (aa g))) (ao (aP G (aI g (aa g) (aa g))) aF)))))) aF)) aF)) (ao (uo G (aa g) (aa g)) (ao (uo G (aa g) (aa g)) aF)))))))))
def qL:Stmt:=inClass (bQ 29) 1
theorem Xt:bA Cf JE (aJ qL):=bO
theorem Xu:MX Cf qL Ww af yd af af af af Cg 0:=by
 intro CX Γ X G
 have g:=G.toGood
 exact(ao (aP G (aI g (aW g (ae (nr g (aa g)) (ae (aI g (aa g) ar) ak))) ar)) (ao (bX (cB g (aa g) ar) (ao (bh ar) aF) aF) (ao (bh (aI g (aN g (nr g (aa g)) (aa g)) (bE g (ae (aN g (nr g (aa g)) (aa g)) (ae (aI g (aa g) (aN g (nr g (aa g)) (aa g))) ak))))) aF)))
def qM:Stmt:=bQ 32
theorem Xv:bA eA eA (aJ qM):=bO
theorem Xw:MX eA qM af af yd af af af af Cr 0:=by
 intro CX Γ X G
 have g:=G.toGood
 exact(ao (bh (bE g (ae (aN g (aa g) ar) (ae (aN g (aa g) ar) ak)))) aF)
def qN:Stmt:=bQ 33
theorem Xx:bA eA eA (aJ qN):=bO
theorem Xy:MX eA qN af af JH af af af af Cs 0:=by
 intro CX Γ X G
 have g:=G.toGood
 exact(ao (bh (bE g (ae (aN g (aa g) ar) (ae (aN g (aa g) ar) ak)))) aF)
def qO:Stmt:=bQ 34
theorem Xz:bA eA eA (aJ qO):=bO
theorem XA:MX eA qO af af af af af af af Ct 0:=by
 intro CX Γ X G
 have g:=G.toGood
 exact(ao (bh (du g (aN g (aa g) ar) (aN g (aa g) ar))) aF)
def qP:Stmt:=bQ 35
theorem XB:bA eA eA (aJ qP):=bO
theorem XC:MX eA qP af af af af af af af CK 0:=by
 intro CX Γ X G
 have g:=G.toGood
 exact(ao (bh (du g (aN g (aa g) ar) (aN g (aa g) ar))) aF)
def qQ:Stmt:=bQ 36
theorem Kb:bA dB dB (aJ qQ):=bO
theorem Kc:MX dB qQ JB af af af af af af uH 0:=by
 intro CX Γ X G
 have g:=G.toGood
 exact(ao (bh (um (du g (aa g) fZ) (uk (gJ (aW g (ae (aa g) ak)) (ir (du g (aa g) ar)))))) aF)
def qR:Stmt:=bQ 37
theorem Kd:bA qA qA (aJ qR):=bO
theorem Ke:MX qA qR WD af uw af af af af uI 0:=by
 intro CX Γ X G
 have g:=G.toGood
 exact(ao (bX (PW.pt (j8 (fu (qv g (iQ g (aa g)))) (nv (cB g (bE g (ae (aa g) ak)) ar)))) (ao (bh iP) aF) aF) (ao (bh (gJ (aW g (ae (aN g (aa g) ar) (ae ar (ae (aa g) ak)))) (gJ (aW g (ae (aN g (aa g) ar) (ae ar (ae (aa g) ak)))) (ir (aW g (ae (aN g (aa g) ar) ak)))))) aF))
def qS:Stmt:=bQ 38
theorem XD:bA uJ uJ (aJ qS):=bO
theorem XE:MX uJ qS WE af af af af af af Cv 0:=by
 intro CX Γ X G
 have g:=G.toGood
 exact(ao (bX (cB g (aW g (ae (aa g) ak)) (aa g)) (ao (bh (um (du g (aa g) (aa g)) (uk (aW g (ae (aa g) ak))))) aF) aF) (ao (bh (du g (aW g (ae (aa g) ak)) (aa g))) aF))
def qT:Stmt:=bQ 39
theorem Kf:bA qB qB (aJ qT):=bO
theorem Kg:MX qB qT WG WH Cw af af WI af uK 0:=by
 intro CX Γ X G
 have g:=G.toGood
 exact(ao (bX (PW.pt (j8 (fu (qv g (iQ g (aa g)))) (nv (fu (V4 g ar (bE g (ae (aa g) ak)) (f_ g)))))) (ao (qx G (ae aR ak)) aF) aF) (ao (bX (fu (JG g (Wz g (ae (iu (ln:=["cursor"]) g (by kernel_rfl) (fA g (aa g)) iR (fun _ g=> (aW g (ae (aa g) (ae (aa g) ak))))) ak)))) (ao (qx G (ae aR ak)) aF) aF) (ao (bX (JG g (WC g (ae (iu (ln:=["one","other"]) g (by kernel_rfl) (Jr g (aa g) (nu g (aa g) (j7 ar) qu)) iR (fun _ g=> (aW g (ae (aW g (ae (aa g) ak)) (ae (aW g (ae (aa g) ak)) (ae (aa g) ak)))))) ak))) (ao (qx G (ae aR ak)) aF) aF) aF)))
def qU:Stmt:=bQ 40
theorem XF:bA CL o5 (aJ qU):=bO
theorem XG:MX CL qU W5 af JZ af af af af CM 0:=by
 intro CX Γ X G
 have g:=G.toGood
 exact(ao (aP G (JU g (ae (iu (ln:=["number","cursor"]) g (by kernel_rfl) (Jq g (aa g)) iR (fun _ g=> (bo (ae (aW g (ae (aa g) ak)) (ae (aW g (ae (aa g) ak)) (ae (aa g) ak)))))) ak))) (ao (aP G (bw ak)) (ao (lP [(_,_),(_,_),(_,_)] G (fA g (aa g)) (ao (bX (PW.pt (BI (cB g (bE g (ae (aa g) ak)) ar) (BH (j9 g (aW g (ae (aN g (aN g (aa g) (iq ar)) ar) (ae (aN g (aN g (aa g) (iq ar)) ar) (ae (aN g (aa g) (aa g)) ak)))))))) (ao (aP G (VZ g (aa g))) (ao (d5 (dQ g (aa g) (ae (bo (ae (aN g (aa g) ar) (ae (bE g (ae (aN g (aa g) ar) (ae (aa g) ak))) (ae (aI g (aN g (aa g) ar) (bw (ae (aa g) ak))) ak)))) ak))) aF)) (ao (d5 (dQ g (aa g) (ae (bo (ae (aa g) (ae (aa g) (ae (bw (ae (aa g) ak)) ak)))) ak))) aF)) aF)) (ao (bh (aa g)) aF))))
def qW:Stmt:=bQ 41
theorem XH:bA CN J0 (aJ qW):=bO
theorem XI:MX CN qW W6 af J3 af af af af CO 0:=by
 intro CX Γ X G
 have g:=G.toGood
 exact(ao (aP G (aN g (aa g) (bE g (ae (aN g (aa g) ar) ak)))) (ao (bX (cB g (bE g (ae (aN g (aa g) ar) ak)) ar) (ao (bh (aa g)) aF) aF) (ao (bh (VV (j9 g (aW g (ae (aa g) ak))) (bo (ae (aN g (aa g) ar) (ae (aN g (aa g) ar) (ae fZ ak)))) (bo (ae (aN g (aa g) ar) (ae (aN g (aa g) ar) (ae fZ ak)))))) aF)))
def qX:Stmt:=bQ 42
theorem XJ:bA o5 o5 (aJ qX):=bO
theorem XM:MX o5 qX W7 af af af af af af CQ 0:=by
 intro CX Γ X G
 have g:=G.toGood
 exact(ao (bh (iu (ln:=["group"]) g (by kernel_rfl) (fA g (aW g (ae (aa g) ak))) iR (fun _ g=> (aW g (ae (aa g) (ae (aa g) ak)))))) aF)
def qY:Stmt:=bQ 43
theorem Kh:bA yp J4 (aJ qY):=bO
theorem Ki:MX yp qY W8 af af W9 W_ af af uP 0:=by
 intro CX Γ X G
 have g:=G.toGood
 exact(ao (aP G (VW g (ae (aa g) ak))) (ao (d5 (aW g (ae (nr g (aa g)) (ae (aa g) ak)))) (ao (bh (aW g (ae (Xe g (by kernel_rfl) (fA g (aa g)) (fun _ g=> (bo (ae (Jn g (aa g) (ae (aa g) ak)) (ae (Jn g (aa g) (ae (aa g) ak)) (ae fZ ak)))))) ak))) aF)))
def qZ:Stmt:=bQ 45
theorem XN:bA uA uA (aJ qZ):=bO
theorem XO:MX uA qZ af af oY af af af af BR 0:=by
 intro CX Γ X G
 have g:=G.toGood
 exact(ao (bX (cB g (aa g) (bE g (ae (aa g) ak))) (ao (bh (aN g (aa g) (aa g))) aF) aF) (ao (bh ar) aF))
def x_:List Str:=["_law_found"]
def Kj:List Str:=["_law_found"]
def q8:Stmt:=bQ 46
theorem XQ:bA x_ Kj (aJ q8):=bO
theorem XR:MX x_ q8 af af xU af af af af Cc 0:=by
 intro CX Γ X G
 have g:=G.toGood
 exact(ao (bh (gJ (iQ g (aa g)) (ir (BF g (iQ g (aa g)))))) aF)
def q9:Stmt:=bQ 47
theorem XS:bA BS Jv (aJ q9):=bO
theorem XT:MX BS q9 af af af af af af af BU 0:=by
 intro CX Γ X G
 have g:=G.toGood
 exact(ao (aP G (aI g (aI g (aI g (aI g (aa g) ar) (aI g ar (aa g))) ar) ar)) (ao (bh (aI g (aI g (aI g (aI g (aa g) (aa g)) ar) (aa g)) ar)) aF))
def q_:Stmt:=bQ 48
theorem XU:bA BV xZ (aJ q_):=bO
theorem XW:MX BV q_ Jw af nA af af af af BW 0:=by
 intro CX Γ X G
 have g:=G.toGood
 exact(ao (aP G aR) (ao (aP G (aI g (aa g) aR)) (ao (bX (cB g (aI g (aa g) ar) ar) (ao (aP G aR) aF) aF) (ao (bh (dQ g aR (ae (iu (ln:=["_law_k"]) g (by kernel_rfl) (qw g (aa g)) iR (fun _ g=> (aN g (aa g) (aI g (aI g (aW g (ae (aa g) (ae (aa g) ak))) ar) (bE g (ae (aa g) ak)))))) ak))) aF))))
def rg:Stmt:=bQ 49
theorem XX:bA uB uB (aJ rg):=bO
theorem XY:MX uB rg af af af af af af af BX 0:=by
 intro CX Γ X G
 have g:=G.toGood
 exact(ao (bX (cB g (aI g (aa g) ar) ar) (ao (bh (aI g (aI g (aa g) ar) ar)) aF) aF) (ao (bh (aI g (aI g (aa g) ar) ar)) aF))
def rj:Stmt:=bQ 50
theorem XZ:bA BY oZ (aJ rj):=bO
theorem X0:MX BY rj Wt af Jx af af af af BZ 0:=by
 intro CX Γ X G
 have g:=G.toGood
 exact(ao (aP G (bw ak)) (ao (aP G ar) (ao (uq G (qw g (aa g)) (ao (aP G (aW g (ae (aa g) (ae (aI g ar (aa g)) ak)))) (ao (aP G (aN g (bw (ae ar (ae ar (ae ar (ae ar (ae ar (ae ar ak))))))) (aI g (aI g (aa g) ar) ar))) (ao (aP G (bE g (ae (aa g) (ae (aI g (bE g (ae (aa g) ak)) (aa g)) ak)))) (ao (bX (cB g (aI g (aa g) ar) ar) (ao (d5 (dQ g (aa g) (ae (bo (ae aR (ae (aW g (ae (aa g) (ae (aa g) ak))) ak))) ak))) aF) (ao (bX (cB g (aI g (aa g) ar) ar) (ao (d5 (dQ g (aa g) (ae (bo (ae aR (ae (nu g (aa g) (j7 (aa g)) (j7 (aI g (aa g) (aa g)))) ak))) ak))) aF) (ao (d5 (dQ g (aa g) (ae (bo (ae aR (ae (aa g) ak))) ak))) aF)) aF)) (ao (bX (cB g (aI g (aa g) ar) ar) (ao (aP G (aI g (aa g) (aa g))) aF) aF) aF)))))) (ao (bh (aI g (aa g) (bw (ae (bo (ae aR (ae (aI g (bE g (ae (aa g) ak)) (aa g)) ak))) ak)))) aF))))
def x9:List Str:=["_law_parts_here","_law_rows","_law_word_here","_law_thing","_law_found","_law_put","_law_cut","_law_keep","_law_some"]
def rk:Stmt:=bQ 51
theorem X1:bA x9 Jy (aJ rk):=bO
theorem X3:MX x9 rk af af Jz af af af af B_ 0:=by
 intro CX Γ X G
 have g:=G.toGood
 exact(ao (aP G (bw (ae (bw (ae aR (ae aR (ae ar ak)))) ak))) (ao (lP [(_,_),(_,_)] G (fA g (aa g)) (ao (bX (cB g (aa g) aR) (ao (BJ (aI g (aN g (aN g (aa g) (iq ar)) ar) (aa g)) (aN g (aa g) (iq ar)) ar) aF) (ao (bX (cB g (aa g) aR) (ao (bX (cB g (aN g (aN g (aa g) (iq ar)) ar) ar) (ao (d5 (dQ g (aa g) (ae (bw (ae aR (ae aR (ae ar ak)))) ak))) aF) aF) (ao (BJ (aI g (aN g (aN g (aa g) (iq ar)) (bE g (ae (du g (aa g) aR) ak))) (aa g)) (aN g (aa g) (iq ar)) (bE g (ae (du g (aa g) aR) ak))) aF)) aF) aF)) aF)) (ao (aP G (bw ak)) (ao (lP [(_,_),(_,_),(_,_)] G (fA g (aa g)) (ao (aP G (bw (ae (bo (ae aR (ae (aa g) ak))) (ae (bo (ae aR (ae (aa g) ak))) (ae (bo (ae aR (ae (aa g) ak))) ak))))) (ao (aP G (aI g (aa g) (iu (ln:=["_law_part"]) g (by kernel_rfl) (fA g (aa g)) (BG fun _ g=> (PW.pt (BI (cB g (aN g (aa g) ar) aR) (BH (cB g (aN g (aa g) ar) ar))))) (fun _ g=> (aa g))))) aF))) (ao (bh (aa g)) aF)))))
def rm:Stmt:=bQ 52
theorem X4:bA oZ oZ (aJ rm):=bO
theorem X5:MX oZ rm Wu af af af af af af Ca 0:=by
 intro CX Γ X G
 have g:=G.toGood
 exact(ao (bh (aW g (ae (aW g (ae (aa g) (ae (aa g) (ae (aa g) ak)))) ak))) aF)
def iS:List Str:=["_law_e","_law_some","_law_found"]
def dG:Stmt:=bQ 53
theorem X6:bA iS JA (aJ dG):=bO
theorem X7:MY iS dG af lQ kc af af af af d6 1 0:=by
 intro CX Γ X G
 have g:=G.toGood
 show PS X (.Assign [.Name "_law_some" _] _ _) (bY Γ (.asg 1 _))
 with_reducible exact(aP G (bw (ae (bo (ae aR (ae (gK g (aa g) (f_ g)) ak))) (ae (bo (ae aR (ae (gK g (aa g) (f_ g)) ak))) (ae (bo (ae aR (ae (gK g (aa g) (f_ g)) ak))) ak)))))
theorem X8:MY iS dG af lQ kc af af af af d6 1 1:=by
 intro CX Γ X G
 have g:=G.toGood
 show PS X (.Assign [.Name "_law_some" _] _ _) (bY Γ (.asg 1 _))
 with_reducible exact(aP G (aI g (aa g) (bw (ae (bo (ae aR (ae (gK g (aa g) (f_ g)) ak))) (ae (bo (ae aR (ae (gK g (aa g) (f_ g)) ak))) (ae (bo (ae aR (ae (gK g (aa g) (f_ g)) ak))) ak))))))
theorem X9:MY iS dG af lQ kc af af af af d6 1 2:=by
 intro CX Γ X G
 have g:=G.toGood
 show PS X (.Assign [.Name "_law_some" _] _ _) (bY Γ (.asg 1 _))
 with_reducible exact(aP G (aI g (aa g) (bw (ae (bo (ae aR (ae (gK g (aa g) (f_ g)) ak))) (ae (bo (ae aR (ae (gK g (aa g) (f_ g)) ak))) ak)))))
theorem X_:MY iS dG af lQ kc af af af af d6 1 3:=by
 intro CX Γ X G
 have g:=G.toGood
 show PS X (.Assign [.Name "_law_some" _] _ _) (bY Γ (.asg 1 _))
 with_reducible exact(aP G (aI g (aa g) (bw (ae (bo (ae aR (ae (gK g (aa g) (f_ g)) ak))) (ae (bo (ae aR (ae (gK g (aa g) (f_ g)) ak))) ak)))))
theorem Ya:MY iS dG af lQ kc af af af af d6 1 4:=by
 intro CX Γ X G
 have g:=G.toGood
 show PS X (.Assign [.Name "_law_some" _] _ _) (bY Γ (.asg 1 _))
 with_reducible exact(aP G (aI g (aa g) (bw (ae (bo (ae aR (ae (gK g (aa g) (f_ g)) ak))) (ae (bo (ae aR (ae (gK g (aa g) (f_ g)) ak))) (ae (bo (ae aR (ae (gK g (aa g) (f_ g)) ak))) ak))))))
theorem Yb:MY iS dG af lQ kc af af af af d6 1 5:=by
 intro CX Γ X G
 have g:=G.toGood
 exact(V8 G (by kernel_rfl) (by kernel_rfl) (by kernel_rfl) (aa g) (BG fun _ g=> (Jo g (aa g))) (fun _ g=> (aa g)))
theorem Yc:MY iS dG af lQ kc af af af af d6 1 6:=by
 intro CX Γ X G
 have g:=G.toGood
 exact(bX (PW.pt (j8 (fu (Jp g (gK g (aa g) (f_ g)))) (nv (fu (Jp g (gK g (aa g) (VX g (by decide+kernel) (by decide) (by decide)))))))) (ao (d5 (dQ g (aa g) (ae aR ak))) aF) aF)
theorem Yd:MY iS dG af lQ kc af af af af d6 1 7:=by
 intro CX Γ X G
 have g:=G.toGood
 show PS X (.Return (some _) _) (bY Γ (.ret _))
 with_reducible exact(bh (dQ g aR (ae (aa g) ak)))
theorem Ye:MX iS dG af lQ kc af af af af d6 1:=by
 intro CX Γ X G
 have e:bc dG=[cX dG 0,cX dG 1,cX dG 2,cX dG 3,cX dG 4,cX dG 5,cX dG 6,cX dG 7]:=by kernel_rfl
 have e2:d6=[cY d6 0,cY d6 1,cY d6 2,cY d6 3,cY d6 4,cY d6 5,cY d6 6,cY d6 7]:=by kernel_rfl
 rw[e,e2]
 with_reducible exact ao (X7 G) (ao (X8 G) (ao (X9 G) (ao (X_ G) (ao (Ya G) (ao (Yb G) (ao (Yc G) (ao (Yd G) (aF))))))))
def yf:List Str:=["_law_rows","_law_change_here","_law_who","_law_found","_law_at","_law_many","_law_word_here","_law_thing"]
def rn:Stmt:=bQ 54
theorem Yf:bA yf JF (aJ rn):=bO
theorem Yg:MX yf rn af af nA af af af af Cn 0:=by
 intro CX Γ X G
 have g:=G.toGood
 exact(ao (aP G (bw ak)) (ao (aP G ar) (ao (aP G ar) (ao (lP [(_,_),(_,_)] G (fA g (aa g)) (ao (bX (cB g (aa g) aR) (ao (aP G (aI g (aa g) (iu (ln:=["_law_k"]) g (by kernel_rfl) (qw g (bE g (ae (aa g) ak))) iR (fun _ g=> (bo (ae (bo (ae (aa g) (ae (aI g (aa g) (aa g)) ak))) (ae (aN g (aa g) (aa g)) ak))))))) (ao (aP G (aI g (aa g) (bE g (ae (aa g) ak)))) aF)) (ao (bX (cB g (aa g) aR) (ao (aP G (aI g (aa g) (bE g (ae (aa g) ak)))) aF) (ao (aP G (aI g (aa g) (nu g (aa g) (j7 (aa g)) (j7 (aI g (aa g) (aa g)))))) (ao (aP G (aI g (aa g) (aa g))) aF))) aF)) aF)) (ao (bh (aa g)) aF)))))
def rq:Stmt:=bQ 55
theorem Yh:bA uF uF (aJ rq):=bO
theorem Yi:MX uF rq af af nA af af af af Cm 0:=by
 intro CX Γ X G
 have g:=G.toGood
 exact(ao (bh (iu (ln:=["_law_k"]) g (by kernel_rfl) (qw g (bE g (ae (aa g) ak))) iR (fun _ g=> (bo (ae (bo (ae aR (ae (aa g) ak))) (ae (aN g (aa g) (aa g)) ak)))))) aF)
def rA:Stmt:=bQ 56
theorem Yj:bA CS xZ (aJ rA):=bO
theorem Yk:MX CS rA Jw af J5 af af af af yq 0:=by
 intro CX Γ X G
 have g:=G.toGood
 exact(ao (aP G (aW g (ae (aa g) (ae ar ak)))) (ao (aP G (aN g (bw (ae (aI g (aa g) (aI g (aa g) ar)) (ae ar (ae (aa g) (ae (aI g (aI g (aa g) ar) (aI g (aa g) ar)) ak))))) (aI g (aI g (aa g) ar) ar))) (ao (aP G (bE g (ae ar (ae (bE g (ae (aa g) (ae (aI g (aa g) (aN g (bw (ae ar (ae ar (ae ar (ae (iq ar) (ae ar (ae (iq ar) (ae ar (ae (aa g) ak))))))))) (aI g (aI g (aa g) ar) ar))) ak))) ak)))) (ao (bh (bo (ae (aa g) (ae (aa g) (ae (aN g (bw (ae fZ (ae fZ (ae (aI g (aI g (aa g) ar) ar) (ae (aa g) ak))))) (aI g (aI g (aa g) ar) ar)) ak))))) aF))))
def CV:List Str:=["_law_script","_law_start","_law_size_here","_law_many","_law_found","_law_k","_law_cell"]
def Kk:List Str:=["_law_script","_law_start","_law_size_here"]
noncomputable def yr:List RS:=
 [.asg 3 (.bin .Add (.c (.int 1)) (.bin .Mod (.call 0 [(.v 0),(.v 1)]) (.c (.int 6)))),
 .ite (.cmp .Eq (.bin .Mod (.bin .FloorDiv (.call 0 [(.v 0),(.v 1)]) (.c (.int 6))) (.c (.int 9))) (.c (.int 1))) [.asg 3 (.c (.int 40))] [],
 .asg 4 (.lst []),
 .lE 5 .fk [(.v 3)] [.asg 6 (.call 0 [(.v 0),(.bin .Add (.bin .Add (.v 1) (.c (.int 1))) (.bin .Mod (.v 5) (.c (.int 6))))]),
  .drop (.bC .append (.v 4) [(.call 1 [(.bin .Add (.call 2 [(.v 6),(.bin .FloorDiv (.v 5) (.c (.int 6)))]) (.v 5)),(.v 2)])])],
 .ret (.v 4)]
def Yl:List Str:=["_law_cell_at","_law_cursor","_law_mixed"]
def Kl:List Str:=["range"]
def rB:Stmt:=bQ 57
theorem Ym:bA CV Kk (aJ rB):=bO
theorem Yn:MX CV rB Yl af Kl af af af af yr 0:=by
 intro CX Γ X G
 have g:=G.toGood
 exact(ao (aP G (aI g ar (aI g (aW g (ae (aa g) (ae (aa g) ak))) ar))) (ao (bX (cB g (aI g (aI g (aW g (ae (aa g) (ae (aa g) ak))) ar) ar) ar) (ao (aP G ar) aF) aF) (ao (aP G (bw ak)) (ao (uq G (qw g (aa g)) (ao (aP G (aW g (ae (aa g) (ae (aI g (aI g (aa g) ar) (aI g (aa g) ar)) ak)))) (ao (d5 (dQ g (aa g) (ae (aW g (ae (aI g (aW g (ae (aa g) (ae (aI g (aa g) ar) ak))) (aa g)) (ae (aa g) ak))) ak))) aF))) (ao (bh (aa g)) aF)))))
def lR:List Str:=["_law_cursors","_law_groups","_law_begin","_law_end","_law_k","_law_is_near","_law_low","_law_high","_law_some","_law_found","_law_first"]
def Km:List Str:=["_law_cursors"]
def fD:Stmt:=bQ 58
theorem Yo:bA lR Km (aJ fD):=bO
theorem Yp:MY lR fD af af o6 af af af af hJ 0 0:=by
 intro CX Γ X G
 have g:=G.toGood
 show PS X (.Assign [.Name "_law_groups" _] _ _) (bY Γ (.asg 1 _))
 with_reducible exact(aP G (bw ak))
theorem Yq:MY lR fD af af o6 af af af af hJ 0 1:=by
 intro CX Γ X G
 have g:=G.toGood
 exact(lP [(_,_),(_,_),(_,_)] G (fA g (JU g (ae (iu (ln:=["_law_k","_law_one"]) g (by kernel_rfl) (Jq g (aa g)) iR (fun _ g=> (bo (ae (W4 g (ae (nu g (aa g) qu (j7 ar)) ak)) (ae (JY g (ae (nu g (aa g) qu (j7 ar)) ak)) (ae (aa g) ak)))))) ak))) (ao (aP G iP) (ao (bX (cB g (aa g) (bw ak)) (ao (Wb [(_,_),(_,_),(_,_)] G (aN g (aa g) (iq ar))) (ao (aP G (um (du g (aa g) (aa g)) (uk (gJ (du g (aa g) (aa g)) (ir (um (du g (aa g) (aa g)) (uk (du g (aa g) (aa g))))))))) aF)) aF) (ao (bX (Jo g (aa g)) (ao (BJ (bw (ae (aa g) (ae (bE g (ae (aa g) (ae (aa g) ak))) (ae (aI g (aa g) (bw (ae (aa g) ak))) ak)))) (aa g) (iq ar)) aF) (ao (d5 (dQ g (aa g) (ae (bw (ae (aa g) (ae (aa g) (ae (bw (ae (aa g) ak)) ak)))) ak))) aF)) aF))))
theorem Yr:MY lR fD af af o6 af af af af hJ 0 2:=by
 intro CX Γ X G
 have g:=G.toGood
 show PS X (.Assign [.Name "_law_found" _] _ _) (bY Γ (.asg 9 _))
 with_reducible exact(aP G (bw ak))
theorem Ys:MY lR fD af af o6 af af af af hJ 0 3:=by
 intro CX Γ X G
 have g:=G.toGood
 exact(lP [(_,_),(_,_),(_,_)] G (fA g (aa g)) (ao (aP G (aN g (aa g) (bE g (ae (aa g) ak)))) (ao (bX (cB g (bE g (ae (aa g) ak)) ar) (ao (d5 (dQ g (aa g) (ae (aa g) ak))) aF) (ao (bX (cB g (aN g (aa g) ar) (aN g (aa g) ar)) (ao (d5 (dQ g (aa g) (ae (bo (ae (aa g) (ae (aa g) (ae fZ ak)))) ak))) aF) (ao (d5 (dQ g (aa g) (ae (bo (ae (aa g) (ae (aa g) (ae fZ ak)))) ak))) aF)) aF)) aF)))
theorem Yt:MY lR fD af af o6 af af af af hJ 0 4:=by
 intro CX Γ X G
 have g:=G.toGood
 show PS X (.Return (some _) _) (bY Γ (.ret _))
 with_reducible exact(bh (aa g))
theorem Yu:MX lR fD af af o6 af af af af hJ 0:=by
 intro CX Γ X G
 have e:bc fD=[cX fD 0,cX fD 1,cX fD 2,cX fD 3,cX fD 4]:=by kernel_rfl
 have e2:hJ=[cY hJ 0,cY hJ 1,cY hJ 2,cY hJ 3,cY hJ 4]:=by kernel_rfl
 rw[e,e2]
 with_reducible exact ao (Yp G) (ao (Yq G) (ao (Yr G) (ao (Ys G) (ao (Yt G) (aF)))))
def rC:Stmt:=bQ 59
theorem Yv:bA CT J6 (aJ rC):=bO
theorem Yw:MX CT rC Xa af J7 af af af af CU 0:=by
 intro CX Γ X G
 have g:=G.toGood
 exact(ao (bX (PW.pt (j8 (fu (qv g (iQ g (aa g)))) (nv (cB g (bE g (ae (aa g) ak)) (bE g (ae (aa g) ak)))))) (ao (bh iP) aF) aF) (ao (lP [(_,_),(_,_)] G (Jr g (aa g) (aa g)) (ao (bX (PW.pt (j8 (fu (qv g (iQ g (aa g)))) (j8 (cB g (aa g) (aa g)) (j8 (fu (j9 g (aW g (ae (aN g (aa g) ar) ak)))) (nv (fu (j9 g (aW g (ae (aN g (aa g) ar) ak))))))))) (ao (bh iP) aF) aF) (ao (bX (PW.pt (BI (cB g (aN g (aa g) ar) fZ) (BH (fu (j9 g (aW g (ae (aN g (aa g) ar) ak))))))) (ao (bh iP) aF) aF) aF))) (ao (bh iP) aF)))
def CW:List Str:=["_law_here","_law_later","_law_at","_law_k","_law_found","_law_name","_law_sign"]
def Kn:List Str:=["_law_here","_law_later"]
noncomputable def CY:List RS:=
 [.asg 2 .AQ,
 .lE 3 .fk [(.blt .len [(.v 1)])] [.dput (.v 2) (.ix (.ix (.v 1) (.v 3)) (.c (.int 0))) (.bin .Add (.v 3) (.c (.int 1)))],
 .asg 4 (.lst [(.c (.int 0))]),
 .iM [5,6] .list [(.v 0)] [.drop (.bC .append (.v 4) [(.AR (.v 2) (.v 5) (.ix (.v 4) (.neg (.c (.int 1)))))])],
 .ret (.v 4)]
def rD:Stmt:=bQ 60
theorem Yx:bA CW Kn (aJ rD):=bO
theorem Yy:MX CW rD af af nA af af af af CY 0:=by
 intro CX Γ X G
 have g:=G.toGood
 exact(ao (aP G V1) (ao (uq G (qw g (bE g (ae (aa g) ak))) (ao (V9 G (aI g (aa g) ar) (aa g) (aN g (aN g (aa g) (aa g)) ar)) aF)) (ao (aP G (bw (ae ar ak))) (ao (lP [(_,_),(_,_)] G (fA g (aa g)) (ao (d5 (dQ g (aa g) (ae (V2 g (aa g) (aa g) (aN g (aa g) (iq ar))) ak))) aF)) (ao (bh (aa g)) aF)))))
def CZ:List Str:=["_law_change_here","_law_cursors","_law_e"]
def Ko:List Str:=["_law_change_here","_law_cursors"]
noncomputable def C0:List RS:=
 [.AU 3 2 0 [.drop (.call 0 [(.v 0),(.v 1)])] [.ret (.AO 0 (.v 2))],
 .ret (.c (.str ""))]
def Yz:List Str:=["carried"]
def YA:List Str:=["InkError"]
def YB:List Str:=["_law_word"]
def rE:Stmt:=bQ 61
theorem YC:bA CZ Ko (aJ rE):=bO
theorem YD:MX CZ rE Yz YA af af af af YB C0 0:=by
 intro CX Γ X G
 have g:=G.toGood
 exact(ao (Wd G (by kernel_rfl) (by kernel_rfl) (fun G=> (fun g=> (ao (d5 (aW g (ae (aa g) (ae (aa g) ak)))) aF)) G.toGood) (fun G=> (fun g=> (ao (bh (VY g (aa g))) aF)) G.toGood)) (ao (bh aR) aF))
def js:List Str:=["_law_size_here","_law_cursors","_law_cell","_law_wrong","_law_good","_law_at","_law_odd","_law_bad","_law_last"]
def Kp:List Str:=["_law_size_here","_law_cursors","_law_cell"]
noncomputable def dR:List RS:=
 [.asg 3 (.ix (.lst [(.c .aD),(.c (.str "ab")),(.lst [(.tup [(.c (.str "keep")),(.c (.int 0))])]),(.lst [(.tup [(.c (.str "keep")),(.v 0)]),(.tup [(.c (.str "keep")),(.c (.int 1))])]),(.lst [(.tup [(.c (.str "cut")),(.c (.str "a"))]),(.tup [(.c (.str "put")),(.c (.str "b"))])])]) (.bin .Mod (.v 2) (.c (.int 5)))),
 .asg 4 (.bin .Add (.lst [(.tup [(.c (.str "put")),(.c (.str "abc"))])]) (.bin .Mult (.lst [(.tup [(.c (.str "keep")),(.v 0)])]) (.blt .int [(.cmp .Gt (.v 0) (.c (.int 0)))]))),
 .asg 5 (.bin .Mod (.bin .FloorDiv (.v 2) (.c (.int 5))) (.blt .len [(.v 1)])),
 .asg 6 (.ix (.lst [(.tup [(.c (.int 0)),(.bin .Add (.v 0) (.c (.int 1))),(.c .aD)]),(.c .aD),(.tup [(.c (.int 0)),(.c (.int 0))]),(.lst [(.c (.int 0)),(.c (.int 0)),(.c .aD)]),(.tup [(.c (.int 0)),(.neg (.c (.int 1))),(.c (.int 0))]),(.tup [(.c (.int 0)),(.c (.bl true)),(.c .aD)])]) (.bin .Mod (.bin .FloorDiv (.v 2) (.c (.int 5))) (.c (.int 6)))),
 .asg 7 (.ix (.lst [(.bin .Add (.bin .Add (.sl (.v 1) none (some (.v 5))) (.lst [(.v 6)])) (.sl (.v 1) (some (.bin .Add (.v 5) (.c (.int 1)))) none)),(.lst []),(.blt .tuple [(.v 1)]),(.bin .Add (.v 1) (.v 1))]) (.bin .Mod (.bin .FloorDiv (.v 2) (.c (.int 30))) (.c (.int 4)))),
 .ite (.or [(.cmp .NotEq (.call 0 [(.v 3),(.v 7)]) (.c (.str "change"))),(.cmp .NotEq (.call 0 [(.v 4),(.v 7)]) (.c (.str "cursor")))]) [.ret (.c (.bl false))] [],
 .asg 8 (.blt .max [(.comp none [] .list [(.v 1)] none (.xt yo [(.sl (.v 0) none (some (.c (.int 2))))]))]),
 .ret (.or [(.cmp .Eq (.v 8) (.c (.int 0))),(.cmp .Eq (.call 0 [(.bin .Mult (.lst [(.tup [(.c (.str "keep")),(.bin .Sub (.v 8) (.c (.int 1)))])]) (.blt .int [(.cmp .Gt (.v 8) (.c (.int 1)))])),(.v 1)]) (.c (.str "cursor")))])]
def lV:List Str:=["_law_told"]
def kd:List Str:=["int","len","tuple","max"]
def dH:Stmt:=bQ 62
theorem YE:bA js Kp (aJ dH):=bO
theorem YF:MY js dH lV af kd af af af af dR 0 0:=by
 intro CX Γ X G
 have g:=G.toGood
 show PS X (.Assign [.Name "_law_wrong" _] _ _) (bY Γ (.asg 3 _))
 with_reducible exact(aP G (aN g (bw (ae fZ (ae aR (ae (bw (ae (bo (ae aR (ae ar ak))) ak)) (ae (bw (ae (bo (ae aR (ae (aa g) ak))) (ae (bo (ae aR (ae ar ak))) ak))) (ae (bw (ae (bo (ae aR (ae aR ak))) (ae (bo (ae aR (ae aR ak))) ak))) ak)))))) (aI g (aa g) ar)))
theorem YG:MY js dH lV af kd af af af af dR 0 1:=by
 intro CX Γ X G
 have g:=G.toGood
 show PS X (.Assign [.Name "_law_good" _] _ _) (bY Γ (.asg 4 _))
 with_reducible exact(aP G (aI g (bw (ae (bo (ae aR (ae aR ak))) ak)) (aI g (bw (ae (bo (ae aR (ae (aa g) ak))) ak)) (bE g (ae (du g (aa g) ar) ak)))))
theorem YH:MY js dH lV af kd af af af af dR 0 2:=by
 intro CX Γ X G
 have g:=G.toGood
 show PS X (.Assign [.Name "_law_at" _] _ _) (bY Γ (.asg 5 _))
 with_reducible exact(aP G (aI g (aI g (aa g) ar) (bE g (ae (aa g) ak))))
theorem YI:MY js dH lV af kd af af af af dR 0 3:=by
 intro CX Γ X G
 have g:=G.toGood
 show PS X (.Assign [.Name "_law_odd" _] _ _) (bY Γ (.asg 6 _))
 with_reducible exact(aP G (aN g (bw (ae (bo (ae ar (ae (aI g (aa g) ar) (ae fZ ak)))) (ae fZ (ae (bo (ae ar (ae ar ak))) (ae (bw (ae ar (ae ar (ae fZ ak)))) (ae (bo (ae ar (ae (iq ar) (ae ar ak)))) (ae (bo (ae ar (ae iP (ae fZ ak)))) ak))))))) (aI g (aI g (aa g) ar) ar)))
theorem YJ:MY js dH lV af kd af af af af dR 0 4:=by
 intro CX Γ X G
 have g:=G.toGood
 show PS X (.Assign [.Name "_law_bad" _] _ _) (bY Γ (.asg 7 _))
 with_reducible exact(aP G (aN g (bw (ae (aI g (aI g (nu g (aa g) qu (j7 (aa g))) (bw (ae (aa g) ak))) (nu g (aa g) (j7 (aI g (aa g) ar)) qu)) (ae (bw ak) (ae (bE g (ae (aa g) ak)) (ae (aI g (aa g) (aa g)) ak))))) (aI g (aI g (aa g) ar) ar)))
theorem YK:MY js dH lV af kd af af af af dR 0 5:=by
 intro CX Γ X G
 have g:=G.toGood
 exact(bX (PW.pt (j8 (cB g (aW g (ae (aa g) (ae (aa g) ak))) aR) (nv (cB g (aW g (ae (aa g) (ae (aa g) ak))) aR)))) (ao (bh iP) aF) aF)
theorem YL:MY js dH lV af kd af af af af dR 0 6:=by
 intro CX Γ X G
 have g:=G.toGood
 show PS X (.Assign [.Name "_law_last" _] _ _) (bY Γ (.asg 8 _))
 with_reducible exact(aP G (bE g (ae (iu (ln:=["_law_one"]) g (by kernel_rfl) (fA g (aa g)) iR (fun _ g=> (JY g (ae (nu g (aa g) qu (j7 ar)) ak) (hq:=by kernel_rfl)))) ak)))
theorem YM:MY js dH lV af kd af af af af dR 0 7:=by
 intro CX Γ X G
 have g:=G.toGood
 show PS X (.Return (some _) _) (bY Γ (.ret _))
 with_reducible exact(bh (um (du g (aa g) ar) (uk (du g (aW g (ae (aI g (bw (ae (bo (ae aR (ae (aI g (aa g) ar) ak))) ak)) (bE g (ae (du g (aa g) ar) ak))) (ae (aa g) ak))) aR))))
theorem YN:MX js dH lV af kd af af af af dR 0:=by
 intro CX Γ X G
 have e:bc dH=[cX dH 0,cX dH 1,cX dH 2,cX dH 3,cX dH 4,cX dH 5,cX dH 6,cX dH 7]:=by kernel_rfl
 have e2:dR=[cY dR 0,cY dR 1,cY dR 2,cY dR 3,cY dR 4,cY dR 5,cY dR 6,cY dR 7]:=by kernel_rfl
 rw[e,e2]
 with_reducible exact ao (YF G) (ao (YG G) (ao (YH G) (ao (YI G) (ao (YJ G) (ao (YK G) (ao (YL G) (ao (YM G) (aF))))))))
def lW:List Str:=["_law_script","_law_text_here","_law_here","_law_cursors","_law_told_here","_law_k","_law_change_here","_law_later","_law_places_here","_law_due","_law_handed","_law_found","_law_again"]
def Kq:List Str:=["_law_script"]
noncomputable def fE:List RS:=
 [.asg 1 (.call 0 [(.call 1 [(.v 0),(.c (.int 1))]),(.call 2 [(.call 1 [(.v 0),(.c (.int 0))])])]),
 .asg 2 (.call 3 [(.v 1)]),
 .asg 3 (.call 4 [(.call 5 [(.v 0),(.c (.int 2)),(.blt .len [(.v 1)])])]),
 .asg 4 (.lst []),
 .lE 5 .xh [(.c (.int 10)),(.blt .min [(.blt .len [(.v 0)]),(.c (.int 18))])] [.asg 6 (.call 6 [(.ix (.v 0) (.v 5)),(.bC .join (.c (.str "")) [(.comp none [] .list [(.v 2)] none (.ix (.v 0) (.c (.int 1))))]),(.bin .Mod (.call 7 [(.ix (.v 0) (.v 5)),(.c (.int 3))]) (.c (.int 9)))]),
  .asg 7 (.call 8 [(.v 2),(.v 6),(.v 5)]),
  .asg 8 (.call 9 [(.v 2),(.v 7)]),
  .asg 9 (.call 4 [(.comp none [("_law_places_here",8)] .list [(.v 3)] none (.tup [(.ix (.v 1) (.ix (.v 0) (.c (.int 0)))),(.ix (.v 1) (.ix (.v 0) (.c (.int 1)))),(.c .aD)]))]),
  .asg 10 (.lst [(.blt .list [(.v 6)]),(.blt .list [(.v 3)])]),
  .asg 11 (.call 10 [(.ix (.v 10) (.c (.int 0))),(.ix (.v 10) (.c (.int 1)))]),
  .ite (.or [(.not (.call 11 [(.v 11),(.v 9)])),(.cmp .NotEq (.v 10) (.lst [(.v 6),(.v 3)]))]) [.ret (.c (.bl false))] [],
  .drop (.bC .append (.v 4) [(.tup [(.v 11),(.blt .list [(.v 11)])])]),
  .asg 12 (.call 10 [(.ix (.v 10) (.c (.int 0))),(.ix (.v 10) (.c (.int 1)))]),
  .ite (.cmp .NotEq (.v 12) (.v 9)) [.ret (.c (.bl false))] [],
  .drop (.bC .append (.v 12) [(.tup [(.c (.int 0)),(.c (.int 0)),(.c .aD)])]),
  .ite (.not (.call 12 [(.blt .len [(.v 2)]),(.v 3),(.call 7 [(.ix (.v 0) (.v 5)),(.c (.int 6))])])) [.ret (.c (.bl false))] [],
  .asg 2 (.v 7),
  .asg 3 (.v 9)],
 .ret (.and [(.cmp .Eq (.v 3) (.call 4 [(.v 3)])),(.cmp .Eq (.comp (some 2) [] .list [(.v 4)] (some (.cmp .NotEq (.v 0) (.v 1))) (.v 0)) (.lst []))])]
def o8:List Str:=["_law_text","_law_cell_at","_law_size","_law_named","_law_settled","_law_drawn","_law_change","_law_mixed","_law_gone","_law_places","carried","_law_alike","_law_refused"]
def nE:List Str:=["len","range","min","list"]
def dS:Stmt:=bQ 63
theorem YO:bA lW Kq (aJ dS):=bO
theorem YQ:MY lW dS o8 af nE af af af af fE 0 0:=by
 intro CX Γ X G
 have g:=G.toGood
 show PS X (.Assign [.Name "_law_text_here" _] _ _) (bY Γ (.asg 1 _))
 with_reducible exact(aP G (aW g (ae (aW g (ae (aa g) (ae ar ak))) (ae (aW g (ae (aW g (ae (aa g) (ae ar ak))) ak)) ak))))
theorem YR:MY lW dS o8 af nE af af af af fE 0 1:=by
 intro CX Γ X G
 have g:=G.toGood
 show PS X (.Assign [.Name "_law_here" _] _ _) (bY Γ (.asg 2 _))
 with_reducible exact(aP G (aW g (ae (aa g) ak)))
theorem YS:MY lW dS o8 af nE af af af af fE 0 2:=by
 intro CX Γ X G
 have g:=G.toGood
 show PS X (.Assign [.Name "_law_cursors" _] _ _) (bY Γ (.asg 3 _))
 with_reducible exact(aP G (aW g (ae (aW g (ae (aa g) (ae ar (ae (bE g (ae (aa g) ak)) ak)))) ak)))
theorem YT:MY lW dS o8 af nE af af af af fE 0 3:=by
 intro CX Γ X G
 have g:=G.toGood
 show PS X (.Assign [.Name "_law_told_here" _] _ _) (bY Γ (.asg 4 _))
 with_reducible exact(aP G (bw ak))
theorem YU:MY lW dS o8 af nE af af af af fE 0 4:=by
 intro CX Γ X G
 have g:=G.toGood
 exact(uq G (V5 g ar (bE g (ae (bE g (ae (aa g) ak)) (ae ar ak)))) (ao (aP G (aW g (ae (aN g (aa g) (aa g)) (ae (dQ g aR (ae (iu (ln:=["_law_one"]) g (by kernel_rfl) (fA g (aa g)) iR (fun _ g=> (aN g (aa g) ar))) ak)) (ae (aI g (aW g (ae (aN g (aa g) (aa g)) (ae ar ak))) ar) ak))))) (ao (aP G (aW g (ae (aa g) (ae (aa g) (ae (aa g) ak))))) (ao (aP G (aW g (ae (aa g) (ae (aa g) ak)))) (ao (aP G (aW g (ae (iu (ln:=["_law_one"]) g (by kernel_rfl) (fA g (aa g)) iR (fun _ g=> (bo (ae (aN g (aa g) (aN g (aa g) ar)) (ae (aN g (aa g) (aN g (aa g) ar)) (ae fZ ak)))))) ak))) (ao (aP G (bw (ae (bE g (ae (aa g) ak)) (ae (bE g (ae (aa g) ak)) ak)))) (ao (aP G (aW g (ae (aN g (aa g) ar) (ae (aN g (aa g) ar) ak)))) (ao (bX (PW.pt (j8 (fu (j9 g (aW g (ae (aa g) (ae (aa g) ak))))) (nv (cB g (aa g) (bw (ae (aa g) (ae (aa g) ak))))))) (ao (bh iP) aF) aF) (ao (d5 (dQ g (aa g) (ae (bo (ae (aa g) (ae (bE g (ae (aa g) ak)) ak))) ak))) (ao (aP G (aW g (ae (aN g (aa g) ar) (ae (aN g (aa g) ar) ak)))) (ao (bX (cB g (aa g) (aa g)) (ao (bh iP) aF) aF) (ao (d5 (dQ g (aa g) (ae (bo (ae ar (ae ar (ae fZ ak)))) ak))) (ao (bX (fu (j9 g (aW g (ae (bE g (ae (aa g) ak)) (ae (aa g) (ae (aW g (ae (aN g (aa g) (aa g)) (ae ar ak))) ak)))))) (ao (bh iP) aF) aF) (ao (aP G (aa g)) (ao (aP G (aa g)) aF)))))))))))))))
theorem YV:MY lW dS o8 af nE af af af af fE 0 5:=by
 intro CX Γ X G
 have g:=G.toGood
 show PS X (.Return (some _) _) (bY Γ (.ret _))
 with_reducible exact(bh (gJ (du g (aa g) (aW g (ae (aa g) ak))) (ir (du g (iu (ln:=["_law_one","_law_other"]) g (by kernel_rfl) (fA g (aa g)) (BG fun _ g=> (cB g (aa g) (aa g))) (fun _ g=> (aa g))) (bw ak)))))
theorem YW:MX lW dS o8 af nE af af af af fE 0:=by
 intro CX Γ X G
 have e:bc dS=[cX dS 0,cX dS 1,cX dS 2,cX dS 3,cX dS 4,cX dS 5]:=by kernel_rfl
 have e2:fE=[cY fE 0,cY fE 1,cY fE 2,cY fE 3,cY fE 4,cY fE 5]:=by kernel_rfl
 rw[e,e2]
 with_reducible exact ao (YQ G) (ao (YR G) (ao (YS G) (ao (YT G) (ao (YU G) (ao (YV G) (aF))))))
end L2.lU
namespace L2.B
open PySem PySem.Spec PyProof.Rows
def lX(H H':Hp):Prop:= ∀b xs,H b=some (.tup xs)→H' b=some (.tup xs)
theorem cJ{H H':Hp}(h:au H H'):lX H H':=fun b xs e=>h b _ e
theorem sameNew{H:Hp}{p:Addr}{o:HO}(h:H p=none):au H (upd H p o):=fun b u e=>by rw[aG (bD e h)];exact e
def bf(c:Addr)(H H':Hp):Prop:= ∀b o,H b=some o→b≠c→H' b=some o
theorem bf.upd{H:Hp}{c:Addr}{o:HO}:bf c H (upd H c o):=fun b u e n=>by rw[aG n];exact e
theorem bf.trans{c:Addr}{H H1 H2:Hp}(a:bf c H H1)(b:bf c H1 H2):bf c H H2:=fun d o e n=>b d o (a d o e n) n
theorem sameBut{c:Addr}{H H1 H2:Hp}(a:au H H1)(b:bf c H1 H2):bf c H H2:=fun d o e n=>b d o (a d o e) n
theorem Kr{c:Addr}{H H1 H2:Hp}(a:au H H1)(hc:H c=none)(b:bf c H1 H2):au H H2:=fun d o e=>b d o (a d o e) (bD e hc)
theorem bf.eR{c:Addr}{H H':Hp}{xs:List V}(h:bf c H H')(hc:H c=some (.lst xs)):lX H H':=fun b ys e=>h b _ e (fun z=>by rw[z,hc] at e;cases e)
theorem iF{c:Bool}{A B:Prop}(q:B)(h:c=false:=by first | rfl | decide):if c=true then A else B:=by
 rw[h];exact lq q
theorem iT{c:Bool}{A B:Prop}(q:A)(h:c=true:=by first | rfl | decide):if c=true then A else B:=by
 rw[h];exact fS q
inductive Pt where | keep (n:Int) | put (s:Str) | cut (s:Str)
 deriving DecidableEq
def Pt.word:Pt→Str | .keep _=> "keep" | .put _=> "put" | .cut _=> "cut"
def Pt.val:Pt→V | .keep n=> .int n | .put s=> .str s | .cut s=> .str s
def lY(H:Hp)(v:V)(p:Pt):Prop:= ∃a,v= .ref a∧H a=some (.tup [.str p.word,p.val])
abbrev bR(H:Hp):List V→List Pt→Prop:=Paired (lY H)
theorem lY.mono{H H':Hp}{v:V}{p:Pt}(t:lX H H')(h:lY H v p):lY H' v p:=by
 obtain⟨a,e,h⟩:=h
 exact⟨a,e,t _ _ h⟩
theorem bR.mono{H H':Hp}(t:lX H H'): ∀{vs:List V} {ps:List Pt},bR H vs ps→bR H' vs ps
 | _,_, .nil=> .nil
 | _,_, .cons h r=> .cons (h.mono t) (bR.mono t r)
theorem bR.get{H:Hp}: ∀{vs:List V} {ps:List Pt} {i:Nat} {v:V},bR H vs ps→vs[i]?=some v→ ∃p,ps[i]?=some p∧lY H v p
 | _,_,i,v, .nil,e=>by simp at e
 | _,_,0,v, .cons h r,e=>by simp at e;subst e;exact⟨_,rfl,h⟩
 | _,_,i+1,v, .cons h r,e=>by
  obtain⟨p,a,b⟩:=bR.get (i:=i) r (by simpa using e)
  exact⟨p,by simpa using a,b⟩
theorem bR.snoc{H:Hp}{vs:List V}{ps:List Pt}{v:V}{p:Pt}(h:bR H vs ps)(q:lY H v p):bR H (vs++ [v]) (ps++ [p]):=Paired.snoc h q
def nF:Sp:=fun vs H Q E=> ∃i,vs=[.int i]∧Q (.bl true) H
def gM(w a:Str):Bool:=w !=a && !(a=="cut" && w=="put")
def rF:Sp:=fun vs H Q E=> ∃w a,vs=[.str w, .str a]∧Q (.bl (gM w a)) H
theorem YX{K:Frag}(vs:List V)(H:Hp)(Q:VK)(E:XK)(h:rF vs H Q E):aB (aM K [] [] (E:=E)) BP {nx:=fun _ H'=>Q .aD H',rt:=Q} (start ux vs) H:=by
 obtain⟨w,a,rfl,q⟩:=h
 refine⟨_,rfl,_,rfl,_,rfl, ?_⟩
 unfold gM at q
 refine ie (fun h=> ?_) (fun h=> ?_)
 ·rw[Bool.true_xor,jf] at h
  have e:(w !=a)=true:=h
  rw[e] at q
  refine⟨_,rfl,_,rfl, ?_⟩
  refine ie (fun h2=> ?_) (fun h2=> ?_)
  ·rw[Bool.false_xor,jf] at h2
   rw[h2] at q
   refine⟨_,rfl, ?_⟩
   show Q (.bl (!(false ^^ decide (V.str w=V.str "put")))) H
   rw[Bool.false_xor,jf]
   exact q
  ·rw[Bool.false_xor,jf] at h2
   have e2:(a=="cut")=false:=by simpa using h2
   rw[e2] at q
   exact q
 ·rw[Bool.true_xor,jf] at h
  have e:(w !=a)=false:=by simpa using h
  rw[e] at q
  exact q
theorem cM{n:Nat}(h:n≤1000000):n≤sizeLine:=Nat.le_trans h (by decide)
theorem dD{n:Nat}(h:n≤1000000):n<sizeLine:=Nat.lt_of_le_of_lt h (by decide)
def cell(ns:List Int)(k:Nat):Int:=ns.getD k 0
def ke(K:Frag):Sp:=fun vs H Q E=> ∃(a:Addr) (ns:List Int) (k:Int),vs=[.ref a, .int k]∧aq K H a (ns.map V.int)∧0≤k∧Q (.int (cell ns k.toNat)) H
theorem YY{K:Frag}(vs:List V)(H:Hp)(Q:VK)(E:XK)(h:ke K vs H Q E):aB (aM K [] [] (E:=E)) BR {nx:=fun _ H'=>Q .aD H',rt:=Q} (start uA vs) H:=by
 obtain⟨a,ns,k,rfl,ha,hk,q⟩:=h
 refine⟨_,rfl,_,rfl, .inl ⟨_,ha,trivial,_,rfl, ?_⟩⟩
 rw[List.length_map]
 refine ie (fun h=> ?_) (fun h=> ?_)
 ·have aQ:k< (ns.length:Int):=of_decide_eq_true h
  refine⟨_,rfl,_,rfl, .inl ⟨_,_,_,_,rfl,rfl,ha, ?_,q⟩⟩
  have e:=gB (xs:=ns.map V.int) (j:=k.toNat) (v:= .int (cell ns k.toNat)) (by
   have:k.toNat<ns.length:=by omega
   simp[cell,this])
  rw[show((k.toNat:Nat):Int)=k by omega] at e
  exact e
 ·have hge: ¬k< (ns.length:Int):=fun z=>h (decide_eq_true z)
  have e:cell ns k.toNat=0:=by
   have z:ns[k.toNat]?=none:=List.getElem?_eq_none_iff.mpr (by omega)
   unfold cell
   rw[List.getD_eq_getElem?_getD,z];rfl
  rw[e] at q
  exact q
theorem C1:(0:Int) <1000003:=by decide
def mixed(c k:Int):Int:=let n:=(c*48271+7919*k+11) % 1000003;n*n % 1000003*n % 1000003
def gd:Sp:=fun vs H Q E=> ∃c k,vs=[.int c, .int k]∧Q (.int (mixed c k)) H
theorem YZ{K:Frag}(vs:List V)(H:Hp)(Q:VK)(E:XK)(h:gd vs H Q E):aB (aM K [] [] (E:=E)) BU {nx:=fun _ H'=>Q .aD H',rt:=Q} (start BS vs) H:=by
 obtain⟨c,k,rfl,q⟩:=h
 have h0: ∀z:Int,0≤z % 1000003∧z % 1000003<1000003:=fun z=> ⟨Int.emod_nonneg _ (by decide),Int.emod_lt_of_pos _ (by decide)⟩
 have h1:=h0 (c*48271+7919*k+11)
 have h2:=h0 ((c*48271+7919*k+11) % 1000003* ((c*48271+7919*k+11) % 1000003))
 refine⟨_,rfl, .inr ⟨by decide,by decide⟩,_,rfl, .inl ⟨by decide,by decide⟩,C1, ?_⟩
 refine⟨_,rfl,_,rfl, .inl ⟨by omega,by omega⟩,C1,_,rfl, .inl ⟨by omega,by omega⟩,C1, ?_⟩
 exact q
theorem C2(c k:Int):0≤mixed c k∧mixed c k<1000003:=⟨Int.emod_nonneg _ (by decide),Int.emod_lt_of_pos _ (by decide)⟩
def SG:Str:=" !\"#$&'()*+,-./0123456789:;<=>?@ABCDEFGHIJKLMNOPQRSTUVWXYZ[\\]^_`abcdefghijklmnopqrstuvwxyz{|}~\n"
def good(x:Str):Prop:=x.length≤1000000∧ ∀c∈x.cps.toList,SG.cps.contains c=true
theorem takeWhile_all{α:Type}(p:α→Bool): ∀l:List α,(∀c∈l,p c=true)→l.takeWhile p=l
 | [],_=>rfl
 | c::l,h=>by rw[List.takeWhile_cons,h c List.mem_cons_self,takeWhile_all p l fun d hd=>h d (List.mem_cons_of_mem _ hd)];rfl
theorem Y0(x y:Str)(h: ∀c∈x.cps.toList,y.cps.contains c=true):Txt.lstripChars x y="":=by
 have e0:stripLo y.cps.contains true x=x.length:=by
  unfold stripLo
  rw[if_pos rfl,takeWhile_all _ _ h]
  simp[Str.length]
 have e1:stripHi y.cps.contains false x x.length=x.length:=rfl
 unfold Txt.lstripChars Txt.stripBy stripSame stripped
 rw[e0,e1]
 split
 ·rename_i hq
  simp only[Bool.and_eq_true,beq_iff_eq] at hq
  have:x.cps= #[]:=Array.eq_empty_of_size_eq_zero hq.1
  obtain⟨c⟩:=x
  have e:c= #[]:=this
  subst e
  rfl
 ·show(⟨x.cps.extract x.length x.length⟩:Str)=_
  have:x.cps.extract x.length x.length= #[]:=by simp[Str.length]
  rw[this];rfl
theorem rG{H:Hp}{a:Addr}{xs:List V}{T:Ty}{k:Bool→Prop}(h:H a=some (.tup xs))(q:k (T== .tuple)):bW T (.ref a) H k:=by
 show(match H a with | some (.lst _)=>k (T== .list) | some (.bz _ (.lst _))=>k (T== .list) | some (.tup _)=>k (T== .tuple) | some (.dK _)=>k (T== .dict) | some (.dT _)=>k (T== .dict) | _=>False)
 rw[h];exact q
theorem rH{H:Hp}{a:Addr}{xs:List V}{T:Ty}{k:Bool→Prop}(h:H a=some (.lst xs))(q:k (T== .list)):bW T (.ref a) H k:=by
 show(match H a with | some (.lst _)=>k (T== .list) | some (.bz _ (.lst _))=>k (T== .list) | some (.tup _)=>k (T== .tuple) | some (.dK _)=>k (T== .dict) | some (.dT _)=>k (T== .dict) | _=>False)
 rw[h];exact q
abbrev gS:List (Str×V):=[("SIGNS", .str SG)]
def Y1:Sp:=fun vs H Q E=> ∃x,vs=[.str x]∧good x∧Q (.bl true) H
theorem Y2{K:Frag}(vs:List V)(H:Hp)(Q:VK)(E:XK)(h:Y1 vs H Q E):aB (aM K [] gS (E:=E)) xX {nx:=fun _ H'=>Q .aD H',rt:=Q} (start dB vs) H:=by
 obtain⟨x,rfl,hx,q⟩:=h
 refine⟨_,rfl,rfl,_,rfl,fS ⟨_,rfl,rfl,cM hx.1, ?_⟩⟩
 show Q (.bl (false ^^ decide (V.str (Txt.lstripChars x SG)=V.str ""))) H
 rw[Y0 x SG hx.2,decide_eq_true rfl]
 exact q
def gf:Pt→Prop | .keep n=>1≤n | .put s=>good s∧s≠"" | .cut s=>good s∧s≠""
def Y3(K:Frag):Sp:=fun vs H Q E=> ∃w p xs,vs=[.str w, .ref p]∧aL K H p xs∧xs.all eJ=true∧Q (.bl (gC (.str w) xs)) H
theorem Y4{K:Frag}(vs:List V)(H:Hp)(Q:VK)(E:XK)(h:Y3 K vs H Q E):aB (aM K [] [] (E:=E)) xV {nx:=fun _ H'=>Q .aD H',rt:=Q} (start qz vs) H:=by
 obtain⟨w,p,xs,rfl,hp,hf,q⟩:=h
 exact⟨_,rfl,rfl,_,rfl,fS ⟨_,rfl,_,rfl,p,xs,rfl,(.inr hp),rfl,hf,q⟩⟩
def C3:Sp:=fun vs H Q E=> ∃v p,vs=[v]∧lY H v p∧gf p∧ ∀H',au H H'→Q (.bl true) H'
def chainOk:Str→List Pt→Bool
 | _,[]=>true
 | a,p::r=>gM p.word a && chainOk p.word r
def iw(a:Str)(ps:List Pt):Nat→Str
 | 0=>a
 | i+1=>match ps[i]? with | some p=>p.word | none=> ""
theorem C5: ∀(ps:List Pt) (a:Str) (i:Nat) (p:Pt),chainOk a ps=true→ps[i]?=some p→gM p.word (iw a ps i)=true
 | [],_,_,_,_,h=>by simp at h
 | q::r,a,0,p,h,e=>by
  simp only[chainOk,Bool.and_eq_true] at h
  simp at e;subst e;exact h.1
 | q::r,a,i+1,p,h,e=>by
  simp only[chainOk,Bool.and_eq_true] at h
  have e':r[i]?=some p:=by simpa using e
  have ih:=C5 r q.word i p h.2 e'
  cases i with
  | zero=>simpa[iw] using ih
  | succ i=>simpa[iw] using ih
abbrev Y5:List (Str×Sp):=[("is_part",C3),("may_follow",rF)]
def yt:Sp:=fun vs H Q E=> ∃a xs ps,vs=[.ref a]∧H a=some (.lst xs)∧bR H xs ps∧(∀p∈ps,gf p)∧chainOk "" ps=true∧ ∀H',au H H'→Q .aD H'
theorem Y6{K:Frag}{et:List (Str×Addr)}(vs:List V)(H:Hp)(Q:VK)(E:XK)(h:yt vs H Q E):aB (aM K Y5 [] (et:=et) (E:=E)) uz {nx:=fun _ H'=>Q .aD H',rt:=Q} (start xY vs) H:=by
 obtain⟨a,xs,ps,rfl,ha,dE,aE,ez,q⟩:=h
 refine⟨_,rfl,rfl,rH ha ⟨_,rfl,a,rfl,⟨_,aq.of ha⟩,jO (K:=K) (a:=a) (xs:=xs) (fun i σ H2=> ∃v,σ=[some (.ref a),some (.str (iw "" ps i)),v]∧au H H2) ⟨none,rfl,au.refl _⟩
  (fun i σ H2 _ ⟨_,_,s2⟩=>aq.of (s2 _ _ ha)) ?_ ?_⟩⟩
 ·rintro i x σ H2 hi ⟨v,rfl,s2⟩
  obtain⟨p,hp,lZ⟩:=dE.get hi
  obtain⟨b,rfl,hb⟩:=lZ.mono (cJ s2)
  refine⟨_,rfl,_,p,rfl,⟨b,rfl,hb⟩,aE p (List.mem_of_getElem? hp),fun H3 s3=> ?_⟩
  refine⟨_,rfl, .inr (.inl ⟨_,_,_,_,rfl,rfl,aL.of (s3 _ _ hb),rfl,_,rfl,p.word,_,rfl, ?_⟩)⟩
  have e:=C5 ps "" i p ez hp
  show(fun c H1=>if (!c)=true then _ else _) (gM p.word (iw "" ps i)) H3
  rw[e]
  refine⟨_,rfl, .inr (.inl ⟨_,_,_,_,rfl,rfl,aL.of (s3 _ _ hb),rfl,some (.ref b), ?_,s2.trans s3⟩)⟩
  show[some (V.ref a),some (V.str p.word),some (V.ref b)]=_
  have e2:iw "" ps (i+1)=p.word:=by simp only[iw,hp]
  rw[e2]
 ·rintro σ H2 ⟨v,rfl,s2⟩
  exact q H2 s2
theorem Y7{α:Type}(p:α→Bool)(l:List α)(i:Nat)(v:α)(h:l[i]?=some v):(l.take (i+1)).filter p=(l.take i).filter p++ (if p v then [v] else []):=by
 rw[List.take_add_one,h,List.filter_append]
 cases hp:p v<;>simp[hp]
def cat(ts:List Str):Str:=Txt.join "" ts
def sz(ts:List Str):Nat:=(ts.map Str.length).sum
theorem ofString_empty:(Str.ofString "")=⟨#[]⟩:=rfl
theorem o_(ts:List Str):(cat ts).cps.toList=(ts.map fun t=>t.cps.toList).flatten:=by
 have e:(Str.ofString "").cps= #[]:=rfl
 cases ts with
 | nil=>rfl
 | cons t r=>
  show(r.foldl (fun acc p=>acc++ (Str.ofString "").cps++p.cps) t.cps).toList=_
  rw[e]
  have go: ∀(r:List Str) (acc:Array Nat),(r.foldl (fun acc p=>acc++ #[]++p.cps) acc).toList=acc.toList++ (r.map fun t=>t.cps.toList).flatten:=by
   intro r
   induction r with
   | nil=>intro acc;simp
   | cons q r ih=>
    intro acc
    show(r.foldl (fun acc p=>acc++ #[]++p.cps) (acc++ #[]++q.cps)).toList=_
    rw[ih];simp
  rw[go];simp
theorem l_{x y:Str}(h:x.cps.toList=y.cps.toList):x=y:=by
 obtain⟨x⟩:=x
 obtain⟨y⟩:=y
 exact congrArg Str.mk (Array.toList_inj.mp h)
theorem app_list(x y:Str):(x++y).cps.toList=x.cps.toList++y.cps.toList:=by
 show(x.cps++y.cps).toList=_
 simp
theorem Y8(a b:List Str):cat (a++b)=cat a++cat b:=l_ (by rw[app_list,o_,o_,o_];simp)
theorem Y9(x:Str):cat [x]=x:=l_ (by rw[o_];simp)
theorem len_list(x:Str):x.length=x.cps.toList.length:=by simp[Str.length]
theorem C6(ts:List Str):(cat ts).length=sz ts:=by
 rw[len_list,o_,List.length_flatten]
 unfold sz
 rw[List.map_map]
 congr 1
theorem Ks(x:Str):x++ (Str.ofString "")=x:=l_ (by rw[app_list];simp[ofString_empty])
theorem rJ(x:Str):(Str.ofString "")++x=x:=l_ (by rw[app_list];simp[ofString_empty])
theorem joinOk_of{ts:List Str}(h:sz ts≤1000000):JoinOk "" ts=true:=by
 have go: ∀(l:List Str) (n:Nat),l.foldl (· + ·.length+ (Str.ofString "").length) n=n+sz l:=by
  intro l
  induction l with
  | nil=>intro n;rfl
  | cons t r ih=>
   intro n
   show r.foldl _ (n+t.length+0)=_
   rw[ih]
   show n+t.length+0+sz r=n+ (t.length+sz r)
   omega
 unfold JoinOk
 have e:ts.toArray.foldl (· + ·.length+ (Str.ofString "").length) 0=sz ts:=by
  rw[List.foldl_toArray,go,Nat.zero_add]
 rw[e]
 show(!decide (sz ts>sizeLine))=true
 rw[decide_eq_false (by have:=cM h;omega)]
 rfl
def txt(mk:Str→Pt)(x:Str):List Pt:=if x="" then [] else [mk x]
def gg(ch:List Pt)(Y_ Za:List Str):List Pt:=ch++txt .put (cat Y_)++txt .cut (cat Za)
def jt(ch:List Pt)(n:Int):List Pt:=match ch.getLast? with
 | some (.keep m)=>ch.dropLast++ [.keep (n+m)]
 | _=>ch++ [.keep n]
abbrev NS:=List Pt×List Str×List Str
def gN:NS→Pt→NS
 | (ch,p,c), .put s=> (ch,p++ [s],c)
 | (ch,p,c), .cut s=> (ch,p,c++ [s])
 | (ch,p,c), .keep n=>if 0<n then (jt (gg ch p c) n,[],[]) else (ch,p,c)
def Kt(ps:List Pt):List Pt:=let s:=ps.foldl gN ([],[],[]);gg s.1 s.2.1 s.2.2
def dU:Pt→Nat | .keep _=>0 | .put s=>s.length | .cut s=>s.length
def aU(ps:List Pt):Nat:=(ps.map dU).sum
theorem C8(ps:List Pt)(i:Nat):aU (ps.take i)≤aU ps:=by
 have:aU ps=aU (ps.take i)+aU (ps.drop i):=by
  unfold aU
  rw[←List.sum_append,←List.map_append,List.take_append_drop]
 omega
theorem Ku{ps:List Pt}{i:Nat}{p:Pt}(h:ps[i]?=some p):aU (ps.take (i+1))=aU (ps.take i)+dU p:=by
 rw[List.take_add_one,h]
 simp[aU]
theorem Zb{α β:Type}{f:β→α→β}{b:β}{l:List α}{i:Nat}{p:α}(h:l[i]?=some p):(l.take (i+1)).foldl f b=f ((l.take i).foldl f b) p:=by
 rw[List.take_add_one,h,List.foldl_append]
 rfl
theorem Kv(mk:Str→Pt)(x:Str):(txt mk x).length≤1:=by unfold txt;split<;>simp
theorem Kw(ch:List Pt)(p c:List Str):(gg ch p c).length≤ch.length+2:=by
 unfold gg
 have:=Kv .put (cat p)
 have:=Kv .cut (cat c)
 simp only[List.length_append]
 omega
theorem Zc(ch:List Pt)(n:Int):(jt ch n).length≤ch.length+1:=by
 unfold jt
 split
 ·simp only[List.length_append,List.length_dropLast,List.length_singleton];omega
 ·simp
def A1:Str:=" !\"#$&'()*+,-./0123456789:;<=>?@ABCDEFGHIJKLMNOPQRSTUVWXYZ[\\]^_`"
def A2:Str:="abcdefghijklmnopqrstuvwxyz{|}~\n"
def A3:Str:="ab\n"
def yu(al:Str):Prop:=0<al.length∧al.length≤1000∧ ∀c∈al.cps.toList,SG.cps.contains c=true
theorem Kx{al:Str}(h:(decide (0<al.length) && decide (al.length≤1000) && al.cps.toList.all fun c=>SG.cps.contains c)=true):yu al:=by
 simp only[Bool.and_eq_true,decide_eq_true_eq,List.all_eq_true] at h
 exact⟨h.1.1,h.1.2,h.2⟩
theorem Zd:yu (A1++A2):=Kx (by decide+kernel)
theorem Ze:yu A3:=Kx (by decide+kernel)
theorem Zf:A1.length+A2.length≤sizeLine:=by decide+kernel
abbrev Ky:List (Str×Sp):=[("_law_mixed",gd)]
def pb:Sp:=fun vs H Q E=> ∃c n,vs=[.int c, .int n]∧0≤n∧n≤1000∧ ∀x H',good x→x.length=n.toNat→au H H'→Q (.str x) H'
def C9(t:Str):Prop:=t.length=1∧ ∀c∈t.cps.toList,SG.cps.contains c=true
theorem yv: ∀(ts:List Str),(∀t∈ts,C9 t)→sz ts=ts.length
 | [],_=>rfl
 | t::r,h=>by
  show t.length+sz r=r.length+1
  rw[(h t List.mem_cons_self).1,yv r fun q hq=>h q (List.mem_cons_of_mem _ hq)]
  omega
theorem Zg{ts:List Str}(h: ∀t∈ts,C9 t)(hl:ts.length≤1000):good (cat ts):=by
 refine⟨by rw[C6,yv ts h];omega,fun c hc=> ?_⟩
 rw[o_,List.mem_flatten] at hc
 obtain⟨l,hl,hc⟩:=hc
 obtain⟨t,ht,rfl⟩:=List.mem_map.mp hl
 exact(h t ht).2 c hc
theorem Zh{K:Frag}(vs:List V)(H:Hp)(Q:VK)(E:XK)(h:pb vs H Q E):aB (aM K Ky [] (E:=E)) BW {nx:=fun _ H'=>Q .aD H',rt:=Q} (start BV vs) H:=by
 obtain⟨c,n,rfl,Zi,ip,k⟩:=h
 have fin: ∀(al:Str),yu al→aB (aM K Ky [] (E:=E)) [.ret (.bC .join (.c (.str "")) [(.comp none [("_law_some",2),("_law_cell",0)] .fk [(.v 1)] none (.ix (.v 1) (.bin .Mod (.bin .FloorDiv (.call 0 [(.v 2),(.v 0)]) (.c (.int 7))) (.blt .len [(.v 1)]))))])]
   {nx:=fun _ H'=>Q .aD H',rt:=Q} [some (.int c),some (.int n),some (.str al)] H:=by
  intro al ho
  refine⟨rfl,_,rfl,n,rfl,by omega,by omega,fun i m ys H2=>m=n.toNat - i∧i≤n.toNat∧H2=H∧ ∃ts:List Str,ys=ts.map V.str∧ts.length=i∧ ∀t∈ts,C9 t,⟨_,rfl,Nat.zero_le _,rfl,[],rfl,rfl,fun t ht=>by cases ht⟩, ?_⟩
  rintro i m ys H2 ⟨rfl,hi,rfl,ts,rfl,hl,yw⟩
  by_cases aQ:i<n.toNat
  ·refine .inr ⟨aQ, ?_⟩
   rintro x H3 ⟨rfl,rfl⟩
   refine⟨_,rfl,_,rfl,_,rfl,_,_,rfl,⟨by decide,by decide⟩,_,rfl,cM (by have:=ho.2.1;omega),(by show(0:Int) < (al.length:Int);have:=ho.1;omega), ?_⟩
   have hm:=C2 c (0+ (i:Int))
   have Zj:0≤mixed c (0+ (i:Int)) / 7 % (al.length:Int):=Int.emod_nonneg _ (by have:=ho.1;omega)
   have xM:mixed c (0+ (i:Int)) / 7 % (al.length:Int) < (al.length:Int):=Int.emod_lt_of_pos _ (by have:=ho.1;omega)
   obtain⟨j,ej⟩: ∃j,j=mixed c (0+ (i:Int)) / 7 % (al.length:Int):=⟨_,rfl⟩
   rw[←ej] at Zj xM
   have uQ:j.toNat<al.cps.toList.length:=by rw[←len_list];omega
   refine .inr (.inr (.inl ⟨al,j,al.cps.toList[j.toNat],rfl,(by rw[ej]),cM (by have:=ho.2.1;omega), ?_, ?_,n.toNat - (i+1),by omega,rfl,aQ,rfl,ts++ [⟨#[al.cps.toList[j.toNat]]⟩],(by rw[List.map_append];rfl),by simp[hl], ?_⟩))
   ·have e:=gB (xs:=al.cps.toList) (j:=j.toNat) (v:=al.cps.toList[j.toNat]) (by simp[uQ])
    rw[show((j.toNat:Nat):Int)=j by omega] at e
    exact e
   ·rw[List.length_map];exact dD (by omega)
   ·intro t ht
    rcases List.mem_append.mp ht with z | z
    ·exact yw t z
    ·rw[List.mem_singleton.mp z]
     refine⟨rfl,fun d hd=> ?_⟩
     have:d=al.cps.toList[j.toNat]:=by simpa using hd
     rw[this]
     exact ho.2.2 _ (List.getElem_mem uQ)
  ·have eM:i=n.toNat:=by omega
   refine .inl ⟨by show n.toNat≤i;omega,fun p hp=> ?_⟩
   refine⟨ts,aq.of aw,joinOk_of (by rw[yv ts yw];omega), ?_⟩
   exact k (cat ts) _ (Zg yw (by omega)) (by rw[C6,yv ts yw,hl,eM]) (sameNew hp)
 refine⟨_,rfl,Zf,_,rfl,(by show(0:Int) <3;decide),_,rfl, ?_⟩
 refine ie (fun h=> ?_) (fun h=> ?_)
 ·exact fin A3 Ze
 ·exact fin (A1++A2) Zd
def gO:Pt→Prop | .keep n=>0≤n | .put s=>good s∧s.length≤100000 | .cut s=>good s∧s.length≤100000
abbrev Row:=Str×Str×Int
def ju(r:Row):List V:=[.str r.1, .str r.2.1, .int r.2.2]
def Kz(H:Hp)(v:V)(r:Row):Prop:= ∃b,v= .ref b∧H b=some (.lst (ju r))
abbrev ma(H:Hp):List V→List Row→Prop:=Paired (Kz H)
theorem ma.mono{H H':Hp}: ∀{vs:List V} {ps:List Row},ma H vs ps→(∀v∈vs,∀b,v= .ref b→ ∀o,H b=some o→H' b=some o)→ma H' vs ps
 | _,_, .nil,_=> .nil
 | _,_, .cons ⟨b,e,h⟩ r,k=> .cons ⟨b,e,k _ List.mem_cons_self b e _ h⟩ (ma.mono r fun v hv=>k v (List.mem_cons_of_mem _ hv))
theorem ma.get{H:Hp}: ∀{vs:List V} {ps:List Row} {i:Nat} {v:V},ma H vs ps→vs[i]?=some v→ ∃p,ps[i]?=some p∧Kz H v p
 | _,_,i,v, .nil,e=>by simp at e
 | _,_,0,v, .cons h r,e=>by simp at e;subst e;exact⟨_,rfl,h⟩
 | _,_,i+1,v, .cons h r,e=>by
  obtain⟨p,a,b⟩:=ma.get (i:=i) r (by simpa using e)
  exact⟨p,by simpa using a,b⟩
def aX:List Row×Row→Pt→List Row×Row
 | (pre,r), .keep n=> (pre,(r.1,r.2.1,r.2.2+n))
 | (pre,r), .put s=>if s="" then (pre,r) else if 0<r.2.2 then (pre++ [r],(Str.ofString ""++s,"",0)) else (pre,(r.1++s,r.2.1,r.2.2))
 | (pre,r), .cut s=>if s="" then (pre,r) else if 0<r.2.2 then (pre++ [r],("",Str.ofString ""++s,0)) else (pre,(r.1,r.2.1++s,r.2.2))
def dI(r:Row):List Pt:=txt .put r.1++txt .cut r.2.1++ (if r.2.2=0 then [] else [.keep r.2.2])
def cK(rows:List Row):List Pt:=(rows.map dI).flatten
def rL(ps:List Pt):List Row:=let s:=ps.foldl aX ([],("","",0));s.1++ [s.2]
def kg(ps:List Pt):List Pt:=cK (rL ps)
structure iU (H H2:Hp) (R:Addr) (rs:List V) (b:Addr) (pre:List Row) (r:Row):Prop where
 same:au H H2
 lst:H2 R=some (.lst (rs++ [.ref b]))
 fr:H R=none
 rows:ma H2 rs pre
 last:H2 b=some (.lst (ju r))
 fb:H b=none
 br: ∀v∈rs,∀x,v= .ref x→H x=none∧x≠b∧x≠R
 ne:b≠R
theorem uR(xs:List V)(v:V):dj (xs++ [v]) (-1)=some v:=G_ xs v
theorem iU.set{H H2:Hp}{R b:Addr}{rs:List V}{pre:List Row}{r r':Row}(S:iU H H2 R rs b pre r):iU H (upd H2 b (.lst (ju r'))) R rs b pre r' where
 same:=Kr S.same S.fb bf.upd
 lst:=by rw[aG S.ne.symm];exact S.lst
 fr:=S.fr
 rows:=S.rows.mono fun v hv x e o h=>by rw[aG (S.br v hv x e).2.1];exact h
 last:=aw
 fb:=S.fb
 br:=S.br
 ne:=S.ne
theorem iU.grow{H H2:Hp}{R b t:Addr}{rs:List V}{pre:List Row}{r r':Row}(S:iU H H2 R rs b pre r)(ht:H2 t=none):
  iU H (upd (upd H2 t (.lst (ju r'))) R (.lst (rs++ [.ref b]++ [.ref t]))) R (rs++ [.ref b]) t (pre++ [r]) r':=by
 have yx:t≠R:=fun z=>by rw[z,S.lst] at ht;cases ht
 have Zk:b≠t:=bD S.last ht
 have kk: ∀x o,H2 x=some o→x≠R→upd (upd H2 t (.lst (ju r'))) R (.lst (rs++ [.ref b]++ [.ref t])) x=some o:=fun x o e n=>by rw[aG n,aG (bD e ht)];exact e
 exact {
  same:=fun x o e=>kk x o (S.same x o e) (bD e S.fr)
  lst:=aw
  fr:=S.fr
  rows:=Paired.snoc (S.rows.mono fun v hv x e o h=>kk x o h (S.br v hv x e).2.2) ⟨b,rfl,kk b _ S.last S.ne⟩
  last:=by rw[aG yx,aw]
  fb:=S.same.free ht
  br:=fun v hv x e=>by
   rcases List.mem_append.mp hv with z | z
   ·obtain⟨h1,h2,h3⟩:=S.br v z x e
    refine⟨h1,fun q=> ?_,h3⟩
    obtain⟨i,hi⟩:=List.getElem?_of_mem z
    obtain⟨p,_,y,e',hy⟩:=S.rows.get hi
    rw[e] at e'
    cases e'
    rw[q,ht] at hy;cases hy
   ·rw[List.mem_singleton.mp z] at e
    cases e
    exact⟨S.fb,Zk,S.ne⟩
  ne:=yx}
abbrev Dn(Q:VK):Ends:={nx:=fun _ H'=>Q .aD H',rt:=Q}
def yy:Sp:=fun vs H Q E=> ∃a xs ps,vs=[.ref a]∧H a=some (.lst xs)∧bR H xs ps∧ps.length≤100000∧aU ps≤100000∧
 ∀b H' ys,au H H'→H b=none→H' b=some (.lst ys)→bR H' ys (kg ps)→Q (.ref b) H'
theorem yz{K:Frag}{H H2:Hp}{R b:Addr}{rs:List V}{pre:List Row}{r r':Row}{D:Ends}{a:Addr}{w s:Str}{x4 x5 x6 x7 x8:Option V}(S:iU H H2 R rs b pre r)(i:Nat)(hi:i<2)
  (hw:(if (w=="cut")=true then 1 else 0:Int)=(i:Int)) (o:Str) (ho:(ju r)[i]?=some (.str o)) (hr:(ju r).set i (.str (o++s))=ju r') (hs:o.length+s.length≤sizeLine)
  (k: ∀H3,iU H H3 R rs b pre r'→D.nx [some (.ref a),some (.ref R),some (.str w),some (.str s),x4,x5,x6,x7,x8] H3):
  bY (aM K [] [] (E:=E)) (.set (.ix (.v 1) (.neg (.c (.int 1)))) (.blt .int [(.cmp .Eq (.v 2) (.c (.str "cut")))]) (.bin .Add (.ix (.ix (.v 1) (.neg (.c (.int 1)))) (.blt .int [(.cmp .Eq (.v 2) (.c (.str "cut")))])) (.v 3))) D
   [some (.ref a),some (.ref R),some (.str w),some (.str s),x4,x5,x6,x7,x8] H2:=by
 have lb:aq K H2 b (ju r):=aq.of S.last
 have ei:(if (false ^^ decide (V.str w=V.str "cut"))=true then 1 else 0:Int)=(i:Int):=by rw[Bool.false_xor,jf];exact hw
 refine⟨_,rfl, .inl ⟨_,_,_,_,rfl,rfl,aq.of S.lst,uR _ _,_,rfl, ?_⟩⟩
 show m_ K (aM K [] [] (E:=E)).sd (.ref b) (.int (if (false ^^ decide (V.str w=V.str "cut"))=true then 1 else 0)) H2 _
 rw[ei]
 refine .inl ⟨b,_,_,_,rfl,rfl,lb,gB ho,_,rfl,hs,_,rfl, .inl ⟨_,_,_,_,rfl,rfl,aq.of S.lst,uR _ _,_,rfl, ?_⟩⟩
 show wN (.ref b) (.int (if (false ^^ decide (V.str w=V.str "cut"))=true then 1 else 0)) (.str (o++s)) H2 _
 rw[ei]
 refine⟨b,ju r,(i:Int),i,rfl,rfl,S.last, ?_, ?_⟩
 ·unfold g6
  rw[if_pos (by omega),if_pos (by show(i:Int) < ((3:Nat):Int);omega)]
  simp
 ·rw[hr]
  exact k _ S.set
theorem Zl{rows:List Row}{i:Nat}{r:Row}(h:rows[i]?=some r):cK (rows.take (i+1))=cK (rows.take i)++dI r:=by
 unfold cK
 rw[List.take_add_one,h]
 simp
theorem KA{K:Frag}{H H2:Hp}{R b:Addr}{rs:List V}{pre:List Row}{r:Row}{D:Ends}{a:Addr}{w s:Str}{x4 x5 x6 x7 x8:Option V}(S:iU H H2 R rs b pre r)(p:Pt)(hp:(p= .put s∧w="put")∨(p= .cut s∧w="cut"))
  (hs:s.length≤100000) (h1:r.1.length≤100000) (h2:r.2.1.length≤100000) (hn:rs.length≤100000)
  (k: ∀H3 nG b',iU H H3 R nG b' (aX (pre,r) p).1 (aX (pre,r) p).2→nG.length≤rs.length+1→D.nx [some (.ref a),some (.ref R),some (.str w),some (.str s),x4,x5,x6,x7,x8] H3):
  aB (aM K [] [] (E:=E)) [.ite (.cmp .NotEq (.v 3) (.c (.str ""))) [.ite (.cmp .Gt (.ix (.ix (.v 1) (.neg (.c (.int 1)))) (.c (.int 2))) (.c (.int 0))) [.drop (.bC .append (.v 1) [(.lst [(.c (.str "")),(.c (.str "")),(.c (.int 0))])])] [],
    .set (.ix (.v 1) (.neg (.c (.int 1)))) (.blt .int [(.cmp .Eq (.v 2) (.c (.str "cut")))]) (.bin .Add (.ix (.ix (.v 1) (.neg (.c (.int 1)))) (.blt .int [(.cmp .Eq (.v 2) (.c (.str "cut")))])) (.v 3))] []] D
   [some (.ref a),some (.ref R),some (.str w),some (.str s),x4,x5,x6,x7,x8] H2:=by
 refine⟨_,rfl,_,rfl, ?_⟩
 rw[Bool.true_xor,jf]
 refine ie (fun h=> ?_) (fun h=> ?_)
 ·have ne:s≠"":=by simpa using h
  refine⟨_,rfl, .inl ⟨_,_,_,_,rfl,rfl,aq.of S.lst,uR _ _, .inl ⟨_,_,_,_,rfl,rfl,aq.of S.last,rfl,trivial,_,rfl, ?_⟩⟩⟩
  have line: ∀n:Nat,n≤100000→n+s.length≤sizeLine:=fun n hn=>cM (by omega)
  have e0:(Str.ofString "").length=0:=rfl
  refine ie (fun h=> ?_) (fun h=> ?_)
  ·have hk:0<r.2.2:=of_decide_eq_true h
   refine⟨_,rfl, .inl ⟨rfl,_,aq.of S.lst⟩,(by show 3≤sizeLine;decide),fun t ht=> ?_⟩
   have yx:R≠t:=bD S.lst ht
   refine⟨_,(by rw[aG yx];exact S.lst),dD (by rw[List.length_append,List.length_singleton];omega), ?_⟩
   have S':=S.grow (r':=((Str.ofString "",Str.ofString "",0):Row)) ht
   rcases hp with⟨rfl,rfl⟩ | ⟨rfl,rfl⟩
   ·have es:aX (pre,r) (.put s)=(pre++ [r],((Str.ofString ""++s,Str.ofString "",0):Row)):=by show(if s="" then _ else if 0<r.2.2 then _ else _)=_;rw[if_neg ne,if_pos hk]
    rw[es] at k
    exact yz S' 0 (by omega) rfl "" rfl rfl (line _ (by rw[e0];omega)) fun H3 S3=>k H3 _ t S3 (by simp)
   ·have es:aX (pre,r) (.cut s)=(pre++ [r],((Str.ofString "",Str.ofString ""++s,0):Row)):=by show(if s="" then _ else if 0<r.2.2 then _ else _)=_;rw[if_neg ne,if_pos hk]
    rw[es] at k
    exact yz S' 1 (by omega) rfl "" rfl rfl (line _ (by rw[e0];omega)) fun H3 S3=>k H3 _ t S3 (by simp)
  ·have hk: ¬0<r.2.2:=fun z=>h (decide_eq_true z)
   rcases hp with⟨rfl,rfl⟩ | ⟨rfl,rfl⟩
   ·have es:aX (pre,r) (.put s)=(pre,(r.1++s,r.2.1,r.2.2)):=by show(if s="" then _ else if 0<r.2.2 then _ else _)=_;rw[if_neg ne,if_neg hk]
    rw[es] at k
    exact yz S 0 (by omega) rfl r.1 rfl rfl (line _ h1) fun H3 S3=>k H3 _ b S3 (by omega)
   ·have es:aX (pre,r) (.cut s)=(pre,(r.1,r.2.1++s,r.2.2)):=by show(if s="" then _ else if 0<r.2.2 then _ else _)=_;rw[if_neg ne,if_neg hk]
    rw[es] at k
    exact yz S 1 (by omega) rfl r.2.1 rfl rfl (line _ h2) fun H3 S3=>k H3 _ b S3 (by omega)
 ·have e:s="":=by simpa using h
  have es:aX (pre,r) p=(pre,r):=by
   rcases hp with⟨rfl,rfl⟩ | ⟨rfl,rfl⟩
   ·show(if s="" then _ else _)=_;rw[if_pos e]
   ·show(if s="" then _ else _)=_;rw[if_pos e]
  rw[es] at k
  exact k H2 rs b S (by omega)
theorem jv(x y:Str):(x++y).length=x.length+y.length:=by rw[len_list,app_list,List.length_append,←len_list,←len_list]
theorem Zm(pre:List Row)(r:Row)(p:Pt)(n:Nat)(h1:r.1.length≤n)(h2:r.2.1.length≤n):(aX (pre,r) p).2.1.length≤n+dU p∧(aX (pre,r) p).2.2.1.length≤n+dU p:=by
 have e0:(Str.ofString "").length=0:=rfl
 cases p with
 | keep m=>exact⟨by show r.1.length≤n+0;omega,by show r.2.1.length≤n+0;omega⟩
 | put s=>
  show(if s="" then (pre,r) else if 0<r.2.2 then (pre++ [r],((Str.ofString ""++s,Str.ofString "",0):Row)) else (pre,(r.1++s,r.2.1,r.2.2))).2.1.length≤n+s.length∧
   (if s="" then (pre,r) else if 0<r.2.2 then (pre++ [r],((Str.ofString ""++s,Str.ofString "",0):Row)) else (pre,(r.1++s,r.2.1,r.2.2))).2.2.1.length≤n+s.length
  split
  ·exact⟨by show r.1.length≤_;omega,by show r.2.1.length≤_;omega⟩
  ·split
   ·exact⟨by show(Str.ofString ""++s).length≤_;rw[jv,e0];omega,by show(Str.ofString "").length≤_;rw[e0];omega⟩
   ·exact⟨by show(r.1++s).length≤_;rw[jv];omega,by show r.2.1.length≤_;omega⟩
 | cut s=>
  show(if s="" then (pre,r) else if 0<r.2.2 then (pre++ [r],((Str.ofString "",Str.ofString ""++s,0):Row)) else (pre,(r.1,r.2.1++s,r.2.2))).2.1.length≤n+s.length∧
   (if s="" then (pre,r) else if 0<r.2.2 then (pre++ [r],((Str.ofString "",Str.ofString ""++s,0):Row)) else (pre,(r.1,r.2.1++s,r.2.2))).2.2.1.length≤n+s.length
  split
  ·exact⟨by show r.1.length≤_;omega,by show r.2.1.length≤_;omega⟩
  ·split
   ·exact⟨by show(Str.ofString "").length≤_;rw[e0];omega,by show(Str.ofString ""++s).length≤_;rw[jv,e0];omega⟩
   ·exact⟨by show r.1.length≤_;omega,by show(r.2.1++s).length≤_;rw[jv];omega⟩
theorem KC{Γ:aO}{op:CmpOp}{x v:V}{σ:St}{H:Hp}{Q:VK}(h:cz Γ.K op x v H Q):ah Γ (.c v) σ H fun y H2=>cz Γ.K op x y H2 Q:=h
theorem KD{K:Frag}{x y:V}{H:Hp}{Q:VK}(hs:jP x y=true)(q:Q (.bl (true ^^ decide (x=y))) H):cz K .NotEq x y H Q:=by
 show lB true x y H Q
 unfold lB
 rw[hs];exact q
theorem Zn{K:Frag}{H1:Hp}{l t1 t2 t3:Addr}{r:Row}{σ:St}{Q1:VK}(hl:H1 l=some (.lst [.ref t1, .ref t2, .ref t3]))(h1:H1 t1=some (.tup [.str "put", .str r.1]))(h2:H1 t2=some (.tup [.str "cut", .str r.2.1]))(h3:H1 t3=some (.tup [.str "keep", .int r.2.2]))
  (hσ:σ[8]?=some (some (.ref l))) (k: ∀p ys,H1 p=none→bR H1 ys (dI r)→ys.length≤3→Q1 (.ref p) (upd H1 p (.lst ys))):
  ah (aM K [] [] (E:=E)) (.comp none [] .list [(.v 8)] (some (.and [(.cmp .NotEq (.ix (.v 0) (.c (.int 1))) (.c (.str ""))),(.cmp .NotEq (.ix (.v 0) (.c (.int 1))) (.c (.int 0)))])) (.v 0)) σ H1 Q1:=by
 have fW:aq K H1 l [.ref t1, .ref t2, .ref t3]:=aq.of hl
 let pd:Nat→List Pt:=fun i=>match i with | 0=> [] | 1=>txt .put r.1 | 2=>txt .put r.1++txt .cut r.2.1 | _=>dI r
 refine⟨_,hσ,l,rfl,⟨_,fW⟩,fun i m ys H2=>m=3 - i∧i≤3∧H2=H1∧bR H1 ys (pd i)∧ys.length≤i,⟨_,rfl,Nat.zero_le _,rfl, .nil,Nat.le_refl _⟩, ?_⟩
 rintro i m ys H2 ⟨rfl,hi,rfl,eB,yA⟩
 have small:ys.length<sizeLine:=dD (by omega)
 have go: ∀(t:Addr) (p:Pt) (j:Nat),H2 t=some (.tup [.str p.word,p.val])→i=j→j<3→(pd (j+1)=pd j++ [p]∧p.val≠ .str ""∧p.val≠ .int 0∨pd (j+1)=pd j∧(p.val= .str ""∨p.val= .int 0))→
   (∃s,p.val= .str s)∨(∃n,p.val= .int n)→
   jV (tW (aM K [] [] (E:=E)).calm (some (.and [(.cmp .NotEq (.ix (.v 0) (.c (.int 1))) (.c (.str ""))),(.cmp .NotEq (.ix (.v 0) (.c (.int 1))) (.c (.int 0)))]))) ([V.ref t].map some++cf σ []) H2 fun b H5=>
    if b=true then ah (aM K [] [] (E:=E)).calm (.v 0) ([V.ref t].map some++cf σ []) H5 fun y H6=>ys.length<sizeLine∧ ∃m',m'<3 - i∧m'=3 - (i+1)∧i+1≤3∧H6=H2∧bR H2 (ys++ [y]) (pd (i+1))∧(ys++ [y]).length≤i+1
    else ∃m',m'<3 - i∧m'=3 - (i+1)∧i+1≤3∧H5=H2∧bR H2 ys (pd (i+1))∧ys.length≤i+1:=by
  intro t p j ht ej hj hc hv
  subst ej
  have Zo:jP p.val (.str "")=true:=by rcases hv with⟨s,e⟩ | ⟨n,e⟩ <;>rw[e] <;>rfl
  have Zp:jP p.val (.int 0)=true:=by rcases hv with⟨s,e⟩ | ⟨n,e⟩ <;>rw[e] <;>rfl
  refine⟨_,rfl, .inr (.inl ⟨_,_,_,_,rfl,rfl,aL.of ht,rfl,KC (KD Zo ⟨_,rfl, ?_⟩)⟩)⟩
  by_cases q1:p.val= .str ""
  ·rw[decide_eq_true q1]
   rcases hc with⟨_,z,_⟩ | ⟨e,_⟩
   ·exact absurd q1 z
   ·exact⟨3 - (i+1),by omega,rfl,by omega,rfl,by rw[e];exact eB,by omega⟩
  ·rw[decide_eq_false q1]
   refine⟨_,rfl, .inr (.inl ⟨_,_,_,_,rfl,rfl,aL.of ht,rfl,KC (KD Zp ⟨_,rfl, ?_⟩)⟩)⟩
   by_cases q2:p.val= .int 0
   ·rw[decide_eq_true q2]
    rcases hc with⟨_,_,z⟩ | ⟨e,_⟩
    ·exact absurd q2 z
    ·exact⟨3 - (i+1),by omega,rfl,by omega,rfl,by rw[e];exact eB,by omega⟩
   ·rw[decide_eq_false q2]
    rcases hc with⟨e,_,_⟩ | ⟨_,z⟩
    ·refine⟨_,rfl,small,3 - (i+1),by omega,rfl,by omega,rfl, ?_,by simp;omega⟩
     rw[e]
     exact bR.snoc eB ⟨t,rfl,ht⟩
    ·rcases z with z | z
     ·exact absurd z q1
     ·exact absurd z q2
 have tx: ∀(mk:Str→Pt) (x:Str) (l:List Pt),(mk x).val= .str x→(l++txt mk x=l++ [mk x]∧(mk x).val≠ .str ""∧(mk x).val≠ .int 0∨l++txt mk x=l∧((mk x).val= .str ""∨(mk x).val= .int 0)):=by
  intro mk x l hv
  unfold txt
  by_cases e:x=""
  ·rw[if_pos e];exact .inr ⟨by simp, .inl (by rw[hv,e])⟩
  ·rw[if_neg e];exact .inl ⟨rfl,by rw[hv];exact fun z=>e (by injection z),by rw[hv];exact fun z=>by cases z⟩
 by_cases aQ:i<3
 ·refine .inr ⟨⟨_,[V.ref t1,V.ref t2,V.ref t3][i],fW,by simp[aQ]⟩, ?_⟩
  rintro x H3 ⟨rfl,hx⟩
  have dr:=hx _ fW
  have:i=0∨i=1∨i=2:=by omega
  rcases this with rfl | rfl | rfl
  ·have ex:x= .ref t1:=by simpa using dr.symm
   subst ex
   exact go t1 (.put r.1) 0 h1 rfl (by omega) (tx .put r.1 [] rfl) (.inl ⟨_,rfl⟩)
  ·have ex:x= .ref t2:=by simpa using dr.symm
   subst ex
   exact go t2 (.cut r.2.1) 1 h2 rfl (by omega) (tx .cut r.2.1 _ rfl) (.inl ⟨_,rfl⟩)
  ·have ex:x= .ref t3:=by simpa using dr.symm
   subst ex
   refine go t3 (.keep r.2.2) 2 h3 rfl (by omega) ?_ (.inr ⟨_,rfl⟩)
   by_cases e:r.2.2=0
   ·refine .inr ⟨?_, .inr (by show V.int r.2.2=_;rw[e])⟩
    show dI r=txt .put r.1++txt .cut r.2.1
    unfold dI
    rw[if_pos e,List.append_nil]
   ·refine .inl ⟨?_, ?_, ?_⟩
    ·show dI r=txt .put r.1++txt .cut r.2.1++ [.keep r.2.2]
     unfold dI
     rw[if_neg e]
    ·intro z
     have z':V.int r.2.2=V.str "":=z
     cases z'
    ·intro z
     have z':V.int r.2.2=V.int 0:=z
     injection z' with z'
     exact e z'
 ·have eM:i=3:=by omega
  subst eM
  refine .inl ⟨⟨_,fW,by simp⟩,fun p hp=> ?_⟩
  exact k p ys hp eB yA
theorem Zq{K:Frag}(vs:List V)(H:Hp)(Q:VK)(E:XK)(h:yy vs H Q E):aB (aM K [] [] (E:=E)) B_ {nx:=fun _ H'=>Q .aD H',rt:=Q} (start x9 vs) H:=by
 obtain⟨a,xs,ps,rfl,ha,dE,hl,ht,k⟩:=h
 have hlen:=Paired.length dE
 refine⟨(by show 3≤sizeLine;decide),fun b0 C_=> ⟨(by show 1≤sizeLine;decide),fun R hR=> ?_⟩⟩
 have KG:b0≠R:=fun z=>by rw[←z,aw] at hR;cases hR
 have fR:H R=none:=(sameNew C_).free hR
 have S0:iU H (upd (upd H b0 (.lst [.str "", .str "", .int 0])) R (.lst [.ref b0])) R [] b0 [] ((Str.ofString "",Str.ofString "",0):Row):=
  {same:=(sameNew C_).trans (sameNew hR),lst:=aw,fr:=fR,rows:= .nil,last:=(by rw[aG KG,aw];rfl),fb:=C_,br:=(fun v hv=>by cases hv),ne:=KG}
 refine⟨_,rfl,a,rfl,⟨_,aq.of (S0.same _ _ ha)⟩,jO (K:=K) (a:=a) (xs:=xs) (fun i σ H2=> ∃u v rs b pre r,σ=[some (.ref a),some (.ref R),u,v,none,none,none,none,none]∧iU H H2 R rs b pre r∧
   (ps.take i).foldl aX ([],((Str.ofString "",Str.ofString "",0):Row))=(pre,r)∧rs.length≤i∧r.1.length≤aU (ps.take i)∧r.2.1.length≤aU (ps.take i))
  ⟨none,none,[],b0,[],_,rfl,S0,rfl,Nat.le_refl _,Nat.zero_le _,Nat.zero_le _⟩ (fun i σ H2 _ ⟨_,_,_,_,_,_,_,S,_⟩=>aq.of (S.same _ _ ha)) ?_ ?_⟩
 ·rintro i x σ H2 hi ⟨u,v,rs,b,pre,r,rfl,S,ef,l1,l2,l3⟩
  obtain⟨pt,iV,lZ⟩:=dE.get hi
  obtain⟨t,rfl,hb⟩:=lZ.mono (cJ S.same)
  have bV:i<ps.length:=(List.getElem?_eq_some_iff.mp iV).1
  have Dc:(ps.take (i+1)).foldl aX ([],((Str.ofString "",Str.ofString "",0):Row))=aX (pre,r) pt:=by rw[Zb iV,ef]
  have et:=Ku iV
  have tb:=C8 ps i
  have tb1:=C8 ps (i+1)
  have sl:=Zm pre r pt _ l2 l3
  refine⟨t,_,rfl, .inl (aL.of hb),rfl,_,_,rfl,_,_,rfl,rfl, ?_⟩
  refine⟨_,rfl,_,rfl, ?_⟩
  cases pt with
  | keep n=>
   refine⟨_,rfl, .inl ⟨_,_,_,_,rfl,rfl,aq.of S.lst,uR _ _, .inl ⟨_,_,_,_,rfl,rfl,aq.of S.last,rfl,_,rfl,_,rfl, .inl ⟨_,_,_,_,rfl,rfl,aq.of S.lst,uR _ _,b,ju r,2,2,rfl,rfl,S.last,rfl, ?_⟩⟩⟩⟩
   refine⟨_,_,rs,b,pre,(r.1,r.2.1,r.2.2+n),rfl,S.set (r':=(r.1,r.2.1,r.2.2+n)),Dc,by omega, ?_, ?_⟩
   ·show r.1.length≤_;omega
   ·show r.2.1.length≤_;omega
  | put s=>
   refine KA S (.put s) (.inl ⟨rfl,rfl⟩) ?_ (by omega) (by omega) (by omega) fun H3 nG b' S' yB=> ⟨_,_,nG,b',_,_,rfl,S',Dc,by omega,by omega,by omega⟩
   have:dU (.put s)=s.length:=rfl
   omega
  | cut s=>
   refine KA S (.cut s) (.inr ⟨rfl,rfl⟩) ?_ (by omega) (by omega) (by omega) fun H3 nG b' S' yB=> ⟨_,_,nG,b',_,_,rfl,S',Dc,by omega,by omega,by omega⟩
   have:dU (.cut s)=s.length:=rfl
   omega
 ·rintro σ Hm ⟨u,v,rs,b,pre,r,rfl,S,ef,l1,l2,l3⟩
  have e:ps.take xs.length=ps:=List.take_of_length_le (by omega)
  rw[e] at ef
  have Zr:rL ps=pre++ [r]:=by
   show(ps.foldl aX ([],((Str.ofString "",Str.ofString "",0):Row))).1++ [(ps.foldl aX ([],((Str.ofString "",Str.ofString "",0):Row))).2]=_
   rw[ef]
  have KH:ma Hm (rs++ [.ref b]) (rL ps):=by rw[Zr];exact Paired.snoc S.rows ⟨b,rfl,S.last⟩
  have Zs:=Paired.length KH
  refine⟨Nat.zero_le _,fun f0 Dd=> ?_⟩
  refine⟨_,rfl,R,rfl,⟨_,aq.of (sameNew Dd _ _ S.lst)⟩,jO (K:=K) (a:=R) (xs:=rs++ [.ref b]) (fun i σ H2=> ∃f ys p5 p6 p7 p8,σ=[some (.ref a),some (.ref R),u,v,some (.ref f),p5,p6,p7,p8]∧au Hm H2∧H f=none∧H2 f=some (.lst ys)∧bR H2 ys (cK ((rL ps).take i))∧ys.length≤3*i)
   ⟨f0,[],none,none,none,none,rfl,sameNew Dd,S.same.free Dd,aw, .nil,Nat.le_refl _⟩ (fun i σ H2 _ ⟨_,_,_,_,_,_,_,s2,_⟩=>aq.of (s2 _ _ S.lst)) ?_ ?_⟩
  ·rintro i x σ H2 hi ⟨f,ys,p5,p6,p7,p8,rfl,s2,ff,De,eB,yA⟩
   obtain⟨row,jw,w,rfl,hw⟩:=KH.get hi
   have Zt:=s2 _ _ hw
   have bV:i< (rs++ [V.ref b]).length:=(List.getElem?_eq_some_iff.mp hi).1
   have hrs:rs.length≤100000:=by omega
   have uS:i≤100000:=by simp only[List.length_append,List.length_singleton] at bV;omega
   refine⟨w,_,rfl, .inr (aq.of Zt),rfl,_,_,rfl,_,_,rfl,_,_,rfl,rfl, ?_⟩
   refine⟨_,rfl,(by show 2≤sizeLine;decide),fun t1 me=> ⟨_,rfl,(by show 2≤sizeLine;decide),fun t2 gL=> ⟨_,rfl,(by show 2≤sizeLine;decide),fun t3 fI=> ⟨(by show 3≤sizeLine;decide),fun l fW=> ?_⟩⟩⟩⟩
   have c1:t1≠t2:=fun z=>by rw[←z,aw] at gL;cases gL
   have yC:t1≠t3:=fun z=>by rw[←z,aG c1,aw] at fI;cases fI
   have yD:t2≠t3:=fun z=>by rw[←z,aw] at fI;cases fI
   have Zu:t1≠l:=fun z=>by rw[←z,aG yC,aG c1,aw] at fW;cases fW
   have Zv:t2≠l:=fun z=>by rw[←z,aG yD,aw] at fW;cases fW
   have Zw:t3≠l:=fun z=>by rw[←z,aw] at fW;cases fW
   have s3:=((sameNew (o:= .tup [.str "put", .str row.1]) me).trans (sameNew (o:= .tup [.str "cut", .str row.2.1]) gL)).trans ((sameNew (o:= .tup [.str "keep", .int row.2.2]) fI).trans (sameNew (o:= .lst [.ref t1, .ref t2, .ref t3]) fW))
   refine⟨_,rfl,Zn (r:=row) (l:=l) (t1:=t1) (t2:=t2) (t3:=t3) aw (by rw[aG Zu,aG yC,aG c1,aw]) (by rw[aG Zv,aG yD,aw]) (by rw[aG Zw,aw]) rfl fun p zs hp KI KJ=> ?_⟩
   generalize tI:upd (upd (upd (upd H2 t1 (.tup [.str "put", .str row.1])) t2 (.tup [.str "cut", .str row.2.1])) t3 (.tup [.str "keep", .int row.2.2])) l (.lst [.ref t1, .ref t2, .ref t3])=H3 at s3 hp KI
   have KL:=s3 _ _ De
   have Zx:upd H3 p (.lst zs) f=some (.lst ys):=by rw[aG (bD KL hp)];exact KL
   refine .inl ⟨f,p,ys,zs,rfl,rfl,Zx,aw,cM (by omega),fun q hq=> ?_⟩
   have s5:au Hm (upd (upd H3 p (.lst zs)) q (.lst (ys++zs))):=s2.trans (s3.trans ((sameNew hp).trans (sameNew hq)))
   have t5:lX H3 (upd (upd H3 p (.lst zs)) q (.lst (ys++zs))):=cJ ((sameNew hp).trans (sameNew hq))
   refine⟨q,ys++zs,_,_,_,_,rfl,s5,S.same.free ((s2.trans (s3.trans (sameNew hp))).free hq),aw, ?_,by rw[List.length_append];omega⟩
   rw[Zl jw]
   have app: ∀{vs:List V} {as:List Pt} {ws:List V} {bs:List Pt} {G:Hp},bR G vs as→bR G ws bs→bR G (vs++ws) (as++bs):=fun {vs as ws bs G} h1 h2=>by
    induction h1 with
    | nil=>exact h2
    | cons a _ ih=>exact .cons a ih
   exact app ((eB.mono (cJ s3)).mono t5) (KI.mono t5)
  ·rintro σ H2 ⟨f,ys,p5,p6,p7,p8,rfl,s2,ff,De,eB,yA⟩
   have e2:(rL ps).take (rs++ [V.ref b]).length=rL ps:=List.take_of_length_le (by omega)
   rw[e2] at eB
   exact⟨_,rfl,k f H2 ys (S.same.trans s2) ff De eB⟩
theorem yE(a b:List Row):cK (a++b)=cK a++cK b:=by simp[cK]
theorem uT(r:Row):cK [r]=dI r:=by simp[cK]
theorem Df{r:Row}(h:0<r.2.2):dI r=txt .put r.1++txt .cut r.2.1++ [.keep r.2.2]:=by
 unfold dI
 rw[if_neg (by omega)]
theorem KN{r:Row}(h:r.2.2=0):dI r=txt .put r.1++txt .cut r.2.1:=by
 unfold dI
 rw[if_pos h,List.append_nil]
def KO:Pt→Bool | .keep _=>true | _=>false
theorem Zy{ch:List Pt}{n:Int}(h: ∀p,ch.getLast?=some p→KO p=false):jt ch n=ch++ [.keep n]:=by
 unfold jt
 split
 ·rename_i m e
  have:=h _ e
  cases this
 ·rfl
theorem Zz(ch:List Pt)(m n:Int):jt (ch++ [.keep m]) n=ch++ [.keep (n+m)]:=by
 unfold jt
 rw[List.getLast?_append]
 simp
theorem txt_nil(mk:Str→Pt):txt mk ""=[]:=if_pos rfl
theorem jx{mk:Str→Pt}{x:Str}(h:x≠""):txt mk x=[mk x]:=if_neg h
theorem ZA{pre:List Row}{r:Row}(h:pre≠ []→r.1≠""∨r.2.1≠""): ∀p,(cK pre++txt .put r.1++txt .cut r.2.1).getLast?=some p→KO p=false:=by
 intro p hp
 by_cases h2:r.2.1=""
 ·rw[h2,txt_nil,List.append_nil] at hp
  by_cases h1:r.1=""
  ·rw[h1,txt_nil,List.append_nil] at hp
   by_cases k_:pre=[]
   ·rw[k_] at hp
    simp[cK] at hp
   ·rcases h k_ with z | z
    ·exact absurd h1 z
    ·exact absurd h2 z
  ·rw[jx h1,List.getLast?_append] at hp
   simp at hp;subst hp;rfl
 ·rw[jx h2,List.getLast?_append] at hp
  simp at hp;subst hp;rfl
def Rel(s:NS)(t:List Row×Row):Prop:=
 (∀x∈t.1,0<x.2.2)∧(t.1≠ []→t.2.1≠""∨t.2.2.1≠"")∧0≤t.2.2.2∧
  ((t.2.2.2=0∧s.1=cK t.1∧cat s.2.1=t.2.1∧cat s.2.2=t.2.2.1)∨(0<t.2.2.2∧s.1=cK (t.1++ [t.2])∧cat s.2.1=""∧cat s.2.2=""))
theorem rM(a:List Str)(s:Str):cat (a++ [s])=cat a++s:=by rw[Y8,Y9]
theorem ZC{s:NS}{t:List Row×Row}{p:Pt}(R:Rel s t)(hp:gO p):Rel (gN s p) (aX t p):=by
 obtain⟨ch,pu,cu⟩:=s
 obtain⟨pre,r⟩:=t
 obtain⟨r1,r2,r3,r4⟩:=R
 simp only at r1 r2 r3 r4
 cases p with
 | keep n=>
  have Zi:0≤n:=hp
  by_cases hn:0<n
  ·have e1:gN (ch,pu,cu) (.keep n)=(jt (gg ch pu cu) n,[],[]):=if_pos hn
   rw[e1]
   refine⟨r1,r2,by show 0≤r.2.2+n;omega, .inr ⟨by show 0<r.2.2+n;omega, ?_,rfl,rfl⟩⟩
   show jt (gg ch pu cu) n=cK (pre++ [(r.1,r.2.1,r.2.2+n)])
   rw[yE,uT,Df (r:=(r.1,r.2.1,r.2.2+n)) (by show 0<r.2.2+n;omega)]
   rcases r4 with⟨k0,e2,e3,e4⟩ | ⟨k0,e2,e3,e4⟩
   ·have ea:gg ch pu cu=cK pre++txt .put r.1++txt .cut r.2.1:=by unfold gg;rw[e2,e3,e4]
    rw[ea,Zy (ZA r2)]
    show _=cK pre++ (txt .put r.1++txt .cut r.2.1++ [.keep (r.2.2+n)])
    rw[k0,Int.zero_add];simp
   ·have ea:gg ch pu cu=cK pre++ (txt .put r.1++txt .cut r.2.1)++ [.keep r.2.2]:=by
     unfold gg
     rw[e2,e3,e4,txt_nil,txt_nil,List.append_nil,List.append_nil,yE,uT,Df k0];simp
    rw[ea,Zz]
    show _=cK pre++ (txt .put r.1++txt .cut r.2.1++ [.keep (r.2.2+n)])
    rw[Int.add_comm n];simp
  ·have e0:n=0:=by omega
   have e1:gN (ch,pu,cu) (.keep n)=(ch,pu,cu):=if_neg hn
   have e2:aX (pre,r) (.keep n)=(pre,r):=by show(pre,(r.1,r.2.1,r.2.2+n))=_;rw[e0,Int.add_zero]
   rw[e1,e2]
   exact⟨r1,r2,r3,r4⟩
 | put x=>
  show Rel (ch,pu++ [x],cu) (aX (pre,r) (.put x))
  by_cases hx:x=""
  ·have e2:aX (pre,r) (.put x)=(pre,r):=if_pos hx
   rw[e2]
   refine⟨r1,r2,r3, ?_⟩
   have e:cat (pu++ [x])=cat pu:=by rw[rM,hx];exact Ks _
   show _∨_
   simp only[e]
   exact r4
  ·by_cases hk:0<r.2.2
   ·have e2:aX (pre,r) (.put x)=(pre++ [r],((Str.ofString ""++x,Str.ofString "",0):Row)):=by show(if x="" then _ else if 0<r.2.2 then _ else _)=_;rw[if_neg hx,if_pos hk]
    rw[e2]
    rcases r4 with⟨k0,_⟩ | ⟨_,e5,e3,e4⟩
    ·omega
    ·refine⟨fun y hy=> ?_,fun _=> .inl (by rw[rJ];exact hx),Int.le_refl _, .inl ⟨rfl,e5, ?_,e4⟩⟩
     ·rcases List.mem_append.mp hy with z | z
      ·exact r1 y z
      ·rw[List.mem_singleton.mp z];exact hk
     ·show cat (pu++ [x])=_
      rw[rM,e3]
   ·have e2:aX (pre,r) (.put x)=(pre,(r.1++x,r.2.1,r.2.2)):=by show(if x="" then _ else if 0<r.2.2 then _ else _)=_;rw[if_neg hx,if_neg hk]
    rw[e2]
    rcases r4 with⟨k0,e5,e3,e4⟩ | ⟨k0,_⟩
    ·refine⟨r1,fun _=> .inl ?_,r3, .inl ⟨k0,e5, ?_,e4⟩⟩
     ·intro z
      have:=congrArg Str.length z
      rw[jv] at this
      have l0:(Str.ofString "").length=0:=rfl
      rw[l0] at this
      have nH:x.length=0:=by omega
      exact hx (l_ (by rw[len_list] at nH;rw[List.length_eq_zero_iff.mp nH];rfl))
     ·show cat (pu++ [x])=_
      rw[rM,e3]
    ·omega
 | cut x=>
  show Rel (ch,pu,cu++ [x]) (aX (pre,r) (.cut x))
  by_cases hx:x=""
  ·have e2:aX (pre,r) (.cut x)=(pre,r):=if_pos hx
   rw[e2]
   refine⟨r1,r2,r3, ?_⟩
   have e:cat (cu++ [x])=cat cu:=by rw[rM,hx];exact Ks _
   show _∨_
   simp only[e]
   exact r4
  ·by_cases hk:0<r.2.2
   ·have e2:aX (pre,r) (.cut x)=(pre++ [r],((Str.ofString "",Str.ofString ""++x,0):Row)):=by show(if x="" then _ else if 0<r.2.2 then _ else _)=_;rw[if_neg hx,if_pos hk]
    rw[e2]
    rcases r4 with⟨k0,_⟩ | ⟨_,e5,e3,e4⟩
    ·omega
    ·refine⟨fun y hy=> ?_,fun _=> .inr (by rw[rJ];exact hx),Int.le_refl _, .inl ⟨rfl,e5,e3, ?_⟩⟩
     ·rcases List.mem_append.mp hy with z | z
      ·exact r1 y z
      ·rw[List.mem_singleton.mp z];exact hk
     ·show cat (cu++ [x])=_
      rw[rM,e4]
   ·have e2:aX (pre,r) (.cut x)=(pre,(r.1,r.2.1++x,r.2.2)):=by show(if x="" then _ else if 0<r.2.2 then _ else _)=_;rw[if_neg hx,if_neg hk]
    rw[e2]
    rcases r4 with⟨k0,e5,e3,e4⟩ | ⟨k0,_⟩
    ·refine⟨r1,fun _=> .inr ?_,r3, .inl ⟨k0,e5,e3, ?_⟩⟩
     ·intro z
      have:=congrArg Str.length z
      rw[jv] at this
      have l0:(Str.ofString "").length=0:=rfl
      rw[l0] at this
      have nH:x.length=0:=by omega
      exact hx (l_ (by rw[len_list] at nH;rw[List.length_eq_zero_iff.mp nH];rfl))
     ·show cat (cu++ [x])=_
      rw[rM,e4]
    ·omega
theorem KP: ∀(ps:List Pt) (s:NS) (t:List Row×Row),Rel s t→(∀p∈ps,gO p)→Rel (ps.foldl gN s) (ps.foldl aX t)
 | [],s,t,R,_=>R
 | p::r,s,t,R,h=>KP r _ _ (ZC R (h p List.mem_cons_self)) fun q hq=>h q (List.mem_cons_of_mem _ hq)
theorem ZD(ps:List Pt)(h: ∀p∈ps,gO p):Rel (ps.foldl gN ([],[],[])) (ps.foldl aX ([],((Str.ofString "",Str.ofString "",0):Row))):=
 KP ps _ _ ⟨(fun x hx=>by cases hx),fun z=>absurd rfl z,Int.le_refl _, .inl ⟨rfl,rfl,rfl,rfl⟩⟩ h
theorem ZE(ps:List Pt)(h: ∀p∈ps,gO p):Kt ps=kg ps:=by
 obtain⟨r1,r2,r3,r4⟩:=ZD ps h
 show gg _ _ _=cK (_++ [_])
 generalize ps.foldl gN ([],[],[])=s at r4⊢
 generalize ps.foldl aX ([],((Str.ofString "",Str.ofString "",0):Row))=t at r1 r2 r3 r4⊢
 unfold gg
 rcases r4 with⟨k0,e5,e3,e4⟩ | ⟨k0,e5,e3,e4⟩
 ·rw[e5,e3,e4,yE,uT,KN k0];simp
 ·rw[e5,e3,e4,txt_nil,txt_nil];simp
def sg(x:Str):Prop:= ∀c∈x.cps.toList,SG.cps.contains c=true
theorem yF{x y:Str}(a:sg x)(b:sg y):sg (x++y):=fun c hc=>by
 rw[app_list] at hc
 rcases List.mem_append.mp hc with z | z
 ·exact a c z
 ·exact b c z
theorem nJ:sg (Str.ofString ""):=fun c hc=>by cases hc
def jy(r:Row):Nat:=r.1.length+r.2.1.length
structure RI (n:Nat) (t:List Row×Row):Prop where
 pos: ∀x∈t.1,0<x.2.2
 nn:0≤t.2.2.2
 s1: ∀x∈t.1++ [t.2],sg x.1∧sg x.2.1
 tl: ∀x∈ (t.1++ [t.2]).tail,x.1≠""∨x.2.1≠""
 aU:((t.1++ [t.2]).map jy).sum=n
theorem KQ{x y:Str}(h:x≠""):x++y≠"":=fun z=>by
 have:=congrArg Str.length z
 rw[jv] at this
 have l0:(Str.ofString "").length=0:=rfl
 rw[l0] at this
 have nH:x.length=0:=by omega
 exact h (l_ (by rw[len_list] at nH;rw[List.length_eq_zero_iff.mp nH];rfl))
theorem KR{α:Type}(l:List α)(a:α):(l++ [a]).tail=if l=[] then [] else l.tail++ [a]:=by
 cases l with
 | nil=>rfl
 | cons b r=>simp
theorem Dg{n m:Nat}{pre:List Row}{r r':Row}(I:RI n (pre,r))(h0:0≤r'.2.2)(h1:sg r'.1∧sg r'.2.1)(h2:(r.1≠""→r'.1≠"")∧(r.2.1≠""→r'.2.1≠""))(h3:jy r'=jy r+m):RI (n+m) (pre,r'):=by
 refine⟨I.pos,h0,fun x hx=> ?_,fun x hx=> ?_, ?_⟩
 ·rcases List.mem_append.mp hx with z | z
  ·exact I.s1 x (List.mem_append_left _ z)
  ·rw[List.mem_singleton.mp z];exact h1
 ·have t1:=I.tl
  simp only at t1 hx
  rw[KR] at hx t1
  by_cases hp:pre=[]
  ·rw[if_pos hp] at hx;cases hx
  ·rw[if_neg hp] at hx t1
   rcases List.mem_append.mp hx with z | z
   ·exact t1 x (List.mem_append_left _ z)
   ·rw[List.mem_singleton.mp z]
    rcases t1 r (by simp) with q | q
    ·exact .inl (h2.1 q)
    ·exact .inr (h2.2 q)
 ·have:=I.aU
  simp only[List.map_append,List.sum_append,List.map_cons,List.map_nil,List.sum_cons,List.sum_nil] at this⊢
  omega
theorem KS{n m:Nat}{pre:List Row}{r r':Row}(I:RI n (pre,r))(hk:0<r.2.2)(h0:0≤r'.2.2)(h1:sg r'.1∧sg r'.2.1)(h2:r'.1≠""∨r'.2.1≠"")(h3:jy r'=m):RI (n+m) (pre++ [r],r'):=by
 refine⟨fun x hx=> ?_,h0,fun x hx=> ?_,fun x hx=> ?_, ?_⟩
 ·rcases List.mem_append.mp hx with z | z
  ·exact I.pos x z
  ·rw[List.mem_singleton.mp z];exact hk
 ·rcases List.mem_append.mp hx with z | z
  ·exact I.s1 x z
  ·rw[List.mem_singleton.mp z];exact h1
 ·have t1:=I.tl
  simp only at t1 hx
  rw[KR,if_neg (by simp)] at hx
  rcases List.mem_append.mp hx with z | z
  ·exact t1 x z
  ·rw[List.mem_singleton.mp z];exact h2
 ·have:=I.aU
  simp only[List.map_append,List.sum_append,List.map_cons,List.map_nil,List.sum_cons,List.sum_nil] at this⊢
  omega
theorem ZF{n:Nat}{t:List Row×Row}{p:Pt}(I:RI n t)(hp:gO p):RI (n+dU p) (aX t p):=by
 obtain⟨pre,r⟩:=t
 have hs:=I.s1 r (by simp)
 have KU:0≤r.2.2:=I.nn
 have e0:(Str.ofString "").length=0:=rfl
 cases p with
 | keep m=>exact Dg I (by show 0≤r.2.2+m;have:0≤m:=hp;omega) hs ⟨fun z=>z,fun z=>z⟩ rfl
 | put x=>
  have gx:sg x:=hp.1.2
  by_cases hx:x=""
  ·have e2:aX (pre,r) (.put x)=(pre,r):=if_pos hx
   have e3:dU (.put x)=0:=by show x.length=0;rw[hx];rfl
   rw[e2,e3];exact I
  ·by_cases hk:0<r.2.2
   ·have e2:aX (pre,r) (.put x)=(pre++ [r],((Str.ofString ""++x,Str.ofString "",0):Row)):=by show(if x="" then _ else if 0<r.2.2 then _ else _)=_;rw[if_neg hx,if_pos hk]
    rw[e2]
    refine KS I hk (Int.le_refl _) ⟨yF nJ gx,nJ⟩ (.inl (by rw[rJ];exact hx)) ?_
    show(Str.ofString ""++x).length+ (Str.ofString "").length=x.length
    rw[jv,e0];omega
   ·have e2:aX (pre,r) (.put x)=(pre,(r.1++x,r.2.1,r.2.2)):=by show(if x="" then _ else if 0<r.2.2 then _ else _)=_;rw[if_neg hx,if_neg hk]
    rw[e2]
    refine Dg I KU ⟨yF hs.1 gx,hs.2⟩ ⟨KQ,fun z=>z⟩ ?_
    show(r.1++x).length+r.2.1.length=r.1.length+r.2.1.length+x.length
    rw[jv];omega
 | cut x=>
  have gx:sg x:=hp.1.2
  by_cases hx:x=""
  ·have e2:aX (pre,r) (.cut x)=(pre,r):=if_pos hx
   have e3:dU (.cut x)=0:=by show x.length=0;rw[hx];rfl
   rw[e2,e3];exact I
  ·by_cases hk:0<r.2.2
   ·have e2:aX (pre,r) (.cut x)=(pre++ [r],((Str.ofString "",Str.ofString ""++x,0):Row)):=by show(if x="" then _ else if 0<r.2.2 then _ else _)=_;rw[if_neg hx,if_pos hk]
    rw[e2]
    refine KS I hk (Int.le_refl _) ⟨nJ,yF nJ gx⟩ (.inr (by rw[rJ];exact hx)) ?_
    show(Str.ofString "").length+ (Str.ofString ""++x).length=x.length
    rw[jv,e0];omega
   ·have e2:aX (pre,r) (.cut x)=(pre,(r.1,r.2.1++x,r.2.2)):=by show(if x="" then _ else if 0<r.2.2 then _ else _)=_;rw[if_neg hx,if_neg hk]
    rw[e2]
    refine Dg I KU ⟨hs.1,yF hs.2 gx⟩ ⟨fun z=>z,KQ⟩ ?_
    show r.1.length+ (r.2.1++x).length=r.1.length+r.2.1.length+x.length
    rw[jv];omega
theorem Dh: ∀(ps:List Pt) (n:Nat) (t:List Row×Row),RI n t→(∀p∈ps,gO p)→RI (n+aU ps) (ps.foldl aX t)
 | [],n,t,I,_=>I
 | p::r,n,t,I,h=>by
  have:=Dh r _ _ (ZF I (h p List.mem_cons_self)) fun q hq=>h q (List.mem_cons_of_mem _ hq)
  have e:n+dU p+aU r=n+aU (p::r):=by show _=n+ (dU p+aU r);omega
  rw[e] at this
  exact this
theorem KW{r:Row}{a:Str}{rest:List Pt}(ha:a=""∨(a="keep"∧(r.1≠""∨r.2.1≠"")))(hk:0<r.2.2)(h:chainOk "keep" rest=true):chainOk a (dI r++rest)=true:=by
 rw[Df hk]
 by_cases h1:r.1="" <;>by_cases h2:r.2.1=""
 ·rw[h1,h2,txt_nil,txt_nil]
  rcases ha with rfl | ⟨_,z | z⟩
  ·exact h
  ·exact absurd h1 z
  ·exact absurd h2 z
 ·rw[h1,txt_nil,jx h2]
  rcases ha with rfl | ⟨rfl,_⟩ <;>exact h
 ·rw[h2,txt_nil,jx h1]
  rcases ha with rfl | ⟨rfl,_⟩ <;>exact h
 ·rw[jx h1,jx h2]
  rcases ha with rfl | ⟨rfl,_⟩ <;>exact h
theorem chain_last{r:Row}{a:Str}(ha:a=""∨(a="keep"∧(r.1≠""∨r.2.1≠"")))(hk:0≤r.2.2):chainOk a (dI r)=true:=by
 by_cases h0:0<r.2.2
 ·have:=KW (rest:=[]) ha h0 rfl
  rw[List.append_nil] at this
  exact this
 ·rw[KN (by omega)]
  by_cases h1:r.1="" <;>by_cases h2:r.2.1=""
  ·rw[h1,h2,txt_nil,txt_nil];rfl
  ·rw[h1,txt_nil,jx h2]
   rcases ha with rfl | ⟨rfl,_⟩ <;>rfl
  ·rw[h2,txt_nil,jx h1]
   rcases ha with rfl | ⟨rfl,_⟩ <;>rfl
  ·rw[jx h1,jx h2]
   rcases ha with rfl | ⟨rfl,_⟩ <;>rfl
theorem KY: ∀(pre:List Row) (r:Row) (a:Str),(∀x∈pre,0<x.2.2)→0≤r.2.2→(a=""∨(a="keep"∧ ∀x,(pre++ [r]).head?=some x→x.1≠""∨x.2.1≠""))→(∀x∈ (pre++ [r]).tail,x.1≠""∨x.2.1≠"")→
  chainOk a (cK (pre++ [r]))=true
 | [],r,a,_,hk,ha,_=>by
  rw[List.nil_append,uT]
  exact chain_last (ha.imp id fun⟨x,y⟩=> ⟨x,y r rfl⟩) hk
 | q::pre,r,a,hp,hk,ha,ht=>by
  have e:cK (q::pre++ [r])=dI q++cK (pre++ [r]):=by simp[cK]
  rw[e]
  refine KW (ha.imp id fun⟨x,y⟩=> ⟨x,y q rfl⟩) (hp q List.mem_cons_self) ?_
  refine KY pre r "keep" (fun x hx=>hp x (List.mem_cons_of_mem _ hx)) hk (.inr ⟨rfl,fun x hx=>ht x ?_⟩) fun x hx=>ht x (List.mem_of_mem_tail hx)
  show x∈pre++ [r]
  exact List.mem_of_mem_head? hx
theorem ZG{r:Row}{p:Pt}(hs:sg r.1∧sg r.2.1)(hl:jy r≤1000000)(hk:0≤r.2.2)(h:p∈dI r):gf p:=by
 unfold dI txt at h
 unfold jy at hl
 rcases List.mem_append.mp h with h | h
 ·rcases List.mem_append.mp h with h | h
  ·split at h
   ·cases h
   ·rename_i ne
    rw[List.mem_singleton.mp h]
    exact⟨⟨by omega,hs.1⟩,ne⟩
  ·split at h
   ·cases h
   ·rename_i ne
    rw[List.mem_singleton.mp h]
    exact⟨⟨by omega,hs.2⟩,ne⟩
 ·split at h
  ·cases h
  ·rw[List.mem_singleton.mp h]
   show 1≤r.2.2
   omega
theorem ZH(r:Row):aU (dI r)=jy r:=by
 have t1: ∀(mk:Str→Pt) (x:Str),(∀y,dU (mk y)=y.length)→aU (txt mk x)=x.length:=by
  intro mk x h
  unfold txt
  by_cases e:x=""
  ·rw[if_pos e,e];rfl
  ·rw[if_neg e];show dU (mk x)+0=_;rw[h,Nat.add_zero]
 have ta: ∀a b:List Pt,aU (a++b)=aU a+aU b:=fun a b=>by simp[aU]
 unfold dI jy
 rw[ta,ta,t1 .put _ fun _=>rfl,t1 .cut _ fun _=>rfl]
 split
 ·rfl
 ·rfl
theorem Di: ∀rows:List Row,aU (cK rows)=(rows.map jy).sum
 | []=>rfl
 | r::rows=>by
  have e:cK (r::rows)=dI r++cK rows:=by simp[cK]
  have ta: ∀a b:List Pt,aU (a++b)=aU a+aU b:=fun a b=>by simp[aU]
  rw[e,ta,ZH,Di rows];rfl
theorem ZI{l:List Row}{x:Row}(h:x∈l):jy x≤ (l.map jy).sum:=by
 induction l with
 | nil=>cases h
 | cons a l ih=>
  rw[List.map_cons,List.sum_cons]
  rcases List.mem_cons.mp h with rfl | h
  ·omega
  ·have:=ih h;omega
theorem ZJ(ps:List Pt)(h: ∀p∈ps,gO p)(ht:aU ps≤100000):chainOk "" (kg ps)=true∧(∀p∈kg ps,gf p)∧aU (kg ps)≤100000:=by
 have I:=Dh ps 0 ([],((Str.ofString "",Str.ofString "",0):Row)) ⟨(fun x hx=>by cases hx),Int.le_refl _,(fun x hx=>by rw[List.mem_singleton.mp hx];exact⟨nJ,nJ⟩),(fun x hx=>by cases hx),rfl⟩ h
 rw[Nat.zero_add] at I
 have e:kg ps=cK ((ps.foldl aX ([],((Str.ofString "",Str.ofString "",0):Row))).1++ [(ps.foldl aX ([],((Str.ofString "",Str.ofString "",0):Row))).2]):=rfl
 rw[e]
 generalize ps.foldl aX ([],((Str.ofString "",Str.ofString "",0):Row))=t at I
 refine⟨KY t.1 t.2 "" I.pos I.nn (.inl rfl) I.tl,fun p hp=> ?_,by rw[Di,I.aU];exact ht⟩
 unfold cK at hp
 rw[List.mem_flatten] at hp
 obtain⟨l,hl,hp⟩:=hp
 obtain⟨x,hx,rfl⟩:=List.mem_map.mp hl
 have hle:=ZI hx
 rw[I.aU] at hle
 refine ZG (I.s1 x hx) (by omega) ?_ hp
 rcases List.mem_append.mp hx with z | z
 ·have:=I.pos x z;omega
 ·rw[List.mem_singleton.mp z];exact I.nn
theorem ZK(ps:List Pt):(Kt ps).length≤3*ps.length+2:=by
 have go: ∀(l:List Pt) (s:NS),(l.foldl gN s).1.length≤s.1.length+3*l.length:=by
  intro l
  induction l with
  | nil=>intro s;simp
  | cons p l ih=>
   intro s
   have h1:=ih (gN s p)
   have h2:(gN s p).1.length≤s.1.length+3:=by
    obtain⟨ch,pu,cu⟩:=s
    cases p with
    | keep n=>
     by_cases hn:0<n
     ·have e1:gN (ch,pu,cu) (.keep n)=(jt (gg ch pu cu) n,[],[]):=if_pos hn
      rw[e1]
      have:=Kw ch pu cu
      have:=Zc (gg ch pu cu) n
      show(jt (gg ch pu cu) n).length≤ch.length+3
      omega
     ·have e1:gN (ch,pu,cu) (.keep n)=(ch,pu,cu):=if_neg hn
      rw[e1]
      show ch.length≤ch.length+3
      omega
    | put x=>show ch.length≤ch.length+3;omega
    | cut x=>show ch.length≤ch.length+3;omega
   rw[List.foldl_cons,List.length_cons]
   omega
 have h1:=go ps ([],[],[])
 have h2:=Kw (ps.foldl gN ([],[],[])).1 (ps.foldl gN ([],[],[])).2.1 (ps.foldl gN ([],[],[])).2.2
 show(gg _ _ _).length≤_
 simp only[List.length_nil] at h1
 omega
def ZL:Pt→PyData | .keep n=> .int n | .put s=> .str s | .cut s=> .str s
def toD(p:Pt):PyData:= .tuple [.str p.word,ZL p]
def pe:Pt→Prop | .keep _=>True | .put s=>sg s | .cut s=>sg s
theorem KZ{x:Str}(h:sg x):PyData.strOk x=true:=by
 have small: ∀c,SG.cps.contains c=true→c<0x110000:=by
  have all:SG.cps.toList.all (fun c=>decide (c<0x110000))=true:=by decide+kernel
  intro c hc
  have hm:c∈SG.cps.toList:=by simpa using hc
  exact of_decide_eq_true (List.all_eq_true.mp all c hm)
 unfold PyData.strOk
 rw[Array.all_eq_true']
 intro c hc
 exact decide_eq_true (small c (h c (by simpa using hc)))
theorem toD_ok{p:Pt}(h:pe p):(toD p).canLay0=true∧(toD p).depth=1:=by
 cases p with
 | keep n=>exact⟨(by show(PyData.strOk (Str.ofString "keep") && (true && true))=true;decide+kernel),rfl⟩
 | put s=>
  refine⟨?_,rfl⟩
  show(PyData.strOk (Str.ofString "put") && (PyData.strOk s && true))=true
  rw[KZ h];decide+kernel
 | cut s=>
  refine⟨?_,rfl⟩
  show(PyData.strOk (Str.ofString "cut") && (PyData.strOk s && true))=true
  rw[KZ h];decide+kernel
theorem K0: ∀(ps:List Pt),(∀p∈ps,pe p)→PyData.canLayAll0 (ps.map toD)=true∧PyData.depthAll (ps.map toD)≤1
 | [],_=> ⟨rfl,Nat.zero_le _⟩
 | p::r,h=>by
  obtain⟨a,b⟩:=toD_ok (h p List.mem_cons_self)
  obtain⟨c,d⟩:=K0 r fun q hq=>h q (List.mem_cons_of_mem _ hq)
  refine⟨?_, ?_⟩
  ·show((toD p).canLay0 && PyData.canLayAll0 (r.map toD))=true
   rw[a,c];rfl
  ·show max (toD p).depth (PyData.depthAll (r.map toD))≤1
   rw[b];omega
theorem Dj{H:Hp}: ∀{vs:List V} {ps:List Pt},bR H vs ps→IsL H (ps.map toD) vs
 | _,_, .nil=>rfl
 | _,_, .cons (a:=v) (b:=p) ⟨a,e,h⟩ r=>by
  refine⟨v,_,rfl, ?_,Dj r⟩
  refine⟨a,_,e,h, .str p.word,[p.val],rfl,rfl,p.val,[],rfl, ?_,rfl⟩
  cases p<;>rfl
def Pt.Dk:Pt→Pt | .keep n=> .keep n | .put s=> .cut s | .cut s=> .put s
def K1(ps:List Pt):List Pt:=ps.map Pt.Dk
theorem ZM(ps:List Pt)(h: ∀p∈ps,gO p):RI (aU ps) (ps.foldl aX ([],((Str.ofString "",Str.ofString "",0):Row))):=by
 have I:=Dh ps 0 ([],((Str.ofString "",Str.ofString "",0):Row)) ⟨(fun x hx=>by cases hx),Int.le_refl _,(fun x hx=>by rw[List.mem_singleton.mp hx];exact⟨nJ,nJ⟩),(fun x hx=>by cases hx),rfl⟩ h
 rwa [Nat.zero_add] at I
inductive Run:List Nat→List Pt→List Nat→Prop
 | nil:Run [] [] []
 | keep {a l r:List Nat} {n:Int} {ps:List Pt}:n=a.length→Run l ps r→Run (a++l) (.keep n::ps) (a++r)
 | put {s:Str} {l r:List Nat} {ps:List Pt}:Run l ps r→Run l (.put s::ps) (s.cps.toList++r)
 | cut {s:Str} {l r:List Nat} {ps:List Pt}:Run l ps r→Run (s.cps.toList++l) (.cut s::ps) r
theorem Run.Dk{l r:List Nat}{ps:List Pt}(h:Run l ps r):Run r (K1 ps) l:=by
 induction h with
 | nil=>exact .nil
 | keep e _ ih=>exact .keep e ih
 | put _ ih=>exact .cut ih
 | cut _ ih=>exact .put ih
theorem Run.app{l l' r r':List Nat}{ps qs:List Pt}(h:Run l ps r)(h':Run l' qs r'):Run (l++l') (ps++qs) (r++r'):=by
 induction h with
 | nil=>exact h'
 | keep e _ ih=>rw[List.append_assoc,List.append_assoc];exact .keep e ih
 | put _ ih=>rw[List.append_assoc];exact .put ih
 | cut _ ih=>rw[List.append_assoc];exact .cut ih
def ph(r:Row)(l q:List Nat):Prop:= ∃k:List Nat,r.2.2=k.length∧l=r.2.1.cps.toList++k∧q=r.1.cps.toList++k
inductive mf:List Row→List Nat→List Nat→Prop
 | nil:mf [] [] []
 | snoc {rs:List Row} {r:Row} {l q l' q':List Nat}:mf rs l q→ph r l' q'→mf (rs++ [r]) (l++l') (q++q')
theorem K2{s:Str}:Run [] (txt .put s) s.cps.toList:=by
 by_cases h:s=""
 ·rw[h,txt_nil];exact .nil
 ·rw[jx h]
  have:=Run.put (s:=s) Run.nil
  rwa [List.append_nil] at this
theorem ZN{s:Str}:Run s.cps.toList (txt .cut s) []:=by
 have:=(K2 (s:=s)).Dk
 have e:K1 (txt .put s)=txt .cut s:=by
  unfold txt;split<;>rfl
 rwa [e] at this
theorem ph.run{r:Row}{l q:List Nat}(h:ph r l q):Run l (dI r) q:=by
 obtain⟨k,hk,rfl,rfl⟩:=h
 have h3:Run k (if r.2.2=0 then [] else [.keep r.2.2]) k:=by
  split
  ·rename_i h
   have:k=[]:=List.length_eq_zero_iff.mp (by omega)
   rw[this];exact .nil
  ·have:=Run.keep (a:=k) hk Run.nil
   rwa [List.append_nil] at this
 have:=((K2 (s:=r.1)).app (ZN (s:=r.2.1))).app h3
 simpa[dI] using this
theorem mf.run{rs:List Row}{l q:List Nat}(h:mf rs l q):Run l (cK rs) q:=by
 induction h with
 | nil=>exact .nil
 | snoc _ h2 ih=>rw[yE,uT];exact ih.app h2.run
def One:Pt→List Nat→List Nat→Prop
 | .keep n,l,q=>l=q∧n=l.length
 | .put s,l,q=>l=[]∧q=s.cps.toList
 | .cut s,l,q=>l=s.cps.toList∧q=[]
theorem Dl{p:Pt}{l q:List Nat}{ps:List Pt}(h:Run l (p::ps) q): ∃l1 l2 q1 q2,l=l1++l2∧q=q1++q2∧Run l2 ps q2∧
  One p l1 q1:=by
 cases h with
 | keep e h=>exact⟨_,_,_,_,rfl,rfl,h,rfl,e⟩
 | put h=>exact⟨[],_,_,_,rfl,rfl,h,rfl,rfl⟩
 | cut h=>exact⟨_,_,[],_,rfl,rfl,h,rfl,rfl⟩
theorem ZO{pre:List Row}{r:Row}{p:Pt}{l0 q0 l1 q1 l2 q2:List Nat}(h0:mf pre l0 q0)(h1:ph r l1 q1)
  (hp:One p l2 q2):
  ∃pj pk jz j3,mf (aX (pre,r) p).1 pj pk∧ph (aX (pre,r) p).2 jz j3∧l0++l1++l2=pj++jz∧q0++q1++q2=pk++j3:=by
 cases p with
 | keep n=>
  obtain⟨rfl,rfl⟩:=hp
  obtain⟨k,hk,rfl,rfl⟩:=h1
  refine⟨l0,q0,_,_,h0,⟨k++l2, ?_,rfl,rfl⟩,by simp[aX],by simp[aX]⟩
  show r.2.2+ (l2.length:Int)=_
  rw[hk,List.length_append];simp
 | put s=>
  obtain⟨rfl,rfl⟩:=hp
  by_cases hs:s=""
  ·have e:aX (pre,r) (.put s)=(pre,r):=by simp only[aX,if_pos hs]
   rw[e]
   refine⟨l0,q0,l1,q1,h0,h1,by simp, ?_⟩
   rw[hs]
   show q0++q1++ (Str.ofString "").cps.toList=_
   rw[ofString_empty];simp
  ·by_cases hk:0<r.2.2
   ·have e:aX (pre,r) (.put s)=(pre++ [r],((Str.ofString ""++s,"",0):Row)):=by simp only[aX,if_neg hs,if_pos hk]
    rw[e]
    refine⟨_,_,[],s.cps.toList,h0.snoc h1,⟨[],rfl,rfl, ?_⟩,by simp,by simp⟩
    show s.cps.toList=(Str.ofString ""++s).cps.toList++ []
    rw[rJ];simp
   ·have e:aX (pre,r) (.put s)=(pre,(r.1++s,r.2.1,r.2.2)):=by simp only[aX,if_neg hs,if_neg hk]
    rw[e]
    obtain⟨k,t_,rfl,rfl⟩:=h1
    have:k=[]:=List.length_eq_zero_iff.mp (by omega)
    subst this
    refine⟨l0,q0,r.2.1.cps.toList,r.1.cps.toList++s.cps.toList,h0,⟨[],t_,by simp,by simp[app_list]⟩,by simp,by simp⟩
 | cut s=>
  obtain⟨rfl,rfl⟩:=hp
  by_cases hs:s=""
  ·have e:aX (pre,r) (.cut s)=(pre,r):=by simp only[aX,if_pos hs]
   rw[e]
   refine⟨l0,q0,l1,q1,h0,h1, ?_,by simp⟩
   rw[hs]
   show l0++l1++ (Str.ofString "").cps.toList=_
   rw[ofString_empty];simp
  ·by_cases hk:0<r.2.2
   ·have e:aX (pre,r) (.cut s)=(pre++ [r],(("",Str.ofString ""++s,0):Row)):=by simp only[aX,if_neg hs,if_pos hk]
    rw[e]
    refine⟨_,_,s.cps.toList,[],h0.snoc h1,⟨[],rfl, ?_,rfl⟩,by simp,by simp⟩
    show s.cps.toList=(Str.ofString ""++s).cps.toList++ []
    rw[rJ];simp
   ·have e:aX (pre,r) (.cut s)=(pre,(r.1,r.2.1++s,r.2.2)):=by simp only[aX,if_neg hs,if_neg hk]
    rw[e]
    obtain⟨k,t_,rfl,rfl⟩:=h1
    have:k=[]:=List.length_eq_zero_iff.mp (by omega)
    subst this
    refine⟨l0,q0,r.2.1.cps.toList++s.cps.toList,r.1.cps.toList,h0,⟨[],t_,by simp[app_list],by simp⟩,by simp,by simp⟩
theorem K3: ∀(ps:List Pt) (pre:List Row) (r:Row) (l0 q0 l1 q1 l2 q2:List Nat),mf pre l0 q0→ph r l1 q1→Run l2 ps q2→
  ∃pj pk jz j3,mf (ps.foldl aX (pre,r)).1 pj pk∧ph (ps.foldl aX (pre,r)).2 jz j3∧l0++l1++l2=pj++jz∧q0++q1++q2=pk++j3
 | [],pre,r,l0,q0,l1,q1,l2,q2,h0,h1,h2=>by
  cases h2
  exact⟨l0,q0,l1,q1,h0,h1,by simp,by simp⟩
 | p::ps,pre,r,l0,q0,l1,q1,l2,q2,h0,h1,h2=>by
  obtain⟨a,b,c,d,rfl,rfl,h3,h4⟩:=Dl h2
  obtain⟨pj,pk,jz,j3,g0,g1,e1,e2⟩:=ZO h0 h1 h4
  obtain⟨ZP,ZQ,ZR,ZS,f0,f1,e3,e4⟩:=K3 ps _ _ pj pk jz j3 b d g0 g1 h3
  refine⟨ZP,ZQ,ZR,ZS,f0,f1, ?_, ?_⟩
  ·rw[←e3,←e1];simp
  ·rw[←e4,←e2];simp
theorem ZT{ps:List Pt}{l q:List Nat}(h:Run l ps q):Run l (kg ps) q:=by
 obtain⟨l0,q0,l1,q1,h0,h1,e1,e2⟩:=K3 ps [] ("","",0) [] [] [] [] l q .nil ⟨[],rfl,rfl,rfl⟩ h
 have:=(h0.snoc h1).run
 rw[←e1,←e2] at this
 exact this
def uU:Sp:=fun vs H Q E=> ∃c,vs=[.int c]∧ ∀n,0≤n→n≤400→Q (.int n) H
theorem ZU{K:Frag}(vs:List V)(H:Hp)(Q:VK)(E:XK)(h:uU vs H Q E):aB (aM K [] [] (E:=E)) BX {nx:=fun _ H'=>Q .aD H',rt:=Q} (start uB vs) H:=by
 obtain⟨c,rfl,q⟩:=h
 refine⟨_,rfl,by show(0:Int) <8;decide,_,rfl, ?_⟩
 refine ie (fun _=> ?_) (fun _=> ?_)
 ·exact⟨_,rfl,⟨by decide,by decide⟩,by show(0:Int) <401;decide,q _ (Int.emod_nonneg _ (by decide)) (by have:=Int.emod_lt_of_pos (c / 8) (show(0:Int) <401 by decide);omega)⟩
 ·exact⟨_,rfl,⟨by decide,by decide⟩,by show(0:Int) <25;decide,q _ (Int.emod_nonneg _ (by decide)) (by have:=Int.emod_lt_of_pos (c / 8) (show(0:Int) <25 by decide);omega)⟩
theorem ZV{x:Str}{a b c:List Nat}(h:x.cps.toList=a++ (b++c))(n:Int)(hn:n=b.length):tN x (some (a.length:Int)) (some ((a.length:Int)+n))=⟨b.toArray⟩:=by
 have e1:(a.length:Int)+n=((a.length+b.length:Nat):Int):=by rw[hn];simp
 unfold tN m4
 rw[e1,HT.oE,HT.oE,h]
 have l1:(a++ (b++c)).length=a.length+ (b.length+c.length):=by simp
 rw[l1]
 have m1:min a.length (a.length+ (b.length+c.length))=a.length:=by omega
 have m2:min (a.length+b.length) (a.length+ (b.length+c.length))=a.length+b.length:=by omega
 rw[m1,m2,List.drop_left,show a.length+b.length - a.length=b.length by omega,List.take_left]
theorem ZW(j:Int)(h0:0≤j)(h1:j<6): ∃n:Int,dj [V.int 1,V.int 2,V.int 0,V.int 3,V.int 5,V.int 40] j=some (.int n)∧0≤n∧n≤40:=by
 obtain rfl | rfl | rfl | rfl | rfl | rfl:j=0∨j=1∨j=2∨j=3∨j=4∨j=5:=by omega
 all_goals exact⟨_,rfl,by decide,by decide⟩
theorem Dm(a b:List Pt):aU (a++b)=aU a+aU b:=by simp[aU]
abbrev ZX:List (Str×Sp):=[("_law_mixed",gd),("_law_text",pb)]
theorem ZY(ps:List Pt)(h: ∀p∈ps,gO p):aU (kg ps)=aU ps:=by
 have I:=ZM ps h
 have e:kg ps=cK ((ps.foldl aX ([],((Str.ofString "",Str.ofString "",0):Row))).1++ [(ps.foldl aX ([],((Str.ofString "",Str.ofString "",0):Row))).2]):=rfl
 rw[e,Di,I.aU]
end L2.B
namespace L2
open PySem PySem.Spec PyProof.Rows
section
variable {Γ:aO} {D:Ends} {σ:St} {H:Hp} {r:List RS} {Q:VK} {QA:List V→Hp→Prop} {QT:Bool→Hp→Prop}
theorem ai{i:Nat}{v:V}(h:σ[i]?=some (some v))(q:Q v H):ah Γ (.v i) σ H Q:=⟨_,h,q⟩
theorem aA{v:V}(q:Q v H):ah Γ (.c v) σ H Q:=q
theorem uV{j:Nat}(q:Q (Γ.gv j) H):ah Γ (.g j) σ H Q:=q
theorem bZ{op:Operator}{a b:RE}(h:ah Γ a σ H fun x H1=>ah Γ b σ H1 fun y H2=>qi Γ.K op x y H2 Q):ah Γ (.bin op a b) σ H Q:=h
theorem eN{op:CmpOp}{a b:RE}(h:ah Γ a σ H fun x H1=>ah Γ b σ H1 fun y H2=>cz Γ.K op x y H2 Q):ah Γ (.cmp op a b) σ H Q:=h
theorem a_{a b:RE}(h:ah Γ a σ H fun x H1=>ah Γ b σ H1 fun y H2=>m_ Γ.K Γ.sd x y H2 Q):ah Γ (.ix a b) σ H Q:=h
theorem ZZ{j:Nat}{as:List RE}(h:aS Γ as σ H fun vs H1=>Γ.fs j (vs++ []) H1 Q Γ.E):ah Γ (.call j as) σ H Q:=h
theorem ba{j:Nat}{as:List RE}(sp:Sp)(hs:Γ.fs j=sp)(h:aS Γ as σ H fun vs H1=>sp vs H1 Q Γ.E):ah Γ (.call j as) σ H Q:=by
 subst hs
 refine ZZ ?_
 have e:(fun(vs:List V) (H1:Hp)=>Γ.fs j (vs++ []) H1 Q Γ.E)=fun vs H1=>Γ.fs j vs H1 Q Γ.E:=by
  funext vs H1;rw[List.append_nil]
 rw[e];exact h
theorem gP{b:m5}{as:List RE}(h:aS Γ as σ H fun vs H1=>ql Γ.K b vs H1 Q):ah Γ (.blt b as) σ H Q:=h
theorem dJ{as:List RE}(h:aS Γ as σ H fun xs H1=>xs.length≤sizeLine∧ ∀p,H1 p=none→Q (.ref p) (upd H1 p (.tup xs))):ah Γ (.tup as) σ H Q:=h
theorem cR{as:List RE}(h:aS Γ as σ H fun xs H1=>xs.length≤sizeLine∧ ∀p,H1 p=none→Q (.ref p) (upd H1 p (.lst xs))):ah Γ (.lst as) σ H Q:=h
theorem Z0{a c:RE}(h:ah Γ a σ H fun x H1=>ah Γ c σ H1 fun y H2=>jY Γ.K [x,y] H2 Q):ah Γ (.da a c) σ H Q:=h
theorem K4{a c:RE}(h:ah Γ a σ H fun x H1=>ah Γ c σ H1 fun y H2=>jY Γ.K [x,y] H2 fun z H3=>iN Γ.K z H3 fun b=>QT b H3):aZ Γ (.da a c) σ H QT:=h
theorem aC(q:QA [] H):aS Γ [] σ H QA:=q
theorem aj{a:RE}{as:List RE}(h:ah Γ a σ H fun x H1=>aS Γ as σ H1 fun xs H2=>QA (x::xs) H2):aS Γ (a::as) σ H QA:=h
theorem b_{i:Nat}{e:RE}(h:ah Γ e σ H fun x H1=>aB Γ r D (σ.set i (some x)) H1):aB Γ (.asg i e::r) D σ H:=h
theorem hU{e:RE}(h:ah Γ e σ H fun _ H1=>aB Γ r D σ H1):aB Γ (.drop e::r) D σ H:=h
theorem dc{e:RE}(h:ah Γ e σ H D.rt):aB Γ (.ret e::r) D σ H:=h
end
section
variable {Γ:aO} {D:Ends} {σ:St} {H:Hp} {r:List RS} {Q:VK} {QA:List V→Hp→Prop} {QT:Bool→Hp→Prop}
theorem iW{K:Frag}{b:Bool}{QB:Bool→Prop}(h:QB b):iN K (.bl b) H QB:=h
theorem eE{a:RE}(h:aZ Γ a σ H fun b H1=>QT (!b) H1):aZ Γ (.not a) σ H QT:=h
theorem pq{j:Nat}{as:List RE}(sp:Sp)(hs:Γ.fs j=sp)(h:aS Γ as σ H fun vs H1=>sp vs H1 (fun x H2=>iN Γ.K x H2 fun b=>QT b H2) Γ.E):aZ Γ (.call j as) σ H QT:=by
 subst hs
 show aS Γ as σ H fun vs H1=>Γ.fs j (vs++ []) H1 (fun x H2=>iN Γ.K x H2 fun b=>QT b H2) Γ.E
 have e:(fun(vs:List V) (H1:Hp)=>Γ.fs j (vs++ []) H1 (fun x H2=>iN Γ.K x H2 fun b=>QT b H2) Γ.E)=fun vs H1=>Γ.fs j vs H1 (fun x H2=>iN Γ.K x H2 fun b=>QT b H2) Γ.E:=by
  funext vs H1;rw[List.append_nil]
 rw[e];exact h
theorem mh{a b:RE}(h:aZ Γ a σ H fun c H1=>if c=true then QT true H1 else aZ Γ b σ H1 QT):aZ Γ (.or [a,b]) σ H QT:=h
theorem K5{a b:RE}(h:aZ Γ a σ H fun c H1=>if c=true then aZ Γ b σ H1 QT else QT false H1):aZ Γ (.and [a,b]) σ H QT:=h
end
end L2
namespace L2.B
open PySem PySem.Spec PyProof.Rows
theorem pA{K:Frag}{σ:St}{H:Hp}{QQ:List V→Hp→Addr→Prop}{te:TE}{fv:List (Str×Nat)}{a:Addr}{xs:List V}(ha:H a=some (.lst xs))(hl:xs.length≤1000000)(P:Nat→List V→Hp→Prop)(p0:P 0 [] H)
  (step: ∀i x ys H2,xs[i]?=some x→au H H2→P i ys H2→ ∀Q':VK,(∀y H3,au H2 H3→P (i+1) (ys++ [y]) H3→Q' y H3)→te (some x::cf σ fv) H2 Q')
  (fin: ∀ys H2 p,au H H2→P xs.length ys H2→H2 p=none→QQ ys H2 p): ∃W:Nat→Nat→List V→Hp→Prop,(∃m,W 0 m [] H)∧ ∀i m ys H2,W i m ys H2→
   ((eT K a).stop i H2∧ ∀p,H2 p=none→QQ ys H2 p)∨
   ((eT K a).go i H2∧ ∀x H3,(eT K a).fo i H2 x H3→jU K none x H3 fun zs=>jV none (zs.map some++cf σ fv) H3 fun b H5=>
    if b=true then te (zs.map some++cf σ fv) H5 fun y H6=>ys.length<sizeLine∧ ∃m',m'<m∧W (i+1) m' (ys++ [y]) H6 else ∃m',m'<m∧W (i+1) m' ys H5):=by
 refine⟨fun i m ys H2=>m=xs.length - i∧i≤xs.length∧ys.length=i∧au H H2∧P i ys H2,⟨_,rfl,Nat.zero_le _,rfl,au.refl _,p0⟩, ?_⟩
 rintro i m ys H2 ⟨rfl,hi,hy,s,p⟩
 by_cases aQ:i<xs.length
 ·refine .inr ⟨⟨xs,xs[i],aq.of (s _ _ ha),by simp[aQ]⟩, ?_⟩
  rintro x H3 ⟨rfl,hx⟩
  have dr:=hx xs (aq.of (s _ _ ha))
  exact step i x ys _ dr s p _ fun y H4 s4 p4=> ⟨dD (by omega),xs.length - (i+1),by omega,rfl,aQ,by simp[hy],s.trans s4,p4⟩
 ·have eM:i=xs.length:=by omega
  subst eM
  exact .inl ⟨⟨xs,aq.of (s _ _ ha),Nat.le_refl _⟩,fun q hq=>fin ys _ q s p hq⟩
theorem K6{K:Frag}{σ:St}{H:Hp}{QQ:List V→Hp→Addr→Prop}{te:TE}{fv:List (Str×Nat)}{lo:Int}{n:Nat}(hl:n≤1000000)(P:Nat→List V→Hp→Prop)(p0:P 0 [] H)
  (step: ∀i ys H2,i<n→au H H2→P i ys H2→ ∀Q':VK,(∀y H3,au H2 H3→P (i+1) (ys++ [y]) H3→Q' y H3)→te (some (.int (lo+i))::cf σ fv) H2 Q')
  (fin: ∀ys H2 p,au H H2→P n ys H2→H2 p=none→QQ ys H2 p): ∃W:Nat→Nat→List V→Hp→Prop,(∃m,W 0 m [] H)∧ ∀i m ys H2,W i m ys H2→
   ((fP lo n).stop i H2∧ ∀p,H2 p=none→QQ ys H2 p)∨
   ((fP lo n).go i H2∧ ∀x H3,(fP lo n).fo i H2 x H3→jU K none x H3 fun zs=>jV none (zs.map some++cf σ fv) H3 fun b H5=>
    if b=true then te (zs.map some++cf σ fv) H5 fun y H6=>ys.length<sizeLine∧ ∃m',m'<m∧W (i+1) m' (ys++ [y]) H6 else ∃m',m'<m∧W (i+1) m' ys H5):=by
 refine⟨fun i m ys H2=>m=n - i∧i≤n∧ys.length=i∧au H H2∧P i ys H2,⟨_,rfl,Nat.zero_le _,rfl,au.refl _,p0⟩, ?_⟩
 rintro i m ys H2 ⟨rfl,hi,hy,s,p⟩
 by_cases aQ:i<n
 ·refine .inr ⟨aQ, ?_⟩
  rintro x H3 ⟨rfl,rfl⟩
  exact step i ys _ aQ s p _ fun y H4 s4 p4=> ⟨dD (by omega),n - (i+1),by omega,rfl,aQ,by simp[hy],s.trans s4,p4⟩
 ·have eM:i=n:=by omega
  subst eM
  exact .inl ⟨Nat.le_refl _,fun q hq=>fin ys _ q s p hq⟩
end L2.B
namespace L2.B
inductive At where | K | P (c:Nat) | C (c:Nat)
 deriving DecidableEq
def rK(n:Nat):List At:=List.replicate n .K
end L2.B
namespace L2.B
open PySem PySem.Spec PyProof.Rows
def uW:Pt→List At
 | .keep n=>rK n.toNat
 | .put s=>s.cps.toList.map .P
 | .cut s=>s.cps.toList.map .C
def cj(ps:List Pt):List At:=(ps.map uW).flatten
theorem kh(p:Pt)(ps:List Pt):cj (p::ps)=uW p++cj ps:=rfl
theorem Z1{T:Ty}{v:V}{H:Hp}{P Q:Bool→Prop}(h:bW T v H P)(i: ∀b,P b→Q b):bW T v H Q:=by
 cases v with
 | ref a=>
  unfold bW at h⊢
  simp only at h⊢
  split at h
  all_goals first | exact i _ h | exact h.elim
 | aD=>exact i _ h
 | bl b=>exact i _ h
 | int _=>exact i _ h
 | str _=>exact i _ h
 | _=>exact False.elim h
theorem Z2{T:Ty}{v:V}{H H':Hp}{P:Bool→Prop}(h:bW T v H P)(s:au H H'):bW T v H' P:=by
 cases v with
 | ref a=>
  unfold bW at h⊢
  simp only at h⊢
  cases e:H a with
  | none=>rw[e] at h;exact h.elim
  | some o=>rw[e] at h;rw[s _ _ e];exact h
 | aD=>exact h
 | bl b=>exact h
 | int _=>exact h
 | str _=>exact h
 | _=>exact False.elim h
def fJ(T:Ty)(v:V)(H:Hp):Prop:=bW T v H fun b=>b=false
theorem fJ.same{T:Ty}{v:V}{H H':Hp}(h:fJ T v H)(s:au H H'):fJ T v H':=Z2 h s
theorem fJ.go{T:Ty}{v:V}{H:Hp}{Q:Bool→Prop}(h:fJ T v H)(q:Q false):bW T v H Q:=Z1 h fun b e=>by rw[e];exact q
def Z3(x:Str):Bool:=x.cps.toList.all fun c=>SG.cps.contains c
theorem K7{α:Type}(p:α→Bool): ∀l:List α,l.all p=false→(l.takeWhile p).length<l.length
 | [],h=>by cases h
 | c::l,h=>by
  rw[List.takeWhile_cons]
  cases hc:p c with
  | false=>simp
  | true=>
   rw[List.all_cons,hc,Bool.true_and] at h
   have:=K7 p l h
   simp;omega
theorem Z4(x y:Str)(h:(x.cps.toList.all fun c=>y.cps.contains c)=false):Txt.lstripChars x y≠"":=by
 have lt:=K7 _ _ h
 have e0:stripLo y.cps.contains true x=(x.cps.toList.takeWhile y.cps.contains).length:=by
  unfold stripLo
  rw[if_pos rfl]
 have e1: ∀n,stripHi y.cps.contains false x n=x.length:=fun n=>rfl
 intro z
 have z2:=congrArg Str.length z
 have l0:(Str.ofString "").length=0:=rfl
 rw[l0] at z2
 unfold Txt.lstripChars Txt.stripBy stripSame stripped at z2
 rw[e0,e1] at z2
 have hx:x.cps.size=x.cps.toList.length:=by simp
 split at z2
 ·have:x.cps.size=0:=z2
  omega
 ·have z3:(x.cps.extract (x.cps.toList.takeWhile y.cps.contains).length x.cps.size).size=0:=z2
  rw[Array.size_extract,Nat.min_self] at z3
  have z4:x.cps.size - (List.takeWhile (fun c=>y.cps.contains c) x.cps.toList).length=0:=z3
  omega
def uX(v:V)(H:Hp):Prop:=(∃x,v= .str x∧x.length≤1000000∧Z3 x=false)∨fJ .str v H
theorem uX.same{v:V}{H H':Hp}(h:uX v H)(s:au H H'):uX v H':=by
 rcases h with h | h
 ·exact .inl h
 ·exact .inr (h.same s)
def rN(v:V)(H:Hp):Prop:=(∃b,v= .bl b)∨fJ .int v H
theorem rN.same{v:V}{H H':Hp}(h:rN v H)(s:au H H'):rN v H':=by
 rcases h with h | h
 ·exact .inl h
 ·exact .inr (h.same s)
def gQ:Sp:=fun vs H Q E=> ∃v,vs=[v]∧((∃i,v= .int i∧Q (.bl true) H)∨(rN v H∧Q (.bl false) H))
theorem Z5{K:Frag}(vs:List V)(H:Hp)(Q:VK)(E:XK)(h:gQ vs H Q E):aB (aM K [] [] (E:=E)) BO (Dn Q) (start dB vs) H:=by
 obtain⟨v,rfl,⟨i,rfl,q⟩ | ⟨⟨b,rfl⟩ | hn,q⟩⟩:=h
 ·exact⟨_,rfl,rfl,_,rfl,fS ⟨_,rfl,rfl,q⟩⟩
 ·exact⟨_,rfl,rfl,_,rfl,fS ⟨_,rfl,rfl,q⟩⟩
 ·exact⟨_,rfl,rfl,hn.go ⟨_,rfl,lq q⟩⟩
def yG:Sp:=fun vs H Q E=> ∃v,vs=[v]∧((∃x,v= .str x∧good x∧Q (.bl true) H)∨(uX v H∧Q (.bl false) H))
theorem Z6{K:Frag}(vs:List V)(H:Hp)(Q:VK)(E:XK)(h:yG vs H Q E):aB (aM K [] gS (E:=E)) xX (Dn Q) (start dB vs) H:=by
 obtain⟨v,rfl,⟨x,rfl,hx,q⟩ | ⟨⟨x,rfl,hl,hx⟩ | hn,q⟩⟩:=h
 ·exact Y2 _ _ _ _ ⟨x,rfl,hx,q⟩
 ·refine⟨_,rfl,rfl,_,rfl,fS ⟨_,rfl,rfl,cM hl, ?_⟩⟩
  show Q (.bl (false ^^ decide (V.str (Txt.lstripChars x SG)=V.str ""))) H
  rw[decide_eq_false (fun z=>Z4 x SG hx (by injection z))]
  exact q
 ·exact⟨_,rfl,rfl,hn.go ⟨_,rfl,lq q⟩⟩
def yH(K:Frag):Sp:=fun vs H Q E=> ∃v p xs,vs=[v, .ref p]∧aL K H p xs∧xs.all eJ=true∧((∃w,v= .str w∧Q (.bl (gC (.str w) xs)) H)∨(fJ .str v H∧Q (.bl false) H))
theorem Z7{K:Frag}(vs:List V)(H:Hp)(Q:VK)(E:XK)(h:yH K vs H Q E):aB (aM K [] [] (E:=E)) xV (Dn Q) (start qz vs) H:=by
 obtain⟨v,p,xs,rfl,hp,hf,⟨w,rfl,q⟩ | ⟨hn,q⟩⟩:=h
 ·exact Y4 _ _ _ _ ⟨w,p,xs,rfl,hp,hf,q⟩
 ·exact⟨_,rfl,rfl,hn.go ⟨_,rfl,lq q⟩⟩
def uY(v:V)(H:Hp):Prop:=fJ .tuple v H∨ ∃a xs,v= .ref a∧H a=some (.tup xs)∧xs.length≤1000000∧(xs.length≠2∨ ∃w t,xs=[w,t]∧
 (fJ .str w H∨(∃s,w= .str s∧s≠"keep"∧s≠"cut"∧s≠"put")∨(w= .str "keep"∧(rN t H∨ ∃n,t= .int n∧n<1))∨((w= .str "cut"∨w= .str "put")∧(uX t H∨t= .str ""))))
theorem uY.same{v:V}{H H':Hp}(h:uY v H)(s:au H H'):uY v H':=by
 rcases h with h | ⟨a,xs,rfl,ha,hl,h⟩
 ·exact .inl (h.same s)
 ·refine .inr ⟨a,xs,rfl,s _ _ ha,hl, ?_⟩
  rcases h with h | ⟨w,t,rfl,h⟩
  ·exact .inl h
  ·refine .inr ⟨w,t,rfl, ?_⟩
   rcases h with h | h | ⟨h,h2⟩ | ⟨h,h2⟩
   ·exact .inl (h.same s)
   ·exact .inr (.inl h)
   ·refine .inr (.inr (.inl ⟨h, ?_⟩))
    rcases h2 with h2 | h2
    ·exact .inl (h2.same s)
    ·exact .inr h2
   ·refine .inr (.inr (.inr ⟨h, ?_⟩))
    rcases h2 with h2 | h2
    ·exact .inl (h2.same s)
    ·exact .inr h2
abbrev yI(K:Frag):List (Str×Sp):=[("is_word",yH K),("is_whole",gQ),("is_text",yG)]
def uZ:Sp:=fun vs H Q E=> ∃v,vs=[v]∧((∃p,lY H v p∧gf p∧ ∀H',au H H'→Q (.bl true) H')∨(uY v H∧ ∀H',au H H'→Q (.bl false) H'))
theorem K8(s t:Str):gC (.str s) [.str t]=(t==s):=by
 unfold gC
 show(eW (.str t) (.str s) || false)=_
 rw[Bool.or_false];rfl
theorem Z8{K:Frag}(vs:List V)(H:Hp)(Q:VK)(E:XK)(h:uZ vs H Q E):aB (aM K (yI K) [] (E:=E)) uv (Dn Q) (start dB vs) H:=by
 have two: ∀(a:Addr) (w t:V) (Q1:VK) (H1:Hp) (σ:St),σ[0]?=some (some (.ref a))→H1 a=some (.tup [w,t])→
   (∀(tt:Addr) H2,au H1 H2→ ∀b:Bool,(b=true→w= .str "cut"∨w= .str "put")→(b=false→w≠ .str "cut"∧w≠ .str "put")→Q1 (.bl b) H2)→(fJ .str w H1∨ ∃s,w= .str s)→
   ah (aM K (yI K) [] (E:=E)) (.call 0 [(.ix (.v 0) (.c (.int 0))),(.tup [(.c (.str "cut")),(.c (.str "put"))])]) σ H1 Q1:=by
  intro a w t Q1 H1 σ h0 ha q hw
  refine⟨_,h0, .inr (.inl ⟨_,_,_,_,rfl,rfl,aL.of ha,rfl,(by show 2≤sizeLine;decide),fun t ht=> ?_⟩)⟩
  have s2:=sameNew (o:= .tup [V.str "cut",V.str "put"]) ht
  refine⟨w,t,_,rfl,aL.of aw,rfl, ?_⟩
  rcases hw with hw | ⟨s,rfl⟩
  ·refine .inr ⟨hw.same s2,q t _ s2 false (fun z=>by cases z) fun _=> ⟨?_, ?_⟩⟩
   ·rintro rfl;cases (show true=false from hw)
   ·rintro rfl;cases (show true=false from hw)
  ·refine .inl ⟨s,rfl,q t _ s2 _ (fun z=> ?_) fun z=> ?_⟩
   ·have z':((Str.ofString "cut"==s) || ((Str.ofString "put"==s) || false))=true:=z
    simp only[Bool.or_false,Bool.or_eq_true,beq_iff_eq] at z'
    rcases z' with z' | z'<;>subst z'
    ·exact .inl rfl
    ·exact .inr rfl
   ·have z':((Str.ofString "cut"==s) || ((Str.ofString "put"==s) || false))=false:=z
    simp only[Bool.or_false,Bool.or_eq_false_iff,beq_eq_false_iff_ne] at z'
    exact⟨fun y=>z'.1 (by injection y with y;exact y.symm),fun y=>z'.2 (by injection y with y;exact y.symm)⟩
 obtain⟨v,rfl,⟨p,⟨a,rfl,ha⟩,hp,q⟩ | ⟨hn | ⟨a,xs,rfl,ha,hl,hb⟩,q⟩⟩:=h
 ·refine⟨_,rfl,rfl,rG ha ⟨_,rfl, .inr ⟨_,aL.of ha,_,rfl, ?_⟩⟩⟩
  refine⟨_,rfl, .inr (.inl ⟨_,_,_,_,rfl,rfl,aL.of ha,rfl,(by show 1≤sizeLine;decide),fun t1 me=> ?_⟩)⟩
  have s1:=sameNew (o:= .tup [V.str "keep"]) me
  refine⟨.str p.word,t1,[.str "keep"],rfl,aL.of aw,rfl, .inl ⟨p.word,rfl, ?_⟩⟩
  have gR:=s1 _ _ ha
  generalize upd H t1 (.tup [V.str "keep"])=H1 at s1 gR
  have fin: ∀(s:Str),good s→s≠""→H1 a=some (.tup [.str p.word, .str s])→p.word="put"∨p.word="cut"→aB (aM K (yI K) [] (E:=E)) (uv.drop 2) (Dn Q) (start dB [.ref a]) H1:=by
   intro s gs ns hs hw
   refine two a (.str p.word) (.str s) _ H1 _ rfl hs (fun tt H2 s2 b rO yJ=> ?_) (.inr ⟨_,rfl⟩)
   have eb:b=true:=by
    cases b with
    | true=>rfl
    | false=>
     obtain⟨z1,z2⟩:=yJ rfl
     rcases hw with z | z
     ·exact absurd (congrArg V.str z) z2
     ·exact absurd (congrArg V.str z) z1
   subst eb
   have jq:=s2 _ _ hs
   refine⟨_,rfl,fS ⟨_,rfl, .inr (.inl ⟨_,_,_,_,rfl,rfl,aL.of jq,rfl, .str s,rfl, .inl ⟨s,rfl,gs,_,rfl, ?_⟩⟩)⟩⟩
   refine fS ⟨_,rfl, .inr (.inl ⟨_,_,_,_,rfl,rfl,aL.of jq,rfl, ?_⟩)⟩
   show Q (.bl (true ^^ decide (V.str s=V.str ""))) _
   rw[decide_eq_false (fun z=>ns (by injection z))]
   exact q _ (s1.trans s2)
  cases p with
  | keep n=>
   rw[show gC (.str (Pt.keep n).word) [.str "keep"]=true by show gC (.str "keep") [.str "keep"]=true;decide]
   refine⟨_,rfl, .inr (.inl ⟨_,_,_,_,rfl,rfl,aL.of gR,rfl, .int n,rfl, .inl ⟨n,rfl,_,rfl, ?_⟩⟩)⟩
   refine fS ⟨_,rfl, .inr (.inl ⟨_,_,_,_,rfl,rfl,aL.of gR,rfl,trivial, ?_⟩)⟩
   show Q (.bl (decide (1≤n))) H1
   rw[decide_eq_true (show(1:Int)≤n from hp)]
   exact q _ s1
  | put s=>
   rw[show gC (.str (Pt.put s).word) [.str "keep"]=false by show gC (.str "put") [.str "keep"]=false;decide]
   exact fin s hp.1 hp.2 gR (.inl rfl)
  | cut s=>
   rw[show gC (.str (Pt.cut s).word) [.str "keep"]=false by show gC (.str "cut") [.str "keep"]=false;decide]
   exact fin s hp.1 hp.2 gR (.inr rfl)
 ·exact⟨_,rfl,rfl,hn.go (q _ (au.refl _))⟩
 ·refine⟨_,rfl,rfl,rG ha ⟨_,rfl, .inr ⟨_,aL.of ha,_,rfl, ?_⟩⟩⟩
  show if (true ^^ decide (V.int (xs.length:Int)=V.int 2))=true then _ else _
  rcases hb with hb | ⟨w,t,rfl,hb⟩
  ·rw[decide_eq_false (fun z=>hb (by injection z with z;omega))]
   exact q _ (au.refl _)
  ·refine⟨_,rfl, .inr (.inl ⟨_,_,_,_,rfl,rfl,aL.of ha,rfl,(by show 1≤sizeLine;decide),fun t1 me=> ?_⟩)⟩
   have s1:=sameNew (o:= .tup [V.str "keep"]) me
   refine⟨w,t1,[.str "keep"],rfl,aL.of aw,rfl, ?_⟩
   have gR:=s1 _ _ ha
   generalize upd H t1 (.tup [V.str "keep"])=H1 at s1 gR
   have no:(fJ .str w H1∨ ∃s,w= .str s)→w≠ .str "cut"→w≠ .str "put"→aB (aM K (yI K) [] (E:=E)) (uv.drop 2) (Dn Q) (start dB [.ref a]) H1:=by
    intro hw n1 n2
    refine two a w t _ H1 _ rfl gR (fun tt H2 s2 b rO yJ=> ?_) hw
    have eb:b=false:=by
     cases b with
     | false=>rfl
     | true=>rcases rO rfl with z | z;exact absurd z n1;exact absurd z n2
    subst eb
    exact⟨_,rfl,lq (q _ (s1.trans s2))⟩
   rcases hb with hb | ⟨s,rfl,n0,n1,n2⟩ | ⟨rfl,hb⟩ | ⟨hw,hb⟩
   ·refine .inr ⟨hb.same s1,no (.inl (hb.same s1)) ?_ ?_⟩
    ·rintro rfl;cases (show true=false from hb)
    ·rintro rfl;cases (show true=false from hb)
   ·refine .inl ⟨s,rfl, ?_⟩
    rw[K8,beq_eq_false_iff_ne.mpr (Ne.symm n0)]
    exact no (.inr ⟨s,rfl⟩) (fun z=>n1 (by injection z)) (fun z=>n2 (by injection z))
   ·refine .inl ⟨_,rfl, ?_⟩
    rw[show gC (.str "keep") [.str "keep"]=true by decide]
    refine⟨_,rfl, .inr (.inl ⟨_,_,_,_,rfl,rfl,aL.of gR,rfl,t,rfl, ?_⟩)⟩
    rcases hb with hb | ⟨n,rfl,hn⟩
    ·exact .inr ⟨hb.same s1,_,rfl,lq (q _ s1)⟩
    ·refine .inl ⟨n,rfl,_,rfl,fS ⟨_,rfl, .inr (.inl ⟨_,_,_,_,rfl,rfl,aL.of gR,rfl,trivial, ?_⟩)⟩⟩
     show Q (.bl (decide (1≤n))) H1
     rw[decide_eq_false (by omega)]
     exact q _ s1
   ·have Z9: ∃s,w= .str s∧(Str.ofString "keep"==s)=false:=by
     rcases hw with rfl | rfl
     ·exact⟨_,rfl,by decide⟩
     ·exact⟨_,rfl,by decide⟩
    obtain⟨s,rfl,hk⟩:=Z9
    refine .inl ⟨s,rfl, ?_⟩
    rw[K8,hk]
    refine two a (.str s) t _ H1 _ rfl gR (fun tt H2 s2 b rO yJ=> ?_) (.inr ⟨s,rfl⟩)
    have eb:b=true:=by
     cases b with
     | true=>rfl
     | false=>
      obtain⟨z1,z2⟩:=yJ rfl
      rcases hw with z | z
      ·exact absurd z z1
      ·exact absurd z z2
    subst eb
    have yK:=s2 _ _ gR
    refine⟨_,rfl,fS ⟨_,rfl, .inr (.inl ⟨_,_,_,_,rfl,rfl,aL.of yK,rfl,t,rfl, ?_⟩)⟩⟩
    rcases hb with hb | rfl
    ·exact .inr ⟨hb.same (s1.trans s2),_,rfl,lq (q _ (s1.trans s2))⟩
    ·refine .inl ⟨_,rfl,⟨by decide,fun c hc=>by cases hc⟩,_,rfl,fS ⟨_,rfl, .inr (.inl ⟨_,_,_,_,rfl,rfl,aL.of yK,rfl, ?_⟩)⟩⟩
     exact q _ (s1.trans s2)
theorem Z_{vs:List V}{H:Hp}{Q:VK}{E:XK}(h:C3 vs H Q E):uZ vs H Q E:=by
 obtain⟨v,p,rfl,hp,ho,q⟩:=h
 exact⟨_,rfl, .inl ⟨p,hp,ho,q⟩⟩
def yL(H:Hp)(xs:List V):Prop:= ∃pre x post ps,xs=pre++x::post∧bR H pre ps∧(∀p∈ps,gf p)∧chainOk "" ps=true∧
 (uY x H∨ ∃p,lY H x p∧gf p∧gM p.word (iw "" ps ps.length)=false)
def iX(v:V)(H:Hp):Prop:=fJ .list v H∨ ∃a xs,v= .ref a∧H a=some (.lst xs)∧yL H xs
theorem yL.same{H H':Hp}{xs:List V}(h:yL H xs)(s:au H H'):yL H' xs:=by
 obtain⟨pre,x,post,ps,e,h1,h2,h3,h4⟩:=h
 refine⟨pre,x,post,ps,e,h1.mono (cJ s),h2,h3, ?_⟩
 rcases h4 with h4 | ⟨p,a,b,c⟩
 ·exact .inl (h4.same s)
 ·exact .inr ⟨p,a.mono (cJ s),b,c⟩
theorem iX.same{v:V}{H H':Hp}(h:iX v H)(s:au H H'):iX v H':=by
 rcases h with h | ⟨a,xs,e,h1,h2⟩
 ·exact .inl (fJ.same h s)
 ·exact .inr ⟨a,xs,e,s _ _ h1,h2.same s⟩
abbrev aaa:List (Str×Sp):=[("is_part",uZ),("may_follow",rF)]
def yM(C:Addr):Sp:=fun vs H Q E=> ∃v,vs=[v]∧iX v H∧ ∀H',au H H'→E (.ref C) none H'
theorem aab{K:Frag}{C:Addr}(vs:List V)(H:Hp)(Q:VK)(E:XK)(h:yM C vs H Q E):aB (aM K aaa [] (et:=[("BadChange",C)]) (E:=E)) uz (Dn Q) (start xY vs) H:=by
 obtain⟨v,rfl,hn | ⟨a,xs,rfl,ha,pre,x,post,ps,rfl,dE,aE,ez,aac⟩,q⟩:=h
 ·exact⟨_,rfl,rfl,hn.go ⟨(by show 1≤sizeLine;decide),q _ (au.refl _)⟩⟩
 ·have hlen:=Paired.length dE
  refine⟨_,rfl,rfl,rH ha ⟨_,rfl,a,rfl,⟨_,aq.of ha⟩,jO (K:=K) (a:=a) (xs:=pre++x::post) (fun i σ H2=>i≤pre.length∧ ∃v,σ=[some (.ref a),some (.str (iw "" ps i)),v]∧au H H2) ⟨Nat.zero_le _,none,rfl,au.refl _⟩
   (fun i σ H2 _ ⟨_,_,_,s2⟩=>aq.of (s2 _ _ ha)) ?_ ?_⟩⟩
  ·rintro i y σ H2 hi ⟨hle,v,rfl,s2⟩
   by_cases aQ:i<pre.length
   ·have bV:pre[i]?=some y:=by rw[List.getElem?_append_left aQ] at hi;exact hi
    obtain⟨p,hp,lZ⟩:=dE.get bV
    obtain⟨b,rfl,hb⟩:=lZ.mono (cJ s2)
    refine⟨_,rfl,_,rfl, .inl ⟨p,⟨b,rfl,hb⟩,aE p (List.mem_of_getElem? hp),fun H3 s3=> ?_⟩⟩
    refine⟨_,rfl, .inr (.inl ⟨_,_,_,_,rfl,rfl,aL.of (s3 _ _ hb),rfl,_,rfl,p.word,_,rfl, ?_⟩)⟩
    have e:=C5 ps "" i p ez hp
    show(fun c H1=>if (!c)=true then _ else _) (gM p.word (iw "" ps i)) H3
    rw[e]
    refine⟨_,rfl, .inr (.inl ⟨_,_,_,_,rfl,rfl,aL.of (s3 _ _ hb),rfl,aQ,some (.ref b), ?_,s2.trans s3⟩)⟩
    show[some (V.ref a),some (V.str p.word),some (V.ref b)]=_
    have e2:iw "" ps (i+1)=p.word:=by simp only[iw,hp]
    rw[e2]
   ·have eM:i=pre.length:=by omega
    subst eM
    have ey:y=x:=by
     rw[List.getElem?_append_right (Nat.le_refl _),Nat.sub_self] at hi
     simpa using hi.symm
    subst ey
    rcases aac with hb | ⟨p,⟨b,rfl,hb⟩,ho,hf⟩
    ·exact⟨_,rfl,_,rfl, .inr ⟨hb.same s2,fun H3 s3=> ⟨(by show 1≤sizeLine;decide),q _ (s2.trans s3)⟩⟩⟩
    ·refine⟨_,rfl,_,rfl, .inl ⟨p,⟨b,rfl,s2 _ _ hb⟩,ho,fun H3 s3=> ?_⟩⟩
     refine⟨_,rfl, .inr (.inl ⟨_,_,_,_,rfl,rfl,aL.of (s3 _ _ (s2 _ _ hb)),rfl,_,rfl,p.word,_,rfl, ?_⟩)⟩
     show(fun c H1=>if (!c)=true then _ else _) (gM p.word (iw "" ps pre.length)) H3
     rw[hlen,hf]
     exact⟨(by show 1≤sizeLine;decide),q _ (s2.trans s3)⟩
  ·rintro σ H2 ⟨hle,_⟩
   simp at hle
   omega
def d9(a b:Sp):Sp:=fun vs H Q E=>a vs H Q E∨b vs H Q E
structure mi (K:Frag) (cs:List Addr) (cZ:Addr) (D:Addr) (j:Nat):Prop where
 cls:tO K D
 kit: ∀i c,cs[i]?=some c→kitOne K (.ref D) (.ref c)=some (decide (i=j))
 cZ:kitOne K (.ref D) (.ref cZ)=some true
 val:kitOne K (.ref D) (.type "ValueError")=some true
def jA:List Str:=["text","change","fit","place","side","mark","node","cursor","deed","letter","gone","hand","note"]
abbrev gW(c0 c1 c2 c3 c4 c5 c6 c7 c8 c9 jB jC jD cZ:Addr):List (Str×V):=
 [("BadText", .ref c0),("BadChange", .ref c1),("BadFit", .ref c2),("NoPlace", .ref c3),("BadSide", .ref c4),("NoMark", .ref c5),("NoNode", .ref c6),("NoCursor", .ref c7),("BadDeed", .ref c8),("BadLetter", .ref c9),("NoLetter", .ref jB),("NoHand", .ref jC),("NoNote", .ref jD),("InkError", .ref cZ)]
def yN(K:Frag)(cs:List Addr)(cZ:Addr):Sp:=fun vs H Q E=> ∃ea D j,vs=[.ref ea]∧ExcAt H ea D∧mi K cs cZ D j∧j<13∧ ∀H',au H H'→Q (.str (jA.getD j "")) H'
theorem _root_.L2.ExcAt.same{H H':Hp}{ea D:Addr}(h:ExcAt H ea D)(s:au H H'):ExcAt H' ea D:=ExcAt.keeps h fun b o u e=>s b _ e
def jE(H:Hp)(v:V)(p:Str×Bool):Prop:= ∃t,v= .ref t∧H t=some (.tup [.str p.1, .bl p.2])
theorem jE.mono{H H':Hp}{v:V}{p:Str×Bool}(h:jE H v p)(s:au H H'):jE H' v p:=by
 obtain⟨t,e,h⟩:=h
 exact⟨t,e,s _ _ h⟩
theorem pB.mono{H H':Hp}(s:au H H'): ∀{vs:List V} {ps:List (Str×Bool)},Paired (jE H) vs ps→Paired (jE H') vs ps
 | _,_, .nil=> .nil
 | _,_, .cons h r=> .cons (h.mono s) (pB.mono s r)
theorem pB.get{H:Hp}: ∀{vs:List V} {ps:List (Str×Bool)} {i:Nat} {v:V},Paired (jE H) vs ps→vs[i]?=some v→ ∃p,ps[i]?=some p∧jE H v p
 | _,_,i,v, .nil,e=>by simp at e
 | _,_,0,v, .cons h r,e=>by simp at e;subst e;exact⟨_,rfl,h⟩
 | _,_,i+1,v, .cons h r,e=>by
  obtain⟨p,a,b⟩:=pB.get (i:=i) r (by simpa using e)
  exact⟨p,by simpa using a,b⟩
theorem Paired.app{α β:Type}{R:α→β→Prop}: ∀{xs g8:List α} {ys fX:List β},Paired R xs ys→Paired R g8 fX→Paired R (xs++g8) (ys++fX)
 | _,_,_,_, .nil,s=>s
 | _,_,_,_, .cons r t,s=> .cons r (Paired.app t s)
section
variable {Γ:aO} {cs:List Addr} {cZ ea D:Addr} {j:Nat}
theorem Dp(hk:mi Γ.K cs cZ D j)(hg: ∀i c,cs[i]?=some c→Γ.gv i= .ref c): ∀(ws:List (Str×Nat)) (σ:St) (H:Hp) (Q:List V→Hp→Prop),(∀p∈ws,p.2<cs.length)→σ[0]?=some (some (.ref ea))→ExcAt H ea D→
  (∀vs H',au H H'→Paired (jE H') vs (ws.map fun p=> (p.1,decide (p.2=j)))→Q vs H')→aS Γ (ws.map fun p=> .tup [(.c (.str p.1)),(.da (.v 0) (.g p.2))]) σ H Q
 | [],σ,H,Q,_,_,_,q=>q [] H (au.refl _) .nil
 | (w,i)::ws,σ,H,Q,hl,h0,he,q=>by
  have hi:i<cs.length:=hl (w,i) (.head _)
  have hc:cs[i]?=some cs[i]:=by simp[hi]
  have key: ∀k:VK,jY Γ.K [.ref ea, .ref cs[i]] H k→jY Γ.K [.ref ea,Γ.gv i] H k:=by
   intro k;rw[hg i _ hc];exact id
  refine aj (dJ (aj (aA (aj (Z0 (ai h0 (uV (key _ ⟨D,_,he,hk.cls, .inl ⟨_,rfl⟩,hk.kit i _ hc,aC ⟨(by show 2≤sizeLine;decide),fun t ht=> ?_⟩⟩))))))))
  have s1:=sameNew (o:= .tup [.str w, .bl (decide (i=j))]) ht
  refine Dp hk hg ws σ _ _ (fun p hp=>hl p (.tail _ hp)) h0 (he.same s1) fun vs H' s2 hp=> ?_
  exact q (.ref t::vs) H' (s1.trans s2) (.cons ⟨t,rfl,s2 _ _ aw⟩ hp)
theorem yO(hk:mi Γ.K cs cZ D j)(hg: ∀i c,cs[i]?=some c→Γ.gv i= .ref c)(ws:List (Str×Nat)){l:Addr}{xs:List V}{ps:List (Str×Bool)}{H:Hp}{r:List RS}{E:Ends}(hl: ∀p∈ws,p.2<cs.length)(he:ExcAt H ea D)(h1:H l=some (.lst xs))
  (hp:Paired (jE H) xs ps) (hn:xs.length+ws.length≤1000) (q: ∀l' g8 H',au H H'→H' l'=some (.lst g8)→Paired (jE H') g8 (ps++ws.map fun p=> (p.1,decide (p.2=j)))→aB Γ r E [some (.ref ea),some (.ref l'),none] H'):
  aB Γ (.asg 1 (.bin .Add (.v 1) (.lst (ws.map fun p=> .tup [(.c (.str p.1)),(.da (.v 0) (.g p.2))])))::r) E [some (.ref ea),some (.ref l),none] H:=by
 refine⟨_,rfl,Dp hk hg ws _ H _ hl rfl he fun vs H1 s1 hv=> ⟨?_,fun d hd=> ?_⟩⟩
 ·have:=Paired.length hv
  rw[List.length_map] at this
  exact cM (by omega)
 ·have e1:upd H1 d (.lst vs) l=some (.lst xs):=by rw[aG (bD (s1 _ _ h1) hd)];exact s1 _ _ h1
  have rP:=Paired.length hv
  rw[List.length_map] at rP
  refine .inl ⟨l,d,xs,vs,rfl,rfl,e1,aw,cM (by omega),fun e pE=> ?_⟩
  have s2:=(sameNew (o:= .lst vs) hd).trans (sameNew (o:= .lst (xs++vs)) pE)
  exact q e (xs++vs) _ (s1.trans s2) aw (Paired.app (pB.mono (s1.trans s2) hp) (pB.mono s2 hv))
end
theorem aae(j:Nat)(hj:j<13):(((jA.zipIdx).map fun p=> (p.1,decide (p.2=j))).filter (·.2)).map (·.1)=[jA.getD j ""]∧(jA.getD j "").length≤10:=by
 match j,hj with
 | 0,_ | 1,_ | 2,_ | 3,_ | 4,_ | 5,_ | 6,_ | 7,_ | 8,_ | 9,_ | 10,_ | 11,_ | 12,_=>exact⟨rfl,by decide+kernel⟩
theorem aaf{Γ:aO}{as:List RE}{σ:St}{H:Hp}{Q:VK}(h:aS Γ as σ H fun xs H1=>xs.length≤sizeLine∧ ∀p,H1 p=none→Q (.ref p) (upd H1 p (.lst xs))):ah Γ (.lst as) σ H Q:=h
theorem join_one(sep x:Str):Txt.join sep [x]=x:=l_ rfl
theorem aag{α β:Type}(p:α→Bool)(f:α→β)(l:List α)(i:Nat)(v:α)(h:l[i]?=some v):((l.take (i+1)).filter p).map f=((l.take i).filter p).map f++ (if p v then [f v] else []):=by
 rw[Y7 p l i v h,List.map_append]
 cases p v<;>rfl
theorem aah{Γ:aO}{i g:Nat}{ea D C:Addr}{b:Bool}{σ:St}{H:Hp}{Q:Bool→Hp→Prop}(h0:σ[i]?=some (some (.ref ea)))(he:ExcAt H ea D)(hc:tO Γ.K D)(hg:Γ.gv g= .ref C)(hk:kitOne Γ.K (.ref D) (.ref C)=some b)(q:Q b H):aZ Γ (.da (.v i) (.g g)) σ H Q:=by
 have key: ∀k:VK,jY Γ.K [.ref ea, .ref C] H k→jY Γ.K [.ref ea,Γ.gv g] H k:=by
  intro k;rw[hg];exact id
 exact K4 (ai h0 (uV (key _ ⟨D,b,he,hc, .inl ⟨_,rfl⟩,hk,q⟩)))
theorem aai{Γ:aO}{i:Nat}{ea D:Addr}{n:String}{b:Bool}{σ:St}{H:Hp}{Q:Bool→Hp→Prop}(h0:σ[i]?=some (some (.ref ea)))(he:ExcAt H ea D)(hc:tO Γ.K D)(hk:kitOne Γ.K (.ref D) (.type n)=some b)(q:Q b H):aZ Γ (.da (.v i) (.c (.ty n))) σ H Q:=
 K4 (ai h0 (aA ⟨D,b,he,hc, .inr ⟨_,rfl⟩,hk,q⟩))
theorem aaj{Γ:aO}{cs:List Addr}{cZ ea D:Addr}{j:Nat}{H:Hp}{Q:VK}(hl:cs.length=13)(hg: ∀i c,cs[i]?=some c→Γ.gv i= .ref c)(hi:Γ.gv 13= .ref cZ)(he:ExcAt H ea D)(hk:mi Γ.K cs cZ D j)(hj:j<13)(q: ∀H',au H H'→Q (.str (jA.getD j "")) H'):
  aB Γ d6 (Dn Q) [some (.ref ea),none,none] H:=by
 refine Wl (aaf (Dp hk hg [("text",0),("change",1),("fit",2)] _ H _ (by rw[hl];decide) rfl he fun vs H1 s1 hv=> ⟨?_,fun d hd=> ?_⟩))
 ·have:=Paired.length hv
  exact cM (by rw[this];simp)
 have s2:=s1.trans (sameNew (o:= .lst vs) hd)
 have yP:=pB.mono (sameNew (o:= .lst vs) hd) hv
 have rP:=Paired.length hv
 refine yO hk hg [("place",3),("side",4),("mark",5)] (by rw[hl];decide) (he.same s2) aw yP (by rw[rP];simp) fun l3 xs3 H3 s3 h3 Dq=> ?_
 have K9:=Paired.length Dq
 refine yO hk hg [("node",6),("cursor",7)] (by rw[hl];decide) ((he.same s2).same s3) h3 Dq (by rw[K9];simp) fun l4 xs4 H4 s4 h4 Dr=> ?_
 have K_:=Paired.length Dr
 refine yO hk hg [("deed",8),("letter",9)] (by rw[hl];decide) (((he.same s2).same s3).same s4) h4 Dr (by rw[K_];simp) fun l5 xs5 H5 s5 h5 Ds=> ?_
 have La:=Paired.length Ds
 refine yO hk hg [("gone",10),("hand",11),("note",12)] (by rw[hl];decide) ((((he.same s2).same s3).same s4).same s5) h5 Ds (by rw[La];simp) fun l6 jF H6 s6 h6 Lb=> ?_
 have Dt:Paired (jE H6) jF ((jA.zipIdx).map fun p=> (p.1,decide (p.2=j))):=Lb
 obtain⟨pick,ank⟩:=aae j hj
 have aak:((jA.zipIdx).map fun p=> (p.1,decide (p.2=j))).length=13:=by rw[List.length_map];rfl
 generalize ((jA.zipIdx).map fun p=> (p.1,decide (p.2=j)))=its at Dt pick aak
 have yQ:=Paired.length Dt
 have he6:=((((he.same s2).same s3).same s4).same s5).same s6
 have s06:=(((s2.trans s3).trans s4).trans s5).trans s6
 clear Lb Ds Dr Dq yP hv rP K9 K_ La
 refine Wm ⟨_,rfl,l6,rfl,⟨_,aq.of h6⟩,fun i m ys H7=>m=jF.length - i∧i≤jF.length∧H7=H6∧ys=(((its.take i).filter (·.2)).map (·.1)).map V.str,⟨_,rfl,Nat.zero_le _,rfl,rfl⟩, ?_⟩
 rintro i m ys H7 ⟨rfl,bV,rfl,rfl⟩
 by_cases aQ:i<jF.length
 ·refine .inr ⟨⟨jF,jF[i],aq.of h6,by simp[aQ]⟩, ?_⟩
  rintro x H8 ⟨rfl,hx⟩
  obtain⟨⟨w,b⟩,hp,t,rfl,ht⟩:=pB.get Dt (hx jF (aq.of h6))
  have tf:=aag (·.2) (·.1) its i _ hp
  refine⟨t,_,rfl,aL.of ht,rfl,_,rfl, ?_⟩
  show if b=true then _ else _
  cases b with
  | true=>
   refine fS ⟨_,rfl, ?_,jF.length - (i+1),by omega,rfl,aQ,rfl, ?_⟩
   ·rw[List.length_map,List.length_map]
    have:=List.length_filter_le (·.2) (its.take i)
    have:=List.length_take_le i its
    exact dD (by omega)
   ·rw[tf];simp
  | false=>
   refine lq ⟨jF.length - (i+1),by omega,rfl,aQ,rfl, ?_⟩
   rw[tf];simp
 ·have eM:i=jF.length:=by omega
  subst eM
  refine .inl ⟨⟨jF,aq.of h6,Nat.le_refl _⟩,fun p hp=> ?_⟩
  rw[yQ,show its.take its.length=its from List.take_length ..,pick]
  have s7:=sameNew (o:= .lst (List.map V.str [jA.getD j ""])) hp
  have Lc:=he6.same s7
  refine Wn (aah rfl Lc hk.cls hi hk.cZ (aai rfl Lc hk.cls hk.val ?_))
  refine⟨rfl,_,rfl,[jA.getD j ""],aq.of aw, ?_, ?_⟩
  ·unfold JoinOk
   show(!decide (0+ (jA.getD j "").length+ (Str.ofString "/").length>sizeLine))=true
   rw[decide_eq_false];rfl
   have:(Str.ofString "/").length=1:=rfl
   have:(1000:Nat)≤sizeLine:=by decide
   omega
  ·rw[join_one]
   exact q _ (s06.trans s7)
theorem aan{K:Frag}{c0 c1 c2 c3 c4 c5 c6 c7 c8 c9 jB jC jD cZ:Addr}(vs:List V)(H:Hp)(Q:VK)(h:yN K [c0,c1,c2,c3,c4,c5,c6,c7,c8,c9,jB,jC,jD] cZ vs H Q E0):
  aB (aM K [] (gW c0 c1 c2 c3 c4 c5 c6 c7 c8 c9 jB jC jD cZ)) d6 (Dn Q) (start iS vs) H:=by
 obtain⟨ea,D,j,rfl,he,hk,hj,q⟩:=h
 refine aaj (Γ:=aM K [] (gW c0 c1 c2 c3 c4 c5 c6 c7 c8 c9 jB jC jD cZ)) (cs:=[c0,c1,c2,c3,c4,c5,c6,c7,c8,c9,jB,jC,jD]) rfl (fun i c hi=> ?_) rfl he hk hj q
 have bV:i<13:=(List.getElem?_eq_some_iff.mp hi).1
 match i,bV with
 | 0,_ | 1,_ | 2,_ | 3,_ | 4,_ | 5,_ | 6,_ | 7,_ | 8,_ | 9,_ | 10,_ | 11,_ | 12,_=>exact congrArg V.ref (Option.some.inj hi)
theorem Run.good{l r:List Nat}{ps:List Pt}(h:Run l ps r)(hl: ∀c∈l,SG.cps.contains c=true)(hp: ∀p∈ps,pe p): ∀c∈r,SG.cps.contains c=true:=by
 induction h with
 | nil=>exact hl
 | keep e _ ih=>
  intro c hc
  rcases List.mem_append.mp hc with z | z
  ·exact hl c (List.mem_append.mpr (.inl z))
  ·exact ih (fun d hd=>hl d (List.mem_append.mpr (.inr hd))) (fun p h=>hp p (.tail _ h)) c z
 | put _ ih=>
  intro c hc
  rcases List.mem_append.mp hc with z | z
  ·exact(hp _ (.head _):sg _) c z
  ·exact ih hl (fun p h=>hp p (.tail _ h)) c z
 | cut _ ih=>exact ih (fun d hd=>hl d (List.mem_append.mpr (.inr hd))) (fun p h=>hp p (.tail _ h))
theorem Run.len{l r:List Nat}{ps:List Pt}(h:Run l ps r):r.length≤l.length+aU ps:=by
 induction h with
 | nil=>simp
 | @keep a l r n ps e _ ih=>
  have:aU (.keep n::ps)=0+aU ps:=by simp[aU,dU]
  simp only[List.length_append];omega
 | @put s l r ps _ ih=>
  have:aU (.put s::ps)=s.length+aU ps:=by simp[aU,dU]
  have e:=len_list s
  simp only[List.length_append];omega
 | @cut s l r ps _ ih=>
  have:aU (.cut s::ps)=s.length+aU ps:=by simp[aU,dU]
  simp only[List.length_append];omega
theorem Ld{x:Str}{i:Nat}(h:i<x.cps.toList.length):dj x.cps.toList ((i:Nat):Int)=some x.cps.toList[i]:=gB (by simp[h])
theorem aao{xs a b c:List V}(h:xs=a++ (b++c))(n:Int)(hn:n=b.length):eV xs (some (a.length:Int)) (some ((a.length:Int)+n))=b:=by
 have e1:(a.length:Int)+n=((a.length+b.length:Nat):Int):=by rw[hn];simp
 unfold eV
 rw[e1,HT.oE,HT.oE,h]
 have l1:(a++ (b++c)).length=a.length+ (b.length+c.length):=by simp
 rw[l1]
 have m1:min a.length (a.length+ (b.length+c.length))=a.length:=by omega
 have m2:min (a.length+b.length) (a.length+ (b.length+c.length))=a.length+b.length:=by omega
 rw[m1,m2,List.drop_left,show a.length+b.length - a.length=b.length by omega,List.take_left]
end L2.B
namespace L2.N
open PySem PySem.Spec PyProof.Rows L2.B
abbrev bj:=Key×Nat×Nat
def u_(H:Hp)(v:V)(r:bj):Prop:= ∃t n,v= .ref t∧H t=some (.tup [.ref n, .str ⟨#[r.2.2]⟩])∧H n=some (.tup [kV r.1, .int (r.2.1:Nat)])
abbrev de(H:Hp):List V→List bj→Prop:=Paired (u_ H)
theorem u_.mono{H H':Hp}{v:V}{r:bj}(t:lX H H')(h:u_ H v r):u_ H' v r:=by
 obtain⟨a,n,e,h1,h2⟩:=h
 exact⟨a,n,e,t _ _ h1,t _ _ h2⟩
theorem de.mono{H H':Hp}(t:lX H H'): ∀{vs:List V} {rs:List bj},de H vs rs→de H' vs rs
 | _,_, .nil=> .nil
 | _,_, .cons h r=> .cons (h.mono t) (de.mono t r)
theorem de.get{H:Hp}: ∀{vs:List V} {rs:List bj} {i:Nat} {v:V},de H vs rs→vs[i]?=some v→ ∃r,rs[i]?=some r∧u_ H v r
 | _,_,i,v, .nil,e=>by simp at e
 | _,_,0,v, .cons h r,e=>by simp at e;subst e;exact⟨_,rfl,h⟩
 | _,_,i+1,v, .cons h r,e=>by
  obtain⟨p,a,b⟩:=de.get (i:=i) r (by simpa using e)
  exact⟨p,by simpa using a,b⟩
theorem de.drop{H:Hp}: ∀(k:Nat) {vs:List V} {rs:List bj},de H vs rs→de H (vs.drop k) (rs.drop k)
 | 0,_,_,h=>h
 | k+1,_,_, .nil=> .nil
 | k+1,_,_, .cons _ r=>de.drop k r
theorem de.take{H:Hp}: ∀(k:Nat) {vs:List V} {rs:List bj},de H vs rs→de H (vs.take k) (rs.take k)
 | 0,_,_,_=> .nil
 | k+1,_,_, .nil=> .nil
 | k+1,_,_, .cons h r=> .cons h (de.take k r)
def d_(aH:Key):Nat→List Nat→List bj
 | _,[]=> []
 | m,c::l=> (aH,m,c)::d_ aH (m+1) l
theorem mj(aH:Key): ∀(m:Nat) (l:List Nat),(d_ aH m l).length=l.length
 | _,[]=>rfl
 | m,c::l=>by simp[d_,mj aH (m+1) l]
theorem Du(aH:Key): ∀(m:Nat) (l:List Nat) (i c:Nat),l[i]?=some c→(d_ aH m l)[i]?=some (aH,m+i,c)
 | m,[],i,c,h=>by simp at h
 | m,d::l,0,c,h=>by simp at h;subst h;rfl
 | m,d::l,i+1,c,h=>by
  have:=Du aH (m+1) l i c (by simpa using h)
  show(d_ aH (m+1) l)[i]?=_
  rw[this,show m+1+i=m+ (i+1) by omega]
theorem Le(aH:Key)(m:Nat)(l:List Nat)(i c:Nat)(h:l[i]?=some c):(d_ aH m l).take (i+1)=(d_ aH m l).take i++ [(aH,m+i,c)]:=by
 rw[List.take_add_one,Du aH m l i c h];rfl
def bJ(aH:Key):List bj→Nat→List At→List bj
 | _,_,[]=> []
 | rows,m, .P c::xs=> (aH,m,c)::bJ aH rows (m+1) xs
 | r::rows,m, .K::xs=>r::bJ aH rows m xs
 | [],m, .K::xs=>bJ aH [] m xs
 | _::rows,m, .C _::xs=>bJ aH rows m xs
 | [],m, .C _::xs=>bJ aH [] m xs
theorem va(aH:Key)(rows:List bj)(xs:List At): ∀(s:List Nat) (m:Nat),bJ aH rows m (s.map .P++xs)=d_ aH m s++bJ aH rows (m+s.length) xs
 | [],m=>rfl
 | c::s,m=>by
  show(aH,m,c)::bJ aH rows (m+1) (s.map .P++xs)=_
  rw[va aH rows xs s (m+1),List.length_cons,show m+1+s.length=m+ (s.length+1) by omega];rfl
theorem vb(aH:Key)(rows:List bj)(m:Nat)(xs:List At): ∀(a:List bj),bJ aH (a++rows) m (rK a.length++xs)=a++bJ aH rows m xs
 | []=>rfl
 | r::a=>by
  show r::bJ aH (a++rows) m (rK a.length++xs)=_
  rw[vb aH rows m xs a];rfl
theorem vd(aH:Key)(rows:List bj)(m:Nat)(xs:List At): ∀(a:List bj) (s:List Nat),a.length=s.length→bJ aH (a++rows) m (s.map .C++xs)=bJ aH rows m xs
 | [],[],_=>rfl
 | r::a,c::s,h=>vd aH rows m xs a s (by simpa using h)
 | [],c::s,h=>by simp at h
 | r::a,[],h=>by simp at h
def vf:Sp:=fun vs H Q E=> ∃x:Str,vs=[.str x]∧x.length≤100000∧ ∀(b:Addr) (H':Hp) (ys:List V),au H H'→H b=none→H' b=some (.lst ys)→de H' ys (d_ (.inr "old") 0 x.cps.toList)→Q (.ref b) H'
theorem aap{K:Frag}(vs:List V)(H:Hp)(Q:VK)(E:XK)(h:vf vs H Q E):aB (aM K [] [] (E:=E)) Cm (Dn Q) (start uF vs) H:=by
 obtain⟨x,rfl,hl,q⟩:=h
 have lx:=len_list x
 refine⟨_,rfl,cM (by omega),(x.length:Int),rfl,by omega,by omega,K6 (n:=x.length) (by omega) (fun i ys H2=>de H2 ys ((d_ (.inr "old") 0 x.cps.toList).take i)) .nil ?_ ?_⟩
 ·intro i ys H2 hi s2 hy Q' hq
  have uS:i<x.cps.toList.length:=by omega
  have hc:x.cps.toList[i]?=some x.cps.toList[i]:=List.getElem?_eq_getElem uS
  refine⟨_,rfl,(by show 2≤sizeLine;decide),fun n hn=> ⟨_,rfl,_,rfl, .inr (.inr (.inl ⟨x,0+ (i:Int),x.cps.toList[i],rfl,rfl,cM (by omega), ?_,(by show 2≤sizeLine;decide),fun t ht=> ?_⟩))⟩⟩
  ·rw[show(0:Int)+ (i:Int)=((i:Nat):Int) by omega];exact Ld (by omega)
  ·have s3:=sameNew (o:= .tup [V.str "old",V.int (0+ (i:Int))]) hn
   have s4:=sameNew (o:= .tup [V.ref n,V.str ⟨#[x.cps.toList[i]]⟩]) ht
   refine hq (.ref t) _ (s3.trans s4) ?_
   rw[Le (.inr "old") 0 _ i _ hc]
   refine Paired.snoc (hy.mono (cJ (s3.trans s4))) ⟨t,n,rfl,aw, ?_⟩
   rw[s4 _ _ aw]
   show some (HO.tup [V.str "old",V.int (0+ (i:Int))])=some (HO.tup [V.str "old",V.int ((0+i:Nat):Int)])
   rw[show(0:Int)+ (i:Int)=((0+i:Nat):Int) by omega]
 ·intro ys H2 p s2 hy hp
  rw[List.take_of_length_le (by rw[mj];omega)] at hy
  exact q p _ ys (s2.trans (sameNew hp)) (s2.free hp) aw (hy.mono (cJ (sameNew hp)))
def vg:Sp:=fun vs H Q E=> ∃(a b:Addr) (aH:Key) (rv xs:List V) (rows:List bj) (ps:List Pt) (l r:List Nat),vs=[.ref a, .ref b,kV aH]∧H a=some (.lst rv)∧de H rv rows∧H b=some (.lst xs)∧bR H xs ps∧(∀p∈ps,gf p)∧Run l ps r∧l.length=rows.length∧rows.length≤100000∧aU ps≤100000∧
 ∀(d:Addr) (H':Hp) (ys:List V),au H H'→H d=none→H' d=some (.lst ys)→de H' ys (bJ aH rows 0 (cj ps))→Q (.ref d) H'
theorem aaq{K:Frag}(vs:List V)(H:Hp)(Q:VK)(E:XK)(h:vg vs H Q E):aB (aM K [] [] (E:=E)) Cn (Dn Q) (start yf vs) H:=by
 obtain⟨a,b,aH,rv,xs,rows,ps,l,r,rfl,ha,vh,hb,dE,aE,mm,nK,Zs,anl,q⟩:=h
 have lx:=Paired.length dE
 have lr:=Paired.length vh
 refine⟨Nat.zero_le _,fun d0 ug=> ?_⟩
 have s0:=sameNew (o:= .lst []) ug
 refine⟨_,rfl,b,rfl,⟨_,aq.of (s0 _ _ hb)⟩,jO (K:=K) (a:=b) (xs:=xs) (fun i σ H2=> ∃(d:Addr) (ys v1 v2:List V) (dn r1 r2:List bj) (m:Nat) (l2 q2:List Nat) (w v:Option V),σ=[some (.ref a),some (.ref b),some (kV aH),some (.ref d),some (.int (v1.length:Int)),some (.int (m:Int)),w,v]∧au H H2∧H d=none∧H2 d=some (.lst ys)∧
   de H2 ys dn∧rv=v1++v2∧rows=r1++r2∧v1.length=r1.length∧bJ aH rows 0 (cj ps)=dn++bJ aH r2 m (cj (ps.drop i))∧Run l2 (ps.drop i) q2∧l2.length=r2.length∧dn.length≤r1.length+aU (ps.take i))
  ⟨d0,[],[],rv,[],[],rows,0,l,r,none,none,rfl,s0,ug,aw, .nil,rfl,rfl,rfl,rfl,mm,nK,Nat.zero_le _⟩
  (fun i σ H2 _ ⟨_,_,_,_,_,_,_,_,_,_,_,_,_,s2,_⟩=>aq.of (s2 _ _ hb)) ?_ ?_⟩
 ·rintro i y σ H2 hi ⟨d,ys,v1,v2,dn,r1,r2,m,l2,q2,w,v,rfl,s2,fd,vi,eB,ev,er,el,eg,vj,jS,hdn⟩
  obtain⟨pt,iV,lZ⟩:=dE.get hi
  obtain⟨pa,rfl,hpa⟩:=lZ.mono (cJ s2)
  have bV:i<ps.length:=(List.getElem?_eq_some_iff.mp iV).1
  have ed:ps.drop i=pt::ps.drop (i+1):=by
   rw[List.drop_eq_getElem_cons bV]
   congr 1
   exact Option.some.inj ((List.getElem?_eq_getElem bV).symm.trans iV)
  rw[ed] at vj eg
  rw[kh] at eg
  have yR:=aE pt (List.mem_of_getElem? iV)
  have yA:=Paired.length eB
  have ts:=Ku iV
  have tt:=C8 ps (i+1)
  have hrr:rows.length=r1.length+r2.length:=by rw[er,List.length_append]
  refine⟨pa,_,rfl, .inl (aL.of hpa),rfl,_,_,rfl,_,_,rfl,rfl, ?_⟩
  cases pt with
  | put s=>
   have ls:=len_list s
   have je:s.length≤100000:=by have:dU (.put s)=s.length:=rfl;omega
   refine⟨_,rfl,_,rfl, ?_⟩
   refine⟨_,rfl,_,rfl,cM yR.1.1,(s.length:Int),rfl,by omega,by omega,K6 (n:=s.length) (by omega) (fun j zs H3=>de H3 zs ((d_ aH m s.cps.toList).take j)) .nil ?_ ?_⟩
   ·intro j zs H3 hj s3 hz Q' hq
    have uS:j<s.cps.toList.length:=by omega
    have hc:s.cps.toList[j]?=some s.cps.toList[j]:=List.getElem?_eq_getElem uS
    refine⟨_,rfl,_,rfl,_,rfl,(by show 2≤sizeLine;decide),fun n hn=> ⟨_,rfl,_,rfl, .inr (.inr (.inl ⟨s,0+ (j:Int),s.cps.toList[j],rfl,rfl,cM (by omega), ?_,(by show 2≤sizeLine;decide),fun t ht=> ?_⟩))⟩⟩
    ·rw[show(0:Int)+ (j:Int)=((j:Nat):Int) by omega];exact Ld uS
    ·have s4:=sameNew (o:= .tup [kV aH,V.int ((m:Int)+ (0+ (j:Int)))]) hn
     have s5:=sameNew (o:= .tup [V.ref n,V.str ⟨#[s.cps.toList[j]]⟩]) ht
     refine hq (.ref t) _ (s4.trans s5) ?_
     rw[Le aH m _ j _ hc]
     refine Paired.snoc (hz.mono (cJ (s4.trans s5))) ⟨t,n,rfl,aw, ?_⟩
     rw[s5 _ _ aw]
     show some (HO.tup [kV aH,V.int ((m:Int)+ (0+ (j:Int)))])=some (HO.tup [kV aH,V.int ((m+j:Nat):Int)])
     rw[show(m:Int)+ (0+ (j:Int))=((m+j:Nat):Int) by omega]
   ·intro zs H3 p s3 hz hp
    rw[List.take_of_length_le (by rw[mj];omega)] at hz
    have KJ:=Paired.length hz
    rw[mj] at KJ
    have s4:=sameNew (o:= .lst zs) hp
    have h4d:=s4 _ _ (s3 _ _ vi)
    refine .inl ⟨d,p,ys,zs,rfl,rfl,h4d,aw,cM (by omega),fun e he=> ?_⟩
    have s5:=sameNew (o:= .lst (ys++zs)) he
    have rQ:=s3.trans (s4.trans s5)
    refine⟨_,rfl,_,rfl,cM yR.1.1, ?_⟩
    have aau:Run l2 (ps.drop (i+1)) (q2.drop s.cps.toList.length):=by
     cases vj with
     | put hr=>rw[List.drop_left];exact hr
    refine⟨e,ys++zs,v1,v2,dn++d_ aH m s.cps.toList,r1,r2,m+s.length,l2,_,some (.str "put"),some (.str s), ?_,s2.trans rQ,(s2.trans (s3.trans s4)).free he,aw,Paired.app ((eB.mono (cJ rQ))) (hz.mono (cJ (s4.trans s5))),ev,er,el, ?_,aau,jS, ?_⟩
    ·show[_,_,_,_,_,some (V.int ((m:Int)+ (s.length:Int))),_,_]=_
     rw[Int.natCast_add];rfl
    ·rw[eg]
     show dn++bJ aH r2 m (s.cps.toList.map At.P++_)=_
     rw[va,List.append_assoc,ls]
    ·rw[List.length_append,mj,ts]
     have:dU (.put s)=s.length:=rfl
     omega
  | cut s=>
   have ls:=len_list s
   obtain⟨la,lb,qa,qb,Dv,eq1,Dw,one⟩:=Dl vj
   obtain⟨o1,o2⟩:=one
   have hla:la.length=s.length:=by rw[o1,ls]
   rw[Dv,List.length_append] at jS
   refine⟨_,rfl,_,rfl,_,rfl,_,rfl,_,rfl,_,rfl,cM yR.1.1, ?_⟩
   have h1:s.length≤r2.length:=by omega
   have rP:v1.length+v2.length=rows.length:=by rw[←lr,ev,List.length_append]
   refine⟨d,ys,v1++v2.take s.length,v2.drop s.length,dn,r1++r2.take s.length,r2.drop s.length,m,lb,qb,some (.str "cut"),some (.str s), ?_,s2,fd,vi,eB,by rw[List.append_assoc,List.take_append_drop];exact ev,by rw[List.append_assoc,List.take_append_drop];exact er,by simp only[List.length_append,List.length_take];omega, ?_,Dw,by rw[List.length_drop];omega, ?_⟩
   ·show[_,_,_,_,some (V.int ((v1.length:Int)+ (s.length:Int))),_,_,_]=_
    rw[List.length_append,List.length_take,show min s.length v2.length=s.length by omega,Int.natCast_add];rfl
   ·rw[eg]
    congr 1
    show bJ aH r2 m (s.cps.toList.map At.C++_)=_
    have:=vd aH (r2.drop s.length) m (cj (ps.drop (i+1))) (r2.take s.length) s.cps.toList (by rw[List.length_take,←ls];omega)
    rw[List.take_append_drop] at this
    exact this
   ·have:dU (.cut s)=s.length:=rfl
    simp only[List.length_append,List.length_take];omega
  | keep n=>
   have ip:(1:Int)≤n:=yR
   obtain⟨la,lb,qa,qb,Dv,eq1,Dw,one⟩:=Dl vj
   obtain⟨o1,o2⟩:=one
   rw[Dv,List.length_append] at jS
   have h1:n.toNat≤r2.length:=by omega
   have rP:v1.length+v2.length=rows.length:=by rw[←lr,ev,List.length_append]
   have yP:de H2 (v2.take n.toNat) (r2.take n.toNat):=by
    have:=(vh.mono (cJ s2)).drop v1.length
    rw[ev,er,List.drop_left,el,List.drop_left] at this
    exact this.take n.toNat
   refine⟨_,rfl,_,rfl,_,rfl,_,rfl, ?_⟩
   refine⟨_,rfl,_,rfl,_,rfl,_,rfl,_,rfl,_,rfl,_,rfl, .inl ⟨rv,aq.of (s2 _ _ ha),fun p hp=> ?_⟩⟩
   rw[aao (xs:=rv) (a:=v1) (b:=v2.take n.toNat) (c:=v2.drop n.toNat) (by rw[List.take_append_drop];exact ev) n (by rw[List.length_take];omega)]
   have s4:=sameNew (o:= .lst (v2.take n.toNat)) hp
   have aQ:(v2.take n.toNat).length=n.toNat:=by rw[List.length_take];omega
   refine .inl ⟨d,p,ys,v2.take n.toNat,rfl,rfl,s4 _ _ vi,aw,cM (by omega),fun e he=> ?_⟩
   have s5:=sameNew (o:= .lst (ys++v2.take n.toNat)) he
   have rQ:=s4.trans s5
   refine⟨_,rfl,_,rfl, ?_⟩
   refine⟨e,ys++v2.take n.toNat,v1++v2.take n.toNat,v2.drop n.toNat,dn++r2.take n.toNat,r1++r2.take n.toNat,r2.drop n.toNat,m,lb,qb,some (.str "keep"),some (.int n), ?_,s2.trans rQ,(s2.trans s4).free he,aw,Paired.app (eB.mono (cJ rQ)) (yP.mono (cJ rQ)),by rw[List.append_assoc,List.take_append_drop];exact ev,by rw[List.append_assoc,List.take_append_drop];exact er,by simp only[List.length_append,List.length_take];omega, ?_,Dw,by rw[List.length_drop];omega, ?_⟩
   ·show[_,_,_,_,some (V.int ((v1.length:Int)+n)),_,_,_]=_
    rw[List.length_append,aQ,show(v1.length:Int)+n=((v1.length+n.toNat:Nat):Int) by omega];rfl
   ·rw[eg,List.append_assoc]
    congr 1
    show bJ aH r2 m (rK n.toNat++_)=_
    have:=vb aH (r2.drop n.toNat) m (cj (ps.drop (i+1))) (r2.take n.toNat)
    rw[List.take_append_drop,List.length_take,show min n.toNat r2.length=n.toNat by omega] at this
    exact this
   ·have:dU (.keep n)=0:=rfl
    simp only[List.length_append,List.length_take];omega
 ·rintro σ H2 ⟨d,ys,v1,v2,dn,r1,r2,m,l2,q2,w,v,rfl,s2,fd,vi,eB,ev,er,el,eg,vj,jS,hdn⟩
  rw[lx,List.drop_length] at eg
  have e0:bJ aH r2 m (cj [])=[]:=by cases r2<;>rfl
  rw[e0,List.append_nil] at eg
  rw[←eg] at eB
  exact⟨_,rfl,q d H2 ys s2 fd vi eB⟩
end L2.N
namespace L2.B
open PySem PySem.Spec PyProof.Rows
theorem pF{k:Str}{v:V}{r:List (Str×V)}:((k,v)::r).lookup k=some v:=by simp[List.lookup]
theorem hV{k j:Str}{v:V}{r:List (Str×V)}(h: ¬k=j):((j,v)::r).lookup k=r.lookup k:=by
 have:(k==j)=false:=by simpa using h
 simp[List.lookup,this]
theorem ki{k j:Str}{v w:V}{r:List (Str×V)}(h: ¬j=k):cI k v ((j,w)::r)=(j,w)::cI k v r:=by simp[cI,h]
end L2.B
namespace L2.B
def gT:Nat→Nat→List (Nat×Nat)→Prop
 | _,_,[]=>True
 | a,b,x::r=>a≤x.1∧b≤x.2∧gT (x.1+1) (x.2+1) r
theorem gT.low: ∀{a b a' b':Nat} {ks:List (Nat×Nat)},gT a b ks→a'≤a→b'≤b→gT a' b' ks
 | _,_,_,_,[],_,_,_=>trivial
 | _,_,_,_,_::_,h,h1,h2=> ⟨Nat.le_trans h1 h.1,Nat.le_trans h2 h.2.1,h.2.2⟩
theorem gT.mem: ∀{a b:Nat} {ks:List (Nat×Nat)},gT a b ks→ ∀x∈ks,a≤x.1∧b≤x.2
 | _,_,[],_,x,h=>by cases h
 | a,b,y::r,h,x,hx=>by
  rcases List.mem_cons.mp hx with rfl | z
  ·exact⟨h.1,h.2.1⟩
  ·have:=gT.mem h.2.2 x z
   have:=h.1
   have:=h.2.1
   omega
def dv:Nat→List (Nat×Nat)→Nat→Nat
 | acc,[],_=>acc
 | acc,x::r,p=>if x.1<p then dv (x.2+1) r p else acc
theorem Lf: ∀{acc:Nat} {ks:List (Nat×Nat)} {g p:Nat},acc≤g→(∀x∈ks,x.2<g)→dv acc ks p≤g
 | _,[],_,_,h,_=>h
 | acc,x::r,g,p,h,hg=>by
  simp only[dv]
  split
  ·exact Lf (hg x List.mem_cons_self) fun y hy=>hg y (List.mem_cons_of_mem _ hy)
  ·exact h
def iY(o n:Nat):Nat→List (Nat×Nat)
 | 0=> []
 | k+1=> (o,n)::iY (o+1) (n+1) k
def cQ:List (Nat×Nat×Nat)→List (Nat×Nat)
 | []=> []
 | x::r=>iY x.1 x.2.1 x.2.2++cQ r
def iy:Nat→Nat→List (Nat×Nat×Nat)→Prop
 | _,_,[]=>True
 | a,b,x::r=>a≤x.1∧b≤x.2.1∧1≤x.2.2∧iy (x.1+x.2.2) (x.2.1+x.2.2) r
theorem Lg: ∀(k o n:Nat) {r:List (Nat×Nat)},gT (o+k) (n+k) r→gT o n (iY o n k++r)
 | 0,o,n,r,h=>h
 | k+1,o,n,r,h=> ⟨Nat.le_refl _,Nat.le_refl _,Lg k (o+1) (n+1) (by rw[Nat.add_right_comm o 1 k,Nat.add_right_comm n 1 k];exact h)⟩
theorem rR: ∀{rs:List (Nat×Nat×Nat)} {a b:Nat},iy a b rs→gT a b (cQ rs)
 | [],_,_,_=>trivial
 | x::r,a,b,h=> (Lg x.2.2 x.1 x.2.1 (rR h.2.2.2)).low h.1 h.2.1
theorem yS: ∀{acc p:Nat} {ks:List (Nat×Nat)} {a b:Nat},gT a b ks→p≤a→dv acc ks p=acc
 | _,_,[],_,_,_,_=>rfl
 | acc,p,x::r,a,b,h,hp=>by
  simp only[dv]
  rw[if_neg (by have:=h.1;omega)]
theorem Lh: ∀(k o n acc p:Nat) (r:List (Nat×Nat)) {b:Nat},gT (o+k) b r→o<p→p≤o+k→dv acc (iY o n k++r) p=n+ (p - o)
 | 0,o,n,acc,p,r,_,_,h1,h2=>by omega
 | k+1,o,n,acc,p,r,b,h,h1,h2=>by
  show(if o<p then dv (n+1) (iY (o+1) (n+1) k++r) p else acc)=_
  rw[if_pos h1]
  have h':gT (o+1+k) b r:=by rw[Nat.add_right_comm o 1 k];exact h
  by_cases q:o+1<p
  ·rw[Lh k (o+1) (n+1) (n+1) p r h' q (by omega)];omega
  ·obtain rfl:p=o+1:=by omega
   cases k with
   | zero=>
    show dv (n+1) r (o+1)=_
    rw[yS h (Nat.le_refl _)];omega
   | succ k=>
    show(if o+1<o+1 then _ else n+1)=_
    rw[if_neg (by omega)];omega
theorem Li: ∀(k o n acc p:Nat) (r:List (Nat×Nat)),o+ (k+1) <p→dv acc (iY o n (k+1)++r) p=dv (n+ (k+1)) r p
 | 0,o,n,acc,p,r,h=>by
  show(if o<p then dv (n+1) r p else acc)=_
  rw[if_pos (by omega)]
 | k+1,o,n,acc,p,r,h=>by
  show(if o<p then dv (n+1) (iY (o+1) (n+1) (k+1)++r) p else acc)=_
  rw[if_pos (by omega),Li k (o+1) (n+1) (n+1) p r (by omega),show n+1+ (k+1)=n+ (k+1+1) by omega]
end L2.B
namespace L2.B
def cU(q:Nat→Bool)(rs:List (Nat×Nat×Nat)):Nat:=(rs.filter fun x=>q x.1).length
def mq(acc:Nat)(rs:List (Nat×Nat×Nat))(p:Nat):Nat:=match cU (fun o=>decide (o<p)) rs with
 | 0=>acc
 | c+1=>match rs[c]? with
  | some x=>x.2.1+min x.2.2 (p - x.1)
  | none=>acc
theorem Lj(q:Nat→Bool)(x:Nat×Nat×Nat)(r:List (Nat×Nat×Nat)):cU q (x::r)=(if q x.1 then 1 else 0)+cU q r:=by
 unfold cU
 by_cases h:q x.1=true
 ·rw[List.filter_cons_of_pos (by exact h),if_pos h,List.length_cons];omega
 ·rw[List.filter_cons_of_neg (by exact h),if_neg h];omega
theorem Dx{q:Nat→Bool}: ∀{rs:List (Nat×Nat×Nat)} {a b:Nat},iy a b rs→(∀o,a≤o→q o=false)→cU q rs=0
 | [],_,_,_,_=>rfl
 | x::r,a,b,h,hq=>by
  rw[Lj,hq x.1 h.1,Dx h.2.2.2 fun o ho=>hq o (by have:=h.1;omega)]
  rfl
theorem Lk(q:Nat→Bool)(rs:List (Nat×Nat×Nat)):cU q rs≤rs.length:=List.length_filter_le _ _
theorem Ll: ∀{rs:List (Nat×Nat×Nat)} {acc a p:Nat},iy a acc rs→mq acc rs p=dv acc (cQ rs) p
 | [],_,_,_,_=>rfl
 | x::r,acc,a,p,h=>by
  obtain⟨o,n,k⟩:=x
  have h4:iy (o+k) (n+k) r:=h.2.2.2
  have hk:1≤k:=h.2.2.1
  show mq acc ((o,n,k)::r) p=dv acc (iY o n k++cQ r) p
  by_cases h1:o<p
  ·have e1:cU (fun o=>decide (o<p)) ((o,n,k)::r)=cU (fun o=>decide (o<p)) r+1:=by
    rw[Lj,if_pos (by simpa using h1)];omega
   by_cases h2:p≤o+k
   ·have e2:cU (fun o=>decide (o<p)) r=0:=Dx h4 fun o' ho=>by simp;omega
    rw[Lh k o n acc p (cQ r) (rR h4) h1 h2]
    unfold mq
    rw[e1,e2]
    show n+min k (p - o)=_
    omega
   ·obtain⟨k',rfl⟩: ∃k',k=k'+1:=⟨k - 1,by omega⟩
    rw[Li k' o n acc p (cQ r) (by omega),←Ll (acc:=n+ (k'+1)) h4]
    unfold mq
    rw[e1]
    show(match ((o,n,k'+1)::r)[cU (fun o=>decide (o<p)) r]? with | some x=>x.2.1+min x.2.2 (p - x.1) | none=>acc)=_
    cases e3:cU (fun o=>decide (o<p)) r with
    | zero=>
     show n+min (k'+1) (p - o)=n+ (k'+1)
     omega
    | succ c=>
     have hc:=Lk (fun o=>decide (o<p)) r
     have g:r[c]?=some (r[c]'(by omega)):=List.getElem?_eq_getElem _
     rw[List.getElem?_cons_succ]
     show(match r[c]? with | some x=>_ | none=>_)=(match r[c]? with | some x=>_ | none=>_)
     rw[g]
  ·have e1:cU (fun o=>decide (o<p)) ((o,n,k)::r)=0:=Dx (a:=o) (b:=n) ⟨Nat.le_refl _,Nat.le_refl _,hk,h4⟩ fun o' ho=>by simp;omega
   have i:=rR (rs:=(o,n,k)::r) h
   unfold mq
   rw[e1]
   show acc=dv acc (cQ ((o,n,k)::r)) p
   have i2:gT o n (cQ ((o,n,k)::r)):=rR (rs:=(o,n,k)::r) ⟨Nat.le_refl _,Nat.le_refl _,hk,h4⟩
   rw[yS i2 (by omega)]
end L2.B
namespace L2.B
def dM(xs:List Int)(most:Int):Nat:=(xs.filter fun x=>decide (x≤most)).length
def yT(xs:List Int):Prop:=xs.Pairwise (· ≤ ·)
theorem Lm(xs:List Int)(most:Int):dM xs most≤xs.length:=List.length_filter_le _ _
theorem Ln(a b:List Int)(most:Int):dM (a++b) most=dM a most+dM b most:=by simp[dM]
theorem aav{xs:List Int}{most:Int}(h: ∀x∈xs,x≤most):dM xs most=xs.length:=by
 unfold dM
 rw[List.filter_eq_self.mpr fun x hx=>by simpa using h x hx]
theorem aaw{xs:List Int}{most:Int}(h: ∀x∈xs,most<x):dM xs most=0:=by
 unfold dM
 rw[List.length_eq_zero_iff,List.filter_eq_nil_iff]
 intro x hx
 have:=h x hx
 simp;omega
theorem aax{xs:List Int}{most x:Int}{m:Nat}(h:yT xs)(g:xs[m]?=some x)(hx:x≤most):m+1≤dM xs most:=by
 have hm:=(List.getElem?_eq_some_iff.mp g).1
 have e:xs=xs.take (m+1)++xs.drop (m+1):=(List.take_append_drop _ _).symm
 have a: ∀y∈xs.take (m+1),y≤most:=by
  intro y hy
  obtain⟨j,hj,rfl⟩:=List.getElem_of_mem hy
  rw[List.length_take] at hj
  rw[List.getElem_take]
  have e2:xs[m]=x:=(List.getElem?_eq_some_iff.mp g).2
  by_cases q:j=m
  ·subst q;omega
  ·have:=List.pairwise_iff_getElem.mp h j m (by omega) hm (by omega)
   omega
 have:dM xs most=dM (xs.take (m+1)) most+dM (xs.drop (m+1)) most:=by rw[←Ln,←e]
 rw[this,aav a,List.length_take]
 omega
theorem Lo{xs:List Int}{most x:Int}{m:Nat}(h:yT xs)(g:xs[m]?=some x)(hx: ¬x≤most):dM xs most≤m:=by
 have hm:=(List.getElem?_eq_some_iff.mp g).1
 have e:xs=xs.take m++xs.drop m:=(List.take_append_drop _ _).symm
 have a: ∀y∈xs.drop m,most<y:=by
  intro y hy
  obtain⟨j,hj,rfl⟩:=List.getElem_of_mem hy
  rw[List.length_drop] at hj
  rw[List.getElem_drop]
  have e2:xs[m]=x:=(List.getElem?_eq_some_iff.mp g).2
  by_cases q:j=0
  ·subst q;simp;omega
  ·have:=List.pairwise_iff_getElem.mp h m (m+j) hm (by omega) (by omega)
   omega
 have:dM xs most=dM (xs.take m) most+dM (xs.drop m) most:=by rw[←Ln,←e]
 have l:=Lm (xs.take m) most
 rw[this,aaw a]
 rw[List.length_take] at l
 omega
end L2.B
namespace L2.B
open PySem PySem.Spec PyProof.Rows
def bp:List Pt→Nat→Nat→List (Nat×Nat×Nat)
 | [],_,_=> []
 | .keep k::r,o,n=> (o,n,k.toNat)::bp r (o+k.toNat) (n+k.toNat)
 | .put s::r,o,n=>bp r o (n+s.length)
 | .cut s::r,o,n=>bp r (o+s.length) n
def bx:List Pt→Nat
 | []=>0
 | .keep k::r=>k.toNat+bx r
 | .put _::r=>bx r
 | .cut s::r=>s.length+bx r
def cE:List Pt→Nat
 | []=>0
 | .keep k::r=>k.toNat+cE r
 | .put s::r=>s.length+cE r
 | .cut _::r=>cE r
theorem iy.low{rs:List (Nat×Nat×Nat)}{a b a' b':Nat}(i:iy a b rs)(h1:a'≤a)(h2:b'≤b):iy a' b' rs:=by
 cases rs with
 | nil=>trivial
 | cons x r=>exact⟨Nat.le_trans h1 i.1,Nat.le_trans h2 i.2.1,i.2.2⟩
theorem rS: ∀(ps:List Pt) (o n:Nat),(∀p∈ps,gf p)→iy o n (bp ps o n)
 | [],_,_,_=>trivial
 | .keep k::r,o,n,h=> ⟨Nat.le_refl _,Nat.le_refl _,by have:(1:Int)≤k:=h _ List.mem_cons_self;show 1≤k.toNat;omega,rS r _ _ fun p hp=>h p (List.mem_cons_of_mem _ hp)⟩
 | .put s::r,o,n,h=> (rS r o (n+s.length) fun p hp=>h p (List.mem_cons_of_mem _ hp)).low (Nat.le_refl _) (Nat.le_add_right _ _)
 | .cut s::r,o,n,h=> (rS r (o+s.length) n fun p hp=>h p (List.mem_cons_of_mem _ hp)).low (Nat.le_add_right _ _) (Nat.le_refl _)
theorem yU: ∀(a b:List Pt) (o n:Nat),bp (a++b) o n=bp a o n++bp b (o+bx a) (n+cE a)
 | [],b,o,n=>by simp[bp,bx,cE]
 | .keep k::r,b,o,n=>by
  have ih:=yU r b (o+k.toNat) (n+k.toNat)
  simp only[List.cons_append,bp,bx,cE,ih,Nat.add_assoc]
 | .put s::r,b,o,n=>by
  have ih:=yU r b o (n+s.length)
  simp only[List.cons_append,bp,bx,cE,ih,Nat.add_assoc]
 | .cut s::r,b,o,n=>by
  have ih:=yU r b (o+s.length) n
  simp only[List.cons_append,bp,bx,cE,ih,Nat.add_assoc]
theorem aay(a b:List Pt):bx (a++b)=bx a+bx b:=by
 induction a with
 | nil=>simp[bx]
 | cons p r ih=>cases p<;>simp[bx,ih] <;>omega
theorem aaz(a b:List Pt):cE (a++b)=cE a+cE b:=by
 induction a with
 | nil=>simp[cE]
 | cons p r ih=>cases p<;>simp[cE,ih] <;>omega
theorem yV: ∀(ps:List Pt) (o n:Nat),(bp ps o n).length≤ps.length
 | [],_,_=>Nat.le_refl _
 | .keep k::r,o,n=>by simp only[bp,List.length_cons];have:=yV r (o+k.toNat) (n+k.toNat);omega
 | .put s::r,o,n=>by simp only[bp,List.length_cons];have:=yV r o (n+s.length);omega
 | .cut s::r,o,n=>by simp only[bp,List.length_cons];have:=yV r (o+s.length) n;omega
def t3(lo ln ll:Addr):List (Str×V):=[("olds", .ref lo),("news", .ref ln),("lengths", .ref ll)]
def t5(lo ln ll:Addr)(ov gv:Int):List (Str×V):=[("olds", .ref lo),("news", .ref ln),("lengths", .ref ll),("over", .int ov),("gives", .int gv)]
theorem aaA{lo ln ll:Addr}:cI "lengths" (.ref ll) (cI "news" (.ref ln) (cI "olds" (.ref lo) []))=t3 lo ln ll:=by
 have e1:cI "olds" (V.ref lo) []=[(("olds":Str),V.ref lo)]:=rfl
 have e2:cI "news" (V.ref ln) []=[(("news":Str),V.ref ln)]:=rfl
 unfold t3
 rw[e1,ki (by decide+kernel),e2,ki (by decide+kernel),ki (by decide+kernel)]
 rfl
theorem aaB{lo ln ll:Addr}{ov gv:Int}:cI "gives" (.int gv) (cI "over" (.int ov) (t3 lo ln ll))=t5 lo ln ll ov gv:=by
 have e1:cI "over" (V.int ov) []=[(("over":Str),V.int ov)]:=rfl
 unfold t3 t5
 rw[ki (by decide+kernel),ki (by decide+kernel),ki (by decide+kernel),ki (by decide+kernel),ki (by decide+kernel),e1,ki (by decide+kernel),ki (by decide+kernel)]
 rfl
theorem aaC{lo ln ll:Addr}:(t3 lo ln ll).lookup ("olds":Str)=some (V.ref lo):=pF
theorem aaD{lo ln ll:Addr}:(t3 lo ln ll).lookup ("news":Str)=some (V.ref ln):=(hV (by decide+kernel)).trans pF
theorem aaE{lo ln ll:Addr}:(t3 lo ln ll).lookup ("lengths":Str)=some (V.ref ll):=(hV (by decide+kernel)).trans ((hV (by decide+kernel)).trans pF)
theorem Lp{lo ln ll:Addr}{ov gv:Int}:(t5 lo ln ll ov gv).lookup ("olds":Str)=some (V.ref lo):=pF
theorem aaF{lo ln ll:Addr}{ov gv:Int}:(t5 lo ln ll ov gv).lookup ("news":Str)=some (V.ref ln):=(hV (by decide+kernel)).trans pF
theorem aaG{lo ln ll:Addr}{ov gv:Int}:(t5 lo ln ll ov gv).lookup ("lengths":Str)=some (V.ref ll):=(hV (by decide+kernel)).trans ((hV (by decide+kernel)).trans pF)
theorem Lq{lo ln ll:Addr}{ov gv:Int}:(t5 lo ln ll ov gv).lookup ("over":Str)=some (V.int ov):=(hV (by decide+kernel)).trans ((hV (by decide+kernel)).trans ((hV (by decide+kernel)).trans pF))
theorem Lr{lo ln ll:Addr}{ov gv:Int}{m:Str}(h1: ¬m="olds")(h2: ¬m="news")(h3: ¬m="lengths")(h4: ¬m="over")(h5: ¬m="gives"):(t5 lo ln ll ov gv).lookup m=none:=
 (hV h1).trans ((hV h2).trans ((hV h3).trans ((hV h4).trans ((hV h5).trans rfl))))
abbrev oI(rs:List (Nat×Nat×Nat)):List V:=(rs.map fun x=> ((x.1:Nat):Int)).map V.int
abbrev nI(rs:List (Nat×Nat×Nat)):List V:=(rs.map fun x=> ((x.2.1:Nat):Int)).map V.int
abbrev kI(rs:List (Nat×Nat×Nat)):List V:=(rs.map fun x=> ((x.2.2:Nat):Int)).map V.int
structure pG (C:Addr) (H:Hp) (p dx lo ln ll:Addr) (rs:List (Nat×Nat×Nat)) (ov gv:Nat):Prop where
 ob:H p=some (.ins C dx (t5 lo ln ll ov gv))
 ol:H lo=some (.lst (oI rs))
 nw:H ln=some (.lst (nI rs))
 le:H ll=some (.lst (kI rs))
abbrev aaH:List (Str×Sp):=[("need_change",yt)]
def nM(C:Addr):Sp:=fun vs H Q E=> ∃(p dx a:Addr) (xs:List V) (ps:List Pt),vs=[.ref p, .ref a]∧H p=some (.ins C dx [])∧H a=some (.lst xs)∧bR H xs ps∧(∀q∈ps,gf q)∧chainOk "" ps=true∧ps.length≤1000∧
 ∀(lo ln ll:Addr) (H':Hp),pG C H' p dx lo ln ll (bp ps 0 0) (bx ps) (cE ps)→(∀b o,H b=some o→b≠p→H' b=some o)→Q .aD H'
theorem aaI{K:Frag}{C:Addr}(T:uE K C)(vs:List V)(H:Hp)(Q:VK)(E:XK)(h:nM C vs H Q E):aB (aM K aaH [] (E:=E)) uD {nx:=fun _ H'=>Q .aD H',rt:=Q} (start yc vs) H:=by
 obtain⟨p,dx,a,xs,ps,rfl,hp,ha,dE,aE,ez,hl,k⟩:=h
 have lx:=Paired.length dE
 refine⟨_,rfl,a,xs,ps,rfl,ha,dE,aE,ez,fun H1 s1=> ?_⟩
 have Ls:=s1 _ _ hp
 refine⟨Nat.zero_le _,fun lo f1=> ?_⟩
 have kj:p≠lo:=bD Ls f1
 refine⟨_,rfl,p,C,dx,[],rfl,(by rw[aG kj];exact Ls),T.cl,T.ye,(by show 0<1000;decide), ?_⟩
 refine⟨Nat.zero_le _,fun ln f2=> ?_⟩
 have nN:p≠ln:=fun z=>by rw[←z,aw] at f2;cases f2
 have vk:lo≠ln:=fun z=>by rw[←z,aG kj.symm,aw] at f2;cases f2
 refine⟨_,rfl,p,C,dx,_,rfl,(by rw[aG nN,aw]),T.cl,T.Ci,(by show 1<1000;decide), ?_⟩
 refine⟨Nat.zero_le _,fun ll f3=> ?_⟩
 have pH:p≠ll:=fun z=>by rw[←z,aw] at f3;cases f3
 have yW:ln≠ll:=fun z=>by rw[←z,aG nN.symm,aw] at f3;cases f3
 have yX:lo≠ll:=fun z=>by rw[←z,aG kj.symm,aG vk,aG kj.symm,aw] at f3;cases f3
 refine⟨_,rfl,p,C,dx,_,rfl,(by rw[aG pH,aw]),T.cl,T.Cj,(by show 2<1000;decide), ?_⟩
 have fb:H1 ln=none:=by
  rw[aG nN.symm,aG vk.symm] at f2;exact f2
 have ff:H1 ll=none:=by
  rw[aG pH.symm,aG yW.symm,aG pH.symm,aG yX.symm] at f3;exact f3
 generalize vm:upd (upd (upd (upd (upd (upd H1 lo (.lst [])) p (.ins C dx (cI "olds" (.ref lo) []))) ln (.lst [])) p (.ins C dx (cI "news" (.ref ln) (cI "olds" (.ref lo) [])))) ll (.lst [])) p (.ins C dx (cI "lengths" (.ref ll) (cI "news" (.ref ln) (cI "olds" (.ref lo) []))))=H2
 have ob2:H2 p=some (.ins C dx (t3 lo ln ll)):=by
  rw[←vm,aw]
  exact congrArg (fun l=>some (HO.ins C dx l)) aaA
 have ol2:H2 lo=some (.lst []):=by rw[←vm,aG kj.symm,aG yX,aG kj.symm,aG vk,aG kj.symm,aw]
 have nw2:H2 ln=some (.lst []):=by rw[←vm,aG nN.symm,aG yW,aG nN.symm,aw]
 have le2:H2 ll=some (.lst []):=by rw[←vm,aG pH.symm,aw]
 have b2: ∀b o,H1 b=some o→b≠p→H2 b=some o:=fun b o e cU=>by
  rw[←vm,aG cU,aG (bD e ff),aG cU,aG (bD e fb),aG cU,aG (bD e f1)];exact e
 have Lu:p≠a:=FJ hp ha (by intro z;cases z)
 have gR:=s1 _ _ ha
 have yK:=b2 _ _ gR Lu.symm
 have fr: ∀{H3:Hp},(∀b o,H2 b=some o→b≠p→b≠lo→b≠ln→b≠ll→H3 b=some o)→ ∀b o,H1 b=some o→b≠p→H3 b=some o:=fun {H3} h b o e cU=>h b o (b2 b o e cU) cU (bD e f1) (bD e fb) (bD e ff)
 have aaN: ∀{H3:Hp},(∀b o,H1 b=some o→b≠p→H3 b=some o)→lX H H3:=fun {H3} h b zs e=>h b _ (s1 _ _ e) (fun z=>by rw[z,hp] at e;cases e)
 refine⟨_,rfl,a,rfl,⟨_,aq.of yK⟩,jO (K:=K) (a:=a) (xs:=xs) (fun i σ H3=> ∃(u u':Option V),σ=[some (.ref p),some (.ref a),some (.int ((bx (ps.take i):Nat):Int)),some (.int ((cE (ps.take i):Nat):Int)),u,u']∧(∀b o,H2 b=some o→b≠p→b≠lo→b≠ln→b≠ll→H3 b=some o)∧
   H3 p=some (.ins C dx (t3 lo ln ll))∧H3 lo=some (.lst (oI (bp (ps.take i) 0 0)))∧H3 ln=some (.lst (nI (bp (ps.take i) 0 0)))∧H3 ll=some (.lst (kI (bp (ps.take i) 0 0))))
  ⟨none,none,rfl,fun b o e _ _ _ _=>e,ob2,ol2,nw2,le2⟩ (fun i σ H3 _ ⟨_,_,_,b3,_⟩=>aq.of (fr b3 _ _ gR Lu.symm)) ?_ ?_⟩
 ·rintro i y σ H3 hi ⟨u,u',rfl,b3,rT,pI,rV,rW⟩
  obtain⟨pt,iV,lZ⟩:=dE.get hi
  obtain⟨c,rfl,hc3⟩:=lZ.mono (aaN (fr b3))
  have qh:=aE pt (List.mem_of_getElem? iV)
  have bV:i<ps.length:=(List.getElem?_eq_some_iff.mp iV).1
  have et:ps.take (i+1)=ps.take i++ [pt]:=by rw[List.take_add_one,iV];rfl
  have er:bp (ps.take (i+1)) 0 0=bp (ps.take i) 0 0++bp [pt] (bx (ps.take i)) (cE (ps.take i)):=by
   rw[et,yU,Nat.zero_add,Nat.zero_add]
  have eo:bx (ps.take (i+1))=bx (ps.take i)+bx [pt]:=by rw[et,aay]
  have eg:cE (ps.take (i+1))=cE (ps.take i)+cE [pt]:=by rw[et,aaz]
  have rl:=yV (ps.take i) 0 0
  rw[List.length_take] at rl
  refine⟨c,_,rfl, .inl (aL.of hc3),rfl,_,_,rfl,_,_,rfl,rfl, ?_⟩
  cases pt with
  | put s=>
   refine⟨_,rfl,_,rfl,_,rfl,_,rfl,cM qh.1.1, ?_⟩
   refine⟨some (.str "put"),some (.str s), ?_,b3,rT, ?_, ?_, ?_⟩
   ·rw[eo,eg]
    show[_,_,_,some (V.int ((cE (ps.take i):Int)+ (s.length:Int))),_,_]=_
    rw[show bx [Pt.put s]=0 from rfl,show cE [Pt.put s]=s.length from rfl,Nat.add_zero,Int.natCast_add]
    rfl
   ·rw[er,show bp [Pt.put s] (bx (ps.take i)) (cE (ps.take i))=[] from rfl,List.append_nil];exact pI
   ·rw[er,show bp [Pt.put s] (bx (ps.take i)) (cE (ps.take i))=[] from rfl,List.append_nil];exact rV
   ·rw[er,show bp [Pt.put s] (bx (ps.take i)) (cE (ps.take i))=[] from rfl,List.append_nil];exact rW
  | cut s=>
   refine⟨_,rfl,_,rfl,_,rfl,_,rfl,_,rfl,_,rfl,cM qh.1.1, ?_⟩
   refine⟨some (.str "cut"),some (.str s), ?_,b3,rT, ?_, ?_, ?_⟩
   ·rw[eo,eg]
    show[_,_,some (V.int ((bx (ps.take i):Int)+ (s.length:Int))),_,_,_]=_
    rw[show bx [Pt.cut s]=s.length from rfl,show cE [Pt.cut s]=0 from rfl,Nat.add_zero,Int.natCast_add]
    rfl
   ·rw[er,show bp [Pt.cut s] (bx (ps.take i)) (cE (ps.take i))=[] from rfl,List.append_nil];exact pI
   ·rw[er,show bp [Pt.cut s] (bx (ps.take i)) (cE (ps.take i))=[] from rfl,List.append_nil];exact rV
   ·rw[er,show bp [Pt.cut s] (bx (ps.take i)) (cE (ps.take i))=[] from rfl,List.append_nil];exact rW
  | keep n=>
   have hn:(1:Int)≤n:=qh
   obtain⟨m,rfl⟩:=Int.eq_ofNat_of_zero_le (show(0:Int)≤n by omega)
   refine⟨_,rfl,_,rfl,_,rfl,_,rfl, ?_⟩
   refine⟨_,rfl,p,C,dx,_,_,rfl,rT,T.cl,T.ye,aaC, .inl ⟨rfl,_,aq.of pI⟩,_,rfl,_,pI,dD (by simp;omega), ?_⟩
   have Lv:upd H3 lo (.lst (oI (bp (ps.take i) 0 0)++ [V.int (bx (ps.take i):Int)])) p=some (.ins C dx (t3 lo ln ll)):=by rw[aG kj];exact rT
   have Lw:upd H3 lo (.lst (oI (bp (ps.take i) 0 0)++ [V.int (bx (ps.take i):Int)])) ln=some (.lst (nI (bp (ps.take i) 0 0))):=by rw[aG vk.symm];exact rV
   refine⟨_,rfl,p,C,dx,_,_,rfl,Lv,T.cl,T.Ci,aaD, .inl ⟨rfl,_,aq.of Lw⟩,_,rfl,_,Lw,dD (by simp;omega), ?_⟩
   have Lx:upd (upd H3 lo (.lst (oI (bp (ps.take i) 0 0)++ [V.int (bx (ps.take i):Int)]))) ln (.lst (nI (bp (ps.take i) 0 0)++ [V.int (cE (ps.take i):Int)])) p=some (.ins C dx (t3 lo ln ll)):=by rw[aG nN];exact Lv
   have Ly:upd (upd H3 lo (.lst (oI (bp (ps.take i) 0 0)++ [V.int (bx (ps.take i):Int)]))) ln (.lst (nI (bp (ps.take i) 0 0)++ [V.int (cE (ps.take i):Int)])) ll=some (.lst (kI (bp (ps.take i) 0 0))):=by rw[aG yW.symm,aG yX.symm];exact rW
   refine⟨_,rfl,p,C,dx,_,_,rfl,Lx,T.cl,T.Cj,aaE, .inl ⟨rfl,_,aq.of Ly⟩,_,rfl,_,Ly,dD (by simp;omega), ?_⟩
   refine⟨_,rfl,_,rfl, ?_⟩
   refine⟨_,rfl,_,rfl, ?_⟩
   have ek:bp [Pt.keep (m:Int)] (bx (ps.take i)) (cE (ps.take i))=[(bx (ps.take i),cE (ps.take i),m)]:=rfl
   refine⟨some (.str "keep"),some (.int m), ?_,fun b o e n1 n2 n3 n4=> ?_, ?_, ?_, ?_, ?_⟩
   ·rw[eo,eg]
    show[_,_,some (V.int ((bx (ps.take i):Int)+ (m:Int))),some (V.int ((cE (ps.take i):Int)+ (m:Int))),_,_]=_
    rw[show bx [Pt.keep (m:Int)]=m from rfl,show cE [Pt.keep (m:Int)]=m from rfl,Int.natCast_add,Int.natCast_add]
    rfl
   ·rw[aG n4,aG n3,aG n2];exact b3 b o e n1 n2 n3 n4
   ·rw[aG pH];exact Lx
   ·rw[aG yX,aG vk,aw,er,ek];simp[oI]
   ·rw[aG yW,aw,er,ek];simp[nI]
   ·rw[aw,er,ek];simp[kI];rfl
 ·rintro σ H3 ⟨u,u',rfl,b3,rT,pI,rV,rW⟩
  rw[lx,List.take_length] at pI rV rW⊢
  refine⟨_,rfl,_,rfl,p,C,dx,_,rfl,rT,T.cl,T.Ck,(by show 3<1000;decide), ?_⟩
  refine⟨_,rfl,_,rfl,p,C,dx,_,rfl,aw,T.cl,T.Wx,(by show 4<1000;decide), ?_⟩
  refine k lo ln ll _ ⟨?_, ?_, ?_, ?_⟩ fun b o e cU=> ?_
  ·rw[aw]
   exact congrArg (fun l=>some (HO.ins C dx l)) aaB
  ·rw[aG kj.symm,aG kj.symm];exact pI
  ·rw[aG nN.symm,aG nN.symm];exact rV
  ·rw[aG pH.symm,aG pH.symm];exact rW
  ·rw[aG cU,aG cU];exact fr b3 b o (s1 _ _ e) cU
theorem dW{K:Frag}{sd:Addr→List (Key×V)→Prop}{H:Hp}{a:Addr}{xs:List V}{i:Int}{v:V}{Q:VK}(h:H a=some (.lst xs))(e:dj xs i=some v)(q:Q v H):m_ K sd (.ref a) (.int i) H Q:=
 .inl ⟨_,_,_,_,rfl,rfl,aq.of h,e,q⟩
def yY:Sp:=fun vs H Q E=> ∃(a:Addr) (xs:List Int) (most:Int),vs=[.ref a, .int most]∧H a=some (.lst (xs.map V.int))∧yT xs∧Q (.int (dM xs most)) H
theorem aaP{K:Frag}(vs:List V)(H:Hp)(Q:VK)(E:XK)(h:yY vs H Q E):aB (aM K [] [] (E:=E)) Ce {nx:=fun _ H'=>Q .aD H',rt:=Q} (start Cd vs) H:=by
 obtain⟨a,xs,most,rfl,ha,hr,q⟩:=h
 have hc:=Lm xs most
 refine⟨_,rfl, .inl ⟨_,aq.of ha, ?_⟩⟩
 rw[List.length_map]
 refine⟨fun m σ H'=> ∃(lo hi:Nat) (w:Option V),m=hi - lo∧σ=[some (.ref a),some (.int most),some (.int lo),some (.int hi),w]∧lo≤dM xs most∧dM xs most≤hi∧hi≤xs.length∧H'=H,
  ⟨_,0,xs.length,none,rfl,rfl,Nat.zero_le _,hc,Nat.le_refl _,rfl⟩, ?_⟩
 rintro m σ H' ⟨lo,hi,w,rfl,rfl,h1,h2,h3,rfl⟩
 refine⟨_,rfl,_,rfl,trivial,_,rfl, ?_⟩
 refine ie (fun h=> ?_) (fun h=> ?_)
 ·have aQ:(lo:Int) < (hi:Int):=of_decide_eq_true h
  refine⟨_,fun σ' H'' q=>q, ?_⟩
  refine⟨_,rfl,_,rfl,⟨by decide,by decide⟩, ?_⟩
  have hk:(lo+hi) / 2<xs.length:=by omega
  generalize hkk:(lo+hi) / 2=k at hk
  have hm:((lo:Int)+ (hi:Int)) / 2=(k:Int):=by omega
  show aB _ _ _ [some (V.ref a),some (V.int most),some (V.int lo),some (V.int hi),some (V.int (((lo:Int)+ (hi:Int)) / 2))] _
  rw[hm]
  have gk:xs[k]?=some xs[k]:=List.getElem?_eq_getElem hk
  have ik:dj (xs.map V.int) (k:Int)=some (.int xs[k]):=gB (by rw[List.getElem?_map,gk];rfl)
  refine⟨_,rfl,_,rfl,dW ha ik ⟨_,rfl,trivial,_,rfl, ?_⟩⟩
  refine ie (fun g=> ?_) (fun g=> ?_)
  ·have hle:xs[k]≤most:=of_decide_eq_true g
   exact⟨_,rfl,hi - (k+1),by omega,k+1,hi,some (V.int k),rfl,rfl,aax hr gk hle,h2,h3,rfl⟩
  ·have hle: ¬xs[k]≤most:=fun z=>g (decide_eq_true z)
   exact⟨_,rfl,k - lo,by omega,lo,k,some (V.int k),rfl,rfl,h1,Lo hr gk hle,by omega,rfl⟩
 ·have hle: ¬(lo:Int) < (hi:Int):=fun z=>h (decide_eq_true z)
  have e:dM xs most=lo:=by omega
  rw[e] at q
  exact⟨_,rfl,q⟩
theorem Lz(rs:List (Nat×Nat×Nat))(most:Int)(q:Nat→Bool)(h: ∀o:Nat,decide ((o:Int)≤most)=q o):dM (rs.map fun x=> ((x.1:Nat):Int)) most=cU q rs:=by
 unfold dM cU
 rw[List.filter_map,List.length_map]
 congr 1
 exact List.filter_congr fun x _=>h x.1
theorem LA: ∀{rs:List (Nat×Nat×Nat)} {a b:Nat},iy a b rs→ ∀y∈rs.map (fun x=> ((x.1:Nat):Int)),(a:Int)≤y
 | [],_,_,_,y,hy=>by cases hy
 | x::r,a,b,h,y,hy=>by
  rcases List.mem_cons.mp hy with rfl | z
  ·have:=h.1;show(a:Int)≤ (x.1:Int);omega
  ·have:=LA h.2.2.2 y z
   have:=h.1
   omega
theorem Dy: ∀{rs:List (Nat×Nat×Nat)} {a b:Nat},iy a b rs→yT (rs.map fun x=> ((x.1:Nat):Int))
 | [],_,_,_=>List.Pairwise.nil
 | x::r,a,b,h=>List.Pairwise.cons (fun y hy=>by have:=LA h.2.2.2 y hy;show(x.1:Int)≤y;omega) (Dy h.2.2.2)
theorem aaQ{rs:List (Nat×Nat×Nat)}{most:Int}{q:Nat→Bool}{c:Nat}{x:Nat×Nat×Nat}(hi:iy 0 0 rs)(hq: ∀o:Nat,decide ((o:Int)≤most)=q o)(e:cU q rs=c+1)(g:rs[c]?=some x):(x.1:Int)≤most:=by
 apply Decidable.byContradiction
 intro h
 have:=Lo (Dy hi) (show(rs.map fun x=> ((x.1:Nat):Int))[c]?=some (x.1:Int) by rw[List.getElem?_map,g];rfl) h
 rw[Lz rs most q hq,e] at this
 omega
theorem aaR{acc p:Nat}{rs:List (Nat×Nat×Nat)}(h:cU (fun o=>decide (o<p)) rs=0):mq acc rs p=acc:=by unfold mq;rw[h]
theorem aaS{acc p c:Nat}{rs:List (Nat×Nat×Nat)}{x:Nat×Nat×Nat}(h:cU (fun o=>decide (o<p)) rs=c+1)(g:rs[c]?=some x):mq acc rs p=x.2.1+min x.2.2 (p - x.1):=by
 unfold mq;rw[h]
 show(match rs[c]? with | some x=>x.2.1+min x.2.2 (p - x.1) | none=>acc)=_
 rw[g]
theorem aaT{rs:List (Nat×Nat×Nat)}{c:Nat}{i:Int}{x:Nat×Nat×Nat}(g:rs[c]?=some x)(h:i=c):dj (oI rs) i=some (.int (x.1:Nat)):=by
 rw[h];exact gB (by simp[oI,g])
theorem aaU{rs:List (Nat×Nat×Nat)}{c:Nat}{i:Int}{x:Nat×Nat×Nat}(g:rs[c]?=some x)(h:i=c):dj (nI rs) i=some (.int (x.2.1:Nat)):=by
 rw[h];exact gB (by simp[nI,g])
theorem aaV{rs:List (Nat×Nat×Nat)}{c:Nat}{i:Int}{x:Nat×Nat×Nat}(g:rs[c]?=some x)(h:i=c):dj (kI rs) i=some (.int (x.2.2:Nat)):=by
 rw[h];exact gB (by simp[kI,g])
abbrev tUp:List (Str×Sp):=[("many_upto",yY)]
def nP(C:Addr):Sp:=fun vs H Q E=> ∃(p dx lo ln ll:Addr) (rs:List (Nat×Nat×Nat)) (ov gv pl:Nat),vs=[.ref p, .int pl]∧pG C H p dx lo ln ll rs ov gv∧iy 0 0 rs∧Q (.int (dv 0 (cQ rs) pl:Nat)) H
theorem aaX{K:Frag}{C:Addr}(T:uE K C)(vs:List V)(H:Hp)(Q:VK)(E:XK)(h:nP C vs H Q E):aB (aM K tUp [] (E:=E)) Cg {nx:=fun _ H'=>Q .aD H',rt:=Q} (start Cf vs) H:=by
 obtain⟨p,dx,lo,ln,ll,rs,ov,gv,pl,rfl,S,hi,q⟩:=h
 refine⟨_,rfl,p,C,dx,_,_,rfl,S.ob,T.cl,T.ye,Lp,_,rfl,trivial,lo,_,_,rfl,S.ol,Dy hi, ?_⟩
 have hq: ∀o:Nat,decide ((o:Int)≤ (pl:Int) - 1)=(fun o=>decide (o<pl)) o:=fun o=>by simp only[decide_eq_decide];omega
 rw[Lz rs _ _ hq]
 rw[←Ll hi] at q
 have hb:=Lk (fun o=>decide (o<pl)) rs
 cases e:cU (fun o=>decide (o<pl)) rs with
 | zero=>
  rw[aaR e] at q
  exact⟨trivial,_,rfl,trivial,_,rfl,q⟩
 | succ c=>
  rw[e] at hb
  have gc:rs[c]?=some (rs[c]'(by omega)):=List.getElem?_eq_getElem _
  generalize hx:rs[c]'(by omega)=x at gc
  have hx1:=aaQ hi hq e gc
  rw[aaS e gc] at q
  have hc:((c+1:Nat):Int) - 1=(c:Int):=by omega
  refine⟨trivial,_,rfl,trivial,_,rfl,iF ?_ (by simp)⟩
  refine⟨_,rfl,p,C,dx,_,_,rfl,S.ob,T.cl,T.Ci,aaF,_,rfl,dW S.nw (aaU gc hc) ?_⟩
  refine⟨_,rfl,p,C,dx,_,_,rfl,S.ob,T.cl,T.Cj,aaG,_,rfl,dW S.le (aaV gc hc) ?_⟩
  refine⟨_,rfl,_,rfl,p,C,dx,_,_,rfl,S.ob,T.cl,T.ye,Lp,_,rfl,dW S.ol (aaT gc hc) ?_⟩
  refine⟨trivial, ?_⟩
  show Q (V.int ((x.2.1:Int)+ (if (pl:Int) - (x.1:Int) < (x.2.2:Int) then (pl:Int) - (x.1:Int) else (x.2.2:Int)))) H
  have ee:((x.2.1:Int)+ (if (pl:Int) - (x.1:Int) < (x.2.2:Int) then (pl:Int) - (x.1:Int) else (x.2.2:Int)))=((x.2.1+min x.2.2 (pl - x.1):Nat):Int):=by
   split<;>omega
  rw[ee];exact q
end L2.B
namespace L2.B
end L2.B
namespace L2
open PySem PySem.Spec PyProof.Rows
section
variable {Γ:aO} {D:Ends} {σ:St} {H:Hp} {r:List RS} {Q:VK} {QA:List V→Hp→Prop} {QT:Bool→Hp→Prop}
theorem LB{j:Nat}{m:Str}{o a:RE}(C:Addr)(sp:Sp)(hm:Γ.ms j=(C,sp))(h:ah Γ o σ H fun x H1=> ∃p dx fs,x= .ref p∧H1 p=some (.ins C dx fs)∧fs.lookup m=none∧ah Γ a σ H1 fun y H2=>sp [x,y] H2 Q Γ.E):ah Γ (.qk j m o [a]) σ H Q:=by
 show wJ (Γ.ms j).1 m (Γ.ms j).2 [] Γ.E (ah Γ o) (aS Γ [a]) σ H Q
 rw[hm];exact h
theorem LC{j:Nat}{a:RE}(C:Addr)(sp:Sp)(hm:Γ.kt j=(C,sp))(h:ah Γ a σ H fun y H1=> ∀x dx,H1 x=none→H1 dx=none→dx≠x→sp [.ref x,y] (upd (upd H1 dx (.own x)) x (.ins C dx [])) (fun v H2=>v= .aD∧Q (.ref x) H2) Γ.E):ah Γ (.make j [a]) σ H Q:=by
 show zX (Γ.kt j).1 (Γ.kt j).2 [] Γ.E (aS Γ [a]) σ H Q
 rw[hm];exact h
theorem df{c:RE}{t e:List RS}(h:aZ Γ c σ H fun b H1=>if b=true then aB Γ t {D with nx:=aB Γ r D} σ H1 else aB Γ e {D with nx:=aB Γ r D} σ H1):aB Γ (.ite c t e::r) D σ H:=h
theorem e7{op:CmpOp}{a b:RE}(h:ah Γ a σ H fun x H1=>ah Γ b σ H1 fun y H2=>cz Γ.K op x y H2 fun z H3=> ∃k,z= .bl k∧QT k H3):aZ Γ (.cmp op a b) σ H QT:=h
theorem jG{m:ig}{o a:RE}(h:ah Γ o σ H fun x H1=>tj Γ.K (xn m) x H1∧ah Γ a σ H1 fun y H2=>xl Γ.K m x [y] H2 Q):ah Γ (.bC m o [a]) σ H Q:=h
theorem aaY{K:Frag}{x y:Str}{Q:VK}(q:Q (.bl (x==y)) H):cz K .Eq (.str x) (.str y) H Q:=by
 show Q (.bl (false ^^ decide (V.str x=V.str y))) H
 rw[Bool.false_xor,jf];exact q
theorem LD{K:Frag}{x y:Str}{Q:VK}(q:Q (.bl (x !=y)) H):cz K .NotEq (.str x) (.str y) H Q:=by
 show Q (.bl (true ^^ decide (V.str x=V.str y))) H
 rw[Bool.true_xor,jf];exact q
end
end L2
namespace L2.B
open PySem PySem.Spec PyProof.Rows
section
variable {Γ:aO} {σ:St} {H:Hp} {Q:VK} {QT:Bool→Hp→Prop} {K:Frag}
theorem Dz{a b:RE}{r:List RE}(h:aZ Γ a σ H fun c H1=>if c=true then QT true H1 else aZ Γ (.or (b::r)) σ H1 QT):aZ Γ (.or (a::b::r)) σ H QT:=h
theorem aaZ{a:RE}(h:aZ Γ a σ H QT):aZ Γ (.or [a]) σ H QT:=h
theorem nQ{T:Ty}{a:RE}(h:ah Γ a σ H fun x H1=>bW T x H1 fun b=>QT b H1):aZ Γ (.eK T a) σ H QT:=by
 show eY Γ.K (dY (m8 T) (di (ah Γ a) (di (tC (.ty T.nm)) g5))) σ H QT
 have e: ∀(q:VK),(fun(x:V) (H1:Hp)=>bW T x H1 fun b=>q (.bl b) H1)=fun x H1=>m8 T [x, .ty T.nm] H1 q:=by
  intro q;funext x H1;simp[m8]
 show ah Γ a σ H fun x H1=>m8 T [x, .ty T.nm] H1 fun v H2=>iN Γ.K v H2 fun b=>QT b H2
 rw[←e];exact h
theorem ck{sd:Addr→List (Key×V)→Prop}{a:Addr}{xs:List V}{i:Int}{v:V}(h:H a=some (.tup xs))(e:dj xs i=some v)(q:Q v H):m_ K sd (.ref a) (.int i) H Q:=
 .inr (.inl ⟨_,_,_,_,rfl,rfl,aL.of h,e,q⟩)
theorem km{x y:Int}(q:Q (.bl (decide (x=y))) H):cz K .Eq (.int x) (.int y) H Q:=by
 show Q (.bl (false ^^ decide (V.int x=V.int y))) H
 rw[Bool.false_xor,show decide (V.int x=V.int y)=decide (x=y) from decide_eq_decide.mpr ⟨fun z=>by injection z,fun z=>by rw[z]⟩];exact q
theorem yZ{x y:Int}(q:Q (.bl (!decide (x=y))) H):cz K .NotEq (.int x) (.int y) H Q:=by
 show Q (.bl (true ^^ decide (V.int x=V.int y))) H
 rw[Bool.true_xor,show decide (V.int x=V.int y)=decide (x=y) from decide_eq_decide.mpr ⟨fun z=>by injection z,fun z=>by rw[z]⟩];exact q
theorem mr{i j:Int}(h:Q (.int (i+j)) H):qi K .Add (.int i) (.int j) H Q:=h
end
end L2.B
namespace L2
open PySem PySem.Spec PyProof.Rows
end L2
namespace L2.B
open PySem PySem.Spec PyProof.Rows
end L2.B
namespace L2.B
end L2.B
namespace L2.B
open PySem PySem.Spec PyProof.Rows
theorem aa0{K:Frag}{a b:Addr}{xs ys:List V}{g:TG}{tb:TS}{D:Ends}{σ:St}{H:Hp}(hl:xs.length=ys.length)(Pv:Nat→St→Hp→Prop)(h0:Pv 0 σ H)(ha: ∀i σ H,Pv i σ H→aq K H a xs∧aq K H b ys)
  (hs: ∀i x y σ H T,xs[i]?=some x→ys[i]?=some y→Pv i σ H→H T=none→g (.ref T) σ (upd H T (.tup [x,y])) fun σ2 H2=>tb {D with nx:=Pv (i+1),ct:=Pv (i+1),bk:=D.nx} σ2 H2) (hd: ∀σ H,Pv xs.length σ H→D.nx σ H):
  ∃W:Nat→Nat→St→Hp→Prop,(∃m,W 0 m σ H)∧ ∀i m σ H,W i m σ H→
   ((nc K a b).stop i H∧D.nx σ H)∨((nc K a b).go i H∧ ∃N:St→Hp→Prop,(∀σ' H',N σ' H'→ ∃m',m'<m∧W (i+1) m' σ' H')∧ ∀x H',(nc K a b).fo i H x H'→g x σ H' fun σ2 H2=>tb {D with nx:=N,ct:=N,bk:=D.nx} σ2 H2):=by
 refine⟨fun i m σ H=>m=xs.length - i∧i≤xs.length∧Pv i σ H,⟨xs.length,by simp,Nat.zero_le _,h0⟩, ?_⟩
 rintro i m σ H ⟨rfl,hi,p⟩
 obtain⟨q1,q2⟩:=ha i σ H p
 by_cases aQ:i<xs.length
 ·have DA:i<ys.length:=by omega
  refine .inr ⟨⟨xs,ys,q1,q2,aQ,DA⟩,Pv (i+1),fun σ' H' p'=> ⟨xs.length - (i+1),by omega,rfl,aQ,p'⟩,fun x H' y=> ?_⟩
  obtain⟨T,hT,rfl,y⟩:=y
  have e:=y xs ys xs[i] ys[i] q1 q2 (by simp[aQ]) (by simp[DA])
  subst e
  exact hs i xs[i] ys[i] σ H T (by simp[aQ]) (by simp[DA]) p hT
 ·have e:i=xs.length:=by omega
  subst e
  exact .inl ⟨⟨xs,ys,q1,q2,by omega⟩,hd σ H p⟩
section
variable {H:Hp} {Q:VK} {E:XK}
end
theorem aa1{K:Frag}(vs:List V)(H:Hp)(Q:VK)(E:XK)(h:nF vs H Q E):aB (aM K [] [] (E:=E)) Cc (Dn Q) (start x_ vs) H:=by
 obtain⟨i,rfl,q⟩:=h
 exact⟨_,rfl,rfl,_,rfl,fS ⟨_,rfl,rfl,q⟩⟩
end L2.B
namespace L2
open PySem PySem.Spec PyProof.Rows
theorem aa2{Γ:aO}{D:Ends}{σ:St}{H:Hp}{r:List RS}{is:List Nat}{e:RE}(h:ah Γ e σ H fun x H1=>j6 Γ.K is.length (jn is) x σ H1 (aB Γ r D)):aB Γ (.tR is e::r) D σ H:=h
theorem LF{K:Frag}{i j:Nat}{t:Addr}{v w:V}{σ:St}{H:Hp}{Q:St→Hp→Prop}(ht:H t=some (.tup [v,w]))(q:Q ((σ.set i (some v)).set j (some w)) H):j6 K [i,j].length (jn [i,j]) (.ref t) σ H Q:=
 ⟨t,_,rfl, .inl (aL.of ht),rfl,_,_,rfl,_,_,rfl,rfl,q⟩
end L2
namespace L2.B
open PySem PySem.Spec PyProof.Rows
section
variable {H:Hp} {Q:VK} {E:XK}
end
end L2.B
namespace L2.N
open PySem PySem.Spec PyProof.Rows L2.B
def nm(r:bj):Key×Nat:=(r.1,r.2.1)
theorem LG: ∀(k o n i j:Nat),(i,j)∈iY o n k→ ∃t,t<k∧i=o+t∧j=n+t
 | 0,o,n,i,j,h=>by cases h
 | k+1,o,n,i,j,h=>by
  rcases List.mem_cons.mp h with e | h
  ·cases e;exact⟨0,by omega,rfl,rfl⟩
  ·obtain⟨t,h1,h2,h3⟩:=LG k _ _ _ _ h
   exact⟨t+1,by omega,by omega,by omega⟩
theorem LH: ∀(k o n t:Nat),t<k→(o+t,n+t)∈iY o n k
 | 0,o,n,t,h=>by omega
 | k+1,o,n,0,h=> .head _
 | k+1,o,n,t+1,h=>by
  have:=LH k (o+1) (n+1) t (by omega)
  rw[show o+ (t+1)=o+1+t by omega,show n+ (t+1)=n+1+t by omega]
  exact .tail _ this
theorem LI{l r:List Nat}{ps:List Pt}(h:Run l ps r)(aH:Key): ∀(rows:List bj) (o n m:Nat),l.length=rows.length→
  (∀i j,(i,j)∈cQ (bp ps o n)→o≤i∧n≤j∧i - o<rows.length∧(bJ aH rows m (cj ps))[j - n]?=rows[i - o]?)∧
  (∀j row,(bJ aH rows m (cj ps))[j]?=some row→(∃i,(o+i,n+j)∈cQ (bp ps o n)∧rows[i]?=some row)∨row.1=aH):=by
 induction h with
 | nil=>
  intro rows o n m hl
  have:rows=[]:=List.eq_nil_of_length_eq_zero hl.symm
  subst this
  exact⟨(fun i j h=>by cases h),(fun j row h=>by cases h)⟩
 | @keep a l r k ps e _ ih=>
  intro rows o n m hl
  have ek:uW (.keep k)=rK k.toNat:=rfl
  have ea:k.toNat=a.length:=by omega
  rw[List.length_append] at hl
  have iz:(rows.take a.length).length=a.length:=by rw[List.length_take];omega
  have hg:=vb aH (rows.drop a.length) m (cj ps) (rows.take a.length)
  rw[iz,List.take_append_drop] at hg
  obtain⟨h1,h2⟩:=ih (rows.drop a.length) (o+a.length) (n+a.length) m (by rw[List.length_drop];omega)
  rw[kh,ek,ea,hg]
  show(∀i j,(i,j)∈iY o n k.toNat++cQ (bp ps (o+k.toNat) (n+k.toNat))→_)∧(∀j row,_→(∃i,(o+i,n+j)∈iY o n k.toNat++cQ (bp ps (o+k.toNat) (n+k.toNat))∧_)∨_)
  rw[ea]
  refine⟨fun i j hm=> ?_,fun j row hj=> ?_⟩
  ·rcases List.mem_append.mp hm with hm | hm
   ·obtain⟨t,ht,rfl,rfl⟩:=LG _ _ _ _ _ hm
    refine⟨by omega,by omega,by omega, ?_⟩
    rw[show n+t - n=t by omega,show o+t - o=t by omega,List.getElem?_append_left (by omega),List.getElem?_take_of_lt ht]
   ·obtain⟨c1,c2,c3,c4⟩:=h1 i j hm
    rw[List.length_drop] at c3
    refine⟨by omega,by omega,by omega, ?_⟩
    rw[List.getElem?_append_right (by omega),iz,show j - n - a.length=j - (n+a.length) by omega,c4,List.getElem?_drop,show a.length+ (i - (o+a.length))=i - o by omega]
  ·by_cases DB:j<a.length
   ·rw[List.getElem?_append_left (by omega),List.getElem?_take_of_lt DB] at hj
    exact .inl ⟨j,List.mem_append_left _ (LH _ _ _ _ DB),hj⟩
   ·rw[List.getElem?_append_right (by omega),iz] at hj
    rcases h2 _ _ hj with⟨i,c1,c2⟩ | c
    ·refine .inl ⟨a.length+i,List.mem_append_right _ ?_,by rw[List.getElem?_drop] at c2;exact c2⟩
     rw[show o+ (a.length+i)=o+a.length+i by omega,show n+j=n+a.length+ (j - a.length) by omega]
     exact c1
    ·exact .inr c
 | @put s l r ps _ ih=>
  intro rows o n m hl
  have ls:=len_list s
  obtain⟨h1,h2⟩:=ih rows o (n+s.length) (m+s.length) hl
  rw[kh]
  show(∀i j,(i,j)∈cQ (bp ps o (n+s.length))→_∧_∧_∧(bJ aH rows m (s.cps.toList.map At.P++cj ps))[j - n]?=_)∧(∀j row,(bJ aH rows m (s.cps.toList.map At.P++cj ps))[j]?=_→(∃i,(o+i,n+j)∈cQ (bp ps o (n+s.length))∧_)∨_)
  rw[va,←ls]
  have lg:(d_ aH m s.cps.toList).length=s.length:=by rw[mj,←ls]
  refine⟨fun i j hm=> ?_,fun j row hj=> ?_⟩
  ·obtain⟨c1,c2,c3,c4⟩:=h1 i j hm
   refine⟨c1,by omega,c3, ?_⟩
   rw[List.getElem?_append_right (by omega),lg,show j - n - s.length=j - (n+s.length) by omega,c4]
  ·by_cases DB:j<s.length
   ·rw[List.getElem?_append_left (by omega)] at hj
    have hc:s.cps.toList[j]?=some s.cps.toList[j]:=List.getElem?_eq_getElem (by omega)
    rw[Du aH m _ j _ hc] at hj
    cases hj
    exact .inr rfl
   ·rw[List.getElem?_append_right (by omega),lg] at hj
    rcases h2 _ _ hj with⟨i,c1,c2⟩ | c
    ·refine .inl ⟨i, ?_,c2⟩
     rw[show n+j=n+s.length+ (j - s.length) by omega]
     exact c1
    ·exact .inr c
 | @cut s l r ps _ ih=>
  intro rows o n m hl
  have ls:=len_list s
  rw[List.length_append] at hl
  have iz:(rows.take s.length).length=s.cps.toList.length:=by rw[List.length_take];omega
  have hg:=vd aH (rows.drop s.length) m (cj ps) (rows.take s.length) s.cps.toList iz
  rw[List.take_append_drop] at hg
  obtain⟨h1,h2⟩:=ih (rows.drop s.length) (o+s.length) n m (by rw[List.length_drop];omega)
  rw[kh]
  show(∀i j,(i,j)∈cQ (bp ps (o+s.length) n)→_∧_∧_∧(bJ aH rows m (s.cps.toList.map At.C++cj ps))[j - n]?=_)∧(∀j row,(bJ aH rows m (s.cps.toList.map At.C++cj ps))[j]?=_→(∃i,(o+i,n+j)∈cQ (bp ps (o+s.length) n)∧_)∨_)
  rw[hg]
  refine⟨fun i j hm=> ?_,fun j row hj=> ?_⟩
  ·obtain⟨c1,c2,c3,c4⟩:=h1 i j hm
   rw[List.length_drop] at c3
   refine⟨by omega,c2,by omega, ?_⟩
   rw[c4,List.getElem?_drop,show s.length+ (i - (o+s.length))=i - o by omega]
  ·rcases h2 _ _ hj with⟨i,c1,c2⟩ | c
   ·refine .inl ⟨s.length+i, ?_,by rw[List.getElem?_drop] at c2;exact c2⟩
    rw[show o+ (s.length+i)=o+s.length+i by omega]
    exact c1
   ·exact .inr c
theorem vn(aH:Key): ∀(s:List Nat) (m:Nat) (r:bj),r∈d_ aH m s→r.1=aH∧m≤r.2.1∧r.2.1<m+s.length
 | [],m,r,h=>by cases h
 | c::s,m,r,h=>by
  rcases List.mem_cons.mp h with rfl | h
  ·exact⟨rfl,Nat.le_refl _,by show m<m+ (s.length+1);omega⟩
  ·obtain⟨h1,h2,h3⟩:=vn aH s (m+1) r h
   exact⟨h1,by omega,by rw[List.length_cons];omega⟩
theorem DC(aH:Key): ∀(s:List Nat) (m:Nat),((d_ aH m s).map nm).Nodup
 | [],m=>List.nodup_nil
 | c::s,m=>by
  show(nm (aH,m,c)::(d_ aH (m+1) s).map nm).Nodup
  refine List.nodup_cons.mpr ⟨fun h=> ?_,DC aH s (m+1)⟩
  obtain⟨r,hr,e⟩:=List.mem_map.mp h
  have:=(vn aH s (m+1) r hr).2.1
  have e2:r.2.1=m:=congrArg (fun p:Key×Nat=>p.2) e
  omega
theorem DD{l r:List Nat}{ps:List Pt}(h:Run l ps r)(aH:Key): ∀(rows:List bj) (m:Nat),l.length=rows.length→(rows.map nm).Nodup→(∀row∈rows,row.1≠aH)→
  ((bJ aH rows m (cj ps)).map nm).Nodup∧ ∀row∈bJ aH rows m (cj ps),row∈rows∨(row.1=aH∧m≤row.2.1):=by
 induction h with
 | nil=>
  intro rows m hl hn hw
  have:rows=[]:=List.eq_nil_of_length_eq_zero hl.symm
  subst this
  exact⟨List.nodup_nil,(fun row h=>by cases h)⟩
 | @keep a l r k ps e _ ih=>
  intro rows m hl hn hw
  have ek:uW (.keep k)=rK k.toNat:=rfl
  have ea:k.toNat=a.length:=by omega
  rw[List.length_append] at hl
  have iz:(rows.take a.length).length=a.length:=by rw[List.length_take];omega
  have hg:=vb aH (rows.drop a.length) m (cj ps) (rows.take a.length)
  rw[iz,List.take_append_drop] at hg
  rw[←List.take_append_drop a.length rows,List.map_append,List.nodup_append] at hn
  obtain⟨n1,n2,n3⟩:=hn
  obtain⟨h1,h2⟩:=ih (rows.drop a.length) m (by rw[List.length_drop];omega) n2 (fun row hr=>hw row (List.mem_of_mem_drop hr))
  rw[kh,ek,ea,hg]
  refine⟨?_,fun row hr=> ?_⟩
  ·rw[List.map_append,List.nodup_append]
   refine⟨n1,h1,fun x hx y hy e=> ?_⟩
   obtain⟨x',dr,rfl⟩:=List.mem_map.mp hx
   obtain⟨y',oG,rfl⟩:=List.mem_map.mp hy
   rcases h2 y' oG with c | c
   ·exact n3 _ hx _ (List.mem_map_of_mem c) e
   ·exact hw x' (List.mem_of_mem_take dr) ((congrArg (fun p:Key×Nat=>p.1) e).trans c.1)
  ·rcases List.mem_append.mp hr with hr | hr
   ·exact .inl (List.mem_of_mem_take hr)
   ·rcases h2 row hr with c | c
    ·exact .inl (List.mem_of_mem_drop c)
    ·exact .inr c
 | @put s l r ps _ ih=>
  intro rows m hl hn hw
  have ls:=len_list s
  obtain⟨h1,h2⟩:=ih rows (m+s.length) hl hn hw
  rw[kh]
  show((bJ aH rows m (s.cps.toList.map At.P++cj ps)).map nm).Nodup∧ ∀row∈bJ aH rows m (s.cps.toList.map At.P++cj ps),_
  rw[va,←ls]
  refine⟨?_,fun row hr=> ?_⟩
  ·rw[List.map_append,List.nodup_append]
   refine⟨DC aH _ m,h1,fun x hx y hy e=> ?_⟩
   obtain⟨x',dr,rfl⟩:=List.mem_map.mp hx
   obtain⟨y',oG,rfl⟩:=List.mem_map.mp hy
   obtain⟨c1,c2,c3⟩:=vn aH _ m x' dr
   have e1:x'.1=y'.1:=congrArg (fun p:Key×Nat=>p.1) e
   have e2:x'.2.1=y'.2.1:=congrArg (fun p:Key×Nat=>p.2) e
   rcases h2 y' oG with c | c
   ·exact hw y' c (e1.symm.trans c1)
   ·omega
  ·rcases List.mem_append.mp hr with hr | hr
   ·obtain⟨c1,c2,c3⟩:=vn aH _ m row hr
    exact .inr ⟨c1,c2⟩
   ·rcases h2 row hr with c | c
    ·exact .inl c
    ·exact .inr ⟨c.1,by omega⟩
 | @cut s l r ps _ ih=>
  intro rows m hl hn hw
  have ls:=len_list s
  rw[List.length_append] at hl
  have iz:(rows.take s.length).length=s.cps.toList.length:=by rw[List.length_take];omega
  have hg:=vd aH (rows.drop s.length) m (cj ps) (rows.take s.length) s.cps.toList iz
  rw[List.take_append_drop] at hg
  rw[←List.take_append_drop s.length rows,List.map_append,List.nodup_append] at hn
  obtain⟨n1,n2,n3⟩:=hn
  obtain⟨h1,h2⟩:=ih (rows.drop s.length) m (by rw[List.length_drop];omega) n2 (fun row hr=>hw row (List.mem_of_mem_drop hr))
  rw[kh]
  show((bJ aH rows m (s.cps.toList.map At.C++cj ps)).map nm).Nodup∧ ∀row∈bJ aH rows m (s.cps.toList.map At.C++cj ps),_
  rw[hg]
  refine⟨h1,fun row hr=> ?_⟩
  rcases h2 row hr with c | c
  ·exact .inl (List.mem_of_mem_drop c)
  ·exact .inr c
def hX(r:bj):List Key:=[r.1, .inl (r.2.1:Int)]
theorem LJ{r s:bj}:hX r=hX s↔nm r=nm s:=by
 constructor
 ·intro h
  have h1:r.1=s.1:=by have:=congrArg (fun l=>l[0]?) h;simpa[hX] using this
  have h2:(Sum.inl (r.2.1:Int):Key)=Sum.inl (s.2.1:Int):=by have:=congrArg (fun l=>l[1]?) h;simpa[hX] using this
  injection h2 with h2
  unfold nm
  rw[h1,show r.2.1=s.2.1 by omega]
 ·intro h
  have h1:r.1=s.1:=congrArg (fun p:Key×Nat=>p.1) h
  have h2:r.2.1=s.2.1:=congrArg (fun p:Key×Nat=>p.2) h
  unfold hX
  rw[h1,h2]
def mv(O:List bj)(r:bj):Option Nat:=O.findIdx? fun o=>decide (nm o=nm r)
def iA:Nat→List bj→List (List Key×V)
 | _,[]=> []
 | n,r::R=> (hX r, .int (n:Nat))::iA (n+1) R
theorem LK: ∀(A B:List bj) (n:Nat),iA n (A++B)=iA n A++iA (n+A.length) B
 | [],B,n=>rfl
 | r::A,B,n=>by
  show _::iA (n+1) (A++B)=_::(iA (n+1) A++_)
  rw[LK A B (n+1),List.length_cons,show n+1+A.length=n+ (A.length+1) by omega]
theorem LL: ∀(A:List bj) (n:Nat),(iA n A).length=A.length
 | [],_=>rfl
 | _::A,n=>by show(iA (n+1) A).length+1=_;rw[LL A (n+1)];rfl
theorem DE(r:bj): ∀(O:List bj) (n:Nat),fU (iA n O) (hX r)=(mv O r).map fun j=>V.int ((n+j:Nat):Int)
 | [],n=>rfl
 | o::O,n=>by
  unfold fU mv
  show((((hX o,V.int (n:Nat))::iA (n+1) O).find? fun kv=>decide (kv.1=hX r)).map (·.2))=_
  rw[List.find?_cons,List.findIdx?_cons]
  by_cases h:nm o=nm r
  ·rw[decide_eq_true (LJ.mpr h),decide_eq_true h]
   rfl
  ·rw[decide_eq_false (fun z=>h (LJ.mp z)),decide_eq_false h]
   have ih:=DE r O (n+1)
   unfold fU mv at ih
   simp only[ih]
   rw[if_neg (by simp)]
   cases List.findIdx? (fun o=>decide (nm o=nm r)) O with
   | none=>rfl
   | some j=>simp;omega
theorem LM{O:List bj}{r:bj}(h:nm r∉O.map nm):mv O r=none:=by
 unfold mv
 rw[List.findIdx?_eq_none_iff]
 intro o ho
 exact decide_eq_false fun z=>h (by rw[←z];exact List.mem_map_of_mem ho)
theorem DF{O:List bj}(h:(O.map nm).Nodup){i j:Nat}{a b:bj}(ha:O[i]?=some a)(hb:O[j]?=some b)(e:nm a=nm b):i=j:=by
 have hi:=(List.getElem?_eq_some_iff.mp ha).1
 have hj:=(List.getElem?_eq_some_iff.mp hb).1
 have e1:(O.map nm)[i]?=(O.map nm)[j]?:=by rw[List.getElem?_map,List.getElem?_map,ha,hb];exact congrArg some e
 by_cases z:i=j
 ·exact z
 ·rw[List.getElem?_eq_getElem (by rw[List.length_map];exact hi),List.getElem?_eq_getElem (by rw[List.length_map];exact hj)] at e1
  have e2:=Option.some.inj e1
  rcases Nat.lt_or_gt_of_ne z with q | q
  ·exact absurd e2 (List.pairwise_iff_getElem.mp h _ _ _ _ q)
  ·exact absurd e2.symm (List.pairwise_iff_getElem.mp h _ _ _ _ q)
theorem aa3{O:List bj}{r:bj}{j:Nat}(h:(O.map nm).Nodup)(hj:O[j]?=some r):mv O r=some j:=by
 unfold mv
 rw[List.findIdx?_eq_some_iff_getElem]
 obtain⟨hl,he⟩:=List.getElem?_eq_some_iff.mp hj
 refine⟨hl,decide_eq_true (by rw[he]),fun i hi=> ?_⟩
 intro z
 have:=DF h (List.getElem?_eq_getElem (by omega)) hj (of_decide_eq_true z)
 omega
theorem LN: ∀{a b:Nat} {ks:List (Nat×Nat)},gT a b ks→ ∀(acc i:Nat),(∃j,(i,j)∈ks∧dv acc ks (i+1)=j+1)∨((∀j,(i,j)∉ks)∧dv acc ks (i+1)=dv acc ks i)
 | _,_,[],_,acc,i=> .inr ⟨(fun j h=>by cases h),rfl⟩
 | a,b,x::r,h,acc,i=>by
  by_cases hx:x.1<i
  ·rcases LN h.2.2 (x.2+1) i with⟨j,h1,h2⟩ | ⟨h1,h2⟩
   ·refine .inl ⟨j, .tail _ h1, ?_⟩
    show(if x.1<i+1 then _ else _)=_
    rw[if_pos (by omega),h2]
   ·refine .inr ⟨fun j z=> ?_, ?_⟩
    ·rcases List.mem_cons.mp z with e | z
     ·rw[←e] at hx;exact absurd hx (by show ¬i<i;omega)
     ·exact h1 j z
    ·show(if x.1<i+1 then _ else _)=(if x.1<i then _ else _)
     rw[if_pos (by omega),if_pos hx,h2]
  ·by_cases he:x.1=i
   ·refine .inl ⟨x.2, ?_, ?_⟩
    ·rw[←he];exact .head _
    ·show(if x.1<i+1 then _ else _)=_
     rw[if_pos (by omega),yS h.2.2 (by omega)]
   ·refine .inr ⟨fun j z=> ?_, ?_⟩
    ·rcases List.mem_cons.mp z with e | z
     ·exact he (by rw[←e])
     ·have:=(h.2.2.mem _ z).1
      exact absurd this (by show ¬x.1+1≤i;omega)
    ·show(if x.1<i+1 then _ else _)=(if x.1<i then _ else _)
     rw[if_neg (by omega),if_neg hx]
theorem aa4{l r:List Nat}{ps:List Pt}(h:Run l ps r)(ho: ∀p∈ps,gf p)(aH:Key){rows:List bj}(hl:l.length=rows.length)(hn:(rows.map nm).Nodup)(hw: ∀row∈rows,row.1≠aH){i:Nat}{row:bj}(hi:rows[i]?=some row):
  ((mv (bJ aH rows 0 (cj ps)) row).map fun j=>V.int ((1+j:Nat):Int)).getD (V.int (dv 0 (cQ (bp ps 0 0)) i:Nat))=V.int (dv 0 (cQ (bp ps 0 0)) (i+1):Nat):=by
 have inc:=rR (rS ps 0 0 ho)
 obtain⟨k1,k2⟩:=LI h aH rows 0 0 0 hl
 have nd:=(DD h aH rows 0 hl hn hw).1
 rcases LN inc 0 i with⟨j,h1,h2⟩ | ⟨h1,h2⟩
 ·have:=(k1 i j h1).2.2.2
  rw[Nat.sub_zero,Nat.sub_zero,hi] at this
  rw[aa3 nd this,h2,Nat.add_comm j 1]
  rfl
 ·have:mv (bJ aH rows 0 (cj ps)) row=none:=by
   refine LM fun z=> ?_
   obtain⟨o,hoo,e⟩:=List.mem_map.mp z
   obtain⟨j,hj⟩:=List.getElem?_of_mem hoo
   rcases k2 j o hj with⟨i',c1,c2⟩ | c
   ·have:=DF hn c2 hi e
    subst this
    rw[Nat.zero_add,Nat.zero_add] at c1
    exact h1 j c1
   ·exact hw row (List.mem_of_getElem? hi) ((congrArg (fun p:Key×Nat=>p.1) e).symm.trans c)
  rw[this,h2]
  rfl
end L2.N
namespace L2.N
namespace Tr
end Tr
end L2.N
namespace L2.B
open PySem PySem.StrLaws
end L2.B
namespace L2
open PySem PySem.Spec PyProof.Rows
theorem ag{α:Type _}{p:α→Prop}: ∀x∈ ([]:List α),p x:=fun _ h=>nomatch h
theorem az{α:Type _}{p:α→Prop}{a:α}{l:List α}(h:p a)(t: ∀x∈l,p x): ∀x∈a::l,p x:=List.forall_mem_cons.2 ⟨h,t⟩
section
variable {P:Program} {w:World} {K:Frag}
end
section
variable {P:Program} {w:World} {K:Frag} {mg:Str→Option Value} {base:Heap} {k:Nat}
theorem cw.or{CX:bU}{f:Addr}{fd:FuncData}{ps:List Str}{a b:Sp}(A:cw P w K mg base CX k f fd ps a)(C:cw P w K mg base CX k f fd ps b):cw P w K mg base CX k f fd ps (B.d9 a b):=
 ⟨fun vs H Q E h=>h.elim (A.len vs H Q E) (C.len vs H Q E),fun A' outer s H args us vs Q E hr e0 hb hv hs=>hs.elim (A.run A' outer s H args us vs Q E hr e0 hb hv) (C.run A' outer s H args us vs Q E hr e0 hb hv)⟩
theorem cw.weak{CX:bU}{f:Addr}{fd:FuncData}{ps:List Str}{a b:Sp}(A:cw P w K mg base CX k f fd ps b)(h: ∀vs H Q E,a vs H Q E→b vs H Q E):cw P w K mg base CX k f fd ps a:=
 ⟨fun vs H Q E q=>A.len vs H Q E (h _ _ _ _ q),fun A' outer s H args us vs Q E hr e0 hb hv hs=>A.run A' outer s H args us vs Q E hr e0 hb hv (h _ _ _ _ hs)⟩
theorem bF.weak{x:Str}{a b:Sp}(T:bF P w K mg base k x b)(h: ∀vs H Q E,a vs H Q E→b vs H Q E):bF P w K mg base k x a:=by
 obtain⟨f,fd,ps,F,r⟩:=T
 exact⟨f,fd,ps,F.weak h,r⟩
theorem nz.weak{x:Str}{C:Addr}{a b:Sp}(T:nz P w K mg base k (x,C,b))(h: ∀vs H Q E,a vs H Q E→b vs H Q E):nz P w K mg base k (x,C,a):=by
 obtain⟨i,f,fd,ps,m,m2,F,r⟩:=T
 exact⟨i,f,fd,ps,m,m2,F.weak h,r⟩
open PySem.W in
theorem LO{x:Str}{C:Addr}(X:K.In base)(G:base.Ns mainGlobals mg)(e:nsIn K mainGlobals x=some (some (.ref C)))(q:excIn K C [.type "ValueError", .type "Exception", .type "BaseException", .type "object"] "ValueError.__new__"=true):xT mg base (x,C):=by
 refine⟨_,_,_,_,⟨mg_of X G e, ?_⟩,PySem.F.excBase_ValueError⟩
 unfold excIn at q
 split at q
 ·rename_i dd cd sl ho
  split at q
  ·rename_i C' bm k0 k1 k2 k3 n k5 hm hs
   simp only[Bool.and_eq_true,beq_iff_eq,Bool.not_eq_true'] at q
   obtain⟨⟨⟨⟨⟨rfl,rfl⟩,LP⟩,ht⟩,aE⟩,xx⟩:=q
   obtain⟨nm,bs,mro,ns,qn,hd,sn,sub,ab,col,del⟩:=cd
   dsimp only at hm LP aE xx
   subst hm LP
   obtain⟨sl⟩:=sl
   have jq:sl=_:=hs
   subst jq
   exact⟨bm,ns,nm,qn,bs,hd,sn,sub,ab,col,dd,k0,k1,k2,k3,k5,_,X _ _ ho, .of_isNs (isNs_of_in X aE),nsMap_none_of_in X aE xx,tail_of_in X ht⟩
  ·cases q
 ·cases q
end
namespace B
theorem LQ{K:Frag}{D cZ c0 c1 c2 c3 c4 c5 c6 c7 c8 c9 jB jC jD:Addr}{b0 b1 b2 b3 b4 b5 b6 b7 b8 b9 DG DH DI:Bool}{j:Nat}(h:tO K D)(hi:kitOne K (.ref D) (.ref cZ)=some true)(hv:kitOne K (.ref D) (.type "ValueError")=some true)
  (k0:kitOne K (.ref D) (.ref c0)=some b0) (k1:kitOne K (.ref D) (.ref c1)=some b1) (k2:kitOne K (.ref D) (.ref c2)=some b2) (k3:kitOne K (.ref D) (.ref c3)=some b3) (k4:kitOne K (.ref D) (.ref c4)=some b4)
  (k5:kitOne K (.ref D) (.ref c5)=some b5) (k6:kitOne K (.ref D) (.ref c6)=some b6) (k7:kitOne K (.ref D) (.ref c7)=some b7) (k8:kitOne K (.ref D) (.ref c8)=some b8) (k9:kitOne K (.ref D) (.ref c9)=some b9)
  (DJ:kitOne K (.ref D) (.ref jB)=some DG) (DK:kitOne K (.ref D) (.ref jC)=some DH) (DL:kitOne K (.ref D) (.ref jD)=some DI)
  (e:[b0,b1,b2,b3,b4,b5,b6,b7,b8,b9,DG,DH,DI]=(List.range 13).map fun i=>decide (i=j):=by decide):mi K [c0,c1,c2,c3,c4,c5,c6,c7,c8,c9,jB,jC,jD] cZ D j:=by
 refine⟨h,fun i c hc=> ?_,hi,hv⟩
 have bV:i<13:=(List.getElem?_eq_some_iff.mp hc).1
 have eb:=congrArg (fun l=>l[i]?) e
 match i,bV with
 | 0,_=>cases hc;have eb:some b0=some (decide (0=j)):=eb;rw[k0,eb]
 | 1,_=>cases hc;have eb:some b1=some (decide (1=j)):=eb;rw[k1,eb]
 | 2,_=>cases hc;have eb:some b2=some (decide (2=j)):=eb;rw[k2,eb]
 | 3,_=>cases hc;have eb:some b3=some (decide (3=j)):=eb;rw[k3,eb]
 | 4,_=>cases hc;have eb:some b4=some (decide (4=j)):=eb;rw[k4,eb]
 | 5,_=>cases hc;have eb:some b5=some (decide (5=j)):=eb;rw[k5,eb]
 | 6,_=>cases hc;have eb:some b6=some (decide (6=j)):=eb;rw[k6,eb]
 | 7,_=>cases hc;have eb:some b7=some (decide (7=j)):=eb;rw[k7,eb]
 | 8,_=>cases hc;have eb:some b8=some (decide (8=j)):=eb;rw[k8,eb]
 | 9,_=>cases hc;have eb:some b9=some (decide (9=j)):=eb;rw[k9,eb]
 | 10,_=>cases hc;have eb:some DG=some (decide (10=j)):=eb;rw[DJ,eb]
 | 11,_=>cases hc;have eb:some DH=some (decide (11=j)):=eb;rw[DK,eb]
 | 12,_=>cases hc;have eb:some DI=some (decide (12=j)):=eb;rw[DL,eb]
end B
end L2
namespace L2.B
open PySem PySem.Spec PyProof.Rows
def nR(v:V)(lo hi:Int)(H:Hp):Prop:=rN v H∨ ∃i,v= .int i∧(i<lo∨hi<i)
theorem nR.same{v:V}{lo hi:Int}{H H':Hp}(h:nR v lo hi H)(s:au H H'):nR v lo hi H':=by
 rcases h with h | h
 ·exact .inl (h.same s)
 ·exact .inr h
def iZ:Sp:=fun vs H Q E=> ∃(v:V) (lo hi:Int),vs=[v, .int lo, .int hi]∧((∃i,v= .int i∧lo≤i∧i≤hi∧Q (.bl true) H)∨(nR v lo hi H∧Q (.bl false) H))
theorem aa6{K:Frag}(vs:List V)(H:Hp)(Q:VK)(E:XK)(h:iZ vs H Q E):aB (aM K [("is_whole",gQ)] [] (E:=E)) Cb (Dn Q) (start uC vs) H:=by
 have chain: ∀(i lo hi:Int) (b:Bool) (H:Hp),decide (lo≤i∧i≤hi)=b→Q (.bl b) H→ah (aM K [("is_whole",gQ)] [] (E:=E)) (.jZ .LtE .LtE (.v 1) (.v 0) (.v 2)) [some (.int i),some (.int lo),some (.int hi)] H Q:=by
  intro i lo hi b H hb q
  refine⟨_,rfl,_,rfl,trivial,_,rfl, ?_⟩
  refine ie (fun h1=> ?_) (fun h1=> ?_)
  ·refine⟨_,rfl,trivial, ?_⟩
   have rX:lo≤i:=of_decide_eq_true h1
   have e:decide (i≤hi)=b:=by rw[←hb];simp[rX]
   show Q (.bl (decide (i≤hi))) H
   rw[e];exact q
  ·have rX: ¬lo≤i:=fun z=>h1 (decide_eq_true z)
   have e:b=false:=by rw[←hb];simp[rX]
   have e2:decide (lo≤i)=false:=decide_eq_false rX
   rw[e] at q
   first
    | exact q
    | (show Q (.bl (decide (lo≤i))) H;rw[e2];exact q)
 obtain⟨v,lo,hi,rfl,⟨i,rfl,h1,h2,q⟩ | ⟨hn | ⟨i,rfl,hb⟩,q⟩⟩:=h
 ·exact⟨_,rfl,_,rfl, .inl ⟨i,rfl,_,rfl,fS (chain i lo hi true H (by simp[h1,h2]) q)⟩⟩
 ·exact⟨_,rfl,_,rfl, .inr ⟨hn,_,rfl,lq q⟩⟩
 ·exact⟨_,rfl,_,rfl, .inl ⟨i,rfl,_,rfl,fS (chain i lo hi false H (by rw[decide_eq_false];rintro⟨a,b⟩;omega) q)⟩⟩
def vo(CC:Addr):Sp:=fun vs H Q E=> ∃(p:Addr) (v:V),vs=[.ref p,v]∧iX v H∧ ∀H',au H H'→E (.ref CC) none H'
theorem aa7{K:Frag}{CC:Addr}(vs:List V)(H:Hp)(Q:VK)(E:XK)(h:vo CC vs H Q E):aB (aM K [("need_change",yM CC)] [] (E:=E)) uD (Dn Q) (start yc vs) H:=by
 obtain⟨p,v,rfl,hn,q⟩:=h
 exact⟨_,rfl,v,rfl,hn,q⟩
def ko(v:V)(H:Hp)(ps:List Pt):Prop:= ∃a xs,v= .ref a∧H a=some (.lst xs)∧bR H xs ps∧(∀q∈ps,gf q)∧chainOk "" ps=true∧ps.length≤1000
end L2.B
namespace L2.N
open PySem PySem.Spec PyProof.Rows L2.B
end L2.N
namespace L2.N
open PySem PySem.Spec L2.B
theorem eO{Γ:aO}{D:Ends}{σ:St}{H:Hp}{r:List RS}(h:aB Γ r D σ H):aB Γ [] {D with nx:=aB Γ r D} σ H:=h
section
variable {Γ:aO} {D:Ends} {σ:St} {H:Hp} {r:List RS} {Q:VK}
theorem DM{x:RE}(A B:VK)(AI: ∀v H1,A v H1↔B v H1)(ha:ah Γ x σ H A):ah Γ x σ H B:=by
 have:A=B:=funext fun x=>funext fun H1=>propext (AI x H1)
 rw[←this];exact ha
theorem pJ{fv:List (Str×Nat)}{x elt:RE}(h:ah Γ x σ H fun v H1=> ∃a,v= .ref a∧(∃xs,aq Γ.K H1 a xs)∧ ∃W:Nat→Nat→List V→Hp→Prop,(∃m,W 0 m [] H1)∧ ∀i m ys H2,W i m ys H2→
   ((eT Γ.K a).stop i H2∧ ∀p,H2 p=none→Q (.ref p) (upd H2 p (.lst ys)))∨
   ((eT Γ.K a).go i H2∧ ∀x H3,(eT Γ.K a).fo i H2 x H3→jU Γ.K none x H3 fun zs=>jV none (zs.map some++cf σ fv) H3 fun b H5=>
    if b=true then ah Γ.calm elt (zs.map some++cf σ fv) H5 fun y H6=>ys.length<sizeLine∧ ∃m',m'<m∧W (i+1) m' (ys++ [y]) H6 else ∃m',m'<m∧W (i+1) m' ys H5)):ah Γ (.comp none fv .list [x] none elt) σ H Q:=DM (x:=x) _ _ (fun _ _=>Iff.rfl) h
theorem gh{x:RE}(h:ah Γ x σ H fun v H1=>tE Γ.K v H1 fun n=>Q (.int n) H1):ah Γ (.blt .len [x]) σ H Q:=h
end
section
variable {Γ:aO} {D:Ends} {σ:St} {H:Hp} {r:List RS} {Q:VK} {QT:Bool→Hp→Prop}
end
theorem pick{its:List V}{j:Int}(h0:0≤j)(h1:j<its.length): ∃v∈its,dj its j=some v:=by
 have uQ:j.toNat<its.length:=by omega
 refine⟨its[j.toNat],List.getElem_mem uQ, ?_⟩
 have e:=gB (xs:=its) (j:=j.toNat) (v:=its[j.toNat]) (by simp[uQ])
 rw[show((j.toNat:Nat):Int)=j by omega] at e
 exact e
theorem DN{α β:Type}{R:α→β→Prop}: ∀{ps:List β} {p:β} {xs:List α},Paired R xs (ps++ [p])→ ∃rY x,xs=rY++ [x]∧Paired R rY ps∧R x p
 | [],p,_, .cons h .nil=> ⟨[],_,rfl, .nil,h⟩
 | q::ps,p,_, .cons h r=>by
  obtain⟨rY,x,e,a,b⟩:=DN (ps:=ps) r
  exact⟨_::rY,x,by rw[e];rfl, .cons h a,b⟩
section
variable {Γ:aO} {D:Ends} {σ:St} {H:Hp} {r:List RS} {Q:VK}
theorem nS{i:Int}(h:Q (.int (-i)) H):ah Γ (.neg (.c (.int i))) σ H Q:=h
theorem aa8{o ix e:RE}(h:ah Γ e σ H fun v H1=>ah Γ o σ H1 fun x H2=>ah Γ ix σ H2 fun y H3=>wN x y v H3 fun H4=>aB Γ r D σ H4):aB Γ (.set o ix e::r) D σ H:=h
theorem DO{body:List RS}{is:List Nat}{x:RE}(h:ah Γ x σ H fun v H1=> ∃a,v= .ref a∧(∃xs,aq Γ.K H1 a xs)∧ ∃W:Nat→Nat→St→Hp→Prop,(∃m,W 0 m σ H1)∧ ∀j m σ H,W j m σ H→
  ((eT Γ.K a).stop j H∧({D with nx:=aB Γ r D}:Ends).nx σ H)∨((eT Γ.K a).go j H∧ ∃N:St→Hp→Prop,(∀σ' H',N σ' H'→ ∃m',m'<m∧W (j+1) m' σ' H')∧ ∀x H',(eT Γ.K a).fo j H x H'→j6 Γ.K is.length (jn is) x σ H' fun σ2 H2=>aB Γ body {({D with nx:=aB Γ r D}:Ends) with nx:=N,ct:=N,bk:=({D with nx:=aB Γ r D}:Ends).nx} σ2 H2)):
  aB Γ (.iM is .list [x] body::r) D σ H:=DM (x:=x) _ _ (fun _ _=>Iff.rfl) h
end
theorem DP(n:Nat):g6 (n+1) (-1)=some n:=by
 unfold g6
 have: ¬(0:Int)≤ -1:=by decide
 rw[if_neg this,if_pos (by omega)]
 congr 1
 omega
theorem aa9{p:Pt}(h:gf p):pe p:=by
 cases p with
 | keep n=>trivial
 | put s=>exact h.1.2
 | cut s=>exact h.1.2
theorem LR{K:Frag}{H:Hp}{Q:VK}{x y:Int}(q:Q (.bl (decide (y<x))) H):cz K .Gt (.int x) (.int y) H Q:=⟨trivial,q⟩
section
variable {Γ:aO} {D:Ends} {H H2:Hp} {a w2 e:Addr} {xs:List V} {l r:List Nat} {ps:List Pt} {i:Nat} {σ:St}
end
section
variable {Γ:aO} {D:Ends} {σ:St} {H:Hp} {r:List RS} {Q:VK}
theorem aa_{body:List RS}{i:Nat}{x:RE}(h:ah Γ x σ H fun v H1=> ∃n:Int,[v]=[.int n]∧ -(2 ^ 62)≤n∧n<2 ^ 62∧ ∃W:Nat→Nat→St→Hp→Prop,(∃m,W 0 m σ H1)∧ ∀j m σ H,W j m σ H→
  ((fP 0 n.toNat).stop j H∧({D with nx:=aB Γ r D}:Ends).nx σ H)∨((fP 0 n.toNat).go j H∧ ∃N:St→Hp→Prop,(∀σ' H',N σ' H'→ ∃m',m'<m∧W (j+1) m' σ' H')∧ ∀x H',(fP 0 n.toNat).fo j H x H'→c_ i x σ H' fun σ2 H2=>aB Γ body {({D with nx:=aB Γ r D}:Ends) with nx:=N,ct:=N,bk:=({D with nx:=aB Γ r D}:Ends).nx} σ2 H2)):
  aB Γ (.lE i .fk [x] body::r) D σ H:=DM (x:=x) _ _ (fun _ _=>Iff.rfl) h
end
theorem pK{K:Frag}{H:Hp}{Q:VK}{x y:Int}(q:Q (.bl (decide (x≤y))) H):cz K .LtE (.int x) (.int y) H Q:=⟨trivial,q⟩
theorem ltI{K:Frag}{H:Hp}{Q:VK}{x y:Int}(q:Q (.bl (decide (x<y))) H):cz K .Lt (.int x) (.int y) H Q:=⟨trivial,q⟩
theorem LS{K:Frag}{H:Hp}{Q:VK}{x y:Int}(q:Q (.bl (decide (y≤x))) H):cz K .GtE (.int x) (.int y) H Q:=⟨trivial,q⟩
theorem aba{Γ:aO}{σ:St}{H:Hp}{Q:VK}{t a b:RE}(h:aZ Γ t σ H fun c H1=>if c=true then ah Γ a σ H1 Q else ah Γ b σ H1 Q):ah Γ (.xj t a b) σ H Q:=h
section
variable {K:Frag} {CP C:Addr}
end
section
variable {K:Frag} {CP C:Addr}
end
section
variable {K:Frag} {CP C:Addr} {H H':Hp} {p dp s dx lt lb lf:Addr} {v:V} {t:Tr} {ts:List Str} {x:Str}
end
section
variable {K:Frag} {H:Hp} {Q:VK}
end
section
variable {K:Frag} {H:Hp} {Q:VK} {Γ:aO} {σ:St} {D:Ends}
theorem i4{a b:RE}{r:List RE}(h:ah Γ a σ H fun x H1=> ∃c,x= .bl c∧if c=true then ah Γ (.and (b::r)) σ H1 Q else Q (.bl false) H1):ah Γ (.and (a::b::r)) σ H Q:=h
theorem rZ{a:RE}(h:ah Γ a σ H Q):ah Γ (.and [a]) σ H Q:=h
theorem nU{a b:RE}(h:ah Γ a σ H fun x H1=> ∃c,x= .bl c∧if c=true then Q (.bl true) H1 else ah Γ b σ H1 Q):ah Γ (.or [a,b]) σ H Q:=h
theorem y_{op cH:CmpOp}{a b d:RE}(h:ah Γ a σ H fun x H1=>ah Γ b σ H1 fun y H2=>cz Γ.K op x y H2 fun z H3=> ∃k,z= .bl k∧(if k=true then ah Γ d σ H3 fun w H4=>cz Γ.K cH y w H4 Q else Q (.bl false) H3)):ah Γ (.jZ op cH a b d) σ H Q:=h
theorem zc{op cH:CmpOp}{a b d:RE}{QT:Bool→Hp→Prop}(h:ah Γ (.jZ op cH a b d) σ H fun z H3=> ∃k,z= .bl k∧QT k H3):aZ Γ (.jZ op cH a b d) σ H QT:=h
theorem DQ{as:List RE}{QT:Bool→Hp→Prop}(h:aS Γ as σ H fun vs H1=>yg Γ.K vs H1 fun x H2=>iN Γ.K x H2 fun b=>QT b H2):aZ Γ (.xt Cp as) σ H QT:=h
theorem LU{as:List RE}{QT:Bool→Hp→Prop}(h:aS Γ as σ H fun vs H1=>yh Γ.K vs H1 fun x H2=>iN Γ.K x H2 fun b=>QT b H2):aZ Γ (.xt Cq as) σ H QT:=h
end
def gV:Option Nat→V
 | none=> .aD
 | some n=> .int n
def i5(H:Hp)(t:Addr)(a h:Nat)(g:Option Nat):Prop:=H t=some (.tup [.int a, .int h,gV g])
theorem abb(g:Option Nat):decide (gV g= .aD)=g.isNone:=by cases g<;>simp[gV]
section
variable {K:Frag}
def gU:Sp:=fun vs H Q E=> ∃(t:Addr) (a h:Nat) (g:Option Nat),vs=[.ref t]∧i5 H t a h g∧Q (.int (min a h:Nat)) H
theorem abc(vs:List V)(H:Hp)(Q:VK)(E:XK)(h:gU vs H Q E):aB (aM K [] [] (E:=E)) Cr (Dn Q) (start eA vs) H:=by
 obtain⟨t,a,h,g,rfl,ha,q⟩:=h
 refine dc (gP (aj (a_ (ai rfl (aA (ck ha rfl (aj (a_ (ai rfl (aA (ck ha rfl (aC ?_))))))))))))
 show Q (.int (if (h:Int) < (a:Int) then (h:Int) else (a:Int))) H
 rw[show(if (h:Int) < (a:Int) then (h:Int) else (a:Int))=((min a h:Nat):Int) by split<;>omega]
 exact q
def jH:Sp:=fun vs H Q E=> ∃(t:Addr) (a h:Nat) (g:Option Nat),vs=[.ref t]∧i5 H t a h g∧Q (.int (max a h:Nat)) H
theorem abd(vs:List V)(H:Hp)(Q:VK)(E:XK)(h:jH vs H Q E):aB (aM K [] [] (E:=E)) Cs (Dn Q) (start eA vs) H:=by
 obtain⟨t,a,h,g,rfl,ha,q⟩:=h
 refine dc (gP (aj (a_ (ai rfl (aA (ck ha rfl (aj (a_ (ai rfl (aA (ck ha rfl (aC ?_))))))))))))
 show Q (.int (if (h:Int) > (a:Int) then (h:Int) else (a:Int))) H
 rw[show(if (h:Int) > (a:Int) then (h:Int) else (a:Int))=((max a h:Nat):Int) by split<;>omega]
 exact q
def vp:Sp:=fun vs H Q E=> ∃(t:Addr) (a h:Nat) (g:Option Nat),vs=[.ref t]∧i5 H t a h g∧Q (.bl (decide (a=h))) H
theorem abe(vs:List V)(H:Hp)(Q:VK)(E:XK)(h:vp vs H Q E):aB (aM K [] [] (E:=E)) Ct (Dn Q) (start eA vs) H:=by
 obtain⟨t,a,h,g,rfl,ha,q⟩:=h
 refine dc (eN (a_ (ai rfl (aA (ck ha rfl (a_ (ai rfl (aA (ck ha rfl (km ?_))))))))))
 rw[show decide ((a:Int)=(h:Int))=decide (a=h) by rw[Bool.eq_iff_iff];simp only[decide_eq_true_eq];omega]
 exact q
def nV:Sp:=fun vs H Q E=> ∃g:Option Nat,vs=[gV g]∧Q (.bl true) H
theorem abf(vs:List V)(H:Hp)(Q:VK)(E:XK)(h:nV vs H Q E):aB (aM K [("is_whole",gQ)] [] (E:=E)) uH (Dn Q) (start dB vs) H:=by
 obtain⟨g,rfl,q⟩:=h
 refine dc (nU (eN (ai rfl (aA ⟨rfl,_,rfl, ?_⟩))))
 rw[abb]
 cases g with
 | none=>exact iT q rfl
 | some n=>
  refine iF ?_ rfl
  refine i4 (ba gQ rfl (aj (ai rfl (aC ⟨_,rfl, .inl ⟨_,rfl,_,rfl,iT ?_ rfl⟩⟩))))
  refine rZ (eN (ai rfl (aA (N.LS ?_))))
  rw[decide_eq_true (show(0:Int)≤ (n:Nat) by omega)]
  exact q
def kq:Sp:=fun vs H Q E=> ∃(t:Addr) (a h:Nat) (g:Option Nat) (n:Nat),vs=[.ref t, .int n]∧i5 H t a h g∧a≤n∧h≤n∧Q (.bl true) H
theorem abg(vs:List V)(H:Hp)(Q:VK)(E:XK)(h:kq vs H Q E):aB (aM K [("is_between",iZ),("is_goal",nV)] [] (E:=E)) uI (Dn Q) (start qA vs) H:=by
 obtain⟨t,a,h,g,n,rfl,ha,h1,h2,q⟩:=h
 refine df (mh (eE (nQ (ai rfl (rG ha (iF ?_ rfl))))))
 refine e7 (gh (ai rfl (.inr ⟨_,aL.of ha,aA (yZ ⟨_,rfl,iF (eO ?_) (by simp)⟩)⟩)))
 refine dc (i4 (ba iZ rfl (aj (a_ (ai rfl (aA (ck ha rfl (aj (aA (aj (ai rfl (aC ⟨_,_,_,rfl, .inl ⟨_,rfl,by omega,by omega,_,rfl,iT ?_ rfl⟩⟩))))))))))))
 refine i4 (ba iZ rfl (aj (a_ (ai rfl (aA (ck ha rfl (aj (aA (aj (ai rfl (aC ⟨_,_,_,rfl, .inl ⟨_,rfl,by omega,by omega,_,rfl,iT ?_ rfl⟩⟩)))))))))))
 exact rZ (ba nV rfl (aj (a_ (ai rfl (aA (ck ha rfl (aC ⟨g,rfl,q⟩)))))))
end
section
variable {K:Frag} {CP C:Addr} {H:Hp} {Q:VK} {Γ:aO} {σ:St}
end
section
variable {K:Frag} {CP C:Addr}
theorem LV{Γ:aO}{σ:St}{H:Hp}{i:Nat}{b:Bool}{QT:Bool→Hp→Prop}(h:σ[i]?=some (some (.bl b)))(q:QT b H):aZ Γ (.v i) σ H QT:=⟨_,h,q⟩
end
theorem LW{K:Frag}{i j k:Nat}{t:Addr}{u v w:V}{σ:St}{H:Hp}{Q:St→Hp→Prop}(ht:H t=some (.tup [u,v,w]))(q:Q (((σ.set i (some u)).set j (some v)).set k (some w)) H):j6 K [i,j,k].length (jn [i,j,k]) (.ref t) σ H Q:=
 ⟨t,_,rfl, .inl (aL.of ht),rfl,_,_,rfl,_,_,rfl,_,_,rfl,rfl,q⟩
theorem ze{Γ:aO}{σ:St}{Q:VK}{H:Hp}{a hi:RE}(h:ah Γ a σ H fun x H1=>ah Γ hi σ H1 fun j H3=> ∃j':Int,j= .int j'∧tU Γ.K x none (some j') H3 Q):ah Γ (.sl a none (some hi)) σ H Q:=h
theorem abh(xs:List V)(n:Nat):eV xs none (some (n:Int))=xs.take n:=by
 unfold eV
 rw[HT.z0,HT.oE]
 show(xs.drop 0).take (min n xs.length - 0)=_
 rw[List.drop_zero,Nat.sub_zero]
 by_cases h:n≤xs.length
 ·rw[Nat.min_eq_left h]
 ·rw[Nat.min_eq_right (by omega),List.take_of_length_le (Nat.le_refl _),List.take_of_length_le (by omega)]
section
variable {K:Frag}
section
variable {Γ:aO} {D:Ends} {H:Hp} {r:List RS} {x:Str} {u2 u3 u4:Option V}
end
end
section
variable {K:Frag}
def gD:Option Nat→PyData
 | none=> .none
 | some n=> .int n
theorem abi(H:Hp)(g:Option Nat):Is H (gD g) (gV g):=by cases g<;>rfl
theorem DR(a h:Nat)(g:Option Nat):SeqAt.shaped (.tuple [.int a, .int h,gD g])=true:=by cases g<;>rfl
theorem DS{H:Hp}{t:Addr}{a h:Nat}{g:Option Nat}(ht:i5 H t a h g):Is H (.tuple [.int a, .int h,gD g]) (.ref t):=⟨t,_,rfl,ht, .int a,[.int h,gV g],rfl,rfl, .int h,[gV g],rfl,rfl,gV g,[],rfl,abi H g,rfl⟩
theorem abj{H:Hp}{Q:VK}{t t':Addr}{a h:Nat}{g:Option Nat}(ht:i5 H t a h g)(gi:i5 H t' a h g)(q:Q (.bl false) H):cz K .NotEq (.ref t) (.ref t') H Q:=by
 refine⟨_,_,DS ht,DS gi,DR a h g,DR a h g, ?_⟩
 rw[SeqAt.eqv_refl _ (SeqAt.canLay_of_shaped (DR a h g))];exact q
end
abbrev Cu:=Nat×Nat×Option Nat
def hZ(H:Hp)(v:V)(c:Cu):Prop:= ∃t,v= .ref t∧i5 H t c.1 c.2.1 c.2.2
theorem hZ.same{H H':Hp}{v:V}{c:Cu}(h:hZ H v c)(s:au H H'):hZ H' v c:=by
 obtain⟨t,e,h⟩:=h
 exact⟨t,e,s _ _ h⟩
abbrev bq(H:Hp):List V→List Cu→Prop:=Paired (hZ H)
theorem bq.same{H H':Hp}{vs:List V}{cs:List Cu}(h:bq H vs cs)(s:au H H'):bq H' vs cs:=L2.Paired.eQ h fun _ _ x=>x.same s
theorem gj{H:Hp}: ∀{vs:List V} {cs:List Cu} {i:Nat} {v:V},bq H vs cs→vs[i]?=some v→ ∃c,cs[i]?=some c∧hZ H v c
 | [],[],i,v, .nil,h=>by simp at h
 | v::vs,c::cs,0,w, .cons x r,h=>by cases h;exact⟨c,rfl,x⟩
 | v::vs,c::cs,i+1,w, .cons x r,h=>gj (vs:=vs) (cs:=cs) (i:=i) r (by simpa using h)
theorem vq{H:Hp}: ∀{vs:List V} {cs:List Cu} {i:Nat} {c:Cu},bq H vs cs→cs[i]?=some c→ ∃v,vs[i]?=some v∧hZ H v c
 | [],[],i,c, .nil,h=>by simp at h
 | v::vs,c::cs,0,w, .cons x r,h=>by cases h;exact⟨v,rfl,x⟩
 | v::vs,c::cs,i+1,w, .cons x r,h=>vq (vs:=vs) (cs:=cs) (i:=i) r (by simpa using h)
def keyOf(c:Cu)(k:Nat):T3:=((min c.1 c.2.1:Nat),(max c.1 c.2.1:Nat),(k:Nat))
def e8:Nat→List Cu→List T3
 | _,[]=> []
 | k,c::cs=>keyOf c k::e8 (k+1) cs
theorem nW: ∀(k:Nat) (cs:List Cu),(e8 k cs).length=cs.length
 | _,[]=>rfl
 | k,c::cs=>by simp[e8,nW (k+1) cs]
theorem DT: ∀{k:Nat} {cs:List Cu} {t:T3},t∈e8 k cs→ ∃i c,cs[i]?=some c∧t=keyOf c (k+i)
 | k,c::cs,t,h=>by
  rcases List.mem_cons.mp h with rfl | h
  ·exact⟨0,c,rfl,rfl⟩
  ·obtain⟨i,c',e,rfl⟩:=DT h
   exact⟨i+1,c',by simpa using e,by rw[show k+1+i=k+ (i+1) by omega]⟩
theorem keys_nodup: ∀(k:Nat) (cs:List Cu),(e8 k cs).Nodup
 | _,[]=>List.nodup_nil
 | k,c::cs=>by
  refine List.nodup_cons.mpr ⟨fun h=> ?_,keys_nodup (k+1) cs⟩
  obtain⟨i,c',_,e⟩:=DT h
  have:((k:Nat):Int)=((k+1+i:Nat):Int):=congrArg (fun t:T3=>t.2.2) e
  omega
theorem DU: ∀(k:Nat) (cs:List Cu) (c:Cu),e8 k (cs++ [c])=e8 k cs++ [keyOf c (k+cs.length)]
 | k,[],c=>rfl
 | k,d::cs,c=>by
  show keyOf d k::e8 (k+1) (cs++ [c])=_
  rw[DU (k+1) cs c]
  show _=keyOf d k::(e8 (k+1) cs++ [keyOf c (k+ (cs.length+1))])
  rw[show k+1+cs.length=k+ (cs.length+1) by omega]
def gb(cs:List Cu)(us:List T3):Prop:=us.Perm (e8 0 cs)∧us.Pairwise fun a b=>dC a b=true
theorem LX: ∀{us ws:List T3},us.Perm ws→(us.Pairwise fun a b=>dC a b=true)→(ws.Pairwise fun a b=>dC a b=true)→us=ws
 | [],ws,h,_,_=> (List.nil_perm.mp h).symm
 | u::us,[],h,_,_=>absurd h.length_eq (by simp)
 | u::us,w::ws,h,hu,hw=>by
  have e:u=w:=by
   by_cases z:u=w
   ·exact z
   ·have h1:u∈ws:=by
     rcases List.mem_cons.mp (h.subset (.head _)) with x | x
     ·exact absurd x z
     ·exact x
    have h2:w∈us:=by
     rcases List.mem_cons.mp (h.symm.subset (.head _)) with x | x
     ·exact absurd x.symm z
     ·exact x
    have a:=(List.pairwise_cons.mp hw).1 u h1
    have b:=(List.pairwise_cons.mp hu).1 w h2
    rw[JN a] at b;cases b
  subst e
  rw[LX (List.Perm.cons_inv h) (List.pairwise_cons.mp hu).2 (List.pairwise_cons.mp hw).2]
theorem gb.eq{cs:List Cu}{us ws:List T3}(h:gb cs us)(h':gb cs ws):us=ws:=LX (h.1.trans h'.1.symm) h.2 h'.2
def near(lo hi b e:Nat):Bool:=if b=hi then (decide (lo=hi) || decide (b=e)) else decide (b<hi)
abbrev Gr:=Nat×Nat×List Nat
def bS(gs:List Gr)(t:T3):List Gr:=match gs.getLast? with
 | none=>gs++ [(t.1.toNat,t.2.1.toNat,[t.2.2.toNat])]
 | some g=>if near g.1 g.2.1 t.1.toNat t.2.1.toNat=true then gs.dropLast++ [(g.1,max g.2.1 t.2.1.toNat,g.2.2++ [t.2.2.toNat])] else gs++ [(t.1.toNat,t.2.1.toNat,[t.2.2.toNat])]
def groups(us:List T3):List Gr:=us.foldl bS []
theorem LY(us:List T3)(t:T3):groups (us++ [t])=bS (groups us) t:=by unfold groups;rw[List.foldl_append];rfl
theorem LZ(n:Nat): ∀(us:List T3) (gs:List Gr),(∀t∈us,t.2.2.toNat<n)→(∀g∈gs,g.2.2≠ []∧ ∀k∈g.2.2,k<n)→ ∀g∈us.foldl bS gs,g.2.2≠ []∧ ∀k∈g.2.2,k<n
 | [],gs,_,h=>h
 | t::us,gs,hu,h=>by
  refine LZ n us _ (fun x hx=>hu x (.tail _ hx)) ?_
  have ht:=hu t (.head _)
  have one: ∀g∈gs++ [((t.1.toNat,t.2.1.toNat,[t.2.2.toNat]):Gr)],g.2.2≠ []∧ ∀k∈g.2.2,k<n:=by
   intro g hg
   rcases List.mem_append.mp hg with hg | hg
   ·exact h g hg
   ·rw[List.mem_singleton.mp hg]
    exact⟨by simp,fun k hk=>by rw[List.mem_singleton.mp hk];exact ht⟩
  unfold bS
  split
  ·exact one
  ·rename_i g0 e0
   split
   ·intro g hg
    rcases List.mem_append.mp hg with hg | hg
    ·exact h g (List.dropLast_subset _ hg)
    ·rw[List.mem_singleton.mp hg]
     have vt:=h g0 (List.mem_of_getLast? e0)
     refine⟨by simp,fun k hk=> ?_⟩
     rcases List.mem_append.mp hk with hk | hk
     ·exact vt.2 k hk
     ·rw[List.mem_singleton.mp hk];exact ht
   ·exact one
def least:List Nat→Nat
 | []=>0
 | k::r=>r.foldl min k
theorem L6: ∀(r:List Nat) (k:Nat),r.foldl min k≤k∧(∀x∈r,r.foldl min k≤x)∧(r.foldl min k=k∨r.foldl min k∈r)
 | [],k=> ⟨Nat.le_refl _,(fun x h=>by cases h), .inl rfl⟩
 | x::r,k=>by
  obtain⟨a,b,c⟩:=L6 r (min k x)
  refine⟨Nat.le_trans a (Nat.min_le_left _ _),fun y hy=> ?_, ?_⟩
  ·rcases List.mem_cons.mp hy with rfl | hy
   ·exact Nat.le_trans a (Nat.min_le_right _ _)
   ·exact b y hy
  ·rcases c with c | c
   ·have e:(x::r).foldl min k=min k x:=c
    by_cases z:k≤x
    ·exact .inl (by rw[e];exact Nat.min_eq_left z)
    ·exact .inr (by rw[e,Nat.min_eq_right (by omega)];exact .head _)
   ·exact .inr (.tail _ c)
theorem DV{ms:List Nat}(h:ms≠ []):least ms∈ms∧ ∀x∈ms,least ms≤x:=by
 cases ms with
 | nil=>exact absurd rfl h
 | cons k r=>
  obtain⟨a,b,c⟩:=L6 r k
  refine⟨?_,fun x hx=> ?_⟩
  ·rcases c with c | c
   ·show r.foldl min k∈k::r
    rw[c];exact .head _
   ·exact .tail _ c
  ·rcases List.mem_cons.mp hx with rfl | hx
   ·exact a
   ·exact b x hx
def oneOf(cs:List Cu)(g:Gr):Cu:=
 let f:=(cs[least g.2.2]?).getD (0,0,none)
 if g.2.2.length=1 then f else if f.2.1<f.1 then (g.2.1,g.1,none) else (g.1,g.2.1,none)
def settle(cs:List Cu)(us:List T3):List Cu:=(groups us).map (oneOf cs)
theorem L7{K:Frag}{σ:St}{H:Hp}{QQ:List V→Hp→Addr→Prop}{te:TE}{fv:List (Str×Nat)}{a:Addr}{xs:List V}(ha:H a=some (.lst xs))(hl:xs.length≤1000000)(P:Nat→List V→Hp→Prop)(p0:P 0 [] H)(pm: ∀i ys H2 H3,P i ys H2→au H2 H3→P i ys H3)
  (step: ∀i x ys H2,xs[i]?=some x→au H H2→P i ys H2→ ∀Q':VK,(∀y H3,au H2 H3→P (i+1) (ys++ [y]) H3→Q' y H3)→te (some (.int (i:Nat))::some x::cf σ fv) H2 Q')
  (fin: ∀ys H2 p,au H H2→P xs.length ys H2→H2 p=none→QQ ys H2 p): ∃W:Nat→Nat→List V→Hp→Prop,(∃m,W 0 m [] H)∧ ∀i m ys H2,W i m ys H2→
   ((tV K a).stop i H2∧ ∀p,H2 p=none→QQ ys H2 p)∨
   ((tV K a).go i H2∧ ∀x H3,(tV K a).fo i H2 x H3→jU K (some 2) x H3 fun zs=>jV none (zs.map some++cf σ fv) H3 fun b H5=>
    if b=true then te (zs.map some++cf σ fv) H5 fun y H6=>ys.length<sizeLine∧ ∃m',m'<m∧W (i+1) m' (ys++ [y]) H6 else ∃m',m'<m∧W (i+1) m' ys H5):=by
 refine⟨fun i m ys H2=>m=xs.length - i∧i≤xs.length∧ys.length=i∧au H H2∧P i ys H2,⟨_,rfl,Nat.zero_le _,rfl,au.refl _,p0⟩, ?_⟩
 rintro i m ys H2 ⟨rfl,hi,hy,s,p⟩
 by_cases aQ:i<xs.length
 ·refine .inr ⟨⟨xs,aq.of (s _ _ ha),aQ⟩, ?_⟩
  rintro x H3 ⟨T,hT,rfl,hx⟩
  have dr:=hx xs xs[i] (aq.of (s _ _ ha)) (List.getElem?_eq_getElem aQ)
  subst dr
  have s3:=sameNew (o:= .tup [V.int (i:Nat),xs[i]]) hT
  refine⟨T,_,rfl,aL.of aw,rfl, ?_⟩
  exact step i xs[i] ys _ (List.getElem?_eq_getElem aQ) (s.trans s3) (pm _ _ _ _ p s3) _ fun y H4 s4 p4=> ⟨dD (by omega),xs.length - (i+1),by omega,rfl,aQ,by simp[hy],(s.trans s3).trans s4,p4⟩
 ·have eM:i=xs.length:=by omega
  subst eM
  exact .inl ⟨⟨xs,aq.of (s _ _ ha),rfl⟩,fun q hq=>fin ys _ q s p hq⟩
section
variable {K:Frag}
def jI:Sp:=fun vs H Q E=> ∃(lo hi:Nat) (t:Addr) (a h:Nat) (g:Option Nat),vs=[.int lo, .int hi, .ref t]∧i5 H t a h g∧Q (.bl (near lo hi (min a h) (max a h))) H
theorem abk(vs:List V)(H:Hp)(Q:VK)(E:XK)(hh:jI vs H Q E):aB (aM K [("begin_of",gU),("is_empty",vp)] [] (E:=E)) Cv (Dn Q) (start uJ vs) H:=by
 obtain⟨lo,hi,t,a,h,g,rfl,ha,q⟩:=hh
 refine df (e7 (ba gU rfl (aj (ai rfl (aC ⟨t,a,h,g,rfl,ha,ai rfl (km ⟨_,rfl, ?_⟩)⟩)))))
 unfold near at q
 by_cases e:min a h=hi
 ·rw[if_pos e] at q
  refine iT ?_ (decide_eq_true (by omega))
  refine dc (nU (eN (ai rfl (ai rfl (km ⟨_,rfl, ?_⟩)))))
  by_cases e2:lo=hi
  ·rw[decide_eq_true e2] at q
   exact iT q (decide_eq_true (by omega))
  ·rw[decide_eq_false e2] at q
   refine iF (ba vp rfl (aj (ai rfl (aC ⟨t,a,h,g,rfl,ha, ?_⟩)))) (decide_eq_false (by omega))
   rw[show decide (a=h)=(false || decide (min a h=max a h)) by rw[Bool.false_or,Bool.eq_iff_iff];simp only[decide_eq_true_eq];omega]
   exact q
 ·rw[if_neg e] at q
  refine iF (eO ?_) (decide_eq_false (by omega))
  refine dc (eN (ba gU rfl (aj (ai rfl (aC ⟨t,a,h,g,rfl,ha,ai rfl (N.ltI ?_)⟩)))))
  rw[show decide (((min a h:Nat):Int) < (hi:Nat))=decide (min a h<hi) by rw[Bool.eq_iff_iff];simp only[decide_eq_true_eq];omega]
  exact q
def vv:Sp:=fun vs H Q E=> ∃(t:Addr) (a h:Nat) (g:Option Nat),vs=[.ref t]∧i5 H t a h g∧Q (.bl (decide (h<a))) H
theorem abl(vs:List V)(H:Hp)(Q:VK)(E:XK)(hh:vv vs H Q E):aB (aM K [] [] (E:=E)) CK (Dn Q) (start eA vs) H:=by
 obtain⟨t,a,h,g,rfl,ha,q⟩:=hh
 refine dc (eN (a_ (ai rfl (aA (ck ha rfl (a_ (ai rfl (aA (ck ha rfl (N.ltI ?_))))))))))
 rw[show decide (((h:Nat):Int) < (a:Nat))=decide (h<a) by rw[Bool.eq_iff_iff];simp only[decide_eq_true_eq];omega]
 exact q
def nums(ms:List Nat):List V:=ms.map fun k=>V.int (k:Nat)
def zf(mk:List V→HO)(G:Addr)(H:Hp)(v:V)(g:Gr):Prop:= ∃t m,v= .ref t∧H t=some (mk [.int (g.1:Nat), .int (g.2.1:Nat), .ref m])∧H m=some (.lst (nums g.2.2))∧t≠G∧m≠G
theorem zf.but{mk:List V→HO}{G:Addr}{H H':Hp}{v:V}{g:Gr}(x:zf mk G H v g)(b:bf G H H'):zf mk G H' v g:=by
 obtain⟨t,m,e,h1,h2,n1,n2⟩:=x
 exact⟨t,m,e,b _ _ h1 n1,b _ _ h2 n2,n1,n2⟩
abbrev eF(mk:List V→HO)(G:Addr)(H:Hp):List V→List Gr→Prop:=Paired (zf mk G H)
theorem eF.but{mk:List V→HO}{G:Addr}{H H':Hp}{vs:List V}{gs:List Gr}(x:eF mk G H vs gs)(b:bf G H H'):eF mk G H' vs gs:=L2.Paired.eQ x fun _ _ y=>y.but b
theorem iB{α β:Type}{R:α→β→Prop}: ∀{xs:List α} {ys:List β} {x:α} {y:β},Paired R xs ys→R x y→Paired R (xs++ [x]) (ys++ [y])
 | [],[],x,y, .nil,h=> .cons h .nil
 | _::_,_::_,x,y, .cons a r,h=> .cons a (iB r h)
theorem nX{c:Addr}{H H':Hp}(s:au H H'):bf c H H':=fun b o e _=>s b o e
theorem L8{Γ:aO}{σ:St}{H:Hp}{Q:VK}{as:List RE}(h:aS Γ as σ H fun vs H1=>yk Γ.K vs H1 Q):ah Γ (.xt yl as) σ H Q:=h
structure nY (cs:List Cu) (t:T3) (c:Cu):Prop where
 at':cs[t.2.2.toNat]?=some c
 e1:t.1=((min c.1 c.2.1:Nat):Int)
 e2:t.2.1=((max c.1 c.2.1:Nat):Int)
 e3:t.2.2=((t.2.2.toNat:Nat):Int)
theorem vw{cs:List Cu}{us:List T3}(S:gb cs us){t:T3}(h:t∈us): ∃c,nY cs t c:=by
 obtain⟨i,c,e,rfl⟩:=DT (S.1.subset h)
 rw[Nat.zero_add]
 exact⟨c,by show cs[(((i:Nat):Int)).toNat]?=some c;rw[Int.toNat_natCast];exact e,rfl,rfl,by show((i:Nat):Int)=(((i:Nat):Int).toNat:Nat);rw[Int.toNat_natCast]⟩
abbrev zg:List (Str×Sp):=[("begin_of",gU),("end_of",jH),("meet",jI)]
def L9:List RS:=[.ite (.and [(.cmp .Gt (.blt .len [(.v 2)]) (.c (.int 0))),(.call 2 [(.ix (.ix (.v 2) (.neg (.c (.int 1)))) (.c (.int 0))),(.ix (.ix (.v 2) (.neg (.c (.int 1)))) (.c (.int 1))),(.ix (.v 0) (.v 5))])]) [.asg 6 (.bC .pop (.v 2) []),
   .drop (.bC .append (.v 2) [(.tup [(.ix (.v 6) (.c (.int 0))),(.blt .max [(.ix (.v 6) (.c (.int 1))),(.v 4)]),(.bin .Add (.ix (.v 6) (.c (.int 2))) (.lst [(.v 5)]))])])] [.drop (.bC .append (.v 2) [(.tup [(.v 3),(.v 4),(.lst [(.v 5)])])])]]
theorem abm{gs:List Gr}{t:T3}:(bS gs t).length≤gs.length+1:=by
 unfold bS
 split
 ·simp
 ·split
  ·simp[List.length_dropLast]
  ·simp
theorem abn{Γ:aO}{σ:St}{H:Hp}{Q:VK}{i:Nat}{l:Addr}{xs:List V}{y:V}(hσ:σ[i]?=some (some (.ref l)))(hl:H l=some (.lst (xs++ [y])))(q:Q y (upd H l (.lst xs))):ah Γ (.bC .pop (.v i) []) σ H Q:=by
 refine⟨_,hσ, .inl ⟨rfl,_,aq.of hl⟩,_,y,hl,by simp, ?_⟩
 rw[List.dropLast_concat];exact q
theorem abo{E:XK}{D:Ends}{H:Hp}{l O G:Addr}{vs:List V}{cs:List Cu}{t:T3}{c:Cu}{zs:List V}{gs:List Gr}{u6:Option V}(hl:H l=some (.lst vs))(cO:bq H vs cs)(nl:l≠G)(k:nY cs t c)(hG:H G=some (.lst zs))(gv:eF .tup G H zs gs)(hn:gs.length≤1000)
  (aE: ∀g∈gs,g.2.2.length≤1000)
  (hD: ∀(y6:Option V) (dq:List V) H',bf G H H'→H' G=some (.lst dq)→eF .tup G H' dq (bS gs t)→D.nx [some (.ref l),some (.ref O),some (.ref G),some (.int t.1),some (.int t.2.1),some (.int t.2.2),y6] H'):
  aB (aM K zg [] (E:=E)) L9 D [some (.ref l),some (.ref O),some (.ref G),some (.int t.1),some (.int t.2.1),some (.int t.2.2),u6] H:=by
 have lz:=Paired.length gv
 have fresh:bS gs t=gs++ [(t.1.toNat,t.2.1.toNat,[t.2.2.toNat])]→aB (aM K zg [] (E:=E)) [.drop (.bC .append (.v 2) [(.tup [(.v 3),(.v 4),(.lst [(.v 5)])])])] {D with nx:=aB (aM K zg [] (E:=E)) [] D} [some (.ref l),some (.ref O),some (.ref G),some (.int t.1),some (.int t.2.1),some (.int t.2.2),u6] H:=by
  intro e
  refine hU (jG (ai rfl ⟨.inl ⟨rfl,_,aq.of hG⟩,dJ (aj (ai rfl (aj (ai rfl (aj (cR (aj (ai rfl (aC ⟨(by show 1≤sizeLine;decide),fun m fm=>aC ⟨(by show 3≤sizeLine;decide),fun T fT=> ?_⟩⟩)))))))))⟩))
  have s1:=sameNew (o:= .lst [V.int t.2.2]) fm
  have s2:=sameNew (o:= .tup [V.int t.1,V.int t.2.1,V.ref m]) fT
  have e_:=s1.trans s2
  have nm:m≠G:=fun z=>by rw[z,hG] at fm;cases fm
  have nT:T≠G:=fun z=>by rw[z,s1 _ _ hG] at fT;cases fT
  refine⟨zs,e_ _ _ hG,dD (by omega), ?_⟩
  have b3:bf G (upd (upd H m (.lst [V.int t.2.2])) T (.tup [V.int t.1,V.int t.2.1,V.ref m])) (upd (upd (upd H m (.lst [V.int t.2.2])) T (.tup [V.int t.1,V.int t.2.1,V.ref m])) G (.lst (zs++ [.ref T]))):=bf.upd
  have bb:bf G H (upd (upd (upd H m (.lst [V.int t.2.2])) T (.tup [V.int t.1,V.int t.2.1,V.ref m])) G (.lst (zs++ [.ref T]))):=(nX e_).trans b3
  refine hD u6 (zs++ [.ref T]) _ bb aw ?_
  rw[e]
  refine iB (gv.but bb) ⟨T,m,rfl, ?_, ?_,nT,nm⟩
  ·rw[b3 _ _ aw nT,show t.1=((t.1.toNat:Nat):Int) by rw[k.e1,Int.toNat_natCast],show t.2.1=((t.2.1.toNat:Nat):Int) by rw[k.e2,Int.toNat_natCast]]
   simp only[Int.toNat_natCast]
  ·rw[b3 _ _ (s2 _ _ aw) nm]
   show some (HO.lst [V.int t.2.2])=some (HO.lst [V.int ((t.2.2.toNat:Nat):Int)])
   rw[←k.e3]
 refine df (K5 (e7 (gh (ai rfl (.inl ⟨_,aq.of hG,aA (N.LR ⟨_,rfl, ?_⟩)⟩)))))
 rcases List.eq_nil_or_concat gs with eg | ⟨i6,g,eg⟩
 ·subst eg
  cases gv
  refine iF (iF (fresh ?_) rfl) rfl
  unfold bS;rfl
 ·rw[List.concat_eq_append] at eg
  subst eg
  obtain⟨dw,z,rfl,r0,gz⟩:=DN gv
  obtain⟨T,m,rfl,hT,hm,nT,nm⟩:=gz
  have r6:(i6++ [g]).getLast?=some g:=by simp
  refine iT ?_ (decide_eq_true (by rw[List.length_append];simp))
  have i7:dj (dw++ [V.ref T]) (-1)=some (V.ref T):=by
   unfold dj
   rw[List.length_append]
   show(g6 (dw.length+1) (-1)).bind _=_
   rw[DP];simp
  obtain⟨v,hv,tc,rfl,hc⟩:=vq cO k.at'
  have abp:dj vs t.2.2=some (.ref tc):=by rw[k.e3];exact gB hv
  refine pq jI rfl (aj (a_ (a_ (ai rfl (nS (dW hG i7 (aA (ck hT rfl (aj (a_ (a_ (ai rfl (nS (dW hG i7 (aA (ck hT rfl (aj (a_ (ai rfl (ai rfl (dW hl abp (aC ?_))))))))))))))))))))))
  refine⟨g.1,g.2.1,tc,_,_,_,rfl,hc,iW ?_⟩
  have en:near g.1 g.2.1 (min c.1 c.2.1) (max c.1 c.2.1)=near g.1 g.2.1 t.1.toNat t.2.1.toNat:=by rw[k.e1,k.e2,Int.toNat_natCast,Int.toNat_natCast]
  rw[en]
  cases L_:near g.1 g.2.1 t.1.toNat t.2.1.toNat with
  | false=>
   refine iF (fresh ?_) rfl
   unfold bS;rw[r6];simp only[L_];rfl
  | true=>
   refine iT ?_ rfl
   have eg2:bS (i6++ [g]) t=i6++ [(g.1,max g.2.1 t.2.1.toNat,g.2.2++ [t.2.2.toNat])]:=by
    unfold bS;rw[r6];simp only[L_,if_true,List.dropLast_concat]
   refine b_ (abn rfl hG ?_)
   have b1:bf G H (upd H G (.lst dw)):=bf.upd
   have i_:upd H G (.lst dw) G=some (.lst dw):=aw
   have zh:=b1 _ _ hT nT
   have vx:=b1 _ _ hm nm
   generalize upd H G (.lst dw)=H1 at b1 i_ zh vx⊢
   refine hU (jG (ai rfl ⟨.inl ⟨rfl,_,aq.of i_⟩,dJ (aj (a_ (ai rfl (aA (ck zh rfl (aj (gP (aj (a_ (ai rfl (aA (ck zh rfl (aj (ai rfl (aC ?_)))))))))))))))⟩))
   have lg:=aE g (by simp)
   refine aj (bZ (a_ (ai rfl (aA (ck zh rfl (cR (aj (ai rfl (aC ⟨(by show 1≤sizeLine;decide),fun n1 f1=> ?_⟩)))))))))
   have s2:=sameNew (o:= .lst [V.int t.2.2]) f1
   refine .inl ⟨m,n1,nums g.2.2,[V.int t.2.2],rfl,rfl,s2 _ _ vx,aw,cM (by show(nums g.2.2).length+1≤_;unfold nums;rw[List.length_map];omega),fun m2 f2=>aC ⟨(by show 3≤sizeLine;decide),fun T2 f3=> ?_⟩⟩
   have s3:=sameNew (o:= .lst (nums g.2.2++ [V.int t.2.2])) f2
   have dN:=s2.trans s3
   obtain⟨bV,vy⟩: ∃bV:Int,bV=(if t.2.1> ((g.2.1:Nat):Int) then t.2.1 else ((g.2.1:Nat):Int)):=⟨_,rfl⟩
   have DW:bV=((max g.2.1 t.2.1.toNat:Nat):Int):=by
    rw[vy,k.e2,Int.toNat_natCast]
    split<;>omega
   have DX:(upd (upd H1 n1 (.lst [V.int t.2.2])) m2 (.lst (nums g.2.2++ [V.int t.2.2]))) T2=none:=f3
   have s4:=sameNew (o:= .tup [V.int (g.1:Nat),V.int bV,V.ref m2]) DX
   have gX:=dN.trans s4
   have vz:m2≠G:=fun z=>by rw[z,s2 _ _ i_] at f2;cases f2
   have vA:T2≠G:=fun z=>by rw[z,dN _ _ i_] at DX;cases DX
   show xl K .append (.ref G) [.ref T2] (upd (upd (upd H1 n1 (.lst [V.int t.2.2])) m2 (.lst (nums g.2.2++ [V.int t.2.2]))) T2 (.tup [V.int (g.1:Nat),V.int (if t.2.1> ((g.2.1:Nat):Int) then t.2.1 else ((g.2.1:Nat):Int)),V.ref m2])) _
   rw[←vy]
   refine⟨dw,gX _ _ i_,dD (by rw[List.length_append] at hn;have:=Paired.length r0;omega), ?_⟩
   have vB:=s4 _ _ (aw (H:=upd H1 n1 (.lst [V.int t.2.2])) (a:=m2) (o:= .lst (nums g.2.2++ [V.int t.2.2])))
   have vC:(upd (upd (upd H1 n1 (.lst [V.int t.2.2])) m2 (.lst (nums g.2.2++ [V.int t.2.2]))) T2 (.tup [V.int (g.1:Nat),V.int bV,V.ref m2])) T2=some (.tup [V.int (g.1:Nat),V.int bV,V.ref m2]):=aw
   generalize (upd (upd (upd H1 n1 (.lst [V.int t.2.2])) m2 (.lst (nums g.2.2++ [V.int t.2.2]))) T2 (.tup [V.int (g.1:Nat),V.int bV,V.ref m2]))=H4 at gX vB vC⊢
   have b5:bf G H4 (upd H4 G (.lst (dw++ [.ref T2]))):=bf.upd
   have bb:bf G H (upd H4 G (.lst (dw++ [.ref T2]))):=(b1.trans (nX gX)).trans b5
   refine hD _ (dw++ [.ref T2]) _ bb aw ?_
   rw[eg2]
   refine iB (eF.but r0 bb) ⟨T2,m2,rfl, ?_, ?_,vA,vz⟩
   ·rw[b5 _ _ vC vA,DW]
   ·rw[b5 _ _ vB vz]
    show some (HO.lst (nums g.2.2++ [V.int t.2.2]))=some (HO.lst (nums (g.2.2++ [t.2.2.toNat])))
    unfold nums
    rw[List.map_append]
    show some (HO.lst (_++ [V.int t.2.2]))=some (HO.lst (_++ [V.int ((t.2.2.toNat:Nat):Int)]))
    rw[←k.e3]
end
theorem vD{α β:Type}{R:α→β→Prop}: ∀{xs:List α} {ys:List β} {i:Nat} {x:α},Paired R xs ys→xs[i]?=some x→ ∃y,ys[i]?=some y∧R x y
 | [],[],i,x, .nil,h=>by simp at h
 | x::xs,y::ys,0,w, .cons a r,h=>by cases h;exact⟨y,rfl,a⟩
 | x::xs,y::ys,i+1,w, .cons a r,h=>vD (xs:=xs) (ys:=ys) (i:=i) r (by simpa using h)
theorem DY: ∀(us:List T3) (gs:List Gr) (n:Nat),(∀g∈gs,g.2.2.length≤n)→gs.length≤n→(∀g∈us.foldl bS gs,g.2.2.length≤n+us.length)∧(us.foldl bS gs).length≤n+us.length
 | [],gs,n,h1,h2=> ⟨h1,h2⟩
 | t::us,gs,n,h1,h2=>by
  have CF:(bS gs t).length≤n+1:=Nat.le_trans abm (by omega)
  have rX: ∀g∈bS gs t,g.2.2.length≤n+1:=by
   have one: ∀g∈gs++ [((t.1.toNat,t.2.1.toNat,[t.2.2.toNat]):Gr)],g.2.2.length≤n+1:=by
    intro g hg
    rcases List.mem_append.mp hg with hg | hg
    ·have:=h1 g hg;omega
    ·rw[List.mem_singleton.mp hg];show 1≤n+1;omega
   unfold bS
   split
   ·exact one
   ·rename_i g0 e0
    split
    ·intro g hg
     rcases List.mem_append.mp hg with hg | hg
     ·have:=h1 g (List.dropLast_subset _ hg);omega
     ·rw[List.mem_singleton.mp hg]
      have:=h1 g0 (List.mem_of_getLast? e0)
      show(g0.2.2++ [t.2.2.toNat]).length≤n+1
      rw[List.length_append];show g0.2.2.length+1≤n+1;omega
    ·exact one
  obtain⟨a,b⟩:=DY us (bS gs t) (n+1) rX CF
  rw[List.length_cons]
  exact⟨fun g hg=>by have:=a g hg;omega,by show(us.foldl bS (bS gs t)).length≤_;omega⟩
theorem zi(us:List T3):(∀g∈groups us,g.2.2.length≤us.length)∧(groups us).length≤us.length:=by
 have:=DY us [] 0 (fun g hg=>by cases hg) (Nat.le_refl _)
 rwa [Nat.zero_add] at this
theorem mw{α:Type}{l:List α}{i:Nat}{x:α}(h:l[i]?=some x):l.take (i+1)=l.take i++ [x]:=by
 have aQ:i<l.length:=(List.getElem?_eq_some_iff.mp h).1
 rw[List.take_succ_eq_append_getElem aQ,(List.getElem?_eq_some_iff.mp h).2]
section
variable {K:Frag}
def vE:Sp:=fun vs H Q E=> ∃(l:Addr) (xs:List V) (cs:List Cu),vs=[.ref l]∧H l=some (.lst xs)∧bq H xs cs∧cs.length<64∧
 ∀us G zs H',gb cs us→au H H'→H G=none→H' G=some (.lst zs)→eF .tup G H' zs (groups us)→Q (.ref G) H'
theorem abr(vs:List V)(H:Hp)(Q:VK)(E:XK)(hh:vE vs H Q E):aB (aM K zg [] (E:=E)) CM (Dn Q) (start CL vs) H:=by
 obtain⟨l,xs,cs,rfl,hl,cO,hn,q⟩:=hh
 have lx:xs.length=cs.length:=Paired.length cO
 refine b_ (L8 (aj ?_))
 refine⟨_,rfl,l,rfl,⟨_,aq.of hl⟩, ?_⟩
 refine L7 hl (by omega) (fun i ys H2=>Paired (V3 H2) ys (e8 0 (cs.take i))) .nil (fun i ys H2 H3 p s=>L2.Paired.eQ p fun v t ⟨a,e,h⟩=> ⟨a,e,s _ _ h⟩) ?_ ?_
 ·intro i x ys H2 hx s2 p Q' kk
  obtain⟨c,hc,t,rfl,ht⟩:=gj cO hx
  have gL:=s2 _ _ ht
  have hi:i<cs.length:=(List.getElem?_eq_some_iff.mp hc).1
  refine dJ (aj (ba gU rfl (aj (ai rfl (aC ⟨t,_,_,_,rfl,gL,aj (ba jH rfl (aj (ai rfl (aC ⟨t,_,_,_,rfl,gL,aj (ai rfl (aC ⟨(by show 3≤sizeLine;decide),fun T fT=> ?_⟩))⟩))))⟩)))))
  have s3:=sameNew (o:= .tup [V.int (min c.1 c.2.1:Nat),V.int (max c.1 c.2.1:Nat),V.int (i:Nat)]) fT
  refine kk _ _ s3 ?_
  rw[mw hc,DU,Nat.zero_add,List.length_take,Nat.min_eq_left (show i≤cs.length by omega)]
  exact iB (L2.Paired.eQ p fun v t ⟨a,e,h⟩=> ⟨a,e,s3 _ _ h⟩) ⟨T,rfl,aw⟩
 ·intro ys H2 p2 s2 p f2
  rw[lx,List.take_of_length_le (Nat.le_refl _)] at p
  have s3:=sameNew (o:= .lst ys) f2
  refine aC ⟨p2,ys,e8 0 cs,rfl,aq.of aw,L2.Paired.eQ p fun v t ⟨a,e,h⟩=> ⟨a,e,s3 _ _ h⟩,keys_nodup 0 cs,by rw[nW];exact hn,fun O zs us fO p3 pm pw=> ?_⟩
  have S:gb cs us:=⟨pm,pw⟩
  have s4:=sameNew (o:= .lst zs) fO
  have fg:=(s2.trans s3).trans s4
  have hO:(upd (upd H2 p2 (.lst ys)) O (.lst zs)) O=some (.lst zs):=aw
  have p4:Paired (V3 (upd (upd H2 p2 (.lst ys)) O (.lst zs))) zs us:=L2.Paired.eQ p3 fun v t ⟨a,e,h⟩=> ⟨a,e,s4 _ _ h⟩
  generalize (upd (upd H2 p2 (.lst ys)) O (.lst zs))=H3 at fg hO p4⊢
  have iC:=fg _ _ hl
  have Ma:=cO.same fg
  have lu:us.length=cs.length:=by rw[pm.length_eq,nW]
  have lz:zs.length=us.length:=Paired.length p4
  refine b_ (cR (aC ⟨Nat.zero_le _,fun G fG=> ?_⟩))
  have s5:=sameNew (o:= .lst []) fG
  refine DO (body:=L9) (ai rfl ⟨O,rfl,⟨_,aq.of (s5 _ _ hO)⟩,jO (K:=K) (a:=O) (xs:=zs) (fun i σ H5=> ∃(ws:List V) (y3 y4 y5 y6:Option V),σ=[some (.ref l),some (.ref O),some (.ref G),y3,y4,y5,y6]∧au H3 H5∧H5 G=some (.lst ws)∧eF .tup G H5 ws (groups (us.take i))) ?_ ?_ ?_ ?_⟩)
  ·exact⟨[],none,none,none,none,rfl,s5,aw, .nil⟩
  ·rintro i σ H5 _ ⟨ws,y3,y4,y5,y6,rfl,s6,_⟩
   exact aq.of (s6 _ _ hO)
  ·rintro i x σ H5 hi ⟨ws,y3,y4,y5,y6,rfl,s6,hG,gv⟩
   obtain⟨t,ht,T,rfl,hT⟩:=vD p4 hi
   refine LW (s6 _ _ hT) ?_
   obtain⟨c,k⟩:=vw S (List.mem_of_getElem? ht)
   have bd:=zi (us.take i)
   have li:(us.take i).length≤64:=by rw[List.length_take];omega
   refine abo (s6 _ _ iC) (Ma.same s6) (bD iC fG) k hG gv (by omega) (fun g hg=>by have:=bd.1 g hg;omega) fun z6 dq H6 b6 DZ D0=> ⟨dq,_,_,_,z6,rfl,fun b o e=>b6 _ _ (s6 _ _ e) (bD e fG),DZ, ?_⟩
   rw[mw ht,LY];exact D0
  ·rintro σ H5 ⟨ws,y3,y4,y5,y6,rfl,s6,hG,gv⟩
   rw[lz,List.take_of_length_le (Nat.le_refl _)] at gv
   exact dc (ai rfl (q us G ws H5 S (fg.trans s6) (fg.free fG) hG gv))
def vF:Sp:=fun vs H Q E=> ∃(l:Addr) (xs:List V) (cs:List Cu) (T m:Addr) (g:Gr),vs=[.ref l, .ref T]∧H l=some (.lst xs)∧bq H xs cs∧H T=some (.tup [.int (g.1:Nat), .int (g.2.1:Nat), .ref m])∧H m=some (.lst (nums g.2.2))∧g.2.2≠ []∧(∀k∈g.2.2,k<cs.length)∧
 ∀r H',au H H'→hZ H' r (oneOf cs g)→Q r H'
theorem Mb(ms:List Nat):nums ms=(ms.map fun k=> ((k:Nat):Int)).map V.int:=by unfold nums;rw[List.map_map];rfl
theorem Mc{ms:List Nat}(h:ms≠ []){x:Int}(hx:x∈ms.map fun k=> ((k:Nat):Int))(hm: ∀n∈ms.map fun k=> ((k:Nat):Int),x≤n):x=((least ms:Nat):Int):=by
 obtain⟨k,hk,rfl⟩:=List.mem_map.mp hx
 obtain⟨a,b⟩:=DV h
 have h1:=b k hk
 have h2:=hm _ (List.mem_map.mpr ⟨least ms,a,rfl⟩)
 omega
theorem abt(vs:List V)(H:Hp)(Q:VK)(E:XK)(hh:vF vs H Q E):aB (aM K [("is_backward",vv)] [] (E:=E)) CO (Dn Q) (start CN vs) H:=by
 obtain⟨l,xs,cs,T,m,g,rfl,hl,cO,hT,hm,cP,cW,q⟩:=hh
 have iO:=hm
 rw[Mb] at iO
 refine b_ (a_ (ai rfl (gP (aj (a_ (ai rfl (aA (ck hT rfl (aC ⟨_,aq.of iO,by simpa using cP,fun x hx t9=> ?_⟩)))))))))
 rw[Mc cP hx t9]
 have hk:=cW _ (DV cP).1
 have hc:cs[least g.2.2]?=some cs[least g.2.2]:=List.getElem?_eq_getElem hk
 obtain⟨v,hv,tc,rfl,r9⟩:=vq cO hc
 refine dW hl (gB hv) ?_
 unfold oneOf at q
 rw[hc,Option.getD_some] at q
 refine df (e7 (gh (a_ (ai rfl (aA (ck hT rfl (.inl ⟨_,aq.of hm,aA (km ⟨_,rfl, ?_⟩)⟩)))))))
 have ln:(nums g.2.2).length=g.2.2.length:=by unfold nums;rw[List.length_map]
 rw[ln]
 by_cases e:g.2.2.length=1
 ·simp only[e,if_true] at q
  refine iT ?_ (decide_eq_true (by omega))
  exact dc (ai rfl (q _ _ (au.refl _) ⟨tc,rfl,r9⟩))
 ·simp only[e,if_false] at q
  refine iF (eO ?_) (decide_eq_false (by omega))
  refine dc (aba (pq vv rfl (aj (ai rfl (aC ⟨tc,_,_,_,rfl,r9,iW ?_⟩)))))
  by_cases b:(cs[least g.2.2]).2.1< (cs[least g.2.2]).1
  ·simp only[b,if_true] at q
   refine iT ?_ (decide_eq_true b)
   refine dJ (aj (a_ (ai rfl (aA (ck hT rfl (aj (a_ (ai rfl (aA (ck hT rfl (aj (aA (aC ⟨(by show 3≤sizeLine;decide),fun t' f'=> ?_⟩)))))))))))))
   exact q _ _ (sameNew f') ⟨t',rfl,aw⟩
  ·simp only[b,if_false] at q
   refine iF ?_ (decide_eq_false b)
   refine dJ (aj (a_ (ai rfl (aA (ck hT rfl (aj (a_ (ai rfl (aA (ck hT rfl (aj (aA (aC ⟨(by show 3≤sizeLine;decide),fun t' f'=> ?_⟩)))))))))))))
   exact q _ _ (sameNew f') ⟨t',rfl,aw⟩
def h9:Sp:=fun vs H Q E=> ∃(l:Addr) (xs:List V) (cs:List Cu),vs=[.ref l]∧H l=some (.lst xs)∧bq H xs cs∧cs.length<64∧
 ∀us r zs H',gb cs us→au H H'→H r=none→H' r=some (.lst zs)→bq H' zs (settle cs us)→Q (.ref r) H'
theorem Md{cs:List Cu}{us:List T3}(S:gb cs us): ∀g∈groups us,g.2.2≠ []∧ ∀k∈g.2.2,k<cs.length:=
 LZ cs.length us [] (fun t ht=>by
  obtain⟨c,k⟩:=vw S ht
  exact(List.getElem?_eq_some_iff.mp k.at').1) fun g hg=>by cases hg
theorem abu(vs:List V)(H:Hp)(Q:VK)(E:XK)(hh:h9 vs H Q E):aB (aM K [("gathered",vE),("as_one",vF)] [] (E:=E)) CQ (Dn Q) (start o5 vs) H:=by
 obtain⟨l,xs,cs,rfl,hl,cO,hn,q⟩:=hh
 refine dc (pJ (ba vE rfl (aj (ai rfl (aC ⟨l,xs,cs,rfl,hl,cO,hn,fun us G zs H1 S s1 fG hG gv=> ⟨G,rfl,⟨_,aq.of hG⟩, ?_⟩⟩)))))
 have lu:us.length=cs.length:=by rw[S.1.length_eq,nW]
 have bd:=zi us
 have lz:zs.length=(groups us).length:=Paired.length gv
 refine pA hG (by omega) (fun i ys H2=>bq H2 ys (((groups us).take i).map (oneOf cs))) .nil ?_ ?_
 ·intro i x ys H2 hx s2 p Q' kk
  obtain⟨g,hg,T,m,rfl,hT,hm,_,_⟩:=vD gv hx
  have ok:=Md S g (List.mem_of_getElem? hg)
  have e_:=s1.trans s2
  refine ba vF rfl (aj (ai rfl (aj (ai rfl (aC ⟨l,xs,cs,T,m,g,rfl,e_ _ _ hl,cO.same e_,s2 _ _ hT,s2 _ _ hm,ok.1,ok.2,fun r H3 s3 hr=>kk _ _ s3 ?_⟩)))))
  rw[mw hg,List.map_append]
  exact iB (bq.same p s3) hr
 ·intro ys H2 p2 s2 p f2
  rw[lz,List.take_of_length_le (Nat.le_refl _)] at p
  have s3:=sameNew (o:= .lst ys) f2
  exact q us p2 ys _ S ((s1.trans s2).trans s3) ((s1.trans s2).free f2) aw (bq.same p s3)
end
def gY(g:Gr):PyData:= .list [.int (g.1:Nat), .int (g.2.1:Nat), .list ((g.2.2.map fun k=> ((k:Nat):Int)).map .int)]
theorem abv(g:Gr):(gY g).canLay0=true∧(gY g).depth≤2:=by
 constructor
 ·show(true && (true && (PyData.canLayAll0 ((g.2.2.map fun k=> ((k:Nat):Int)).map .int) && true)))=true
  rw[PyProof.Rows.canLayAll_ints];rfl
 ·show max 0 (max 0 (max (PyData.depthAll ((g.2.2.map fun k=> ((k:Nat):Int)).map .int)+1) 0))+1≤2
  rw[PyProof.Rows.depthAll_ints];decide
theorem Me: ∀(gs:List Gr),PyData.canLayAll0 (gs.map gY)=true∧PyData.depthAll (gs.map gY)≤2
 | []=> ⟨rfl,Nat.zero_le _⟩
 | g::r=>by
  obtain⟨a,b⟩:=abv g
  obtain⟨c,d⟩:=Me r
  refine⟨?_, ?_⟩
  ·show((gY g).canLay0 && PyData.canLayAll0 (r.map gY))=true
   rw[a,c];rfl
  ·show max (gY g).depth (PyData.depthAll (r.map gY))≤2
   omega
theorem abw(gs:List Gr):SeqAt.shaped (.list (gs.map gY))=true:=by
 obtain⟨c,d⟩:=Me gs
 unfold SeqAt.shaped
 have e:(PyData.list (gs.map gY)).canLay0=true:=c
 have e2:(PyData.list (gs.map gY)).depth≤64:=by show PyData.depthAll (gs.map gY)+1≤64;omega
 rw[e,decide_eq_true e2];rfl
theorem Mf(H:Hp): ∀ms:List Nat,IsL H ((ms.map fun k=> ((k:Nat):Int)).map PyData.int) (nums ms)
 | []=>rfl
 | k::r=> ⟨_,_,rfl,rfl,Mf H r⟩
theorem Mg{G:Addr}{H:Hp}: ∀{zs:List V} {gs:List Gr},eF .lst G H zs gs→IsL H (gs.map gY) zs
 | [],[], .nil=>rfl
 | z::zs,g::gs, .cons x r=>by
  obtain⟨t,m,rfl,h1,h2,_,_⟩:=x
  exact⟨_,_,rfl,⟨t,_,rfl,h1,_,_,rfl,rfl,_,_,rfl,rfl,_,_,rfl,⟨m,_,rfl,h2,Mf H _⟩,rfl⟩,Mg r⟩
section
variable {K:Frag}
theorem abx{H:Hp}{a b G:Addr}{xs:List V}{gs:List Gr}{Q:VK}(ha:H a=some (.lst xs))(hb:H b=some (.lst []))(hx:eF .lst G H xs gs)(q:Q (.bl (decide (gs≠ []))) H):cz K .NotEq (.ref a) (.ref b) H Q:=by
 refine⟨.list (gs.map gY), .list [],⟨a,xs,rfl,ha,Mg hx⟩,⟨b,[],rfl,hb,rfl⟩,abw gs,(by decide), ?_⟩
 have e:(true ^^ PyData.eqv (.list (gs.map gY)) (.list []))=decide (gs≠ []):=by
  cases gs with
  | nil=>rfl
  | cons p r=>rfl
 rw[e];exact q
theorem Mh{i j k:Nat}{t:Addr}{u v w:V}{σ:St}{H:Hp}{Q:St→Hp→Prop}(ht:H t=some (.lst [u,v,w]))(q:Q (((σ.set i (some u)).set j (some v)).set k (some w)) H):j6 K [i,j,k].length (jn [i,j,k]) (.ref t) σ H Q:=
 ⟨t,_,rfl, .inr (aq.of ht),rfl,_,_,rfl,_,_,rfl,_,_,rfl,rfl,q⟩
def lsBody:List RS:=[.asg 5 (.c (.bl false)),
  .ite (.cmp .NotEq (.v 1) (.lst [])) [.tR [6,7,8] (.ix (.v 1) (.neg (.c (.int 1)))),
   .asg 5 (.or [(.cmp .Lt (.v 2) (.v 7)),(.and [(.cmp .Eq (.v 2) (.v 7)),(.or [(.cmp .Eq (.v 6) (.v 7)),(.cmp .Eq (.v 2) (.v 3))])])])] [],
  .ite (.v 5) [.set (.v 1) (.neg (.c (.int 1))) (.lst [(.v 6),(.blt .max [(.v 7),(.v 3)]),(.bin .Add (.v 8) (.lst [(.v 4)]))])] [.drop (.bC .append (.v 1) [(.lst [(.v 2),(.v 3),(.lst [(.v 4)])])])]]
def D1:List RS:=[.ite (.v 5) [.set (.v 1) (.neg (.c (.int 1))) (.lst [(.v 6),(.blt .max [(.v 7),(.v 3)]),(.bin .Add (.v 8) (.lst [(.v 4)]))])] [.drop (.bC .append (.v 1) [(.lst [(.v 2),(.v 3),(.lst [(.v 4)])])])]]
theorem Mi{E:XK}{D:Ends}{H:Hp}{G:Addr}{cs:List Cu}{t:T3}{c:Cu}{zs:List V}{gs:List Gr}{u0 u6 u7 u8 u9 eP:Option V}(k:nY cs t c)(hG:H G=some (.lst zs))(gv:eF .lst G H zs gs)(hn:gs.length≤1000)
  (e:bS gs t=gs++ [(t.1.toNat,t.2.1.toNat,[t.2.2.toNat])])
  (hD: ∀(dq:List V) H',bf G H H'→H' G=some (.lst dq)→eF .lst G H' dq (bS gs t)→D.nx [u0,some (.ref G),some (.int t.1),some (.int t.2.1),some (.int t.2.2),some (.bl false),u6,u7,u8,u9,eP] H'):
  aB (aM K [] [] (E:=E)) D1 D [u0,some (.ref G),some (.int t.1),some (.int t.2.1),some (.int t.2.2),some (.bl false),u6,u7,u8,u9,eP] H:=by
 have lz:=Paired.length gv
 refine df (LV rfl (iF ?_ rfl))
 refine hU (jG (ai rfl ⟨.inl ⟨rfl,_,aq.of hG⟩,cR (aj (ai rfl (aj (ai rfl (aj (cR (aj (ai rfl (aC ⟨(by show 1≤sizeLine;decide),fun m fm=>aC ⟨(by show 3≤sizeLine;decide),fun T fT=> ?_⟩⟩)))))))))⟩))
 have s1:=sameNew (o:= .lst [V.int t.2.2]) fm
 have s2:=sameNew (o:= .lst [V.int t.1,V.int t.2.1,V.ref m]) fT
 have e_:=s1.trans s2
 have nm:m≠G:=fun z=>by rw[z,hG] at fm;cases fm
 have nT:T≠G:=fun z=>by rw[z,s1 _ _ hG] at fT;cases fT
 refine⟨zs,e_ _ _ hG,dD (by omega), ?_⟩
 have b3:bf G (upd (upd H m (.lst [V.int t.2.2])) T (.lst [V.int t.1,V.int t.2.1,V.ref m])) (upd (upd (upd H m (.lst [V.int t.2.2])) T (.lst [V.int t.1,V.int t.2.1,V.ref m])) G (.lst (zs++ [.ref T]))):=bf.upd
 have bb:bf G H (upd (upd (upd H m (.lst [V.int t.2.2])) T (.lst [V.int t.1,V.int t.2.1,V.ref m])) G (.lst (zs++ [.ref T]))):=(nX e_).trans b3
 refine hD (zs++ [.ref T]) _ bb aw ?_
 rw[e]
 refine iB (gv.but bb) ⟨T,m,rfl, ?_, ?_,nT,nm⟩
 ·rw[b3 _ _ aw nT,show t.1=((t.1.toNat:Nat):Int) by rw[k.e1,Int.toNat_natCast],show t.2.1=((t.2.1.toNat:Nat):Int) by rw[k.e2,Int.toNat_natCast]]
  simp only[Int.toNat_natCast]
 ·rw[b3 _ _ (s2 _ _ aw) nm]
  show some (HO.lst [V.int t.2.2])=some (HO.lst [V.int ((t.2.2.toNat:Nat):Int)])
  rw[←k.e3]
theorem aby{E:XK}{D:Ends}{H:Hp}{G T m:Addr}{cs:List Cu}{t:T3}{c:Cu}{dw:List V}{i6:List Gr}{g:Gr}{u0 u9 eP:Option V}(k:nY cs t c)(hG:H G=some (.lst (dw++ [.ref T])))(r0:eF .lst G H dw i6)(hm:H m=some (.lst (nums g.2.2)))(nm:m≠G)(hn:g.2.2.length≤1000)
  (e:bS (i6++ [g]) t=i6++ [(g.1,max g.2.1 t.2.1.toNat,g.2.2++ [t.2.2.toNat])])
  (hD: ∀(dq:List V) H',bf G H H'→H' G=some (.lst dq)→eF .lst G H' dq (bS (i6++ [g]) t)→D.nx [u0,some (.ref G),some (.int t.1),some (.int t.2.1),some (.int t.2.2),some (.bl true),some (.int (g.1:Nat)),some (.int (g.2.1:Nat)),some (.ref m),u9,eP] H'):
  aB (aM K [] [] (E:=E)) D1 D [u0,some (.ref G),some (.int t.1),some (.int t.2.1),some (.int t.2.2),some (.bl true),some (.int (g.1:Nat)),some (.int (g.2.1:Nat)),some (.ref m),u9,eP] H:=by
 refine df (LV rfl (iT ?_ rfl))
 obtain⟨bV,vy⟩: ∃bV:Int,bV=(if t.2.1> ((g.2.1:Nat):Int) then t.2.1 else ((g.2.1:Nat):Int)):=⟨_,rfl⟩
 have DW:bV=((max g.2.1 t.2.1.toNat:Nat):Int):=by
  rw[vy,k.e2,Int.toNat_natCast]
  split<;>omega
 refine aa8 (cR (aj (ai rfl (aj (gP (aj (ai rfl (aj (ai rfl (aC ?_))))))))))
 show aS (aM K [] [] (E:=E)) [.bin .Add (.v 8) (.lst [.v 4])] _ H _
 refine aj (bZ (ai rfl (cR (aj (ai rfl (aC ⟨(by show 1≤sizeLine;decide),fun n1 f1=> ?_⟩))))))
 have s2:=sameNew (o:= .lst [V.int t.2.2]) f1
 refine .inl ⟨m,n1,nums g.2.2,[V.int t.2.2],rfl,rfl,s2 _ _ hm,aw,cM (by show(nums g.2.2).length+1≤_;unfold nums;rw[List.length_map];omega),fun m2 f2=>aC ⟨(by show 3≤sizeLine;decide),fun T2 f3=> ?_⟩⟩
 have s3:=sameNew (o:= .lst (nums g.2.2++ [V.int t.2.2])) f2
 have dN:=s2.trans s3
 have s4:=sameNew (o:= .lst [V.int (g.1:Nat),V.int bV,V.ref m2]) f3
 have gX:=dN.trans s4
 have vz:m2≠G:=fun z=>by rw[z,s2 _ _ hG] at f2;cases f2
 have vA:T2≠G:=fun z=>by rw[z,dN _ _ hG] at f3;cases f3
 have vB:=s4 _ _ (aw (H:=upd H n1 (.lst [V.int t.2.2])) (a:=m2) (o:= .lst (nums g.2.2++ [V.int t.2.2])))
 have vC:(upd (upd (upd H n1 (.lst [V.int t.2.2])) m2 (.lst (nums g.2.2++ [V.int t.2.2]))) T2 (.lst [V.int (g.1:Nat),V.int bV,V.ref m2])) T2=some (.lst [V.int (g.1:Nat),V.int bV,V.ref m2]):=aw
 have eo:(HO.lst [V.int (g.1:Nat),V.int (if t.2.1> ((g.2.1:Nat):Int) then t.2.1 else ((g.2.1:Nat):Int)),V.ref m2])=HO.lst [V.int (g.1:Nat),V.int bV,V.ref m2]:=by rw[vy]
 refine ai rfl (nS ⟨G,_, -1,dw.length,rfl,rfl,(show(upd (upd (upd H n1 (.lst [V.int t.2.2])) m2 (.lst (nums g.2.2++ [V.int t.2.2]))) T2 (.lst [V.int (g.1:Nat),V.int (if t.2.1> ((g.2.1:Nat):Int) then t.2.1 else ((g.2.1:Nat):Int)),V.ref m2])) G=some (.lst (dw++ [.ref T])) by rw[eo];exact gX _ _ hG),by rw[List.length_append];exact DP _, ?_⟩)
 have es:(dw++ [V.ref T]).set dw.length (.ref T2)=dw++ [.ref T2]:=by rw[List.set_append_right _ _ (Nat.le_refl _),Nat.sub_self];rfl
 rw[es]
 show D.nx [u0,some (.ref G),some (.int t.1),some (.int t.2.1),some (.int t.2.2),some (.bl true),some (.int (g.1:Nat)),some (.int (g.2.1:Nat)),some (.ref m),u9,eP] (upd (upd (upd (upd H n1 (.lst [V.int t.2.2])) m2 (.lst (nums g.2.2++ [V.int t.2.2]))) T2 (.lst [V.int (g.1:Nat),V.int (if t.2.1> ((g.2.1:Nat):Int) then t.2.1 else ((g.2.1:Nat):Int)),V.ref m2])) G (.lst (dw++ [.ref T2])))
 rw[eo]
 generalize (upd (upd (upd H n1 (.lst [V.int t.2.2])) m2 (.lst (nums g.2.2++ [V.int t.2.2]))) T2 (.lst [V.int (g.1:Nat),V.int bV,V.ref m2]))=H4 at gX vB vC⊢
 have b5:bf G H4 (upd H4 G (.lst (dw++ [.ref T2]))):=bf.upd
 have bb:bf G H (upd H4 G (.lst (dw++ [.ref T2]))):=(nX gX).trans b5
 refine hD (dw++ [.ref T2]) _ bb aw ?_
 rw[e]
 refine iB (eF.but r0 bb) ⟨T2,m2,rfl, ?_, ?_,vA,vz⟩
 ·rw[b5 _ _ vC vA,DW]
 ·rw[b5 _ _ vB vz]
  show some (HO.lst (nums g.2.2++ [V.int t.2.2]))=some (HO.lst (nums (g.2.2++ [t.2.2.toNat])))
  unfold nums
  rw[List.map_append]
  show some (HO.lst (_++ [V.int t.2.2]))=some (HO.lst (_++ [V.int ((t.2.2.toNat:Nat):Int)]))
  rw[←k.e3]
theorem abz{E:XK}{D:Ends}{H:Hp}{G:Addr}{cs:List Cu}{t:T3}{c:Cu}{zs:List V}{gs:List Gr}{u0 u5 u6 u7 u8 u9 eP:Option V}(k:nY cs t c)(hG:H G=some (.lst zs))(gv:eF .lst G H zs gs)(hn:gs.length≤1000)(aE: ∀g∈gs,g.2.2.length≤1000)
  (hD: ∀(y5 y6 y7 y8:Option V) (dq:List V) H',bf G H H'→H' G=some (.lst dq)→eF .lst G H' dq (bS gs t)→D.nx [u0,some (.ref G),some (.int t.1),some (.int t.2.1),some (.int t.2.2),y5,y6,y7,y8,u9,eP] H'):
  aB (aM K [] [] (E:=E)) lsBody D [u0,some (.ref G),some (.int t.1),some (.int t.2.1),some (.int t.2.2),u5,u6,u7,u8,u9,eP] H:=by
 refine b_ (aA ?_)
 refine df (e7 (ai rfl (cR (aC ⟨Nat.zero_le _,fun e0 fe=> ?_⟩))))
 have s1:=sameNew (o:= .lst []) fe
 have vG:=eF.but gv (nX s1)
 have i_:=s1 _ _ hG
 refine abx i_ aw vG ⟨_,rfl, ?_⟩
 generalize upd H e0 (.lst [])=H1 at s1 vG i_⊢
 have D3: ∀(y5 y6 y7 y8:Option V) (dq:List V) H',bf G H1 H'→H' G=some (.lst dq)→eF .lst G H' dq (bS gs t)→D.nx [u0,some (.ref G),some (.int t.1),some (.int t.2.1),some (.int t.2.2),y5,y6,y7,y8,u9,eP] H':=fun y5 y6 y7 y8 dq H' b=>hD y5 y6 y7 y8 dq H' ((nX s1).trans b)
 rcases List.eq_nil_or_concat gs with eg | ⟨i6,g,eg⟩
 ·subst eg
  refine iF (eO ?_) rfl
  exact Mi k i_ vG hn (by unfold bS;rfl) fun dq H' b h1 h2=>D3 _ _ _ _ dq H' b h1 h2
 ·rw[List.concat_eq_append] at eg
  subst eg
  refine iT ?_ (by simp)
  obtain⟨dw,z,rfl,r0,gz⟩:=DN vG
  obtain⟨T,m,rfl,hT,hm,nT,nm⟩:=gz
  have r6:(i6++ [g]).getLast?=some g:=by simp
  have i7:dj (dw++ [V.ref T]) (-1)=some (V.ref T):=by
   unfold dj
   rw[List.length_append]
   show(g6 (dw.length+1) (-1)).bind _=_
   rw[DP];simp
  refine aa2 (a_ (ai rfl (nS (dW i_ i7 (Mh hT ?_)))))
  have cont: ∀nb:Bool,nb=near g.1 g.2.1 t.1.toNat t.2.1.toNat→aB (aM K [] [] (E:=E)) D1 D [u0,some (.ref G),some (.int t.1),some (.int t.2.1),some (.int t.2.2),some (.bl nb),some (.int (g.1:Nat)),some (.int (g.2.1:Nat)),some (.ref m),u9,eP] H1:=by
   intro nb Mj
   cases nb with
   | true=>exact aby k i_ r0 hm nm (aE g (by simp)) (by unfold bS;rw[r6];simp only[←Mj,if_true,List.dropLast_concat]) fun dq H' b h1 h2=>D3 _ _ _ _ dq H' b h1 h2
   | false=>exact Mi k i_ vG hn (by unfold bS;rw[r6];simp only[←Mj];rfl) fun dq H' b h1 h2=>D3 _ _ _ _ dq H' b h1 h2
  have q1:t.1=((t.1.toNat:Nat):Int):=by rw[k.e1,Int.toNat_natCast]
  have q2:t.2.1=((t.2.1.toNat:Nat):Int):=by rw[k.e2,Int.toNat_natCast]
  refine b_ (nU (eN (ai rfl (ai rfl (N.ltI ⟨_,rfl, ?_⟩)))))
  by_cases c1:t.1< ((g.2.1:Nat):Int)
  ·refine iT (cont true ?_) (decide_eq_true c1)
   unfold near;rw[if_neg (by omega),decide_eq_true (by omega)]
  ·refine iF ?_ (decide_eq_false c1)
   refine i4 (eN (ai rfl (ai rfl (km ⟨_,rfl, ?_⟩))))
   by_cases c2:t.1=((g.2.1:Nat):Int)
   ·refine iT (rZ (nU (eN (ai rfl (ai rfl (km ⟨_,rfl, ?_⟩)))))) (decide_eq_true c2)
    by_cases c3:((g.1:Nat):Int)=((g.2.1:Nat):Int)
    ·refine iT (cont true ?_) (decide_eq_true c3)
     unfold near;rw[if_pos (by omega),decide_eq_true (show g.1=g.2.1 by omega)];rfl
    ·refine iF (eN (ai rfl (ai rfl (km (cont _ ?_))))) (decide_eq_false c3)
     unfold near;rw[if_pos (by omega),decide_eq_false (show ¬g.1=g.2.1 by omega),Bool.false_or,Bool.eq_iff_iff]
     simp only[decide_eq_true_eq];omega
   ·refine iF (cont false ?_) (decide_eq_false c2)
    unfold near;rw[if_neg (by omega),decide_eq_false (by omega)]
end
section
variable {K:Frag}
theorem abA{Γ:aO}{σ:St}{H:Hp}{Q:VK}{as:List RE}(h:aS Γ as σ H fun vs H1=>ym Γ.K vs H1 Q):ah Γ (.xt CJ as) σ H Q:=h
theorem Ml{Γ:aO}{σ:St}{H:Hp}{Q:VK}{as:List RE}(h:aS Γ as σ H fun vs H1=>yn Γ.K vs H1 Q):ah Γ (.xt yo as) σ H Q:=h
theorem D4: ¬(HT.aV 3 0 none=0∧HT.aV 3 3 (some 2)=3):=by decide
theorem hZ.but{F:Addr}{H H':Hp}{ws:List V}{v:V}{c:Cu}(x:hZ H v c)(hF:H F=some (.lst ws))(b:bf F H H'):hZ H' v c:=by
 obtain⟨t,e,h⟩:=x
 refine⟨t,e,b _ _ h fun z=> ?_⟩
 have h':H t=some (.tup _):=h
 rw[z,hF] at h';cases h'
def Mm:List RS:=[.asg 10 (.ix (.v 0) (.blt .min [(.v 8)])),
  .ite (.cmp .Eq (.blt .len [(.v 8)]) (.c (.int 1))) [.drop (.bC .append (.v 9) [(.v 10)])] [.ite (.cmp .Lt (.ix (.v 10) (.c (.int 1))) (.ix (.v 10) (.c (.int 0)))) [.drop (.bC .append (.v 9) [(.tup [(.v 3),(.v 2),(.c .aD)])])] [.drop (.bC .append (.v 9) [(.tup [(.v 2),(.v 3),(.c .aD)])])]]]
theorem abB{E:XK}{D:Ends}{H:Hp}{l F m:Addr}{xs ws:List V}{cs ds:List Cu}{g:Gr}{u1 u4 u5 u6 u7 eP:Option V}(hl:H l=some (.lst xs))(cO:bq H xs cs)(hm:H m=some (.lst (nums g.2.2)))(cP:g.2.2≠ [])(cW: ∀k∈g.2.2,k<cs.length)
  (hF:H F=some (.lst ws)) (mV:bq H ws ds) (hn:ds.length≤1000)
  (hD: ∀(kr:Option V) (Mn:List V) H',bf F H H'→H' F=some (.lst Mn)→bq H' Mn (ds++ [oneOf cs g])→D.nx [some (.ref l),u1,some (.int (g.1:Nat)),some (.int (g.2.1:Nat)),u4,u5,u6,u7,some (.ref m),some (.ref F),kr] H'):
  aB (aM K [] [] (E:=E)) Mm D [some (.ref l),u1,some (.int (g.1:Nat)),some (.int (g.2.1:Nat)),u4,u5,u6,u7,some (.ref m),some (.ref F),eP] H:=by
 have lw:=Paired.length mV
 have iO:=hm
 rw[Mb] at iO
 refine b_ (a_ (ai rfl (gP (aj (ai rfl (aC ⟨_,aq.of iO,by simpa using cP,fun x hx t9=> ?_⟩))))))
 rw[Mc cP hx t9]
 have hk:=cW _ (DV cP).1
 have hc:cs[least g.2.2]?=some cs[least g.2.2]:=List.getElem?_eq_getElem hk
 obtain⟨v,hv,tc,rfl,r9⟩:=vq cO hc
 refine dW hl (gB hv) ?_
 have eo:oneOf cs g=(if g.2.2.length=1 then cs[least g.2.2] else if (cs[least g.2.2]).2.1< (cs[least g.2.2]).1 then (g.2.1,g.1,none) else (g.1,g.2.1,none)):=by
  unfold oneOf;rw[hc,Option.getD_some]
 have ln:(nums g.2.2).length=g.2.2.length:=by unfold nums;rw[List.length_map]
 refine df (e7 (gh (ai rfl (.inl ⟨_,aq.of hm,aA (km ⟨_,rfl, ?_⟩)⟩))))
 rw[ln]
 have new: ∀a b:Nat,oneOf cs g=(a,b,none)→ ∀(t':Addr),H t'=none→D.nx [some (.ref l),u1,some (.int (g.1:Nat)),some (.int (g.2.1:Nat)),u4,u5,u6,u7,some (.ref m),some (.ref F),some (.ref tc)] (upd (upd H t' (.tup [.int (a:Nat), .int (b:Nat), .aD])) F (.lst (ws++ [.ref t']))):=by
  intro a b e t' ft
  have s1:=sameNew (o:= .tup [V.int (a:Nat),V.int (b:Nat),V.aD]) ft
  have nt:t'≠F:=fun z=>by rw[z,hF] at ft;cases ft
  have b2:bf F (upd H t' (.tup [.int (a:Nat), .int (b:Nat), .aD])) (upd (upd H t' (.tup [.int (a:Nat), .int (b:Nat), .aD])) F (.lst (ws++ [.ref t']))):=bf.upd
  have bb:=(nX s1 (c:=F)).trans b2
  refine hD _ (ws++ [.ref t']) _ bb aw ?_
  rw[e]
  exact iB (L2.Paired.eQ mV fun _ _ x=>x.but hF bb) ⟨t',rfl,b2 _ _ aw nt⟩
 by_cases e:g.2.2.length=1
 ·rw[if_pos e] at eo
  refine iT ?_ (decide_eq_true (by omega))
  refine hU (jG (ai rfl ⟨.inl ⟨rfl,_,aq.of hF⟩,ai rfl ⟨ws,hF,dD (by omega), ?_⟩⟩))
  have bb:bf F H (upd H F (.lst (ws++ [.ref tc]))):=bf.upd
  refine hD _ (ws++ [.ref tc]) _ bb aw ?_
  rw[eo]
  exact iB (L2.Paired.eQ mV fun _ _ x=>x.but hF bb) (hZ.but ⟨tc,rfl,r9⟩ hF bb)
 ·rw[if_neg e] at eo
  refine iF ?_ (decide_eq_false (by omega))
  refine df (e7 (a_ (ai rfl (aA (ck r9 rfl (a_ (ai rfl (aA (ck r9 rfl (N.ltI ⟨_,rfl, ?_⟩))))))))))
  by_cases b:(cs[least g.2.2]).2.1< (cs[least g.2.2]).1
  ·rw[if_pos b] at eo
   refine iT ?_ (decide_eq_true (by omega))
   refine hU (jG (ai rfl ⟨.inl ⟨rfl,_,aq.of hF⟩,dJ (aj (ai rfl (aj (ai rfl (aj (aA (aC ⟨(by show 3≤sizeLine;decide),fun t' f'=> ?_⟩)))))))⟩))
   exact⟨ws,sameNew f' _ _ hF,dD (by omega),new _ _ eo t' f'⟩
  ·rw[if_neg b] at eo
   refine iF ?_ (decide_eq_false (by omega))
   refine hU (jG (ai rfl ⟨.inl ⟨rfl,_,aq.of hF⟩,dJ (aj (ai rfl (aj (ai rfl (aj (aA (aC ⟨(by show 3≤sizeLine;decide),fun t' f'=> ?_⟩)))))))⟩))
   exact⟨ws,sameNew f' _ _ hF,dD (by omega),new _ _ eo t' f'⟩
theorem abC(vs:List V)(H:Hp)(Q:VK)(E:XK)(hh:h9 vs H Q E):aB (aM K [] [] (E:=E)) hJ (Dn Q) (start lR vs) H:=by
 obtain⟨l,xs,cs,rfl,hl,cO,hn,q⟩:=hh
 have lx:xs.length=cs.length:=Paired.length cO
 refine b_ (cR (aC ⟨Nat.zero_le _,fun G fG=> ?_⟩))
 have s0:=sameNew (o:= .lst []) fG
 have D5:upd H G (.lst []) G=some (.lst []):=aw
 have zj:=s0 _ _ hl
 have D6:=cO.same s0
 generalize upd H G (.lst [])=H0 at s0 D5 zj D6⊢
 refine DO (body:=lsBody) (L8 (aj ?_))
 refine⟨_,rfl,l,rfl,⟨_,aq.of zj⟩, ?_⟩
 refine L7 zj (by omega) (fun i ys H2=>Paired (V3 H2) ys (e8 0 (cs.take i))) .nil (fun i ys H2 H3 p s=>L2.Paired.eQ p fun v t ⟨a,e,h⟩=> ⟨a,e,s _ _ h⟩) ?_ ?_
 ·intro i x ys H2 hx s2 p Q' kk
  obtain⟨c,hc,t,rfl,ht⟩:=gj D6 hx
  have gL:H2 t=some (.tup [.int (c.1:Nat), .int (c.2.1:Nat),gV c.2.2]):=s2 _ _ ht
  have hi:i<cs.length:=(List.getElem?_eq_some_iff.mp hc).1
  refine dJ (aj (abA (aj (ze (ai rfl (aA ⟨2,rfl, .inr ⟨_,aL.of gL,D4,fun c1 f1=>aC ⟨c1,[(c.1:Int),(c.2.1:Int)],rfl,aL.of aw,by simp,fun mn hmn Mo=> ?_⟩⟩⟩))))))
  have s3:=sameNew (o:= .tup (eV [V.int (c.1:Nat),V.int (c.2.1:Nat),gV c.2.2] none (some 2))) f1
  have fI:=s3 _ _ gL
  refine aj (Ml (aj (ze (ai rfl (aA ⟨2,rfl, .inr ⟨_,aL.of fI,D4,fun c2 f2=>aC ⟨c2,[(c.1:Int),(c.2.1:Int)],rfl,aL.of aw,by simp,fun mx vH pL=> ?_⟩⟩⟩)))))
  have s4:=sameNew (o:= .tup (eV [V.int (c.1:Nat),V.int (c.2.1:Nat),gV c.2.2] none (some 2))) f2
  have e1:mn=((min c.1 c.2.1:Nat):Int):=by
   have a1:=Mo (c.1:Int) (by simp)
   have a2:=Mo (c.2.1:Int) (by simp)
   simp only[List.mem_cons,List.not_mem_nil,or_false] at hmn
   omega
  have e2:mx=((max c.1 c.2.1:Nat):Int):=by
   have a1:=pL (c.1:Int) (by simp)
   have a2:=pL (c.2.1:Int) (by simp)
   simp only[List.mem_cons,List.not_mem_nil,or_false] at vH
   omega
  rw[e1,e2]
  refine aj (ai rfl (aC ⟨(by show 3≤sizeLine;decide),fun T fT=> ?_⟩))
  have s5:=sameNew (o:= .tup [V.int (min c.1 c.2.1:Nat),V.int (max c.1 c.2.1:Nat),V.int (i:Nat)]) fT
  have Mp:=(s3.trans s4).trans s5
  refine kk _ _ Mp ?_
  rw[mw hc,DU,Nat.zero_add,List.length_take,Nat.min_eq_left (show i≤cs.length by omega)]
  exact iB (L2.Paired.eQ p fun v t ⟨a,e,h⟩=> ⟨a,e,Mp _ _ h⟩) ⟨T,rfl,aw⟩
 ·intro ys H2 p2 s2 p f2
  rw[lx,List.take_of_length_le (Nat.le_refl _)] at p
  have s3:=sameNew (o:= .lst ys) f2
  refine aC ⟨p2,ys,e8 0 cs,rfl,aq.of aw,L2.Paired.eQ p fun v t ⟨a,e,h⟩=> ⟨a,e,s3 _ _ h⟩,keys_nodup 0 cs,by rw[nW];exact hn,fun O zs us fO p3 pm pw=> ?_⟩
  have S:gb cs us:=⟨pm,pw⟩
  have s4:=sameNew (o:= .lst zs) fO
  have fg:=(s2.trans s3).trans s4
  have nO:O≠G:=fun z=>by rw[z,(s2.trans s3) _ _ D5] at fO;cases fO
  have hO:(upd (upd H2 p2 (.lst ys)) O (.lst zs)) O=some (.lst zs):=aw
  have p4:Paired (V3 (upd (upd H2 p2 (.lst ys)) O (.lst zs))) zs us:=L2.Paired.eQ p3 fun v t ⟨a,e,h⟩=> ⟨a,e,s4 _ _ h⟩
  generalize (upd (upd H2 p2 (.lst ys)) O (.lst zs))=H3 at fg hO p4⊢
  have Mq:=fg _ _ D5
  have iC:=fg _ _ zj
  have Ma:=D6.same fg
  have lu:us.length=cs.length:=by rw[pm.length_eq,nW]
  have lz:zs.length=us.length:=Paired.length p4
  have nl:l≠G:=bD hl fG
  refine⟨O,rfl,⟨_,aq.of hO⟩,jO (K:=K) (a:=O) (xs:=zs) (fun i σ H5=> ∃(ws:List V) (y2 y3 y4 y5 y6 y7 y8:Option V),σ=[some (.ref l),some (.ref G),y2,y3,y4,y5,y6,y7,y8,none,none]∧bf G H3 H5∧H5 G=some (.lst ws)∧eF .lst G H5 ws (groups (us.take i))) ?_ ?_ ?_ ?_⟩
  ·exact⟨[],none,none,none,none,none,none,none,rfl,nX (au.refl _),Mq, .nil⟩
  ·rintro i σ H5 _ ⟨ws,y2,y3,y4,y5,y6,y7,y8,rfl,b5,_⟩
   exact aq.of (b5 _ _ hO nO)
  ·rintro i x σ H5 hi ⟨ws,y2,y3,y4,y5,y6,y7,y8,rfl,b5,hG,gv⟩
   obtain⟨t,ht,T,rfl,hT⟩:=vD p4 hi
   have nT:T≠G:=fun z=>by rw[z,Mq] at hT;cases hT
   refine LW (b5 _ _ hT nT) ?_
   obtain⟨c,k⟩:=vw S (List.mem_of_getElem? ht)
   have bd:=zi (us.take i)
   have li:(us.take i).length≤64:=by rw[List.length_take];omega
   refine abz k hG gv (by omega) (fun g hg=>by have:=bd.1 g hg;omega) fun z5 z6 z7 z8 dq H6 b6 DZ D0=> ⟨dq,_,_,_,z5,z6,z7,z8,rfl,b5.trans b6,DZ, ?_⟩
   rw[mw ht,LY];exact D0
  ·rintro σ H5 ⟨ws,y2,y3,y4,y5,y6,y7,y8,rfl,b5,hG,gv⟩
   rw[lz,List.take_of_length_le (Nat.le_refl _)] at gv
   have bd:=zi us
   have lg:ws.length=(groups us).length:=Paired.length gv
   have sH:au H H5:=fun b o e=>b5 _ _ (fg _ _ (s0 _ _ e)) (bD e fG)
   have hl5:=sH _ _ hl
   have abF:=cO.same sH
   refine b_ (cR (aC ⟨Nat.zero_le _,fun F fF=> ?_⟩))
   have s6:=sameNew (o:= .lst []) fF
   refine DO (body:=Mm) (ai rfl ⟨G,rfl,⟨_,aq.of (s6 _ _ hG)⟩,jO (K:=K) (a:=G) (xs:=ws) (fun i σ H7=> ∃(rs:List V) (y2 y3 y8 kr:Option V),σ=[some (.ref l),some (.ref G),y2,y3,y4,y5,y6,y7,y8,some (.ref F),kr]∧au H5 H7∧H7 F=some (.lst rs)∧bq H7 rs (((groups us).take i).map (oneOf cs))) ?_ ?_ ?_ ?_⟩)
   ·exact⟨[],y2,y3,y8,none,rfl,s6,aw, .nil⟩
   ·rintro i σ H7 _ ⟨rs,z2,z3,z8,zk,rfl,s7,_⟩
    exact aq.of (s7 _ _ hG)
   ·rintro i x σ H7 hi ⟨rs,z2,z3,z8,zk,rfl,s7,hF,ds⟩
    obtain⟨g,hg,T,m,rfl,hT,hm,_,_⟩:=vD gv hi
    have ok:=Md S g (List.mem_of_getElem? hg)
    refine Mh (s7 _ _ hT) ?_
    refine abB (s7 _ _ hl5) (abF.same s7) (s7 _ _ hm) ok.1 ok.2 hF ds (by rw[List.length_map,List.length_take];omega) fun y nG H8 b8 hF8 ds8=> ⟨nG,_,_,_,y,rfl,fun b o e=>b8 _ _ (s7 _ _ e) (bD e fF),hF8, ?_⟩
    rw[mw hg,List.map_append];exact ds8
   ·rintro σ H7 ⟨rs,z2,z3,z8,zk,rfl,s7,hF,ds⟩
    rw[lg,List.take_of_length_le (Nat.le_refl _)] at ds
    exact dc (ai rfl (q us F rs H7 S (sH.trans s7) (sH.free fF) hF ds))
end
theorem Mr{K:Frag}{σ:St}{H:Hp}{QQ:List V→Hp→Addr→Prop}{te:TE}{fv:List (Str×Nat)}{a b:Addr}{xs ys:List V}(ha:H a=some (.lst xs))(hb:H b=some (.lst ys))(hl:xs.length≤1000000)(P:Nat→List V→Hp→Prop)(p0:P 0 [] H)(pm: ∀i zs H2 H3,P i zs H2→au H2 H3→P i zs H3)
  (step: ∀i x y zs H2,xs[i]?=some x→ys[i]?=some y→au H H2→P i zs H2→ ∀Q':VK,(∀z H3,au H2 H3→P (i+1) (zs++ [z]) H3→Q' z H3)→te (some x::some y::cf σ fv) H2 Q')
  (fin: ∀zs H2 p,au H H2→P (min xs.length ys.length) zs H2→H2 p=none→QQ zs H2 p): ∃W:Nat→Nat→List V→Hp→Prop,(∃m,W 0 m [] H)∧ ∀i m zs H2,W i m zs H2→
   ((nc K a b).stop i H2∧ ∀p,H2 p=none→QQ zs H2 p)∨
   ((nc K a b).go i H2∧ ∀x H3,(nc K a b).fo i H2 x H3→jU K (some 2) x H3 fun ws=>jV none (ws.map some++cf σ fv) H3 fun b H5=>
    if b=true then te (ws.map some++cf σ fv) H5 fun y H6=>zs.length<sizeLine∧ ∃m',m'<m∧W (i+1) m' (zs++ [y]) H6 else ∃m',m'<m∧W (i+1) m' zs H5):=by
 refine⟨fun i m zs H2=>m=min xs.length ys.length - i∧i≤min xs.length ys.length∧zs.length=i∧au H H2∧P i zs H2,⟨_,rfl,Nat.zero_le _,rfl,au.refl _,p0⟩, ?_⟩
 rintro i m zs H2 ⟨rfl,hi,hy,s,p⟩
 by_cases aQ:i<min xs.length ys.length
 ·have h1:i<xs.length:=by omega
  have h2:i<ys.length:=by omega
  refine .inr ⟨⟨xs,ys,aq.of (s _ _ ha),aq.of (s _ _ hb),h1,h2⟩, ?_⟩
  rintro x H3 ⟨T,hT,rfl,hx⟩
  have dr:=hx xs ys xs[i] ys[i] (aq.of (s _ _ ha)) (aq.of (s _ _ hb)) (List.getElem?_eq_getElem h1) (List.getElem?_eq_getElem h2)
  subst dr
  have s3:=sameNew (o:= .tup [xs[i],ys[i]]) hT
  refine⟨T,_,rfl,aL.of aw,rfl, ?_⟩
  exact step i xs[i] ys[i] zs _ (List.getElem?_eq_getElem h1) (List.getElem?_eq_getElem h2) (s.trans s3) (pm _ _ _ _ p s3) _ fun y H4 s4 p4=> ⟨dD (by omega),min xs.length ys.length - (i+1),by omega,rfl,aQ,by simp[hy],(s.trans s3).trans s4,p4⟩
 ·have eM:i=min xs.length ys.length:=by omega
  subst eM
  exact .inl ⟨⟨xs,ys,aq.of (s _ _ ha),aq.of (s _ _ hb),rfl⟩,fun q hq=>fin zs _ q s p hq⟩
def Apart(cs:List Cu):Prop:= ∀i c d,cs[i]?=some c→cs[i+1]?=some d→near (min c.1 c.2.1) (max c.1 c.2.1) (min d.1 d.2.1) (max d.1 d.2.1)=false
theorem Ms(xs:List V):eV xs (some 1) none=xs.drop 1:=by
 unfold eV
 have h:=HT.oE xs.length 0 1
 rw[show((1:Nat):Int)=1 from rfl] at h
 rw[h,HT.z0]
 by_cases z:1≤xs.length
 ·rw[Nat.min_eq_left z,List.take_of_length_le (by rw[List.length_drop];omega)]
 ·have:xs=[]:=List.eq_nil_of_length_eq_zero (by omega)
  subst this;rfl
section
variable {K:Frag}
def nZ:Sp:=fun vs H Q E=> ∃(n:Nat) (l:Addr) (xs:List V) (cs:List Cu),vs=[.int n, .ref l]∧H l=some (.lst xs)∧bq H xs cs∧1≤cs.length∧cs.length≤40∧(∀c∈cs,c.1≤n∧c.2.1≤n)∧Apart cs∧ ∀H',au H H'→Q .aD H'
theorem abI{CE:Addr}(vs:List V)(H:Hp)(Q:VK)(E:XK)(hh:nZ vs H Q E):aB (aM K [("is_cursor",kq),("meet",jI),("begin_of",gU),("end_of",jH)] [("MOST_CURSORS", .int 40)] (et:=[("NoCursor",CE)]) (E:=E)) uK (Dn Q) (start qB vs) H:=by
 obtain⟨n,l,xs,cs,rfl,hl,cO,h1,h2,cW,D7,q⟩:=hh
 have lx:xs.length=cs.length:=Paired.length cO
 refine df (mh (eE (nQ (ai rfl (rH hl (iF ?_ rfl))))))
 refine eE (zc (y_ (aA (gh (ai rfl (.inl ⟨_,aq.of hl,N.pK ⟨_,rfl,iT (uV (N.pK ⟨_,rfl, ?_⟩)) (decide_eq_true (by omega))⟩⟩))))))
 rw[show decide (((xs.length:Nat):Int)≤40)=true from decide_eq_true (by omega)]
 refine iF (eO ?_) rfl
 refine df (eE (DQ (aj (pJ (ai rfl ⟨l,rfl,⟨_,aq.of hl⟩, ?_⟩)))))
 refine pA hl (by omega) (fun i ys _=>ys=(List.replicate i true).map V.bl) rfl ?_ ?_
 ·intro i x ys H2 hx s2 e Q' kk
  obtain⟨c,hc,t,rfl,ht⟩:=gj cO hx
  have b:=cW c (List.mem_of_getElem? hc)
  refine ba kq rfl (aj (ai rfl (aj (ai rfl (aC ⟨t,_,_,_,n,rfl,s2 _ _ ht,b.1,b.2,kk _ _ (au.refl _) ?_⟩)))))
  rw[e,List.replicate_succ',List.map_append];rfl
 ·intro ys H2 p2 s2 e f2
  subst e
  have s3:=sameNew (o:= .lst ((List.replicate xs.length true).map V.bl)) f2
  refine aC ⟨p2,List.replicate xs.length true,rfl,aq.of aw,iW (iF (eO ?_) (by simp))⟩
  have dN:=s2.trans s3
  have iC:=dN _ _ hl
  generalize upd H2 p2 (.lst ((List.replicate xs.length true).map V.bl))=H3 at dN iC⊢
  refine df (LU (aj ?_))
  refine⟨_,rfl,_,rfl,_,rfl, .inl ⟨_,aq.of iC,fun w fw=> ⟨l,w,rfl,⟨_,aq.of (sameNew fw _ _ iC)⟩,⟨_,aq.of aw⟩, ?_⟩⟩⟩
  rw[Ms]
  have s4:=sameNew (o:= .lst (xs.drop 1)) fw
  have hw:upd H3 w (.lst (xs.drop 1)) w=some (.lst (xs.drop 1)):=aw
  have vI:=s4 _ _ iC
  generalize upd H3 w (.lst (xs.drop 1))=H4 at s4 hw vI⊢
  have gX:=dN.trans s4
  refine Mr vI hw (by omega) (fun i zs _=>zs=(List.replicate i false).map V.bl) rfl (fun _ _ _ _ p _=>p) ?_ ?_
  ·intro i x y zs H5 hx hy s5 e Q' kk
   rw[List.getElem?_drop,Nat.add_comm] at hy
   obtain⟨c,hc,t,rfl,ht⟩:=gj cO hx
   obtain⟨d,hd,t',rfl,gi⟩:=gj cO hy
   have n6:=s5 _ _ (gX _ _ ht)
   have D8:=s5 _ _ (gX _ _ gi)
   refine ba jI rfl (aj (ba gU rfl (aj (ai rfl (aC ⟨t,_,_,_,rfl,n6,aj (ba jH rfl (aj (ai rfl (aC ⟨t,_,_,_,rfl,n6,aj (ai rfl (aC ⟨_,_,t',_,_,_,rfl,D8, ?_⟩))⟩))))⟩)))))
   rw[D7 i c d hc hd]
   refine kk _ _ (au.refl _) ?_
   rw[e,List.replicate_succ',List.map_append];rfl
  ·intro zs H5 p5 s5 e f5
   subst e
   have s6:=sameNew (o:= .lst ((List.replicate (min xs.length (xs.drop 1).length) false).map V.bl)) f5
   refine aC ⟨p5,List.replicate (min xs.length (xs.drop 1).length) false,rfl,aq.of aw,iW (iF ?_ (by simp))⟩
   exact q _ ((gX.trans s5).trans s6)
end
def bg(c:Cu):Nat:=min c.1 c.2.1
def en(c:Cu):Nat:=max c.1 c.2.1
theorem vJ(c:Cu):bg c≤en c:=by unfold bg en;omega
theorem D9{lo hi b e:Nat}(h1:lo≤hi)(h2:b≤e)(h:near lo hi b e=false):hi≤b∧lo<b:=by
 unfold near at h
 split at h
 ·rw[Bool.or_eq_false_iff] at h
  have:=of_decide_eq_false h.1
  omega
 ·have:=of_decide_eq_false h
  omega
theorem abJ{lo hi b e:Nat}(h:hi<b):near lo hi b e=false:=by
 unfold near
 rw[if_neg (by omega)]
 exact decide_eq_false (by omega)
theorem abK{lo hi b e e':Nat}(h2:b≤e)(h3:e≤e')(h:near lo hi b e=false):near lo hi b e'=false:=by
 unfold near at h⊢
 split
 ·rename_i z
  rw[if_pos z,Bool.or_eq_false_iff] at h
  have:=of_decide_eq_false h.2
  rw[Bool.or_eq_false_iff]
  exact⟨h.1,decide_eq_false (by omega)⟩
 ·rename_i z
  rw[if_neg z] at h
  exact h
def ku(cs:List Cu):Prop:=cs.Pairwise fun c d=>near (bg c) (en c) (bg d) (en d)=false
theorem ku.apart{cs:List Cu}(h:ku cs):Apart cs:=by
 intro i c d hc hd
 obtain⟨h1,e1⟩:=List.getElem?_eq_some_iff.mp hc
 obtain⟨h2,e2⟩:=List.getElem?_eq_some_iff.mp hd
 have:=List.pairwise_iff_getElem.mp h i (i+1) h1 h2 (by omega)
 rw[e1,e2] at this
 exact this
theorem ku.rise{cs:List Cu}(h:ku cs):cs.Pairwise fun c d=>bg c<bg d:=List.Pairwise.imp (fun {c d} x=> (D9 (vJ c) (vJ d) x).2) h
def GI(cs:List Cu)(n:Nat)(g:Gr):Prop:=g.1≤g.2.1∧g.2.1≤n∧g.2.2≠ []∧ ∀k,g.2.2=[k]→ ∃c,cs[k]?=some c∧g.1=bg c∧g.2.1=en c
def D_(a b:Gr):Prop:=near a.1 a.2.1 b.1 b.2.1=false
theorem abL{cs:List Cu}{n:Nat}{t:T3}{c:Cu}(k:nY cs t c)(h:en c≤n):GI cs n (t.1.toNat,t.2.1.toNat,[t.2.2.toNat]):=by
 have e1:t.1.toNat=bg c:=by rw[k.e1];exact Int.toNat_natCast _
 have e2:t.2.1.toNat=en c:=by rw[k.e2];exact Int.toNat_natCast _
 refine⟨?_, ?_,by simp,fun m hm=> ?_⟩
 ·show t.1.toNat≤t.2.1.toNat
  rw[e1,e2];exact vJ c
 ·show t.2.1.toNat≤n
  rw[e2];exact h
 ·cases hm
  exact⟨c,k.at',e1,e2⟩
theorem Mt(cs:List Cu)(n:Nat): ∀(us:List T3) (gs:List Gr),(∀t∈us,∃c,nY cs t c∧en c≤n)→(∀g∈gs,GI cs n g)→gs.Pairwise D_→(∀g∈us.foldl bS gs,GI cs n g)∧(us.foldl bS gs).Pairwise D_
 | [],gs,_,h1,h2=> ⟨h1,h2⟩
 | t::us,gs,hu,h1,h2=>by
  obtain⟨c,k,hc⟩:=hu t (.head _)
  have gn:=abL k hc
  refine Mt cs n us _ (fun x hx=>hu x (.tail _ hx)) ?_ ?_
  ·unfold bS
   split
   ·intro g hg
    rcases List.mem_append.mp hg with hg | hg
    ·exact h1 g hg
    ·rw[List.mem_singleton.mp hg];exact gn
   ·rename_i g0 e0
    split
    ·intro g hg
     rcases List.mem_append.mp hg with hg | hg
     ·exact h1 g (List.dropLast_subset _ hg)
     ·rw[List.mem_singleton.mp hg]
      have vt:=h1 g0 (List.mem_of_getLast? e0)
      refine⟨?_, ?_,by simp,fun m hm=> ?_⟩
      ·show g0.1≤max g0.2.1 t.2.1.toNat
       have:=vt.1;omega
      ·show max g0.2.1 t.2.1.toNat≤n
       have:=vt.2.1
       have:=gn.2.1
       have h':t.2.1.toNat≤n:=this
       omega
      ·have hl:=congrArg List.length hm
       have cP:=vt.2.2.1
       cases hq:g0.2.2 with
       | nil=>exact absurd hq cP
       | cons a b=>
        have iO:g0.2.2++ [t.2.2.toNat]=[m]:=hm
        rw[hq] at iO
        simp at iO
    ·intro g hg
     rcases List.mem_append.mp hg with hg | hg
     ·exact h1 g hg
     ·rw[List.mem_singleton.mp hg];exact gn
  ·rcases List.eq_nil_or_concat gs with eg | ⟨i6,g,eg⟩
   ·subst eg
    exact List.pairwise_singleton _ _
   ·rw[List.concat_eq_append] at eg
    subst eg
    have hg:=h1 g (by simp)
    have pw:=List.pairwise_append.mp h2
    unfold bS
    rw[show(i6++ [g]).getLast?=some g by simp]
    show List.Pairwise D_ (if near g.1 g.2.1 t.1.toNat t.2.1.toNat=true then _ else _)
    split
    ·rw[List.dropLast_concat]
     refine List.pairwise_append.mpr ⟨pw.1,List.pairwise_singleton _ _,fun a ha b hb=> ?_⟩
     rw[List.mem_singleton.mp hb]
     exact abK hg.1 (Nat.le_max_left _ _) (pw.2.2 a ha g (.head _))
    ·rename_i nn
     have Mu:near g.1 g.2.1 t.1.toNat t.2.1.toNat=false:=by simpa using nn
     refine List.pairwise_append.mpr ⟨h2,List.pairwise_singleton _ _,fun a ha b hb=> ?_⟩
     rw[List.mem_singleton.mp hb]
     rcases List.mem_append.mp ha with ha | ha
     ·have x:=D9 (h1 a (List.mem_append_left _ ha)).1 hg.1 (pw.2.2 a ha g (.head _))
      have y:=D9 hg.1 (show t.1.toNat≤t.2.1.toNat from gn.1) Mu
      exact abJ (show a.2.1<t.1.toNat by omega)
     ·rw[List.mem_singleton.mp ha];exact Mu
theorem vK{cs:List Cu}{n:Nat}{g:Gr}(h:GI cs n g):bg (oneOf cs g)=g.1∧en (oneOf cs g)=g.2.1:=by
 obtain⟨a,b,c,d⟩:=h
 unfold oneOf
 by_cases e:g.2.2.length=1
 ·obtain⟨k,hk⟩:=List.length_eq_one_iff.mp e
  obtain⟨x,hx,e1,e2⟩:=d k hk
  simp only[hk,List.length_singleton,if_true]
  show bg ((cs[k]?).getD _)=g.1∧en ((cs[k]?).getD _)=g.2.1
  rw[hx]
  exact⟨e1.symm,e2.symm⟩
 ·simp only[e,if_false]
  split
  ·exact⟨by show min g.2.1 g.1=g.1;omega,by show max g.2.1 g.1=g.2.1;omega⟩
  ·exact⟨by show min g.1 g.2.1=g.1;omega,by show max g.1 g.2.1=g.2.1;omega⟩
theorem abM(gs:List Gr)(t:T3):bS gs t≠ []:=by
 unfold bS
 split
 ·simp
 ·split<;>simp
theorem Mv: ∀(us:List T3) (gs:List Gr),(us≠ []∨gs≠ [])→us.foldl bS gs≠ []
 | [],gs,h=>by rcases h with h | h;exact absurd rfl h;exact h
 | t::us,gs,_=>Mv us _ (.inr (abM gs t))
structure abN (cs ds:List Cu) (n:Nat):Prop where
 n_:ku ds
 kx: ∀c∈ds,c.1≤n∧c.2.1≤n
 len:ds.length≤cs.length
 ne:cs≠ []→ds≠ []
theorem Mw{cs:List Cu}{us:List T3}{n:Nat}(S:gb cs us)(hn: ∀c∈cs,c.1≤n∧c.2.1≤n):abN cs (settle cs us) n:=by
 obtain⟨g1,g2⟩:=Mt cs n us [] (fun t ht=>by
  obtain⟨c,k⟩:=vw S ht
  have:=hn c (List.mem_of_getElem? k.at')
  exact⟨c,k,by unfold en;omega⟩) (fun g hg=>by cases hg) List.Pairwise.nil
 refine⟨?_, ?_, ?_, ?_⟩
 ·unfold ku settle
  rw[List.pairwise_map]
  refine List.Pairwise.imp_of_mem (fun {a b} ha hb x=> ?_) g2
  rw[(vK (g1 a ha)).1,(vK (g1 a ha)).2,(vK (g1 b hb)).1,(vK (g1 b hb)).2]
  exact x
 ·intro c hc
  obtain⟨g,hg,rfl⟩:=List.mem_map.mp hc
  have o:=vK (g1 g hg)
  have:=(g1 g hg).2.1
  unfold en at o
  omega
 ·unfold settle
  rw[List.length_map]
  have:=(DY us [] 0 (fun g hg=>by cases hg) (Nat.le_refl _)).2
  rw[S.1.length_eq,nW] at this
  unfold groups;omega
 ·intro h
  have:us≠ []:=fun z=>by
   have:=S.1.length_eq
   rw[z,nW] at this
   exact h (List.eq_nil_of_length_eq_zero this.symm)
  unfold settle
  intro z
  exact Mv us [] (.inl this) (List.map_eq_nil_iff.mp z)
theorem Mx: ∀{us ws:List Cu},us.Perm ws→(us.Pairwise fun a b=>bg a<bg b)→(ws.Pairwise fun a b=>bg a<bg b)→us=ws
 | [],ws,h,_,_=> (List.nil_perm.mp h).symm
 | u::us,[],h,_,_=>absurd h.length_eq (by simp)
 | u::us,w::ws,h,hu,hw=>by
  have e:u=w:=by
   by_cases z:u=w
   ·exact z
   ·have h1:u∈ws:=by
     rcases List.mem_cons.mp (h.subset (.head _)) with x | x
     ·exact absurd x z
     ·exact x
    have h2:w∈us:=by
     rcases List.mem_cons.mp (h.symm.subset (.head _)) with x | x
     ·exact absurd x.symm z
     ·exact x
    have a:=(List.pairwise_cons.mp hw).1 u h1
    have b:=(List.pairwise_cons.mp hu).1 w h2
    omega
  subst e
  rw[Mx (List.Perm.cons_inv h) (List.pairwise_cons.mp hu).2 (List.pairwise_cons.mp hw).2]
def valAt(cs:List Cu)(t:T3):Cu:=(cs[t.2.2.toNat]?).getD (0,0,none)
theorem My: ∀(cs pre:List Cu),(e8 pre.length cs).map (valAt (pre++cs))=cs
 | [],pre=>rfl
 | c::cs,pre=>by
  show valAt (pre++c::cs) (keyOf c pre.length)::(e8 (pre.length+1) cs).map _=_
  have h:=My cs (pre++ [c])
  rw[List.length_append,List.append_assoc] at h
  rw[show(e8 (pre.length+1) cs).map (valAt (pre++c::cs))=cs from h]
  congr 1
  show((pre++c::cs)[((pre.length:Nat):Int).toNat]?).getD _=c
  rw[Int.toNat_natCast];simp
def single(t:T3):Gr:=(t.1.toNat,t.2.1.toNat,[t.2.2.toNat])
theorem Mz: ∀(us pre:List T3),((pre++us).Pairwise fun t t'=>near t.1.toNat t.2.1.toNat t'.1.toNat t'.2.1.toNat=false)→us.foldl bS (pre.map single)=(pre++us).map single
 | [],pre,_=>by simp
 | t::us,pre,h=>by
  have e:bS (pre.map single) t=(pre++ [t]).map single:=by
   rw[List.map_append]
   unfold bS
   split
   ·rfl
   ·rename_i g0 e0
    obtain⟨p,hp,rfl⟩:=List.mem_map.mp (List.mem_of_getLast? e0)
    have:=(List.pairwise_append.mp h).2.2 p hp t (.head _)
    rw[if_neg]
    ·rfl
    ·show ¬near p.1.toNat p.2.1.toNat t.1.toNat t.2.1.toNat=true
     rw[this];simp
  show us.foldl bS (bS (pre.map single) t)=_
  rw[e,Mz us (pre++ [t]) (by rw[List.append_assoc];exact h),List.append_assoc];rfl
theorem abO{ds gm:List Cu}{us:List T3}(F:ku ds)(P:gm.Perm ds)(S:gb gm us):settle gm us=ds:=by
 have hv: ∀t∈us,nY gm t (valAt gm t):=fun t ht=>by
  obtain⟨c,k⟩:=vw S ht
  have e:valAt gm t=c:=by unfold valAt;rw[k.at'];rfl
  rw[e];exact k
 have P1:(us.map (valAt gm)).Perm gm:=by
  have:=My gm []
  have h2:=S.1.map (valAt gm)
  rw[show(e8 0 gm).map (valAt gm)=gm from this] at h2
  exact h2
 have P2:=P1.trans P
 have r1:(us.map (valAt gm)).Pairwise fun a b=>bg a≤bg b:=by
  rw[List.pairwise_map]
  refine List.Pairwise.imp_of_mem (fun {a b} ha hb x=> ?_) S.2
  have ka:=(hv a ha).e1
  have kb:=(hv b hb).e1
  have l:=uN.mp x
  unfold bg
  omega
 have r2:(us.map (valAt gm)).Pairwise fun a b=>bg a≠bg b:=by
  have n1:(ds.map bg).Nodup:=by
   rw[List.nodup_iff_pairwise_ne,List.pairwise_map]
   exact List.Pairwise.imp (fun x=>Nat.ne_of_lt x) F.rise
  have n2:=(P2.map bg).nodup_iff.mpr n1
  rw[List.nodup_iff_pairwise_ne,List.pairwise_map] at n2
  exact n2
 have r3:(us.map (valAt gm)).Pairwise fun a b=>bg a<bg b:=List.Pairwise.imp₂ (fun _ _ x y=>Nat.lt_of_le_of_ne x y) r1 r2
 have e:=Mx P2 r3 F.rise
 have pf:us.Pairwise fun t t'=>near t.1.toNat t.2.1.toNat t'.1.toNat t'.2.1.toNat=false:=by
  have F':=F
  unfold ku at F'
  rw[←e,List.pairwise_map] at F'
  refine List.Pairwise.imp_of_mem (fun {a b} ha hb x=> ?_) F'
  have ka:=hv a ha
  have kb:=hv b hb
  rw[ka.e1,ka.e2,kb.e1,kb.e2,Int.toNat_natCast,Int.toNat_natCast,Int.toNat_natCast,Int.toNat_natCast]
  exact x
 have eg:groups us=us.map single:=Mz us [] pf
 unfold settle
 rw[eg,List.map_map]
 exact e
theorem abP{ds:List Cu}{us:List T3}(F:ku ds)(S:gb ds us):settle ds us=ds:=abO F (List.Perm.refl _) S
def Ea(v:V):Prop:=(∃i:Int,v= .int i∧i<0)∨(∃b,v= .bl b)∨ ∃s,v= .str s
def gZ(v:V)(n:Nat)(H:Hp):Prop:=fJ .tuple v H∨ ∃a xs,v= .ref a∧H a=some (.tup xs)∧(xs.length≠3∨ ∃x y z,xs=[x,y,z]∧
 (nR x 0 (n:Nat) H∨ ∃i:Int,x= .int i∧0≤i∧i≤ (n:Nat)∧(nR y 0 (n:Nat) H∨ ∃j:Int,y= .int j∧0≤j∧j≤ (n:Nat)∧Ea z)))
theorem gZ.same{v:V}{n:Nat}{H H':Hp}(h:gZ v n H)(s:au H H'):gZ v n H':=by
 rcases h with h | ⟨a,xs,rfl,ha,h⟩
 ·exact .inl (h.same s)
 ·refine .inr ⟨a,xs,rfl,s _ _ ha, ?_⟩
  rcases h with h | ⟨x,y,z,rfl,h⟩
  ·exact .inl h
  ·refine .inr ⟨x,y,z,rfl, ?_⟩
   rcases h with h | ⟨i,rfl,h1,h2,h⟩
   ·exact .inl (h.same s)
   ·refine .inr ⟨i,rfl,h1,h2, ?_⟩
    rcases h with h | h
    ·exact .inl (h.same s)
    ·exact .inr h
section
variable {K:Frag}
def vL:Sp:=fun vs H Q E=> ∃v:V,vs=[v]∧Ea v∧Q (.bl false) H
theorem abQ(vs:List V)(H:Hp)(Q:VK)(E:XK)(h:vL vs H Q E):aB (aM K [("is_whole",gQ)] [] (E:=E)) uH (Dn Q) (start dB vs) H:=by
 obtain⟨v,rfl,h,q⟩:=h
 have no: ∀(w:V),w≠ .aD→V.bl (decide (w= .aD))= .bl false:=fun w hw=>by rw[decide_eq_false hw]
 rcases h with⟨i,rfl,hi⟩ | ⟨b,rfl⟩ | ⟨s,rfl⟩
 ·refine dc (nU (eN (ai rfl (aA ⟨rfl,_,rfl,iF ?_ (decide_eq_false (by simp))⟩))))
  refine i4 (ba gQ rfl (aj (ai rfl (aC ⟨_,rfl, .inl ⟨_,rfl,_,rfl,iT ?_ rfl⟩⟩))))
  refine rZ (eN (ai rfl (aA (N.LS ?_))))
  rw[decide_eq_false (show ¬(0:Int)≤i by omega)]
  exact q
 ·refine dc (nU (eN (ai rfl (aA ⟨rfl,_,rfl,iF ?_ (decide_eq_false (by simp))⟩))))
  exact i4 (ba gQ rfl (aj (ai rfl (aC ⟨_,rfl, .inr ⟨.inl ⟨_,rfl⟩,_,rfl,iF q rfl⟩⟩))))
 ·refine dc (nU (eN (ai rfl (aA ⟨rfl,_,rfl,iF ?_ (decide_eq_false (by simp))⟩))))
  exact i4 (ba gQ rfl (aj (ai rfl (aC ⟨_,rfl, .inr ⟨.inr rfl,_,rfl,iF q rfl⟩⟩))))
def pM:Sp:=fun vs H Q E=> ∃(v:V) (n:Nat),vs=[v, .int n]∧gZ v n H∧Q (.bl false) H
theorem abR(vs:List V)(H:Hp)(Q:VK)(E:XK)(h:pM vs H Q E):aB (aM K [("is_between",iZ),("is_goal",d9 nV vL)] [] (E:=E)) uI (Dn Q) (start qA vs) H:=by
 obtain⟨v,n,rfl,h,q⟩:=h
 rcases h with h | ⟨a,xs,rfl,ha,h⟩
 ·exact df (mh (eE (nQ (ai rfl (h.go (iT (iT (dc (aA q)) rfl) rfl))))))
 ·refine df (mh (eE (nQ (ai rfl (rG ha (iF ?_ rfl))))))
  rcases h with h | ⟨x,y,z,rfl,h⟩
  ·exact e7 (gh (ai rfl (.inr ⟨_,aL.of ha,aA (yZ ⟨_,rfl,iT (dc (aA q)) (by simp;omega)⟩)⟩)))
  ·refine e7 (gh (ai rfl (.inr ⟨_,aL.of ha,aA (yZ ⟨_,rfl,iF (eO ?_) (by simp)⟩)⟩)))
   rcases h with h | ⟨i,rfl,h1,h2,h⟩
   ·exact dc (i4 (ba iZ rfl (aj (a_ (ai rfl (aA (ck ha rfl (aj (aA (aj (ai rfl (aC ⟨_,_,_,rfl, .inr ⟨h,_,rfl,iF q rfl⟩⟩))))))))))))
   ·refine dc (i4 (ba iZ rfl (aj (a_ (ai rfl (aA (ck ha rfl (aj (aA (aj (ai rfl (aC ⟨_,_,_,rfl, .inl ⟨_,rfl,h1,h2,_,rfl,iT ?_ rfl⟩⟩))))))))))))
    rcases h with h | ⟨j,rfl,h3,h4,h⟩
    ·exact i4 (ba iZ rfl (aj (a_ (ai rfl (aA (ck ha rfl (aj (aA (aj (ai rfl (aC ⟨_,_,_,rfl, .inr ⟨h,_,rfl,iF q rfl⟩⟩)))))))))))
    ·refine i4 (ba iZ rfl (aj (a_ (ai rfl (aA (ck ha rfl (aj (aA (aj (ai rfl (aC ⟨_,_,_,rfl, .inl ⟨_,rfl,h3,h4,_,rfl,iT ?_ rfl⟩⟩)))))))))))
     exact rZ (ba (d9 nV vL) rfl (aj (a_ (ai rfl (aA (ck ha rfl (aC (.inr ⟨_,rfl,h,q⟩))))))))
def oa(v:V)(n:Nat)(H:Hp):Prop:=(∃c,hZ H v c∧c.1≤n∧c.2.1≤n)∨gZ v n H
def gp(v:V)(n:Nat)(H:Hp):Prop:=fJ .list v H∨ ∃l xs,v= .ref l∧H l=some (.lst xs)∧(xs.length=0∨40<xs.length∨
 (xs.length≤40∧((∃g4 o ky,xs=g4++o::ky∧(∀x∈g4++ky,oa x n H)∧gZ o n H)∨
  ∃cs i c d,bq H xs cs∧(∀c∈cs,c.1≤n∧c.2.1≤n)∧cs[i]?=some c∧cs[i+1]?=some d∧near (bg c) (en c) (bg d) (en d)=true)))
def vM(CE:Addr):Sp:=fun vs H Q E=> ∃(n:Nat) (v:V),vs=[.int n,v]∧gp v n H∧ ∀H',au H H'→E (.ref CE) none H'
abbrev MA:List (Str×Sp):=[("is_cursor",d9 kq pM),("meet",jI),("begin_of",gU),("end_of",jH)]
theorem abS{CE:Addr}(vs:List V)(H:Hp)(Q:VK)(E:XK)(hh:vM CE vs H Q E):aB (aM K MA [("MOST_CURSORS", .int 40)] (et:=[("NoCursor",CE)]) (E:=E)) uK (Dn Q) (start qB vs) H:=by
 obtain⟨n,v,rfl,h,q⟩:=hh
 rcases h with h | ⟨l,xs,rfl,hl,h⟩
 ·refine df (mh (eE (nQ (ai rfl (h.go (iT (iT ?_ rfl) rfl))))))
  exact⟨(by show 1≤sizeLine;decide),q _ (au.refl _)⟩
 refine df (mh (eE (nQ (ai rfl (rH hl (iF ?_ rfl))))))
 rcases h with h | h | ⟨hle,h⟩
 ·refine eE (zc (y_ (aA (gh (ai rfl (.inl ⟨_,aq.of hl,N.pK ⟨_,rfl,iF ⟨_,rfl,iT ?_ rfl⟩ (decide_eq_false (by omega))⟩⟩))))))
  exact⟨(by show 1≤sizeLine;decide),q _ (au.refl _)⟩
 ·refine eE (zc (y_ (aA (gh (ai rfl (.inl ⟨_,aq.of hl,N.pK ⟨_,rfl,iT (uV (N.pK ⟨_,rfl, ?_⟩)) (decide_eq_true (by omega))⟩⟩))))))
  rw[show decide (((xs.length:Nat):Int)≤40)=false from decide_eq_false (by omega)]
  exact iT ⟨(by show 1≤sizeLine;decide),q _ (au.refl _)⟩ rfl
 have h0:1≤xs.length:=by
  rcases h with⟨g4,o,ky,rfl,_⟩ | ⟨cs,i,c,d,cO,_,hc,_⟩
  ·rw[List.length_append,List.length_cons];omega
  ·have:=(List.getElem?_eq_some_iff.mp hc).1
   have:=Paired.length cO
   omega
 refine eE (zc (y_ (aA (gh (ai rfl (.inl ⟨_,aq.of hl,N.pK ⟨_,rfl,iT (uV (N.pK ⟨_,rfl, ?_⟩)) (decide_eq_true (by omega))⟩⟩))))))
 rw[show decide (((xs.length:Nat):Int)≤40)=true from decide_eq_true (by omega)]
 refine iF (eO ?_) rfl
 rcases h with⟨g4,o,ky,rfl,Eb,ho⟩ | ⟨cs,j,c,d,cO,cW,hc,hd,cP⟩
 ·refine df (eE (DQ (aj (pJ (ai rfl ⟨l,rfl,⟨_,aq.of hl⟩, ?_⟩)))))
  refine pA hl (by omega) (fun i ys _=> ∃bs:List Bool,ys=bs.map V.bl∧(g4.length<i→false∈bs)) ⟨[],rfl,fun z=>absurd z (Nat.not_lt_zero _)⟩ ?_ ?_
  ·rintro i x ys H2 hx s2 ⟨bs,rfl,hb⟩ Q' kk
   have odd:gZ x n H→ah (aM K MA [("MOST_CURSORS", .int 40)] (et:=[("NoCursor",CE)]) (E:=E)).calm (.call 0 [(.v 0),(.v 1)]) (some x::cf [some (V.int (n:Nat)),some (V.ref l)] [("size",0)]) H2 Q':=by
    intro dr
    refine ba (d9 kq pM) rfl (aj (ai rfl (aj (ai rfl (aC (.inr ⟨x,n,rfl,dr.same s2,kk _ _ (au.refl _) ⟨bs++ [false],by rw[List.map_append];rfl,fun _=>by simp⟩⟩))))))
   by_cases hi:i=g4.length
   ·have e:x=o:=by rw[hi] at hx;simpa using hx.symm
    rw[e] at odd
    rw[e]
    exact odd ho
   ·have hm:x∈g4++ky:=by
     by_cases IJ:i<g4.length
     ·rw[List.getElem?_append_left IJ] at hx
      exact List.mem_append_left _ (List.mem_of_getElem? hx)
     ·rw[List.getElem?_append_right (by omega)] at hx
      obtain⟨m,hm⟩: ∃m,i - g4.length=m+1:=⟨i - g4.length - 1,by omega⟩
      rw[hm,List.getElem?_cons_succ] at hx
      exact List.mem_append_right _ (List.mem_of_getElem? hx)
    rcases Eb x hm with⟨c,⟨t,rfl,ht⟩,b1,b2⟩ | dr
    ·refine ba (d9 kq pM) rfl (aj (ai rfl (aj (ai rfl (aC (.inl ⟨t,_,_,_,n,rfl,s2 _ _ ht,b1,b2,kk _ _ (au.refl _) ⟨bs++ [true],by rw[List.map_append];rfl,fun z=> ?_⟩⟩))))))
     exact List.mem_append_left _ (hb (by omega))
    ·exact odd dr
  ·rintro ys H2 p2 s2 ⟨bs,rfl,hb⟩ f2
   have hf:=hb (by rw[List.length_append,List.length_cons];omega)
   have s3:=sameNew (o:= .lst (bs.map V.bl)) f2
   refine aC ⟨p2,bs,rfl,aq.of aw,iW (iT ?_ ?_)⟩
   ·exact⟨(by show 1≤sizeLine;decide),q _ (s2.trans s3)⟩
   ·have:bs.all id=false:=by
     cases e:bs.all id with
     | false=>rfl
     | true=>exact absurd (List.all_eq_true.mp e false hf) (by simp)
    simpa using this
 ·have lx:xs.length=cs.length:=Paired.length cO
  refine df (eE (DQ (aj (pJ (ai rfl ⟨l,rfl,⟨_,aq.of hl⟩, ?_⟩)))))
  refine pA hl (by omega) (fun i ys _=>ys=(List.replicate i true).map V.bl) rfl ?_ ?_
  ·intro i x ys H2 hx s2 e Q' kk
   obtain⟨c,hc,t,rfl,ht⟩:=gj cO hx
   have b:=cW c (List.mem_of_getElem? hc)
   refine ba (d9 kq pM) rfl (aj (ai rfl (aj (ai rfl (aC (.inl ⟨t,_,_,_,n,rfl,s2 _ _ ht,b.1,b.2,kk _ _ (au.refl _) ?_⟩))))))
   rw[e,List.replicate_succ',List.map_append];rfl
  ·intro ys H2 p2 s2 e f2
   subst e
   have s3:=sameNew (o:= .lst ((List.replicate xs.length true).map V.bl)) f2
   refine aC ⟨p2,List.replicate xs.length true,rfl,aq.of aw,iW (iF (eO ?_) (by simp))⟩
   have dN:=s2.trans s3
   have iC:=dN _ _ hl
   generalize upd H2 p2 (.lst ((List.replicate xs.length true).map V.bl))=H3 at dN iC⊢
   refine df (LU (aj ?_))
   refine⟨_,rfl,_,rfl,_,rfl, .inl ⟨_,aq.of iC,fun w fw=> ⟨l,w,rfl,⟨_,aq.of (sameNew fw _ _ iC)⟩,⟨_,aq.of aw⟩, ?_⟩⟩⟩
   rw[Ms]
   have s4:=sameNew (o:= .lst (xs.drop 1)) fw
   have hw:upd H3 w (.lst (xs.drop 1)) w=some (.lst (xs.drop 1)):=aw
   have vI:=s4 _ _ iC
   generalize upd H3 w (.lst (xs.drop 1))=H4 at s4 hw vI⊢
   have gX:=dN.trans s4
   refine Mr vI hw (by omega) (fun i zs _=> ∃bs:List Bool,zs=bs.map V.bl∧(j<i→true∈bs)) ⟨[],rfl,fun z=>absurd z (Nat.not_lt_zero _)⟩ (fun _ _ _ _ p _=>p) ?_ ?_
   ·rintro i x y zs H5 hx hy s5 ⟨bs,rfl,hb⟩ Q' kk
    rw[List.getElem?_drop,Nat.add_comm] at hy
    obtain⟨c',cn,t,rfl,ht⟩:=gj cO hx
    obtain⟨d',qc,t',rfl,gi⟩:=gj cO hy
    have n6:=s5 _ _ (gX _ _ ht)
    have D8:=s5 _ _ (gX _ _ gi)
    refine ba jI rfl (aj (ba gU rfl (aj (ai rfl (aC ⟨t,_,_,_,rfl,n6,aj (ba jH rfl (aj (ai rfl (aC ⟨t,_,_,_,rfl,n6,aj (ai rfl (aC ⟨_,_,t',_,_,_,rfl,D8, ?_⟩))⟩))))⟩)))))
    refine kk _ _ (au.refl _) ⟨bs++ [near (bg c') (en c') (bg d') (en d')],by rw[List.map_append];rfl,fun z=> ?_⟩
    by_cases hi:i=j
    ·subst hi
     rw[hc] at cn;rw[hd] at qc
     cases cn;cases qc
     rw[cP];simp
    ·exact List.mem_append_left _ (hb (by omega))
   ·rintro zs H5 p5 s5 ⟨bs,rfl,hb⟩ f5
    have hj:=(List.getElem?_eq_some_iff.mp hd).1
    have hf:=hb (by rw[List.length_drop];omega)
    have s6:=sameNew (o:= .lst (bs.map V.bl)) f5
    refine aC ⟨p5,bs,rfl,aq.of aw,iW (iT ?_ ?_)⟩
    ·exact⟨(by show 1≤sizeLine;decide),q _ ((gX.trans s5).trans s6)⟩
    ·exact List.any_eq_true.mpr ⟨true,hf,rfl⟩
end
section
variable {K:Frag}
def vN:Sp:=fun vs H Q E=> ∃(c:Int) (n:Nat),vs=[.int c, .int n]∧ ∀t a h g H',au H H'→i5 H' t a h g→a≤n→h≤n→Q (.ref t) H'
theorem MB{c:Int}{n:Nat}: ∃a:Nat,c % ((n:Nat)+1:Int)=(a:Nat)∧a≤n:=by
 have h1:=Int.emod_nonneg c (show((n:Nat)+1:Int)≠0 by omega)
 have h2:=Int.emod_lt_of_pos c (show(0:Int) < (n:Nat)+1 by omega)
 exact⟨(c % ((n:Nat)+1:Int)).toNat,by omega,by omega⟩
theorem abT(vs:List V)(H:Hp)(Q:VK)(E:XK)(hh:vN vs H Q E):aB (aM K [("_law_mixed",gd)] [] (E:=E)) yq (Dn Q) (start CS vs) H:=by
 obtain⟨c,n,rfl,q⟩:=hh
 refine b_ (ba gd rfl (aj (ai rfl (aj (aA (aC ⟨_,_,rfl, ?_⟩))))))
 have hm:=(C2 c 3).1
 generalize mixed c 3=m at hm⊢
 have n1:(0:Int) < (n:Nat)+1:=by omega
 refine b_ (a_ (cR (aj (bZ (ai rfl (bZ (ai rfl (aA (mr ⟨n1, ?_⟩)))))))))
 refine aj (aA (aj (ai rfl (aj (bZ (bZ (ai rfl (aA ⟨⟨by decide,by decide⟩,bZ (ai rfl (aA (mr ⟨n1,aC ⟨(by show 4≤sizeLine;decide),fun l fl=> ?_⟩⟩)))⟩))))))))
 have s1:=sameNew (o:= .lst [V.int (m % ((n:Nat)+1:Int)),V.int 0,V.int (n:Nat),V.int (m / 7 % ((n:Nat)+1:Int))]) fl
 obtain⟨v,hv,i7⟩:=L2.N.pick (its:=[V.int (m % ((n:Nat)+1:Int)),V.int 0,V.int (n:Nat),V.int (m / 7 % ((n:Nat)+1:Int))]) (j:=m / 5 % 4) (Int.emod_nonneg _ (by decide)) (Int.emod_lt_of_pos _ (by decide))
 obtain⟨a,rfl,la⟩: ∃a:Nat,v= .int a∧a≤n:=by
  simp only[List.mem_cons,List.not_mem_nil,or_false] at hv
  rcases hv with rfl | rfl | rfl | rfl
  ·obtain⟨x,e,l⟩:=MB (c:=m) (n:=n)
   exact⟨x,by rw[e],l⟩
  ·exact⟨0,rfl,Nat.zero_le _⟩
  ·exact⟨n,rfl,Nat.le_refl _⟩
  ·obtain⟨x,e,l⟩:=MB (c:=m / 7) (n:=n)
   exact⟨x,by rw[e],l⟩
 refine bZ (bZ (ai rfl (aA ⟨⟨by decide,by decide⟩,aA ⟨(by show(0:Int) <4;decide),dW aw i7 ?_⟩⟩)))
 generalize upd H l (.lst [V.int (m % ((n:Nat)+1:Int)),V.int 0,V.int (n:Nat),V.int (m / 7 % ((n:Nat)+1:Int))])=H1 at s1⊢
 refine b_ (gP (aj (aA (aj (gP (aj (ai rfl (aj (bZ (ai rfl (a_ (cR (aj (aA (aj (aA (aj (aA (aj (nS (aj (aA (aj (nS (aj (aA (aj (ai rfl (aC ⟨(by show 8≤sizeLine;decide),fun l2 fl2=> ?_⟩)))))))))))))))))))))))))))))
 have s2:=sameNew (o:= .lst [V.int 0,V.int 0,V.int 1,V.int (-1),V.int 3,V.int (-4),V.int 9,V.int (n:Nat)]) fl2
 obtain⟨w,hw,Ec⟩:=L2.N.pick (its:=[V.int 0,V.int 0,V.int 1,V.int (-1),V.int 3,V.int (-4),V.int 9,V.int (n:Nat)]) (j:=m / 23 % 8) (Int.emod_nonneg _ (by decide)) (Int.emod_lt_of_pos _ (by decide))
 obtain⟨d,rfl⟩: ∃d:Int,w= .int d:=by
  simp only[List.mem_cons,List.not_mem_nil,or_false] at hw
  rcases hw with rfl | rfl | rfl | rfl | rfl | rfl | rfl | rfl<;>exact⟨_,rfl⟩
 refine bZ (bZ (ai rfl (aA ⟨⟨by decide,by decide⟩,aA ⟨(by show(0:Int) <8;decide),dW aw Ec (mr (aC ?_))⟩⟩)))
 obtain⟨h,lh,eh⟩: ∃h:Nat,h≤n∧(if (if ((a:Nat):Int)+d< ((n:Nat):Int) then ((a:Nat):Int)+d else ((n:Nat):Int)) >0 then (if ((a:Nat):Int)+d< ((n:Nat):Int) then ((a:Nat):Int)+d else ((n:Nat):Int)) else (0:Int))=((h:Nat):Int):=by
  refine⟨(if (if ((a:Nat):Int)+d< ((n:Nat):Int) then ((a:Nat):Int)+d else ((n:Nat):Int)) >0 then (if ((a:Nat):Int)+d< ((n:Nat):Int) then ((a:Nat):Int)+d else ((n:Nat):Int)) else (0:Int)).toNat, ?_, ?_⟩
  ·split<;>split<;>omega
  ·split<;>split<;>omega
 show aB _ (yq.drop 3) _ [some (.int c),some (.int n),some (.int m),some (.int a),some (.int (if (if ((a:Nat):Int)+d< ((n:Nat):Int) then ((a:Nat):Int)+d else ((n:Nat):Int)) >0 then (if ((a:Nat):Int)+d< ((n:Nat):Int) then ((a:Nat):Int)+d else ((n:Nat):Int)) else (0:Int)))] _
 rw[eh]
 generalize upd H1 l2 (.lst [V.int 0,V.int 0,V.int 1,V.int (-1),V.int 3,V.int (-4),V.int 9,V.int (n:Nat)])=H2 at s2⊢
 have m9:0≤m / 3 % 9:=Int.emod_nonneg _ (by decide)
 refine dc (dJ (aj (ai rfl (aj (ai rfl (aj (a_ (cR (aj (aA (aj (aA (aj (bZ (bZ (ai rfl (aA ⟨⟨by decide,by decide⟩,aA ⟨(by show(0:Int) <9;decide),aj (ai rfl (aC ⟨(by show 4≤sizeLine;decide),fun l fl=> ?_⟩))⟩⟩)))))))))))))))))
 have s3:=sameNew (o:= .lst [V.aD,V.aD,V.int (m / 3 % 9),V.int m]) fl
 obtain⟨v,hv,i7⟩:=L2.N.pick (its:=[V.aD,V.aD,V.int (m / 3 % 9),V.int m]) (j:=m / 11 % 4) (Int.emod_nonneg _ (by decide)) (Int.emod_lt_of_pos _ (by decide))
 obtain⟨g,rfl⟩: ∃g:Option Nat,v=gV g:=by
  simp only[List.mem_cons,List.not_mem_nil,or_false] at hv
  rcases hv with rfl | rfl | rfl | rfl
  ·exact⟨none,rfl⟩
  ·exact⟨none,rfl⟩
  ·exact⟨some (m / 3 % 9).toNat,by show V.int _=V.int _;rw[show(((m / 3 % 9).toNat:Nat):Int)=m / 3 % 9 by omega]⟩
  ·exact⟨some m.toNat,by show V.int _=V.int _;rw[show((m.toNat:Nat):Int)=m by omega]⟩
 refine bZ (bZ (ai rfl (aA ⟨⟨by decide,by decide⟩,aA ⟨(by show(0:Int) <4;decide),dW aw i7 (aC ⟨(by show 3≤sizeLine;decide),fun t ft=> ?_⟩)⟩⟩)))
 exact q t a h g _ ((((s1.trans s2).trans s3)).trans (sameNew ft)) aw la lh
def vO:Sp:=fun vs H Q E=> ∃(f d:Addr) (xs ys:List V) (cs:List Cu),vs=[.ref f, .ref d]∧H f=some (.lst xs)∧H d=some (.lst ys)∧bq H xs cs∧bq H ys cs∧ ∀H',au H H'→Q (.bl true) H'
theorem abV(vs:List V)(H:Hp)(Q:VK)(E:XK)(hh:vO vs H Q E):aB (aM K [("_law_whole",nF)] [] (E:=E)) CU (Dn Q) (start CT vs) H:=by
 obtain⟨f,d,xs,ys,cs,rfl,hf,hd,tJ,eB,q⟩:=hh
 have l1:xs.length=cs.length:=Paired.length tJ
 have l2:ys.length=cs.length:=Paired.length eB
 refine df (mh (eE (nQ (ai rfl (rH hf (iF ?_ rfl))))))
 refine e7 (gh (ai rfl (.inl ⟨_,aq.of hf,gh (ai rfl (.inl ⟨_,aq.of hd,yZ ⟨_,rfl,iF (eO ?_) ?_⟩⟩))⟩)))
 ·refine⟨_,rfl,_,rfl,f,d,rfl,⟨_,aq.of hf⟩,⟨_,aq.of hd⟩,aa0 (K:=K) (a:=f) (b:=d) (xs:=xs) (ys:=ys) (by omega) (fun i σ H2=> ∃v w,σ=[some (.ref f),some (.ref d),v,w]∧au H H2) ⟨none,none,rfl,au.refl _⟩
   (fun i σ H2 ⟨_,_,_,s2⟩=> ⟨aq.of (s2 _ _ hf),aq.of (s2 _ _ hd)⟩) ?_ ?_⟩
  ·rintro i x y σ H2 T hx hy ⟨v,w,rfl,s2⟩ hT
   have s3:au H (upd H2 T (.tup [x,y])):=s2.trans (sameNew hT)
   obtain⟨c,hc,t,rfl,ht⟩:=gj tJ hx
   obtain⟨c',cn,t',rfl,gi⟩:=gj eB hy
   rw[hc] at cn
   cases cn
   refine LF aw ?_
   generalize upd H2 T (.tup [V.ref t,V.ref t'])=H3 at s3⊢
   have fI:=s3 _ _ ht
   have abW:=s3 _ _ gi
   refine df (Dz (eE (nQ (ai rfl (rG fI (iF ?_ rfl))))))
   refine Dz (e7 (ai rfl (ai rfl (abj fI abW ⟨_,rfl,iF ?_ rfl⟩))))
   refine Dz (eE (pq nF rfl (aj (a_ (ai rfl (aA (ck fI rfl (aC ⟨_,rfl,iW (iF ?_ rfl)⟩))))))))
   refine aaZ (eE (pq nF rfl (aj (a_ (ai rfl (aA (ck fI rfl (aC ⟨_,rfl,iW (iF (eO ?_) rfl)⟩))))))))
   refine df (K5 (e7 (a_ (ai rfl (aA (ck fI rfl (aA ⟨rfl,_,rfl, ?_⟩)))))))
   have fin:aB (aM K [("_law_whole",nF)] [] (E:=E)) [] {Dn Q with nx:=fun σ H2=> ∃v w,σ=[some (.ref f),some (.ref d),v,w]∧au H H2} [some (.ref f),some (.ref d),some (.ref t),some (.ref t')] H3:=⟨_,_,rfl,s3⟩
   cases hg:c.2.2 with
   | none=>exact iF (iF (eO ⟨_,_,rfl,s3⟩) rfl) (by simp[gV])
   | some k=>
    refine iT (eE (pq nF rfl (aj (a_ (ai rfl (aA (ck fI rfl (aC ⟨(k:Nat), ?_,iW (iF (eO ⟨_,_,rfl,s3⟩) rfl)⟩)))))))) (by simp[gV])
    rw[hg];rfl
  ·rintro σ H2 ⟨v,w,rfl,s2⟩
   exact dc (aA (q _ s2))
 ·simp;omega
def cD(c:Cu):PyData:= .tuple [.int (c.1:Nat), .int (c.2.1:Nat),gD c.2.2]
theorem abX(c:Cu):(cD c).canLay0=true∧(cD c).depth≤1:=by
 obtain⟨a,h,g⟩:=c
 cases g<;>exact⟨rfl,Nat.le_refl _⟩
theorem Ed: ∀(cs:List Cu),PyData.canLayAll0 (cs.map cD)=true∧PyData.depthAll (cs.map cD)≤1
 | []=> ⟨rfl,Nat.zero_le _⟩
 | g::r=>by
  obtain⟨a,b⟩:=abX g
  obtain⟨c,d⟩:=Ed r
  refine⟨?_, ?_⟩
  ·show((cD g).canLay0 && PyData.canLayAll0 (r.map cD))=true
   rw[a,c];rfl
  ·show max (cD g).depth (PyData.depthAll (r.map cD))≤1
   omega
theorem r_(cs:List Cu):SeqAt.shaped (.list (cs.map cD))=true:=by
 obtain⟨c,d⟩:=Ed cs
 unfold SeqAt.shaped
 have e:(PyData.list (cs.map cD)).canLay0=true:=c
 have e2:(PyData.list (cs.map cD)).depth≤64:=by show PyData.depthAll (cs.map cD)+1≤64;omega
 rw[e,decide_eq_true e2];rfl
theorem pN{H:Hp}: ∀{zs:List V} {cs:List Cu},bq H zs cs→IsL H (cs.map cD) zs
 | [],[], .nil=>rfl
 | z::zs,c::cs, .cons x r=>by
  obtain⟨t,rfl,h1⟩:=x
  exact⟨_,_,rfl,DS h1,pN r⟩
theorem MC{H:Hp}{Q:VK}{a b:Addr}{xs ys:List V}{cs:List Cu}(ha:H a=some (.lst xs))(hb:H b=some (.lst ys))(hx:bq H xs cs)(hy:bq H ys cs)(q:Q (.bl false) H):cz K .NotEq (.ref a) (.ref b) H Q:=by
 refine⟨.list (cs.map cD), .list (cs.map cD),⟨a,xs,rfl,ha,pN hx⟩,⟨b,ys,rfl,hb,pN hy⟩,r_ cs,r_ cs, ?_⟩
 rw[SeqAt.eqv_refl _ (SeqAt.canLay_of_shaped (r_ cs))];exact q
theorem MD{H:Hp}{Q:VK}{a b:Addr}{xs ys:List V}{cs:List Cu}(ha:H a=some (.lst xs))(hb:H b=some (.lst ys))(hx:bq H xs cs)(hy:bq H ys cs)(q:Q (.bl true) H):cz K .Eq (.ref a) (.ref b) H Q:=by
 refine⟨.list (cs.map cD), .list (cs.map cD),⟨a,xs,rfl,ha,pN hx⟩,⟨b,ys,rfl,hb,pN hy⟩,r_ cs,r_ cs, ?_⟩
 rw[SeqAt.eqv_refl _ (SeqAt.canLay_of_shaped (r_ cs))];exact q
abbrev vP(K:Frag):List (Str×Sp):=[("_law_cell_at",ke K),("_law_cursor",vN),("_law_mixed",gd)]
def Ee:List RS:=[.asg 6 (.call 0 [(.v 0),(.bin .Add (.bin .Add (.v 1) (.c (.int 1))) (.bin .Mod (.v 5) (.c (.int 6))))]),
  .drop (.bC .append (.v 4) [(.call 1 [(.bin .Add (.call 2 [(.v 6),(.bin .FloorDiv (.v 5) (.c (.int 6)))]) (.v 5)),(.v 2)])])]
theorem Ef{F:Addr}{H H':Hp}{ws:List V}{vs:List V}{cs:List Cu}(x:bq H vs cs)(hF:H F=some (.lst ws))(b:bf F H H'):bq H' vs cs:=L2.Paired.eQ x fun _ _ y=>hZ.but y hF b
theorem abY{E:XK}{D:Ends}{i st n:Nat}{a L:Addr}{ns:List Int}{ys:List V}{cs:List Cu}{u3 u6:Option V}{H0 H:Hp}(ha:aq K H0 a (ns.map V.int))(sm:au H0 H)(fL:H0 L=none)(hL:H L=some (.lst ys))(hc:bq H ys cs)(hn:cs.length≤1000)
  (k: ∀(y6:Option V) (fX:List V) (c:Cu) (H':Hp),au H0 H'→H' L=some (.lst fX)→bq H' fX (cs++ [c])→c.1≤n→c.2.1≤n→D.nx [some (.ref a),some (.int st),some (.int n),u3,some (.ref L),some (.int (i:Nat)),y6] H'):
  aB (aM K (vP K) [] (E:=E)) Ee D [some (.ref a),some (.int st),some (.int n),u3,some (.ref L),some (.int (i:Nat)),u6] H:=by
 have m6:0≤ ((i:Nat):Int) % 6:=Int.emod_nonneg _ (by decide)
 refine b_ (ba (ke K) rfl (aj (ai rfl (aj (bZ (bZ (ai rfl (aA (mr (bZ (ai rfl (aA ⟨(by show(0:Int) <6;decide),mr (aC ⟨a,ns,_,rfl,sm.seq ha,(by omega), ?_⟩)⟩))))))))))))
 refine hU (jG (ai rfl ⟨.inl ⟨rfl,_,aq.of hL⟩,ba vN rfl (aj (bZ (ba gd rfl (aj (ai rfl (aj (bZ (ai rfl (aA ⟨⟨by decide,by decide⟩,aC ⟨_,_,rfl,ai rfl (mr (aj (ai rfl (aC ⟨_,n,rfl,fun t a' h g H1 s1 ht la lh=> ?_⟩))))⟩⟩)))))))))⟩))
 have Eg:=s1 _ _ hL
 have ly:=Paired.length hc
 refine⟨ys,Eg,dD (by omega), ?_⟩
 have b1:bf L H1 (upd H1 L (.lst (ys++ [.ref t]))):=bf.upd
 have nt:t≠L:=fun z=>by rw[z] at ht;unfold i5 at ht;rw[Eg] at ht;cases ht
 have sm1:au H0 (upd H1 L (.lst (ys++ [.ref t]))):=fun c o e=>b1 c o (s1 _ _ (sm _ _ e)) (bD e fL)
 refine k _ (ys++ [.ref t]) (a',h,g) _ sm1 aw ?_ la lh
 exact iB (Ef (hc.same s1) Eg b1) ⟨t,rfl,b1 _ _ ht nt⟩
def vQ(Γ:aO)(σ:St)(n:Nat)(e:RE):Prop:= ∀(H:Hp) (Q:VK),(∀v H',au H H'→gZ v n H'→Q v H')→ah Γ e σ H Q
def Ev(Γ:aO)(σ:St)(e:RE)(v:V):Prop:= ∀(H:Hp) (Q:VK),Q v H→ah Γ e σ H Q
section
variable {Γ:aO} {σ:St} {n:Nat}
theorem ME: ∀(es:List RE),(∀e∈es,vQ Γ σ n e)→ ∀(H:Hp) (Q:List V→Hp→Prop),(∀vs H',au H H'→vs.length=es.length→(∀v∈vs,gZ v n H')→Q vs H')→aS Γ es σ H Q
 | [],_,H,Q,q=>aC (q [] H (au.refl _) rfl (fun v hv=>by cases hv))
 | e::es,h,H,Q,q=>aj (h e (.head _) H _ fun v H1 s1 o=>ME es (fun e' pE=>h e' (.tail _ pE)) H1 _ fun vs H2 s2 ln os=>q (v::vs) H2 (s1.trans s2) (by rw[List.length_cons,ln,List.length_cons]) (fun w hw=>by
   rcases List.mem_cons.mp hw with rfl | hw
   ·exact o.same s2
   ·exact os w hw))
theorem jJ{v:V}:Ev Γ σ (.c v) v:=fun H Q q=>aA q
theorem sf{i:Nat}{v:V}(h:σ[i]?=some (some v)):Ev Γ σ (.v i) v:=fun H Q q=>ai h q
theorem ab0{i:Int}:Ev Γ σ (.neg (.c (.int i))) (.int (-i)):=fun H Q q=>nS q
theorem MF{a b:RE}{i j:Int}(h:Ev Γ σ a (.int i))(h':Ev Γ σ b (.int j)):Ev Γ σ (.bin .Add a b) (.int (i+j)):=fun H Q q=>bZ (h H _ (h' H _ (mr q)))
theorem ab1{v:V}(h: ∀H,fJ .tuple v H):vQ Γ σ n (.c v):=fun H Q q=>aA (q v H (au.refl _) (.inl (h H)))
theorem Eh{a b c:RE}{x y z:V}(h1:Ev Γ σ a x)(h2:Ev Γ σ b y)(h3:Ev Γ σ c z)(h: ∀H,nR x 0 (n:Nat) H∨ ∃i:Int,x= .int i∧0≤i∧i≤ (n:Nat)∧(nR y 0 (n:Nat) H∨ ∃j:Int,y= .int j∧0≤j∧j≤ (n:Nat)∧Ea z)):vQ Γ σ n (.tup [a,b,c]):=fun H Q q=>
 dJ (aj (h1 H _ (aj (h2 H _ (aj (h3 H _ (aC ⟨(by show 3≤sizeLine;decide),fun t ft=>q _ _ (sameNew ft) (.inr ⟨t,_,rfl,aw, .inr ⟨x,y,z,rfl,h _⟩⟩)⟩)))))))
theorem ab2{x y:V}:vQ Γ σ n (.tup [.c x, .c y]):=fun H Q q=>dJ (aj (aA (aj (aA (aC ⟨(by show 2≤sizeLine;decide),fun t ft=>q _ _ (sameNew ft) (.inr ⟨t,_,rfl,aw, .inl (by show(2:Nat)≠3;decide)⟩)⟩)))))
theorem ab3{x y z:V}:vQ Γ σ n (.lst [.c x, .c y, .c z]):=fun H Q q=>cR (aj (aA (aj (aA (aj (aA (aC ⟨(by show 3≤sizeLine;decide),fun t ft=>q _ _ (sameNew ft) (.inl (rH aw rfl))⟩)))))))
end
end
theorem oa.same{v:V}{n:Nat}{H H':Hp}(h:oa v n H)(s:au H H'):oa v n H':=by
 rcases h with⟨c,h,l⟩ | h
 ·exact .inl ⟨c,h.same s,l⟩
 ·exact .inr (h.same s)
theorem gp.same{v:V}{n:Nat}{H H':Hp}(h:gp v n H)(s:au H H'):gp v n H':=by
 rcases h with h | ⟨l,xs,rfl,hl,h⟩
 ·exact .inl (h.same s)
 ·refine .inr ⟨l,xs,rfl,s _ _ hl, ?_⟩
  rcases h with h | h | ⟨h1,h⟩
  ·exact .inl h
  ·exact .inr (.inl h)
  ·refine .inr (.inr ⟨h1, ?_⟩)
   rcases h with⟨a,o,b,e,h2,h3⟩ | ⟨cs,i,c,d,h2,h3⟩
   ·exact .inl ⟨a,o,b,e,fun x hx=>oa.same (h2 x hx) s,h3.same s⟩
   ·exact .inr ⟨cs,i,c,d,bq.same h2 s,h3⟩
theorem MG{l:Addr}{n:Nat}{H:Hp}{g4 ky:List V}{o:V}(hl:H l=some (.lst (g4++o::ky)))(h: ∀x∈g4++ky,oa x n H)(ho:gZ o n H):gp (.ref l) n H:=by
 refine .inr ⟨l,_,rfl,hl, ?_⟩
 by_cases z:(g4++o::ky).length≤40
 ·exact .inr (.inr ⟨z, .inl ⟨g4,o,ky,rfl,h,ho⟩⟩)
 ·exact .inr (.inl (by omega))
theorem ab4{l:Addr}{n:Nat}{H:Hp}{xs:List V}{cs:List Cu}{i:Nat}{c d:Cu}(hl:H l=some (.lst xs))(hc:bq H xs cs)(cW: ∀c∈cs,c.1≤n∧c.2.1≤n)(h1:cs[i]?=some c)(h2:cs[i+1]?=some d)(h3:near (bg c) (en c) (bg d) (en d)=true):gp (.ref l) n H:=by
 refine .inr ⟨l,_,rfl,hl, ?_⟩
 by_cases z:xs.length≤40
 ·exact .inr (.inr ⟨z, .inr ⟨cs,i,c,d,hc,cW,h1,h2,h3⟩⟩)
 ·exact .inr (.inl (by omega))
theorem ab5(c:Cu):near (bg c) (en c) (bg c) (en c)=true:=by
 unfold near
 by_cases z:bg c=en c
 ·rw[if_pos z,decide_eq_true z];rfl
 ·rw[if_neg z]
  have:=vJ c
  exact decide_eq_true (by omega)
theorem ab6{c d:Cu}(h:bg d<bg c):near (bg c) (en c) (bg d) (en d)=true:=by
 have:=vJ c
 unfold near
 rw[if_neg (by omega)]
 exact decide_eq_true (by omega)
section
variable {Γ:aO} {σ:St} {n:Nat} {H0:Hp}
def og(Γ:aO)(σ:St)(H0:Hp)(e:RE)(P:List V→Hp→Prop):Prop:= ∀(H1:Hp) (Q:VK),au H0 H1→(∀w zs H',au H1 H'→H' w=some (.lst zs)→P zs H'→Q (.ref w) H')→ah Γ e σ H1 Q
theorem ab7{Q:VK}{H:Hp}{a lo:RE}(h:ah Γ a σ H fun x H1=>ah Γ lo σ H1 fun j H3=> ∃j':Int,j= .int j'∧tU Γ.K x (some j') none H3 Q):ah Γ (.sl a (some lo) none) σ H Q:=h
theorem ab8(xs:List V)(i:Nat):eV xs (some (i:Int)) none=xs.drop i:=by
 unfold eV
 rw[HT.oE,HT.z0]
 by_cases z:i≤xs.length
 ·rw[Nat.min_eq_left z,List.take_of_length_le (by rw[List.length_drop];omega)]
 ·rw[Nat.min_eq_right (by omega),List.drop_eq_nil_of_le (Nat.le_refl _),List.drop_eq_nil_of_le (by omega),List.take_nil]
theorem ab9{i:Nat}{l:Addr}{xs:List V}{hi:RE}{j:Nat}(e:σ[i]?=some (some (.ref l)))(hl:H0 l=some (.lst xs))(h:Ev Γ σ hi (.int (j:Nat))):og Γ σ H0 (.sl (.v i) none (some hi)) fun zs _=>zs=xs.take j:=fun H1 Q s q=>
 ze (ai e (h H1 _ ⟨_,rfl, .inl ⟨xs,aq.of (s _ _ hl),fun w fw=>q w _ _ (sameNew fw) aw (abh xs j)⟩⟩))
theorem ab_{i:Nat}{l:Addr}{xs:List V}{lo:RE}{j:Nat}(e:σ[i]?=some (some (.ref l)))(hl:H0 l=some (.lst xs))(h:Ev Γ σ lo (.int (j:Nat))):og Γ σ H0 (.sl (.v i) (some lo) none) fun zs _=>zs=xs.drop j:=fun H1 Q s q=>
 ab7 (ai e (h H1 _ ⟨_,rfl, .inl ⟨xs,aq.of (s _ _ hl),fun w fw=>q w _ _ (sameNew fw) aw (ab8 xs j)⟩⟩))
theorem MH{i:Nat}{l:Addr}{xs:List V}(e:σ[i]?=some (some (.ref l)))(hl:H0 l=some (.lst xs)):og Γ σ H0 (.v i) fun zs _=>zs=xs:=fun H1 Q s q=>ai e (q l xs H1 (au.refl _) (s _ _ hl) rfl)
theorem Ei{a b:RE}{P P':List V→Hp→Prop}(h1:og Γ σ H0 a P)(h2:og Γ σ H0 b P')(st: ∀zs H H',P zs H→au H H'→P zs H')(eU: ∀zs H H',P' zs H→au H H'→P' zs H')(l1: ∀zs H,P zs H→zs.length≤1000)(l2: ∀zs H,P' zs H→zs.length≤1000):
  og Γ σ H0 (.bin .Add a b) fun zs H=> ∃xs ys,zs=xs++ys∧P xs H∧P' ys H:=fun H1 Q s q=>by
 refine bZ (h1 H1 _ s fun w xs H2 s2 hw p=>h2 H2 _ (s.trans s2) fun w' ys H3 s3 hw' p'=> ?_)
 have a1:=l1 _ _ p
 have a2:=l2 _ _ p'
 refine .inl ⟨w,w',xs,ys,rfl,rfl,s3 _ _ hw,hw',cM (by omega),fun z fz=> ?_⟩
 exact q z _ _ ((s2.trans s3).trans (sameNew fz)) aw ⟨xs,ys,rfl,st _ _ _ p (s3.trans (sameNew fz)),eU _ _ _ p' (sameNew fz)⟩
def si(Γ:aO)(σ:St)(n:Nat)(H0:Hp)(e:RE):Prop:= ∀(H1:Hp) (Q:VK),au H0 H1→(∀v H',au H1 H'→gp v n H'→Q v H')→ah Γ e σ H1 Q
theorem MI: ∀(es:List RE),(∀e∈es,si Γ σ n H0 e)→ ∀(H:Hp) (Q:List V→Hp→Prop),au H0 H→(∀vs H',au H H'→vs.length=es.length→(∀v∈vs,gp v n H')→Q vs H')→aS Γ es σ H Q
 | [],_,H,Q,_,q=>aC (q [] H (au.refl _) rfl (fun v hv=>by cases hv))
 | e::es,h,H,Q,s0,q=>aj (h e (.head _) H _ s0 fun v H1 s1 o=>MI es (fun e' pE=>h e' (.tail _ pE)) H1 _ (s0.trans s1) fun vs H2 s2 ln os=>q (v::vs) H2 (s1.trans s2) (by rw[List.length_cons,ln,List.length_cons]) (fun w hw=>by
   rcases List.mem_cons.mp hw with rfl | hw
   ·exact gp.same o s2
   ·exact os w hw))
end
theorem MJ{α β:Type}{R:α→β→Prop}: ∀{xs g8:List α} {ys fX:List β},Paired R xs ys→Paired R g8 fX→Paired R (xs++g8) (ys++fX)
 | [],_,[],_, .nil,h=>h
 | _::_,_,_::_,_, .cons a r,h=> .cons a (MJ r h)
theorem acb{H:Hp}{n:Nat}{xs:List V}{cs:List Cu}(hc:bq H xs cs)(cW: ∀c∈cs,c.1≤n∧c.2.1≤n){x:V}(hx:x∈xs):oa x n H:=by
 obtain⟨i,hi⟩:=List.getElem?_of_mem hx
 obtain⟨c,h1,h2⟩:=gj hc hi
 have:=cW c (List.mem_of_getElem? h1)
 exact .inl ⟨c,h2,this.1,this.2⟩
theorem vR{ys:List V}: ∀(zs:List V) (H H':Hp),(fun zs _=>zs=ys:List V→Hp→Prop) zs H→au H H'→(fun zs _=>zs=ys:List V→Hp→Prop) zs H':=fun _ _ _ h _=>h
section
variable {K:Frag} {CP C CE CD:Addr}
end
theorem pG.MK{C:Addr}{H H':Hp}{p dx lo ln ll:Addr}{rs:List (Nat×Nat×Nat)}{ov gv:Nat}(S:pG C H p dx lo ln ll rs ov gv)(s:au H H'):pG C H' p dx lo ln ll rs ov gv:=by
 cases S
 constructor<;>first | assumption | (apply s;assumption)
def ja(ps:List Pt)(c:Cu):Cu:=(dv 0 (cQ (bp ps 0 0)) c.1,dv 0 (cQ (bp ps 0 0)) c.2.1,none)
section
variable {K:Frag} {C CC CE:Addr}
theorem acd{σ:St}{H:Hp}{QQ:List V→Hp→Addr→Prop}{te:TE}{fv:List (Str×Nat)}{a:Addr}{xs:List V}{cs:List Cu}(ha:H a=some (.lst xs))(hc:bq H xs cs)(hl:cs.length≤1000000)(P:Nat→List V→Hp→Prop)(p0:P 0 [] H)
  (step: ∀i c ys H2,cs[i]?=some c→au H H2→P i ys H2→ ∀Q':VK,(∀y H3,au H2 H3→P (i+1) (ys++ [y]) H3→Q' y H3)→te (some (.int (c.1:Nat))::some (.int (c.2.1:Nat))::some (gV c.2.2)::cf σ fv) H2 Q')
  (fin: ∀ys H2 p,au H H2→P cs.length ys H2→H2 p=none→QQ ys H2 p): ∃W:Nat→Nat→List V→Hp→Prop,(∃m,W 0 m [] H)∧ ∀i m ys H2,W i m ys H2→
   ((eT K a).stop i H2∧ ∀p,H2 p=none→QQ ys H2 p)∨
   ((eT K a).go i H2∧ ∀x H3,(eT K a).fo i H2 x H3→jU K (some 3) x H3 fun zs=>jV none (zs.map some++cf σ fv) H3 fun b H5=>
    if b=true then te (zs.map some++cf σ fv) H5 fun y H6=>ys.length<sizeLine∧ ∃m',m'<m∧W (i+1) m' (ys++ [y]) H6 else ∃m',m'<m∧W (i+1) m' ys H5):=by
 have lx:xs.length=cs.length:=Paired.length hc
 refine⟨fun i m ys H2=>m=xs.length - i∧i≤xs.length∧ys.length=i∧au H H2∧P i ys H2,⟨_,rfl,Nat.zero_le _,rfl,au.refl _,p0⟩, ?_⟩
 rintro i m ys H2 ⟨rfl,hi,hy,s,p⟩
 by_cases aQ:i<xs.length
 ·refine .inr ⟨⟨xs,xs[i],aq.of (s _ _ ha),by simp[aQ]⟩, ?_⟩
  rintro x H3 ⟨rfl,hx⟩
  obtain⟨c,qe,t,rfl,ht⟩:=gj hc (hx xs (aq.of (s _ _ ha)))
  refine⟨t,_,rfl,aL.of (s _ _ ht),rfl, ?_⟩
  exact step i c ys _ qe s p _ fun y H4 s4 p4=> ⟨dD (by omega),xs.length - (i+1),by omega,rfl,aQ,by simp[hy],s.trans s4,p4⟩
 ·have eM:i=xs.length:=by omega
  subst eM
  refine .inl ⟨⟨xs,aq.of (s _ _ ha),Nat.le_refl _⟩,fun q hq=>fin ys _ q s ?_ hq⟩
  rw[←lx];exact p
def pO:Sp:=fun vs H Q E=> ∃(vc:V) (ps:List Pt) (l:Addr) (xs:List V) (cs:List Cu),vs=[vc, .ref l]∧ko vc H ps∧H l=some (.lst xs)∧bq H xs cs∧1≤cs.length∧cs.length≤40∧(∀c∈cs,c.1≤bx ps∧c.2.1≤bx ps)∧Apart cs∧
 ∀us r zs H',gb (cs.map (ja ps)) us→au H H'→H r=none→H' r=some (.lst zs)→bq H' zs (settle (cs.map (ja ps)) us)→Q (.ref r) H'
theorem ace(T:uE K C)(vs:List V)(H:Hp)(Q:VK)(E:XK)(h:pO vs H Q E):
  aB (aM K [("need_cursors",nZ),("settled",h9)] [] [] [("to_left",C,nP C)] [("Track",C,nM C)] (E:=E)) uP (Dn Q) (start yp vs) H:=by
 obtain⟨vc,ps,l,xs,cs,rfl,⟨a,ys0,rfl,ha,dE,aE,ez,hl⟩,vS,hc,h1,h2,cW,D7,q⟩:=h
 have lc:xs.length=cs.length:=Paired.length hc
 refine b_ (LC C (nM C) rfl (ai rfl fun x dx hx hd cP=> ?_))
 have s1:au H (upd (upd H dx (.own x)) x (.ins C dx [])):=fun b o e=>by rw[aG (bD e hx),aG (bD e hd)];exact e
 refine⟨x,dx,a,ys0,ps,rfl,aw,s1 _ _ ha,dE.mono (cJ s1),aE,ez,hl,fun lo ln ll H1 S b1=> ⟨rfl, ?_⟩⟩
 have s2:au H H1:=fun b o e=>b1 b o (s1 b o e) (bD e hx)
 refine hU (ba nZ rfl (aj ⟨_,rfl,x,C,dx,_,_,rfl,S.ob,T.cl,T.Ck,Lq,aj (ai rfl (aC ⟨bx ps,l,xs,cs,rfl,s2 _ _ vS,hc.same s2,h1,h2,cW,D7,fun H2 s3=> ?_⟩))⟩))
 have dN:=s2.trans s3
 have S2:=pG.MK S s3
 have inc:=rS ps 0 0 aE
 refine dc (ba h9 rfl (aj ?_))
 refine⟨_,rfl,l,rfl,⟨_,aq.of (dN _ _ vS)⟩,acd (dN _ _ vS) (hc.same dN) (by omega) (fun i ys H3=>bq H3 ys ((cs.take i).map (ja ps))) .nil ?_ ?_⟩
 ·intro i c ys H3 qe s4 e Q' kk
  have S3:=pG.MK S2 s4
  refine dJ (aj (LB C (nP C) rfl (ai rfl ⟨x,dx,_,rfl,S3.ob,Lr (by decide+kernel) (by decide+kernel) (by decide+kernel) (by decide+kernel) (by decide+kernel),ai rfl ⟨x,dx,lo,ln,ll,_,_,_,c.1,rfl,S3,inc, ?_⟩⟩)))
  refine aj (LB C (nP C) rfl (ai rfl ⟨x,dx,_,rfl,S3.ob,Lr (by decide+kernel) (by decide+kernel) (by decide+kernel) (by decide+kernel) (by decide+kernel),ai rfl ⟨x,dx,lo,ln,ll,_,_,_,c.2.1,rfl,S3,inc, ?_⟩⟩))
  refine aj (aA (aC ⟨(by show 3≤sizeLine;decide),fun t ft=>kk _ _ (sameNew ft) ?_⟩))
  rw[mw qe,List.map_append]
  exact iB (bq.same e (sameNew ft)) ⟨t,rfl,aw⟩
 ·intro ys H3 p3 s4 e f3
  rw[List.take_of_length_le (Nat.le_refl _)] at e
  have s5:=sameNew (o:= .lst ys) f3
  refine aC ⟨p3,ys,cs.map (ja ps),rfl,aw,bq.same e s5,by rw[List.length_map];omega,fun us r zs H' Sr s' fr hr hz=> ?_⟩
  have ML:=(dN.trans s4).trans s5
  exact q us r zs H' Sr (ML.trans s') (ML.free fr) hr hz
def sj(CC CE:Addr):Sp:=fun vs H Q E=> ∃(vc cv:V),vs=[vc,cv]∧((iX vc H∧ ∀H',au H H'→E (.ref CC) none H')∨ ∃ps,ko vc H ps∧gp cv (bx ps) H∧ ∀H',au H H'→E (.ref CE) none H')
theorem acg(T:uE K C)(vs:List V)(H:Hp)(Q:VK)(E:XK)(h:sj CC CE vs H Q E):
  aB (aM K [("need_cursors",d9 nZ (vM CE)),("settled",h9)] [] [] [("to_left",C,nP C)] [("Track",C,d9 (nM C) (vo CC))] (E:=E)) uP (Dn Q) (start yp vs) H:=by
 obtain⟨vc,cv,rfl,h⟩:=h
 refine b_ (LC C (d9 (nM C) (vo CC)) rfl (ai rfl fun x dx hx hd cP=> ?_))
 have s1:au H (upd (upd H dx (.own x)) x (.ins C dx [])):=fun b o e=>by rw[aG (bD e hx),aG (bD e hd)];exact e
 rcases h with⟨hn,q⟩ | ⟨ps,⟨a,xs,rfl,ha,dE,aE,ez,hl⟩,hb,q⟩
 ·exact .inr ⟨x,vc,rfl,hn.same s1,fun H' s2=>q H' (s1.trans s2)⟩
 ·refine .inl ⟨x,dx,a,xs,ps,rfl,aw,s1 _ _ ha,dE.mono (cJ s1),aE,ez,hl,fun lo ln ll H1 S b1=> ⟨rfl, ?_⟩⟩
  have s2:au H H1:=fun b o e=>b1 b o (s1 b o e) (bD e hx)
  exact hU (ba (d9 nZ (vM CE)) rfl (aj ⟨_,rfl,x,C,dx,_,_,rfl,S.ob,T.cl,T.Ck,Lq,aj (ai rfl (aC (.inr ⟨bx ps,cv,rfl,hb.same s2,fun H2 s3=>q _ (s2.trans s3)⟩)))⟩))
end
end L2.N
namespace L2.lU
open PySem PySem.Spec L2.B L2.N
section
variable {K:Frag}
def vT(K:Frag):Sp:=fun vs H Q E=> ∃(a:Addr) (ns:List Int) (st n:Nat),vs=[.ref a, .int st, .int n]∧aq K H a (ns.map V.int)∧
 ∀l xs cs H',au H H'→H l=none→H' l=some (.lst xs)→bq H' xs cs→(∀c∈cs,c.1≤n∧c.2.1≤n)→1≤cs.length→cs.length≤40→Q (.ref l) H'
theorem ach(vs:List V)(H:Hp)(Q:VK)(E:XK)(hh:vT K vs H Q E):aB (aM K (vP K) [] (E:=E)) yr (Dn Q) (start CV vs) H:=by
 obtain⟨a,ns,st,n,rfl,ha,q⟩:=hh
 have cl: ∀{σ:St} {H1:Hp} {Q':VK},au H H1→σ[0]?=some (some (.ref a))→σ[1]?=some (some (.int (st:Nat)))→Q' (.int (cell ns st)) H1→ah (aM K (vP K) [] (E:=E)) (.call 0 [(.v 0),(.v 1)]) σ H1 Q':=fun s1 e0 e1 q'=>
  ba (ke K) rfl (aj (ai e0 (aj (ai e1 (aC ⟨a,ns,_,rfl,s1.seq ha,by omega,by rw[Int.toNat_natCast];exact q'⟩)))))
 have p6:=Int.emod_nonneg (cell ns st) (show(6:Int)≠0 by decide)
 have l6:=Int.emod_lt_of_pos (cell ns st) (show(0:Int) <6 by decide)
 refine b_ (bZ (aA (bZ (cl (au.refl _) rfl rfl (aA ⟨(by show(0:Int) <6;decide),mr ?_⟩)))))
 have fin: ∀m:Int,1≤m→m≤40→aB (aM K (vP K) [] (E:=E)) (yr.drop 2) (Dn Q) [some (.ref a),some (.int st),some (.int n),some (.int m),none,none,none] H:=by
  intro m h1 h2
  refine b_ (cR (aC ⟨Nat.zero_le _,fun L fL=> ?_⟩))
  have s0:=sameNew (o:= .lst []) fL
  refine aa_ (body:=Ee) (ai rfl ⟨m,rfl,by omega,by omega,wB (lo:=0) (n:=m.toNat) (fun i σ H2=>i≤m.toNat∧ ∃(ys:List V) (cs:List Cu) (u5 u6:Option V),σ=[some (.ref a),some (.int st),some (.int n),some (.int m),some (.ref L),u5,u6]∧au H H2∧H2 L=some (.lst ys)∧bq H2 ys cs∧cs.length=i∧ ∀c∈cs,c.1≤n∧c.2.1≤n)
   ⟨Nat.zero_le _,[],[],none,none,rfl,s0,aw, .nil,rfl,fun c hc=>by cases hc⟩ ?_ ?_⟩)
  ·rintro i σ H2 hi ⟨_,ys,cs,u5,u6,rfl,sm,hL,hc,lc,cW⟩
   show aB (aM K (vP K) [] (E:=E)) Ee _ [some (.ref a),some (.int st),some (.int n),some (.int m),some (.ref L),some (.int (0+ (i:Int))),u6] H2
   rw[Int.zero_add]
   refine abY ha sm fL hL hc (by omega) fun y6 fX c H' s' hL' cn l1 l2=> ⟨hi,fX,cs++ [c],_,y6,rfl,s',hL',cn,by rw[List.length_append,lc];rfl,fun d hd=> ?_⟩
   rcases List.mem_append.mp hd with hd | hd
   ·exact cW d hd
   ·rw[List.mem_singleton.mp hd];exact⟨l1,l2⟩
  ·rintro σ H2 ⟨_,ys,cs,u5,u6,rfl,sm,hL,hc,lc,cW⟩
   exact dc (ai rfl (q L ys cs H2 sm fL hL hc cW (by omega) (by omega)))
 refine df (e7 (bZ (bZ (cl (au.refl _) rfl rfl (aA ⟨⟨by decide,by decide⟩,aA ⟨(by show(0:Int) <9;decide),aA (km ⟨_,rfl,ie (fun _=> ?_) (fun _=>eO (fin _ (by omega) (by omega)))⟩)⟩⟩)))))
 exact b_ (aA (eO (fin 40 (by decide) (by decide))))
abbrev pP(ps:List Pt)(p:Nat):Nat:=dv 0 (cQ (bp ps 0 0)) p
def vU:Sp:=fun vs H Q E=> ∃(a b:Addr) (rv lv:List V) (rows:List bj) (aH:Key) (ps:List Pt) (l r:List Nat),vs=[.ref a, .ref b]∧H a=some (.lst rv)∧de H rv rows∧H b=some (.lst lv)∧de H lv (bJ aH rows 0 (cj ps))∧
 Run l ps r∧l.length=rows.length∧(∀p∈ps,gf p)∧(rows.map nm).Nodup∧(∀row∈rows,row.1≠aH)∧rows.length≤100000∧(bJ aH rows 0 (cj ps)).length≤100000∧
 ∀d H',au H H'→H d=none→H' d=some (.lst ((List.range (rows.length+1)).map fun p=>V.int (pP ps p:Nat)))→Q (.ref d) H'
theorem acj(vs:List V)(H:Hp)(Q:VK)(E:XK)(hh:vU vs H Q E):aB (aM K [] [] (E:=E)) CY (Dn Q) (start CW vs) H:=by
 obtain⟨a,b,rv,lv,rows,aH,ps,l,r,rfl,ha,vh,hb,Ej,run,nK,aE,g7,hw,l1,l2,q⟩:=hh
 have nd:=(DD run aH rows 0 nK g7 hw).1
 have next:=fun {i:Nat} {row:bj} (hi:rows[i]?=some row)=>aa4 run aE aH nK g7 hw hi
 generalize hO:bJ aH rows 0 (cj ps)=O at Ej nd l2 next
 have lo:=Paired.length Ej
 have lr:=Paired.length vh
 have fresh: ∀{d:Addr} {H9:Hp} (o:HO),H d=none→au H H9→au H (upd H9 d o):=fun {d H9} o hd s b o' e=>by rw[aG (bD e hd)];exact s b o' e
 refine b_ ?_
 intro d hd
 have s0:=sameNew (o:= .dT []) hd
 refine⟨_,rfl, .inl ⟨lv,aq.of (s0 _ _ hb),(lv.length:Int),rfl,by omega,by omega,wB (lo:=0) (n:=lv.length) (fun i σ H2=> ∃u3:Option V,σ=[some (.ref a),some (.ref b),some (.ref d),u3,none,none,none]∧au H H2∧H2 d=some (.dT (iA 1 (O.take i)))) ⟨none,rfl,s0,aw⟩ ?_ ?_⟩⟩
 ·rintro i σ H2 hi ⟨u3,rfl,s2,hd2⟩
  have hio:i<O.length:=by omega
  have Ek:lv[i]?=some lv[i]:=List.getElem?_eq_getElem hi
  obtain⟨r,hr,t,n,et,ht,hn⟩:=Ej.get Ek
  rw[et] at Ek
  have i7:dj lv (0+ (i:Int))=some (.ref t):=by rw[show(0:Int)+ (i:Int)=((i:Nat):Int) by omega];exact gB Ek
  have e:O.take (i+1)=O.take i++ [r]:=by rw[List.take_add_one,hr];rfl
  have ack:fU (iA 1 (O.take i)) (hX r)=none:=by
   rw[DE,LM];rfl
   intro hm
   obtain⟨o,ho,eo⟩:=List.mem_map.mp hm
   obtain⟨j,hj⟩:=List.getElem?_of_mem ho
   have hj2:j<i:=by
    have:=(List.getElem?_eq_some_iff.mp hj).1
    rw[List.length_take] at this;omega
   rw[List.getElem?_take_of_lt hj2] at hj
   have:=DF nd hj hr eo
   omega
  refine bZ (Γ:=aM K [] [] (E:=E)) (ai rfl (aA (mr ⟨_,rfl, ?_⟩)))
  refine a_ (Γ:=aM K [] [] (E:=E)) (a_ (ai rfl (ai rfl (.inl ⟨b,lv,_,_,rfl,rfl,aq.of (s2 _ _ hb),i7,aA (ck (s2 _ _ ht) rfl ?_)⟩))))
  refine⟨d,_,rfl,tF.t (k:=hX r) hd2 (s2 _ _ hn) (dD (by rw[LL,List.length_take];omega)), ?_⟩
  refine⟨_,rfl,fresh _ hd s2, ?_⟩
  rw[aw,R1 _ ack,e,LK,List.length_take,show min i O.length=i by omega]
  show some (HO.dT (_++ [(hX r,V.int (0+ (i:Int)+1))]))=some (HO.dT (_++ [(hX r,V.int ((1+i:Nat):Int))]))
  rw[show(0:Int)+ (i:Int)+1=((1+i:Nat):Int) by omega]
 rintro σ H2 ⟨u3,rfl,s2,hd2⟩
 rw[lo,List.take_length] at hd2
 refine b_ (cR (aj (aA (aC ⟨(by show 1≤sizeLine;decide),fun c hc=> ?_⟩))))
 have s3:=sameNew (o:= .lst [V.int 0]) hc
 have MM:=s2.trans s3
 have fc:=s2.free hc
 have ncd:d≠c:=fun z=>by rw[z] at hd2;rw[hd2] at hc;cases hc
 refine⟨_,rfl,a,rfl,⟨_,aq.of (MM _ _ ha)⟩,jO (K:=K) (a:=a) (xs:=rv) (fun i σ H4=>i≤rows.length∧ ∃(u5 u6:Option V),σ=[some (.ref a),some (.ref b),some (.ref d),u3,some (.ref c),u5,u6]∧au H H4∧H4 d=some (.dT (iA 1 O))∧H4 c=some (.lst ((List.range (i+1)).map fun p=>V.int (pP ps p:Nat))))
  ⟨Nat.zero_le _,none,none,rfl,MM,s3 _ _ hd2, ?_⟩ (fun i σ H4 _ ⟨_,_,_,_,s4,_⟩=>aq.of (s4 _ _ ha)) ?_ ?_⟩
 ·rw[aw]
  show some (HO.lst [V.int 0])=some (HO.lst [V.int (pP ps 0:Nat)])
  rw[show pP ps 0=0 from yS (rR (rS ps 0 0 aE)) (Nat.zero_le _)];rfl
 ·rintro i y σ H4 hi ⟨_,u5,u6,rfl,s4,j2,sk⟩
  obtain⟨r,hr,t,n,rfl,ht,hn⟩:=vh.get hi
  have cW:i<rows.length:=(List.getElem?_eq_some_iff.mp hr).1
  refine LF (s4 _ _ ht) ?_
  refine hU (jG (ai rfl ⟨.inl ⟨rfl,_,aq.of sk⟩, ?_⟩))
  refine⟨_,rfl,d,rfl, .inr ⟨_, .inl j2⟩,_,rfl, ?_⟩
  refine a_ (Γ:=aM K [] [] (E:=E)) (ai rfl (nS (.inl ⟨c,_, -1,V.int (pP ps i:Nat),rfl,rfl,aq.of sk, ?_, ?_⟩)))
  ·rw[List.range_succ,List.map_append];exact G_ _ _
  ·refine⟨_,mY.t j2 (k:=hX r) (s4 _ _ hn), ?_⟩
   rw[DE,next hr]
   refine⟨_,sk,dD (by rw[List.length_map,List.length_range];omega), ?_⟩
   refine⟨cW,_,_,rfl,fresh _ fc s4,by rw[aG ncd];exact j2, ?_⟩
   rw[aw,List.range_succ (n:=i+1),List.map_append];rfl
 ·rintro σ H4 ⟨_,u5,u6,rfl,s4,j2,sk⟩
  rw[lr] at sk
  exact dc (ai rfl (q c H4 s4 fc sk))
def pQ(CC CE:Addr):Sp:=fun vs H Q E=> ∃vc cv:V,vs=[vc,cv]∧((iX vc H∧ ∀H',au H H'→Q (.str "change") H')∨ ∃ps,ko vc H ps∧gp cv (bx ps) H∧ ∀H',au H H'→Q (.str "cursor") H')
theorem aco{cs:List Addr}{cZ CC CE:Addr}(kC:mi K cs cZ CC 1)(kE:mi K cs cZ CE 7)(xC:exmOne K (.ref CC) (.ref cZ)=some true)(xE:exmOne K (.ref CE) (.ref cZ)=some true)(vs:List V)(H:Hp)(Q:VK)(E:XK)(h:pQ CC CE vs H Q E):
  aB (aM K [("carried",sj CC CE)] [("InkError", .ref cZ)] (ht:=[("_law_word",yN K cs cZ)]) (E:=E)) C0 (Dn Q) (start CZ vs) H:=by
 obtain⟨vc,cv,rfl,h⟩:=h
 refine⟨cZ,rfl, ?_⟩
 rcases h with⟨hn,q⟩ | ⟨ps,hg,hb,q⟩
 ·refine hU (ba (sj CC CE) rfl (aj (ai rfl (aj (ai rfl (aC ⟨vc,cv,rfl, .inl ⟨hn,fun H1 s1=> ⟨xC,fun ea ob vs σ' jj hl lA=> ?_⟩⟩⟩))))))
  have s2:=sameNew (o:= .bz ob jX) jj
  have he:ExcAt (upd H1 ea (.bz ob jX)) ea CC:=⟨ob,vs,aw,lA⟩
  exact⟨_,(by rw[List.getElem?_set_self (by omega)]),⟨ea,CC,rfl,he⟩,ea,CC,1,rfl,he,kC,(by decide),fun H2 s3=>q _ ((s1.trans s2).trans s3)⟩
 ·refine hU (ba (sj CC CE) rfl (aj (ai rfl (aj (ai rfl (aC ⟨vc,cv,rfl, .inr ⟨ps,hg,hb,fun H1 s1=> ⟨xE,fun ea ob vs σ' jj hl lA=> ?_⟩⟩⟩))))))
  have s2:=sameNew (o:= .bz ob jX) jj
  have he:ExcAt (upd H1 ea (.bz ob jX)) ea CE:=⟨ob,vs,aw,lA⟩
  exact⟨_,(by rw[List.getElem?_set_self (by omega)]),⟨ea,CE,rfl,he⟩,ea,CE,7,rfl,he,kE,(by decide),fun H2 s3=>q _ ((s1.trans s2).trans s3)⟩
end
section
variable {Γ:aO} {σ:St}
def vV(Γ:aO)(σ:St)(P:V→Hp→Prop)(e:RE):Prop:= ∀(H:Hp) (Q:VK),(∀v H',au H H'→P v H'→Q v H')→ah Γ e σ H Q
theorem MN{P:V→Hp→Prop}(st: ∀v H H',P v H→au H H'→P v H'): ∀(es:List RE),(∀e∈es,vV Γ σ P e)→ ∀(H:Hp) (Q:List V→Hp→Prop),(∀vs H',au H H'→vs.length=es.length→(∀v∈vs,P v H')→Q vs H')→aS Γ es σ H Q
 | [],_,H,Q,q=>aC (q [] H (au.refl _) rfl (fun v hv=>by cases hv))
 | e::es,h,H,Q,q=>aj (h e (.head _) H _ fun v H1 s1 o=>MN st es (fun e' pE=>h e' (.tail _ pE)) H1 _ fun vs H2 s2 ln os=>q (v::vs) H2 (s1.trans s2) (by rw[List.length_cons,ln,List.length_cons]) (fun w hw=>by
   rcases List.mem_cons.mp hw with rfl | hw
   ·exact st _ _ _ o s2
   ·exact os w hw))
theorem MO{P:V→Hp→Prop}{v:V}(h: ∀H,P v H):vV Γ σ P (.c v):=fun H Q q=>aA (q v H (au.refl _) (h H))
theorem gl{t:Str}(h:(t.cps.toList.all fun c=>SG.cps.contains c)=true)(l:t.length≤9):good t:=⟨by omega,fun c hc=>List.all_eq_true.mp h c hc⟩
theorem acp:vV Γ σ iX (.lst [(.tup [(.c (.str "keep")),(.c (.int 0))])]):=fun H Q q=>by
 refine cR (aj (dJ (aj (aA (aj (aA (aC ⟨(by show 2≤sizeLine;decide),fun t ft=>aC ⟨(by show 1≤sizeLine;decide),fun w fw=> ?_⟩⟩)))))))
 have s2:=sameNew (o:= .lst [V.ref t]) fw
 refine q _ _ ((sameNew ft).trans s2) (.inr ⟨w,_,rfl,aw,[], .ref t,[],[],rfl, .nil,(fun p hp=>by cases hp),rfl, .inl (.inr ⟨t,_,rfl,s2 _ _ aw,(by show 2≤1000000;decide), .inr ⟨_,_,rfl, .inr (.inr (.inl ⟨rfl, .inr ⟨0,rfl,by decide⟩⟩))⟩⟩)⟩)
theorem acq{n:Nat}(e:σ[0]?=some (some (.int (n:Nat)))):vV Γ σ iX (.lst [(.tup [(.c (.str "keep")),(.v 0)]),(.tup [(.c (.str "keep")),(.c (.int 1))])]):=fun H Q q=>by
 refine cR (aj (dJ (aj (aA (aj (ai e (aC ⟨(by show 2≤sizeLine;decide),fun t ft=>aj (dJ (aj (aA (aj (aA (aC ⟨(by show 2≤sizeLine;decide),fun t2 El=>aC ⟨(by show 2≤sizeLine;decide),fun w fw=> ?_⟩⟩))))))⟩)))))))
 have s1:=sameNew (o:= .tup [V.str "keep",V.int (n:Nat)]) ft
 have s2:=sameNew (o:= .tup [V.str "keep",V.int 1]) El
 have s3:=sameNew (o:= .lst [V.ref t,V.ref t2]) fw
 refine q _ _ ((s1.trans s2).trans s3) (.inr ⟨w,_,rfl,aw, ?_⟩)
 have h1:=(s2.trans s3) _ _ (aw (H:=H) (a:=t) (o:= .tup [V.str "keep",V.int (n:Nat)]))
 have h2:=s3 _ _ (aw (H:=upd H t (.tup [V.str "keep",V.int (n:Nat)])) (a:=t2) (o:= .tup [V.str "keep",V.int 1]))
 by_cases z:n=0
 ·exact⟨[], .ref t,[.ref t2],[],rfl, .nil,(fun p hp=>by cases hp),rfl, .inl (.inr ⟨t,_,rfl,h1,(by show 2≤1000000;decide), .inr ⟨_,_,rfl, .inr (.inr (.inl ⟨rfl, .inr ⟨_,rfl,by omega⟩⟩))⟩⟩)⟩
 ·refine⟨[.ref t], .ref t2,[],[.keep (n:Nat)],rfl, .cons ⟨t,rfl,h1⟩ .nil,(fun p hp=> ?_), ?_, .inr ⟨.keep 1,⟨t2,rfl,h2⟩,(by show(1:Int)≤1;decide), ?_⟩⟩
  ·rw[List.mem_singleton.mp hp];show(1:Int)≤ (n:Nat);omega
  ·show(gM "keep" "" && true)=true;decide+kernel
  ·show gM "keep" "keep"=false;decide+kernel
theorem acr:vV Γ σ iX (.lst [(.tup [(.c (.str "cut")),(.c (.str "a"))]),(.tup [(.c (.str "put")),(.c (.str "b"))])]):=fun H Q q=>by
 refine cR (aj (dJ (aj (aA (aj (aA (aC ⟨(by show 2≤sizeLine;decide),fun t ft=>aj (dJ (aj (aA (aj (aA (aC ⟨(by show 2≤sizeLine;decide),fun t2 El=>aC ⟨(by show 2≤sizeLine;decide),fun w fw=> ?_⟩⟩))))))⟩)))))))
 have s1:=sameNew (o:= .tup [V.str "cut",V.str "a"]) ft
 have s2:=sameNew (o:= .tup [V.str "put",V.str "b"]) El
 have s3:=sameNew (o:= .lst [V.ref t,V.ref t2]) fw
 have h1:=(s2.trans s3) _ _ (aw (H:=H) (a:=t) (o:= .tup [V.str "cut",V.str "a"]))
 have h2:=s3 _ _ (aw (H:=upd H t (.tup [V.str "cut",V.str "a"])) (a:=t2) (o:= .tup [V.str "put",V.str "b"]))
 refine q _ _ ((s1.trans s2).trans s3) (.inr ⟨w,_,rfl,aw, ?_⟩)
 refine⟨[.ref t], .ref t2,[],[.cut "a"],rfl, .cons ⟨t,rfl,h1⟩ .nil,(fun p hp=> ?_), ?_, .inr ⟨.put "b",⟨t2,rfl,h2⟩,⟨gl (by decide+kernel) (by decide+kernel),by decide⟩, ?_⟩⟩
 ·rw[List.mem_singleton.mp hp];exact⟨gl (by decide+kernel) (by decide+kernel),by decide⟩
 ·show(gM "cut" "" && true)=true;decide+kernel
 ·show gM "put" "cut"=false;decide+kernel
def h_(z i j:Int):List Pt:=if i>j then [.keep z] else []
theorem MP{H:Hp}{Q:VK}{e c1 c2:RE}{z i j:Int}(h1:Ev Γ σ e (.int z))(h2:Ev Γ σ c1 (.int i))(h3:Ev Γ σ c2 (.int j))(k: ∀b H' ys,au H H'→H' b=some (.lst ys)→bR H' ys (h_ z i j)→Q (.ref b) H'):
  ah Γ (.bin .Mult (.lst [(.tup [(.c (.str "keep")),e])]) (.blt .int [(.cmp .Gt c1 c2)])) σ H Q:=by
 refine bZ (cR (aj (dJ (aj (aA (aj (h1 _ _ (aC ⟨(by show 2≤sizeLine;decide),fun t ft=>aC ⟨(by show 1≤sizeLine;decide),fun l fl=> ?_⟩⟩))))))))
 have s1:=sameNew (o:= .tup [V.str "keep",V.int z]) ft
 have s2:=sameNew (o:= .lst [V.ref t]) fl
 refine gP (aj (eN (h2 _ _ (h3 _ _ (N.LR (aC ?_))))))
 show AH (.ref l) (.int (if decide (i>j)=true then 1 else 0)) _ Q
 unfold h_ at k
 by_cases hx:i>j
 ·rw[decide_eq_true hx]
  rw[if_pos hx] at k
  refine⟨l,1,[.ref t],rfl,rfl,aw,by decide,by decide,Nat.le_of_ble_eq_true rfl,fun p fp=> ?_⟩
  exact k p _ [.ref t] ((s1.trans s2).trans (sameNew fp)) aw (.cons ⟨t,rfl,(s2.trans (sameNew fp)) _ _ aw⟩ .nil)
 ·rw[decide_eq_false hx]
  rw[if_neg hx] at k
  refine⟨l,0,[.ref t],rfl,rfl,aw,by decide,by decide,Nat.le_of_ble_eq_true rfl,fun p fp=> ?_⟩
  exact k p _ [] ((s1.trans s2).trans (sameNew fp)) aw .nil
theorem MQ{z i j:Int}(h:i>j→1≤z):(∀p∈h_ z i j,gf p)∧chainOk "" (h_ z i j)=true∧chainOk "put" (h_ z i j)=true∧(h_ z i j).length≤1:=by
 unfold h_
 by_cases c:i>j
 ·rw[if_pos c]
  exact⟨(fun p hp=>by rw[List.mem_singleton.mp hp];exact h c),(by show(gM "keep" "" && true)=true;decide+kernel),(by show(gM "keep" "put" && true)=true;decide+kernel),Nat.le_refl _⟩
 ·rw[if_neg c]
  exact⟨(fun p hp=>by cases hp),rfl,rfl,Nat.zero_le _⟩
end
theorem ko.same{v:V}{H H':Hp}{ps:List Pt}(h:ko v H ps)(s:au H H'):ko v H' ps:=by
 obtain⟨a,xs,e,ha,hp,h1,h2,h3⟩:=h
 exact⟨a,xs,e,s _ _ ha,hp.mono (cJ s),h1,h2,h3⟩
theorem MR{H:Hp}{v:V}{c:Cu}(n:Nat)(h:hZ H v c):oa v n H∧(n<en c→gZ v n H):=by
 obtain⟨t,rfl,ht⟩:=h
 by_cases z1:c.1≤n
 ·by_cases z2:c.2.1≤n
  ·refine⟨.inl ⟨c,⟨t,rfl,ht⟩,z1,z2⟩,fun z=> ?_⟩
   unfold en at z;omega
  ·have o:gZ (.ref t) n H:= .inr ⟨t,_,rfl,ht, .inr ⟨_,_,_,rfl, .inr ⟨_,rfl,by omega,by omega, .inl (.inr ⟨_,rfl, .inr (by omega)⟩)⟩⟩⟩
   exact⟨.inr o,fun _=>o⟩
 ·have o:gZ (.ref t) n H:= .inr ⟨t,_,rfl,ht, .inr ⟨_,_,_,rfl, .inl (.inr ⟨_,rfl, .inr (by omega)⟩)⟩⟩
  exact⟨.inr o,fun _=>o⟩
theorem acs{H:Hp}{l:Addr}{xs:List V}{cs:List Cu}{n:Nat}(hl:H l=some (.lst xs))(hc:bq H xs cs){d:Cu}(hd:d∈cs)(he:n<en d):gp (.ref l) n H:=by
 obtain⟨i,hi⟩:=List.getElem?_of_mem hd
 obtain⟨v,hv,Eb⟩:=vq hc hi
 have bV:=(List.getElem?_eq_some_iff.mp hv).1
 have e:xs=xs.take i++v::xs.drop (i+1):=by
  conv=>lhs;rw[←List.take_append_drop i xs,List.drop_eq_getElem_cons bV]
  rw[Option.some.inj ((List.getElem?_eq_getElem bV).symm.trans hv)]
 rw[e] at hl
 refine MG hl (fun x hx=> ?_) ((MR n Eb).2 he)
 have dr:x∈xs:=by
  rcases List.mem_append.mp hx with hx | hx
  ·exact List.mem_of_mem_take hx
  ·exact List.mem_of_mem_drop hx
 obtain⟨j,hj⟩:=List.getElem?_of_mem dr
 obtain⟨c,_,lO⟩:=gj hc hj
 exact(MR n lO).1
structure kz (H:Hp) (l:Addr) (n:Nat) (xs:List V) (cs:List Cu):Prop where
 hl:H l=some (.lst xs)
 hc:bq H xs cs
 n_:ku cs
 kx: ∀c∈cs,c.1≤n∧c.2.1≤n
 one:1≤cs.length
 fK:cs.length≤40
theorem kz.same{H H':Hp}{l:Addr}{n:Nat}{xs:List V}{cs:List Cu}(A:kz H l n xs cs)(s:au H H'):kz H' l n xs cs:=⟨s _ _ A.hl,A.hc.same s,A.n_,A.kx,A.one,A.fK⟩
section
variable {K:Frag} {CC CE:Addr} {E:XK} {H0:Hp} {l:Addr} {n k:Nat} {c:Int} {wv gv o:V} {xs:List V} {cs:List Cu}
abbrev GR(K:Frag)(CC CE:Addr)(E:XK):aO:=aM K [("_law_told",pQ CC CE)] [] (E:=E)
abbrev sR(n:Nat)(l:Addr)(c:Int)(wv gv:V)(k:Nat)(o:V)(u7 u8:Option V):St:=[some (.int (n:Nat)),some (.ref l),some (.int c),some wv,some gv,some (.int (k:Nat)),some o,u7,u8]
theorem MS{Γ:aO}{σ:St}{e:RE}{P:List V→Hp→Prop}(h:og Γ σ H0 e P)(hb: ∀w zs H',au H0 H'→H' w=some (.lst zs)→P zs H'→gp (.ref w) n H'):si Γ σ n H0 e:=fun H1 Q s q=>h H1 Q s fun w zs H' s' hw p=>q (.ref w) H' s' (hb w zs H' (s.trans s') hw p)
theorem acu(A:kz H0 l n xs cs)(ho:gZ o n H0)(hk:k<cs.length):si (GR K CC CE E) (sR n l c wv gv k o none none) n H0 (.bin .Add (.bin .Add (.sl (.v 1) none (some (.v 5))) (.lst [(.v 6)])) (.sl (.v 1) (some (.bin .Add (.v 5) (.c (.int 1)))) none)):=by
 have lx:xs.length=cs.length:=Paired.length A.hc
 have fK:=A.fK
 have lo:og (GR K CC CE E) (sR n l c wv gv k o none none) H0 (.lst [(.v 6)]) fun zs _=>zs=[o]:=fun H1 Q s q=>cR (aj (ai rfl (aC ⟨(by show 1≤sizeLine;decide),fun w fw=>q w _ _ (sameNew fw) aw rfl⟩)))
 refine MS (Ei (Ei (ab9 (i:=1) (hi:= .v 5) (j:=k) rfl A.hl (sf rfl)) lo vR vR (fun zs H e=>by rw[e,List.length_take];omega) (fun zs H e=>by rw[e];show 1≤1000;decide)) (ab_ (i:=1) (j:=k+1) rfl A.hl (MF (i:=(k:Nat)) (j:=1) (sf rfl) jJ)) (fun zs H H' h s=>h) vR (fun zs H ⟨x,y,e,e1,e2⟩=>by rw[e,e1,e2,List.length_append,List.length_take];show _+1≤1000;omega) (fun zs H e=>by rw[e,List.length_drop];omega)) ?_
 rintro w zs H' s hw ⟨x,y,rfl,⟨x1,y1,rfl,rfl,rfl⟩,rfl⟩
 rw[List.append_assoc] at hw
 have A1:=A.same s
 refine MG hw (fun z hz=>acb A1.hc A1.kx ?_) (ho.same s)
 rcases List.mem_append.mp hz with hz | hz
 ·exact List.mem_of_mem_take hz
 ·exact List.mem_of_mem_drop hz
theorem acv{Γ:aO}{σ:St}:si Γ σ n H0 (.lst []):=fun H1 Q s q=>cR (aC ⟨Nat.zero_le _,fun w fw=>q _ _ (sameNew fw) (.inr ⟨w,[],rfl,aw, .inl rfl⟩)⟩)
theorem acw{Γ:aO}{σ:St}(e:σ[1]?=some (some (.ref l)))(A:kz H0 l n xs cs):si Γ σ n H0 (.blt .tuple [(.v 1)]):=fun H1 Q s q=>
 gP (aj (ai e (aC ⟨xs, .inl ⟨aq.of (s _ _ A.hl),fun w fw=>q _ _ (sameNew fw) (.inl (rG aw rfl))⟩⟩)))
theorem acx{Γ:aO}{σ:St}(e:σ[1]?=some (some (.ref l)))(A:kz H0 l n xs cs):si Γ σ n H0 (.bin .Add (.v 1) (.v 1)):=by
 have lx:xs.length=cs.length:=Paired.length A.hc
 have fK:=A.fK
 have one:=A.one
 refine MS (Ei (MH e A.hl) (MH e A.hl) vR vR (fun zs H e=>by rw[e];omega) (fun zs H e=>by rw[e];omega)) ?_
 rintro w zs H' s hw ⟨x,y,rfl,rfl,rfl⟩
 have A1:=A.same s
 have i0:cs.length - 1<cs.length:=by omega
 refine ab4 (i:=cs.length - 1) (c:=cs[cs.length - 1]) (d:=cs[0]) hw (MJ A1.hc A1.hc) (fun c hc=> ?_) ?_ ?_ ?_
 ·rcases List.mem_append.mp hc with hc | hc
  ·exact A.kx c hc
  ·exact A.kx c hc
 ·rw[List.getElem?_append_left i0,List.getElem?_eq_getElem i0]
 ·rw[List.getElem?_append_right (by omega),show cs.length - 1+1 - cs.length=0 by omega,List.getElem?_eq_getElem]
 ·by_cases z:cs.length=1
  ·have:cs[cs.length - 1]=cs[0]:=by congr 1;omega
   rw[this];exact ab5 _
  ·exact ab6 (List.pairwise_iff_getElem.mp A.n_.rise _ _ (by omega) i0 (by omega))
theorem le_max{ms:List Int}{cs:List Cu}(e:ms=cs.map fun c=> ((en c:Nat):Int)){x:Int}(h1:x∈ms)(h2: ∀y∈ms,y≤x): ∃m:Nat,x=m∧(∃c∈cs,en c=m)∧ ∀c∈cs,en c≤m:=by
 subst e
 obtain⟨c,hc,rfl⟩:=List.mem_map.mp h1
 refine⟨en c,rfl,⟨c,hc,rfl⟩,fun d hd=> ?_⟩
 have:=h2 _ (List.mem_map.mpr ⟨d,hd,rfl⟩)
 omega
def vW:Sp:=fun vs H Q E=> ∃(n:Nat) (l:Addr) (c:Int) (xs:List V) (cs:List Cu),vs=[.int n, .ref l, .int c]∧0≤c∧kz H l n xs cs∧ ∀H',au H H'→Q (.bl true) H'
theorem acy{Q:VK}{H:Hp}{u7:Option V}(A:kz H l n xs cs)(q: ∀H',au H H'→Q (.bl true) H'):aB (GR K CC CE E) (dR.drop 6) (Dn Q) (sR n l c wv gv k o u7 none) H:=by
 have lx:xs.length=cs.length:=Paired.length A.hc
 have fK:=A.fK
 have one:=A.one
 refine b_ (gP (aj (pJ (ai rfl ⟨l,rfl,⟨_,aq.of A.hl⟩, ?_⟩))))
 refine pA A.hl (by omega) (fun i ys _=>ys=((cs.take i).map fun c=> ((en c:Nat):Int)).map V.int) rfl ?_ ?_
 ·intro i x ys H2 hx s2 e Q' kk
  obtain⟨d,hd,t,rfl,ht⟩:=gj A.hc hx
  have gL:H2 t=some (.tup [.int (d.1:Nat), .int (d.2.1:Nat),gV d.2.2]):=s2 _ _ ht
  refine Ml (aj (ze (ai rfl (aA ⟨2,rfl, .inr ⟨_,aL.of gL,D4,fun c2 f2=>aC ⟨c2,[(d.1:Int),(d.2.1:Int)],rfl,aL.of aw,by simp,fun mx vH pL=>kk _ _ (sameNew f2) ?_⟩⟩⟩))))
  have e2:mx=((en d:Nat):Int):=by
   have a1:=pL (d.1:Int) (by simp)
   have a2:=pL (d.2.1:Int) (by simp)
   simp only[List.mem_cons,List.not_mem_nil,or_false] at vH
   unfold en
   omega
  rw[e2,e,mw hd,List.map_append,List.map_append];rfl
 ·intro ys H2 p2 s2 e f2
  rw[lx,List.take_of_length_le (Nat.le_refl _)] at e
  subst e
  have s3:=sameNew (o:= .lst ((cs.map fun c=> ((en c:Nat):Int)).map V.int)) f2
  refine aC ⟨_,aq.of aw, ?_,fun mx vH pL=> ?_⟩
  ·intro z
   have:=congrArg List.length z
   rw[List.length_map] at this
   have:cs.length=0:=this
   omega
  obtain⟨last,rfl,⟨dm,hdm,edm⟩,r6⟩:=le_max rfl vH pL
  have dN:=s2.trans s3
  generalize upd H2 p2 (.lst ((cs.map fun c=> ((en c:Nat):Int)).map V.int))=H3 at dN s3⊢
  refine dc (nU (eN (ai rfl (aA (km ⟨_,rfl, ?_⟩)))))
  by_cases z:((last:Nat):Int)=0
  ·exact iT (q _ dN) (decide_eq_true z)
  ·refine iF ?_ (decide_eq_false z)
   refine eN (ba (pQ CC CE) rfl (aj (MP (z:=(last:Nat) - 1) (i:=(last:Nat)) (j:=1) (fun H Q q=>bZ (ai rfl (aA ⟨trivial,q⟩))) (sf rfl) jJ fun b H4 ys s4 hb pv=>aj (ai rfl (aC ⟨_,_,rfl, .inr ⟨h_ ((last:Nat) - 1) (last:Nat) 1, ?_, ?_,fun H5 s5=>aA (aaY ?_)⟩⟩)))))
   ·obtain⟨k1,k2,_,k3⟩:=MQ (z:=(last:Nat) - 1) (i:=(last:Nat)) (j:=1) (fun h=>by omega)
    exact⟨b,ys,rfl,hb,pv,k1,k2,by omega⟩
   ·have A4:=A.same (dN.trans s4)
    refine acs A4.hl A4.hc hdm ?_
    rw[edm]
    unfold h_
    by_cases z1:((last:Nat):Int) >1
    ·rw[if_pos z1];show(((last:Nat):Int) - 1).toNat+0<last;omega
    ·rw[if_neg z1];show 0<last;omega
   ·rw[show((Str.ofString "cursor")==(Str.ofString "cursor"))=true by decide+kernel]
    exact q _ ((dN.trans s4).trans s5)
theorem acB(vs:List V)(H:Hp)(Q:VK)(E:XK)(hh:vW vs H Q E):aB (GR K CC CE E) dR (Dn Q) (start js vs) H:=by
 obtain⟨n,l,c,xs,cs,rfl,hc0,A,q⟩:=hh
 have lx:xs.length=cs.length:=Paired.length A.hc
 have one:=A.one
 refine b_ (a_ (cR (MN (P:=iX) (fun v H H' h s=>h.same s) _ ?_ H _ fun zl H1 s1 l1 o1=> ⟨cM (by rw[l1];show 5≤1000000;decide),fun a1 f1=> ?_⟩)))
 ·intro e he
  simp only[List.mem_cons,List.not_mem_nil,or_false] at he
  rcases he with rfl | rfl | rfl | rfl | rfl
  ·exact MO fun H=> .inl rfl
  ·exact MO fun H=> .inl rfl
  ·exact acp
  ·exact acq rfl
  ·exact acr
 obtain⟨wv,hw,i7⟩:=L2.N.pick (its:=zl) (j:=c % 5) (Int.emod_nonneg _ (by decide)) (by rw[l1];exact Int.emod_lt_of_pos _ (by decide))
 refine bZ (ai rfl (aA ⟨(by show(0:Int) <5;decide),dW aw i7 ?_⟩))
 have sa:=s1.trans (sameNew (o:= .lst zl) f1)
 have MT:iX wv (upd H1 a1 (.lst zl)):=(o1 wv hw).same (sameNew f1)
 generalize upd H1 a1 (.lst zl)=H2 at sa MT⊢
 refine b_ (bZ (cR (aj (dJ (aj (aA (aj (aA (aC ⟨(by show 2≤sizeLine;decide),fun t ft=>aC ⟨(by show 1≤sizeLine;decide),fun g1 fg1=> ?_⟩⟩)))))))))
 have s3:=sameNew (o:= .tup [V.str "put",V.str "abc"]) ft
 have s4:=sameNew (o:= .lst [V.ref t]) fg1
 have ht:=s4 _ _ (aw (H:=H2) (a:=t) (o:= .tup [V.str "put",V.str "abc"]))
 have MU:upd (upd H2 t (.tup [V.str "put",V.str "abc"])) g1 (.lst [V.ref t]) g1=some (.lst [V.ref t]):=aw
 have Em:=s3.trans s4
 generalize upd (upd H2 t (.tup [V.str "put",V.str "abc"])) g1 (.lst [V.ref t])=H4 at Em ht MU⊢
 refine MP (z:=(n:Nat)) (i:=(n:Nat)) (j:=0) (sf rfl) (sf rfl) jJ fun b H5 ys s5 hb pv=> ?_
 obtain⟨k1,k2,k3,k4⟩:=MQ (z:=(n:Nat)) (i:=(n:Nat)) (j:=0) (fun h=>by omega)
 have ly:=Paired.length pv
 refine .inl ⟨g1,b,[.ref t],ys,rfl,rfl,s5 _ _ MU,hb,cM (by show 1+ys.length≤1000000;omega),fun g2 fg2=> ?_⟩
 have s6:=sameNew (o:= .lst ([V.ref t]++ys)) fg2
 have MV:ko (.ref g2) (upd H5 g2 (.lst ([V.ref t]++ys))) (.put "abc"::h_ (n:Nat) (n:Nat) 0):=by
  refine⟨g2,_,rfl,aw, .cons ⟨t,rfl,(s5.trans s6) _ _ ht⟩ (pv.mono (cJ s6)),(fun p hp=> ?_), ?_,by rw[List.length_cons];omega⟩
  ·rcases List.mem_cons.mp hp with rfl | hp
   ·exact⟨gl (by decide+kernel) (by decide+kernel),by decide⟩
   ·exact k1 p hp
  ·show(gM "put" "" && chainOk "put" (h_ (n:Nat) (n:Nat) 0))=true
   rw[k3];decide+kernel
 have ov:bx (.put "abc"::h_ (n:Nat) (n:Nat) 0)=n:=by
  show bx (h_ (n:Nat) (n:Nat) 0)=n
  unfold h_
  by_cases z:((n:Nat):Int) >0
  ·rw[if_pos z];show((n:Nat):Int).toNat+0=n;omega
  ·rw[if_neg z];show 0=n;omega
 have sb:=sa.trans ((Em.trans s5).trans s6)
 have MW:=MT.same ((Em.trans s5).trans s6)
 generalize upd H5 g2 (.lst ([V.ref t]++ys))=H6 at sb MV MW⊢
 have A6:=A.same sb
 have MZ:(0:Int) < (xs.length:Nat):=by omega
 refine b_ (bZ (bZ (ai rfl (aA ⟨⟨by decide,by decide⟩,gh (ai rfl (.inl ⟨_,aq.of A6.hl,⟨MZ, ?_⟩⟩))⟩))))
 have p0:=Int.emod_nonneg (c / 5) (show((xs.length:Nat):Int)≠0 by omega)
 have p1:=Int.emod_lt_of_pos (c / 5) MZ
 obtain⟨k,ek⟩: ∃k:Nat,c / 5 % ((xs.length:Nat):Int)=k:=⟨(c / 5 % ((xs.length:Nat):Int)).toNat,by omega⟩
 have hk:k<cs.length:=by omega
 show aB _ (dR.drop 3) _ [some (.int n),some (.ref l),some (.int c),some wv,some (.ref g2),some (.int (c / 5 % ((xs.length:Nat):Int))),none,none,none] H6
 rw[ek]
 refine b_ (a_ (cR (ME (n:=n) _ ?_ H6 _ fun zm H7 s7 l7 o7=> ⟨cM (by rw[l7];show 6≤1000000;decide),fun a7 f7=> ?_⟩)))
 ·intro e he
  simp only[List.mem_cons,List.not_mem_nil,or_false] at he
  rcases he with rfl | rfl | rfl | rfl | rfl | rfl
  ·exact Eh jJ (MF (sf rfl) jJ) jJ fun H=> .inr ⟨0,rfl,by omega,by omega, .inl (.inr ⟨_,rfl, .inr (by omega)⟩)⟩
  ·exact ab1 fun H=>rfl
  ·exact ab2
  ·exact ab3
  ·exact Eh jJ ab0 jJ fun H=> .inr ⟨0,rfl,by omega,by omega, .inl (.inr ⟨_,rfl, .inl (by decide)⟩)⟩
  ·exact Eh jJ jJ jJ fun H=> .inr ⟨0,rfl,by omega,by omega, .inl (.inl (.inl ⟨_,rfl⟩))⟩
 obtain⟨o,ho,Ec⟩:=L2.N.pick (its:=zm) (j:=c / 5 % 6) (Int.emod_nonneg _ (by decide)) (by rw[l7];exact Int.emod_lt_of_pos _ (by decide))
 refine bZ (bZ (ai rfl (aA ⟨⟨by decide,by decide⟩,aA ⟨(by show(0:Int) <6;decide),dW aw Ec ?_⟩⟩)))
 have s8:=s7.trans (sameNew (o:= .lst zm) f7)
 have odd:gZ o n (upd H7 a7 (.lst zm)):=(o7 o ho).same (sameNew f7)
 have sc:=sb.trans s8
 have M0:=MW.same s8
 have M1:=ko.same MV s8
 generalize upd H7 a7 (.lst zm)=H8 at s8 odd sc M0 M1⊢
 have A8:=A.same sc
 refine b_ (a_ (cR (MI (n:=n) (H0:=H8) _ ?_ H8 _ (au.refl _) fun zo H9 s9 l9 o9=> ⟨cM (by rw[l9];show 4≤1000000;decide),fun a9 f9=> ?_⟩)))
 ·intro e he
  simp only[List.mem_cons,List.not_mem_nil,or_false] at he
  rcases he with rfl | rfl | rfl | rfl
  ·exact acu A8 odd hk
  ·exact acv
  ·exact acw rfl A8
  ·exact acx rfl A8
 obtain⟨bv,hbv,acF⟩:=L2.N.pick (its:=zo) (j:=c / 30 % 4) (Int.emod_nonneg _ (by decide)) (by rw[l9];exact Int.emod_lt_of_pos _ (by decide))
 refine bZ (bZ (ai rfl (aA ⟨⟨by decide,by decide⟩,aA ⟨(by show(0:Int) <4;decide),dW aw acF ?_⟩⟩)))
 have jm:=s9.trans (sameNew (o:= .lst zo) f9)
 have bad:gp bv n (upd H9 a9 (.lst zo)):=gp.same (o9 bv hbv) (sameNew f9)
 have sd:=sc.trans jm
 have M3:=M0.same jm
 have M4:=ko.same M1 jm
 generalize upd H9 a9 (.lst zo)=Bx at jm bad sd M3 M4⊢
 refine df (mh (e7 (ba (pQ CC CE) rfl (aj (ai rfl (aj (ai rfl (aC ⟨_,_,rfl, .inl ⟨M3,fun H11 En=>aA (LD ⟨_,rfl,iF ?_ (by decide+kernel)⟩)⟩⟩))))))))
 refine e7 (ba (pQ CC CE) rfl (aj (ai rfl (aj (ai rfl (aC ⟨_,_,rfl, .inr ⟨_,ko.same M4 En,by rw[ov];exact gp.same bad En,fun H12 e_=>aA (LD ⟨_,rfl,iF (eO ?_) (by decide+kernel)⟩)⟩⟩))))))
 have se:=sd.trans (En.trans e_)
 exact acy (A.same se) fun H' s'=>q _ (se.trans s')
end
end L2.lU
namespace L2.B
open PySem PySem.Spec PyProof.Rows
def zp:Sp:=fun vs H Q E=> ∃(c:Int) (x:Str) (m:Int),vs=[.int c, .str x, .int m]∧good x∧x.length≤10000∧0≤m∧m≤100∧
 ∀b H' ys ps q,au H H'→H b=none→H' b=some (.lst ys)→bR H' ys ps→(∀p∈ps,gO p)→ps.length≤101→aU ps≤40*m.toNat→Run x.cps.toList ps q→Q (.ref b) H'
theorem acG{K:Frag}(vs:List V)(H:Hp)(Q:VK)(E:XK)(h:zp vs H Q E):aB (aM K ZX [] (E:=E)) BZ {nx:=fun _ H'=>Q .aD H',rt:=Q} (start BY vs) H:=by
 obtain⟨c,x,m,rfl,hx,yQ,M5,vx,k⟩:=h
 refine⟨Nat.zero_le _,fun b hb=> ?_⟩
 refine⟨_,rfl,m,rfl,by omega,by omega,wB (lo:=0) (n:=m.toNat) (fun i σ H2=> ∃u v w z ys ps l1 l2 q,σ=[some (.int c),some (.str x),some (.int m),some (.ref b),some (.int ((l1.length:Nat):Int)),u,v,w,z]∧au H H2∧H2 b=some (.lst ys)∧bR H2 ys ps∧ps.length=i∧(∀p∈ps,gO p)∧
   aU ps≤40*i∧x.cps.toList=l1++l2∧Run l1 ps q)
  ⟨none,none,none,none,[],[],[],x.cps.toList,[],rfl,sameNew hb,aw, .nil,rfl,(fun p hp=>by cases hp),Nat.le_refl _,rfl, .nil⟩ ?_ ?_⟩
 ·rintro i σ H2 hi ⟨u,v,w,z,ys,ps,l1,l2,q,rfl,s2,vX,dE,hl,aE,ht,ex,mm⟩
  have hlen:=Paired.length dE
  have hxx:x.length=l1.length+l2.length:=by rw[len_list,ex];simp
  refine⟨_,rfl,_,rfl,c,_,rfl, ?_⟩
  generalize mixed c (50+ (0+ (i:Int)))=nm
  refine⟨(by show 6≤sizeLine;decide),fun t1 me=> ?_⟩
  have j0:0≤nm / 4 % 6:=Int.emod_nonneg _ (by decide)
  have j1:nm / 4 % 6<6:=Int.emod_lt_of_pos _ (by decide)
  obtain⟨n5,e5,n50,n51⟩:=ZW (nm / 4 % 6) j0 j1
  refine⟨_,rfl,⟨by decide,by decide⟩,(by show(0:Int) <6;decide), .inl ⟨_,_,_,_,rfl,rfl,aq.of aw,e5, ?_⟩⟩
  have s3:au H (upd H2 t1 (.lst [.int 1, .int 2, .int 0, .int 3, .int 5, .int 40])):=s2.trans (sameNew me)
  have pR:upd H2 t1 (.lst [.int 1, .int 2, .int 0, .int 3, .int 5, .int 40]) b=some (.lst ys):=by rw[aG (bD vX me)];exact vX
  have zq:=dE.mono (cJ (sameNew (o:= .lst [.int 1, .int 2, .int 0, .int 3, .int 5, .int 40]) me))
  generalize upd H2 t1 (.lst [.int 1, .int 2, .int 0, .int 3, .int 5, .int 40])=H3 at s3 pR zq
  refine⟨_,rfl,_,rfl,cM (by omega),_,rfl,trivial, ?_⟩
  obtain⟨lf,M6⟩: ∃lf,lf=(if (x.length:Int) - (l1.length:Int) <n5 then (x.length:Int) - (l1.length:Int) else n5):=⟨_,rfl⟩
  have lf0:0≤lf∧lf≤40∧lf≤ (l2.length:Int):=by
   rw[M6];split<;>omega
  show aB _ _ _ [some (V.int c),some (V.str x),some (V.int m),some (V.ref b),some (V.int ((l1.length:Nat):Int)),some (V.int (0+ (i:Int))),some (V.int nm),some (V.int n5),some (V.int (if (x.length:Int) - (l1.length:Int) <n5 then (x.length:Int) - (l1.length:Int) else n5))] H3
  rw[←M6]
  obtain⟨la,lb,e2,Eo⟩: ∃la lb,l2=la++lb∧lf=(la.length:Int):=⟨l2.take lf.toNat,l2.drop lf.toNat,(List.take_append_drop _ _).symm,by rw[List.length_take];omega⟩
  have app: ∀(p:Pt) (H4:Hp),au H H4→H4 b=some (.lst ys)→bR H4 ys ps→ ∀t,H4 t=none→
    upd H4 t (.tup [.str p.word,p.val]) b=some (.lst ys)∧ys.length<sizeLine∧
     au H (upd (upd H4 t (.tup [.str p.word,p.val])) b (.lst (ys++ [.ref t])))∧bR (upd (upd H4 t (.tup [.str p.word,p.val])) b (.lst (ys++ [.ref t]))) (ys++ [.ref t]) (ps++ [p]):=by
   intro p H4 s4 Ep acK t ht
   have zr:b≠t:=bD Ep ht
   refine⟨(by rw[aG zr];exact Ep),dD (by omega),Kr s4 hb (sameBut (sameNew ht) bf.upd), ?_⟩
   refine bR.snoc (acK.mono ((sameBut (sameNew ht) bf.upd).eR Ep)) ⟨t,rfl, ?_⟩
   rw[aG zr.symm,aw]
  have M7: ∀p,gO p→ ∀q∈ps++ [p],gO q:=by
   intro p hp q hq
   rcases List.mem_append.mp hq with z | z
   ·exact aE q z
   ·rw[List.mem_singleton.mp z];exact hp
  have sgl: ∀c∈la,SG.cps.contains c=true:=fun c hc=>hx.2 c (by rw[ex,e2];simp[hc])
  refine⟨_,rfl,(by show(0:Int) <4;decide),_,rfl, ?_⟩
  refine ie (fun h=> ?_) (fun h=> ?_)
  ·have h3:nm % 4=3:=by
    have:=of_decide_eq_true (show decide (V.int (nm % 4)=V.int 3)=true from by rw[←Bool.false_xor (decide _)];exact h)
    injection this
   refine⟨_,rfl, .inl ⟨rfl,_,aq.of pR⟩,_,rfl,_,rfl,nm,n5,rfl,n50,by omega,fun y H5 gy ly s5=> ⟨(by show 2≤sizeLine;decide),fun t gi=> ?_⟩⟩
   obtain⟨a1,a2,a3,a4⟩:=app (.put y) H5 (s3.trans s5) (s5 _ _ pR) (zq.mono (cJ s5)) t gi
   refine⟨ys,a1,a2, ?_⟩
   refine⟨_,rfl,(by show(0:Int) <4;decide),trivial,_,rfl,iF ?_ (decide_eq_false (by omega))⟩
   have hr:=mm.app (Run.put (s:=y) Run.nil)
   rw[List.append_nil,List.append_nil] at hr
   refine⟨_,_,_,_,ys++ [V.ref t],ps++ [Pt.put y],l1,l2,_,rfl,a3,aw,a4,by simp[hl],M7 _ ⟨gy,by omega⟩, ?_,ex,hr⟩
   rw[Dm]
   show aU ps+ (y.length+0)≤_
   omega
  ·have h3:nm % 4≠3:=fun z=>h (by show(false ^^ decide (V.int (nm % 4)=V.int 3))=true;rw[z];rfl)
   have h4:nm % 4<3:=by have:=Int.emod_lt_of_pos nm (show(0:Int) <4 by decide);omega
   have fin: ∀(p:Pt) (H5:Hp) (fX:List V) (q':List Nat),au H H5→H5 b=some (.lst fX)→bR H5 fX (ps++ [p])→gO p→dU p≤40→Run (l1++la) (ps++ [p]) q'→
     ∃u v w z ys ps jz l2 q,[some (V.int c),some (V.str x),some (V.int m),some (V.ref b),some (V.int ((l1.length:Int)+lf)),some (V.int (0+ (i:Int))),some (V.int nm),some (V.int n5),some (V.int lf)]=
      [some (.int c),some (.str x),some (.int m),some (.ref b),some (.int ((jz.length:Nat):Int)),u,v,w,z]∧au H H5∧H5 b=some (.lst ys)∧bR H5 ys ps∧ps.length=i+1∧(∀p∈ps,gO p)∧
      aU ps≤40* (i+1)∧x.cps.toList=jz++l2∧Run jz ps q:=by
    intro p H5 fX q' s5 h5 hp5 rp tp hr
    refine⟨some (.int (0+ (i:Int))),some (.int nm),some (.int n5),some (.int lf),fX,ps++ [p],l1++la,lb,q', ?_,s5,h5,hp5,by simp[hl],M7 p rp, ?_,by rw[ex,e2];simp,hr⟩
    ·rw[List.length_append,Eo,Int.natCast_add]
    ·rw[Dm]
     have:aU [p]=dU p:=by simp[aU]
     omega
   refine⟨_,rfl,(by show(0:Int) <4;decide),_,rfl, ?_⟩
   refine ie (fun h5=> ?_) (fun h5=> ?_)
   ·refine⟨_,rfl, .inl ⟨rfl,_,aq.of pR⟩,_,rfl,_,rfl,_,rfl,_,rfl,_,rfl,_,rfl,cM (by omega), ?_⟩
    rw[ZV (by rw[ex,e2]) lf Eo]
    refine⟨(by show 2≤sizeLine;decide),fun t gi=> ?_⟩
    obtain⟨a1,a2,a3,a4⟩:=app (.cut ⟨la.toArray⟩) H3 s3 pR zq t gi
    refine⟨ys,a1,a2, ?_⟩
    refine⟨_,rfl,(by show(0:Int) <4;decide),trivial,_,rfl,iT ?_ (decide_eq_true h4)⟩
    refine⟨_,rfl,_,rfl, ?_⟩
    have hr:=mm.app (Run.cut (s:=⟨la.toArray⟩) Run.nil)
    rw[List.append_nil] at hr
    have ll:(⟨la.toArray⟩:Str).length=la.length:=by rw[len_list]
    exact fin (.cut ⟨la.toArray⟩) _ _ _ a3 aw a4 ⟨⟨by rw[ll];omega,sgl⟩,by rw[ll];omega⟩ (by show(⟨la.toArray⟩:Str).length≤40;rw[ll];omega) hr
   ·refine⟨_,rfl, .inl ⟨rfl,_,aq.of pR⟩,_,rfl,(by show 2≤sizeLine;decide),fun t gi=> ?_⟩
    obtain⟨a1,a2,a3,a4⟩:=app (.keep lf) H3 s3 pR zq t gi
    refine⟨ys,a1,a2, ?_⟩
    refine⟨_,rfl,(by show(0:Int) <4;decide),trivial,_,rfl,iT ?_ (decide_eq_true h4)⟩
    refine⟨_,rfl,_,rfl, ?_⟩
    have hr:=mm.app (Run.keep (a:=la) Eo Run.nil)
    rw[List.append_nil] at hr
    exact fin (.keep lf) _ _ _ a3 aw a4 lf0.1 (by show 0≤40;decide) hr
 ·rintro σ H2 ⟨u,v,w,z,ys,ps,l1,l2,q,rfl,s2,vX,dE,hl,aE,ht,ex,mm⟩
  have hlen:=Paired.length dE
  have hxx:x.length=l1.length+l2.length:=by rw[len_list,ex];simp
  refine⟨_,rfl,_,rfl,cM (by omega),_,rfl,trivial,(by show 2≤sizeLine;decide),fun t gi=> ⟨(by show 1≤sizeLine;decide),fun d hd=> ?_⟩⟩
  have zr:b≠t:=bD vX gi
  have rO:upd H2 t (.tup [.str "keep", .int ((x.length:Int) - (l1.length:Int))]) b=some (.lst ys):=by rw[aG zr];exact vX
  have BD:b≠d:=bD rO hd
  have M8:t≠d:=fun z=>by rw[←z,aw] at hd;cases hd
  have s4:au H2 (upd (upd H2 t (.tup [.str "keep", .int ((x.length:Int) - (l1.length:Int))])) d (.lst [.ref t])):=(sameNew gi).trans (sameNew hd)
  refine .inl ⟨b,d,ys,[.ref t],rfl,rfl,(by rw[aG BD];exact rO),aw,cM (by simp;omega),fun e he=> ?_⟩
  have s5:=s4.trans (sameNew (o:= .lst (ys++ [.ref t])) he)
  have he2:H2 e=none:=s4.free he
  have hr:=mm.app (Run.keep (a:=l2) (n:=(x.length:Int) - (l1.length:Int)) (by omega) Run.nil)
  rw[List.append_nil,←ex] at hr
  have hte:t≠e:=fun z=>by rw[←z,aG M8,aw] at he;cases he
  refine k e _ (ys++ [.ref t]) (ps++ [.keep ((x.length:Int) - (l1.length:Int))]) _ (s2.trans s5) (s2.free he2) aw (bR.snoc (dE.mono (cJ s5)) ⟨t,rfl, ?_⟩) ?_ (by simp;omega) ?_ hr
  ·rw[aG hte,aG M8,aw];rfl
  ·intro p hp
   rcases List.mem_append.mp hp with z | z
   ·exact aE p z
   ·rw[List.mem_singleton.mp z]
    show(0:Int)≤_
    omega
  ·rw[Dm]
   show aU ps+ (0+0)≤40*m.toNat
   omega
abbrev acP:List (Str×Sp):=[("_law_neat",yy),("_law_parts",zp)]
def vY:Sp:=fun vs H Q E=> ∃(c:Int) (x:Str) (m:Int),vs=[.int c, .str x, .int m]∧good x∧x.length≤10000∧0≤m∧m≤100∧
 ∀b H' ys ps q,au H H'→H b=none→H' b=some (.lst ys)→bR H' ys ps→(∀p∈ps,gf p)→chainOk "" ps=true→ps.length≤305→aU ps≤40*m.toNat→Run x.cps.toList ps q→Q (.ref b) H'
theorem acQ{K:Frag}(vs:List V)(H:Hp)(Q:VK)(E:XK)(h:vY vs H Q E):aB (aM K acP [] (E:=E)) Ca {nx:=fun _ H'=>Q .aD H',rt:=Q} (start oZ vs) H:=by
 obtain⟨c,x,m,rfl,hx,yQ,M5,vx,k⟩:=h
 refine⟨_,rfl,_,rfl,_,rfl,c,x,m,rfl,hx,yQ,M5,vx,fun b H1 ys ps q s1 fb h1 hp hr hl ht mm=> ?_⟩
 refine⟨b,ys,ps,rfl,h1,hp,by omega,by omega,fun d H2 zs s2 fd h2 hz=> ?_⟩
 obtain⟨g1,g2,_⟩:=ZJ ps hr (by omega)
 have jS:=ZK ps
 rw[ZE ps hr] at jS
 exact k d H2 zs (kg ps) q (s1.trans s2) (s1.free fd) h2 hz g2 g1 (by omega) (by rw[ZY ps hr];exact ht) (ZT mm)
end L2.B
namespace L2.N
open PySem PySem.Spec L2.B
structure jb (H:Hp) (r:Addr) (z:List V) (cs:List Cu):Prop where
 h:H r=some (.lst z)
 c:bq H z cs
theorem jb.same{H H':Hp}{r:Addr}{z:List V}{cs:List Cu}(T:jb H r z cs)(s:au H H'):jb H' r z cs:=⟨s _ _ T.h,T.c.same s⟩
theorem jb.but{H H':Hp}{r a:Addr}{z y:List V}{cs:List Cu}(T:jb H r z cs)(n:r≠a)(ha:H a=some (.lst y))(b:bf a H H'):jb H' r z cs:=⟨b _ _ T.h n,Ef T.c ha b⟩
def jK(L:Addr)(H:Hp)(v:V):Prop:= ∃(t a b:Addr) (xs ys:List V) (cs:List Cu),v= .ref t∧H t=some (.tup [.ref a, .ref b])∧a≠L∧b≠L∧jb H a xs cs∧jb H b ys cs
theorem jK.same{L:Addr}{H H':Hp}{v:V}(h:jK L H v)(s:au H H'):jK L H' v:=by
 obtain⟨t,a,b,xs,ys,cs,e,ht,na,nb,A,B⟩:=h
 exact⟨t,a,b,xs,ys,cs,e,s _ _ ht,na,nb,A.same s,B.same s⟩
theorem jK.but{L:Addr}{H H':Hp}{v:V}{hs:List V}(h:jK L H v)(hL:H L=some (.lst hs))(b:bf L H H'):jK L H' v:=by
 obtain⟨t,a,c,xs,ys,cs,e,ht,na,nb,A,B⟩:=h
 exact⟨t,a,c,xs,ys,cs,e,b _ _ ht (fun z=>by rw[z,hL] at ht;cases ht),na,nb,A.but na hL b,B.but nb hL b⟩
theorem M9{a:Addr}{H0 H H':Hp}(s:au H0 H)(f:H0 a=none)(b:bf a H H'):au H0 H':=fun c o e=>b c o (s _ _ e) (bD e f)
theorem acR{a:Addr}{H0 H H':Hp}(s:au H0 H)(b:bf a H H'):bf a H0 H':=fun c o e n=>b c o (s _ _ e) n
theorem pS{H:Hp}{a b:Addr}{o:HO}(h:H a=some o)(f:H b=none):b≠a:=fun z=>by rw[z,h] at f;cases f
theorem acS{Γ:aO}{Q:VK}{H:Hp}{σ:St}{j:Nat}{L:Addr}{hs:List V}(h0:σ[j]?=some (some (.ref L)))(hL:H L=some (.lst hs))(hh: ∀y∈hs,jK L H y)(k: ∀r H',H' r=some (.lst [])→Q (.ref r) H'):
  ah Γ (.comp (some 2) [] .list [(.v j)] (some (.cmp .NotEq (.v 0) (.v 1))) (.v 0)) σ H Q:=by
 refine⟨_,h0,L,rfl,⟨_,aq.of hL⟩,fun i m ys H2=>m=hs.length - i∧i≤hs.length∧ys=[]∧H2=H,⟨_,rfl,Nat.zero_le _,rfl,rfl⟩, ?_⟩
 rintro i m ys H2 ⟨rfl,hi,rfl,rfl⟩
 by_cases aQ:i<hs.length
 ·refine .inr ⟨⟨hs,hs[i],aq.of hL,by simp[aQ]⟩, ?_⟩
  rintro y H3 ⟨rfl,hx⟩
  have hy:=hx hs (aq.of hL)
  obtain⟨t,a,b,xs,zs,cs,rfl,ht,na,nb,A,B⟩:=hh y (List.mem_of_getElem? hy)
  refine⟨t,_,rfl,aL.of ht,rfl, ?_⟩
  refine e7 (ai rfl (ai rfl (MC A.h B.h A.c B.c ⟨_,rfl, ?_⟩)))
  exact⟨hs.length - (i+1),by omega,rfl,aQ,rfl,rfl⟩
 ·have eM:i=hs.length:=by omega
  subst eM
  exact .inl ⟨⟨hs,aq.of hL,Nat.le_refl _⟩,fun q hq=>k q _ aw⟩
def cN(R:List bj):List Nat:=R.map (·.2.2)
theorem pT(R:List bj):(cN R).length=R.length:=by unfold cN;rw[List.length_map]
theorem zt(aH:Key): ∀(l:List Nat) (m:Nat),cN (d_ aH m l)=l
 | [],_=>rfl
 | c::l,m=>by
  show c::cN (d_ aH (m+1) l)=_
  rw[zt aH l (m+1)]
theorem acT(R:List bj)(k:Nat):cN (R.take k)=(cN R).take k:=by unfold cN;rw[List.map_take]
theorem M_(R:List bj)(k:Nat):cN (R.drop k)=(cN R).drop k:=by unfold cN;rw[List.map_drop]
theorem Er(A B:List bj):cN (A++B)=cN A++cN B:=by unfold cN;rw[List.map_append]
theorem Na{l r:List Nat}{ps:List Pt}(h:Run l ps r)(aH:Key): ∀(rows:List bj) (m:Nat),cN rows=l→cN (bJ aH rows m (cj ps))=r:=by
 induction h with
 | nil=>
  intro rows m hl
  have:rows=[]:=List.eq_nil_of_length_eq_zero (by rw[←pT,hl];rfl)
  subst this;rfl
 | @keep a l r k ps e _ ih=>
  intro rows m hl
  have ek:uW (.keep k)=rK k.toNat:=rfl
  have ea:k.toNat=a.length:=by omega
  have vS:rows.length=a.length+l.length:=by rw[←pT,hl,List.length_append]
  have iz:(rows.take a.length).length=a.length:=by rw[List.length_take];omega
  have hg:=vb aH (rows.drop a.length) m (cj ps) (rows.take a.length)
  rw[iz,List.take_append_drop] at hg
  rw[kh,ek,ea,hg,Er,acT,hl,List.take_left]
  rw[ih (rows.drop a.length) m (by rw[M_,hl,List.drop_left])]
 | @put s l r ps _ ih=>
  intro rows m hl
  rw[kh]
  show cN (bJ aH rows m (s.cps.toList.map At.P++cj ps))=_
  rw[va,Er,zt,ih rows _ hl]
 | @cut s l r ps _ ih=>
  intro rows m hl
  have vS:rows.length=s.cps.toList.length+l.length:=by rw[←pT,hl,List.length_append]
  have iz:(rows.take s.cps.toList.length).length=s.cps.toList.length:=by rw[List.length_take];omega
  have hg:=vd aH (rows.drop s.cps.toList.length) m (cj ps) (rows.take s.cps.toList.length) s.cps.toList iz
  rw[List.take_append_drop] at hg
  rw[kh]
  show cN (bJ aH rows m (s.cps.toList.map At.C++cj ps))=_
  rw[hg,ih (rows.drop s.cps.toList.length) m (by rw[M_,hl,List.drop_left])]
theorem acU{l r:List Nat}{ps:List Pt}(h:Run l ps r):bx ps=l.length:=by
 induction h with
 | nil=>rfl
 | @keep a l r k ps e _ ih=>show k.toNat+bx ps=_;rw[ih,List.length_append];omega
 | put _ ih=>exact ih
 | @cut s l r ps _ ih=>show s.length+bx ps=_;rw[ih,List.length_append,len_list]
theorem Nb{l r:List Nat}{ps:List Pt}(h:Run l ps r)(p:Nat):dv 0 (cQ (bp ps 0 0)) p≤r.length:=by
 have e:=Na h (.inl 0) (d_ (.inr "old") 0 l) 0 (zt _ _ _)
 obtain⟨k1,_⟩:=LI h (.inl 0) (d_ (.inr "old") 0 l) 0 0 0 (by rw[mj])
 refine Lf (Nat.zero_le _) fun x hx=> ?_
 obtain⟨c1,c2,c3,c4⟩:=k1 x.1 x.2 hx
 rw[Nat.sub_zero,Nat.sub_zero] at c4
 rw[Nat.sub_zero] at c3
 rw[List.getElem?_eq_getElem c3] at c4
 have:=(List.getElem?_eq_some_iff.mp c4).1
 rw[←pT,e] at this
 exact this
theorem Nc(l:List Nat):cat (l.map fun c=> (⟨#[c]⟩:Str))=⟨l.toArray⟩:=by
 refine l_ ?_
 rw[o_]
 show _=l
 rw[List.map_map]
 induction l with
 | nil=>rfl
 | cons c l ih=>rw[List.map_cons,List.flatten_cons,ih];rfl
theorem acV(l:List Nat):sz (l.map fun c=> (⟨#[c]⟩:Str))=l.length:=by
 have e:=C6 (l.map fun c=> (⟨#[c]⟩:Str))
 rw[←e,Nc,len_list]
theorem acW{Γ:aO}{σ:St}{H1:Hp}{Q:VK}{p:Addr}{xs:List V}{R:List bj}{i:Nat}(e:σ[i]?=some (some (.ref p)))(hp:H1 p=some (.lst xs))(hR:de H1 xs R)(hl:R.length≤100000)(q: ∀H',au H1 H'→Q (.str ⟨(cN R).toArray⟩) H'):
  ah Γ (.bC .join (.c (.str "")) [(.comp none [] .list [(.v i)] none (.ix (.v 0) (.c (.int 1))))]) σ H1 Q:=by
 have lx:=Paired.length hR
 refine jG (aA ⟨rfl,pJ (ai e ⟨p,rfl,⟨_,aq.of hp⟩, ?_⟩)⟩)
 refine pA hp (by omega) (fun i ys H2=>H2=H1∧ys=((cN (R.take i)).map fun c=> (⟨#[c]⟩:Str)).map V.str) ⟨rfl,rfl⟩ ?_ ?_
 ·rintro i x ys H2 hx s2 ⟨rfl,rfl⟩ Q' hq
  obtain⟨r,hr,t,n,rfl,ht,_⟩:=hR.get hx
  refine a_ (ai rfl (aA (ck ht rfl (hq _ _ (au.refl _) ⟨rfl, ?_⟩))))
  have e:R.take (i+1)=R.take i++ [r]:=by rw[List.take_add_one,hr];rfl
  rw[e,Er,List.map_append,List.map_append];rfl
 ·rintro ys H2 r s2 ⟨rfl,rfl⟩ hr
  rw[lx,List.take_length]
  refine⟨(cN R).map fun c=> (⟨#[c]⟩:Str),aq.of aw,joinOk_of (by rw[acV,pT];omega), ?_⟩
  have e:Txt.join "" ((cN R).map fun c=> (⟨#[c]⟩:Str))=⟨(cN R).toArray⟩:=Nc (cN R)
  rw[e]
  exact q _ (sameNew hr)
theorem acX{ps:List Pt}(h: ∀p∈ps,pe p)(cs:List Cu):SeqAt.shaped (.list [.list (ps.map toD), .list (cs.map cD)])=true:=by
 obtain⟨c,d⟩:=K0 ps h
 obtain⟨c2,d2⟩:=Ed cs
 unfold SeqAt.shaped
 have e:(PyData.list [.list (ps.map toD), .list (cs.map cD)]).canLay0=true:=by
  show(PyData.canLayAll0 (ps.map toD) && (PyData.canLayAll0 (cs.map cD) && true))=true
  rw[c,c2];rfl
 have e2:(PyData.list [.list (ps.map toD), .list (cs.map cD)]).depth≤64:=by
  show max (PyData.depthAll (ps.map toD)+1) (max (PyData.depthAll (cs.map cD)+1) 0)+1≤64
  omega
 rw[e,decide_eq_true e2];rfl
theorem acY{K:Frag}{H:Hp}{Q:VK}{u v a b a' b':Addr}{ya yb za zb:List V}{ps:List Pt}{cs:List Cu}(ho: ∀p∈ps,pe p)(hu:H u=some (.lst [.ref a, .ref b]))(hv:H v=some (.lst [.ref a', .ref b']))(ha:H a=some (.lst ya))(ha':H a'=some (.lst za))(hb:H b=some (.lst yb))(mZ:H b'=some (.lst zb))
  (pa:bR H ya ps) (pa':bR H za ps) (cb:bq H yb cs) (cb':bq H zb cs) (q:Q (.bl false) H):cz K .NotEq (.ref u) (.ref v) H Q:=by
 have sh:=acX ho cs
 refine⟨.list [.list (ps.map toD), .list (cs.map cD)], .list [.list (ps.map toD), .list (cs.map cD)],⟨u,_,rfl,hu,⟨_,_,rfl,⟨a,ya,rfl,ha,Dj pa⟩,⟨_,_,rfl,⟨b,yb,rfl,hb,pN cb⟩,rfl⟩⟩⟩,⟨v,_,rfl,hv,⟨_,_,rfl,⟨a',za,rfl,ha',Dj pa'⟩,⟨_,_,rfl,⟨b',zb,rfl,mZ,pN cb'⟩,rfl⟩⟩⟩,sh,sh, ?_⟩
 rw[SeqAt.eqv_refl _ (SeqAt.canLay_of_shaped sh)];exact q
end L2.N
namespace L2.lU
open PySem PySem.Spec L2.B L2.N
section
variable {K:Frag} {E:XK} {Q:VK} {H:Hp}
abbrev GL(K:Frag)(E:XK):aO:=aM K [("_law_text",pb),("_law_cell_at",ke K),("_law_size",uU),("_law_named",vf),("_law_settled",h9),("_law_drawn",vT K),("_law_change",vY),("_law_mixed",gd),("_law_gone",vg),("_law_places",vU),("carried",pO),("_law_alike",vO),("_law_refused",vW)] [] (E:=E)
structure pU (K:Frag) (H0 H:Hp) (a h l T:Addr) (ns:List Int) (i:Nat) (rv xs hs:List V) (rows:List bj) (cs:List Cu):Prop where
 h0:aq K H0 a (ns.map V.int)
 s0:au H0 H
 f0:H0 T=none
 nl:l≠T
 nh:h≠T
 hh:H h=some (.lst rv)
 hr:de H rv rows
 nd:(rows.map nm).Nodup
 wh: ∀row∈rows,row.1= .inr "old"∨ ∃j:Int,row.1= .inl j∧j<10+ (i:Nat)
 sg: ∀c∈cN rows,SG.cps.contains c=true
 ln:rows.length≤400+320*i
 cu:kz H l rows.length xs cs
 hT:H T=some (.lst hs)
 lT:hs.length=i
 hd: ∀y∈hs,jK T H y
theorem pU.ha{H0:Hp}{a h l T:Addr}{ns:List Int}{i:Nat}{rv xs hs:List V}{rows:List bj}{cs:List Cu}(A:pU K H0 H a h l T ns i rv xs hs rows cs):aq K H a (ns.map V.int):=A.s0.seq A.h0
theorem Es{a:Addr}{ns:List Int}{k:Nat}{σ:St}{Q':VK}(ha:aq K H a (ns.map V.int))(e0:σ[0]?=some (some (.ref a)))(e5:σ[5]?=some (some (.int (k:Nat))))(hk:k<ns.length)(q:Q' (.int ns[k]) H):ah (GL K E) (.ix (.v 0) (.v 5)) σ H Q':=
 a_ (ai e0 (ai e5 (.inl ⟨a,_,_,_,rfl,rfl,ha,gB (by rw[List.getElem?_map,List.getElem?_eq_getElem hk];rfl),q⟩)))
def Et:List RS:=[.asg 6 (.call 6 [(.ix (.v 0) (.v 5)),(.bC .join (.c (.str "")) [(.comp none [] .list [(.v 2)] none (.ix (.v 0) (.c (.int 1))))]),(.bin .Mod (.call 7 [(.ix (.v 0) (.v 5)),(.c (.int 3))]) (.c (.int 9)))]),
  .asg 7 (.call 8 [(.v 2),(.v 6),(.v 5)]),
  .asg 8 (.call 9 [(.v 2),(.v 7)]),
  .asg 9 (.call 4 [(.comp none [("_law_places_here",8)] .list [(.v 3)] none (.tup [(.ix (.v 1) (.ix (.v 0) (.c (.int 0)))),(.ix (.v 1) (.ix (.v 0) (.c (.int 1)))),(.c .aD)]))]),
  .asg 10 (.lst [(.blt .list [(.v 6)]),(.blt .list [(.v 3)])]),
  .asg 11 (.call 10 [(.ix (.v 10) (.c (.int 0))),(.ix (.v 10) (.c (.int 1)))]),
  .ite (.or [(.not (.call 11 [(.v 11),(.v 9)])),(.cmp .NotEq (.v 10) (.lst [(.v 6),(.v 3)]))]) [.ret (.c (.bl false))] [],
  .drop (.bC .append (.v 4) [(.tup [(.v 11),(.blt .list [(.v 11)])])]),
  .asg 12 (.call 10 [(.ix (.v 10) (.c (.int 0))),(.ix (.v 10) (.c (.int 1)))]),
  .ite (.cmp .NotEq (.v 12) (.v 9)) [.ret (.c (.bl false))] [],
  .drop (.bC .append (.v 12) [(.tup [(.c (.int 0)),(.c (.int 0)),(.c .aD)])]),
  .ite (.not (.call 12 [(.blt .len [(.v 2)]),(.v 3),(.call 7 [(.ix (.v 0) (.v 5)),(.c (.int 6))])])) [.ret (.c (.bl false))] [],
  .asg 2 (.v 7),
  .asg 3 (.v 9)]
abbrev sL(a:Addr)(u1:Option V)(h l T:Addr)(k:Nat)(u6 u7 u8 u9 eP vZ v5:Option V):St:=[some (.ref a),u1,some (.ref h),some (.ref l),some (.ref T),some (.int (k:Nat)),u6,u7,u8,u9,eP,vZ,v5]
theorem ac2{D:Ends}{a h l T:Addr}{ns:List Int}{i:Nat}{rv xs hs:List V}{rows:List bj}{cs:List Cu}{u1 u6 u7 u8 u9 eP vZ v5:Option V}{H0:Hp}(A:pU K H0 H a h l T ns i rv xs hs rows cs)(hi:i<8)(hk:10+i<ns.length)
  (k: ∀(h' l':Addr) (y6 y7 y8 y9 kr so sq:Option V) (oh g8 jq:List V) (Eu:List bj) (Ew:List Cu) (H':Hp),bf T H H'→pU K H0 H' a h' l' T ns (i+1) oh g8 jq Eu Ew→D.nx (sL a u1 h' l' T (10+i) y6 y7 y8 y9 kr so sq) H'):
  aB (GL K E) Et D (sL a u1 h l T (10+i) u6 u7 u8 u9 eP vZ v5) H:=by
 have ln:=A.ln
 have hr:=A.hr
 have lr:(cN rows).length=rows.length:=pT rows
 have lxs:(⟨(cN rows).toArray⟩:Str).length=rows.length:=by rw[len_list];exact lr
 have gx:good ⟨(cN rows).toArray⟩:=⟨by omega,fun c hc=>A.sg c hc⟩
 have fK:=A.cu.fK
 refine b_ (ba vY rfl (aj (Es A.ha rfl rfl hk (aj (acW rfl A.hh A.hr (by omega) fun H1 s1=> ?_)))))
 have m9:=Int.emod_nonneg (mixed ns[10+i] 3) (show(9:Int)≠0 by decide)
 have l9:=Int.emod_lt_of_pos (mixed ns[10+i] 3) (show(0:Int) <9 by decide)
 refine aj (bZ (ba gd rfl (aj (Es (s1.seq A.ha) rfl rfl hk (aj (aA (aC ⟨_,_,rfl,aA ⟨(by show(0:Int) <9;decide),aC ⟨_,_,_,rfl,gx,by omega,m9,by omega,fun b H2 ys ps r s2 fb hb pv ok ch lp tp run=> ?_⟩⟩⟩)))))))
 have e_:=s1.trans s2
 have nK:(cN rows).length=rows.length:=lr
 have run':Run (cN rows) ps r:=run
 have tp':aU ps≤320:=by
  have:(mixed ns[10+i] 3 % 9).toNat≤8:=by omega
  omega
 refine b_ (ba vg rfl (aj (ai rfl (aj (ai rfl (aj (ai rfl (aC ⟨h,b, .inl ((10+i:Nat):Int),rv,ys,rows,ps,cN rows,r,rfl,e_ _ _ A.hh,hr.mono (cJ e_),hb,pv,ok,run',nK,by omega,by omega,fun h' H3 oh s3 fh' xp yB=> ?_⟩))))))))
 have Ex:=e_.trans s3
 have hw: ∀row∈rows,row.1≠ .inl ((10+i:Nat):Int):=by
  intro row jw z
  rcases A.wh row jw with e | ⟨j,e,hj⟩
  ·rw[e] at z;cases z
  ·rw[e] at z
   injection z with z
   omega
 have Nd:=Na run' (.inl ((10+i:Nat):Int)) rows 0 rfl
 have lL:(bJ (.inl ((10+i:Nat):Int)) rows 0 (cj ps)).length=r.length:=by rw[←pT,Nd]
 have rl:=run'.len
 refine b_ (ba vU rfl (aj (ai rfl (aj (ai rfl (aC ⟨h,h',rv,oh,rows,_,ps,cN rows,r,rfl,Ex _ _ A.hh,hr.mono (cJ Ex),xp,yB,run',nK,ok,A.nd,hw,by omega,by omega,fun d H4 s4 fd j2=> ?_⟩))))))
 have fg:=Ex.trans s4
 have C4:=A.cu.same fg
 have lc:xs.length=cs.length:=Paired.length C4.hc
 refine b_ (ba h9 rfl (aj (pJ (ai rfl ⟨l,rfl,⟨_,aq.of C4.hl⟩, ?_⟩))))
 refine pA C4.hl (by omega) (fun i ys H2=>bq H2 ys ((cs.take i).map (ja ps))) .nil ?_ ?_
 ·intro j y zs H5 hy s5 e Q' kk
  obtain⟨c,hc,tc,rfl,ht⟩:=gj C4.hc hy
  have n6:H5 tc=some (.tup [.int (c.1:Nat), .int (c.2.1:Nat),gV c.2.2]):=s5 _ _ ht
  have Nf:=s5 _ _ j2
  have cW:=A.cu.kx c (List.mem_of_getElem? hc)
  have pl: ∀p:Nat,p≤rows.length→dj ((List.range (rows.length+1)).map fun p=>V.int (pP ps p:Nat)) ((p:Nat):Int)=some (V.int (pP ps p:Nat)):=fun p hp=>gB (by rw[List.getElem?_map,List.getElem?_range (by omega)];rfl)
  refine dJ (aj (a_ (ai rfl (a_ (ai rfl (aA (ck n6 rfl (dW Nf (pl c.1 cW.1) ?_))))))))
  refine aj (a_ (ai rfl (a_ (ai rfl (aA (ck n6 rfl (dW Nf (pl c.2.1 cW.2) ?_)))))))
  refine aj (aA (aC ⟨(by show 3≤sizeLine;decide),fun t ft=>kk _ _ (sameNew ft) ?_⟩))
  rw[mw hc,List.map_append]
  exact iB (bq.same e (sameNew ft)) ⟨t,rfl,aw⟩
 intro zs H5 p5 s5 e f5
 rw[lc,List.take_of_length_le (Nat.le_refl _)] at e
 have s6:=sameNew (o:= .lst zs) f5
 refine aC ⟨p5,zs,cs.map (ja ps),rfl,aw,bq.same e s6,by rw[List.length_map];omega,fun us l' zd H7 S1 s7 g_ fW cn=> ?_⟩
 have v7:=(s5.trans s6).trans s7
 have sr:=fg.trans v7
 have fl4:H4 l'=none:=(s5.trans s6).free g_
 have TD:jb H7 l' zd (settle (cs.map (ja ps)) us):=⟨fW,cn⟩
 have Ng:=(s3.trans (s4.trans v7)) _ _ hb
 have Nh:=pv.mono (cJ (s3.trans (s4.trans v7)))
 have C7:=A.cu.same sr
 have ly:=Paired.length pv
 have ov:bx ps=rows.length:=by rw[acU run',lr]
 have Ni: ∀p∈ps,pe p:=fun p hp=>aa9 (ok p hp)
 refine b_ (cR (aj (gP (aj (ai rfl (aC ⟨ys, .inl (aq.of Ng),fun c1 Nj=> ?_⟩))))))
 have s8:=sameNew (o:= .lst ys) Nj
 have Nk:upd H7 c1 (.lst ys) c1=some (.lst ys):=aw
 generalize upd H7 c1 (.lst ys)=H8 at s8 Nk⊢
 refine aj (gP (aj (ai rfl (aC ⟨xs, .inl (aq.of (s8 _ _ C7.hl)),fun c2 Nl=> ?_⟩))))
 have s9:=sameNew (o:= .lst xs) Nl
 have sY:upd H8 c2 (.lst xs) c2=some (.lst xs):=aw
 have Nm:=s9 _ _ Nk
 generalize upd H8 c2 (.lst xs)=H9 at s9 sY Nm⊢
 refine aC ⟨(by show 2≤sizeLine;decide),fun hn Nn=> ?_⟩
 have jm:=sameNew (o:= .lst [V.ref c1,V.ref c2]) Nn
 have v8:upd H9 hn (.lst [V.ref c1,V.ref c2]) hn=some (.lst [V.ref c1,V.ref c2]):=aw
 have zu:=jm _ _ Nm
 have zv:=jm _ _ sY
 have v9:=(s8.trans s9).trans jm
 generalize upd H9 hn (.lst [V.ref c1,V.ref c2])=HA at jm v8 zu zv v9⊢
 have Np:=sr.trans v9
 have CA:=A.cu.same Np
 have Ey:=Nh.mono (cJ v9)
 have Nq: ∀{H1:Hp} {Q1:VK},H1 c1=some (.lst ys)→bR H1 ys ps→H1 c2=some (.lst xs)→bq H1 xs cs→(∀r z H',au H1 H'→H1 r=none→jb H' r z (settle (cs.map (ja ps)) us)→Q1 (.ref r) H')→pO [.ref c1, .ref c2] H1 Q1 E:=fun {H1 Q1} e1 e2 e3 e4 kk=>
  ⟨.ref c1,ps,c2,xs,cs,rfl,⟨c1,ys,rfl,e1,e2,ok,ch,by omega⟩,e3,e4,CA.one,CA.fK,(by rw[ov];exact CA.kx),CA.n_.apart,fun us' r z H' S' s' f h c=>kk r z H' s' f (by rw[S'.eq S1] at c;exact⟨h,c⟩)⟩
 refine b_ (ba pO rfl (aj (a_ (ai rfl (aA (dW v8 (i:=0) rfl (aj (a_ (ai rfl (aA (dW v8 (i:=1) rfl (aC (Nq zu Ey zv CA.hc fun r1 z1 HB sB fB T1=> ?_)))))))))))))
 have Nr:=TD.same (v9.trans sB)
 refine df (mh (eE (pq vO rfl (aj (ai rfl (aj (ai rfl (aC ⟨r1,l',z1,zd,_,rfl,T1.h,Nr.h,T1.c,Nr.c,fun HC sC=>iW (iF ?_ rfl)⟩))))))))
 refine e7 (ai rfl (cR (aj (ai rfl (aj (ai rfl (aC ⟨(by show 2≤sizeLine;decide),fun n2 fn2=> ?_⟩)))))))
 have sD:=sameNew (o:= .lst [V.ref b,V.ref l]) fn2
 have mR:upd HC n2 (.lst [V.ref b,V.ref l]) n2=some (.lst [V.ref b,V.ref l]):=aw
 generalize upd HC n2 (.lst [V.ref b,V.ref l])=HD at sD mR⊢
 have pV:=(sB.trans sC).trans sD
 have sv:=v9.trans pV
 have CD:=CA.same pV
 refine acY Ni (pV _ _ v8) mR (pV _ _ zu) (sv _ _ Ng) (pV _ _ zv) CD.hl (Ey.mono (cJ pV)) (Nh.mono (cJ sv)) CD.hc CD.hc ⟨_,rfl,iF (eO ?_) rfl⟩
 have Ez:=T1.same (sC.trans sD)
 have Nt:=sr.trans sv
 have EA:=Nt _ _ A.hT
 have lT:=A.lT
 refine hU (jG (ai rfl ⟨.inl ⟨rfl,_,aq.of EA⟩,dJ (aj (ai rfl (aj (gP (aj (ai rfl (aC ⟨z1, .inl (aq.of Ez.h),fun cp Nu=>aC ⟨(by show 2≤sizeLine;decide),fun t3 Nv=> ?_⟩⟩)))))))⟩))
 have sE:=sameNew (o:= .lst z1) Nu
 have Nw:jb (upd HD cp (.lst z1)) cp z1 (settle (cs.map (ja ps)) us):=⟨aw,Ez.c.same sE⟩
 have ncp:cp≠T:=pS EA Nu
 generalize upd HD cp (.lst z1)=HE at sE Nw Nv⊢
 have sF:=sameNew (o:= .tup [V.ref r1,V.ref cp]) Nv
 have fI:upd HE t3 (.tup [V.ref r1,V.ref cp]) t3=some (.tup [V.ref r1,V.ref cp]):=aw
 generalize upd HE t3 (.tup [V.ref r1,V.ref cp])=HF at sF fI⊢
 have pW:=sE.trans sF
 have nr1:r1≠T:=pS (Np _ _ A.hT) fB
 have d3:jK T HF (.ref t3):=⟨t3,r1,cp,z1,z1,_,rfl,fI,nr1,ncp,Ez.same pW,Nw.same sF⟩
 have sx:=pW _ _ EA
 refine⟨hs,sx,dD (by omega), ?_⟩
 have bT:bf T HF (upd HF T (.lst (hs++ [V.ref t3]))):=bf.upd
 have Nx:upd HF T (.lst (hs++ [V.ref t3])) T=some (.lst (hs++ [V.ref t3])):=aw
 generalize upd HF T (.lst (hs++ [V.ref t3]))=HG at bT Nx⊢
 have zw:=Nt.trans pW
 have bG:bf T H HG:=acR zw bT
 have sy:=pV.trans pW
 have nT: ∀{x:Addr} {o:HO},HF x=some o→x≠T→HG x=some o:=fun e n=>bT _ _ e n
 have c1T:c1≠T:=pS (sr _ _ A.hT) Nj
 have c2T:c2≠T:=pS (s8 _ _ (sr _ _ A.hT)) Nl
 have hnT:hn≠T:=pS ((s8.trans s9) _ _ (sr _ _ A.hT)) Nn
 have Ny:l'≠T:=pS (fg _ _ A.hT) fl4
 have Nz:h'≠T:=pS (e_ _ _ A.hT) fh'
 have NA:lX HF HG:=fun x ys e=>bT _ _ e (fun z=>by rw[z,sx] at e;cases e)
 have ada:=nT (sy _ _ zu) c1T
 have adb:=nT (sy _ _ zv) c2T
 have NB:=nT (sy _ _ v8) hnT
 have pvG:bR HG ys ps:=(Ey.mono (cJ sy)).mono NA
 have cG:bq HG xs cs:=Ef (CA.same sy).hc sx bT
 have NC:jb HG l' zd (settle (cs.map (ja ps)) us):=(TD.same (sv.trans pW)).but Ny sx bT
 have d3G:jK T HG (.ref t3):=d3.but sx bT
 have adg: ∀y∈hs,jK T HG y:=fun y hy=> ((A.hd y hy).same zw).but sx bT
 have rvG:de HG oh (bJ (.inl ((10+i:Nat):Int)) rows 0 (cj ps)):=(yB.mono (cJ ((s4.trans (v7.trans sv)).trans pW))).mono NA
 have hhG:HG h'=some (.lst oh):=nT ((s4.trans (v7.trans sv)).trans pW _ _ xp) Nz
 have CG:kz HG l rows.length xs cs:=⟨nT (CA.same sy).hl A.nl,cG,A.cu.n_,A.cu.kx,A.cu.one,A.cu.fK⟩
 have adj:HG h=some (.lst rv):=nT (zw _ _ A.hh) A.nh
 have ND:au H0 HG:=M9 (A.s0.trans zw) A.f0 bT
 have lrv:rv.length=rows.length:=Paired.length A.hr
 refine b_ (ba pO rfl (aj (a_ (ai rfl (aA (dW NB (i:=0) rfl (aj (a_ (ai rfl (aA (dW NB (i:=1) rfl (aC (Nq ada pvG adb cG fun r2 z2 HH sH fH T2=> ?_)))))))))))))
 have NF:=NC.same sH
 refine df (e7 (ai rfl (ai rfl (MC T2.h NF.h T2.c NF.c ⟨_,rfl,iF (eO ?_) rfl⟩))))
 refine hU (jG (ai rfl ⟨.inl ⟨rfl,_,aq.of T2.h⟩,dJ (aj (aA (aj (aA (aj (aA (aC ⟨(by show 3≤sizeLine;decide),fun t4 ft4=> ?_⟩)))))))⟩))
 have sI:=sameNew (o:= .tup [V.int 0,V.int 0,V.aD]) ft4
 have NG:=sI _ _ T2.h
 have lz2:z2.length=_:=Paired.length T2.c
 have TS:=Mw (n:=r.length) S1 (fun c hc=>by
  obtain⟨d,hd,rfl⟩:=List.mem_map.mp hc
  exact⟨Nb run' _,Nb run' _⟩)
 have lS:=TS.len
 rw[List.length_map] at lS
 refine⟨z2,NG,dD (by omega), ?_⟩
 have NH:=sH.trans sI
 generalize upd HH t4 (.tup [V.int 0,V.int 0,V.aD])=HI at sI NG NH⊢
 have b2:bf r2 HI (upd HI r2 (.lst (z2++ [.ref t4]))):=bf.upd
 have v_:=M9 NH fH b2
 generalize upd HI r2 (.lst (z2++ [.ref t4]))=HJ at b2 v_⊢
 refine df (eE (pq vW rfl (aj (gh (ai rfl (.inl ⟨rv,aq.of (v_ _ _ adj),aj (ai rfl (aj (ba gd rfl (aj (Es ((ND.trans v_).seq A.h0) rfl rfl hk (aj (aA (aC ⟨_,_,rfl,aC ⟨rows.length,l,_,xs,cs,by rw[lrv],(C2 _ _).1,CG.same v_,fun HK sK=>iW (iF (eO ?_) rfl)⟩⟩))))))))⟩))))))
 have oi:=v_.trans sK
 have one:1≤ (settle (cs.map (ja ps)) us).length:=List.length_pos_iff.mpr (TS.ne (fun z=>by
  have e:=congrArg List.length z
  rw[List.length_map] at e
  have o1:=A.cu.one
  exact absurd e (by show ¬cs.length=0;omega)))
 refine b_ (ai rfl (b_ (ai rfl ?_)))
 obtain⟨nd1,nd2⟩:=DD run' (.inl ((10+i:Nat):Int)) rows 0 nK A.nd hw
 refine k h' l' _ _ _ _ _ _ _ oh zd (hs++ [.ref t3]) (bJ (.inl ((10+i:Nat):Int)) rows 0 (cj ps)) (settle (cs.map (ja ps)) us) HK (fun c o e n=>oi _ _ (bG c o e n)) ⟨A.h0,ND.trans oi,A.f0,Ny,Nz,oi _ _ hhG,rvG.mono (cJ oi),nd1, ?_, ?_,by rw[lL];omega, ?_,oi _ _ Nx,by rw[List.length_append,lT];rfl, ?_⟩
 ·intro row jw
  rcases nd2 row jw with jw | jw
  ·rcases A.wh row jw with e | ⟨j,e,hj⟩
   ·exact .inl e
   ·exact .inr ⟨j,e,by omega⟩
  ·exact .inr ⟨_,jw.1,by omega⟩
 ·rw[Nd];exact run'.good A.sg Ni
 ·have TK:=NC.same oi
  exact⟨TK.h,TK.c,TS.n_,(by rw[lL];exact TS.kx),one,by omega⟩
 ·intro y hy
  rcases List.mem_append.mp hy with hy | hy
  ·exact(adg y hy).same oi
  ·rw[List.mem_singleton.mp hy];exact d3G.same oi
end
theorem ado{Γ:aO}{D:Ends}{σ:St}{H:Hp}{r:List RS}{body:List RS}{i:Nat}{a b:RE}(h:ah Γ a σ H fun x H1=>ah Γ b σ H1 fun y H2=> ∃p q:Int,[x,y]=[.int p, .int q]∧(-(2 ^ 62)≤p∧p<2 ^ 62∧ -(2 ^ 62)≤q∧q<2 ^ 62)∧ ∃W:Nat→Nat→St→Hp→Prop,(∃m,W 0 m σ H2)∧ ∀j m σ H,W j m σ H→
  ((fP p (q - p).toNat).stop j H∧({D with nx:=aB Γ r D}:Ends).nx σ H)∨((fP p (q - p).toNat).go j H∧ ∃N:St→Hp→Prop,(∀σ' H',N σ' H'→ ∃m',m'<m∧W (j+1) m' σ' H')∧ ∀x H',(fP p (q - p).toNat).fo j H x H'→c_ i x σ H' fun σ2 H2=>aB Γ body {({D with nx:=aB Γ r D}:Ends) with nx:=N,ct:=N,bk:=({D with nx:=aB Γ r D}:Ends).nx} σ2 H2)):
  aB Γ (.lE i .xh [a,b] body::r) D σ H:=h
section
variable {K:Frag} {E:XK} {Q:VK} {H:Hp}
def zx(K:Frag):Sp:=fun vs H Q E=> ∃(a:Addr) (ns:List Int),vs=[.ref a]∧aq K H a (ns.map V.int)∧ ∀H',Q (.bl true) H'
theorem adp{H0:Hp}{a h l T:Addr}{ns:List Int}{i:Nat}{rv xs hs:List V}{rows:List bj}{cs:List Cu}{u1 u5 u6 u7 u8 u9 eP vZ v5:Option V}(A:pU K H0 H a h l T ns i rv xs hs rows cs)(q: ∀H',Q (.bl true) H'):
  aB (GL K E) (fE.drop 5) (Dn Q) [some (.ref a),u1,some (.ref h),some (.ref l),some (.ref T),u5,u6,u7,u8,u9,eP,vZ,v5] H:=by
 have fK:=A.cu.fK
 refine dc (i4 (eN (ai rfl (ba h9 rfl (aj (ai rfl (aC ⟨l,xs,cs,rfl,A.cu.hl,A.cu.hc,by omega,fun us r z H1 S s1 f h1 c1=> ?_⟩)))))))
 rw[abP A.cu.n_ S] at c1
 refine MD (s1 _ _ A.cu.hl) h1 (A.cu.hc.same s1) c1 ⟨_,rfl,iT ?_ rfl⟩
 refine rZ (eN (acS rfl (s1 _ _ A.hT) (fun y hy=> (A.hd y hy).same s1) fun r8 H8 h8=> ?_))
 refine cR (aC ⟨Nat.zero_le _,fun e9 f9=> ?_⟩)
 exact MD (sameNew f9 _ _ h8) aw .nil .nil (q _)
theorem adq(vs:List V)(H:Hp)(Q:VK)(E:XK)(hh:zx K vs H Q E):aB (GL K E) fE (Dn Q) (start lW vs) H:=by
 obtain⟨a,ns,rfl,ha,q⟩:=hh
 refine b_ (ba pb rfl (aj (ba (ke K) rfl (aj (ai rfl (aj (aA (aC ⟨a,ns,_,rfl,ha,by decide, ?_⟩))))))))
 refine aj (ba uU rfl (aj (ba (ke K) rfl (aj (ai rfl (aj (aA (aC ⟨a,ns,_,rfl,ha,by decide,aC ⟨_,rfl,fun n0 n1 n2=>aC ⟨_,_,rfl,n1,by omega,fun x H1 gx lx s1=> ?_⟩⟩⟩))))))))
 have ll:=len_list x
 refine b_ (ba vf rfl (aj (ai rfl (aC ⟨x,rfl,by omega,fun h H2 rv s2 fh hh hr=> ?_⟩))))
 have e_:=s1.trans s2
 refine b_ (ba h9 rfl (aj (ba (vT K) rfl (aj (ai rfl (aj (aA (aj (gh (ai rfl ⟨cM (by omega),aC ⟨a,ns,2,x.length,rfl,e_.seq ha,fun l0 rY EB H3 s3 f3 h3 c3 in3 NI fK=> ?_⟩⟩))))))))))
 refine aC ⟨l0,rY,EB,rfl,h3,c3,by omega,fun us l xs H4 S s4 fl hl hc=> ?_⟩
 have TS:=Mw S in3
 have one:1≤ (settle EB us).length:=List.length_pos_iff.mpr (TS.ne (fun z=>by rw[z] at NI;exact absurd NI (by decide)))
 have fg:=e_.trans (s3.trans s4)
 refine b_ (cR (aC ⟨Nat.zero_le _,fun T fT=> ?_⟩))
 have s5:=sameNew (o:= .lst []) fT
 have hT:upd H4 T (.lst []) T=some (.lst []):=aw
 generalize upd H4 T (.lst [])=H5 at s5 hT⊢
 have EC:=(s3.trans s4) _ _ hh
 have A0:pU K H4 H5 a h l T ns 0 rv xs [] (d_ (.inr "old") 0 x.cps.toList) (settle EB us):=by
  refine⟨fg.seq ha,s5,fT,fun z=> ?_,fun z=> ?_,s5 _ _ EC,hr.mono (cJ ((s3.trans s4).trans s5)),DC _ _ _,fun row jw=> .inl (vn _ _ _ row jw).1, ?_, ?_, ?_,hT,rfl,fun y hy=>by cases hy⟩
  ·rw[z,fT] at hl;cases hl
  ·rw[z,fT] at EC;cases EC
  ·rw[zt];exact gx.2
  ·rw[mj];omega
  ·rw[mj,←ll]
   exact⟨s5 _ _ hl,hc.same s5,TS.n_,TS.kx,one,Nat.le_trans TS.len fK⟩
 refine ado (body:=Et) (aA (gP (aj (gh (ai rfl (.inl ⟨_,(fg.trans s5).seq ha,aj (aA (aC ?_))⟩))))))
 obtain⟨m,em,lm1,lm2⟩: ∃m:Nat,(if ((18:Int) < (((ns.map V.int).length:Nat):Int)) then (18:Int) else (((ns.map V.int).length:Nat):Int))=(m:Nat)∧m≤18∧m≤ns.length:=by
  rw[List.length_map]
  by_cases z:18<ns.length
  ·exact⟨18,by rw[if_pos (by omega)];rfl,by omega,by omega⟩
  ·exact⟨ns.length,by rw[if_neg (by omega)],by omega,by omega⟩
 show ∃p q:Int,[V.int 10,V.int (if ((18:Int) < (((ns.map V.int).length:Nat):Int)) then (18:Int) else (((ns.map V.int).length:Nat):Int))]=[.int p, .int q]∧_
 rw[em]
 refine⟨10,m,rfl,⟨by decide,by decide,by omega,by omega⟩,wB (lo:=10) (n:=((m:Int) - 10).toNat) (fun i σ H6=> ∃(h l:Addr) (rv xs hs:List V) (rows:List bj) (cs:List Cu) (y5 y6 y7 y8 y9 kr so sq:Option V),σ=[some (.ref a),some (.str x),some (.ref h),some (.ref l),some (.ref T),y5,y6,y7,y8,y9,kr,so,sq]∧pU K H4 H6 a h l T ns i rv xs hs rows cs)
  ⟨h,l,rv,xs,[],_,_,none,none,none,none,none,none,none,none,rfl,A0⟩ ?_ ?_⟩
 ·rintro i σ H6 hi ⟨h,l,rv,xs,hs,rows,cs,y5,y6,y7,y8,y9,kr,so,sq,rfl,A⟩
  show aB (GL K E) Et _ [some (.ref a),some (.str x),some (.ref h),some (.ref l),some (.ref T),some (.int (10+ (i:Int))),y6,y7,y8,y9,kr,so,sq] H6
  rw[show(10:Int)+ (i:Int)=((10+i:Nat):Int) by omega]
  exact ac2 A (by omega) (by omega) fun h' l' z6 z7 z8 z9 zk z11 z12 oh g8 jq Eu Ew H' bu A'=> ⟨h',l',oh,g8,jq,Eu,Ew,_,z6,z7,z8,z9,zk,z11,z12,rfl,A'⟩
 ·rintro σ H6 ⟨h,l,rv,xs,hs,rows,cs,y5,y6,y7,y8,y9,kr,so,sq,rfl,A⟩
  exact adp A q
end
end L2.lU
namespace L2.lU
open PySem PySem.Spec PyProof.Rows L2.B
theorem fi{K:Frag}{x qual:Str}{st:Stmt}{f:Addr}{fd:FuncData}{ps:List Str}(F:mX K x qual st f fd)(hp:ps.length=1)(h: ∀(kV doc pm:Value) (an:Option Addr) (bK ct:Value) (a0:Value),bindArgs (fnOf x qual (bt st) (bc st) (aJ st) .none kV doc pm an bK ct) ⟨[a0],[]⟩=pure (ps.zip [a0])):Binds K fd ps []:=
 F.binds fun kV doc pm an bK ct us hl=>by
  have e:=hl.trans hp
  rcases us with _ | ⟨a0,_ | ⟨_,_⟩⟩ <;>first | exact h kV doc pm an bK ct _ | exact absurd e (by simp)
theorem gr{K:Frag}{x qual:Str}{st:Stmt}{f:Addr}{fd:FuncData}{ps:List Str}(F:mX K x qual st f fd)(hp:ps.length=2)(h: ∀(kV doc pm:Value) (an:Option Addr) (bK ct:Value) (a0 a1:Value),bindArgs (fnOf x qual (bt st) (bc st) (aJ st) .none kV doc pm an bK ct) ⟨[a0,a1],[]⟩=pure (ps.zip [a0,a1])):Binds K fd ps []:=
 F.binds fun kV doc pm an bK ct us hl=>by
  have e:=hl.trans hp
  rcases us with _ | ⟨a0,_ | ⟨a1,_ | ⟨_,_⟩⟩⟩ <;>first | exact h kV doc pm an bK ct _ _ | exact absurd e (by simp)
theorem pX{K:Frag}{x qual:Str}{st:Stmt}{f:Addr}{fd:FuncData}{ps:List Str}(F:mX K x qual st f fd)(hp:ps.length=3)(h: ∀(kV doc pm:Value) (an:Option Addr) (bK ct:Value) (a0 a1 a2:Value),bindArgs (fnOf x qual (bt st) (bc st) (aJ st) .none kV doc pm an bK ct) ⟨[a0,a1,a2],[]⟩=pure (ps.zip [a0,a1,a2])):Binds K fd ps []:=
 F.binds fun kV doc pm an bK ct us hl=>by
  have e:=hl.trans hp
  rcases us with _ | ⟨a0,_ | ⟨a1,_ | ⟨a2,_ | ⟨_,_⟩⟩⟩⟩ <;>first | exact h kV doc pm an bK ct _ _ _ | exact absurd e (by simp)
theorem all_mk{l:PySem.W.OpenLaw}{w:World}{K:Frag}{h:Heap}{mg:Str→Option Value}{fa f0 f1 f2 f3 f4 f5 f6 f7 f8 f9 ED EE EF EG EH EI EJ EK EL EM EN EO ER ES ET EU EV EW EX EY EZ E1 E2 E3 E4 E5 E6 E7 E8 E9 E_:Addr}{dg:Addr}{jc:Addr}{my:Addr}{bI:Addr}{mz:Addr}{mB:Addr}{mD:Addr}{mE:Addr}{mF:Addr}{bM:Addr}{mG:Addr}{mH:Addr}{mI:Addr}{mJ:Addr}{mK:Addr}(X:K.In h)(G:h.Ns mainGlobals mg)(hfa:mg "law"=some (.ref fa))
 {od0 an0 od1 an1 od2 an2 od3 an3 od4 an4 od5 an5 od6 an6 od7 an7 od8 an8 od9 an9 adQ adR adS adT adU adV adW adX adY adZ ad0 ad1 ad2 ad3 ad4 ad5 ad6 ad7 ad8 ad9 ad_ aea aeb aec aed aee aef aeg aeh aei aej aek ael aem aen aeo aep aeq aer aes aet aeu aev aew aex aey aez aeA aeB aeC aeD aeE aeF aeG aeH aeI aeJ aeK aeL aeM aeN NJ:Option Addr} {sl0 sl1 oC ud sl4 sl5 sl6 sl7 sl8 sl9 aeW aeX aeY aeZ ae0 ae1 ae2 ae3 ae4 ae5 ae6 ae7 ae8 ae9 ae_ afa afb afc afd afe aff afg afh afi afj afk afl afm afn afo afp:Array (Option Value)} {oc0 kV0 dc0 pm0 NK ct0 oc1 kV1 dc1 pm1 NL ct1 oc2 kV2 dc2 pm2 NM ct2 oc3 kV3 dc3 pm3 NN ct3 oc4 kV4 dc4 pm4 NO ct4 oc5 kV5 dc5 pm5 NP ct5 oc6 kV6 dc6 pm6 NQ ct6 oc7 kV7 dc7 pm7 NR ct7 oc8 kV8 dc8 pm8 NT ct8 oc9 kV9 dc9 pm9 NU ct9 agd age agf agg NV agh agi agj agk agl NW agm agn ago agp agq NX agr ags agt agu agv NY agw agx agy agz agA NZ agB agC agD agE agF N0 agG agH agI agJ agK N1 agL agM agN agO agP N2 agQ agR agS agT agU N3 agV agW agX agY agZ N4 ag0 ag1 ag2 ag3 ag4 N5 ag5 ag6 ag7 ag8 ag9 N6 ag_ aha ahb ahc ahd N7 ahe ahf ahg ahh ahi N8 ahj ahk ahl ahm ahn N9 aho ahp ahq ahr ahs N_ aht ahu ahv ahw ahx Oa ahy ahz ahA ahB ahC Ob ahD ahE ahF ahG ahH Oc ahI ahJ ahK ahL ahM Od ahN ahO ahP ahQ ahR Oe ahS ahT ahU ahV ahW Of ahX ahY ahZ ah0 ah1 Og ah2 ah3 ah4 ah5 ah6 Oh ah7 ah8 ah9 ah_ aia Oi aib aic aid aie aif Oj aih aii aij aik ail Ol aim ain aio aip aiq Om air ais ait aiu aiv Oo aiw aix aiy aiz aiA Oq aiB aiC Ot Ou Ov Fb Ow:Value}
  {aiD:Tok}
  {aiE:Tok}
  (aiF:nsIn K mainGlobals "Track"=some (some (.ref dg)))
  (aiG:plainGet K dg Str.empty=true)
  (aiH:hasDictIn K dg=true)
  (aiI:plainOver K dg=true)
  (aiJ:PySem.W.findIn K (.ref dg) "__setattr__"=some (some (.builtin "object.__setattr__")))
  (aiK:makesIn K dg=true)
  (aiL:keepIn K (.ref dg)=true)
  (aiM:PySem.W.findIn K (.ref dg) "olds"=some none)
  (aiN:PySem.W.findIn K (.ref dg) "news"=some none)
  (aiO:PySem.W.findIn K (.ref dg) "lengths"=some none)
  (aiP:PySem.W.findIn K (.ref dg) "over"=some none)
  (aiQ:PySem.W.findIn K (.ref dg) "gives"=some none)
  (aiR:nsIn K mainGlobals "InkError"=some (some (.ref jc)))
  (aiS:nsIn K mainGlobals "BadText"=some (some (.ref my)))
  (Ox:nsIn K mainGlobals "BadChange"=some (some (.ref bI)))
  (aiT:nsIn K mainGlobals "BadFit"=some (some (.ref mz)))
  (aiU:nsIn K mainGlobals "NoPlace"=some (some (.ref mB)))
  (aiV:nsIn K mainGlobals "BadSide"=some (some (.ref mD)))
  (aiW:nsIn K mainGlobals "NoMark"=some (some (.ref mE)))
  (aiX:nsIn K mainGlobals "NoNode"=some (some (.ref mF)))
  (Oy:nsIn K mainGlobals "NoCursor"=some (some (.ref bM)))
  (aiY:nsIn K mainGlobals "BadDeed"=some (some (.ref mG)))
  (aiZ:nsIn K mainGlobals "BadLetter"=some (some (.ref mH)))
  (ai0:nsIn K mainGlobals "NoLetter"=some (some (.ref mI)))
  (ai1:nsIn K mainGlobals "NoHand"=some (some (.ref mJ)))
  (ai2:nsIn K mainGlobals "NoNote"=some (some (.ref mK)))
  (ai3:PySem.W.excIn K bI [.type "ValueError", .type "Exception", .type "BaseException", .type "object"] "ValueError.__new__"=true)
  (ai4:PySem.W.excIn K bM [.type "ValueError", .type "Exception", .type "BaseException", .type "object"] "ValueError.__new__"=true)
  (ai5:PySem.W.findIn K (.ref bI) "__getattribute__"=some (some (.builtin "BaseException.__getattribute__")))
  (ai6:PySem.W.findIn K (.ref bI) "__getattr__"=some none)
  (ai7:(PySem.W.clsIn K bI).isSome=true)
  (ai8:PySem.W.findIn K (.ref bI) "__class__"=some (some (.builtin "object.__class__")))
  (ai9:PySem.W.mroIn K bI (.type "object")=some true)
  (ai_:PySem.W.mroIn K bI (.type "BaseException")=some true)
  (aja:kitOne K (.ref bI) (.ref my)=some false)
  (ajb:kitOne K (.ref bI) (.ref bI)=some true)
  (ajc:kitOne K (.ref bI) (.ref mz)=some false)
  (ajd:kitOne K (.ref bI) (.ref mB)=some false)
  (aje:kitOne K (.ref bI) (.ref mD)=some false)
  (ajf:kitOne K (.ref bI) (.ref mE)=some false)
  (ajg:kitOne K (.ref bI) (.ref mF)=some false)
  (ajh:kitOne K (.ref bI) (.ref bM)=some false)
  (aji:kitOne K (.ref bI) (.ref mG)=some false)
  (ajj:kitOne K (.ref bI) (.ref mH)=some false)
  (ajk:kitOne K (.ref bI) (.ref mI)=some false)
  (ajl:kitOne K (.ref bI) (.ref mJ)=some false)
  (ajm:kitOne K (.ref bI) (.ref mK)=some false)
  (ajn:kitOne K (.ref bI) (.ref jc)=some true)
  (ajo:kitOne K (.ref bI) (.type "ValueError")=some true)
  (ajp:exmOne K (.ref bI) (.ref jc)=some true)
  (ajq:PySem.W.findIn K (.ref bM) "__getattribute__"=some (some (.builtin "BaseException.__getattribute__")))
  (ajr:PySem.W.findIn K (.ref bM) "__getattr__"=some none)
  (ajs:(PySem.W.clsIn K bM).isSome=true)
  (ajt:PySem.W.findIn K (.ref bM) "__class__"=some (some (.builtin "object.__class__")))
  (aju:PySem.W.mroIn K bM (.type "object")=some true)
  (ajv:PySem.W.mroIn K bM (.type "BaseException")=some true)
  (ajw:kitOne K (.ref bM) (.ref my)=some false)
  (ajx:kitOne K (.ref bM) (.ref bI)=some false)
  (ajy:kitOne K (.ref bM) (.ref mz)=some false)
  (ajz:kitOne K (.ref bM) (.ref mB)=some false)
  (ajA:kitOne K (.ref bM) (.ref mD)=some false)
  (ajB:kitOne K (.ref bM) (.ref mE)=some false)
  (ajC:kitOne K (.ref bM) (.ref mF)=some false)
  (ajD:kitOne K (.ref bM) (.ref bM)=some true)
  (ajE:kitOne K (.ref bM) (.ref mG)=some false)
  (ajF:kitOne K (.ref bM) (.ref mH)=some false)
  (ajG:kitOne K (.ref bM) (.ref mI)=some false)
  (ajH:kitOne K (.ref bM) (.ref mJ)=some false)
  (ajI:kitOne K (.ref bM) (.ref mK)=some false)
  (ajJ:kitOne K (.ref bM) (.ref jc)=some true)
  (ajK:kitOne K (.ref bM) (.type "ValueError")=some true)
  (ajL:exmOne K (.ref bM) (.ref jc)=some true)
  (e5:PySem.W.specialIn K (.builtin "object.__class__") "__get__"=some (some (.builtin "getset_descriptor.__get__")))
  (e6:PySem.W.takesIn K (.builtin "object.__class__")=some true)
  (a0:nsIn K mainGlobals "is_whole"=some (some (.ref f0)))
  (l0:K.lookup f0=some ⟨oc0,od0, .func (fnOf "is_whole" "is_whole" (bt qC) (bc qC) (aJ qC) .none kV0 dc0 pm0 an0 NK ct0),sl0⟩)
  (c0:codeIn K NK "is_whole"=true)
  (k0:keepIn K (.ref f0)=true)
  (a1:nsIn K mainGlobals "is_between"=some (some (.ref f1)))
  (l1:K.lookup f1=some ⟨oc1,od1, .func (fnOf "is_between" "is_between" (bt qD) (bc qD) (aJ qD) .none kV1 dc1 pm1 an1 NL ct1),sl1⟩)
  (c1:codeIn K NL "is_between"=true)
  (k1:keepIn K (.ref f1)=true)
  (a2:nsIn K mainGlobals "is_word"=some (some (.ref f2)))
  (l2:K.lookup f2=some ⟨oc2,od2, .func (fnOf "is_word" "is_word" (bt qE) (bc qE) (aJ qE) .none kV2 dc2 pm2 an2 NM ct2),oC⟩)
  (c2:codeIn K NM "is_word"=true)
  (k2:keepIn K (.ref f2)=true)
  (a3:nsIn K mainGlobals "is_text"=some (some (.ref f3)))
  (l3:K.lookup f3=some ⟨oc3,od3, .func (fnOf "is_text" "is_text" (bt qF) (bc qF) (aJ qF) .none kV3 dc3 pm3 an3 NN ct3),ud⟩)
  (c3:codeIn K NN "is_text"=true)
  (k3:keepIn K (.ref f3)=true)
  (a4:nsIn K mainGlobals "is_part"=some (some (.ref f4)))
  (l4:K.lookup f4=some ⟨oc4,od4, .func (fnOf "is_part" "is_part" (bt qG) (bc qG) (aJ qG) .none kV4 dc4 pm4 an4 NO ct4),sl4⟩)
  (c4:codeIn K NO "is_part"=true)
  (k4:keepIn K (.ref f4)=true)
  (a5:nsIn K mainGlobals "may_follow"=some (some (.ref f5)))
  (l5:K.lookup f5=some ⟨oc5,od5, .func (fnOf "may_follow" "may_follow" (bt qH) (bc qH) (aJ qH) .none kV5 dc5 pm5 an5 NP ct5),sl5⟩)
  (c5:codeIn K NP "may_follow"=true)
  (k5:keepIn K (.ref f5)=true)
  (a6:nsIn K mainGlobals "need_change"=some (some (.ref f6)))
  (l6:K.lookup f6=some ⟨oc6,od6, .func (fnOf "need_change" "need_change" (bt qI) (bc qI) (aJ qI) .none kV6 dc6 pm6 an6 NQ ct6),sl6⟩)
  (c6:codeIn K NQ "need_change"=true)
  (k6:keepIn K (.ref f6)=true)
  (a7:nsIn K mainGlobals "many_upto"=some (some (.ref f7)))
  (l7:K.lookup f7=some ⟨oc7,od7, .func (fnOf "many_upto" "many_upto" (bt qJ) (bc qJ) (aJ qJ) .none kV7 dc7 pm7 an7 NR ct7),sl7⟩)
  (c7:codeIn K NR "many_upto"=true)
  (k7:keepIn K (.ref f7)=true)
  (a8:PySem.W.findIn K (.ref dg) "__init__"=some (some (.ref f8)))
  (i8:isFn K (.ref f8)=true)
  (l8:K.lookup f8=some ⟨oc8,od8, .func (fnOf "__init__" "Track.__init__" (bt qK) (bc qK) (aJ qK) .none kV8 dc8 pm8 an8 NT ct8),sl8⟩)
  (c8:codeIn K NT "Track.__init__"=true)
  (k8:keepIn K (.ref f8)=true)
  (a9:PySem.W.findIn K (.ref dg) "to_left"=some (some (.ref f9)))
  (i9:isFn K (.ref f9)=true)
  (l9:K.lookup f9=some ⟨oc9,od9, .func (fnOf "to_left" "Track.to_left" (bt qL) (bc qL) (aJ qL) .none kV9 dc9 pm9 an9 NU ct9),sl9⟩)
  (c9:codeIn K NU "Track.to_left"=true)
  (k9:keepIn K (.ref f9)=true)
  (a10:nsIn K mainGlobals "begin_of"=some (some (.ref ED)))
  (l10:K.lookup ED=some ⟨agd,adQ, .func (fnOf "begin_of" "begin_of" (bt qM) (bc qM) (aJ qM) .none age agf agg adR NV agh),aeW⟩)
  (jB:codeIn K NV "begin_of"=true)
  (DJ:keepIn K (.ref ED)=true)
  (a11:nsIn K mainGlobals "end_of"=some (some (.ref EE)))
  (l11:K.lookup EE=some ⟨agi,adS, .func (fnOf "end_of" "end_of" (bt qN) (bc qN) (aJ qN) .none agj agk agl adT NW agm),aeX⟩)
  (jC:codeIn K NW "end_of"=true)
  (DK:keepIn K (.ref EE)=true)
  (a12:nsIn K mainGlobals "is_empty"=some (some (.ref EF)))
  (l12:K.lookup EF=some ⟨agn,adU, .func (fnOf "is_empty" "is_empty" (bt qO) (bc qO) (aJ qO) .none ago agp agq adV NX agr),aeY⟩)
  (jD:codeIn K NX "is_empty"=true)
  (DL:keepIn K (.ref EF)=true)
  (a13:nsIn K mainGlobals "is_backward"=some (some (.ref EG)))
  (l13:K.lookup EG=some ⟨ags,adW, .func (fnOf "is_backward" "is_backward" (bt qP) (bc qP) (aJ qP) .none agt agu agv adX NY agw),aeZ⟩)
  (yC:codeIn K NY "is_backward"=true)
  (k13:keepIn K (.ref EG)=true)
  (a14:nsIn K mainGlobals "is_goal"=some (some (.ref EH)))
  (l14:K.lookup EH=some ⟨agx,adY, .func (fnOf "is_goal" "is_goal" (bt qQ) (bc qQ) (aJ qQ) .none agy agz agA adZ NZ agB),ae0⟩)
  (c14:codeIn K NZ "is_goal"=true)
  (k14:keepIn K (.ref EH)=true)
  (a15:nsIn K mainGlobals "is_cursor"=some (some (.ref EI)))
  (l15:K.lookup EI=some ⟨agC,ad0, .func (fnOf "is_cursor" "is_cursor" (bt qR) (bc qR) (aJ qR) .none agD agE agF ad1 N0 agG),ae1⟩)
  (Bs:codeIn K N0 "is_cursor"=true)
  (k15:keepIn K (.ref EI)=true)
  (a16:nsIn K mainGlobals "meet"=some (some (.ref EJ)))
  (l16:K.lookup EJ=some ⟨agH,ad2, .func (fnOf "meet" "meet" (bt qS) (bc qS) (aJ qS) .none agI agJ agK ad3 N1 agL),ae2⟩)
  (IU:codeIn K N1 "meet"=true)
  (k16:keepIn K (.ref EJ)=true)
  (a17:nsIn K mainGlobals "need_cursors"=some (some (.ref EK)))
  (l17:K.lookup EK=some ⟨agM,ad4, .func (fnOf "need_cursors" "need_cursors" (bt qT) (bc qT) (aJ qT) .none agN agO agP ad5 N2 agQ),ae3⟩)
  (c17:codeIn K N2 "need_cursors"=true)
  (k17:keepIn K (.ref EK)=true)
  (a18:nsIn K mainGlobals "gathered"=some (some (.ref EL)))
  (l18:K.lookup EL=some ⟨agR,ad6, .func (fnOf "gathered" "gathered" (bt qU) (bc qU) (aJ qU) .none agS agT agU ad7 N3 agV),ae4⟩)
  (c18:codeIn K N3 "gathered"=true)
  (k18:keepIn K (.ref EL)=true)
  (a19:nsIn K mainGlobals "as_one"=some (some (.ref EM)))
  (l19:K.lookup EM=some ⟨agW,ad8, .func (fnOf "as_one" "as_one" (bt qW) (bc qW) (aJ qW) .none agX agY agZ ad9 N4 ag0),ae5⟩)
  (c19:codeIn K N4 "as_one"=true)
  (k19:keepIn K (.ref EM)=true)
  (a20:nsIn K mainGlobals "settled"=some (some (.ref EN)))
  (l20:K.lookup EN=some ⟨ag1,ad_, .func (fnOf "settled" "settled" (bt qX) (bc qX) (aJ qX) .none ag2 ag3 ag4 aea N5 ag5),ae6⟩)
  (c20:codeIn K N5 "settled"=true)
  (k20:keepIn K (.ref EN)=true)
  (a21:nsIn K mainGlobals "carried"=some (some (.ref EO)))
  (l21:K.lookup EO=some ⟨ag6,aeb, .func (fnOf "carried" "carried" (bt qY) (bc qY) (aJ qY) .none ag7 ag8 ag9 aec N6 ag_),ae7⟩)
  (c21:codeIn K N6 "carried"=true)
  (k21:keepIn K (.ref EO)=true)
  (a22:nsIn K mainGlobals "_law_cell_at"=some (some (.ref ER)))
  (l22:K.lookup ER=some ⟨aha,aed, .func (fnOf "_law_cell_at" "_law_cell_at" (bt qZ) (bc qZ) (aJ qZ) .none ahb ahc ahd aee N7 ahe),ae8⟩)
  (c22:codeIn K N7 "_law_cell_at"=true)
  (k22:keepIn K (.ref ER)=true)
  (a23:nsIn K mainGlobals "_law_whole"=some (some (.ref ES)))
  (l23:K.lookup ES=some ⟨ahf,aef, .func (fnOf "_law_whole" "_law_whole" (bt q8) (bc q8) (aJ q8) .none ahg ahh ahi aeg N8 ahj),ae9⟩)
  (yD:codeIn K N8 "_law_whole"=true)
  (k23:keepIn K (.ref ES)=true)
  (a24:nsIn K mainGlobals "_law_mixed"=some (some (.ref ET)))
  (l24:K.lookup ET=some ⟨ahk,aeh, .func (fnOf "_law_mixed" "_law_mixed" (bt q9) (bc q9) (aJ q9) .none ahl ahm ahn aei N9 aho),ae_⟩)
  (c24:codeIn K N9 "_law_mixed"=true)
  (k24:keepIn K (.ref ET)=true)
  (a25:nsIn K mainGlobals "_law_text"=some (some (.ref EU)))
  (l25:K.lookup EU=some ⟨ahp,aej, .func (fnOf "_law_text" "_law_text" (bt q_) (bc q_) (aJ q_) .none ahq ahr ahs aek N_ aht),afa⟩)
  (Bt:codeIn K N_ "_law_text"=true)
  (k25:keepIn K (.ref EU)=true)
  (a26:nsIn K mainGlobals "_law_size"=some (some (.ref EV)))
  (l26:K.lookup EV=some ⟨ahu,ael, .func (fnOf "_law_size" "_law_size" (bt rg) (bc rg) (aJ rg) .none ahv ahw ahx aem Oa ahy),afb⟩)
  (Bv:codeIn K Oa "_law_size"=true)
  (k26:keepIn K (.ref EV)=true)
  (a27:nsIn K mainGlobals "_law_parts"=some (some (.ref EW)))
  (l27:K.lookup EW=some ⟨ahz,aen, .func (fnOf "_law_parts" "_law_parts" (bt rj) (bc rj) (aJ rj) .none ahA ahB ahC aeo Ob ahD),afc⟩)
  (c27:codeIn K Ob "_law_parts"=true)
  (k27:keepIn K (.ref EW)=true)
  (a28:nsIn K mainGlobals "_law_neat"=some (some (.ref EX)))
  (l28:K.lookup EX=some ⟨ahE,aep, .func (fnOf "_law_neat" "_law_neat" (bt rk) (bc rk) (aJ rk) .none ahF ahG ahH aeq Oc ahI),afd⟩)
  (c28:codeIn K Oc "_law_neat"=true)
  (k28:keepIn K (.ref EX)=true)
  (a29:nsIn K mainGlobals "_law_change"=some (some (.ref EY)))
  (l29:K.lookup EY=some ⟨ahJ,aer, .func (fnOf "_law_change" "_law_change" (bt rm) (bc rm) (aJ rm) .none ahK ahL ahM aes Od ahN),afe⟩)
  (c29:codeIn K Od "_law_change"=true)
  (k29:keepIn K (.ref EY)=true)
  (a30:nsIn K mainGlobals "_law_word"=some (some (.ref EZ)))
  (l30:K.lookup EZ=some ⟨ahO,aet, .func (fnOf "_law_word" "_law_word" (bt dG) (bc dG) (aJ dG) .none ahP ahQ ahR aeu Oe ahS),aff⟩)
  (c30:codeIn K Oe "_law_word"=true)
  (k30:keepIn K (.ref EZ)=true)
  (a31:nsIn K mainGlobals "_law_gone"=some (some (.ref E1)))
  (l31:K.lookup E1=some ⟨ahT,aev, .func (fnOf "_law_gone" "_law_gone" (bt rn) (bc rn) (aJ rn) .none ahU ahV ahW aew Of ahX),afg⟩)
  (c31:codeIn K Of "_law_gone"=true)
  (k31:keepIn K (.ref E1)=true)
  (a32:nsIn K mainGlobals "_law_named"=some (some (.ref E2)))
  (l32:K.lookup E2=some ⟨ahY,aex, .func (fnOf "_law_named" "_law_named" (bt rq) (bc rq) (aJ rq) .none ahZ ah0 ah1 aey Og ah2),afh⟩)
  (c32:codeIn K Og "_law_named"=true)
  (k32:keepIn K (.ref E2)=true)
  (a33:nsIn K mainGlobals "_law_cursor"=some (some (.ref E3)))
  (l33:K.lookup E3=some ⟨ah3,aez, .func (fnOf "_law_cursor" "_law_cursor" (bt rA) (bc rA) (aJ rA) .none ah4 ah5 ah6 aeA Oh ah7),afi⟩)
  (c33:codeIn K Oh "_law_cursor"=true)
  (k33:keepIn K (.ref E3)=true)
  (a34:nsIn K mainGlobals "_law_drawn"=some (some (.ref E4)))
  (l34:K.lookup E4=some ⟨ah8,aeB, .func (fnOf "_law_drawn" "_law_drawn" (bt rB) (bc rB) (aJ rB) .none ah9 ah_ aia aeC Oi aib),afj⟩)
  (c34:codeIn K Oi "_law_drawn"=true)
  (k34:keepIn K (.ref E4)=true)
  (a35:nsIn K mainGlobals "_law_settled"=some (some (.ref E5)))
  (l35:K.lookup E5=some ⟨aic,aeD, .func (fnOf "_law_settled" "_law_settled" (bt fD) (bc fD) (aJ fD) .none aid aie aif aeE Oj aih),afk⟩)
  (c35:codeIn K Oj "_law_settled"=true)
  (k35:keepIn K (.ref E5)=true)
  (a36:nsIn K mainGlobals "_law_alike"=some (some (.ref E6)))
  (l36:K.lookup E6=some ⟨aii,aeF, .func (fnOf "_law_alike" "_law_alike" (bt rC) (bc rC) (aJ rC) .none aij aik ail aeG Ol aim),afl⟩)
  (c36:codeIn K Ol "_law_alike"=true)
  (k36:keepIn K (.ref E6)=true)
  (a37:nsIn K mainGlobals "_law_places"=some (some (.ref E7)))
  (l37:K.lookup E7=some ⟨ain,aeH, .func (fnOf "_law_places" "_law_places" (bt rD) (bc rD) (aJ rD) .none aio aip aiq aeI Om air),afm⟩)
  (c37:codeIn K Om "_law_places"=true)
  (k37:keepIn K (.ref E7)=true)
  (a38:nsIn K mainGlobals "_law_told"=some (some (.ref E8)))
  (l38:K.lookup E8=some ⟨ais,aeJ, .func (fnOf "_law_told" "_law_told" (bt rE) (bc rE) (aJ rE) .none ait aiu aiv aeK Oo aiw),afn⟩)
  (c38:codeIn K Oo "_law_told"=true)
  (k38:keepIn K (.ref E8)=true)
  (a39:nsIn K mainGlobals "_law_refused"=some (some (.ref E9)))
  (l39:K.lookup E9=some ⟨aix,aeL, .func (fnOf "_law_refused" "_law_refused" (bt dH) (bc dH) (aJ dH) .none aiy aiz aiA aeM Oq aiB),afo⟩)
  (c39:codeIn K Oq "_law_refused"=true)
  (k39:keepIn K (.ref E9)=true)
  (a40:nsIn K mainGlobals "law"=some (some (.ref E_)))
  (fK:K.lookup E_=some ⟨aiC,aeN, .func (fnOf "law" "law" (bt dS) (bc dS) (aJ dS) .none Ot Ou Ov NJ Fb Ow),afp⟩)
  (c40:codeIn K Fb "law"=true)
  (k40:keepIn K (.ref E_)=true)
  (alz:nsIn K mainGlobals "SIGNS"=some (some (Value.str SG aiD)))
  (alA:nsIn K mainGlobals "MOST_CURSORS"=some (some (Value.int 40 aiE)))
  (alB:nsIn K mainGlobals "ValueError"=some none)
  (alC:nsIn K mainGlobals "all"=some none)
  (alD:nsIn K mainGlobals "any"=some none)
  (alE:nsIn K mainGlobals "bool"=some none)
  (alF:nsIn K mainGlobals "enumerate"=some none)
  (alG:nsIn K mainGlobals "int"=some none)
  (alH:nsIn K mainGlobals "isinstance"=some none)
  (alI:nsIn K mainGlobals "len"=some none)
  (alJ:nsIn K mainGlobals "list"=some none)
  (alK:nsIn K mainGlobals "max"=some none)
  (alL:nsIn K mainGlobals "min"=some none)
  (alM:nsIn K mainGlobals "range"=some none)
  (alN:nsIn K mainGlobals "sorted"=some none)
  (alO:nsIn K mainGlobals "str"=some none)
  (alP:nsIn K mainGlobals "tuple"=some none)
  (alQ:nsIn K mainGlobals "zip"=some none)
  : ∃fd:FuncData,(∀(s:Shared) (v:Value),BindsTo s fd ⟨[v],[]⟩ [("_law_script",v)])∧ ∀base:Heap,K.In base→base.Ns mainGlobals mg→cw l.prog w K mg base wV 9 fa fd ["_law_script"] (fun vs H Q _=> (zx K) vs H Q E0):=by
 have e:=hfa.symm.trans (mg_of X G a40)
 cases e
 have alR:mg "ValueError"=none:=mg_none_of X G alB
 have Oz:mg "all"=none:=mg_none_of X G alC
 have OA:mg "any"=none:=mg_none_of X G alD
 have y_bool:mg "bool"=none:=mg_none_of X G alE
 have OB:mg "enumerate"=none:=mg_none_of X G alF
 have zy:mg "int"=none:=mg_none_of X G alG
 have iD:mg "isinstance"=none:=mg_none_of X G alH
 have eG:mg "len"=none:=mg_none_of X G alI
 have sA:mg "list"=none:=mg_none_of X G alJ
 have wa:mg "max"=none:=mg_none_of X G alK
 have pY:mg "min"=none:=mg_none_of X G alL
 have pZ:mg "range"=none:=mg_none_of X G alM
 have OC:mg "sorted"=none:=mg_none_of X G alN
 have OD:mg "str"=none:=mg_none_of X G alO
 have wb:mg "tuple"=none:=mg_none_of X G alP
 have Fc:mg "zip"=none:=mg_none_of X G alQ
 have alS:eZ mg ("SIGNS", .str SG):=⟨_,mg_of X G alz,⟨_,rfl⟩⟩
 have OE:eZ mg ("MOST_CURSORS", .int 40):=⟨_,mg_of X G alA,⟨_,rfl⟩⟩
 have OF:eZ mg ("InkError", .ref jc):=⟨_,mg_of X G aiR,rfl⟩
 have alT:eZ mg ("BadText", .ref my):=⟨_,mg_of X G aiS,rfl⟩
 have alU:eZ mg ("BadChange", .ref bI):=⟨_,mg_of X G Ox,rfl⟩
 have alV:eZ mg ("BadFit", .ref mz):=⟨_,mg_of X G aiT,rfl⟩
 have alW:eZ mg ("NoPlace", .ref mB):=⟨_,mg_of X G aiU,rfl⟩
 have alX:eZ mg ("BadSide", .ref mD):=⟨_,mg_of X G aiV,rfl⟩
 have alY:eZ mg ("NoMark", .ref mE):=⟨_,mg_of X G aiW,rfl⟩
 have alZ:eZ mg ("NoNode", .ref mF):=⟨_,mg_of X G aiX,rfl⟩
 have al0:eZ mg ("NoCursor", .ref bM):=⟨_,mg_of X G Oy,rfl⟩
 have al1:eZ mg ("BadDeed", .ref mG):=⟨_,mg_of X G aiY,rfl⟩
 have al2:eZ mg ("BadLetter", .ref mH):=⟨_,mg_of X G aiZ,rfl⟩
 have al4:eZ mg ("NoLetter", .ref mI):=⟨_,mg_of X G ai0,rfl⟩
 have al5:eZ mg ("NoHand", .ref mJ):=⟨_,mg_of X G ai1,rfl⟩
 have al6:eZ mg ("NoNote", .ref mK):=⟨_,mg_of X G ai2,rfl⟩
 have al7:mi K [my,bI,mz,mB,mD,mE,mF,bM,mG,mH,mI,mJ,mK] jc bI 1:=LQ ⟨ai5,ai6,ai7,ai8,e5,e6,ai9,ai_⟩ ajn ajo aja ajb ajc ajd aje ajf ajg ajh aji ajj ajk ajl ajm
 have al8:mi K [my,bI,mz,mB,mD,mE,mF,bM,mG,mH,mI,mJ,mK] jc bM 7:=LQ ⟨ajq,ajr,ajs,ajt,e5,e6,aju,ajv⟩ ajJ ajK ajw ajx ajy ajz ajA ajB ajC ajD ajE ajF ajG ajH ajI
 have wc:uE K dg:=⟨⟨aiG,aiH,aiI,aiJ⟩,aiM,aiN,aiO,aiP,aiQ⟩
 refine⟨fnOf "law" "law" (bt dS) (bc dS) (aJ dS) .none Ot Ou Ov NJ Fb Ow,fun s v=> .of_eq rfl,fun base X2 G2=> ?_⟩
 have OG:xT mg base ("BadChange",bI):=LO X2 G2 Ox ai3
 have OH:xT mg base ("NoCursor",bM):=LO X2 G2 Oy ai4
 have F0:=bP (st:=qC) l0 c0 k0
 have B0:=fi (ps:=dB) F0 rfl fun _ _ _ _ _ _ _=>rfl
 have T0:bF l.prog w K mg base 1 "is_whole" (gQ):=⟨_,_,_,(bB (k:=0) F0 Xf [] [] xU [] [] [] [] BO @Xg ag ag (az iD (az zy (az y_bool ag))) [] ag ag ag ag ag (by rintro vs H Q E ⟨_,rfl,_⟩;rfl) Z5),mg_of X G a0,F0.kp,B0⟩
 have F1:=bP (st:=qD) l1 c1 k1
 have B1:=pX (ps:=uC) F1 rfl fun _ _ _ _ _ _ _ _ _=>rfl
 have T1:bF l.prog w K mg base 2 "is_between" (iZ):=⟨_,_,_,(bB (k:=1) F1 Xh [("is_whole",gQ)] [] af [] [] [] [] Cb @Xi (az (T0.mono (by omega)) ag) ag ag [] ag ag ag ag ag (by rintro vs H Q E ⟨_,_,_,rfl,_⟩;rfl) aa6),mg_of X G a1,F1.kp,B1⟩
 have F2:=bP (st:=qE) l2 c2 k2
 have B2:=gr (ps:=qz) F2 rfl fun _ _ _ _ _ _ _ _=>rfl
 have T2:bF l.prog w K mg base 1 "is_word" (yH K):=⟨_,_,_,(bB (k:=0) F2 Xj [] [] xW [] [] [] [] xV @Xk ag ag (az iD (az OD ag)) [] ag ag ag ag ag (by rintro vs H Q E ⟨_,_,_,rfl,_⟩;rfl) Z7),mg_of X G a2,F2.kp,B2⟩
 have F3:=bP (st:=qF) l3 c3 k3
 have B3:=fi (ps:=dB) F3 rfl fun _ _ _ _ _ _ _=>rfl
 have T3:bF l.prog w K mg base 1 "is_text" (yG):=⟨_,_,_,(bB (k:=0) F3 Xl [] [("SIGNS", .str SG)] xW [] [] [] [] xX @Xm ag (az alS ag) (az iD (az OD ag)) [] ag ag ag ag ag (by rintro vs H Q E ⟨_,rfl,_⟩;rfl) Z6),mg_of X G a3,F3.kp,B3⟩
 have F4:=bP (st:=qG) l4 c4 k4
 have B4:=fi (ps:=dB) F4 rfl fun _ _ _ _ _ _ _=>rfl
 have T4:bF l.prog w K mg base 2 "is_part" (uZ):=⟨_,_,_,(bB (k:=1) F4 Xn [("is_word",yH K),("is_whole",gQ),("is_text",yG)] [] uw [] [] [] [] uv @Xo (az (T2.mono (by omega)) (az (T0.mono (by omega)) (az (T3.mono (by omega)) ag))) ag (az iD (az wb (az eG ag))) [] ag ag ag ag ag (by rintro vs H Q E ⟨_,rfl,_⟩;rfl) Z8),mg_of X G a4,F4.kp,B4⟩
 have F5:=bP (st:=qH) l5 c5 k5
 have B5:=gr (ps:=ux) F5 rfl fun _ _ _ _ _ _ _ _=>rfl
 have T5:bF l.prog w K mg base 1 "may_follow" (rF):=⟨_,_,_,(bB (k:=0) F5 Xp [] [] af [] [] [] [] BP @Xq ag ag ag [] ag ag ag ag ag (by rintro vs H Q E ⟨_,_,rfl,_⟩;rfl) YX),mg_of X G a5,F5.kp,B5⟩
 have F6:=bP (st:=qI) l6 c6 k6
 have B6:=fi (ps:=Ju) F6 rfl fun _ _ _ _ _ _ _=>rfl
 have T6:bF l.prog w K mg base 3 "need_change" (d9 (yt) (yM bI)):=⟨_,_,_,(cw.or (bB (k:=2) F6 J8 [("is_part",C3),("may_follow",rF)] [] BQ [] [] [("BadChange",bI)] [] uz @J9 (az ((T4.weak fun _ _ _ _ h=>Z_ h).mono (by omega)) (az (T5.mono (by omega)) ag)) ag (az iD (az sA ag)) [] ag ag ag (az OG ag) ag (by rintro vs H Q E ⟨_,_,_,rfl,_⟩;rfl) Y6) (bB (k:=2) F6 J8 [("is_part",uZ),("may_follow",rF)] [] BQ [] [] [("BadChange",bI)] [] uz @J9 (az (T4.mono (by omega)) (az (T5.mono (by omega)) ag)) ag (az iD (az sA ag)) [] ag ag ag (az OG ag) ag (by rintro vs H Q E ⟨_,rfl,_⟩;rfl) aab)),mg_of X G a6,F6.kp,B6⟩
 have F7:=bP (st:=qJ) l7 c7 k7
 have B7:=gr (ps:=JC) F7 rfl fun _ _ _ _ _ _ _ _=>rfl
 have T7:bF l.prog w K mg base 1 "many_upto" (yY):=⟨_,_,_,(bB (k:=0) F7 Xr [] [] oY [] [] [] [] Ce @Xs ag ag (az eG ag) [] ag ag ag ag ag (by rintro vs H Q E ⟨_,_,_,rfl,_⟩;rfl) aaP),mg_of X G a7,F7.kp,B7⟩
 have F8:=bP (st:=qK) l8 c8 k8
 have B8:=gr (ps:=JD) F8 rfl fun _ _ _ _ _ _ _ _=>rfl
 have T8:nz l.prog w K mg base 5 ("Track",dg,d9 (nM dg) (vo bI)):=⟨3+1,_,_,_,Nat.le_refl _,⟨aiK,a8,i8,aiL⟩,(cw.or (bB (k:=3) F8 J_ [("need_change",yt)] [] oY [] [] [] [] uD @Ka (az ((T6.weak fun _ _ _ _ h=> (.inl h)).mono (by omega)) ag) ag (az eG ag) [] ag ag ag ag ag (by rintro vs H Q E ⟨_,_,_,_,_,rfl,_⟩;rfl) (aaI wc)) (bB (k:=3) F8 J_ [("need_change",yM bI)] [] oY [] [] [] [] uD @Ka (az ((T6.weak fun _ _ _ _ h=> (.inr h)).mono (by omega)) ag) ag (az eG ag) [] ag ag ag ag ag (by rintro vs H Q E ⟨_,_,rfl,_⟩;rfl) aa7)),mg_of X G aiF,B8⟩
 have F9:=bP (st:=qL) l9 c9 k9
 have B9:=gr (ps:=JE) F9 rfl fun _ _ _ _ _ _ _ _=>rfl
 have T9:uu l.prog w K mg base 2 ("to_left",dg,nP dg):=⟨wc.cl,_,_,_,⟨a9,i9,k9⟩,(bB (k:=1) F9 Xt [("many_upto",yY)] [] yd [] [] [] [] Cg @Xu (az (T7.mono (by omega)) ag) ag (az pY ag) [] ag ag ag ag ag (by rintro vs H Q E ⟨_,_,_,_,_,_,_,_,_,rfl,_⟩;rfl) (aaX wc)),B9⟩
 have Fd:=bP (st:=qM) l10 jB DJ
 have B10:=fi (ps:=eA) Fd rfl fun _ _ _ _ _ _ _=>rfl
 have zz:bF l.prog w K mg base 1 "begin_of" (N.gU):=⟨_,_,_,(bB (k:=0) Fd Xv [] [] yd [] [] [] [] Cr @Xw ag ag (az pY ag) [] ag ag ag ag ag (by rintro vs H Q E ⟨_,_,_,_,rfl,_⟩;rfl) N.abc),mg_of X G a10,Fd.kp,B10⟩
 have Fe:=bP (st:=qN) l11 jC DK
 have B11:=fi (ps:=eA) Fe rfl fun _ _ _ _ _ _ _=>rfl
 have Ff:bF l.prog w K mg base 1 "end_of" (N.jH):=⟨_,_,_,(bB (k:=0) Fe Xx [] [] JH [] [] [] [] Cs @Xy ag ag (az wa ag) [] ag ag ag ag ag (by rintro vs H Q E ⟨_,_,_,_,rfl,_⟩;rfl) N.abd),mg_of X G a11,Fe.kp,B11⟩
 have Fg:=bP (st:=qO) l12 jD DL
 have B12:=fi (ps:=eA) Fg rfl fun _ _ _ _ _ _ _=>rfl
 have T12:bF l.prog w K mg base 1 "is_empty" (N.vp):=⟨_,_,_,(bB (k:=0) Fg Xz [] [] af [] [] [] [] Ct @XA ag ag ag [] ag ag ag ag ag (by rintro vs H Q E ⟨_,_,_,_,rfl,_⟩;rfl) N.abe),mg_of X G a12,Fg.kp,B12⟩
 have Fh:=bP (st:=qP) l13 yC k13
 have B13:=fi (ps:=eA) Fh rfl fun _ _ _ _ _ _ _=>rfl
 have T13:bF l.prog w K mg base 1 "is_backward" (N.vv):=⟨_,_,_,(bB (k:=0) Fh XB [] [] af [] [] [] [] CK @XC ag ag ag [] ag ag ag ag ag (by rintro vs H Q E ⟨_,_,_,_,rfl,_⟩;rfl) N.abl),mg_of X G a13,Fh.kp,B13⟩
 have zA:=bP (st:=qQ) l14 c14 k14
 have B14:=fi (ps:=dB) zA rfl fun _ _ _ _ _ _ _=>rfl
 have OI:bF l.prog w K mg base 2 "is_goal" (d9 (N.nV) (N.vL)):=⟨_,_,_,(cw.or (bB (k:=1) zA Kb [("is_whole",gQ)] [] af [] [] [] [] uH @Kc (az (T0.mono (by omega)) ag) ag ag [] ag ag ag ag ag (by rintro vs H Q E ⟨_,rfl,_⟩;rfl) N.abf) (bB (k:=1) zA Kb [("is_whole",gQ)] [] af [] [] [] [] uH @Kc (az (T0.mono (by omega)) ag) ag ag [] ag ag ag ag ag (by rintro vs H Q E ⟨_,rfl,_⟩;rfl) N.abQ)),mg_of X G a14,zA.kp,B14⟩
 have zB:=bP (st:=qR) l15 Bs k15
 have B15:=gr (ps:=qA) zB rfl fun _ _ _ _ _ _ _ _=>rfl
 have OJ:bF l.prog w K mg base 3 "is_cursor" (d9 (N.kq) (N.pM)):=⟨_,_,_,(cw.or (bB (k:=2) zB Kd [("is_between",iZ),("is_goal",N.nV)] [] uw [] [] [] [] uI @Ke (az (T1.mono (by omega)) (az ((OI.weak fun _ _ _ _ h=> (.inl h)).mono (by omega)) ag)) ag (az iD (az wb (az eG ag))) [] ag ag ag ag ag (by rintro vs H Q E ⟨_,_,_,_,_,rfl,_⟩;rfl) N.abg) (bB (k:=2) zB Kd [("is_between",iZ),("is_goal",d9 (N.nV) (N.vL))] [] uw [] [] [] [] uI @Ke (az (T1.mono (by omega)) (az (OI.mono (by omega)) ag)) ag (az iD (az wb (az eG ag))) [] ag ag ag ag ag (by rintro vs H Q E ⟨_,_,rfl,_⟩;rfl) N.abR)),mg_of X G a15,zB.kp,B15⟩
 have Fi:=bP (st:=qS) l16 IU k16
 have B16:=pX (ps:=uJ) Fi rfl fun _ _ _ _ _ _ _ _ _=>rfl
 have Fj:bF l.prog w K mg base 2 "meet" (N.jI):=⟨_,_,_,(bB (k:=1) Fi XD [("begin_of",N.gU),("is_empty",N.vp)] [] af [] [] [] [] Cv @XE (az (zz.mono (by omega)) (az (T12.mono (by omega)) ag)) ag ag [] ag ag ag ag ag (by rintro vs H Q E ⟨_,_,_,_,_,_,rfl,_⟩;rfl) N.abk),mg_of X G a16,Fi.kp,B16⟩
 have zC:=bP (st:=qT) l17 c17 k17
 have B17:=gr (ps:=qB) zC rfl fun _ _ _ _ _ _ _ _=>rfl
 have OK:bF l.prog w K mg base 4 "need_cursors" (d9 (N.nZ) (N.vM bM)):=⟨_,_,_,(cw.or (bB (k:=3) zC Kf [("is_cursor",N.kq),("meet",N.jI),("begin_of",N.gU),("end_of",N.jH)] [("MOST_CURSORS", .int 40)] Cw [] [] [("NoCursor",bM)] [] uK @Kg (az ((OJ.weak fun _ _ _ _ h=> (.inl h)).mono (by omega)) (az (Fj.mono (by omega)) (az (zz.mono (by omega)) (az (Ff.mono (by omega)) ag)))) (az OE ag) (az iD (az sA (az eG (az Oz (az OA (az Fc ag)))))) [] ag ag ag (az OH ag) ag (by rintro vs H Q E ⟨_,_,_,_,rfl,_⟩;rfl) N.abI) (bB (k:=3) zC Kf [("is_cursor",d9 (N.kq) (N.pM)),("meet",N.jI),("begin_of",N.gU),("end_of",N.jH)] [("MOST_CURSORS", .int 40)] Cw [] [] [("NoCursor",bM)] [] uK @Kg (az (OJ.mono (by omega)) (az (Fj.mono (by omega)) (az (zz.mono (by omega)) (az (Ff.mono (by omega)) ag)))) (az OE ag) (az iD (az sA (az eG (az Oz (az OA (az Fc ag)))))) [] ag ag ag (az OH ag) ag (by rintro vs H Q E ⟨_,_,rfl,_⟩;rfl) N.abS)),mg_of X G a17,zC.kp,B17⟩
 have Fl:=bP (st:=qU) l18 c18 k18
 have B18:=fi (ps:=o5) Fl rfl fun _ _ _ _ _ _ _=>rfl
 have T18:bF l.prog w K mg base 3 "gathered" (N.vE):=⟨_,_,_,(bB (k:=2) Fl XF [("begin_of",N.gU),("end_of",N.jH),("meet",N.jI)] [] JZ [] [] [] [] CM @XG (az (zz.mono (by omega)) (az (Ff.mono (by omega)) (az (Fj.mono (by omega)) ag))) ag (az OC (az OB (az eG (az wa ag)))) [] ag ag ag ag ag (by rintro vs H Q E ⟨_,_,_,rfl,_⟩;rfl) N.abr),mg_of X G a18,Fl.kp,B18⟩
 have Fm:=bP (st:=qW) l19 c19 k19
 have B19:=gr (ps:=J0) Fm rfl fun _ _ _ _ _ _ _ _=>rfl
 have T19:bF l.prog w K mg base 2 "as_one" (N.vF):=⟨_,_,_,(bB (k:=1) Fm XH [("is_backward",N.vv)] [] J3 [] [] [] [] CO @XI (az (T13.mono (by omega)) ag) ag (az pY (az eG ag)) [] ag ag ag ag ag (by rintro vs H Q E ⟨_,_,_,_,_,_,rfl,_⟩;rfl) N.abt),mg_of X G a19,Fm.kp,B19⟩
 have Fn:=bP (st:=qX) l20 c20 k20
 have B20:=fi (ps:=o5) Fn rfl fun _ _ _ _ _ _ _=>rfl
 have OL:bF l.prog w K mg base 4 "settled" (N.h9):=⟨_,_,_,(bB (k:=3) Fn XJ [("gathered",N.vE),("as_one",N.vF)] [] af [] [] [] [] CQ @XM (az (T18.mono (by omega)) (az (T19.mono (by omega)) ag)) ag ag [] ag ag ag ag ag (by rintro vs H Q E ⟨_,_,_,rfl,_⟩;rfl) N.abu),mg_of X G a20,Fn.kp,B20⟩
 have zD:=bP (st:=qY) l21 c21 k21
 have B21:=gr (ps:=J4) zD rfl fun _ _ _ _ _ _ _ _=>rfl
 have OM:bF l.prog w K mg base 6 "carried" (d9 (N.pO) (N.sj bI bM)):=⟨_,_,_,(cw.or (bB (k:=5) zD Kh [("need_cursors",N.nZ),("settled",N.h9)] [] af [("to_left",dg,nP dg)] [("Track",dg,nM dg)] [] [] uP @Ki (az ((OK.weak fun _ _ _ _ h=> (.inl h)).mono (by omega)) (az (OL.mono (by omega)) ag)) ag ag [] ag (az (T9.mono (by omega)) ag) (az ((T8.weak fun _ _ _ _ h=> (.inl h)).mono (by omega)) ag) ag ag (by rintro vs H Q E ⟨_,_,_,_,_,rfl,_⟩;rfl) (N.ace wc)) (bB (k:=5) zD Kh [("need_cursors",d9 (N.nZ) (N.vM bM)),("settled",N.h9)] [] af [("to_left",dg,nP dg)] [("Track",dg,d9 (nM dg) (vo bI))] [] [] uP @Ki (az (OK.mono (by omega)) (az (OL.mono (by omega)) ag)) ag ag [] ag (az (T9.mono (by omega)) ag) (az (T8.mono (by omega)) ag) ag ag (by rintro vs H Q E ⟨_,_,rfl,_⟩;rfl) (N.acg wc))),mg_of X G a21,zD.kp,B21⟩
 have Fo:=bP (st:=qZ) l22 c22 k22
 have B22:=gr (ps:=uA) Fo rfl fun _ _ _ _ _ _ _ _=>rfl
 have ON:bF l.prog w K mg base 1 "_law_cell_at" (ke K):=⟨_,_,_,(bB (k:=0) Fo XN [] [] oY [] [] [] [] BR @XO ag ag (az eG ag) [] ag ag ag ag ag (by rintro vs H Q E ⟨_,_,_,rfl,_⟩;rfl) YY),mg_of X G a22,Fo.kp,B22⟩
 have Fp:=bP (st:=q8) l23 yD k23
 have B23:=fi (ps:=Kj) Fp rfl fun _ _ _ _ _ _ _=>rfl
 have T23:bF l.prog w K mg base 1 "_law_whole" (nF):=⟨_,_,_,(bB (k:=0) Fp XQ [] [] xU [] [] [] [] Cc @XR ag ag (az iD (az zy (az y_bool ag))) [] ag ag ag ag ag (by rintro vs H Q E ⟨_,rfl,_⟩;rfl) aa1),mg_of X G a23,Fp.kp,B23⟩
 have Fq:=bP (st:=q9) l24 c24 k24
 have B24:=gr (ps:=Jv) Fq rfl fun _ _ _ _ _ _ _ _=>rfl
 have wd:bF l.prog w K mg base 1 "_law_mixed" (gd):=⟨_,_,_,(bB (k:=0) Fq XS [] [] af [] [] [] [] BU @XT ag ag ag [] ag ag ag ag ag (by rintro vs H Q E ⟨_,_,rfl,_⟩;rfl) YZ),mg_of X G a24,Fq.kp,B24⟩
 have Fs:=bP (st:=q_) l25 Bt k25
 have B25:=gr (ps:=xZ) Fs rfl fun _ _ _ _ _ _ _ _=>rfl
 have OO:bF l.prog w K mg base 2 "_law_text" (pb):=⟨_,_,_,(bB (k:=1) Fs XU [("_law_mixed",gd)] [] nA [] [] [] [] BW @XW (az (wd.mono (by omega)) ag) ag (az pZ (az eG ag)) [] ag ag ag ag ag (by rintro vs H Q E ⟨_,_,rfl,_⟩;rfl) Zh),mg_of X G a25,Fs.kp,B25⟩
 have Ft:=bP (st:=rg) l26 Bv k26
 have B26:=fi (ps:=uB) Ft rfl fun _ _ _ _ _ _ _=>rfl
 have T26:bF l.prog w K mg base 1 "_law_size" (uU):=⟨_,_,_,(bB (k:=0) Ft XX [] [] af [] [] [] [] BX @XY ag ag ag [] ag ag ag ag ag (by rintro vs H Q E ⟨_,rfl,_⟩;rfl) ZU),mg_of X G a26,Ft.kp,B26⟩
 have Fu:=bP (st:=rj) l27 c27 k27
 have B27:=pX (ps:=oZ) Fu rfl fun _ _ _ _ _ _ _ _ _=>rfl
 have T27:bF l.prog w K mg base 3 "_law_parts" (zp):=⟨_,_,_,(bB (k:=2) Fu XZ [("_law_mixed",gd),("_law_text",pb)] [] Jx [] [] [] [] BZ @X0 (az (wd.mono (by omega)) (az (OO.mono (by omega)) ag)) ag (az pZ (az pY (az eG ag))) [] ag ag ag ag ag (by rintro vs H Q E ⟨_,_,_,rfl,_⟩;rfl) acG),mg_of X G a27,Fu.kp,B27⟩
 have Fv:=bP (st:=rk) l28 c28 k28
 have B28:=fi (ps:=Jy) Fv rfl fun _ _ _ _ _ _ _=>rfl
 have T28:bF l.prog w K mg base 1 "_law_neat" (yy):=⟨_,_,_,(bB (k:=0) Fv X1 [] [] Jz [] [] [] [] B_ @X3 ag ag (az zy ag) [] ag ag ag ag ag (by rintro vs H Q E ⟨_,_,_,rfl,_⟩;rfl) Zq),mg_of X G a28,Fv.kp,B28⟩
 have Fw:=bP (st:=rm) l29 c29 k29
 have B29:=pX (ps:=oZ) Fw rfl fun _ _ _ _ _ _ _ _ _=>rfl
 have T29:bF l.prog w K mg base 4 "_law_change" (vY):=⟨_,_,_,(bB (k:=3) Fw X4 [("_law_neat",yy),("_law_parts",zp)] [] af [] [] [] [] Ca @X5 (az (T28.mono (by omega)) (az (T27.mono (by omega)) ag)) ag ag [] ag ag ag ag ag (by rintro vs H Q E ⟨_,_,_,rfl,_⟩;rfl) acQ),mg_of X G a29,Fw.kp,B29⟩
 have OP:=bP (st:=dG) l30 c30 k30
 have B30:=fi (ps:=JA) OP rfl fun _ _ _ _ _ _ _=>rfl
 have T30:qy l.prog w K mg base 1 "_law_word" (yN K [my,bI,mz,mB,mD,mE,mF,bM,mG,mH,mI,mJ,mK] jc):=Wk (k:=0) OP X6 (mg_of X G a30) B30 [("BadText", .ref my),("BadChange", .ref bI),("BadFit", .ref mz),("NoPlace", .ref mB),("BadSide", .ref mD),("NoMark", .ref mE),("NoNode", .ref mF),("NoCursor", .ref bM),("BadDeed", .ref mG),("BadLetter", .ref mH),("NoLetter", .ref mI),("NoHand", .ref mJ),("NoNote", .ref mK),("InkError", .ref jc)] kc d6 @Ye (az alT (az alU (az alV (az alW (az alX (az alY (az alZ (az al0 (az al1 (az al2 (az al4 (az al5 (az al6 (az OF ag)))))))))))))) (az iD (az alR ag)) (by rintro vs H Q E ⟨_,_,_,rfl,_⟩;rfl) aan
 have Fx:=bP (st:=rn) l31 c31 k31
 have B31:=pX (ps:=JF) Fx rfl fun _ _ _ _ _ _ _ _ _=>rfl
 have T31:bF l.prog w K mg base 1 "_law_gone" (N.vg):=⟨_,_,_,(bB (k:=0) Fx Yf [] [] nA [] [] [] [] Cn @Yg ag ag (az pZ (az eG ag)) [] ag ag ag ag ag (by rintro vs H Q E ⟨_,_,_,_,_,_,_,_,_,rfl,_⟩;rfl) N.aaq),mg_of X G a31,Fx.kp,B31⟩
 have Fy:=bP (st:=rq) l32 c32 k32
 have B32:=fi (ps:=uF) Fy rfl fun _ _ _ _ _ _ _=>rfl
 have T32:bF l.prog w K mg base 1 "_law_named" (N.vf):=⟨_,_,_,(bB (k:=0) Fy Yh [] [] nA [] [] [] [] Cm @Yi ag ag (az pZ (az eG ag)) [] ag ag ag ag ag (by rintro vs H Q E ⟨_,rfl,_⟩;rfl) N.aap),mg_of X G a32,Fy.kp,B32⟩
 have Fz:=bP (st:=rA) l33 c33 k33
 have B33:=gr (ps:=xZ) Fz rfl fun _ _ _ _ _ _ _ _=>rfl
 have T33:bF l.prog w K mg base 2 "_law_cursor" (N.vN):=⟨_,_,_,(bB (k:=1) Fz Yj [("_law_mixed",gd)] [] J5 [] [] [] [] yq @Yk (az (wd.mono (by omega)) ag) ag (az wa (az pY ag)) [] ag ag ag ag ag (by rintro vs H Q E ⟨_,_,rfl,_⟩;rfl) N.abT),mg_of X G a33,Fz.kp,B33⟩
 have FA:=bP (st:=rB) l34 c34 k34
 have B34:=pX (ps:=Kk) FA rfl fun _ _ _ _ _ _ _ _ _=>rfl
 have T34:bF l.prog w K mg base 3 "_law_drawn" (vT K):=⟨_,_,_,(bB (k:=2) FA Ym [("_law_cell_at",ke K),("_law_cursor",N.vN),("_law_mixed",gd)] [] Kl [] [] [] [] yr @Yn (az (ON.mono (by omega)) (az (T33.mono (by omega)) (az (wd.mono (by omega)) ag))) ag (az pZ ag) [] ag ag ag ag ag (by rintro vs H Q E ⟨_,_,_,_,rfl,_⟩;rfl) ach),mg_of X G a34,FA.kp,B34⟩
 have FC:=bP (st:=fD) l35 c35 k35
 have B35:=fi (ps:=Km) FC rfl fun _ _ _ _ _ _ _=>rfl
 have T35:bF l.prog w K mg base 1 "_law_settled" (N.h9):=⟨_,_,_,(bB (k:=0) FC Yo [] [] o6 [] [] [] [] hJ @Yu ag ag (az OC (az OB (az pY (az wa (az eG ag))))) [] ag ag ag ag ag (by rintro vs H Q E ⟨_,_,_,rfl,_⟩;rfl) N.abC),mg_of X G a35,FC.kp,B35⟩
 have FD:=bP (st:=rC) l36 c36 k36
 have B36:=gr (ps:=J6) FD rfl fun _ _ _ _ _ _ _ _=>rfl
 have T36:bF l.prog w K mg base 2 "_law_alike" (N.vO):=⟨_,_,_,(bB (k:=1) FD Yv [("_law_whole",nF)] [] J7 [] [] [] [] CU @Yw (az (T23.mono (by omega)) ag) ag (az iD (az sA (az eG (az Fc (az wb ag))))) [] ag ag ag ag ag (by rintro vs H Q E ⟨_,_,_,_,_,rfl,_⟩;rfl) N.abV),mg_of X G a36,FD.kp,B36⟩
 have FE:=bP (st:=rD) l37 c37 k37
 have B37:=gr (ps:=Kn) FE rfl fun _ _ _ _ _ _ _ _=>rfl
 have T37:bF l.prog w K mg base 1 "_law_places" (vU):=⟨_,_,_,(bB (k:=0) FE Yx [] [] nA [] [] [] [] CY @Yy ag ag (az pZ (az eG ag)) [] ag ag ag ag ag (by rintro vs H Q E ⟨_,_,_,_,_,_,_,_,_,rfl,_⟩;rfl) acj),mg_of X G a37,FE.kp,B37⟩
 have FF:=bP (st:=rE) l38 c38 k38
 have B38:=gr (ps:=Ko) FF rfl fun _ _ _ _ _ _ _ _=>rfl
 have T38:bF l.prog w K mg base 7 "_law_told" (pQ bI bM):=⟨_,_,_,(bB (k:=6) FF YC [("carried",N.sj bI bM)] [("InkError", .ref jc)] af [] [] [] [("_law_word",yN K [my,bI,mz,mB,mD,mE,mF,bM,mG,mH,mI,mJ,mK] jc)] C0 @YD (az ((OM.weak fun _ _ _ _ h=> (.inr h)).mono (by omega)) ag) (az OF ag) ag [] ag ag ag ag (az (T30.mono (by omega)) ag) (by rintro vs H Q E ⟨_,_,rfl,_⟩;rfl) (aco al7 al8 ajp ajL)),mg_of X G a38,FF.kp,B38⟩
 have FG:=bP (st:=dH) l39 c39 k39
 have B39:=pX (ps:=Kp) FG rfl fun _ _ _ _ _ _ _ _ _=>rfl
 have T39:bF l.prog w K mg base 8 "_law_refused" (vW):=⟨_,_,_,(bB (k:=7) FG YE [("_law_told",pQ bI bM)] [] kd [] [] [] [] dR @YN (az (T38.mono (by omega)) ag) ag (az zy (az eG (az wb (az wa ag)))) [] ag ag ag ag ag (by rintro vs H Q E ⟨_,_,_,_,_,rfl,_⟩;rfl) acB),mg_of X G a39,FG.kp,B39⟩
 have OQ:=bP (st:=dS) fK c40 k40
 have B40:=fi (ps:=Kq) OQ rfl fun _ _ _ _ _ _ _=>rfl
 exact cw.top (bB (k:=8) OQ YO [("_law_text",pb),("_law_cell_at",ke K),("_law_size",uU),("_law_named",N.vf),("_law_settled",N.h9),("_law_drawn",vT K),("_law_change",vY),("_law_mixed",gd),("_law_gone",N.vg),("_law_places",vU),("carried",N.pO),("_law_alike",N.vO),("_law_refused",vW)] [] nE [] [] [] [] fE @YW (az (OO.mono (by omega)) (az (ON.mono (by omega)) (az (T26.mono (by omega)) (az (T32.mono (by omega)) (az (T35.mono (by omega)) (az (T34.mono (by omega)) (az (T29.mono (by omega)) (az (wd.mono (by omega)) (az (T31.mono (by omega)) (az (T37.mono (by omega)) (az ((OM.weak fun _ _ _ _ h=> (.inl h)).mono (by omega)) (az (T36.mono (by omega)) (az (T39.mono (by omega)) ag))))))))))))) ag (az eG (az pZ (az pY (az sA ag)))) [] ag ag ag ag ag (by rintro vs H Q E ⟨_,_,rfl,_⟩;rfl) adq)
theorem walk{l:PySem.W.OpenLaw}{q:Program}{loose:List Str}{XP:(Str→Option Value)→Heap→Prop}{YP:World→Heap→Prop}{d:DefRec}{K:Params→Frag}(hn:l.most=some 63)(tD:d.params.defaults=[])
  (hY: ∀(w:World) (h:Heap),YP w h→(K w.params).In h)
  (F: ∀(w:World) (mg:Str→Option Value) (fa:Addr) (h:Heap),(K w.params).In h→h.Ns mainGlobals mg→mg d.name=some (.ref fa)→
   ∃fd:FuncData,(∀(s:Shared) (u:Value),BindsTo s fd ⟨[u],[]⟩ [("_law_script",u)])∧ ∀base:Heap,(K w.params).In base→base.Ns mainGlobals mg→cw l.prog w (K w.params) mg base wV 9 fa fd ["_law_script"] ((fun K=> (fun vs H Q _=> (zx K) vs H Q E0)) (K w.params))):
  PySem.W.WalkO q loose XP YP l.row.toRowW d [] (fun f vs=>PySem.call f vs):=
 L2.R0 (n:=63) (k:=9) (x:="_law_script") (CX:=fun _=>wV) (sp:=fun w=> (fun K=> (fun vs H Q _=> (zx K) vs H Q E0)) (K w.params)) hn (by decide) tD ⟨rfl,by decide,by decide⟩ hY F (fun _ _ a ns hl _ hS=> ⟨a,ns,rfl,hS,fun _=>rfl⟩) fun _ _ _ _ _ z=>z
end L2.lU
namespace PySem.W.Fast
def tw10982421514878403030:=()
def tw6206230970036721076:=()
def tw18154089399116467905:=()
def tw10708258720185087785:=()
def tw17022547796157959536:=()
def tw6416885224131948281:=()
def tw12230631531571420633:=()
def tw8785418449250388752:=()
def tw7119738158233318060:=()
def tw17372816699701487896:=()
def tw7703332851939329143:=()
def tw14824647402603485718:=()
def tw16762788438110701285:=()
def tw17955174195862685684:=()
def tw11153031786678152560:=()
def tw14278255208482332248:=()
def tw1539039721498247890:=()
def tw5620922928814617063:=()
def tw13593562884776894541:=()
def tw6872116793370634821:=()
def tw819575744161828255:=()
def tw8174900371154327677:=()
def tw14373198085901134857:=()
def tw13512907204753994365:=()
def tw17307135972758491994:=()
def tw15956681905511923396:=()
def tw12485491738438557230:=()
def tw10033982009721454522:=()
def tw14901096261310245672:=()
def tw4376857346768742701:=()
def tw14167240333472906877:=()
def tw17953726816952911087:=()
def tw2018929447177851566:=()
def tw6021668756771166853:=()
def tw4140493424191401745:=()
def tw5226737795918880739:=()
def tw5750583353270482845:=()
def tw17279510101479521006:=()
def tw13831989629871703993:=()
def tw14561245743651632184:=()
def tw11155570226813433169:=()
def tw399128938070604954:=()
def tw8666873492465059388:=()
def tw16539885208484105808:=()
def tw11007543439699764937:=()
def tw12877683847189328297:=()
def tw3872918575876966434:=()
def tw2066668499330004175:=()
def tw7370819907996085403:=()
def tw2594340949761613620:=()
def tw8652306731017055488:=()
def tw8988265786881255245:=()
def tw5154995116869528257:=()
def tw11241730993963066336:=()
def tw10790977876409656501:=()
def tw4374884809428968586:=()
def tw12381298430747438606:=()
def tw17408957419774601330:=()
def tw13911327305701809735:=()
def tw11382867545109955658:=()
def tw13181416142481394380:=()
def tw2615659070293884654:=()
def tw12026543311217210518:=()
def tw1764834457161030149:=()
def tw9425654762693858532:=()
def tw11103703307187547106:=()
def tw1522882647749559112:=()
def tw7408585777546790886:=()
def tw16167987864987408359:=()
def tw3333068685798135200:=()
def tw15938529097739631548:=()
def tw14421634279806318033:=()
def tw9481249924646362830:=()
def tw7357109928117856617:=()
def tw4428893310221927483:=()
def tw1608521950062681669:=()
def tw6625541251299371422:=()
def tw2636424630984016832:=()
def tw15079486875476932363:=()
def tw5421754648675996570:=()
def tw9382188194709909360:=()
def tw9832582755135046642:=()
def tw8110372991575880636:=()
def tw9225274374763464815:=()
def tw16102867981324403722:=()
def tw3615723568432807497:=()
def tw1658139688066718608:=()
def tw1031427888435502729:=()
def tw6101552304363892016:=()
def tw12687948557848071102:=()
def tw9528908889295652379:=()
def tw16418204930008348416:=()
def tw14762044407885805935:=()
def tw4502709293820243599:=()
def tw3110911292413829552:=()
def tw12246740872740094061:=()
def tw4593277193999701460:=()
def tw8769204817095112116:=()
def tw16705200544037240646:=()
def tw5636459695435330056:=()
def tw1548091976793409213:=()
def tw4490335708565105289:=()
def tw13327762226458382392:=()
def tw6484306930201017284:=()
def tw14220509840008418093:=()
def tw2437151432836535645:=()
def tw57531627702228183:=()
def tw16317836565079572168:=()
def tw16388170661809072201:=()
def tw3199645359050367137:=()
def tw2874525772117584488:=()
def tw13346823801649600158:=()
def tw2220458201285470776:=()
def tw13259161723469606500:=()
def tw7871495037684038057:=()
def tw3117905665869780032:=()
def tw2315473934777587665:=()
def tw13846076169936153200:=()
def tw11245219102333112358:=()
def tw18221612906773623987:=()
def tw10715745179946027049:=()
def tw13563395717089540730:=()
def tw15450451405184837283:=()
def tw8731792824526662880:=()
def tw11244645543878246450:=()
def tw2797567904953230277:=()
def tw17119843702350089618:=()
def tw8657883659220655577:=()
def tw7452958302800730606:=()
def tw14116916043568907703:=()
def tw12766326169588626351:=()
def tw15637817160732273345:=()
def tw11163195009617740179:=()
def tw646146204484363866:=()
def tw8052903114090316131:=()
def tw3241174782334450854:=()
def tw13692132520500408448:=()
def tw2168745688537144633:=()
def tw1988541047893507607:=()
def tw12798680551542735619:=()
def tw2464576664220970686:=()
def tw6106469697596900704:=()
def tw12515325101312294760:=()
def tw3133969920529294921:=()
def tw13615487848988180090:=()
def tw7156219542509966517:=()
def tw3064411619682339577:=()
def tw11589094330645030676:=()
def tw12520570730802592015:=()
def tw7165342771425992575:=()
def tw18195103764533555167:=()
def tw336976631696268530:=()
def tw10036433712752135752:=()
def tw7686548419653525049:=()
def tw16840070429788190377:=()
def tw17618176228151619253:=()
def tw2334302969647714716:=()
def tw18386696070068749188:=()
def tw11402078760448797509:=()
def tw13812473402710819945:=()
def tw4857280807783680153:=()
def tw11149335232795609312:=()
def tw12393499354644278119:=()
def tw380843241548067207:=()
def tw7904387055885429783:=()
def tw4897960680286352198:=()
def tw8725471132563539558:=()
def tw9802855499534086133:=()
end PySem.W.Fast
open PySem PySem.W PyProof.Rows
set_option maxRecDepth 100000 in
set_option maxHeartbeats 0 in
theorem PySem.Challenge.cw_inkloom_k33_cursors_carried_holds : PySem.Challenge.rw_inkloom_k33_cursors_carried.Holds := by
 w_on;o_law;k_head;(case hw=>w_witness2)
 k_fill
 refine L2.lU.walk (l:=PySem.Challenge.rw_inkloom_k33_cursors_carried) rfl rfl (fun w h Y=>PySem.W.kIn_of Y) ?F
 case F=>
  intro w mg fa h KX G lj
  refine' L2.lU.all_mk KX G lj ..
  all_goals try first | k_is | k_exc | kernel_rfl
