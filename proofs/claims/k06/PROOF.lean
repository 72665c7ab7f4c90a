import PyProof.Rows.All
import Wide.All
import OpenK.AllK
import Wide.FinOn
import Lean
import PyProof.EqAt
import PyProof.EqKinds
import PyProof.TupleCall
import PyProof.Rows.EqDataRows
import PyProof.DictList
import PyProof.FactsAll.dict_1
import PyProof.FactsAll.subtypes_4
import KE.KTryMore
import PyProof.WalksEnum
import PyProof.EnumMake
import PyProof.ListStr
import PyProof.TupleOfStr
import PyProof.Dict
import PySem.Challenge.RW_inkloom_k06_one_then_the_other
set_option Elab.async false
set_option linter.all false
set_option maxRecDepth 100000
set_option compiler.extract_closed false
noncomputable section
open PySem.W (InstAt callWith_K cellsFrom_some codeIn codeRec_of emptyDict exmOne fnOf handedIn hasDictIn hideAll hideAll_get instObj isFn keepIn kia_one kitOne kitx_dict kitx_list lookIn makesIn methodObj mg_none_of of_hideAll plainGet plainGet_of plainOver takerIn)
namespace L2
open PySem PySem.Spec PyProof.Rows
abbrev Key:=Sum Int Str
def qj:Key→Value→Bool
 | .inl k,v=>Value.isInt k v
 | .inr x,v=>Value.isStrOf x v
def Rc(w:World):Key→Int
 | .inl k=>hashInt k
 | .inr x=>hashStr w x
theorem kd: ∀{k:Key} {v:Value},qj k v=true→(∃i t,k=Sum.inl i∧v=Value.int i t)∨(∃x t,k=Sum.inr x∧v=Value.str x t)
 | .inl i,v,h=>by
  obtain⟨t,e⟩:=Value.isInt_shape (k:=i) (v:=v) h
  exact .inl ⟨i,t,rfl,e⟩
 | .inr x,v,h=>by
  obtain⟨t,e⟩:=Value.isStrOf_shape (x:=x) (v:=v) h
  exact .inr ⟨x,t,rfl,e⟩
theorem Rf(i:Int)(t:Tok):qj (.inl i) (.int i t)=true:=by simp[qj,Value.isInt]
theorem Rg(x:Str)(t:Tok):qj (.inr x) (.str x t)=true:=by simp[qj,Value.isStrOf]
theorem Rh(a b:Int):decide ((Sum.inl a:Key)=Sum.inl b)=(a==b):=by
 by_cases e:a=b
 ·subst e;simp
 ·have h: ¬(Sum.inl a:Key)=Sum.inl b:=fun q=>e (Sum.inl.inj q)
  rw[decide_eq_false h]
  exact(beq_eq_false_iff_ne.mpr e).symm
theorem Ri(a b:Str):decide ((Sum.inr a:Key)=Sum.inr b)=decide (a=b):=by
 by_cases e:a=b
 ·subst e;simp
 ·have h: ¬(Sum.inr a:Key)=Sum.inr b:=fun q=>e (Sum.inr.inj q)
  rw[decide_eq_false h,decide_eq_false e]
theorem Rj(a:Int)(b:Str):decide ((Sum.inl a:Key)=Sum.inr b)=false:=decide_eq_false (fun q=>nomatch q)
theorem Rk(a:Str)(b:Int):decide ((Sum.inr a:Key)=Sum.inl b)=false:=decide_eq_false (fun q=>nomatch q)
def eh(prog:Program)(w:World):PySem.KeyKind prog w Key where
 is:=qj
 hash:=Rc w
 inj:=fun v a b ha hb=>by
  rcases kd ha with⟨i,t,rfl,rfl⟩ | ⟨x,t,rfl,rfl⟩
  ·rcases kd hb with⟨j,u,rfl,e⟩ | ⟨y,u,rfl,e⟩
   ·injection e with e1 _;rw[e1]
   ·exact nomatch e
  ·rcases kd hb with⟨j,u,rfl,e⟩ | ⟨y,u,rfl,e⟩
   ·exact nomatch e
   ·injection e with e1 _;rw[e1]
 byValue:=fun k v h=>by
  rcases kd h with⟨i,t,rfl,rfl⟩ | ⟨x,t,rfl,rfl⟩ <;>rfl
 pyHash:=fun hv h=>by
  rcases kd hv with⟨i,t,rfl,rfl⟩ | ⟨x,t,rfl,rfl⟩
  ·exact wpAny_pyHash_int h
  ·exact wpAny_pyHash_str h
 eqBool:=fun hu hv h=>by
  rcases kd hu with⟨i,t,rfl,rfl⟩ | ⟨x,t,rfl,rfl⟩
  ·rcases kd hv with⟨j,u,rfl,rfl⟩ | ⟨y,u,rfl,rfl⟩
   ·rw[Rh] at h;exact wpAny_eqBool_int h
   ·rw[Rj] at h;exact SeqAt.EqAt.int_str i t y u _ _ _ _ h
  ·rcases kd hv with⟨j,u,rfl,rfl⟩ | ⟨y,u,rfl,rfl⟩
   ·rw[Rk] at h;exact SeqAt.EqAt.str_int x t j u _ _ _ _ h
   ·rw[Ri] at h;exact wpAny_eqBool_str h
 «strs»:=fun k x t v h=>by
  rcases kd h with⟨i,u,rfl,e⟩ | ⟨y,u,rfl,e⟩
  ·exact nomatch e
  ·injection e with e1 _
   subst e1
   cases v<;>rfl
theorem IH(prog:Program)(w:World)(i:Int)(t:Tok):(eh prog w).is (.inl i) (.int i t)=true:=Rf i t
theorem II(prog:Program)(w:World)(x:Str)(t:Tok):(eh prog w).is (.inr x) (.str x t)=true:=Rg x t
inductive V where
 | aq | bl (b:Bool) | int (i:Int) | str (x:Str) | fh (b:Array UInt8) | mz (b:UInt64) | ref (a:Addr) | ty (n:String)
 deriving DecidableEq
def RelV:V→Value→Prop
 | .aq,u=>u=Value.none
 | .bl b,u=>u=Value.bool b
 | .int i,u=> ∃t,u=Value.int i t
 | .str x,u=> ∃t,u=Value.str x t
 | .fh b,u=> ∃t,u=Value.bytes b t
 | .mz b,u=> ∃t,u=Value.float b t
 | .ref a,u=>u=Value.ref a
 | .ty n,u=>u=Value.type n
abbrev Vals:List V→List Value→Prop:=Paired RelV
theorem Vals.length{xs:List V}{us:List Value}(r:Vals xs us):xs.length=us.length:=Paired.length r
theorem Vals.get: ∀{xs:List V} {us:List Value} {i:Nat} {x:V},Vals xs us→xs[i]?=some x→ ∃u,us[i]?=some u∧RelV x u
 | _,_,_,_, .nil,e=>by simp at e
 | _,_,0,_, .cons r _,e=>by simp at e;subst e;exact⟨_,rfl,r⟩
 | _,_,i+1,x, .cons _ t,e=>by
  obtain⟨u,h1,h2⟩:=Vals.get (i:=i) (x:=x) t (by simpa using e)
  exact⟨u,by simpa using h1,h2⟩
theorem Vals.set{x:V}{u:Value}(r:RelV x u): ∀{xs:List V} {us:List Value} (i:Nat),Vals xs us→Vals (xs.set i x) (us.set i u)
 | _,_,_, .nil=> .nil
 | _,_,0, .cons _ t=> .cons r t
 | _,_,i+1, .cons q t=> .cons q (Vals.set r i t)
theorem Vals.append: ∀{xs ys:List V} {us ws:List Value},Vals xs us→Vals ys ws→Vals (xs++ys) (us++ws)
 | _,_,_,_, .nil,s=>s
 | _,_,_,_, .cons r t,s=> .cons r (Vals.append t s)
theorem Vals.take: ∀{xs:List V} {us:List Value} (n:Nat),Vals xs us→Vals (xs.take n) (us.take n)
 | _,_,0,_=> .nil
 | _,_,_+1, .nil=> .nil
 | _,_,n+1, .cons r t=> .cons r (Vals.take n t)
theorem Vals.drop: ∀{xs:List V} {us:List Value} (n:Nat),Vals xs us→Vals (xs.drop n) (us.drop n)
 | _,_,0,r=>r
 | _,_,_+1, .nil=> .nil
 | _,_,n+1, .cons _ t=>Vals.drop n t
def fH:Option V→Option Value→Prop
 | some v,some u=>RelV v u
 | none,none=>True
 | _,_=>False
def KV{κ:Type}:List (κ×V)→List (κ×Value)→Prop:=Paired fun(p:κ×V) (q:κ×Value)=>p.1=q.1∧RelV p.2 q.2
def kV:Key→V
 | .inl i=> .int i
 | .inr x=> .str x
inductive HO where
 | lst (xs:List V)
 | tup (xs:List V)
 | dK (ao:List (Key×V)) | dT (ao:List (List Key×V))
 | set (S:Int→Bool) (n:Nat)
 | ins (C dx:Addr) (fs:List (Str×V))
 | own (x:Addr)
 | xd (fs:List (Str×V))
 | met (f x:Addr)
 | fI (lo hi:Int)
 | bQ (o:Obj) (u:HO)
 | jy (ps:Array Value)
 | ext (φ:Heap→Prop)
abbrev Hp:=Addr→Option HO
def upd(H:Hp)(a:Addr)(o:HO):Hp:=fun b=>if b=a then some o else H b
theorem ay{H:Hp}{a:Addr}{o:HO}:upd H a o a=some o:=by unfold upd;rw[if_pos rfl]
theorem aI{H:Hp}{a b:Addr}{o:HO}(h:b≠a):upd H a o b=H b:=by unfold upd;rw[if_neg h]
theorem vN{H:Hp}{a:Addr}{o u:HO}:upd (upd H a o) a u=upd H a u:=by
 funext b;unfold upd;split<;>rfl
theorem gM{H:Hp}{a b:Addr}{o u:HO}(h:H a=some o)(h':H b=some u)(d:o≠u):a≠b:=by
 intro e;subst e;rw[h] at h';exact d (Option.some.inj h')
theorem bz{H:Hp}{a b:Addr}{o:HO}(h:H a=some o)(h':H b=none):a≠b:=by
 intro e;subst e;rw[h] at h';cases h'
section
variable (P:Program) (w:World)
def cG(H:Hp)(h:Heap)(a:Addr):HO→Prop
 | .lst xs=>xs.length≤sizeLine∧ ∃(its:List Value) (n:Nat),Vals xs its∧h.get? a=some {cls:= .type "list",data:= .seq its.toArray n}
 | .tup xs=>xs.length≤sizeLine∧ ∃its:List Value,Vals xs its∧IsTup h a its.toArray
 | .dK ao=>ao.length≤sizeLine∧(a==sysModules)=false∧ ∃vs,KV ao vs∧h.DictOf (eh P w) a vs
 | .dT ao=>ao.length≤sizeLine∧(a==sysModules)=false∧ ∃xs:List (List Key×Addr×Value),
   Paired (fun(p:List Key×V) (q:List Key×Addr×Value)=>p.1=q.1∧H q.2.1=some (.tup (p.1.map kV))∧RelV p.2 q.2.2) ao xs∧
   ∃o es ep,h.get? a=some o∧o.ExactDict∧o.data= .dict es ep∧es.toList=xs.map (entryOfKey (tupleKind (eh P w)))∧(xs.map (·.1)).Nodup
 | .set S n=>h.SetOf (intKind P w) a S n
 | .ins C dx fs=>H dx=some (.own a)∧fs.length≤1000∧dx≠a∧h.get? a=some (instObj C dx)∧
   ∃mA,h.Ns1 dx mA∧(∀f,fH (fs.lookup f) (mA f))∧PySem.Within mA (fs.map (·.1))
 | .own _=> ∃o,h.get? a=some o
 | .xd fs=> ∃mA,h.Ns1 a mA∧ ∀f,fH (fs.lookup f) (mA f)
 | .fI lo hi=> ∃t u v,h.get? a=some {cls:= .type "range",data:= .fields #[.int lo t, .int hi u, .int 1 v]}
 | .bQ o u=>h.get? a=some o∧cG H h a u
 | .jy ps=>h.get? a=some {cls:= .none,data:= .fields ps}
 | .met f x=>h.get? a=some (methodObj (.ref f) (.ref x))
 | .ext φ=>φ h∧(∃o,h.get? a=some o)∧ ∀h1 h2:Heap,φ h1→(∀o,h1.get? a=some o→h2.get? a=some o)→φ h2
def b_(H:Hp)(h:Heap):Prop:= ∀a o,H a=some o→cG P w H h a o
end
section
variable {P:Program} {w:World} {H H':Hp} {h h':Heap} {a:Addr} {o:HO}
theorem cG.lt(x:cG P w H h a o):a<h.objs.size:=by
 cases o with
 | lst xs=>obtain⟨_,_,_,_,e⟩:=x;exact Heap.lt_size e
 | tup xs=>obtain⟨_,_,_,p⟩:=x;exact p.lt
 | dK ao=>obtain⟨_,_,_,_,o,_,_,e,_⟩:=x;exact Heap.lt_size e
 | dT ao=>obtain⟨_,_,_,_,o,_,_,e,_⟩:=x;exact Heap.lt_size e
 | set S n=>obtain⟨o,_,_,_,e,_⟩:=x;exact Heap.lt_size e
 | ins C dx fs=>obtain⟨_,_,_,e,_⟩:=x;exact Heap.lt_size e
 | own y=>obtain⟨_,e⟩:=x;exact Heap.lt_size e
 | xd fs=>obtain⟨_,⟨_,_,_,e,_⟩,_⟩:=x;exact Heap.lt_size e
 | fI lo hi=>obtain⟨_,_,_,e⟩:=x;exact Heap.lt_size e
 | bQ ob u=>obtain⟨e,_⟩:=x;exact Heap.lt_size e
 | jy ps=>exact Heap.lt_size (show h.get? a=some _ from x)
 | met f y=>exact Heap.lt_size (show h.get? a=some _ from x)
 | ext φ=>obtain⟨_,⟨_,e⟩,_⟩:=x;exact Heap.lt_size e
theorem Paired.zk{α β:Type}{F G:α→β→Prop}: ∀{l₁:List α} {l₂:List β},Paired F l₁ l₂→(∀a b,F a b→G a b)→Paired G l₁ l₂
 | _,_, .nil,_=> .nil
 | _,_, .cons r t,f=> .cons (f _ _ r) (Paired.zk t f)
theorem cG.jz(x:cG P w H h a o)(k: ∀b u,(b=a∨H b=some (.own a))→h.get? b=some u→h'.get? b=some u)
  (ho: ∀b,H b=some (.own a)→H' b=some (.own a)) (ht: ∀b xs,H b=some (.tup xs)→H' b=some (.tup xs)):cG P w H' h' a o:=by
 induction o with
 | lst xs=>obtain⟨z,its,n,r,e⟩:=x;exact⟨z,its,n,r,k _ _ (.inl rfl) e⟩
 | tup xs=>obtain⟨z,its,r,ob,e,c⟩:=x;exact⟨z,its,r,ob,k _ _ (.inl rfl) e,c⟩
 | dK ao=>obtain⟨z,y,vs,r,ob,es,ep,e,c⟩:=x;exact⟨z,y,vs,r,ob,es,ep,k _ _ (.inl rfl) e,c⟩
 | dT ao=>
  obtain⟨z,y,xs,r,ob,es,ep,e,c⟩:=x
  exact⟨z,y,xs,Paired.zk r fun p q z=> ⟨z.1,ht _ _ z.2.1,z.2.2⟩,ob,es,ep,k _ _ (.inl rfl) e,c⟩
 | set S n=>obtain⟨ob,es,ep,t,e,c⟩:=x;exact⟨ob,es,ep,t,k _ _ (.inl rfl) e,c⟩
 | ins C dx fs=>
  obtain⟨d,z,ne,e,mA,⟨od,es,ep,e2,c⟩,r⟩:=x
  exact⟨ho _ d,z,ne,k _ _ (.inl rfl) e,mA,⟨od,es,ep,k _ _ (.inr d) e2,c⟩,r⟩
 | own y=>obtain⟨ob,e⟩:=x;exact⟨ob,k _ _ (.inl rfl) e⟩
 | xd fs=>obtain⟨mA,⟨od,es,ep,e,c⟩,r⟩:=x;exact⟨mA,⟨od,es,ep,k _ _ (.inl rfl) e,c⟩,r⟩
 | fI lo hi=>obtain⟨t,u,v,e⟩:=x;exact⟨t,u,v,k _ _ (.inl rfl) e⟩
 | bQ ob u ih=>obtain⟨e,q⟩:=x;exact⟨k _ _ (.inl rfl) e,ih q⟩
 | jy ps=>
  have e:h.get? a=some {cls:= .none,data:= .fields ps}:=x
  show h'.get? a=some {cls:= .none,data:= .fields ps}
  exact k a _ (.inl rfl) e
 | met f y=>
  have e:h.get? a=some (methodObj (.ref f) (.ref y)):=x
  show h'.get? a=some (methodObj (.ref f) (.ref y))
  exact k a _ (.inl rfl) e
 | ext φ=>obtain⟨p,⟨o,e⟩,st⟩:=x;exact⟨st _ _ p fun o q=>k _ _ (.inl rfl) q,⟨o,k _ _ (.inl rfl) e⟩,st⟩
theorem b_.lt(x:b_ P w H h)(e:H a=some o):a<h.objs.size:=(x a o e).lt
theorem b_.fresh(x:b_ P w H h)(e:h.objs.size≤a):H a=none:=by
 cases q:H a with
 | none=>rfl
 | some u=>exact absurd (Nat.lt_of_lt_of_le (x.lt q) e) (Nat.lt_irrefl _)
theorem b_.kept(x:b_ P w H h)(k: ∀b u,h.get? b=some u→h'.get? b=some u):b_ P w H h':=fun a o e=>
 (x a o e).jz (fun b u _ q=>k b u q) (fun _ q=>q) fun _ _ q=>q
theorem b_.laid(x:b_ P w H h)(k: ∀b u,h.get? b=some u→h'.get? b=some u)(hp:h.objs.size≤a)(new:cG P w (upd H a o) h' a o):b_ P w (upd H a o) h':=fun b u e=>by
 have hn:=x.fresh hp
 by_cases hb:b=a
 ·subst hb;rw[ay] at e;cases e;exact new
 ·rw[aI hb] at e
  exact(x b u e).jz (fun c v _ q=>k c v q) (fun c q=>by rw[aI (bz q hn)];exact q) fun c xs q=>by rw[aI (bz q hn)];exact q
end
def Rd(H:Hp)(a:Addr)(u:HO):Prop:=H a=some u∨ ∃o,H a=some (.bQ o u)
theorem Rd.ok{P:Program}{w:World}{H:Hp}{h:Heap}{a:Addr}{u:HO}(r:Rd H a u)(x:b_ P w H h):cG P w H h a u:=by
 rcases r with r | ⟨o,r⟩
 ·exact x a u r
 ·obtain⟨_,q⟩:=x a _ r
  exact q
def sv:Option HO→Prop
 | some (.lst _)=>True
 | some (.dK _)=>True
 | some (.dT _)=>True
 | some (.set _ _)=>True
 | some (.ins _ _ _)=>True
 | some (.ext _)=>True
 | _=>False
section
variable {P:Program} {w:World} {H:Hp} {h h':Heap} {x e:Addr} {o':HO}
theorem b_.write(ok:b_ P w H h)(mu:sv (H x))(he:e=x∨H e=some (.own x))(k: ∀b u,b≠e→h.get? b=some u→h'.get? b=some u)(qk: ∃u,h'.get? e=some u)
  (new:cG P w (upd H x o') h' x o'):b_ P w (upd H x o') h':=fun b u q=>by
 have IJ: ∀c y,H c=some (.own y)→c≠x:=fun c y r z=>by subst z;rw[r] at mu;exact mu
 have Rl: ∀c xs,H c=some (.tup xs)→c≠x:=fun c xs r z=>by subst z;rw[r] at mu;exact mu
 by_cases hb:b=x
 ·subst hb;rw[ay] at q;cases q;exact new
 ·rw[aI hb] at q
  by_cases nB:b=e
  ·have q':H b=some (.own x):=by
    rcases he with z | z
    ·exact absurd (nB.trans z) hb
    ·rw[nB];exact z
   rw[q] at q';cases q'
   obtain⟨v,hv⟩:=qk
   exact⟨v,by rw[nB];exact hv⟩
  ·refine(ok b u q).jz (fun c v hc r=>k c v ?_ r) (fun c r=>by rw[aI (IJ c b r)];exact r) fun c xs r=>by rw[aI (Rl c xs r)];exact r
   rcases hc with rfl | hc
   ·exact nB
   ·rintro rfl
    rcases he with z | z
    ·exact IJ c b hc z
    ·rw[hc] at z;cases z;exact hb rfl
end
structure Un (fs ex:List Addr) (H H':Hp) (h h':Heap):Prop where
 keep: ∀b o,h.get? b=some o→H b=none→b∉fs→b∉ex→h'.get? b=some o
 slot: ∀b o,h.get? b=some o→H b=none→b∈fs→b∉ex→ ∃sl,h'.get? b=some {o with slots:=sl}
 free: ∀b o,h.get? b=some o→H b=none→b∉ex→H' b=none
 there: ∀b o,h.get? b=some o→b∉ex→ ∃o',h'.get? b=some o'
 da: ∀b xs,H b=some (.tup xs)→H' b=some (.tup xs)
 eQ: ∀b o u,H b=some (.bQ o u)→H' b=some (.bQ o u)
 fJ: ∀b ps,H b=some (.jy ps)→ ∃more,H' b=some (.jy (ps++more))
section
variable {fs Rm ex ex':List Addr} {H H1 H2:Hp} {h h1 h2 h':Heap} {a x e:Addr} {o:HO}
theorem Un.any(u:Un fs ex H H1 h h1){b:Addr}{ob:Obj}(q:h.get? b=some ob)(n:H b=none)(hx:b∉ex): ∃sl,h1.get? b=some {ob with slots:=sl}:=by
 by_cases hb:b∈fs
 ·exact u.slot b ob q n hb hx
 ·exact⟨ob.slots,u.keep b ob q n hb hx⟩
theorem Un.kept(k: ∀b u,h.get? b=some u→h'.get? b=some u):Un fs ex H H h h':=
 ⟨fun b ob q _ _ _=>k b ob q,fun b ob q _ _ _=> ⟨ob.slots,k b ob q⟩,fun _ _ _ n _=>n,fun b ob q _=> ⟨ob,k b ob q⟩,fun _ _ q=>q,fun _ _ _ q=>q,fun _ ps q=> ⟨#[],by rw[q];simp⟩⟩
theorem Un.refl:Un fs ex H H h h:=Un.kept fun _ _ q=>q
theorem Un.laid(k: ∀b u,h.get? b=some u→h'.get? b=some u)(hp:h.objs.size≤a)(hn:H a=none):Un fs ex H (upd H a o) h h' where
 keep:=fun b u q _ _ _=>k b u q
 slot:=fun b u q _ _ _=> ⟨u.slots,k b u q⟩
 free:=fun b u q n _=>by rw[aI (Nat.ne_of_lt (Nat.lt_of_lt_of_le (Heap.lt_size q) hp))];exact n
 there:=fun b u q _=> ⟨u,k b u q⟩
 da:=fun b xs q=>by rw[aI (bz q hn)];exact q
 eQ:=fun b u xs q=>by rw[aI (bz q hn)];exact q
 fJ:=fun b ps q=> ⟨#[],by rw[aI (bz q hn),q];simp⟩
theorem Un.write(mu:sv (H x))(he:e=x∨H e=some (.own x))(k: ∀b u,b≠e→h.get? b=some u→h'.get? b=some u)(qk: ∃u,h'.get? e=some u):Un fs ex H (upd H x o) h h':=by
 have hx: ∀b,H b=none→b≠x:=fun b n z=>by subst z;rw[n] at mu;exact mu
 have hb: ∀b,H b=none→b≠e:=fun b n z=>by
  subst z
  rcases he with r | r
  ·exact hx b n r
  ·rw[n] at r;cases r
 have hm: ∀b u,H b=some u→ ¬sv (some u)→b≠x:=fun b u q nm z=>by subst z;rw[q] at mu;exact nm mu
 refine⟨fun b u q n _ _=>k b u (hb b n) q,fun b u q n _ _=> ⟨u.slots,k b u (hb b n) q⟩,fun b u q n _=>by rw[aI (hx b n)];exact n,fun b u q _=> ?_,
  fun b xs q=>by rw[aI (hm b _ q fun z=>z)];exact q,fun b u xs q=>by rw[aI (hm b _ q fun z=>z)];exact q,fun b ps q=> ⟨#[],by rw[aI (hm b _ q fun z=>z),q];simp⟩⟩
 by_cases nB:b=e
 ·subst nB;exact qk
 ·exact⟨u,k b u nB q⟩
end
def jA(h:Heap)(H:Hp):List Addr:=(List.range h.objs.size).filter fun a=> (H a).isSome
def ke(h:Heap)(H:Hp):Heap:=hideAll h (jA h H)
theorem Rn(h:Heap)(H:Hp):(ke h H).objs.size=h.objs.size:=PySem.W.hideAll_size _ _
theorem Ro{h:Heap}{H:Hp}{b:Addr}{o:Obj}(e:h.get? b=some o)(n:H b=none):(ke h H).get? b=some o:=
 hideAll_get _ e fun hm=>by
  have q:(H b).isSome=true:=(List.mem_filter.mp hm).2
  rw[n] at q;simp at q
theorem Rp{h:Heap}{H:Hp}{b:Addr}{o:Obj}(e:(ke h H).get? b=some o):h.get? b=some o∧H b=none:=by
 have e':h.get? b=some o:=of_hideAll (jA h H) e
 refine⟨e', ?_⟩
 cases q:H b with
 | none=>rfl
 | some x=>
  have hm:b∈jA h H:=List.mem_filter.mpr ⟨List.mem_range.mpr (Heap.lt_size e'),by simp[q]⟩
  have z:(ke h H).get? b=none:=PySem.W.hideAll_none (jA h H) hm
  rw[z] at e;cases e
structure Mod (K:PySem.W.Frag) (mg:Str→Option Value) (base:Heap):Prop where
 nC:K.In base
 glob:base.Ns mainGlobals mg
 blt: ∃mb,base.Ns builtinsNs mb∧ ∀x:Str,x≠"__name__"→mb x=bootBuiltins x
 nolimit:base.NoLimit
structure Cx where
 prog:Program
 w:World
 K:PySem.W.Frag
 mg:Str→Option Value
 base:Heap
 A:Around
 N:List Str
 s₀:Shared
 H₀:Hp
 env:Env
 outer:List Env
 stack:List Env
 ex:List Addr
 fn:Str→Bool
 calm:Bool
 pn:List (Addr×Obj)
 xe:Value→Shared→Prop
def bC(l:List Env):List Addr:=l.filterMap (·.frame)
abbrev Cx.fs(X:Cx):List Addr:=bC X.outer
def vO(sc:Scope)(x:Str):Prop:=sc.names.lookup x=some .local∨sc.names.lookup x=some .cell∨sc.names.lookup x=some .free
def Loc(sc:Scope)(x:Str):Prop:=sc.names.lookup x=some .local∨sc.names.lookup x=some .cell
def Look(env:Env)(h:Heap)(m:Str→Option Value)(x:Str)(u:Value):Prop:=
 (env.kindOf x=some .local∧m x=some u)∨((env.kindOf x=some .cell∨env.kindOf x=some .free)∧ ∃c,env.cells.lookup x=some c∧h.IsCell c (some u))
structure Cx.Ok (X:Cx):Prop where
 mod:Mod X.K X.mg X.base
 kind:X.env.scope.kind= .function
 glob:X.env.globals=mainGlobals
 blt:X.env.builtins=builtinsNs
 above:X.s₀.heap.objs.size≤X.env.locals
 inj: ∀x y c,X.env.cells.lookup x=some c→X.env.cells.lookup y=some c→x=y
 has: ∀x,(X.env.kindOf x=some .cell∨X.env.kindOf x=some .free)→ ∃c,X.env.cells.lookup x=some c
 vP: ∀x c,X.fn x=true→X.env.cells.lookup x=some c→X.s₀.heap.objs.size≤c
 hd:X.calm=true→X.A.handled=none
 frames:X.A.frames=some X.stack
 iA:X.stack=X.outer∨(X.stack=X.env::X.outer∧X.env.frame=some X.env.locals)
 Rq: ∀b∈X.ex,b≠X.env.locals∧ ∀x c,X.env.cells.lookup x=some c→c≠b
 bs: ∀b o,X.base.get? b=some o→X.s₀.heap.get? b=some o∧X.H₀ b=none
 mB:X.base.objs.size≤X.s₀.heap.objs.size
 vQ: ∀b o,X.base.get? b=some o→b∉X.ex
 vR: ∀b∈X.ex,b∉X.fs
 iB:X.s₀.heap.FunFrames X.base X.outer
 nE: ∀b∈X.fs,X.H₀ b=none
structure Inv (X:Cx) (pins:List (Addr×Obj)) (σ:List (Option V)) (H:Hp) (s:Shared):Prop where
 ok:X.Ok
 os:s.os=X.s₀.os
 bare:AllBare s.gens
 base:Un X.fs X.ex X.H₀ H X.s₀.heap s.heap
 loc: ∃m,s.heap.Ns X.env.locals m∧ ∀(i:Nat) (x:Str) (v:V),X.N[i]?=some x→σ[i]?=some (some v)→vO X.env.scope x→ ∃u,RelV v u∧Look X.env s.heap m x u
 cell: ∀x c,X.env.cells.lookup x=some c→ ∃v,s.heap.IsCell c v
 free:H X.env.locals=none
 gb: ∀x c,X.env.cells.lookup x=some c→H c=none
 pin: ∀p∈X.pn++pins,s.heap.get? p.1=some p.2∧H p.1=none∧p.1≠X.env.locals∧p.1∉X.fs∧ ∀v,p.2.data≠ .cell v
 aw:b_ X.prog X.w H s.heap
 len:σ.length=X.N.length
section
variable {X:Cx} {pins:List (Addr×Obj)} {σ:List (Option V)} {H H':Hp} {s:Shared} {h':Heap}
theorem Cx.Ok.Rr(ok:X.Ok){b:Addr}{o:Obj}(e:X.base.get? b=some o):b∉X.fs:=fun hb=>by
 have:=(ok.iB.mem hb).1
 rw[e] at this;cases this
theorem Inv.bs(I:Inv X pins σ H s): ∀b o,X.base.get? b=some o→s.heap.get? b=some o∧H b=none:=fun b o e=>
 ⟨I.base.keep b o (I.ok.bs b o e).1 (I.ok.bs b o e).2 (I.ok.Rr e) (I.ok.vQ b o e),I.base.free b o (I.ok.bs b o e).1 (I.ok.bs b o e).2 (I.ok.vQ b o e)⟩
theorem Inv.bk(I:Inv X pins σ H s): ∀b o,X.base.get? b=some o→s.heap.get? b=some o:=fun b o e=> (I.bs b o e).1
theorem Inv.mod(I:Inv X pins σ H s):Mod X.K X.mg X.base:=I.ok.mod
theorem Inv.cX(I:Inv X pins σ H s):X.K.In s.heap:=I.ok.mod.nC.keeps I.bk
theorem Inv.lt(I:Inv X pins σ H s):X.env.locals<s.heap.objs.size:=let ⟨_,hn,_⟩:=I.loc;hn.lt
theorem Inv.sz(I:Inv X pins σ H s):X.s₀.heap.objs.size≤s.heap.objs.size:=Nat.le_trans I.ok.above (Nat.le_of_lt I.lt)
theorem Inv.IL(I:Inv X pins σ H s){a:Addr}(h:s.heap.objs.size≤a):a∉X.fs:=fun hb=>by
 obtain⟨_,o,ho,_⟩:=I.ok.iB.mem hb
 exact absurd (Nat.lt_of_lt_of_le (Heap.lt_size ho) (Nat.le_trans I.sz h)) (Nat.lt_irrefl _)
theorem Inv.nF(I:Inv X pins σ H s): ∀x c,X.env.cells.lookup x=some c→c≠X.env.locals:=fun x c e z=>by
 obtain⟨v,o,ho,hd⟩:=I.cell x c e
 obtain⟨m,⟨o',es,ep,dQ,zl,_⟩,_⟩:=I.loc
 rw[z,dQ] at ho;cases ho;rw[zl] at hd;cases hd
theorem Inv.iB(I:Inv X pins σ H s):s.heap.FunFrames X.base X.outer:=by
 have all: ∀(l:List Env),(∀b∈bC l,b∈X.fs)→X.s₀.heap.FunFrames X.base l→s.heap.FunFrames X.base l:=by
  intro l
  induction l with
  | nil=>intro _ _;trivial
  | cons env r ih=>
   intro hs hl
   obtain⟨hk,⟨L,o,hf,hn,ho,hd⟩,hr⟩:=hl
   have hL:L∈X.fs:=hs L (by unfold bC;rw[List.filterMap_cons,hf];exact List.mem_cons_self)
   obtain⟨sl,e⟩:=I.base.slot L o ho (I.ok.nE L hL) hL fun z=>I.ok.vR L z hL
   exact⟨hk,⟨L,_,hf,hn,e,hd⟩,ih (fun b hb=>hs b (by unfold bC;rw[List.filterMap_cons,hf];exact List.mem_cons_of_mem _ hb)) hr⟩
 exact all X.outer (fun _ hb=>hb) I.ok.iB
theorem Inv.stack(I:Inv X pins σ H s):s.heap.FunFrames X.base X.stack:=by
 rcases I.ok.iA with e | ⟨e,hf⟩
 ·rw[e];exact I.iB
 ·rw[e]
  obtain⟨m,hn,_⟩:=I.loc
  refine .cons (by rw[I.ok.kind];decide) hf hn ?_ I.iB
  exact Heap.get?_none_of_le (Nat.le_trans I.ok.mB I.ok.above)
theorem Inv.vS(I:Inv X pins σ H s): ∀b∈bC X.stack,b∈X.env.locals::X.fs:=fun b hb=>by
 rcases I.ok.iA with e | ⟨e,hf⟩
 ·rw[e] at hb;exact List.mem_cons_of_mem _ hb
 ·rw[e] at hb
  unfold bC at hb
  rw[List.filterMap_cons,hf] at hb
  exact hb
theorem Inv.vT(I:Inv X pins σ H s): ∀b∈bC X.stack,H b=none:=fun b hb=>by
 rcases List.mem_cons.mp (I.vS b hb) with e | hb
 ·rw[e];exact I.free
 ·obtain⟨_,o,ho,_⟩:=I.ok.iB.mem hb
  exact I.base.free b o ho (I.ok.nE b hb) fun z=>I.ok.vR b z hb
theorem Inv.step{g':Array GenState}{t':Nat}{d':Drawn}{ch:List Addr}(I:Inv X pins σ H s)
  (dh: ∀b∈ch,(b∈X.ex∨X.s₀.heap.objs.size≤b)∧b≠X.env.locals∧(∀x c,X.env.cells.lookup x=some c→c≠b)∧ ∀p∈X.pn++pins,p.1≠b)
  (keep: ∀b o,b≠X.env.locals→b∉X.fs→b∉ch→s.heap.get? b=some o→H b=none→h'.get? b=some o)
  (slot: ∀b o,b≠X.env.locals→b∈X.fs→b∉ch→s.heap.get? b=some o→H b=none→ ∃sl,h'.get? b=some {o with slots:=sl}) (free: ∀b o,b∉ch→s.heap.get? b=some o→H b=none→H' b=none)
  (there: ∀b o,b∉ch→s.heap.get? b=some o→ ∃o',h'.get? b=some o')
  (da: ∀b xs,H b=some (.tup xs)→H' b=some (.tup xs)) (eQ: ∀b o u,H b=some (.bQ o u)→H' b=some (.bQ o u)) (fJ: ∀b ps,H b=some (.jy ps)→ ∃more,H' b=some (.jy (ps++more)))
  (ns: ∀m,s.heap.Ns X.env.locals m→h'.Ns X.env.locals m) (aw:b_ X.prog X.w H' h') (hg:AllBare g'):
  Inv X pins σ H' {s with heap:=h',gens:=g',drawn:=d',toks:=t'}:=by
 have IM: ∀b o,X.s₀.heap.get? b=some o→b≠X.env.locals:=fun b o e=>Nat.ne_of_lt (Nat.lt_of_lt_of_le (Heap.lt_size e) I.ok.above)
 have vU: ∀b o,X.s₀.heap.get? b=some o→b∉X.ex→b∉ch:=fun b o e hx hb=>by
  rcases (dh b hb).1 with z | z
  ·exact hx z
  ·exact absurd (Nat.lt_of_lt_of_le (Heap.lt_size e) z) (Nat.lt_irrefl _)
 have cellK: ∀x c,X.env.cells.lookup x=some c→ ∀v,s.heap.IsCell c v→h'.IsCell c v:=fun x c e v ⟨o,ho,hd⟩=>by
  have sx:c∉ch:=fun z=> (dh c z).2.2.1 x c e rfl
  by_cases hc:c∈X.fs
  ·obtain⟨sl,q⟩:=slot c o (I.nF x c e) hc sx ho (I.gb x c e)
   exact⟨_,q,hd⟩
  ·exact⟨o,keep c o (I.nF x c e) hc sx ho (I.gb x c e),hd⟩
 refine⟨I.ok,I.os,hg,⟨fun b o e n hb hx=> ?_,fun b o e n hb hx=> ?_,fun b o e n hx=> ?_,fun b o e hx=> ?_,fun b xs e=>da b xs (I.base.da b xs e),fun b o xs e=>eQ b o xs (I.base.eQ b o xs e),fun b ps e=> ?_⟩, ?_,fun x c e=> ?_, ?_,fun x c e=> ?_,fun p hp=> ?_,aw,I.len⟩
 ·exact keep b o (IM b o e) hb (vU b o e hx) (I.base.keep b o e n hb hx) (I.base.free b o e n hx)
 ·obtain⟨sl,e1⟩:=I.base.slot b o e n hb hx
  obtain⟨zm,e2⟩:=slot b _ (IM b o e) hb (vU b o e hx) e1 (I.base.free b o e n hx)
  exact⟨zm,e2⟩
 ·obtain⟨o',e1⟩:=I.base.there b o e hx
  exact free b o' (vU b o e hx) e1 (I.base.free b o e n hx)
 ·obtain⟨o',e1⟩:=I.base.there b o e hx
  exact there b o' (vU b o e hx) e1
 ·obtain⟨m1,e1⟩:=I.base.fJ b ps e
  obtain⟨m2,e2⟩:=fJ b _ e1
  exact⟨m1++m2,by rw[e2,Array.append_assoc]⟩
 ·obtain⟨m,hn,hl⟩:=I.loc
  refine⟨m,ns m hn,fun i x v e1 e2 e3=> ?_⟩
  obtain⟨u,r,l⟩:=hl i x v e1 e2 e3
  refine⟨u,r, ?_⟩
  rcases l with l | ⟨k,c,e,z⟩
  ·exact .inl l
  ·exact .inr ⟨k,c,e,cellK x c e _ z⟩
 ·obtain⟨v,z⟩:=I.cell x c e
  exact⟨v,cellK x c e v z⟩
 ·obtain⟨m,⟨o,_,_,ho,_⟩,_⟩:=I.loc
  exact free _ o (fun z=> (dh _ z).2.1 rfl) ho I.free
 ·obtain⟨v,o,ho,hd⟩:=I.cell x c e
  exact free c o (fun z=> (dh c z).2.2.1 x c e rfl) ho (I.gb x c e)
 ·obtain⟨e,n,ne,nf,d⟩:=I.pin p hp
  have sx:p.1∉ch:=fun z=> (dh p.1 z).2.2.2 p hp rfl
  exact⟨keep p.1 p.2 ne nf sx e n,free p.1 p.2 sx e n,ne,nf,d⟩
theorem Inv.un{t':Nat}(I:Inv X pins σ H s)(u:Un X.fs [] H H' s.heap h')(aw:b_ X.prog X.w H' h'):Inv X pins σ H' {s with heap:=h',toks:=t'}:=by
 obtain⟨m,⟨o,es,ep,ho,r⟩,_⟩:=id I.loc
 obtain⟨sl,hL⟩:=u.any ho I.free (by simp)
 exact I.step (g':=s.gens) (d':=s.drawn) (ch:=[]) (fun _ z=>nomatch z) (fun b o _ hb _ e n=>u.keep b o e n hb (by simp)) (fun b o _ hb _ e n=>u.slot b o e n hb (by simp)) (fun b o _ e n=>u.free b o e n (by simp)) (fun b o _ e=>u.there b o e (by simp)) u.da u.eQ u.fJ (fun m' hm=>by
  obtain⟨o',zo,zp,dQ,r'⟩:=hm
  rw[ho] at dQ;cases dQ
  exact⟨_,zo,zp,hL,r'⟩) aw I.bare
theorem Inv.call{g':Array GenState}{t':Nat}{d':Drawn}{ch:List Addr}(I:Inv X pins σ H s)(u:Un (bC X.stack) ch H H' s.heap h')(aw:b_ X.prog X.w H' h')(hg:AllBare g')
  (dh: ∀b∈ch,(b∈X.ex∨X.s₀.heap.objs.size≤b)∧b≠X.env.locals∧(∀x c,X.env.cells.lookup x=some c→c≠b)∧ ∀p∈X.pn++pins,p.1≠b):
  Inv X pins σ H' {s with heap:=h',gens:=g',drawn:=d',toks:=t'}:=by
 obtain⟨m,⟨o,es,ep,ho,r⟩,_⟩:=id I.loc
 obtain⟨sl,hL⟩:=u.any ho I.free fun z=> (dh _ z).2.1 rfl
 exact I.step (ch:=ch) dh (fun b o hL hb hc e n=>u.keep b o e n (fun z=> (List.mem_cons.mp (I.vS b z)).elim hL hb) hc) (fun b o _ _ hc e n=>u.any e n hc) (fun b o hc e n=>u.free b o e n hc) (fun b o hc e=>u.there b o e hc) u.da u.eQ u.fJ (fun m' hm=>by
  obtain⟨o',zo,zp,dQ,r'⟩:=hm
  rw[ho] at dQ;cases dQ
  exact⟨_,zo,zp,hL,r'⟩) aw hg
theorem Inv.turned{t':Nat}{it:Addr}(I:Inv X pins σ H s)(k: ∀b o,b≠it→s.heap.get? b=some o→h'.get? b=some o)(hn:H it=none)(hL:it≠X.env.locals)
  (h1:it∈X.ex∨X.s₀.heap.objs.size≤it) (h2: ∀x c,X.env.cells.lookup x=some c→c≠it) (h3: ∀p∈X.pn++pins,p.1≠it):Inv X pins σ H {s with heap:=h',toks:=t'}:=by
 have IP: ∀b u,H b=some u→b≠it:=fun b u e z=>by rw[z,hn] at e;cases e
 refine I.step (g':=s.gens) (d':=s.drawn) (ch:=[it]) (fun b hb=> ?_) (fun b o _ _ hc e _=>k b o (fun z=>hc (by simp[z])) e) (fun b o _ _ hc e _=> ⟨o.slots,k b o (fun z=>hc (by simp[z])) e⟩) (fun _ _ _ _ n=>n)
  (fun b o hc e=> ⟨o,k b o (fun z=>hc (by simp[z])) e⟩) (fun _ _ e=>e) (fun _ _ _ e=>e) (fun b ps e=> ⟨#[],by rw[e];simp⟩) (fun m hm=> ?_) (fun b u e=> ?_) I.bare
 ·have e:b=it:=by simpa using hb
  subst e
  exact⟨h1,hL,h2,h3⟩
 ·obtain⟨o,es,ep,ho,r⟩:=hm
  exact⟨o,es,ep,k _ o (Ne.symm hL) ho,r⟩
 ·refine(I.aw b u e).jz (fun c v hc q=>k c v ?_ q) (fun _ q=>q) fun _ _ q=>q
  rcases hc with z | z
  ·rw[z];exact IP b u e
  ·exact IP c _ z
theorem Inv.tok(I:Inv X pins σ H s)(t:Nat):Inv X pins σ H {s with toks:=t}:=I.un (h':=s.heap) (t':=t) Un.refl I.aw
theorem Inv.kept{t':Nat}(I:Inv X pins σ H s)(k: ∀b u,s.heap.get? b=some u→h'.get? b=some u):Inv X pins σ H {s with heap:=h',toks:=t'}:=I.un (Un.kept k) (I.aw.kept k)
theorem Inv.laid{a:Addr}{o:HO}{t':Nat}(I:Inv X pins σ H s)(k: ∀b u,s.heap.get? b=some u→h'.get? b=some u)(hp:s.heap.objs.size≤a)(new:cG X.prog X.w (upd H a o) h' a o):
  Inv X pins σ (upd H a o) {s with heap:=h',toks:=t'}:=I.un (Un.laid k hp (I.aw.fresh hp)) (I.aw.laid k hp new)
theorem Inv.write{x e:Addr}{o:HO}{t':Nat}(I:Inv X pins σ H s)(mu:sv (H x))(he:e=x∨H e=some (.own x))(k: ∀b u,b≠e→s.heap.get? b=some u→h'.get? b=some u)(qk: ∃u,h'.get? e=some u)
  (new:cG X.prog X.w (upd H x o) h' x o):Inv X pins σ (upd H x o) {s with heap:=h',toks:=t'}:=I.un (Un.write mu he k qk) (I.aw.write mu he k qk new)
theorem Inv.ql{iC:List (Addr×Obj)}(I:Inv X pins σ H s)(h: ∀p∈iC,s.heap.get? p.1=some p.2∧H p.1=none∧p.1≠X.env.locals∧p.1∉X.fs∧ ∀v,p.2.data≠ .cell v):Inv X iC σ H s:=
 ⟨I.ok,I.os,I.bare,I.base,I.loc,I.cell,I.free,I.gb,fun p hp=> (List.mem_append.mp hp).elim (fun z=>I.pin p (List.mem_append_left _ z)) (h p),I.aw,I.len⟩
theorem IQ{N:List Str}(hN:N.Nodup){i j:Nat}{x:Str}(a:N[i]?=some x)(b:N[j]?=some x):i=j:=by
 obtain⟨h1,e1⟩:=List.getElem?_eq_some_iff.mp a
 obtain⟨h2,e2⟩:=List.getElem?_eq_some_iff.mp b
 exact(List.getElem_inj hN).mp (e1.trans e2.symm)
theorem IS{M:Model}{A:Around}{E:Value→Shared→Prop}{i:Nat}{x:Str}{v:V}{u:Value}{Q:Unit→Shared→Prop}(I:Inv X pins σ H s)(hN:X.N.Nodup)(hi:X.N[i]?=some x)(hx:Loc X.env.scope x)(r:RelV v u)
  (h: ∀s',Inv X pins (σ.set i (some v)) H s'→(∃a,Heap.SameBut a s.heap s'.heap∧(a=X.env.locals∨X.env.cells.lookup x=some a))→Q () s') (hf:X.fn x=true∨X.env.scope.names.lookup x=some .local:=by first | exact .inl rfl | exact .inr rfl | assumption):wpAny M A (storeName X.env x u) Q E s:=by
 obtain⟨m,hn,hl⟩:=id I.loc
 have Rt:(X.env.scope.kind== .class || (X.env.scope.kind== .module && X.env.locals !=X.env.globals))=false:=by rw[I.ok.kind];rfl
 have IT:i<σ.length:=by rw[I.len];exact(List.getElem?_eq_some_iff.mp hi).1
 have nF:=I.nF
 have tracked: ∀{a:Addr} {h':Heap},(∃o,s.heap.get? a=some o∧H a=none)→Heap.SameBut a s.heap h'→b_ X.prog X.w H h':=fun {a h'} ha hs b ob e=>by
  obtain⟨_,_,nG⟩:=ha
  refine(I.aw b ob e).jz (fun c w' hc q=> (hs.2 c ?_).trans q) (fun _ q=>q) fun _ _ q=>q
  rintro rfl
  rcases hc with rfl | hc
  ·rw[nG] at e;cases e
  ·rw[nG] at hc;cases hc
 rcases hx with hk | hk
 ·refine wpAny_storeName_local hk hn (fun h' sy hs=> ?_) Rt
  obtain⟨oL,_,_,Ru,_⟩:=id hn
  refine h _ ⟨I.ok,I.os,I.bare,⟨fun b o e n hb hx=> ?_,fun b o e n hb hx=> ?_,I.base.free,fun b o e hx=> ?_,I.base.da,I.base.eQ,I.base.fJ⟩,⟨_,sy,fun j y v' e1 e2 e3=> ?_⟩,fun y c e=> ?_,I.free,I.gb,fun p hp=> ?_,tracked ⟨oL,Ru,I.free⟩ hs,by simpa using I.len⟩ ⟨_,hs, .inl rfl⟩
  ·exact(hs.2 b (Nat.ne_of_lt (Nat.lt_of_lt_of_le (Heap.lt_size e) I.ok.above))).trans (I.base.keep b o e n hb hx)
  ·obtain⟨sl,e1⟩:=I.base.slot b o e n hb hx
   exact⟨sl,(hs.2 b (Nat.ne_of_lt (Nat.lt_of_lt_of_le (Heap.lt_size e) I.ok.above))).trans e1⟩
  ·obtain⟨o',e1⟩:=I.base.there b o e hx
   exact⟨o',(hs.2 b (Nat.ne_of_lt (Nat.lt_of_lt_of_le (Heap.lt_size e) I.ok.above))).trans e1⟩
  ·by_cases hj:j=i
   ·subst hj
    rw[hi] at e1;cases e1
    rw[List.getElem?_set_self IT] at e2
    cases e2
    exact⟨u,r, .inl ⟨hk,by simp⟩⟩
   ·rw[List.getElem?_set_ne (Ne.symm hj)] at e2
    obtain⟨u',r',q⟩:=hl j y v' e1 e2 e3
    refine⟨u',r', ?_⟩
    rcases q with⟨k,e⟩ | ⟨k,c,e,z⟩
    ·refine .inl ⟨k, ?_⟩
     have:y≠x:=fun e=>hj (IQ hN e1 (e ▸ hi))
     simp[this,e]
    ·exact .inr ⟨k,c,e,z.sameBut hs (nF y c e)⟩
  ·obtain⟨w',z⟩:=I.cell y c e
   exact⟨w',z.sameBut hs (nF y c e)⟩
  ·obtain⟨e,n,ne,nf,d⟩:=I.pin p hp
   exact⟨(hs.2 p.1 ne).trans e,n,ne,nf,d⟩
 ·have zq:X.fn x=true:=by
   rcases hf with z | z
   ·exact z
   ·rw[z] at hk;cases hk
  obtain⟨c,hc⟩:=I.ok.has x (.inl hk)
  obtain⟨w',z⟩:=I.cell x c hc
  refine wpAny_storeName_cell I.ok.kind hk hc z (fun h' fK hs=> ?_)
  obtain⟨oc,IU,Rv⟩:=id z
  refine h {s with heap:=h'} ⟨I.ok,I.os,I.bare,⟨fun b o e n hb hx=> ?_,fun b o e n hb hx=> ?_,I.base.free,fun b o e hx=> ?_,I.base.da,I.base.eQ,I.base.fJ⟩,⟨m,hn.sameBut hs (Ne.symm (nF x c hc)),fun j y v' e1 e2 e3=> ?_⟩,fun y c' e=> ?_,I.free,I.gb,fun p hp=> ?_,tracked ⟨oc,IU,I.gb x c hc⟩ hs,by simpa using I.len⟩ ⟨c,hs, .inr hc⟩
  ·exact(hs.2 b (Nat.ne_of_lt (Nat.lt_of_lt_of_le (Heap.lt_size e) (I.ok.vP x c zq hc)))).trans (I.base.keep b o e n hb hx)
  ·obtain⟨sl,e1⟩:=I.base.slot b o e n hb hx
   exact⟨sl,(hs.2 b (Nat.ne_of_lt (Nat.lt_of_lt_of_le (Heap.lt_size e) (I.ok.vP x c zq hc)))).trans e1⟩
  ·obtain⟨o',e1⟩:=I.base.there b o e hx
   exact⟨o',(hs.2 b (Nat.ne_of_lt (Nat.lt_of_lt_of_le (Heap.lt_size e) (I.ok.vP x c zq hc)))).trans e1⟩
  ·by_cases hj:j=i
   ·subst hj
    rw[hi] at e1;cases e1
    rw[List.getElem?_set_self IT] at e2
    cases e2
    exact⟨u,r, .inr ⟨.inl hk,c,hc,fK⟩⟩
   ·rw[List.getElem?_set_ne (Ne.symm hj)] at e2
    obtain⟨u',r',q⟩:=hl j y v' e1 e2 e3
    refine⟨u',r', ?_⟩
    rcases q with q | ⟨k,c',e,z'⟩
    ·exact .inl q
    ·refine .inr ⟨k,c',e,z'.sameBut hs ?_⟩
     rintro rfl
     exact hj (IQ hN e1 (I.ok.inj _ _ _ e hc ▸ hi))
  ·by_cases IV:c'=c
   ·subst IV;exact⟨_,fK⟩
   ·obtain⟨w2,z2⟩:=I.cell y c' e
    exact⟨w2,z2.sameBut hs IV⟩
  ·obtain⟨e,n,ne,nf,d⟩:=I.pin p hp
   refine⟨(hs.2 p.1 ?_).trans e,n,ne,nf,d⟩
   intro q
   rw[q,IU] at e
   have q':oc=p.2:=Option.some.inj e
   exact d w' (by rw[←q'];exact Rv)
theorem zr{M:Model}{A:Around}{E:Value→Shared→Prop}{i:Nat}{x:Str}{v:V}{u:Value}{Q:Unit→Shared→Prop}(I:Inv X pins σ H s)(hN:X.N.Nodup)(hi:X.N[i]?=some x)(hx:Loc X.env.scope x)(r:RelV v u)
  (h: ∀s',Inv X pins (σ.set i (some v)) H s'→Q () s') (hf:X.fn x=true∨X.env.scope.names.lookup x=some .local:=by first | exact .inl rfl | exact .inr rfl | assumption):wpAny M A (storeName X.env x u) Q E s:=
 IS I hN hi hx r (fun s' I' _=>h s' I') hf
theorem Inv.zt{s':Shared}{ch:List Addr}(I:Inv X pins σ H s)(ho:s'.os=s.os)(u:Un (bC X.stack) ch H H' s.heap s'.heap)(aw:b_ X.prog X.w H' s'.heap)(hg:AllBare s'.gens)
  (dh: ∀b∈ch,(b∈X.ex∨X.s₀.heap.objs.size≤b)∧b≠X.env.locals∧(∀x c,X.env.cells.lookup x=some c→c≠b)∧ ∀p∈X.pn++pins,p.1≠b):Inv X pins σ H' s':=by
 obtain⟨h',g',d',t',o'⟩:=s'
 have e:o'=s.os:=ho
 subst e
 exact I.call (g':=g') (t':=t') (d':=d') u aw hg dh
end
abbrev XK:=Value→Option Addr→Hp→Prop
abbrev St:=List (Option V)
abbrev VK:=V→Hp→Prop
abbrev TE:=St→Hp→VK→Prop
abbrev TT:=St→Hp→(Bool→Hp→Prop)→Prop
abbrev TA:=St→Hp→(List V→Hp→Prop)→Prop
structure Ends where
 nx:St→Hp→Prop
 rt:VK
 bk:St→Hp→Prop:=fun _ _=>False
 ct:St→Hp→Prop:=fun _ _=>False
abbrev TS:=Ends→St→Hp→Prop
def EP(X:Cx)(pins:List (Addr×Obj))(σ:St)(Q:VK)(u:Value)(s':Shared):Prop:= ∃v H',Inv X pins σ H' s'∧RelV v u∧Q v H'
def TP(X:Cx)(pins:List (Addr×Obj))(σ:St)(Q:Bool→Hp→Prop)(b:Bool)(s':Shared):Prop:= ∃H',Inv X pins σ H' s'∧Q b H'
def AP(X:Cx)(pins:List (Addr×Obj))(σ:St)(Q:List V→Hp→Prop)(us:List Value)(s':Shared):Prop:= ∃vs H',Inv X pins σ H' s'∧Vals vs us∧Q vs H'
def SP(X:Cx)(pins:List (Addr×Obj))(D:Ends)(f:Flow)(s':Shared):Prop:=
 match f with
 | .next=> ∃σ' H',Inv X pins σ' H' s'∧D.nx σ' H'
 | .brk=> ∃σ' H',Inv X pins σ' H' s'∧D.bk σ' H'
 | .cont=> ∃σ' H',Inv X pins σ' H' s'∧D.ct σ' H'
 | .ret u=> ∃v σ' H',Inv X pins σ' H' s'∧RelV v u∧D.rt v H'
def PE(X:Cx)(e:Expr)(t:TE):Prop:=
 ∀(pins:List (Addr×Obj)) (s:Shared) (σ:St) (H:Hp) (Q:VK),Inv X pins σ H s→t σ H Q→wpAny (model X.prog X.w) X.A (eval e X.env) (EP X pins σ Q) X.xe s
def PT(X:Cx)(e:Expr)(t:TT):Prop:=
 ∀(pins:List (Addr×Obj)) (s:Shared) (σ:St) (H:Hp) (Q:Bool→Hp→Prop),Inv X pins σ H s→t σ H Q→wpAny (model X.prog X.w) X.A (isTrue e X.env (eval e X.env)) (TP X pins σ Q) X.xe s
def PW(X:Cx)(e:Expr)(t:TT):Prop:=
 ∀(whole:Sem Value) (pins:List (Addr×Obj)) (s:Shared) (σ:St) (H:Hp) (Q:Bool→Hp→Prop),Inv X pins σ H s→t σ H Q→wpAny (model X.prog X.w) X.A (isTrue e X.env whole) (TP X pins σ Q) X.xe s
theorem PW.pt{X:Cx}{e:Expr}{t:TT}(h:PW X e t):PT X e t:=h _
def PA(X:Cx)(es:List Expr)(t:TA):Prop:=
 ∀(pos:Pos) (pins:List (Addr×Obj)) (s:Shared) (σ:St) (H:Hp) (Q:List V→Hp→Prop),Inv X pins σ H s→t σ H Q→wpAny (model X.prog X.w) X.A (spliced (backTo pos (starEach es X.env))) (AP X pins σ Q) X.xe s
def PS(X:Cx)(st:Stmt)(t:TS):Prop:=
 ∀(pins:List (Addr×Obj)) (s:Shared) (σ:St) (H:Hp) (D:Ends),Inv X pins σ H s→t D σ H→wpAny (model X.prog X.w) X.A (exec st X.env) (SP X pins D) X.xe s
def bo(X:Cx)(st:List Stmt)(t:TS):Prop:=
 ∀(pins:List (Addr×Obj)) (s:Shared) (σ:St) (H:Hp) (D:Ends),Inv X pins σ H s→t D σ H→wpAny (model X.prog X.w) X.A (execs st X.env) (SP X pins D) X.xe s
theorem aN{α:Type}{t:Sem α}{Q Q':α→Shared→Prop}{M:Model}{A:Around}{E:Value→Shared→Prop}{s:Shared}(h:wpAny M A t Q E s)(hQ: ∀a s,Q a s→Q' a s):wpAny M A t Q' E s:=wpAny_mono h hQ fun _ _ x=>x
section
variable {X:Cx}
def zu(i:Nat):TE:=fun σ H Q=> ∃v,σ[i]?=some (some v)∧Q v H
def tC(v:V):TE:=fun _ H Q=>Q v H
theorem Rw{i:Nat}{x:Str}{pos:Pos}(hN:X.N[i]?=some x)(hv:vO X.env.scope x)(hd:(x==("__debug__":Str))=false:=by decide)(hG:(x==("__classdict__":Str))=false:=by decide):PE X (.Name x pos) (zu i):=by
 intro pins s σ H Q I h
 obtain⟨v,e,h⟩:=h
 obtain⟨m,hn,hl⟩:=I.loc
 obtain⟨u,r,l⟩:=hl i x v hN e hv
 have fin:EP X pins σ Q u s:=⟨v,H,I,r,h⟩
 rcases l with⟨hk,hm⟩ | ⟨hk,c,hc,IW⟩
 ·exact wpAny_Name (wpAny_loadName_local I.ok.kind hk hn hm fin) hd
 ·rcases hk with hk | hk
  ·exact wpAny_Name (wpAny_loadName_cell I.ok.kind hk hc IW fin) hd
  ·exact wpAny_Name (wpAny_loadName_free I.ok.kind hk hc IW fin hG) hd
theorem Rx{i j pos}:PE X (.Constant (.int i) j pos) (tC (.int i)):=fun _ _ _ H _ I h=>wpAny_Constant_int ⟨.int i,H,I.tok _,⟨_,rfl⟩,h⟩
theorem Ry{b j pos}:PE X (.Constant (.bool b) j pos) (tC (.bl b)):=fun _ _ _ H _ I h=>Constant_bool ⟨.bl b,H,I,rfl,h⟩
theorem Rz{j pos}:PE X (.Constant .none j pos) (tC .aq):=fun _ _ _ H _ I h=>Constant_none ⟨.aq,H,I,rfl,h⟩
theorem RA{x j pos}:PE X (.Constant (.str x) j pos) (tC (.str x)):=fun _ _ _ H _ I h=>Calls.Constant_str ⟨.str x,H,I.tok _,⟨_,rfl⟩,h⟩
def Gl(X:Cx)(x:Str):Prop:=X.env.kindOf x=some .globalImplicit
theorem sA{E:Value→Shared→Prop}{pins:List (Addr×Obj)}{s:Shared}{σ:St}{H:Hp}{x:Str}{u:Value}{pos:Pos}{Q:Value→Shared→Prop}(I:Inv X pins σ H s)(hg:Gl X x)(hm:X.mg x=some u)(h:Q u s)
  (hd:(x==("__debug__":Str))=false:=by decide):wpAny (model X.prog X.w) X.A (eval (.Name x pos) X.env) Q E s:=
 Calls.Name_function_global I.ok.kind hg (Calls.loadGlobal_global (by rw[I.ok.glob];exact I.mod.glob.keeps I.bk) hm h) hd
theorem sC{E:Value→Shared→Prop}{pins:List (Addr×Obj)}{s:Shared}{σ:St}{H:Hp}{x:Str}{u:Value}{pos:Pos}{Q:Value→Shared→Prop}(I:Inv X pins σ H s)(hg:Gl X x)(hm:X.mg x=none)(hv:bootBuiltins x=some u)(h:Q u s)
  (hn:x≠"__name__":=by decide) (hd:(x==("__debug__":Str))=false:=by decide):wpAny (model X.prog X.w) X.A (eval (.Name x pos) X.env) Q E s:=by
 obtain⟨mb,h1,h2⟩:=I.mod.blt
 exact Calls.Name_function_global I.ok.kind hg (Calls.loadGlobal_builtin (by rw[I.ok.glob];exact I.mod.glob.keeps I.bk) hm (by rw[I.ok.blt];exact h1.keeps I.bk) ((h2 x hn).trans hv) h) hd
theorem IX{x:Str}{v:V}{u:Value}{pos:Pos}(hg:Gl X x)(hm:X.mg x=some u)(r:RelV v u)(hd:(x==("__debug__":Str))=false:=by decide):PE X (.Name x pos) (tC v):=
 fun _ _ _ H _ I h=>sA I hg hm ⟨v,H,I,r,h⟩ hd
theorem IY{x:Str}{v:V}{u:Value}{pos:Pos}(hg:Gl X x)(hm:X.mg x=none)(hv:bootBuiltins x=some u)(r:RelV v u)(hn:x≠"__name__":=by decide)(hd:(x==("__debug__":Str))=false:=by decide):PE X (.Name x pos) (tC v):=
 fun _ _ _ H _ I h=>sC I hg hm hv ⟨v,H,I,r,h⟩ hn hd
variable {a b:Expr} {ta tb:TE} {pos:Pos}
def PC(X:Cx)(op:CmpOp)(a b:Expr)(t:TE):Prop:=
 ∀(pins:List (Addr×Obj)) (s:Shared) (σ:St) (H:Hp) (Q:VK),Inv X pins σ H s→t σ H Q→
  wpAny (model X.prog X.w) X.A (eval a X.env) (fun v s₁=>wpAny (model X.prog X.w) X.A (eval b X.env) (fun u s₂=>wpAny (model X.prog X.w) X.A (compareOp op v u) (EP X pins σ Q) X.xe s₂) X.xe s₁) X.xe s
def tB(t:TE):TT:=fun σ H Q=>t σ H fun x H1=> ∃c,x= .bl c∧Q c H1
theorem RB{op:CmpOp}{t:TE}(h:PC X op a b t)(h1:behindInMarks op b=false:=by first | exact anz _ (by decide) (by decide) | rfl):PT X (.Compare a [op] [b] pos) (tB t):=by
 intro pins s σ H Q I hw
 refine wpAny_isTrue_Compare1 (aN (h pins s σ H _ I hw) fun v s1 h1=>aN h1 fun u s2 h2=>aN h2 fun c s3 ⟨x,H1,I1,r1,q1⟩=> ?_) h1
 obtain⟨d,rfl,q⟩:=q1
 cases r1
 exact wpAny_truthy_bool ⟨H1,I1,q⟩
variable {tA vV:TT} {rest:List Expr}
def IZ(t u:TT):TT:=fun σ H Q=>t σ H fun c H1=>if c=true then u σ H1 Q else Q false H1
def I_(t u:TT):TT:=fun σ H Q=>t σ H fun c H1=>if c=true then Q true H1 else u σ H1 Q
def Ja(t:TT):TT:=fun σ H Q=>t σ H fun c H1=>Q (!c) H1
theorem pw_and1(ha:PT X a tA):PW X (.BoolOp .And [a] pos) tA:=by
 intro wh pins s σ H Q I h
 refine isTrue_and (aN (ha pins s σ H Q I h) fun c s1 e=> ?_)
 cases c with
 | true=>exact isTrue_and_nil e
 | false=>exact e
theorem pw_or1(ha:PT X a tA):PW X (.BoolOp .Or [a] pos) tA:=by
 intro wh pins s σ H Q I h
 refine isTrue_or (aN (ha pins s σ H Q I h) fun c s1 e=> ?_)
 cases c with
 | false=>exact isTrue_or_nil e
 | true=>exact e
theorem pw_and(ha:PT X a tA)(hb:PW X (.BoolOp .And (b::rest) pos) vV):PW X (.BoolOp .And (a::b::rest) pos) (IZ tA vV):=by
 intro wh pins s σ H Q I h
 refine isTrue_and (aN (ha pins s σ H _ I h) fun c s1 ⟨H1,I1,q1⟩=> ?_)
 cases c with
 | true=>exact hb wh pins s1 σ H1 Q I1 q1
 | false=>exact⟨H1,I1,q1⟩
theorem pw_or(ha:PT X a tA)(hb:PW X (.BoolOp .Or (b::rest) pos) vV):PW X (.BoolOp .Or (a::b::rest) pos) (I_ tA vV):=by
 intro wh pins s σ H Q I h
 refine isTrue_or (aN (ha pins s σ H _ I h) fun c s1 ⟨H1,I1,q1⟩=> ?_)
 cases c with
 | true=>exact⟨H1,I1,q1⟩
 | false=>exact hb wh pins s1 σ H1 Q I1 q1
theorem RC(ha:PT X a tA):PT X (.UnaryOp .Not a pos) (Ja tA):=by
 intro pins s σ H Q I h
 exact isTrue_not (ha pins s σ H (fun c H1=>Q (!c) H1) I h)
def Jb(ta tb:TE):TE:=fun σ H Q=>ta σ H fun x H1=> ∃c,x= .bl c∧if c=true then tb σ H1 Q else Q (.bl false) H1
def RD(ta tb:TE):TE:=fun σ H Q=>ta σ H fun x H1=> ∃c,x= .bl c∧if c=true then Q (.bl true) H1 else tb σ H1 Q
theorem RF{op}{t:TE}(h:PE X a t):PE X (.BoolOp op [a] pos) t:=fun pins s σ H Q I hw=>BoolOp_one (h pins s σ H Q I hw)
theorem RG(ha:PE X a ta)(hb:PE X (.BoolOp .And (b::rest) pos) tb):PE X (.BoolOp .And (a::b::rest) pos) (Jb ta tb):=by
 intro pins s σ H Q I h
 refine BoolOp_and (aN (ha pins s σ H _ I h) fun v s1 ⟨x,H1,I1,r1,q1⟩=> ?_)
 obtain⟨c,rfl,q1⟩:=q1
 cases r1
 refine wpAny_truthy_bool ?_
 cases c with
 | true=>exact hb pins s1 σ H1 Q I1 q1
 | false=>exact⟨.bl false,H1,I1,rfl,q1⟩
def Jc(t:TT)(ta tb:TE):TE:=fun σ H Q=>t σ H fun c H1=>if c=true then ta σ H1 Q else tb σ H1 Q
theorem RH{c:Expr}(hc:PT X c tA)(ha:PE X a ta)(hb:PE X b tb):PE X (.IfExp c a b pos) (Jc tA ta tb):=by
 intro pins s σ H Q I h
 refine wpAny_IfExp (aN (hc pins s σ H _ I h) fun d s1 ⟨H1,I1,q1⟩=> ?_)
 cases d with
 | true=>exact ha pins s1 σ H1 Q I1 q1
 | false=>exact hb pins s1 σ H1 Q I1 q1
end
def aj(K:PySem.W.Frag)(H:Hp)(a:Addr)(xs:List V):Prop:=
 Rd H a (.lst xs)∨
  ∃(o:Obj) (its:Array Value) (n:Nat),K.lookup a=some o∧o.cls= .type "list"∧o.dict=none∧o.data= .seq its n∧its.size≤sizeLine∧Vals xs its.toList
def aF(K:PySem.W.Frag)(H:Hp)(a:Addr)(xs:List V):Prop:=
 Rd H a (.tup xs)∨
  ∃(o:Obj) (its:Array Value) (n:Nat),K.lookup a=some o∧o.cls= .type "tuple"∧o.data= .seq its n∧its.size≤sizeLine∧Vals xs its.toList
def RJ:Value→Option V
 | .none=>some .aq
 | .bool b=>some (.bl b)
 | .int i _=>some (.int i)
 | .str x _=>some (.str x)
 | .bytes b _=>some (.fh b)
 | .float b _=>some (.mz b)
 | .ref a=>some (.ref a)
 | .type n=>some (.ty n)
 | _=>none
theorem RelV.abs{x:V}{u:Value}(r:RelV x u):RJ u=some x:=by
 cases x with
 | aq=>cases r;rfl
 | bl _=>cases r;rfl
 | int _=>obtain⟨t,rfl⟩:=r;rfl
 | str _=>obtain⟨t,rfl⟩:=r;rfl
 | fh _=>obtain⟨t,rfl⟩:=r;rfl
 | mz _=>obtain⟨t,rfl⟩:=r;rfl
 | ref _=>cases r;rfl
 | ty _=>cases r;rfl
theorem RelV.inj{x y:V}{u:Value}(r:RelV x u)(q:RelV y u):x=y:=Option.some.inj (r.abs.symm.trans q.abs)
theorem Vals.inj: ∀{xs ys:List V} {us:List Value},Vals xs us→Vals ys us→xs=ys
 | _,_,_, .nil, .nil=>rfl
 | _,_,_, .cons r t, .cons r' t'=>by rw[r.inj r',Vals.inj t t']
section
variable {X:Cx} {pins:List (Addr×Obj)} {σ:St} {H:Hp} {s:Shared} {a:Addr} {xs ys:List V}
theorem aj.of{K:PySem.W.Frag}(h:H a=some (.lst xs)):aj K H a xs:= .inl (.inl h)
theorem aF.of{K:PySem.W.Frag}(h:H a=some (.tup xs)):aF K H a xs:= .inl (.inl h)
theorem Inv.list(I:Inv X pins σ H s)(h:aj X.K H a xs): ∃its:List Value,Vals xs its∧PlainL s.heap a its.toArray∧xs.length≤sizeLine:=by
 rcases h with h | ⟨o,its,n,hk,hc,hd,hs,hz,r⟩
 ·obtain⟨z,its,n,r,e⟩:=h.ok I.aw
  exact⟨its,r,⟨_,n,e,rfl,rfl,rfl⟩,z⟩
 ·refine⟨its.toList,r,⟨o,n,I.cX a o hk,hc,hd,by simpa using hs⟩, ?_⟩
  have e:=r.length
  simp only[Array.length_toList] at e
  omega
theorem Inv.tuple(I:Inv X pins σ H s)(h:aF X.K H a xs): ∃its:List Value,Vals xs its∧IsTup s.heap a its.toArray∧xs.length≤sizeLine:=by
 rcases h with h | ⟨o,its,n,hk,hc,hs,hz,r⟩
 ·obtain⟨z,its,r,p⟩:=h.ok I.aw
  exact⟨its,r,p,z⟩
 ·refine⟨its.toList,r,⟨o,I.cX a o hk,hc,n,by simpa using hs⟩, ?_⟩
  have e:=r.length
  simp only[Array.length_toList] at e
  omega
theorem Inv.vW(I:Inv X pins σ H s)(h:aj X.K H a xs)(h':aj X.K H a ys):xs=ys:=by
 obtain⟨its,r,⟨o,n,e,_,_,d⟩,_⟩:=I.list h
 obtain⟨gc,r',⟨o',n',e',_,_,d'⟩,_⟩:=I.list h'
 rw[e] at e';cases e'
 rw[d] at d'
 injection d' with d1 _
 have:its=gc:=by simpa using congrArg Array.toList d1
 subst this
 exact r.inj r'
end
section
variable {X:Cx} {pins:List (Addr×Obj)} {σ:St} {H:Hp} {s:Shared} {E:Value→Shared→Prop}
end
section
variable {X:Cx} {st:Stmt} {rest:List Stmt} {t u:TS} {e:Expr} {te:TE} {pos:Pos}
def zv:TS:=fun D σ H=>D.nx σ H
def Jd(t u:TS):TS:=fun D σ H=>t {D with nx:=u D} σ H
theorem Je:bo X [] zv:=fun _ _ σ H _ I h=>wpAny_execs_nil ⟨σ,H,I,h⟩
theorem RK(h1:PS X st t)(h2:bo X rest u):bo X (st::rest) (Jd t u):=by
 intro pins s σ H D I h
 refine wpAny_execs_cons (aN (h1 pins s σ H {D with nx:=u D} I h) fun f s1 q=> ?_)
 cases f with
 | next=>
  obtain⟨σ',H',I',q⟩:=q
  exact h2 pins s1 σ' H' D I' q
 | ret v=>exact q
 | brk=>exact q
 | cont=>exact q
def RL:TS:=fun D σ H=>D.bk σ H
def Jf:TS:=fun D σ H=>D.ct σ H
theorem RM:PS X (.Continue pos) Jf:=fun _ _ σ H _ I h=>wpAny_Continue ⟨σ,H,I,h⟩
theorem Inv.quiet{pins:List (Addr×Obj)}{σ:St}{H:Hp}{s:Shared}(I:Inv X pins σ H s):interactive X.env=false:=by simp[interactive,I.ok.kind]
def Jg(te:TE):TS:=fun D σ H=>te σ H fun _ H1=>D.nx σ H1
theorem RN(he:PE X e te)(hs:swapsWith e none pos.line X.env=pure false:=by rfl):PS X (.Expr e pos) (Jg te):=by
 intro pins s σ H D I h
 exact wpAny_Expr_any (aN (he pins s σ H _ I h) fun v s1 ⟨x,H1,I1,r1,q1⟩=> ⟨σ,H1,I1,q1⟩) I.quiet hs
def Jh(te:TE):TS:=fun D σ H=>te σ H D.rt
theorem RO(he:PE X e te):PS X (.Return (some e) pos) (Jh te):=by
 intro pins s σ H D I h
 exact wpAny_Return_some (aN (he pins s σ H _ I h) fun v s1 ⟨x,H1,I1,r1,q1⟩=> ⟨x,σ,H1,I1,r1,q1⟩)
def RP:TS:=fun D _ H=>D.rt .aq H
def Ji(c:TT)(t u:TS):TS:=fun D σ H=>c σ H fun b H1=>if b=true then t D σ H1 else u D σ H1
theorem RQ{c:Expr}{a b:List Stmt}{tc:TT}(hc:PT X c tc)(ha:bo X a t)(hb:bo X b u):PS X (.If c a b pos) (Ji tc t u):=by
 intro pins s σ H D I h
 refine wpAny_If (aN (hc pins s σ H _ I h) fun d s1 ⟨H1,I1,q1⟩=> ?_)
 cases d with
 | true=>exact ha pins s1 σ H1 D I1 q1
 | false=>exact hb pins s1 σ H1 D I1 q1
def RT:TS:=fun _ _ _=>False
end
abbrev TG:=V→St→Hp→(St→Hp→Prop)→Prop
abbrev iZ:=List V→St→Hp→(St→Hp→Prop)→Prop
def PG(X:Cx)(target:Expr)(t:TG):Prop:=
 ∀(pins:List (Addr×Obj)) (s:Shared) (σ:St) (H:Hp) (v:V) (u:Value) (Q:St→Hp→Prop),Inv X pins σ H s→RelV v u→t v σ H Q→
  wpAny (model X.prog X.w) X.A (assign target X.env u) (fun _ s'=> ∃σ' H',Inv X pins σ' H' s'∧Q σ' H') X.xe s
def nH(X:Cx)(ts:List Expr)(t:iZ):Prop:=
 ∀(pins:List (Addr×Obj)) (s:Shared) (σ:St) (H:Hp) (vs:List V) (us:List Value) (Q:St→Hp→Prop),Inv X pins σ H s→Vals vs us→t vs σ H Q→
  wpAny (model X.prog X.w) X.A (assignInOrder ((assignEach ts X.env).map (·.2)) us) (fun _ s'=> ∃σ' H',Inv X pins σ' H' s'∧Q σ' H') X.xe s
abbrev zw:=V→V→V→Hp→(Hp→Prop)→Prop
def Jj(X:Cx)(t:zw):Prop:=
 ∀(pins:List (Addr×Obj)) (s:Shared) (σ:St) (H:Hp) (o i v:V) (ov iv u:Value) (Q:Hp→Prop),Inv X pins σ H s→RelV o ov→RelV i iv→RelV v u→t o i v H Q→
  wpAny (model X.prog X.w) X.A (setItem ov iv u) (fun _ s'=> ∃H',Inv X pins σ H' s'∧Q H') X.xe s
section
variable {X:Cx} {pos:Pos}
def dR(i:Nat):TG:=fun v σ H Q=>Q (σ.set i (some v)) H
theorem qm{i:Nat}{x:Str}(hN:X.N.Nodup)(hi:X.N[i]?=some x)(hx:Loc X.env.scope x)(hf:X.fn x=true∨X.env.scope.names.lookup x=some .local:=by first | exact .inl rfl | exact .inr rfl | assumption):PG X (.Name x pos) (dR i):=by
 intro pins s σ H v u Q I r h
 exact wpAny_assign_Name (zr I hN hi hx r (fun s' I'=> ⟨_,H,I',h⟩) hf)
def vX:iZ:=fun vs σ H Q=>vs=[]∧Q σ H
def qo(t:TG)(u:iZ):iZ:=fun vs σ H Q=> ∃v r,vs=v::r∧t v σ H fun σ' H'=>u r σ' H' Q
theorem zx:nH X [] vX:=by
 intro pins s σ H vs us Q I r h
 obtain⟨e,h⟩:=h
 subst e
 cases r
 exact assignInOrder_nil ⟨σ,H,I,h⟩
theorem sD{e:Expr}{es:List Expr}{t:TG}{u:iZ}(h1:PG X e t)(h2:nH X es u)
  (hs:(assignEach (e::es) X.env).map (·.2)=assign e X.env::(assignEach es X.env).map (·.2):=by rfl):nH X (e::es) (qo t u):=by
 intro pins s σ H vs us Q I r h
 obtain⟨v,vr,e1,h⟩:=h
 subst e1
 cases r with
 | cons r rr=>
  rw[hs]
  refine assignInOrder_cons (aN (h1 pins s σ H _ _ _ I r h) fun _ s1 ⟨σ1,H1,I1,q1⟩=> ?_)
  exact h2 pins s1 σ1 H1 _ _ Q I1 rr q1
def vY(K:PySem.W.Frag)(n:Nat)(t:iZ):TG:=fun v σ H Q=> ∃a xs,v= .ref a∧aF K H a xs∧xs.length=n∧t xs σ H Q
theorem Jk{es:List Expr}{k:Nat}{t:iZ}{n:Nat}(hc:X.calm=true)(h:nH X es t)
  (hn:(assignEach es X.env).length=n:=by rfl) (i5:(assignEach es X.env).findIdx? (·.1)=none:=by rfl):PG X (.Tuple es k pos) (vY X.K n t):=by
 intro pins s σ H v u Q I r hw
 obtain⟨a,xs,e1,hq,hl,hw⟩:=hw
 subst e1
 cases r
 obtain⟨its,rv,ht,hz⟩:=I.tuple hq
 refine assign_Tuple_tuple (I.ok.hd hc) ht (by simp[hn,←hl,rv.length]) i5 fun h' hx=> ?_
 have I1:Inv X pins σ H {s with heap:=h'}:=I.kept (t':=s.toks) fun b o e=>hx b o (Nat.ne_of_lt (Heap.lt_size e)) e
 exact h pins _ σ H xs _ Q I1 (by simpa using rv) hw
def Jl(to ti:TE)(t:zw):TG:=fun v σ H Q=>to σ H fun o H1=>ti σ H1 fun i H2=>t o i v H2 fun H3=>Q σ H3
theorem RU{o i:Expr}{to ti:TE}{t:zw}(ho:PE X o to)(hi:PE X i ti)(hs:Jj X t)
  (ha: ∀v,assign (.Subscript o i pos) X.env v=(do
   let ov ←holding [v] (eval o X.env)
   let iv ←holding [v,ov] (eval i X.env)
   standAt pos
   holding [v,ov,iv] (setItem ov iv v)
   release [v,ov,iv] []):=by intro _;rfl):PG X (.Subscript o i pos) (Jl to ti t):=by
 intro pins s σ H v u Q I r h
 rw[ha]
 refine wpAny_bind (wpAny_holding (aN (ho pins s σ H _ I h) fun ov s1 ⟨x,H1,I1,r1,q1⟩=> ?_))
 refine wpAny_bind (wpAny_holding (aN (hi pins s1 σ H1 _ I1 q1) fun iv s2 ⟨y,H2,I2,r2,q2⟩=> ?_))
 refine wpAny_bind (wpAny_standAt (wpAny_bind (wpAny_holding (aN (hs pins s2 σ H2 x y v ov iv u _ I2 r1 r2 r q2) fun _ s3 ⟨H3,I3,q3⟩=> ?_))))
 exact wpAny_release ⟨σ,H3,I3,q3⟩
def i6(te:TE)(g:TG):TS:=fun D σ H=>te σ H fun x H1=>g x σ H1 D.nx
theorem RV{tg e:Expr}{te:TE}{g:TG}(he:PE X e te)(hg:PG X tg g)(hs:swapsWithSole [tg] e pos.line X.env=pure false:=by rfl)(hw:swappedStores [tg] e X.env=pure none:=by rfl)
  (h1:(assignEach [tg] X.env).map (·.2)=[assign tg X.env]:=by rfl):PS X (.Assign [tg] e pos) (i6 te g):=by
 intro pins s σ H D I h
 refine wpAny_Assign_stores (aN (he pins s σ H _ I h) fun v s1 ⟨x,H1,I1,r1,q1⟩=> ?_) hs hw
 rw[h1]
 exact aN (hg pins s1 σ H1 x v _ I1 r1 q1) fun _ s2 q=>q
theorem RW{i:Nat}{x:Str}{e:Expr}{te:TE}{pos':Pos}(hN:X.N.Nodup)(hi:X.N[i]?=some x)(hx:Loc X.env.scope x)(he:PE X e te)(hs:swapsWith e (some (.Name x pos')) pos.line X.env=pure false:=by rfl)(hf:X.fn x=true∨X.env.scope.names.lookup x=some .local:=by first | exact .inl rfl | exact .inr rfl | assumption):
  PS X (.Assign [.Name x pos'] e pos) (i6 te (dR i)):=by
 intro pins s σ H D I h
 refine wpAny_Assign_Name (aN (he pins s σ H _ I h) fun v s1 ⟨y,H1,I1,r1,q1⟩=> ?_) hs
 exact zr I1 hN hi hx r1 (fun s2 I2=> ⟨_,H1,I2,q1⟩) hf
end
section
variable {X:Cx} {pos:Pos}
def Jm(c:TT)(tb:TS):TS:=fun D σ H=> ∃W:Nat→St→Hp→Prop,(∃m,W m σ H)∧ ∀m σ H,W m σ H→
 c σ H fun b H1=>if b=true then ∃N:St→Hp→Prop,(∀σ' H',N σ' H'→ ∃m',m'<m∧W m' σ' H')∧tb {D with nx:=N,ct:=N,bk:=D.nx} σ H1 else D.nx σ H1
theorem RX{c:Expr}{body:List Stmt}{tc:TT}{tb:TS}(hp:PassesOwn (model X.prog X.w) X.A X.env X.xe)(hc:PT X c tc)(hb:bo X body tb):PS X (.While c body [] pos) (Jm tc tb):=by
 intro pins s σ H D I h
 obtain⟨W,⟨m0,w0⟩,turn⟩:=h
 refine wpAny_While (codeAny_whileLoop (fun n s'=> ∃σ' H',Inv X pins σ' H' s'∧W n σ' H') ?_ m0 ⟨σ,H,I,w0⟩)
 rintro n s1 ⟨σ1,H1,I1,w1⟩
 refine wpAny_passesOwn hp (aN (hc pins s1 σ1 H1 _ I1 (turn n σ1 H1 w1)) fun b s2 ⟨H2,I2,q2⟩=> ?_)
 cases b with
 | true=>
  obtain⟨N,hN,q2⟩:=q2
  rw[if_pos rfl]
  refine wpAny_passesOwn hp (aN (hb pins s2 σ1 H2 _ I2 q2) fun f s3 q3=> ?_)
  cases f with
  | next=>
   obtain⟨σ3,H3,I3,n3⟩:=q3
   obtain⟨m',hm,w3⟩:=hN σ3 H3 n3
   exact⟨m',hm,σ3,H3,I3,w3⟩
  | cont=>
   obtain⟨σ3,H3,I3,n3⟩:=q3
   obtain⟨m',hm,w3⟩:=hN σ3 H3 n3
   exact⟨m',hm,σ3,H3,I3,w3⟩
  | brk=>exact q3
  | ret v=>exact q3
 | false=>
  rw[if_neg Bool.false_ne_true]
  exact wpAny_execs_nil ⟨σ1,H2,I2,q2⟩
end
structure It where
 go:Nat→Hp→Prop
 i7:Nat→Hp→V→Hp→Prop
 stop:Nat→Hp→Prop
def iD(X:Cx)(pins:List (Addr×Obj))(H:Hp)(b:Addr):Prop:=
 H b=none∧b≠X.env.locals∧b∉X.fs∧(b∈X.ex∨X.s₀.heap.objs.size≤b)∧(∀x c,X.env.cells.lookup x=some c→c≠b)∧ ∀p∈X.pn++pins,p.1≠b
theorem Inv.vZ{X:Cx}{pins:List (Addr×Obj)}{σ:St}{H H':Hp}{s:Shared}{b:Addr}(I:Inv X pins σ H s)(hb:s.heap.objs.size≤b)(hn:H' b=none):iD X pins H' b:=by
 refine⟨hn,Nat.ne_of_gt (Nat.lt_of_lt_of_le I.lt hb),I.IL hb, .inr (Nat.le_trans I.sz hb),fun x c e z=> ?_,fun p hp z=> ?_⟩
 ·obtain⟨v,q⟩:=I.cell x c e
  exact absurd (Nat.lt_of_lt_of_le q.lt (by rw[z];exact hb)) (Nat.lt_irrefl _)
 ·exact absurd (Nat.lt_of_lt_of_le (Heap.lt_size (I.pin p hp).1) (by rw[z];exact hb)) (Nat.lt_irrefl _)
structure Turn (P:Program) (w:World) (K:PySem.W.Frag) (tg:Expr) (J:It) (fp:List Addr) (it:Addr) (tn:Nat→Heap→Prop):Prop where
 mem:it∈fp
 obj: ∀i h,tn i h→ ∀b∈fp,∃o,h.get? b=some o∧ ∀v,o.data≠ .cell v
 keep: ∀i h h',tn i h→(∀b∈fp,∀o,h.get? b=some o→h'.get? b=some o)→tn i h'
 item: ∀(X:Cx),X.prog=P→X.w=w→X.K=K→X.calm=true→ ∀(i:Nat) (pins:List (Addr×Obj)) (s:Shared) (σ:St) (H:Hp) (E:Value→Shared→Prop),Inv X pins σ H s→(∀b∈fp,iD X pins H b)→tn i s.heap→J.go i H→
  wpAny (model P w) X.A (pyNext (.ref it)) (fun r s1=> ∃u,r=some u∧
   wpAny (model P w) X.A (letOwnedTupleGo tg (.ref it) u) (fun _ s2=> ∃x H',Inv X pins σ H' s2∧RelV x u∧J.i7 i H x H'∧tn (i+1) s2.heap∧ ∀b∈fp,H' b=none) E s1) E s
 done: ∀(X:Cx),X.prog=P→X.w=w→X.K=K→X.calm=true→ ∀(i:Nat) (pins:List (Addr×Obj)) (s:Shared) (σ:St) (H:Hp) (E:Value→Shared→Prop),Inv X pins σ H s→(∀b∈fp,iD X pins H b)→tn i s.heap→J.stop i H→
  wpAny (model P w) X.A (pyNext (.ref it)) (fun r s1=>r=none∧Inv X pins σ H s1) E s
 self: ∀(A:Around) (i:Nat) (s:Shared) (Q:Value→Shared→Prop) (E:Value→Shared→Prop),tn i s.heap→Q (.ref it) s→wpAny (model P w) A (pyIter (.ref it)) Q E s
abbrev TI:=St→Hp→(It→Hp→Prop)→Prop
def Jn(X:Cx)(pins:List (Addr×Obj))(σ:St)(tg:Expr)(R:It→Hp→Prop)(nI:Value)(s2:Shared):Prop:=
 ∃(it:Addr) (fp:List Addr) (tn:Nat→Heap→Prop) (J:It) (H':Hp),nI= .ref it∧Inv X pins σ H' s2∧Turn X.prog X.w X.K tg J fp it tn∧tn 0 s2.heap∧(∀b∈fp,iD X pins H' b)∧R J H'
def PI(X:Cx)(tg iter:Expr)(wi:TI):Prop:=
 ∀(pins:List (Addr×Obj)) (s:Shared) (σ:St) (H:Hp) (R:It→Hp→Prop),Inv X pins σ H s→wi σ H R→
  wpAny (model X.prog X.w) X.A (eval iter X.env) (fun v s1=>wpAny (model X.prog X.w) X.A (pyIter v) (Jn X pins σ tg R) X.xe s1) X.xe s
theorem zy{M:Model}{A:Around}{E:Value→Shared→Prop}{s:Shared}{tg:Expr}{it:Addr}{u:Value}{o:Obj}{n:String}{vs:Array Value}{Q:Unit→Shared→Prop}(ho:s.heap.get? it=some o)(hc:o.cls= .type n)(hd:o.data= .fields vs)
    (hn:["enumerate","zip","dict_itemiterator","dict_reverseitemiterator","odict_iterator","itertools.zip_longest","itertools.pairwise"].contains n=false) (hQ:Q () s):wpAny M A (letOwnedTupleGo tg (.ref it) u) Q E s:=by
  unfold letOwnedTupleGo
  cases tg<;>first
    | exact wpAny_pure hQ
    | (cases u<;>first
        | exact wpAny_pure hQ
        | (refine wpAny_bind (wpAny_load ho ?_)
           rw[hc,hd]
           show wpAny M A (if (["enumerate","zip","dict_itemiterator","dict_reverseitemiterator","odict_iterator","itertools.zip_longest","itertools.pairwise"].contains n && vs[0]?==some (rawInt _))=true then _ else _) Q E s
           rw[if_neg (by intro h;rw[hn,Bool.false_and] at h;cases h)]
           exact wpAny_pure hQ))
def iE(K:PySem.W.Frag)(a:Addr):It:=
 ⟨fun i H=> ∃xs x,aj K H a xs∧xs[i]?=some x,fun i H x H'=>H'=H∧ ∀xs,aj K H a xs→xs[i]?=some x,fun i H=> ∃xs,aj K H a xs∧xs.length≤i⟩
def RY(K:PySem.W.Frag)(a:Addr):It:=
 ⟨fun i H=> ∃xs x,aF K H a xs∧xs[i]?=some x,fun i H x H'=>H'=H∧ ∀xs,aF K H a xs→xs[i]?=some x,fun i H=> ∃xs,aF K H a xs∧xs.length≤i⟩
def jB(lo:Int)(n:Nat):It:=⟨fun i _=>i<n,fun i H x H'=>H'=H∧x= .int (lo+i),fun i _=>n≤i⟩
theorem v3{P:Program}{w:World}{K:PySem.W.Frag}{tg:Expr}(a it:Addr):Turn P w K tg (iE K a) [it] it (fun i h=>h.IsListIter it a i) where
 mem:=by simp
 obj:=fun i h st b hb=>by
  have e:b=it:=by simpa using hb
  subst e
  obtain⟨o,e,c,d⟩:=st
  exact⟨o,e,fun v z=>by rw[d] at z;cases z⟩
 keep:=fun i h h' st k=>st.at fun o e=>k it (by simp) o e
 item:=by
  intro X hP hw hK hc i pins s σ H E I hf st hg
  subst hP hw hK
  obtain⟨xs,x,hq,hx⟩:=hg
  obtain⟨its,rv,p,hz⟩:=I.list hq
  obtain⟨u,hu,ru⟩:=rv.get hx
  obtain⟨f0,f1,f2,f3,f4,f5⟩:=hf it (by simp)
  refine wpAny_pyNext_list_item st p.isList (x:=u) (by simpa using hu) fun h' i8 sb=> ?_
  have I1:Inv X pins σ H {s with heap:=h'}:=I.turned (t':=s.toks) (fun b o hb e=> (sb.2 b hb).trans e) f0 f1 f3 f4 f5
  obtain⟨o,e,c,d⟩:=id i8
  exact⟨u,rfl,zy (s:={s with heap:=h'}) e c d (by decide) ⟨x,H,I1,ru,⟨rfl,fun ys hy=>by rw[I.vW hy hq];exact hx⟩,i8,fun b hb=> (hf b hb).1⟩⟩
 done:=by
  intro X hP hw hK hc i pins s σ H E I hf st hg
  subst hP hw hK
  obtain⟨xs,hq,hx⟩:=hg
  obtain⟨its,rv,p,hz⟩:=I.list hq
  obtain⟨f0,f1,f2,f3,f4,f5⟩:=hf it (by simp)
  have hl:=rv.length
  exact wpAny_pyNext_list_end (I.ok.hd hc) st p.isList (by simp;omega) fun h' eb=> ⟨rfl,I.turned (t':=s.toks) (fun b o hb e=>eb b o hb e) f0 f1 f3 f4 f5⟩
 self:=fun _ _ _ _ _ st h=>wpAny_pyIter_listiter st h
theorem RZ{P:Program}{w:World}{K:PySem.W.Frag}{tg:Expr}(it:Addr)(lo:Int)(n:Nat):Turn P w K tg (jB lo n) [it] it (fun i h=>IsRangeIter h it (lo+ (i:Nat)*1) ((n:Int) - (i:Nat)) 1) where
 mem:=by simp
 obj:=fun i h st b hb=>by
  have e:b=it:=by simpa using hb
  subst e
  exact⟨_,st,fun v z=>by
   have z':Data.fields _=Data.cell v:=z
   cases z'⟩
 keep:=fun i h h' st k=>k it (by simp) _ st
 item:=by
  intro X hP hw hK hc i pins s σ H E I hf st hg
  subst hP hw hK
  obtain⟨f0,f1,f2,f3,f4,f5⟩:=hf it (by simp)
  have W:=Walks.range (prog:=X.prog) (w:=X.w) (I.ok.hd hc) it lo 1 n
  refine W.item i s _ _ hg st fun v h' tk hv i8 kk=> ?_
  obtain⟨t,rfl⟩:=hv
  have I1:Inv X pins σ H {s with heap:=h',toks:=tk}:=I.turned (fun b o hb e=>kk b o (by simpa using hb) e) f0 f1 f3 f4 f5
  refine⟨_,rfl,zy (s:={s with heap:=h',toks:=tk}) (n:="range_iterator") i8 rfl rfl (by decide) ⟨.int (lo+i),H,I1,⟨t, ?_⟩,⟨rfl,rfl⟩,i8,fun b hb=> (hf b hb).1⟩⟩
  rw[Int.mul_one]
 done:=by
  intro X hP hw hK hc i pins s σ H E I hf st hg
  subst hP hw hK
  obtain⟨f0,f1,f2,f3,f4,f5⟩:=hf it (by simp)
  exact wpAny_pyNext_range_end (I.ok.hd hc) st (by have:n≤i:=hg;omega) fun h' eb=> ⟨rfl,I.turned (t':=s.toks) (fun b o hb e=>eb b o hb e) f0 f1 f3 f4 f5⟩
 self:=fun _ _ _ _ _ st h=>wpAny_pyIter_rangeiter st h
section
variable {X:Cx} {tg:Expr}
def sE(K:PySem.W.Frag)(tl:TE):TI:=fun σ H R=>tl σ H fun x H1=> ∃a,x= .ref a∧(∃xs,aj K H1 a xs)∧R (iE K a) H1
def R0(K:PySem.W.Frag)(tl:TE):TI:=fun σ H R=>tl σ H fun x H1=> ∃a,x= .ref a∧(∃xs,aF K H1 a xs)∧R (RY K a) H1
theorem R1{l:Expr}{tl:TE}(hl:PE X l tl):PI X tg l (sE X.K tl):=by
 intro pins s σ H R I h
 refine aN (hl pins s σ H _ I h) fun v s1 ⟨x,H1,I1,r1,q1⟩=> ?_
 obtain⟨a,e,⟨xs,hq⟩,q⟩:=q1
 subst e
 cases r1
 obtain⟨its,rv,p,hz⟩:=I1.list hq
 refine wpAny_pyIter_list p.isList ?_
 refine⟨s1.heap.objs.size,[s1.heap.objs.size],_,_,H1,rfl,I1.kept (t':=s1.toks) fun b o e=>Heap.get?_push_of_some _ e,v3 a _,⟨_,Heap.get?_push_size _ rfl,rfl,rfl⟩,fun b hb=> ?_,q⟩
 have e:b=s1.heap.objs.size:=by simpa using hb
 subst e
 exact I1.vZ (Nat.le_refl _) (I1.aw.fresh (Nat.le_refl _))
theorem R3{pins:List (Addr×Obj)}{σ:St}{H:Hp}{s:Shared}{R:It→Hp→Prop}{E:Value→Shared→Prop}{lo hi:Int}{t u v:Tok}{tk:Nat}(I:Inv X pins σ H s)(h1: -(2 ^ 62)≤lo)(h2:lo<2 ^ 62)(h3: -(2 ^ 62)≤hi)(h4:hi<2 ^ 62)
  (q:R (jB lo (hi - lo).toNat) H):wpAny (model X.prog X.w) X.A (pyIter (.ref s.heap.objs.size)) (Jn X pins σ tg R) E {s with heap:=s.heap.push {cls:= .type "range",data:= .fields #[.int lo t, .int hi u, .int 1 v]},toks:=tk}:=by
 refine wpAny_pyIter_range (IsRange.new ..) (small_one h1 h2 h3 h4) ?_
 have I1:Inv X pins σ H {s with heap:=s.heap.push {cls:= .type "range",data:= .fields #[.int lo t, .int hi u, .int 1 v]},toks:=tk}:=I.kept fun b o e=>Heap.get?_push_of_some _ e
 refine⟨(s.heap.push {cls:= .type "range",data:= .fields #[.int lo t, .int hi u, .int 1 v]}).objs.size,[(s.heap.push {cls:= .type "range",data:= .fields #[.int lo t, .int hi u, .int 1 v]}).objs.size],_,_,H,rfl,
  I1.kept (t':=tk) fun b o e=>Heap.get?_push_of_some _ e,RZ _ lo (hi - lo).toNat, ?_,fun b hb=> ?_,q⟩
 ·have e1:lo+ ((0:Nat):Int)*1=lo:=by simp
  have e2:(((hi - lo).toNat:Nat):Int) - ((0:Nat):Int)=Builtin.Range.rangeSize lo hi 1:=by rw[rangeSize_one];split<;>omega
  show IsRangeIter _ _ (lo+ ((0:Nat):Int)*1) ((((hi - lo).toNat:Nat):Int) - ((0:Nat):Int)) 1
  rw[e1,e2]
  exact Heap.get?_push_size _ rfl
 ·have e:b=(s.heap.push {cls:= .type "range",data:= .fields #[.int lo t, .int hi u, .int 1 v]}).objs.size:=by simpa using hb
  subst e
  exact I1.vZ (Nat.le_refl _) (I1.aw.fresh (Nat.le_refl _))
def Jo(ta:TA):TI:=fun σ H R=>ta σ H fun vs H1=> ∃j:Int,vs=[.int j]∧ -(2 ^ 62)≤j∧j<2 ^ 62∧R (jB 0 j.toNat) H1
def R4(ta:TA):TI:=fun σ H R=>ta σ H fun vs H1=> ∃i j:Int,vs=[.int i, .int j]∧(-(2 ^ 62)≤i∧i<2 ^ 62∧ -(2 ^ 62)≤j∧j<2 ^ 62)∧R (jB i (j - i).toNat) H1
theorem R5{a:Expr}{ta:TA}{p pos:Pos}(hg:Gl X "range")(hm:X.mg "range"=none)(ha:PA X [a] ta)(hs:starEach [a] X.env=[(false,eval a X.env)]:=by rfl):PI X tg (.Call (.Name "range" p) [a] [] pos) (Jo ta):=by
 intro pins s σ H R I h
 refine Call_ (sC I hg hm boot_range (PyProof.Rows.callWith_type1 (aN (ha pos pins s σ H _ I h) fun us s1 ⟨vs,H1,I1,r1,q1⟩=> ?_) hs rfl))
 obtain⟨j,e,q1,q2,q⟩:=q1
 subst e
 cases r1 with
 | cons r rr=>
  cases rr
  obtain⟨t,rfl⟩:=r
  exact call_range_1 (R3 I1 (by omega) (by omega) q1 q2 (by simpa using q))
def v8(wi:TI)(g:TG)(tb:TS):TS:=fun D σ H=>wi σ H fun J H1=> ∃W:Nat→Nat→St→Hp→Prop,(∃m,W 0 m σ H1)∧ ∀i m σ H,W i m σ H→
 (J.stop i H∧D.nx σ H)∨(J.go i H∧ ∃N:St→Hp→Prop,(∀σ' H',N σ' H'→ ∃m',m'<m∧W (i+1) m' σ' H')∧ ∀x H',J.i7 i H x H'→g x σ H' fun σ2 H2=>tb {D with nx:=N,ct:=N,bk:=D.nx} σ2 H2)
def qp(fp:List Addr)(h:Heap):List (Addr×Obj):=fp.filterMap fun b=> (h.get? b).map fun o=> (b,o)
theorem v9{fp:List Addr}{h:Heap}{b:Addr}{o:Obj}(hb:b∈fp)(e:h.get? b=some o):(b,o)∈qp fp h:=List.mem_filterMap.mpr ⟨b,hb,by rw[e];rfl⟩
theorem R6{fp:List Addr}{h:Heap}{p:Addr×Obj}(hp:p∈qp fp h):p.1∈fp∧h.get? p.1=some p.2:=by
 obtain⟨b,hb,e⟩:=List.mem_filterMap.mp hp
 cases q:h.get? b with
 | none=>rw[q] at e;cases e
 | some o=>
  rw[q] at e
  have e':(b,o)=p:=Option.some.inj e
  subst e'
  exact⟨hb,q⟩
theorem Inv.pinned{pins:List (Addr×Obj)}{σ:St}{H:Hp}{s:Shared}{fp:List Addr}(I:Inv X pins σ H s)(hf: ∀b∈fp,iD X pins H b)(ho: ∀b∈fp,∃o,s.heap.get? b=some o∧ ∀v,o.data≠ .cell v):Inv X (pins++qp fp s.heap) σ H s:=
 I.ql fun p hp=> (List.mem_append.mp hp).elim (fun z=>I.pin p (List.mem_append_right _ z)) fun z=>by
  obtain⟨hb,e⟩:=R6 z
  obtain⟨f0,f1,f2,_⟩:=hf p.1 hb
  obtain⟨o,e',d⟩:=ho p.1 hb
  rw[e] at e';cases e'
  exact⟨e,f0,f1,f2,d⟩
theorem Inv.zz{pins pl:List (Addr×Obj)}{σ:St}{H:Hp}{s:Shared}(I:Inv X (pins++pl) σ H s):Inv X pins σ H s:=I.ql fun p hp=>I.pin p (List.mem_append_right _ (List.mem_append_left _ hp))
theorem Jp{iter:Expr}{body:List Stmt}{wi:TI}{g:TG}{tb:TS}{pos:Pos}(hp:PassesOwn (model X.prog X.w) X.A X.env X.xe)(hc:X.calm=true)(hi:PI X tg iter wi)(hg:PG X tg g)(hb:bo X body tb)
  (hs: ∀x,foldedSetIterable iter X.env x=pure x:=by intro _;rfl):PS X (.For tg iter body [] pos) (v8 wi g tb):=by
 intro pins s σ H D I h
 refine wpAny_For (aN (hi pins s σ H _ I h) fun v s1 h1=>aN h1 fun nI s2 h2=> ?_) hs
 obtain⟨it,fp,tn,J,H2,e,I2,T,sG,f2,W,⟨m0,w0⟩,turn⟩:=h2
 subst e
 have nJ: ∀{H':Hp},(∀b∈fp,H' b=none)→ ∀b∈fp,iD X pins H' b:=fun hn b hb=> ⟨hn b hb,(f2 b hb).2⟩
 refine codeAny_forLoop_any (fun n s'=> ∃i σ' H',Inv X pins σ' H' s'∧tn i s'.heap∧(∀b∈fp,H' b=none)∧W i n σ' H') ?_ m0 ⟨0,σ,H2,I2,sG,fun b hb=> (f2 b hb).1,w0⟩
 rintro n s3 ⟨i,σ3,H3,I3,Jq,Jr,w3⟩
 rcases turn i n σ3 H3 w3 with⟨stop,qn⟩ | ⟨go,N,hN,step⟩
 ·refine wpAny_passesOwn hp (aN (T.done X rfl rfl rfl hc i pins s3 σ3 H3 X.xe I3 (nJ Jr) Jq stop) fun r s4 ⟨hr,I4⟩=> ?_)
  subst hr
  exact wpAny_execs_nil ⟨σ3,H3,I4,qn⟩
 ·refine wpAny_passesOwn hp (aN (T.item X rfl rfl rfl hc i pins s3 σ3 H3 X.xe I3 (nJ Jr) Jq go) fun r s4 ⟨u,hr,h4⟩=> ?_)
  subst hr
  refine wpAny_passesOwn hp (aN h4 fun _ s5 ⟨x,H5,I5,r5,y5,nK,zA⟩=> ?_)
  have sH:=I5.pinned (nJ zA) (T.obj _ _ nK)
  refine wpAny_passesOwn hp (aN (hg _ s5 σ3 H5 x u _ sH r5 (step x H5 y5)) fun _ s6 ⟨σ6,H6,I6,q6⟩=> ?_)
  refine wpAny_passesOwn hp (aN (hb _ s6 σ6 H6 _ I6 q6) fun f s7 q7=> ?_)
  have again: ∀{σ7:St} {H7:Hp},Inv X (pins++qp fp s5.heap) σ7 H7 s7→N σ7 H7→ ∃m,m<n∧ ∃i σ' H',Inv X pins σ' H' s7∧tn i s7.heap∧(∀b∈fp,H' b=none)∧W i m σ' H':=fun {σ7 H7} I7 n7=>by
   obtain⟨m',hm,w7⟩:=hN σ7 H7 n7
   refine⟨m',hm,i+1,σ7,H7,I7.zz,T.keep _ _ _ nK fun b hb o e=> (I7.pin (b,o) (List.mem_append_right _ (List.mem_append_right _ (v9 hb e)))).1,fun b hb=> ?_,w7⟩
   obtain⟨o,e,d⟩:=T.obj _ _ nK b hb
   exact(I7.pin (b,o) (List.mem_append_right _ (List.mem_append_right _ (v9 hb e)))).2.1
  cases f with
  | next=>obtain⟨σ7,H7,I7,n7⟩:=q7;exact again I7 n7
  | cont=>obtain⟨σ7,H7,I7,n7⟩:=q7;exact again I7 n7
  | brk=>obtain⟨σ7,H7,I7,q7⟩:=q7;exact⟨σ7,H7,I7.zz,q7⟩
  | ret v=>obtain⟨x7,σ7,H7,I7,r7,q7⟩:=q7;exact⟨x7,σ7,H7,I7.zz,r7,q7⟩
end
theorem iG{K:PySem.W.Frag}{a:Addr}{xs:List V}{g:TG}{tb:TS}{D:Ends}{σ:St}{H:Hp}(Pv:Nat→St→Hp→Prop)(h0:Pv 0 σ H)(hl: ∀i σ H,i≤xs.length→Pv i σ H→aj K H a xs)
  (hs: ∀i x σ H,xs[i]?=some x→Pv i σ H→g x σ H fun σ2 H2=>tb {D with nx:=Pv (i+1),ct:=Pv (i+1),bk:=D.nx} σ2 H2) (hd: ∀σ H,Pv xs.length σ H→D.nx σ H):
  ∃W:Nat→Nat→St→Hp→Prop,(∃m,W 0 m σ H)∧ ∀i m σ H,W i m σ H→
   ((iE K a).stop i H∧D.nx σ H)∨((iE K a).go i H∧ ∃N:St→Hp→Prop,(∀σ' H',N σ' H'→ ∃m',m'<m∧W (i+1) m' σ' H')∧ ∀x H',(iE K a).i7 i H x H'→g x σ H' fun σ2 H2=>tb {D with nx:=N,ct:=N,bk:=D.nx} σ2 H2):=by
 refine⟨fun i m σ H=>m=xs.length - i∧i≤xs.length∧Pv i σ H,⟨xs.length,by simp,Nat.zero_le _,h0⟩, ?_⟩
 rintro i m σ H ⟨rfl,hi,p⟩
 have q:=hl i σ H hi p
 by_cases aS:i<xs.length
 ·refine .inr ⟨⟨xs,xs[i],q,by simp[aS]⟩,Pv (i+1),fun σ' H' p'=> ⟨xs.length - (i+1),by omega,rfl,aS,p'⟩,fun x H' y=> ?_⟩
  obtain⟨e,y⟩:=y
  subst e
  exact hs i x σ _ (y xs q) p
 ·have e:i=xs.length:=by omega
  subst e
  exact .inl ⟨⟨xs,q,Nat.le_refl _⟩,hd σ H p⟩
theorem zB{lo:Int}{n:Nat}{g:TG}{tb:TS}{D:Ends}{σ:St}{H:Hp}(Pv:Nat→St→Hp→Prop)(h0:Pv 0 σ H)
  (hs: ∀i σ H,i<n→Pv i σ H→g (.int (lo+i)) σ H fun σ2 H2=>tb {D with nx:=Pv (i+1),ct:=Pv (i+1),bk:=D.nx} σ2 H2) (hd: ∀σ H,Pv n σ H→D.nx σ H):
  ∃W:Nat→Nat→St→Hp→Prop,(∃m,W 0 m σ H)∧ ∀i m σ H,W i m σ H→
   ((jB lo n).stop i H∧D.nx σ H)∨((jB lo n).go i H∧ ∃N:St→Hp→Prop,(∀σ' H',N σ' H'→ ∃m',m'<m∧W (i+1) m' σ' H')∧ ∀x H',(jB lo n).i7 i H x H'→g x σ H' fun σ2 H2=>tb {D with nx:=N,ct:=N,bk:=D.nx} σ2 H2):=by
 refine⟨fun i m σ H=>m=n - i∧i≤n∧Pv i σ H,⟨n,by simp,Nat.zero_le _,h0⟩, ?_⟩
 rintro i m σ H ⟨rfl,hi,p⟩
 by_cases aS:i<n
 ·refine .inr ⟨aS,Pv (i+1),fun σ' H' p'=> ⟨n - (i+1),by omega,rfl,aS,p'⟩,fun x H' y=> ?_⟩
  obtain⟨e,y⟩:=y
  subst e y
  exact hs i σ _ aS p
 ·have e:i=n:=by omega
  subst e
  exact .inl ⟨Nat.le_refl _,hd σ H p⟩
abbrev R2:=V→V→Hp→VK→Prop
def bw(X:Cx)(f:Value→Value→Sem Value)(r:R2):Prop:=
 ∀(pins:List (Addr×Obj)) (s:Shared) (σ:St) (H:Hp) (x y:V) (v u:Value) (Q:VK),Inv X pins σ H s→RelV x v→RelV y u→r x y H Q→
  wpAny (model X.prog X.w) X.A (f v u) (EP X pins σ Q) X.xe s
def v_(X:Cx)(f:Value→Sem Value)(r:V→Hp→VK→Prop):Prop:=
 ∀(pins:List (Addr×Obj)) (s:Shared) (σ:St) (H:Hp) (x:V) (v:Value) (Q:VK),Inv X pins σ H s→RelV x v→r x H Q→
  wpAny (model X.prog X.w) X.A (f v) (EP X pins σ Q) X.xe s
def cJ(X:Cx)(f:Value)(r:List V→Hp→VK→Prop):Prop:=
 ∀(pins:List (Addr×Obj)) (s:Shared) (σ:St) (H:Hp) (xs:List V) (us:List Value) (Q:VK),Inv X pins σ H s→Vals xs us→r xs H Q→
  wpAny (model X.prog X.w) X.A (call f us) (EP X pins σ Q) X.xe s
def R7(X:Cx)(r:V→Hp→(Bool→Hp→Prop)→Prop):Prop:=
 ∀(pins:List (Addr×Obj)) (s:Shared) (σ:St) (H:Hp) (x:V) (v:Value) (Q:Bool→Hp→Prop),Inv X pins σ H s→RelV x v→r x H Q→
  wpAny (model X.prog X.w) X.A (truthy v) (TP X pins σ Q) X.xe s
def dY(r:R2)(ta tb:TE):TE:=fun σ H Q=>ta σ H fun x H1=>tb σ H1 fun y H2=>r x y H2 Q
def Js(r:V→Hp→VK→Prop)(ta:TE):TE:=fun σ H Q=>ta σ H fun x H1=>r x H1 Q
def rI(C:Int→Int→Prop)(g:Int→Int→V):R2:=fun x y H Q=> ∃i j,x= .int i∧y= .int j∧C i j∧Q (g i j) H
def kf(g:Int→Int→V):R2:=fun x y H Q=> ∃i j,x= .int i∧y= .int j∧Q (g i j) H
def rU(g:Int→V):V→Hp→VK→Prop:=fun x H Q=> ∃i,x= .int i∧Q (g i) H
section
variable {X:Cx} {a b c:Expr} {ta tb tc:TE} {pos:Pos}
theorem zC(ha:PE X a ta)(hb:PE X b tb){pins:List (Addr×Obj)}{s:Shared}{σ:St}{H:Hp}{R:V→V→Hp→Prop}(I:Inv X pins σ H s)
  (h:ta σ H fun x H1=>tb σ H1 fun y H2=>R x y H2) {Q:Value→Shared→Prop} {f:Value→Value→Sem Value}
  (hf: ∀v u s2 x y H2,Inv X pins σ H2 s2→RelV x v→RelV y u→R x y H2→wpAny (model X.prog X.w) X.A (f v u) Q X.xe s2):
  wpAny (model X.prog X.w) X.A (eval a X.env) (fun v s₁=>wpAny (model X.prog X.w) X.A (eval b X.env) (fun u s₂=>wpAny (model X.prog X.w) X.A (f v u) Q X.xe s₂) X.xe s₁) X.xe s:=by
 refine aN (ha pins s σ H _ I h) fun v s1 ⟨x,H1,I1,r1,q1⟩=> ?_
 refine aN (hb pins s1 σ H1 _ I1 q1) fun u s2 ⟨y,H2,I2,r2,q2⟩=> ?_
 exact hf v u s2 x y H2 I2 r1 r2 q2
theorem R8{op:Operator}{r:R2}(ho:bw X (binaryOp op) r)(ha:PE X a ta)(hb:PE X b tb):PE X (.BinOp a op b pos) (dY r ta tb):=by
 intro pins s σ H Q I h
 exact wpAny_BinOp (zC ha hb I h fun v u s2 x y H2 I2 rx ry q=>ho pins s2 σ H2 x y v u Q I2 rx ry q)
theorem R9{op:UnaryOp}{r:V→Hp→VK→Prop}(ho:v_ X (unaryOp op) r)(ha:PE X a ta):PE X (.UnaryOp op a pos) (Js r ta):=by
 intro pins s σ H Q I h
 exact UnaryOp_ (aN (ha pins s σ H _ I h) fun v s1 ⟨x,H1,I1,r1,q1⟩=>ho pins s1 σ H1 x v Q I1 r1 q1)
theorem wa{f:Value→Value→Sem Value}{C:Int→Int→Prop}{g:Int→Int→Int}
  (rule: ∀(i j:Int) (t u:Tok) (s:Shared) (Q:Value→Shared→Prop) (E:Value→Shared→Prop),C i j→Q (.int (g i j) s.toks) {s with toks:=s.toks+1}→wpAny (model X.prog X.w) X.A (f (.int i t) (.int j u)) Q E s):
  bw X f (rI C fun i j=> .int (g i j)):=by
 intro pins s σ H x y v u Q I rx ry h
 obtain⟨i,j,rfl,rfl,hc,q⟩:=h
 obtain⟨t,rfl⟩:=rx
 obtain⟨t',rfl⟩:=ry
 exact rule i j t t' s _ _ hc ⟨.int (g i j),H,I.tok _,⟨_,rfl⟩,q⟩
theorem Jt{f:Value→Value→Sem Value}{g:Int→Int→Int}
  (rule: ∀(i j:Int) (t u:Tok) (s:Shared) (Q:Value→Shared→Prop) (E:Value→Shared→Prop),Q (.int (g i j) s.toks) {s with toks:=s.toks+1}→wpAny (model X.prog X.w) X.A (f (.int i t) (.int j u)) Q E s):
  bw X f (kf fun i j=> .int (g i j)):=by
 intro pins s σ H x y v u Q I rx ry h
 obtain⟨i,j,rfl,rfl,q⟩:=h
 obtain⟨t,rfl⟩:=rx
 obtain⟨t',rfl⟩:=ry
 exact rule i j t t' s _ _ ⟨.int (g i j),H,I.tok _,⟨_,rfl⟩,q⟩
theorem wb{f:Value→Value→Sem Value}{g:Int→Int→Bool}
  (rule: ∀(i j:Int) (t u:Tok) (s:Shared) (Q:Value→Shared→Prop) (E:Value→Shared→Prop),Q (.bool (g i j)) s→wpAny (model X.prog X.w) X.A (f (.int i t) (.int j u)) Q E s):
  bw X f (kf fun i j=> .bl (g i j)):=by
 intro pins s σ H x y v u Q I rx ry h
 obtain⟨i,j,rfl,rfl,q⟩:=h
 obtain⟨t,rfl⟩:=rx
 obtain⟨t',rfl⟩:=ry
 exact rule i j t t' s _ _ ⟨.bl (g i j),H,I,rfl,q⟩
def Ju(i j:Int):Prop:=0<j∧j<1073741824
def Jv(i j:Int):Prop:=0≤j∧j≤1000000∧i.natAbs<2 ^ 64
def wc(i j:Int):Prop:=(-(2 ^ 64) <i∧i<2 ^ 64)∨(-(2 ^ 64) <j∧j<2 ^ 64)
theorem wc.ok{i j:Int}(h:wc i j):IntMulOk i j:=by
 rcases h with⟨h1,h2⟩ | ⟨h1,h2⟩
 ·exact .of_left (intBits_le_64 h1 h2)
 ·exact .of_right (intBits_le_64 h1 h2)
theorem R_:bw X (binaryOp .Add) (kf fun i j=> .int (i+j)):=Jt fun _ _ _ _ _ _ _ q=>add_int q
theorem Sa:bw X (binaryOp .Sub) (kf fun i j=> .int (i - j)):=Jt fun _ _ _ _ _ _ _ q=>sub_int q
theorem Sb:bw X (binaryOp .Mult) (rI wc fun i j=> .int (i*j)):=wa fun _ _ _ _ _ _ _ hc q=>mul_int q hc.ok
theorem Sd:bw X (binaryOp .FloorDiv) (rI Ju fun i j=> .int (i / j)):=wa fun i j _ _ _ _ _ hc q=>by
 have h1:(0:Int) <j:=hc.1
 have h2:j<1073741824:=hc.2
 exact floordiv_int (by omega) (by rw[Int.fdiv_eq_ediv_of_nonneg i (by omega)];exact q) (.inl (PyProof.noPylong_small (by omega)))
theorem Se:bw X (binaryOp .Mod) (rI (fun _ j=>0<j) fun i j=> .int (i % j)):=wa fun i j _ _ _ _ _ hc q=>by
 have h1:(0:Int) <j:=hc
 exact mod_int' (by omega) (by rw[Int.fmod_eq_emod_of_nonneg i (by omega)];exact q)
theorem Sf:bw X (binaryOp .Pow) (rI Jv fun i j=> .int (i ^ j.toNat)):=wa fun _ _ _ _ _ _ _ hc q=>pow_int_small hc.1 hc.2.1 hc.2.2 q
theorem Sh{f:Value→Sem Value}{g:Int→Int}
  (rule: ∀(i:Int) (t:Tok) (s:Shared) (Q:Value→Shared→Prop) (E:Value→Shared→Prop),Q (.int (g i) s.toks) {s with toks:=s.toks+1}→wpAny (model X.prog X.w) X.A (f (.int i t)) Q E s):
  v_ X f (rU fun i=> .int (g i)):=by
 intro pins s σ H x v Q I rx h
 obtain⟨i,rfl,q⟩:=h
 obtain⟨t,rfl⟩:=rx
 exact rule i t s _ _ ⟨.int (g i),H,I.tok _,⟨_,rfl⟩,q⟩
theorem Si:v_ X (unaryOp .USub) (rU fun i=> .int (-i)):=Sh fun _ _ _ _ _ q=>neg_int q
end
def jC:V→V→Bool
 | .aq, .aq=>true | .aq, .int _=>true | .int _, .aq=>true | .aq, .bl _=>true | .bl _, .aq=>true | .aq, .str _=>true | .str _, .aq=>true
 | .int _, .int _=>true | .bl _, .bl _=>true | .str _, .str _=>true | .fh _, .fh _=>true
 | .int _, .str _=>true | .str _, .int _=>true | .bl _, .str _=>true | .str _, .bl _=>true
 | _,_=>false
def Sj:R2:=fun x y H Q=>jC x y=true∧Q (.bl (decide (x=y))) H
def Sk:R2:=fun x y H Q=>jC x y=true∧Q (.bl (!decide (x=y))) H
theorem Jw{i j:Int}:decide (V.int i=V.int j)=(i==j):=by
 rw[Bool.eq_iff_iff]
 simp
theorem Jx{i j:Bool}:decide (V.bl i=V.bl j)=(i==j):=by
 rw[Bool.eq_iff_iff]
 simp
theorem fL{i j:Str}:decide (V.str i=V.str j)=(i==j):=by
 rw[Bool.eq_iff_iff]
 simp
theorem Jy{i j:Array UInt8}:decide (V.fh i=V.fh j)=(i.toList==j.toList):=by
 rw[Bool.eq_iff_iff]
 cases i
 cases j
 simp
section
variable {X:Cx} {a b c:Expr} {ta tb tc:TE} {pos:Pos}
theorem cz{pins:List (Addr×Obj)}{σ:St}{H:Hp}{s:Shared}{Q:VK}{k k':Bool}(I:Inv X pins σ H s)(q:Q (.bl k) H)(e:k=k'):EP X pins σ Q (.bool k') s:=by
 subst e
 exact⟨.bl k,H,I,rfl,q⟩
theorem Sl:bw X (compareOp .Eq) Sj:=by
 intro pins s σ H x y v u Q I rx ry h
 obtain⟨hs,q⟩:=h
 cases x with
 | aq=>
  cases rx
  cases y with
  | aq=>cases ry;exact PySem.EqNone.eq_none_none (cz I q (by simp))
  | bl j=>cases ry;exact PySem.EqNone.eq_none_bool (cz I q (by simp))
  | int j=>obtain⟨t',rfl⟩:=ry;exact PySem.EqNone.eq_none_int (cz I q (by simp))
  | str j=>obtain⟨t',rfl⟩:=ry;exact PySem.EqNone.eq_none_str (cz I q (by simp))
  | _=>exact absurd (show false=true from hs) Bool.false_ne_true
 | bl i=>
  cases rx
  cases y with
  | aq=>cases ry;exact PySem.EqNone.eq_bool_none (cz I q (by simp))
  | bl j=>cases ry;exact eq_bool (cz I q Jx)
  | str j=>obtain⟨t',rfl⟩:=ry;exact PySem.EqMixed.eq_bool_str (cz I q (by simp))
  | _=>exact absurd (show false=true from hs) Bool.false_ne_true
 | int i=>
  obtain⟨t,rfl⟩:=rx
  cases y with
  | aq=>cases ry;exact PySem.EqNone.eq_int_none (cz I q (by simp))
  | int j=>obtain⟨t',rfl⟩:=ry;exact eq_int (cz I q Jw)
  | str j=>obtain⟨t',rfl⟩:=ry;exact PySem.EqMixed.eq_int_str (cz I q (by simp))
  | _=>exact absurd (show false=true from hs) Bool.false_ne_true
 | str i=>
  obtain⟨t,rfl⟩:=rx
  cases y with
  | aq=>cases ry;exact PySem.EqNone.eq_str_none (cz I q (by simp))
  | bl j=>cases ry;exact PySem.EqMixed.eq_str_bool (cz I q (by simp))
  | int j=>obtain⟨t',rfl⟩:=ry;exact PySem.EqMixed.eq_str_int (cz I q (by simp))
  | str j=>obtain⟨t',rfl⟩:=ry;exact eq_str (cz I q fL)
  | _=>exact absurd (show false=true from hs) Bool.false_ne_true
 | fh i=>
  obtain⟨t,rfl⟩:=rx
  cases y with
  | fh j=>obtain⟨t',rfl⟩:=ry;exact PySem.W.eq_bytes (cz I q Jy)
  | _=>exact absurd (show false=true from hs) Bool.false_ne_true
 | _=>cases y<;>exact absurd (show false=true from hs) Bool.false_ne_true
theorem Sm:bw X (compareOp .NotEq) Sk:=by
 intro pins s σ H x y v u Q I rx ry h
 obtain⟨hs,q⟩:=h
 cases x with
 | aq=>
  cases rx
  cases y with
  | aq=>cases ry;exact PySem.EqNone.ne_none_none (cz I q (by simp))
  | bl j=>cases ry;exact PySem.EqNone.ne_none_bool (cz I q (by simp))
  | int j=>obtain⟨t',rfl⟩:=ry;exact PySem.EqNone.ne_none_int (cz I q (by simp))
  | str j=>obtain⟨t',rfl⟩:=ry;exact PySem.EqNone.ne_none_str (cz I q (by simp))
  | _=>exact absurd (show false=true from hs) Bool.false_ne_true
 | bl i=>
  cases rx
  cases y with
  | aq=>cases ry;exact PySem.EqNone.ne_bool_none (cz I q (by simp))
  | bl j=>cases ry;exact ne_bool (cz I q (congrArg not Jx))
  | str j=>obtain⟨t',rfl⟩:=ry;exact PySem.EqMixed.ne_bool_str (cz I q (by simp))
  | _=>exact absurd (show false=true from hs) Bool.false_ne_true
 | int i=>
  obtain⟨t,rfl⟩:=rx
  cases y with
  | aq=>cases ry;exact PySem.EqNone.ne_int_none (cz I q (by simp))
  | int j=>obtain⟨t',rfl⟩:=ry;exact ne_int (cz I q (congrArg not Jw))
  | str j=>obtain⟨t',rfl⟩:=ry;exact PySem.EqMixed.ne_int_str (cz I q (by simp))
  | _=>exact absurd (show false=true from hs) Bool.false_ne_true
 | str i=>
  obtain⟨t,rfl⟩:=rx
  cases y with
  | aq=>cases ry;exact PySem.EqNone.ne_str_none (cz I q (by simp))
  | bl j=>cases ry;exact PySem.EqMixed.ne_str_bool (cz I q (by simp))
  | int j=>obtain⟨t',rfl⟩:=ry;exact PySem.EqMixed.ne_str_int (cz I q (by simp))
  | str j=>obtain⟨t',rfl⟩:=ry;exact ne_str (cz I q (congrArg not fL))
  | _=>exact absurd (show false=true from hs) Bool.false_ne_true
 | fh i=>
  obtain⟨t,rfl⟩:=rx
  cases y with
  | fh j=>obtain⟨t',rfl⟩:=ry;exact PySem.W.ne_bytes (cz I q (congrArg not Jy))
  | _=>exact absurd (show false=true from hs) Bool.false_ne_true
 | _=>cases y<;>exact absurd (show false=true from hs) Bool.false_ne_true
theorem Sn:bw X (compareOp .Lt) (kf fun i j=> .bl (decide (i<j))):=wb fun _ _ _ _ _ _ _ q=>lt_int q
theorem So:bw X (compareOp .LtE) (kf fun i j=> .bl (decide (i≤j))):=wb fun _ _ _ _ _ _ _ q=>le_int q
theorem Sq:bw X (compareOp .Gt) (kf fun i j=> .bl (decide (j<i))):=wb fun _ _ _ _ _ _ _ q=>gt_int q
theorem Sr:bw X (compareOp .GtE) (kf fun i j=> .bl (decide (j≤i))):=wb fun _ _ _ _ _ _ _ q=>ge_int q
theorem Ss:bw X (compareOp .In) (fun x y H Q=> ∃i j,x= .str i∧y= .str j∧Q (.bl (!(Builtin.Str.occurrences j i 0 j.length 1).isEmpty)) H):=by
 intro pins s σ H x y v u Q I rx ry h
 obtain⟨i,j,rfl,rfl,q⟩:=h
 obtain⟨t,rfl⟩:=rx
 obtain⟨t',rfl⟩:=ry
 exact in_str (cz I q rfl)
theorem Su:bw X (compareOp .Is) (fun x y H Q=>y= .aq∧Q (.bl (decide (x= .aq))) H):=by
 intro pins s σ H x y v u Q I rx ry h
 obtain⟨rfl,q⟩:=h
 cases ry
 refine is_none_gen (cz I q ?_)
 cases x<;>first
  | (cases rx;rfl)
  | (obtain⟨t,rfl⟩:=rx;rfl)
theorem Sv:bw X (compareOp .IsNot) (fun x y H Q=>y= .aq∧Q (.bl (!decide (x= .aq))) H):=by
 intro pins s σ H x y v u Q I rx ry h
 obtain⟨rfl,q⟩:=h
 cases ry
 refine isnot_none_gen (cz I q ?_)
 cases x<;>first
  | (cases rx;rfl)
  | (obtain⟨t,rfl⟩:=rx;rfl)
theorem Sw:bw X (compareOp .NotIn) (fun x y H Q=> ∃i j,x= .str i∧y= .str j∧Q (.bl (!(!(Builtin.Str.occurrences j i 0 j.length 1).isEmpty))) H):=by
 intro pins s σ H x y v u Q I rx ry h
 obtain⟨i,j,rfl,rfl,q⟩:=h
 obtain⟨t,rfl⟩:=rx
 obtain⟨t',rfl⟩:=ry
 exact notIn_str (cz I q rfl)
theorem bw.or{f:Value→Value→Sem Value}{r r':R2}(h:bw X f r)(h':bw X f r'):bw X f (fun x y H Q=>r x y H Q∨r' x y H Q):=by
 intro pins s σ H x y v u Q I rx ry q
 rcases q with q | q
 ·exact h pins s σ H x y v u Q I rx ry q
 ·exact h' pins s σ H x y v u Q I rx ry q
theorem Sx{op:CmpOp}{r:R2}(ho:bw X (compareOp op) r)(ha:PE X a ta)(hb:PE X b tb)(hm:behindInMarks op b=false):PE X (.Compare a [op] [b] pos) (dY r ta tb):=by
 intro pins s σ H Q I h
 exact wpAny_Compare1 (zC ha hb I h fun v u s2 x y H2 I2 rx ry q=>ho pins s2 σ H2 x y v u Q I2 rx ry q) hm
def nN(t:TE):TT:=fun σ H Q=>t σ H fun x H'=> ∃k,x= .bl k∧Q k H'
theorem Jz{op:CmpOp}{r:R2}(ho:bw X (compareOp op) r)(ha:PE X a ta)(hb:PE X b tb)(hm:behindInMarks op b=false):PT X (.Compare a [op] [b] pos) (nN (dY r ta tb)):=by
 intro pins s σ H Q I h
 refine wpAny_isTrue_Compare1 (aN (ha pins s σ H _ I h) fun v s1 ⟨x,H1,I1,r1,q1⟩=>aN (hb pins s1 σ H1 _ I1 q1) fun u s2 ⟨y,H2,I2,r2,q2⟩=>
  aN (ho pins s2 σ H2 x y v u _ I2 r1 r2 q2) fun c s3 ⟨z,H3,I3,r3,k,e,q3⟩=> ?_) hm
 subst e
 cases r3
 exact wpAny_truthy_bool ⟨H3,I3,q3⟩
def JA(r r':R2)(ta tb tc:TE):TE:=fun σ H Q=>ta σ H fun x H1=>tb σ H1 fun y H2=>r x y H2 fun z H3=> ∃k,z= .bl k∧
 (if k=true then tc σ H3 fun w' H4=>r' y w' H4 Q else Q (.bl false) H3)
def JB(K:PySem.W.Frag)(x:V)(H:Hp)(k:Bool):Prop:=
 match x with
 | .aq=>k=false
 | .bl b=>k=b
 | .int i=>k=(i !=0)
 | .str y=>y.length≤sizeLine∧k=((y.length:Int) !=0)
 | .fh y=>y.size≤sizeLine∧k=((y.size:Int) !=0)
 | .ref p=> (∃xs,aj K H p xs∧k= !xs.isEmpty)∨(∃xs,aF K H p xs∧k= !xs.isEmpty)∨ ∃ao,H p=some (.dK ao)∧k= !ao.isEmpty
 | _=>False
theorem Sy{κ:Type}{ao:List (κ×V)}{vs:List (κ×Value)}(r:KV ao vs):(!vs.isEmpty)= !ao.isEmpty:=by
 cases r<;>rfl
theorem JC{xs:List V}{its:List Value}(r:Vals xs its):(!its.toArray.isEmpty)= !xs.isEmpty:=by
 cases r<;>simp
theorem mD:(sizeLine:Nat) <2 ^ 63:=by rw[sizeLine_eq];decide
theorem JD:R7 X (fun x H Q=> ∃k,JB X.K x H k∧Q k H):=by
 intro pins s σ H x v Q I rx h
 obtain⟨k,e,q⟩:=h
 have hl:=mD
 have hs:sizeLine=16777216:=sizeLine_eq
 cases x with
 | aq=>
  cases rx
  have e':k=false:=e
  subst e'
  exact truthy_none ⟨H,I,q⟩
 | bl b=>
  cases rx
  have e':k=b:=e
  subst e'
  exact wpAny_truthy_bool ⟨H,I,q⟩
 | int i=>
  obtain⟨t,rfl⟩:=rx
  have e':k=(i !=0):=e
  subst e'
  exact PySem.P.truthy_int ⟨H,I,q⟩
 | str y=>
  obtain⟨t,rfl⟩:=rx
  obtain⟨hy,e'⟩:y.length≤sizeLine∧k=((y.length:Int) !=0):=e
  subst e'
  exact PySem.P.truthy_str (by omega) ⟨H,I.tok _,q⟩
 | fh y=>
  obtain⟨t,rfl⟩:=rx
  obtain⟨hy,e'⟩:y.size≤sizeLine∧k=((y.size:Int) !=0):=e
  subst e'
  exact PySem.W.truthy_bytes (by omega) ⟨H,I.tok _,q⟩
 | ref p=>
  cases rx
  have e':(∃xs,aj X.K H p xs∧k= !xs.isEmpty)∨(∃xs,aF X.K H p xs∧k= !xs.isEmpty)∨ ∃ao,H p=some (.dK ao)∧k= !ao.isEmpty:=e
  rcases e' with⟨xs,hx,e'⟩ | ⟨xs,hx,e'⟩ | ⟨ao,hx,e'⟩
  ·subst e'
   obtain⟨its,r,pl,hz⟩:=I.list hx
   have hlen:=r.length
   exact wpAny_truthy_list pl.isList (by simp only[List.size_toArray];omega) ⟨H,I.tok _,by rw[JC r];exact q⟩
  ·subst e'
   obtain⟨its,r,pl,hz⟩:=I.tuple hx
   have hlen:=r.length
   exact truthy_tuple pl (by simp only[List.size_toArray];omega) ⟨H,I.tok _,by rw[JC r];exact q⟩
  ·subst e'
   obtain⟨hz,hS,vs,r,m⟩:ao.length≤sizeLine∧(p==sysModules)=false∧ ∃vs,KV ao vs∧s.heap.DictOf (eh X.prog X.w) p vs:=I.aw p _ hx
   have hlen:ao.length=vs.length:=Paired.length r
   exact wpAny_truthy_dict hS m (by omega) ⟨H,I.tok _,by rw[Sy r];exact q⟩
 | _=>exact(show False from e).elim
theorem Sz:bw X (binaryOp .Add) (fun x y H Q=> ∃i j,x= .str i∧y= .str j∧i.length+j.length≤sizeLine∧Q (.str (i++j)) H):=by
 intro pins s σ H x y v u Q I rx ry h
 obtain⟨i,j,rfl,rfl,hz,q⟩:=h
 obtain⟨t,rfl⟩:=rx
 obtain⟨t',rfl⟩:=ry
 exact add_str (fun t' tk=> ⟨.str (i++j),H,I.tok _,⟨_,rfl⟩,q⟩) hz
theorem vals1{x:V}{us:List Value}(r:Vals [x] us): ∃u,us=[u]∧RelV x u:=by
 cases r with
 | cons r1 r2=>cases r2;exact⟨_,rfl,r1⟩
theorem vals2{x y:V}{us:List Value}(r:Vals [x,y] us): ∃u w',us=[u,w']∧RelV x u∧RelV y w':=by
 cases r with
 | cons r1 r2=>
  cases r2 with
  | cons r3 r4=>cases r4;exact⟨_,_,rfl,r1,r3⟩
theorem SA:cJ X (.builtin "abs") (fun xs H Q=> ∃i,xs=[.int i]∧Q (.int (if i<0 then -i else i)) H):=by
 intro pins s σ H xs us Q I r h
 obtain⟨i,rfl,q⟩:=h
 obtain⟨u,rfl,t,rfl⟩:=vals1 r
 exact call_abs_int fun u tk=> ⟨.int (if i<0 then -i else i),H,I.tok _,⟨_,rfl⟩,q⟩
theorem SD(hc:X.calm=true):cJ X (.builtin "max") (fun xs H Q=> ∃i j,xs=[.int i, .int j]∧Q (.int (if j>i then j else i)) H):=by
 intro pins s σ H xs us Q I r h
 obtain⟨i,j,rfl,q⟩:=h
 obtain⟨u,w',rfl,⟨t,rfl⟩,⟨t',rfl⟩⟩:=vals2 r
 refine max_two_ints (I.ok.hd hc) fun h' tk k=> ⟨_,H,I.kept k, ?_,q⟩
 by_cases hj:j>i
 ·rw[if_pos hj,if_pos hj];exact⟨_,rfl⟩
 ·rw[if_neg hj,if_neg hj];exact⟨_,rfl⟩
theorem SE(hc:X.calm=true):cJ X (.builtin "min") (fun xs H Q=> ∃i j,xs=[.int i, .int j]∧Q (.int (if j<i then j else i)) H):=by
 intro pins s σ H xs us Q I r h
 obtain⟨i,j,rfl,q⟩:=h
 obtain⟨u,w',rfl,⟨t,rfl⟩,⟨t',rfl⟩⟩:=vals2 r
 refine min_two_ints (I.ok.hd hc) fun h' tk k=> ⟨_,H,I.kept k, ?_,q⟩
 by_cases hj:j<i
 ·rw[if_pos hj,if_pos hj];exact⟨_,rfl⟩
 ·rw[if_neg hj,if_neg hj];exact⟨_,rfl⟩
theorem SF:cJ X (.type "int") (fun xs H Q=> (∃i,xs=[.int i]∧Q (.int i) H)∨ ∃k,xs=[.bl k]∧Q (.int (if k then 1 else 0)) H):=by
 intro pins s σ H xs us Q I r h
 rcases h with⟨i,rfl,q⟩ | ⟨k,rfl,q⟩
 ·obtain⟨u,rfl,t,rfl⟩:=vals1 r
  exact call_int_int ⟨.int i,H,I,⟨_,rfl⟩,q⟩
 ·obtain⟨u,rfl,r1⟩:=vals1 r
  cases r1
  exact call_int_bool ⟨.int (if k then 1 else 0),H,I.tok _,⟨_,rfl⟩,q⟩
def JE(K:PySem.W.Frag)(x:V)(H:Hp)(n:Nat):Prop:=
 match x with
 | .str y=>y.length≤sizeLine∧n=y.length
 | .fh y=>y.size≤sizeLine∧n=y.size
 | .ref p=> (∃xs,aj K H p xs∧n=xs.length)∨ ∃xs,aF K H p xs∧n=xs.length
 | _=>False
theorem SH:cJ X (.builtin "len") (fun xs H Q=> ∃x n,xs=[x]∧JE X.K x H n∧Q (.int n) H):=by
 intro pins s σ H xs us Q I r h
 obtain⟨x,n,rfl,e,q⟩:=h
 obtain⟨u,rfl,rx⟩:=vals1 r
 have hl:=mD
 have hs:sizeLine=16777216:=sizeLine_eq
 cases x with
 | str y=>
  obtain⟨t,rfl⟩:=rx
  obtain⟨hy,e'⟩:y.length≤sizeLine∧n=y.length:=e
  subst e'
  exact len_str (by omega) ⟨.int _,H,I.tok _,⟨_,rfl⟩,q⟩
 | fh y=>
  obtain⟨t,rfl⟩:=rx
  obtain⟨hy,e'⟩:y.size≤sizeLine∧n=y.size:=e
  subst e'
  exact PySem.W.len_bytes (by omega) ⟨.int _,H,I.tok _,⟨_,rfl⟩,q⟩
 | ref p=>
  cases rx
  have e':(∃xs,aj X.K H p xs∧n=xs.length)∨ ∃xs,aF X.K H p xs∧n=xs.length:=e
  rcases e' with⟨xs,hx,e'⟩ | ⟨xs,hx,e'⟩
  ·subst e'
   obtain⟨its,r',pl,hz⟩:=I.list hx
   have hlen:=r'.length
   exact Calls.call_len_list pl.isList (by simp only[List.size_toArray];omega) ⟨.int xs.length,H,I.tok _,⟨_,by simp only[List.size_toArray];rw[hlen]⟩,q⟩
  ·subst e'
   obtain⟨its,r',pl,hz⟩:=I.tuple hx
   have hlen:=r'.length
   exact len_tuple pl (by simp only[List.size_toArray];omega) ⟨.int xs.length,H,I.tok _,⟨_,by simp only[List.size_toArray];rw[hlen]⟩,q⟩
 | _=>exact(show False from e).elim
end
structure nP (h:Heap) (x dx C:Addr) (mA:Str→Option Value):Prop where
 obj:h.get? x=some (instObj C dx)
 ns:h.Ns1 dx mA
 ne:dx≠x
theorem SI{h:Heap}{dx:Addr}{mA:Str→Option Value}(n:h.Ns1 dx mA): ∃od,h.get? dx=some od∧ ∀name,lookIn name od=some (mA name):=by
 obtain⟨o,es,ep,ho,hd,hk,_,hm⟩:=n
 refine⟨o,ho,fun name=> ?_⟩
 have e:=hm name
 unfold nsFind findBy at e
 rw[←Array.find?_toList] at e
 unfold lookIn
 rw[hd]
 dsimp only
 split
 ·rename_i y q
  rw[q] at e
  exact congrArg some e
 ·rename_i q
  rw[q] at e
  have a:es.toList.any (·.refKey)=false:=by
   rw[List.any_eq_false]
   intro y hy
   obtain⟨z,t,SJ⟩:=hk y (Array.mem_toList_iff.mp hy)
   simp[DictEntry.refKey,SJ]
  have a': ¬es.toList.any (·.refKey)=true:=by rw[a];exact Bool.false_ne_true
  rw[if_neg a']
  exact congrArg some e
theorem nP.look{h:Heap}{x dx C:Addr}{mA:Str→Option Value}(I:nP h x dx C mA): ∃od,InstAt h x (instObj C dx) C (some od)∧ ∀name,lookIn name od=some (mA name):=
 let ⟨od,ho,hl⟩:=SI I.ns
 ⟨od,⟨I.obj,rfl,rfl,ho⟩,hl⟩
section
variable {prog:Program} {w:World} {A:Around} {E:Value→Shared→Prop} {s:Shared} {K:PySem.W.Frag} {x dx C f:Addr} {mA:Str→Option Value} {name:Str} {v:Value}
theorem get_map{expr:Bool}{Q:Value→Shared→Prop}(X:K.In s.heap)(I:nP s.heap x dx C mA)(hg:plainGet K C name=true)(hh:hasDictIn K C=true)
  (ha:PySem.W.findIn K (.ref C) name=some none) (hv:mA name=some v) (wd:handedIn v=true) (h:Q v {s with toks:=s.toks+1}):
  wpAny (model prog w) A (getAttr (.ref x) name expr) Q E s:=by
 obtain⟨od,J,hl⟩:=I.look
 exact PySem.W.get_value X J (plainGet_of hg).1 (PySem.W.findObj_own hh ha rfl (by rw[hl,hv])) wd h
theorem SK{pl:Sem Bool}{Q:Value×List Value→Shared→Prop}(X:K.In s.heap)(I:nP s.heap x dx C mA)(hg:plainGet K C name=true)
  (hf:PySem.W.findIn K (.ref C) name=some (some (.ref f))) (ht:isFn K (.ref f)=true) (hv:mA name=none) (h:Q (.ref f,[.ref x]) s):
  wpAny (model prog w) A (getMethod (.ref x) name pl) Q E s:=by
 obtain⟨od,J,hl⟩:=I.look
 exact PySem.W.method_fn X J (plainGet_of hg).1 (plainGet_of hg).2 hf (beq_iff_eq.mp ht) (by show(lookIn name od).map (·.isSome)=some false;rw[hl,hv];rfl) h
theorem SM{ns:List Str}{Q:Unit→Shared→Prop}(X:K.In s.heap)(I:nP s.heap x dx C mA)
  (hs:PySem.W.findIn K (.ref C) "__setattr__"=some (some (.builtin "object.__setattr__"))) (hp:plainOver K C=true) (ht:takerIn K C name=some none) (hh:hasDictIn K C=true)
  (hw:PySem.Within mA ns) (hsz:ns.length≤sizeLine)
  (h: ∀h',nP h' x dx C (fun y=>if y=name then some v else mA y)→Heap.SameBut dx s.heap h'→Q () {s with heap:=h',toks:=s.toks+2}):
  wpAny (model prog w) A (setAttr (.ref x) name v) Q E s:=by
 obtain⟨od,J,hl⟩:=I.look
 refine PySem.W.set_plain X J hs (PySem.W.osa_open (s:={s with toks:=s.toks+1}) (r:=none) X J hp ht fun b=> ?_)
 obtain⟨cd,hc,zl⟩:=PySem.W.any_some hh
 have hx:s.heap.get? x=some ⟨.ref C,some dx, .plain,#[]⟩:=I.obj
 refine wpAny_bind (wpAny_pure (wpAny_bind (wpAny_bind (wpAny_loadPart hx (wpAny_bind (PySem.W.Looks.here (s:={s with toks:=s.toks+1}) (PySem.W.looks_clsIn X hc) ?_))))))
 rw[zl]
 refine wpAny_pure (a:=some dx) (wpAny_bind (wpAny_pure (wpAny_bind ?_)))
 refine wpAny_nsSet1 (s:={s with toks:=s.toks+1}) I.ns fun h' eR qq=> ?_
 obtain⟨oD,esD,epD,SN,SO,kg⟩:=eR.count (PySem.Within.cons name v hw)
 refine wpAny_bind (wpAny_lookBehind SN (by rw[SO];exact pastItsLine_dict (Nat.le_trans kg (by rw[List.length_cons];omega))) ?_)
 exact wpAny_pure (h _ ⟨(qq.2 _ (Ne.symm I.ne)).trans I.obj,eR,I.ne⟩ qq)
theorem SQ{R:Result→Shared→Prop}{vs:List Value}{kw:List (Str×Value)}(X:K.In s.heap)(hm:makesIn K C=true)
  (hi:PySem.W.findIn K (.ref C) "__init__"=some (some (.ref f))) (hf:PySem.W.typeIn K (.ref f)=some (.type "function"))
  (h:codeAny (model prog w) (A.under (.builtin "type.__call__" ⟨.ref C::vs,kw⟩)) (.call (.ref f) ⟨.ref (s.heap.objs.size+1)::vs,kw⟩) (PySem.W.InitBack (s.heap.objs.size+1) R)
   {s with heap:=(s.heap.push emptyDict).push (instObj C s.heap.objs.size)}):
  codeAny (model prog w) A (.call (.ref C) ⟨vs,kw⟩) R s:=by
 obtain⟨hh,g,d,t,os⟩:=s
 exact PySem.W.make_core (PySem.W.makes_of X hm) (PySem.W.looks_findIn X hi) (fun self=>PySem.W.bind_fn X self hf) (.inl rfl) h
end
def cQ(f:Str)(v:V):List (Str×V)→List (Str×V)
 | []=> [(f,v)]
 | (g,x)::r=>if g=f then (g,v)::r else (g,x)::cQ f v r
theorem JF(f g:Str)(v:V): ∀fs:List (Str×V),(cQ f v fs).lookup g=if g=f then some v else fs.lookup g
 | []=>by
  show List.lookup g [(f,v)]=_
  by_cases h:g=f
  ·have hb:(g==f)=true:=beq_iff_eq.mpr h
   simp only[List.lookup,hb,if_pos h]
  ·have hb:(g==f)=false:=beq_eq_false_iff_ne.mpr h
   simp only[List.lookup,hb,if_neg h]
 | (k,x)::r=>by
  have ih:=JF f g v r
  rw[show cQ f v ((k,x)::r)=(if k=f then (k,v)::r else (k,x)::cQ f v r) from rfl]
  by_cases hk:k=f
  ·rw[if_pos hk]
   by_cases h:g=k
   ·have hb:(g==k)=true:=beq_iff_eq.mpr h
    simp only[List.lookup,hb,if_pos (h.trans hk)]
   ·have hb:(g==k)=false:=beq_eq_false_iff_ne.mpr h
    simp only[List.lookup,hb,if_neg (fun e:g=f=>h (e.trans hk.symm))]
  ·rw[if_neg hk]
   by_cases h:g=k
   ·have hb:(g==k)=true:=beq_iff_eq.mpr h
    simp only[List.lookup,hb,if_neg (fun e:g=f=>hk (h.symm.trans e))]
   ·have hb:(g==k)=false:=beq_eq_false_iff_ne.mpr h
    simp only[List.lookup,hb]
    exact ih
theorem zD(f:Str)(v:V): ∀fs:List (Str×V),f∈ (cQ f v fs).map (·.1)∧ ∀g,g∈fs.map (·.1)→g∈ (cQ f v fs).map (·.1)
 | []=> ⟨by simp[cQ],fun g h=>by simp at h⟩
 | (k,x)::r=>by
  obtain⟨i1,i2⟩:=zD f v r
  rw[show cQ f v ((k,x)::r)=(if k=f then (k,v)::r else (k,x)::cQ f v r) from rfl]
  by_cases hk:k=f
  ·rw[if_pos hk]
   subst hk
   exact⟨by simp,fun g h=>by simpa using h⟩
  ·rw[if_neg hk]
   refine⟨?_,fun g h=> ?_⟩
   ·rw[List.map_cons]
    exact List.mem_cons_of_mem _ i1
   ·rw[List.map_cons] at h⊢
    rcases List.mem_cons.mp h with e | e
    ·exact List.mem_cons.mpr (.inl e)
    ·exact List.mem_cons_of_mem _ (i2 g e)
theorem JG(f:Str)(v:V): ∀fs:List (Str×V),(cQ f v fs).length≤fs.length+1
 | []=>by simp[cQ]
 | (k,x)::r=>by
  have ih:=JG f v r
  rw[show cQ f v ((k,x)::r)=(if k=f then (k,v)::r else (k,x)::cQ f v r) from rfl]
  by_cases hk:k=f
  ·rw[if_pos hk,List.length_cons,List.length_cons];omega
  ·rw[if_neg hk,List.length_cons,List.length_cons];omega
theorem fH.some_of{v:V}{o:Option Value}(r:fH (some v) o): ∃u,o=some u∧RelV v u:=by
 cases o with
 | none=>exact(show False from r).elim
 | some u=>exact⟨u,rfl,r⟩
theorem fH.none_of{o:Option Value}(r:fH none o):o=none:=by
 cases o with
 | none=>rfl
 | some u=>exact(show False from r).elim
theorem SR{v:V}{u:Value}(r:RelV v u):handedIn u=true:=by
 cases v with
 | aq=>cases (show u=Value.none from r);rfl
 | bl b=>cases (show u=Value.bool b from r);rfl
 | int i=>obtain⟨t,e⟩:=(show ∃t,u=Value.int i t from r);cases e;rfl
 | str x=>obtain⟨t,e⟩:=(show ∃t,u=Value.str x t from r);cases e;rfl
 | fh b=>obtain⟨t,e⟩:=(show ∃t,u=Value.bytes b t from r);cases e;rfl
 | mz b=>obtain⟨t,e⟩:=(show ∃t,u=Value.float b t from r);cases e;rfl
 | ref a=>cases (show u=Value.ref a from r);rfl
 | ty n=>cases (show u=Value.type n from r);rfl
section
variable {P:Program} {w:World} {H H':Hp} {h h':Heap} {a C dx:Addr} {fs Rm:List (Str×V)}
theorem we(aw:b_ P w H h)(e:H a=some (.ins C dx fs)): ∃mA,nP h a dx C mA∧(∀f,fH (fs.lookup f) (mA f))∧PySem.Within mA (fs.map (·.1))∧fs.length≤1000∧H dx=some (.own a):=by
 obtain⟨d,z,ne,ob,mA,n,r,q⟩:=(show cG P w H h a (.ins C dx fs) from aw a _ e)
 exact⟨mA,⟨ob,n,ne⟩,r,q,z,d⟩
end
structure i_ (K:PySem.W.Frag) (C:Addr):Prop where
 pg:plainGet K C Str.empty=true
 hd:hasDictIn K C=true
 po:plainOver K C=true
 sa:PySem.W.findIn K (.ref C) "__setattr__"=some (some (.builtin "object.__setattr__"))
theorem i_.get{K:PySem.W.Frag}{C:Addr}(c:i_ K C)(f:Str):plainGet K C f=true:=c.pg
def kh(K:PySem.W.Frag)(C:Addr)(f:Str):Prop:=PySem.W.findIn K (.ref C) f=some none
theorem kh.SS{K:PySem.W.Frag}{C:Addr}{f:Str}(n:kh K C f):takerIn K C f=some none:=by
 unfold takerIn
 rw[show PySem.W.findIn K (.ref C) f=some none from n]
 rfl
structure Meth (K:PySem.W.Frag) (C:Addr) (m:Str) (f:Addr):Prop where
 at_:PySem.W.findIn K (.ref C) m=some (some (.ref f))
 fn:isFn K (.ref f)=true
 kp:keepIn K (.ref f)=true
section
variable {X:Cx} {pins:List (Addr×Obj)} {σ:St} {H:Hp} {s:Shared} {a C dx:Addr} {fs:List (Str×V)} {f:Str} {v:V} {A:Around} {E:Value→Shared→Prop}
theorem SU{b:Bool}{Q:Value→Shared→Prop}(I:Inv X pins σ H s)(e:H a=some (.ins C dx fs))(c:i_ X.K C)(n:kh X.K C f)(l:fs.lookup f=some v)
  (h: ∀u s',Inv X pins σ H s'→RelV v u→Q u s'):wpAny (model X.prog X.w) A (getAttr (.ref a) f b) Q E s:=by
 obtain⟨mA,O,r,_,_,_⟩:=we I.aw e
 obtain⟨u,hu,ru⟩:=fH.some_of (v:=v) (o:=mA f) (by rw[←l];exact r f)
 exact get_map I.cX O (c.get f) c.hd n hu (SR ru) (h u _ (I.tok _) ru)
theorem JH{m:Str}{g:Addr}{pl:Sem Bool}{Q:Value×List Value→Shared→Prop}(I:Inv X pins σ H s)(e:H a=some (.ins C dx fs))(c:i_ X.K C)(k:Meth X.K C m g)(l:fs.lookup m=none)
  (h:Q (.ref g,[.ref a]) s):wpAny (model X.prog X.w) A (getMethod (.ref a) m pl) Q E s:=by
 obtain⟨mA,O,r,_,_,_⟩:=we I.aw e
 have hn:mA m=none:=fH.none_of (by rw[←l];exact r m)
 exact SK I.cX O (c.get m) k.at_ k.fn hn h
theorem SV{y:V}{u:Value}{Q:Unit→Shared→Prop}(I:Inv X pins σ H s)(e:H a=some (.ins C dx fs))(c:i_ X.K C)(n:kh X.K C f)(hl:fs.length<1000)(ry:RelV y u)
  (h: ∀s',Inv X pins σ (upd H a (.ins C dx (cQ f y fs))) s'→Q () s'):wpAny (model X.prog X.w) A (setAttr (.ref a) f u) Q E s:=by
 obtain⟨mA,O,r,wi,_,ho⟩:=we I.aw e
 have hz:(fs.map (·.1)).length≤sizeLine:=by rw[List.length_map,sizeLine_eq];omega
 refine SM I.cX O c.sa c.po n.SS c.hd wi hz fun h' O' sb=>h _ ?_
 have hd: ∃o,h'.get? dx=some o:=let ⟨o,_,_,e',_⟩:=O'.ns;⟨o,e'⟩
 refine I.write (x:=a) (e:=dx) (by rw[e];exact True.intro) (.inr ho) (fun b q hb z=> (sb.2 b hb).trans z) hd ?_
 refine⟨by rw[aI O.ne];exact ho, ?_,O.ne,O'.obj,_,O'.ns,fun g=> ?_,fun g hg=> ?_⟩
 ·have:=JG f y fs;omega
 ·show fH ((cQ f y fs).lookup g) (if g=f then some u else mA g)
  rw[JF]
  by_cases q:g=f
  ·rw[if_pos q,if_pos q];exact ry
  ·rw[if_neg q,if_neg q];exact r g
 ·by_cases q:g=f
  ·rw[q];exact(zD f y fs).1
  ·refine(zD f y fs).2 g (wi g fun z=>hg ?_)
   show(if g=f then some u else mA g)=none
   rw[if_neg q];exact z
theorem Inv.made(I:Inv X pins σ H s):Inv X pins σ (upd (upd H s.heap.objs.size (.own (s.heap.objs.size+1))) (s.heap.objs.size+1) (.ins C s.heap.objs.size []))
  {s with heap:=(s.heap.push emptyDict).push (instObj C s.heap.objs.size)}:=by
 have e1:(s.heap.push emptyDict).get? s.heap.objs.size=some emptyDict:=Heap.get?_push_size s.heap rfl
 have e2:((s.heap.push emptyDict).push (instObj C s.heap.objs.size)).get? (s.heap.objs.size+1)=some (instObj C s.heap.objs.size):=by
  have:=Heap.get?_push_size (s.heap.push emptyDict) (o:=instObj C s.heap.objs.size) rfl
  rwa [Heap.size_push] at this
 have e3:(s.heap.push emptyDict).Ns s.heap.objs.size (fun _=>none):=⟨emptyDict,#[],_,e1,rfl,(fun e he=>absurd he (by simp)),fun _=>rfl⟩
 have I1:=I.laid (a:=s.heap.objs.size) (o:= .own (s.heap.objs.size+1)) (h':=s.heap.push emptyDict) (t':=s.toks) (fun b u q=>Heap.get?_push_of_some _ q) (Nat.le_refl _) ⟨_,e1⟩
 refine I1.laid (a:=s.heap.objs.size+1) (o:= .ins C s.heap.objs.size []) (t':=s.toks) (fun b u q=>Heap.get?_push_of_some _ q) (Nat.le_of_eq (Heap.size_push _ _)) ?_
 have ne:s.heap.objs.size≠s.heap.objs.size+1:=Nat.ne_of_lt (Nat.lt_succ_self _)
 refine⟨by rw[aI ne,ay],Nat.zero_le _,ne,e2,fun _=>none,(Heap.Ns1.of_empty e3).at fun o q=>Heap.get?_push_of_some _ q,fun _=>True.intro,fun y hy=>absurd rfl hy⟩
theorem SW{prog:Program}{w:World}{env:Env}{e:Expr}{f:Str}{pos:Pos}{s:Shared}{Q:Value→Shared→Prop}(hb:attributeBase e f env (eval e env)=eval e env)
  (h:wpAny (model prog w) A (eval e env) (fun o s₁=>wpAny (model prog w) A (getAttr o f true) Q E s₁) E s):wpAny (model prog w) A (eval (.Attribute e f pos) env) Q E s:=
 Attribute_any_ h (by rw[arm_eval_Attribute,hb])
end
def wg(K:PySem.W.Frag)(ta:TE)(f:Str):TE:=fun σ H Q=>ta σ H fun x H1=> ∃a C dx fs v,x= .ref a∧H1 a=some (.ins C dx fs)∧i_ K C∧kh K C f∧fs.lookup f=some v∧Q v H1
def zE(K:PySem.W.Frag)(ta tv:TE)(f:Str):TS:=fun D σ H=>tv σ H fun y H1=>ta σ H1 fun x H2=> ∃a C dx fs,x= .ref a∧H2 a=some (.ins C dx fs)∧i_ K C∧kh K C f∧fs.length<1000∧
 D.nx σ (upd H2 a (.ins C dx (cQ f y fs)))
section
variable {X:Cx} {o e value:Expr} {f:Str} {pos pos' zF:Pos} {ta tv:TE}
theorem SX(he:PE X e ta)(hb:attributeBase e f X.env (eval e X.env)=eval e X.env):PE X (.Attribute e f pos) (wg X.K ta f):=by
 intro pins s σ H Q I h
 refine SW hb (aN (he pins s σ H _ I h) fun u s1 ⟨x,H1,I1,rx,a,C,dx,fs,v,ex,ea,c,n,l,q⟩=> ?_)
 subst ex
 obtain rfl:u=Value.ref a:=rx
 exact SU I1 ea c n l fun u' s2 I2 ru=> ⟨v,H1,I2,ru,q⟩
theorem SY(ha:PE X o ta)(hv:PE X value tv)(hs:swapsWith value (some (.Attribute o f pos')) pos.line X.env=pure false):PS X (.Assign [.Attribute o f pos'] value pos) (zE X.K ta tv f):=by
 intro pins s σ H D I h
 refine plainObj_wpAny_Assign_Attribute (aN (hv pins s σ H _ I h) fun u s1 ⟨y,H1,I1,ry,q⟩=>aN (ha pins s1 σ H1 _ I1 q) fun ov s2 ⟨x,H2,I2,rx,a,C,dx,fs,ex,ea,c,n,l,q2⟩=> ?_) hs
 subst ex
 obtain rfl:ov=Value.ref a:=rx
 exact SV I2 ea c n l ry fun s3 I3=> ⟨σ,_,I3,q2⟩
end
section
variable {X:Cx} {pins:List (Addr×Obj)} {σ:St} {H:Hp} {s:Shared} {A:Around} {E:Value→Shared→Prop} {Q:Value→Shared→Prop} {c:Value} {b:Bool}
inductive iH (K:PySem.W.Frag) (H:Hp):V→Value→Prop where
 | aq:iH K H .aq (.type "NoneType")
 | bl (x:Bool):iH K H (.bl x) (.type "bool")
 | int (i:Int):iH K H (.int i) (.type "int")
 | str (x:Str):iH K H (.str x) (.type "str")
 | mz (x:UInt64):iH K H (.mz x) (.type "float")
 | lst {a:Addr} {xs:List V} (e:H a=some (.lst xs)):iH K H (.ref a) (.type "list")
 | bQ {a:Addr} {o:Obj} {xs:List V} (e:H a=some (.bQ o (.lst xs))):iH K H (.ref a) (.type "list")
 | tup {a:Addr} {xs:List V} (e:H a=some (.tup xs)):iH K H (.ref a) (.type "tuple")
 | dK {a:Addr} {ao:List (Key×V)} (e:H a=some (.dK ao)):iH K H (.ref a) (.type "dict")
 | dT {a:Addr} {ao:List (List Key×V)} (e:H a=some (.dT ao)):iH K H (.ref a) (.type "dict")
 | ins {a C dx:Addr} {fs:List (Str×V)} (e:H a=some (.ins C dx fs)) (cl:i_ K C) (ha:PySem.W.findIn K (.ref C) "__class__"=some (some (.builtin "object.__class__")))
   (hn:PySem.W.specialIn K (.builtin "object.__class__") "__get__"=some (some (.builtin "getset_descriptor.__get__"))) (mE:PySem.W.takesIn K (.builtin "object.__class__")=some true)
   (hm:PySem.W.mroIn K C (.type "object")=some true):iH K H (.ref a) (.ref C)
theorem ki{x:V}{u t:Value}(I:Inv X pins σ H s)(rx:RelV x u)(ty:iH X.K H x t)(e:kitOne X.K t c=some b)(h: ∀tk,Q (.bool b) {s with toks:=tk}):
  wpAny (model X.prog X.w) A (call (.builtin "isinstance") [u,c]) Q E s:=by
 cases ty with
 | aq=>cases (show u=Value.none from rx);exact kia_one PySem.W.kitx_none I.cX True.intro e (fun z=>nomatch z) h
 | bl y=>cases (show u=Value.bool y from rx);exact kia_one PySem.W.kitx_bool I.cX True.intro e (fun z=>nomatch z) h
 | int i=>obtain⟨t,q⟩:=(show ∃t,u=Value.int i t from rx);cases q;exact kia_one PySem.W.kitx_int I.cX True.intro e (fun z=>nomatch z) h
 | str y=>obtain⟨t,q⟩:=(show ∃t,u=Value.str y t from rx);cases q;exact kia_one PySem.W.kitx_str I.cX True.intro e (fun z=>nomatch z) h
 | mz y=>obtain⟨t,q⟩:=(show ∃t,u=Value.float y t from rx);cases q;exact kia_one PySem.W.kitx_float I.cX True.intro e (fun z=>nomatch z) h
 | @lst a xs ea=>
  cases (show u=Value.ref a from rx)
  obtain⟨_,_,n,_,h1⟩:=(show cG X.prog X.w H s.heap a (.lst xs) from I.aw a _ ea)
  exact kia_one kitx_list I.cX ⟨_,h1,rfl⟩ e (fun z=>nomatch z) h
 | @bQ a ob xs ea=>
  cases (show u=Value.ref a from rx)
  obtain⟨_,_,_,n,_,h1⟩:=(show cG X.prog X.w H s.heap a (.bQ ob (.lst xs)) from I.aw a _ ea)
  exact kia_one kitx_list I.cX ⟨_,h1,rfl⟩ e (fun z=>nomatch z) h
 | @tup a xs ea=>
  cases (show u=Value.ref a from rx)
  obtain⟨_,_,_,p⟩:=(show cG X.prog X.w H s.heap a (.tup xs) from I.aw a _ ea)
  obtain⟨o,h1,h2,_⟩:=p
  exact kia_one PySem.W.kitx_tuple I.cX ⟨o,h1,h2⟩ e (fun z=>nomatch z) h
 | @dK a ao ea=>
  cases (show u=Value.ref a from rx)
  obtain⟨_,_,vs,_,p⟩:=(show cG X.prog X.w H s.heap a (.dK ao) from I.aw a _ ea)
  obtain⟨o,es,ep,h1,h2,_⟩:=p
  exact kia_one kitx_dict I.cX ⟨o,h1,h2.1⟩ e (fun z=>nomatch z) h
 | @dT a ao ea=>
  cases (show u=Value.ref a from rx)
  obtain⟨_,_,xs,_,o,es,ep,h1,h2,_⟩:=(show cG X.prog X.w H s.heap a (.dT ao) from I.aw a _ ea)
  exact kia_one kitx_dict I.cX ⟨o,h1,h2.1⟩ e (fun z=>nomatch z) h
 | @ins a C dx fs ea cl ha hn mE hm=>
  cases (show u=Value.ref a from rx)
  obtain⟨mA,O,_⟩:=we I.aw ea
  obtain⟨od,J,_⟩:=O.look
  exact kia_one (PySem.W.kitx_own (cl.get _) cl.hd ha hn mE hm) I.cX J e (fun z=>nomatch z) h
end
structure dr (k:Nat) (A:Around):Prop where
 hd:A.handled=none
 dp:A.depth+3*k+5<recursionLimit
 un:A.units+16*k+200<cLine
theorem dr.mono{j k:Nat}{A:Around}(r:dr k A)(h:j≤k):dr j A:=⟨r.hd,by have:=r.dp;omega,by have:=r.un;omega⟩
theorem dr.deeper{k:Nat}{A:Around}(r:dr (k+1) A)(env:Env):dr k (A.deeper env):=
 ⟨r.hd,by have:=r.dp;show A.depth+1+3*k+5<_;omega,by have:=r.un;show A.units+3+16*k+200<_;omega⟩
theorem S1{A:Around}{C:Addr}{us:List Value}{kw:List (Str×Value)}:(A.under (.builtin "type.__call__" ⟨.ref C::us,kw⟩)).depth=A.depth+1:=by
 first | rfl | simp[Around.under,Code.weight,Code.isCreation,Code.isGuard,Code.isCaller,Code.frames,Code.isFrame,guardIds]
theorem S2{A:Around}{C:Addr}{us:List Value}{kw:List (Str×Value)}:(A.under (.builtin "type.__call__" ⟨.ref C::us,kw⟩)).units=A.units+1:=by
 first | rfl | simp[Around.under,Code.cUnits,Code.frames,Code.isFrame]
theorem dr.make{k:Nat}{A:Around}(r:dr (k+1) A)(C:Addr)(us:List Value)(kw:List (Str×Value)):dr k (A.under (.builtin "type.__call__" ⟨.ref C::us,kw⟩)):=
 ⟨r.hd,by have:=r.dp;rw[S1];omega,by have:=r.un;rw[S2];omega⟩
theorem dr.depth{k:Nat}{A:Around}(r:dr k A):A.depth<recursionLimit:=by have:=r.dp;omega
theorem dr.units{k:Nat}{A:Around}(r:dr k A):A.units+64<cLine:=by have:=r.un;omega
def gN:TA:=fun _ H Q=>Q [] H
def dM(ta:TE)(tr:TA):TA:=fun σ H Q=>ta σ H fun x H1=>tr σ H1 fun xs H2=>Q (x::xs) H2
section
variable {X:Cx} {e:Expr} {es:List Expr} {te:TE} {t:TA} {pos:Pos}
theorem qr:PA X [] gN:=fun _ _ _ _ H Q I h=>Calls.spliced_nil ⟨[],H,I, .nil,h⟩
theorem kj(ha:PE X e te)(hr:PA X es t)(hs:starEach (e::es) X.env=(false,eval e X.env)::starEach es X.env:=by rfl):PA X (e::es) (dM te t):=by
 intro pos pins s σ H Q I h
 rw[hs]
 show wpAny _ _ (spliced ((false,eval e X.env)::backTo pos (starEach es X.env))) _ _ s
 refine Calls.spliced_cons (aN (ha pins s σ H _ I h) fun u s1 ⟨x,H1,I1,r1,q1⟩=> ?_)
 exact aN (hr pos pins s1 σ H1 _ I1 q1) fun us s2 ⟨xs,H2,I2,r2,q2⟩=> ⟨x::xs,H2,I2, .cons r1 r2,q2⟩
def JI(t:TA):TE:=fun σ H Q=>t σ H fun xs H1=>xs.length≤sizeLine∧ ∀p,H1 p=none→Q (.ref p) (upd H1 p (.tup xs))
def JJ(t:TA):TE:=fun σ H Q=>t σ H fun xs H1=>xs.length≤sizeLine∧ ∀p,H1 p=none→Q (.ref p) (upd H1 p (.lst xs))
theorem S4{x1}(h:PA X es t):PE X (.Tuple es x1 pos) (JI t):=by
 intro pins s σ H Q I hq
 refine wpAny_Tuple_spliced (aN (h pos pins s σ H _ I hq) fun us s1 ⟨xs,H1,I1,r,z,q⟩=> ⟨by rw[←r.length];exact z, ?_⟩)
 have hf:H1 s1.heap.objs.size=none:=I1.aw.fresh (Nat.le_refl _)
 refine⟨.ref s1.heap.objs.size,upd H1 s1.heap.objs.size (.tup xs),I1.laid (t':=s1.toks) (fun b u e=>Heap.get?_push_of_some _ e) (Nat.le_refl _) ?_,rfl,q _ hf⟩
 exact⟨z,us,r,⟨_,Heap.get?_push_size _ rfl,rfl,_,rfl⟩⟩
theorem S5(h:PA X es t):PE X (.List es pos) (JJ t):=by
 intro pins s σ H Q I hq
 refine wpAny_List_spliced (aN (h pos pins s σ H _ I hq) fun us s1 ⟨xs,H1,I1,r,z,q⟩=> ⟨by rw[←r.length];exact z, ?_⟩)
 have hf:H1 s1.heap.objs.size=none:=I1.aw.fresh (Nat.le_refl _)
 refine⟨.ref s1.heap.objs.size,upd H1 s1.heap.objs.size (.lst xs),I1.laid (t':=s1.toks) (fun b u e=>Heap.get?_push_of_some _ e) (Nat.le_refl _) ?_,rfl,q _ hf⟩
 exact⟨z,us,0,r,Heap.get?_push_size _ rfl⟩
end
abbrev Sp:=List V→Hp→VK→XK→Prop
abbrev aL:=List Env→Hp→Shared→XK→Value→Shared→Prop
structure kl (P:Program) (w:World) (K:PySem.W.Frag) (mg:Str→Option Value) (base:Heap) (A:Around) (outer:List Env) (s:Shared) (H:Hp):Prop where
 frames:A.frames=some outer
 mod:Mod K mg base
 bs: ∀b o,base.get? b=some o→s.heap.get? b=some o∧H b=none
 mB:base.objs.size≤s.heap.objs.size
 iB:s.heap.FunFrames base outer
 nE: ∀b∈bC outer,H b=none
 aw:b_ P w H s.heap
 bare:AllBare s.gens
def CE(outer:List Env)(P:Program)(w:World)(H:Hp)(s:Shared)(Q:VK)(u:Value)(s':Shared):Prop:=
 ∃v H',s'.os=s.os∧AllBare s'.gens∧Un (bC outer) [] H H' s.heap s'.heap∧b_ P w H' s'.heap∧RelV v u∧Q v H'
def CR(CX:aL)(outer:List Env)(P:Program)(w:World)(H:Hp)(s:Shared)(Q:VK)(E:XK)(r:Result)(s':Shared):Prop:=
 match r with
 | .ok (.ret u)=>CE outer P w H s Q u s'
 | .ok _=>False
 | .error e=>CX outer H s E e s'
structure cA (P:Program) (w:World) (K:PySem.W.Frag) (mg:Str→Option Value) (base:Heap) (CX:aL) (k:Nat) (f:Addr) (fd:FuncData) (ps:List Str) (sp:Sp):Prop where
 len: ∀vs H Q E,sp vs H Q E→vs.length=ps.length
 run: ∀(A:Around) (outer:List Env) (s:Shared) (H:Hp) (args:Args) (us:List Value) (vs:List V) (Q:VK) (E:XK),dr k A→kl P w K mg base A outer s H→BindsTo s fd args (ps.zip us)→Vals vs us→sp vs H Q E→
  codeAny (model P w) A (.call (.ref f) args) (CR CX outer P w H s Q E) s
theorem cA.mono{P:Program}{w:World}{K:PySem.W.Frag}{mg:Str→Option Value}{base:Heap}{CX:aL}{j k:Nat}{f:Addr}{fd:FuncData}{ps:List Str}{sp:Sp}(F:cA P w K mg base CX j f fd ps sp)(h:j≤k):
  cA P w K mg base CX k f fd ps sp:=⟨F.len,fun A outer s H args us vs Q E hr=>F.run A outer s H args us vs Q E (hr.mono h)⟩
theorem kl.make{P:Program}{w:World}{K:PySem.W.Frag}{mg:Str→Option Value}{base:Heap}{A:Around}{outer:List Env}{s:Shared}{H:Hp}(e:kl P w K mg base A outer s H)(C:Addr)(us:List Value)(kw:List (Str×Value)):
  kl P w K mg base (A.under (.builtin "type.__call__" ⟨.ref C::us,kw⟩)) outer s H:=⟨by first | exact e.frames | (simpa[Around.under,Code.envs,Code.isFrame,pushEnvs] using e.frames),e.mod,e.bs,e.mB,e.iB,e.nE,e.aw,e.bare⟩
section
variable {X:Cx} {pins:List (Addr×Obj)} {σ:St} {H:Hp} {s s':Shared}
theorem Inv.zG(I:Inv X pins σ H s):kl X.prog X.w X.K X.mg X.base X.A X.stack s H:=
 ⟨I.ok.frames,I.ok.mod,I.bs,Nat.le_trans I.ok.mB I.sz,I.stack,I.vT,I.aw,I.bare⟩
theorem Inv.after{Q:VK}{u:Value}(I:Inv X pins σ H s)(h:CE X.stack X.prog X.w H s Q u s'):EP X pins σ Q u s':=by
 obtain⟨v,H',os,bare,un,aw,r,q⟩:=h
 obtain⟨hh,g,d,t,S6⟩:=s'
 obtain rfl:S6=s.os:=os
 exact⟨v,H',I.call (h':=hh) (g':=g) (d':=d) (t':=t) (ch:=[]) un aw bare (fun b z=>absurd z (by simp)),r,q⟩
end
def zH(sp:Sp)(fi:List V)(E:XK)(t:TA):TE:=fun σ H Q=>t σ H fun vs H1=>sp (vs++fi) H1 Q E
def qt(C:Addr)(m:Str)(sp:Sp)(fi:List V)(E:XK)(ta:TE)(t:TA):TE:=fun σ H Q=>ta σ H fun x H1=> ∃a dx fs,x= .ref a∧H1 a=some (.ins C dx fs)∧fs.lookup m=none∧
 t σ H1 fun vs H2=>sp (x::(vs++fi)) H2 Q E
def zI(C:Addr)(sp:Sp)(fi:List V)(E:XK)(t:TA):TE:=fun σ H Q=>t σ H fun vs H1=> ∀x dx,H1 x=none→H1 dx=none→dx≠x→
 sp (.ref x::(vs++fi)) (upd (upd H1 dx (.own x)) x (.ins C dx [])) (fun v H2=>v= .aq∧Q (.ref x) H2) E
def Binds(K:PySem.W.Frag)(fd:FuncData)(ps:List Str)(ds:List Value):Prop:=
 ∀(s:Shared) (us:List Value),K.In s.heap→(us++ds).length=ps.length→BindsTo s fd ⟨us,[]⟩ (ps.zip (us++ds))
theorem Binds.all{K:PySem.W.Frag}{fd:FuncData}{ps:List Str}(h: ∀us:List Value,us.length=ps.length→bindArgs fd ⟨us,[]⟩=pure (ps.zip us)):Binds K fd ps []:=fun s us _ hl=>by
 rw[List.append_nil] at hl⊢
 exact .of_eq (h us hl)
def Passes(CX:aL)(X:Cx)(E:XK):Prop:= ∀(pins:List (Addr×Obj)) (σ:St) (H:Hp) (s:Shared) (e:Value) (s':Shared),Inv X pins σ H s→CX X.stack H s E e s'→X.xe e s'
section
variable {X:Cx} {CX:aL} {k:Nat} {f C:Addr} {fd:FuncData} {ps:List Str} {sp:Sp} {fi:List V} {ds:List Value} {E:XK} {x m:Str} {p pos apos:Pos} {e o:Expr} {es:List Expr} {ta:TE} {t:TA}
theorem zJ{pins:List (Addr×Obj)}{σ:St}{H:Hp}{s:Shared}{Q:VK}{us:List Value}{vs:List V}(F:cA X.prog X.w X.K X.mg X.base CX k f fd ps sp)(hr:dr k X.A)(hb:Binds X.K fd ps ds)(hd:Vals fi ds)(hx:Passes CX X E)
  (I:Inv X pins σ H s) (r:Vals vs us) (h:sp (vs++fi) H Q E):wpAny (model X.prog X.w) X.A (call (.ref f) us) (EP X pins σ Q) X.xe s:=by
 have r2:Vals (vs++fi) (us++ds):=r.append hd
 have hl:(us++ds).length=ps.length:=by rw[←r2.length];exact F.len _ _ _ _ h
 refine wpAny_call (codeAny_mono (F.run X.A X.stack s H ⟨us,[]⟩ (us++ds) (vs++fi) Q E hr I.zG (hb s us I.cX hl) r2 h) fun r s' hq=> ?_)
 cases r with
 | error e=>exact hx pins σ H s e s' I hq
 | ok fl=>
  cases fl with
  | ret u=>exact I.after hq
  | next=>exact False.elim hq
  | brk=>exact False.elim hq
  | cont=>exact False.elim hq
theorem S7(F:cA X.prog X.w X.K X.mg X.base CX k f fd ps sp)(hr:dr k X.A)(hg:Gl X x)(hm:X.mg x=some (.ref f))(hk:keepIn X.K (.ref f)=true)(hb:Binds X.K fd ps ds)(hd:Vals fi ds)(hx:Passes CX X E)
  (ha:PA X (e::es) t) (km:(x==("__debug__":Str))=false:=by decide) (he:starEach (e::es) X.env=(false,eval e X.env)::starEach es X.env:=by rfl) (jD:(backTo pos (starEach es X.env)).any (·.1)=false:=by rfl):
  PE X (.Call (.Name x p) (e::es) [] pos) (zH sp fi E t):=by
 intro pins s σ H Q I h
 refine wpAny_Call_Name_kw (sA I hg hm ?_ km)
 refine callWith_K (h₀:=X.base) I.ok.mod.nC hk (aN (ha pos pins s σ H _ I h) fun us s1 ⟨vs,H1,I1,r,q⟩=> ⟨I1.cX, ?_⟩) he jD
 exact zJ F hr hb hd hx I1 r q
structure Mk (K:PySem.W.Frag) (C f:Addr):Prop where
 makes:makesIn K C=true
 init:PySem.W.findIn K (.ref C) "__init__"=some (some (.ref f))
 fn:isFn K (.ref f)=true
 kp:keepIn K (.ref C)=true
theorem S8{pins:List (Addr×Obj)}{σ:St}{H:Hp}{s:Shared}{Q:VK}{us:List Value}{vs:List V}(M:Mk X.K C f)(F:cA X.prog X.w X.K X.mg X.base CX k f fd ps sp)(hr:dr (k+1) X.A)(hb:Binds X.K fd ps ds)(hd:Vals fi ds)
  (hx:Passes CX X E) (I:Inv X pins σ H s) (r:Vals vs us)
  (h: ∀x dx,H x=none→H dx=none→dx≠x→sp (.ref x::(vs++fi)) (upd (upd H dx (.own x)) x (.ins C dx [])) (fun v H2=>v= .aq∧Q (.ref x) H2) E):
  wpAny (model X.prog X.w) X.A (call (.ref C) us) (EP X pins σ Q) X.xe s:=by
 have hq:=h (s.heap.objs.size+1) s.heap.objs.size (I.aw.fresh (Nat.le_succ _)) (I.aw.fresh (Nat.le_refl _)) (Nat.ne_of_lt (Nat.lt_succ_self _))
 have I2:=Inv.made (C:=C) I
 have r2:Vals (V.ref (s.heap.objs.size+1)::(vs++fi)) (Value.ref (s.heap.objs.size+1)::(us++ds)):= .cons rfl (r.append hd)
 have hl:(Value.ref (s.heap.objs.size+1)::us++ds).length=ps.length:=by
  have e:=r2.length
  rw[F.len _ _ _ _ hq] at e
  exact e.symm
 refine wpAny_call (SQ (f:=f) I.cX M.makes M.init (beq_iff_eq.mp M.fn) (codeAny_mono (F.run _ X.stack _ _ ⟨Value.ref (s.heap.objs.size+1)::us,[]⟩ (Value.ref (s.heap.objs.size+1)::(us++ds)) _ _ E (hr.make C us [])
  (I2.zG.make C us []) (hb _ (Value.ref (s.heap.objs.size+1)::us) I2.cX hl) r2 hq) fun r s' hJ=> ?_))
 cases r with
 | error e=>exact hx pins σ _ _ e s' I2 hJ
 | ok fl=>
  cases fl with
  | ret u=>
   obtain⟨v,H',I3,rv,ev,q3⟩:=I2.after hJ
   subst ev
   exact⟨rv,⟨V.ref (s.heap.objs.size+1),H',I3,rfl,q3⟩⟩
  | next=>exact False.elim hJ
  | brk=>exact False.elim hJ
  | cont=>exact False.elim hJ
theorem S9(M:Mk X.K C f)(F:cA X.prog X.w X.K X.mg X.base CX k f fd ps sp)(hr:dr (k+1) X.A)(hg:Gl X x)(hm:X.mg x=some (.ref C))(hb:Binds X.K fd ps ds)(hd:Vals fi ds)(hx:Passes CX X E)
  (ha:PA X (e::es) t) (km:(x==("__debug__":Str))=false:=by decide) (he:starEach (e::es) X.env=(false,eval e X.env)::starEach es X.env:=by rfl) (jD:(backTo pos (starEach es X.env)).any (·.1)=false:=by rfl):
  PE X (.Call (.Name x p) (e::es) [] pos) (zI C sp fi E t):=by
 intro pins s σ H Q I h
 refine wpAny_Call_Name_kw (sA I hg hm ?_ km)
 refine callWith_K (h₀:=X.base) I.ok.mod.nC M.kp (aN (ha pos pins s σ H _ I h) fun us s1 ⟨vs,H1,I1,r,q⟩=> ⟨I1.cX, ?_⟩) he jD
 exact S8 M F hr hb hd hx I1 r q
end
section
variable {X:Cx} {CX:aL} {k:Nat} {f C:Addr} {fd:FuncData} {ps ks:List Str} {sp:Sp} {E:XK} {x m:Str} {p pos apos anC:Pos} {e o:Expr} {es:List Expr} {kws:List Keyword} {te ta:TE} {t tk:TA} {nm:Option Str}
variable {g:List Value→List Value→List Value} {gV:List V→List V→List V}
end
structure bR (N P:List Str) (sc:Scope):Prop where
 kind:sc.kind= .function
 co:sc.isCoroutine=false
 gen:sc.isGenerator=false
 nd:N.Nodup
 pre:N.take P.length=P
 par: ∀x∈P,sc.names.lookup x=some .local∨sc.names.lookup x=some .cell
 S_: ∀y∈sc.names,y.2≠ .free
theorem cm{N P:List Str}{sc:Scope}(a:sc.kind= .function:=by kernel_rfl)(b:sc.isCoroutine=false:=by kernel_rfl)(c:sc.isGenerator=false:=by kernel_rfl)(d:N.Nodup:=by decide+kernel)(e:N.take P.length=P:=by kernel_rfl)(f: ∀x∈P,sc.names.lookup x=some .local∨sc.names.lookup x=some .cell:=by decide+kernel)(g: ∀y∈sc.names,y.2≠ .free:=by decide+kernel):bR N P sc:=⟨a,b,c,d,e,f,g⟩
theorem JK{kindOf:Str→Option NameKind}{x:Str}: ∀{binds:List (Str×Value)} {m:Str→Option Value},(∀v,(x,v)∉binds)→bindL kindOf binds m x=m x
 | [],_,_=>rfl
 | (n,v)::r,m,h=>by
  unfold bindL
  rw[JK fun w hw=>h w (List.mem_cons_of_mem _ hw)]
  split
  ·have:x≠n:=by rintro rfl;exact h v List.mem_cons_self
   simp[this]
  ·rfl
theorem JL{kindOf:Str→Option NameKind}{x:Str}: ∀{binds:List (Str×Value)} {m:Str→Option Value},(∀v,(x,v)∉binds)→bindC kindOf binds m x=m x
 | [],_,_=>rfl
 | (n,v)::r,m,h=>by
  unfold bindC
  rw[JL fun w hw=>h w (List.mem_cons_of_mem _ hw)]
  split
  ·rfl
  ·have:x≠n:=by rintro rfl;exact h v List.mem_cons_self
   simp[this]
theorem JM{kindOf:Str→Option NameKind}{x:Str}{v:Value}: ∀{P:List Str} {vs:List Value} {i:Nat} {m:Str→Option Value},P.Nodup→P[i]?=some x→vs[i]?=some v→kindOf x=some .local→
  bindL kindOf (P.zip vs) m x=some v
 | [],_,_,_,_,h,_,_=>by simp at h
 | _::_,[],_,_,_,_,h,_=>by simp at h
 | p::P,w::vs,0,m,nd,h1,h2,hk=>by
  simp at h1 h2;subst h1;subst h2
  show bindL kindOf ((p,w)::P.zip vs) m p=_
  unfold bindL
  rw[JK fun v hv=> (List.nodup_cons.mp nd).1 (List.of_mem_zip hv).1,if_pos hk]
  simp
 | p::P,w::vs,i+1,m,nd,h1,h2,hk=>by
  show bindL kindOf ((p,w)::P.zip vs) m x=_
  unfold bindL
  exact JM (i:=i) (List.nodup_cons.mp nd).2 (by simpa using h1) (by simpa using h2) hk
theorem JN{kindOf:Str→Option NameKind}{x:Str}{v:Value}: ∀{P:List Str} {vs:List Value} {i:Nat} {m:Str→Option Value},P.Nodup→P[i]?=some x→vs[i]?=some v→kindOf x≠some .local→
  bindC kindOf (P.zip vs) m x=some v
 | [],_,_,_,_,h,_,_=>by simp at h
 | _::_,[],_,_,_,_,h,_=>by simp at h
 | p::P,w::vs,0,m,nd,h1,h2,hk=>by
  simp at h1 h2;subst h1;subst h2
  show bindC kindOf ((p,w)::P.zip vs) m p=_
  unfold bindC
  rw[JL fun v hv=> (List.nodup_cons.mp nd).1 (List.of_mem_zip hv).1,if_neg hk]
  simp
 | p::P,w::vs,i+1,m,nd,h1,h2,hk=>by
  show bindC kindOf ((p,w)::P.zip vs) m x=_
  unfold bindC
  exact JN (i:=i) (List.nodup_cons.mp nd).2 (by simpa using h1) (by simpa using h2) hk
def start(N:List Str)(vs:List V):St:=vs.map some++List.replicate (N.length - vs.length) none
def ko(CX:aL)(P:Program)(w:World)(K:PySem.W.Frag)(mg:Str→Option Value)(base:Heap)(N:List Str)(qual:Str)(scope:Scope)(f:Addr)(cd:Value)(A:Around)(outer:List Env)(s:Shared)(H:Hp)(E:XK):Cx where
 prog:=P
 w:=w
 K:=K
 mg:=mg
 base:=base
 A:=A.deeper (envOfC qual scope s.heap.objs.size f cd)
 N:=N
 s₀:=s
 H₀:=H
 env:=envOfC qual scope s.heap.objs.size f cd
 outer:=outer
 stack:=envOfC qual scope s.heap.objs.size f cd::outer
 ex:=[]
 calm:=true
 fn:=fun _=>true
 pn:=[]
 xe:=fun e s'=>wpAny (model P w) (A.deeper (envOfC qual scope s.heap.objs.size f cd)) (leaving (envOfC qual scope s.heap.objs.size f cd) e) (fun _ gd=>CX outer H s E e gd) (fun e' gd=>CX outer H s E e' gd) s'
theorem JO{sc:Scope}{n:Nat}{x:Str}(h:sc.names.lookup x=some .cell): ∃c,(cellsFrom n sc.names []).lookup x=some c:=by
 have q:=cellsFrom_some sc.names n [] (.inl h)
 exact Option.isSome_iff_exists.mp q
theorem JP{CX:aL}{P:Program}{w:World}{K:PySem.W.Frag}{mg:Str→Option Value}{base:Heap}{N ps:List Str}{qual:Str}{scope:Scope}{f:Addr}{cd:Value}{A:Around}{outer:List Env}{s s1:Shared}{H:Hp}{E:XK}{us:List Value}{vs:List V}
  (S:bR N ps scope) (hd:A.handled=none) (e0:kl P w K mg base A outer s H) (hl:vs.length=ps.length) (r:Vals vs us)
  (x:InCallC s s.heap.objs.size (bindL (envOfC qual scope s.heap.objs.size f cd).kindOf (ps.zip us) fun _=>none) (cellsFrom (s.heap.objs.size+1) scope.names []) (bindC (envOfC qual scope s.heap.objs.size f cd).kindOf (ps.zip us) fun _=>none) s1):
  Inv (ko CX P w K mg base N qual scope f cd A outer s H E) [] (start N vs) H s1:=by
 have jD:ps.length≤N.length:=by have:=congrArg List.length S.pre;rw[List.length_take] at this;omega
 obtain⟨h1,tk,rfl,hk⟩:=x.done
 have sI: ∀b:Addr,b∉ (ko CX P w K mg base N qual scope f cd A outer s H E).ex:=fun b z=>absurd (show b∈ ([]:List Addr) from z) (by simp)
 refine⟨⟨e0.mod,S.kind,rfl,rfl,Nat.le_refl _,fun y z c h1 h2=> ?_,fun y hy=> ?_,fun y c _ h=> ?_,fun _=>hd,Around.frames_deeper e0.frames, .inr ⟨rfl,rfl⟩,fun b z=>absurd z (sI b),e0.bs,e0.mB,fun b _ _=>sI b,fun b z=>absurd z (sI b),e0.iB,e0.nE⟩,
  rfl,e0.bare,Un.kept hk,⟨_,x.toInCall.ns,fun i y v h1 h2 h3=> ?_⟩,fun y c h=> ⟨_,x.cell y c h⟩,e0.aw.fresh (Nat.le_refl _),fun y c h=> ?_,fun p hp=>absurd (show p∈ ([]:List (Addr×Obj)) from hp) (by simp),e0.aw.kept hk, ?_⟩
 ·exact name_of_addr x.apart (PySem.mem_of_lookup h1) (PySem.mem_of_lookup h2)
 ·have hy:scope.names.lookup y=some .cell∨scope.names.lookup y=some .free:=hy
  rcases hy with hy | hy
  ·exact JO hy
  ·exact absurd rfl (S.S_ _ (PySem.mem_of_lookup hy))
 ·exact Nat.le_of_lt (x.above y c (PySem.mem_of_lookup h))
 ·have hi:i<vs.length:=by
   unfold start at h2
   by_cases hi:i<vs.length
   ·exact hi
   ·rw[List.getElem?_append_right (by simpa using hi)] at h2
    rw[List.getElem?_replicate] at h2
    split at h2<;>cases h2
  have ha:vs[i]?=some v:=by
   unfold start at h2
   rw[List.getElem?_append_left (by simpa using hi),List.getElem?_map] at h2
   cases e:vs[i]? with
   | none=>rw[e] at h2;cases h2
   | some a=>rw[e] at h2;cases h2;rfl
  obtain⟨u,hu,rv⟩:=r.get ha
  have hp:ps[i]?=some y:=by
   rw[←S.pre,List.getElem?_take_of_lt (by omega)];exact h1
  have JQ:ps.Nodup:=by rw[←S.pre];exact S.nd.sublist (List.take_sublist _ _)
  refine⟨u,rv, ?_⟩
  rcases S.par y (List.mem_of_getElem? hp) with k | k
  ·exact .inl ⟨k,JM JQ hp hu k⟩
  ·obtain⟨c,e⟩:=JO (n:=s.heap.objs.size+1) k
   refine .inr ⟨.inl k,c,e, ?_⟩
   have q:=x.cell y c e
   rw[JN JQ hp hu (by show scope.names.lookup y≠_;rw[k];decide)] at q
   exact q
 ·exact e0.aw.fresh (Nat.le_of_lt (x.above y c (PySem.mem_of_lookup h)))
 ·unfold start
  show _=N.length
  rw[List.length_append,List.length_map,List.length_replicate]
  omega
theorem Ta{CX:aL}{P:Program}{w:World}{K:PySem.W.Frag}{mg:Str→Option Value}{base:Heap}{k:Nat}{f:Addr}{name qual:Str}{params:Arguments}{body:List Stmt}{scope:Scope}{dV kV doc pm cY ct oc:Value}{an od:Option Addr}
  {ja:Array (Option Value)} {N ps:List Str} {sp:Sp} (lk:K.lookup f=some ⟨oc,od, .func (fnOf name qual params body scope dV kV doc pm an cY ct),ja⟩) (hG:codeIn K cY qual=true) (S:bR N ps scope)
  (len: ∀vs H Q E,sp vs H Q E→vs.length=ps.length)
  (zK: ∀(A:Around) (outer:List Env) (s:Shared) (H:Hp) (vs:List V) (Q:VK) (E:XK),dr k (A.deeper (envOfC qual scope s.heap.objs.size f cY))→sp vs H Q E→
   ∃t,bo (ko CX P w K mg base N qual scope f cY A outer s H E) body t∧t {nx:=fun _ H'=>Q .aq H',rt:=Q} (start N vs) H):
  cA P w K mg base CX (k+1) f (fnOf name qual params body scope dV kV doc pm an cY ct) ps sp:=by
 refine⟨len,fun A outer s H args us vs Q E hr e0 hb r gf=> ?_⟩
 have hl:=len _ _ _ _ gf
 have KX:K.In s.heap:=e0.mod.nC.keeps fun b o e=> (e0.bs b o e).1
 have lim:s.heap.NoLimit:=e0.mod.nolimit.keeps fun b o e=> (e0.bs b o e).1
 have zL: ∀y∈ps.zip us,scope.names.lookup y.1=some .local∨(scope.names.lookup y.1=some .cell∧((cellsFrom (s.heap.objs.size+1) scope.names []).lookup y.1).isSome=true):=fun⟨n,v⟩ hy=>by
  rcases S.par n (List.of_mem_zip hy).1 with q | q
  ·exact .inl q
  ·exact .inr ⟨q,cellsFrom_some _ _ _ (.inl q)⟩
 refine codeAny_call_function hr.depth (KX _ _ lk) rfl S.co S.gen rfl (codeRec_of KX hG) (hb _ _ _ _ ?_)
 refine wpAny_newFunctionEnv_cells S.kind zL fun env he s1 x=> ?_
 subst he
 refine⟨lim.keeps x.toInCall.keep,codeAny_func ?_⟩
 obtain⟨t,ht,hq⟩:=zK A outer s H vs Q E (hr.deeper _) gf
 have I:Inv (ko CX P w K mg base N qual scope f cY A outer s H E) [] (start N vs) H s1:=JP S hr.hd e0 hl r x
 refine wpAny_mono (ht [] s1 (start N vs) H _ I hq) (fun fl s' hs=> ?_) fun e s' hs=>hs
 have fin: ∀{σ':St} {H':Hp} {v:V} {u:Value},Inv (ko CX P w K mg base N qual scope f cY A outer s H E) [] σ' H' s'→RelV v u→Q v H'→CE outer P w H s Q u s':=
  fun {σ' H' v u} J rv q=> ⟨v,H',J.os,J.bare,J.base,J.aw,rv,q⟩
 cases fl with
 | ret u=>
  obtain⟨v,σ',H',J,rv,q⟩:=hs
  exact fin J rv q
 | next=>
  obtain⟨σ',H',J,q⟩:=hs
  exact fin (v:=V.aq) (u:=Value.none) J rfl q
 | brk=>
  obtain⟨_,_,_,q⟩:=hs
  exact False.elim q
 | cont=>
  obtain⟨_,_,_,q⟩:=hs
  exact False.elim q
section
variable {X:Cx} {x:Str} {p pos:Pos} {e:Expr} {es:List Expr} {t:TA} {id T:String} {r:List V→Hp→VK→Prop}
def jE(r:List V→Hp→VK→Prop)(t:TA):TE:=fun σ H Q=>t σ H fun vs H1=>r vs H1 Q
theorem zM(hc:cJ X (.builtin id) r)(hg:Gl X x)(hm:X.mg x=none)(hv:bootBuiltins x=some (.builtin id))(ha:PA X (e::es) t)(hn:x≠"__name__":=by decide)(km:(x==("__debug__":Str))=false:=by decide)
  (he:starEach (e::es) X.env=(false,eval e X.env)::starEach es X.env:=by rfl) (jD:(backTo pos (starEach es X.env)).any (·.1)=false:=by rfl):PE X (.Call (.Name x p) (e::es) [] pos) (jE r t):=by
 intro pins s σ H Q I h
 refine wpAny_Call_Name_kw (sC I hg hm hv ?_ hn km)
 exact PyProof.Rows.callWith_builtin1 (aN (ha pos pins s σ H _ I h) fun us s1 ⟨vs,H1,I1,r1,q1⟩=>hc pins s1 σ H1 vs us Q I1 r1 q1) he jD
theorem Tb(hc:cJ X (.type T) r)(hg:Gl X x)(hm:X.mg x=none)(hv:bootBuiltins x=some (.type T))(ha:PA X (e::es) t)(hn:x≠"__name__":=by decide)(km:(x==("__debug__":Str))=false:=by decide)
  (he:starEach (e::es) X.env=(false,eval e X.env)::starEach es X.env:=by rfl) (jD:(backTo pos (starEach es X.env)).any (·.1)=false:=by rfl):PE X (.Call (.Name x p) (e::es) [] pos) (jE r t):=by
 intro pins s σ H Q I h
 refine wpAny_Call_Name_kw (sC I hg hm hv ?_ hn km)
 exact PyProof.Rows.callWith_type1 (aN (ha pos pins s σ H _ I h) fun us s1 ⟨vs,H1,I1,r1,q1⟩=>hc pins s1 σ H1 vs us Q I1 r1 q1) he jD
end
end L2
namespace HT
open PySem PyProof.Rows
section
open PySem.SeqAt
open PySem.AutoSeq1 (wpAny_loadPart')
open PySem.MeetsSeq PySem.MeetsSeq2 PySem.MeetsSeq3
end
section
variable {prog:Program} {w:World} {A:Around} {E:Value→Shared→Prop} {s:Shared}
theorem Tc{t b:Addr}{vs ws:List Value}{Q:Value→Shared→Prop}(ht:IsTup s.heap t vs.toArray)(hb:IsTup s.heap b ws.toArray)(hv:vs≠ [])
  (h1:ws=[]→Q (.ref t) s) (h2:ws≠ []→Q (.ref s.heap.objs.size) {s with heap:=s.heap.push {cls:= .type "tuple",data:= .seq (vs++ws).toArray}})
  (hsz:vs.length+ws.length≤sizeLine):wpAny (model prog w) A (binaryOp .Add (.ref t) (.ref b)) Q E s:=by
 obtain⟨⟨cls,dd,data,sl⟩,ho,hc,n,hd⟩:=id ht
 obtain⟨⟨anE,JR,data2,nQ⟩,eo,cB,n2,hd2⟩:=id hb
 simp only at hc hd cB hd2
 subst hc hd cB hd2
 have e:vs.toArray++ws.toArray=(vs++ws).toArray:=by simp
 by_cases hw:ws=[]
 ·exact concat_meets ⟨_,ho,rfl⟩ ⟨_,eo,rfl⟩ noFill_tuple_add seq_tuple_add PySem.F.slot_tuple_add PySem.F.entry_tuple_add (PySem.F.args_tuple_add_2 _ _)
   (tuple_addW1 t b vs.toArray ws.toArray n n2 dd JR sl nQ (by simpa using hv) (by simp[hw])) ⟨ho,eo,h1 hw⟩
 ·refine concat_meets ⟨_,ho,rfl⟩ ⟨_,eo,rfl⟩ noFill_tuple_add seq_tuple_add PySem.F.slot_tuple_add PySem.F.entry_tuple_add (PySem.F.args_tuple_add_2 _ _)
   (tuple_addW2 t b vs.toArray ws.toArray n n2 dd JR sl nQ (by simpa using hv) (by simpa using hw) (by rw[List.size_toArray,List.size_toArray];exact hsz)) ⟨ho,eo, ?_⟩
  rw[e]
  exact h2 hw
def bh(n d:Nat):Option Int→Nat
 | none=>d
 | some v=>if v<0 then (v+ (n:Int)).toNat else min v.toNat n
theorem kq(n d k:Nat):bh n d (some (k:Int))=min k n:=by
 show(if (k:Int) <0 then ((k:Int)+ (n:Int)).toNat else min (k:Int).toNat n)=min k n
 rw[if_neg (by omega),Int.toNat_natCast]
theorem zN(n d:Nat)(hd:d≤n)(o:Option Int):bh n d o≤n:=by
 cases o with
 | none=>exact hd
 | some v=>
  show(if v<0 then (v+ (n:Int)).toNat else min v.toNat n)≤n
  by_cases hv:v<0
  ·rw[if_pos hv];omega
  ·rw[if_neg hv];exact Nat.min_le_right _ _
theorem JS(v:Int)(n d:Nat):(if v<0 then max (v+ (n:Int)) 0 else min v (n:Int))=((bh n d (some v):Nat):Int):=by
 show(if v<0 then max (v+ (n:Int)) 0 else min v (n:Int))=(((if v<0 then (v+ (n:Int)).toNat else min v.toNat n):Nat):Int)
 by_cases hv:v<0
 ·simp only[if_pos hv];omega
 ·simp only[if_neg hv];omega
theorem Td(lo hi:Option Int)(n:Nat):Builtin.Slice.sliceAdjust lo hi 1 (n:Int)=(((bh n 0 lo:Nat):Int),((bh n n hi:Nat):Int)):=by
 have h1: ¬((1:Int) <0):=by omega
 unfold Builtin.Slice.sliceAdjust
 simp only[h1,if_false]
 refine Prod.ext ?_ ?_
 ·cases lo with
  | none=>rfl
  | some v=>exact JS v n 0
 ·cases hi with
  | none=>rfl
  | some v=>exact JS v n n
theorem Te(i j:Nat):Builtin.Slice.slicePlaces (i:Int) (j:Int) 1=j - i:=by
 unfold Builtin.Slice.slicePlaces
 have h1:(1:Int) >0:=by omega
 simp only[h1,if_true,Int.ediv_one]
 split<;>omega
theorem JT{v:Value}{o:Option Int}{Q:Option Int→Shared→Prop}(p:IsPart v o)(h:Q o s):wpAny (model prog w) A (Builtin.Slice.slicePartIndex v) Q E s:=by
 cases p with
 | none=>exact slicePart_none h
 | int i t=>exact slicePart_int h
theorem Tf{sl:Addr}{vl vu:Value}{lo hi:Option Int}{n:Nat}{Q:Int×Int×Nat→Shared→Prop}(hs:s.heap.IsSliceOf sl vl vu .none)(pl:IsPart vl lo)(pu:IsPart vu hi)
  (h:Q (((bh n 0 lo:Nat):Int),1,bh n n hi - bh n 0 lo) s):wpAny (model prog w) A (Builtin.Slice.sliceApplied (.ref sl) (pure (n:Int))) Q E s:=by
 obtain⟨os,sJ,JU,wj⟩:=id hs
 unfold Builtin.Slice.sliceApplied Builtin.Slice.sliceFields
 refine wpAny_bind (wpAny_bind (wpAny_field sJ wj (x:=vl) rfl (wpAny_bind (wpAny_field sJ wj (x:=vu) rfl (wpAny_bind (wpAny_field sJ wj (x:= .none) rfl (wpAny_pure ?_)))))))
 refine wpAny_bind (slicePart_none ?_)
 show wpAny _ _ (if ((1:Int)==0)=true then _ else _) _ _ s
 rw[if_neg (by decide)]
 refine wpAny_bind (JT pl (wpAny_bind (JT pu (wpAny_bind (wpAny_pure ?_)))))
 show wpAny _ _ (match Builtin.Slice.sliceAdjust lo hi 1 (n:Int) with | (lo,hi)=>pure (lo,(1:Int),Builtin.Slice.slicePlaces lo hi 1)) _ _ s
 rw[Td lo hi n]
 show wpAny _ _ (pure (((bh n 0 lo:Nat):Int),(1:Int),Builtin.Slice.slicePlaces ((bh n 0 lo:Nat):Int) ((bh n n hi:Nat):Int) 1)) _ _ s
 rw[Te]
 exact wpAny_pure h
theorem Tg(xs:Array Value)(i k:Nat):((List.range k).filterMap fun(m:Nat)=>xs[((i:Int)+ (m:Int)*1).toNat]?).toArray=((xs.toList.drop i).take k).toArray:=by
 have e:(fun(m:Nat)=>xs[((i:Int)+ (m:Int)*1).toNat]?)=fun m=>xs[i+m]?:=by
  funext m
  have:((i:Int)+ (m:Int)*1).toNat=i+m:=by omega
  rw[this]
 rw[e]
 have:=pick_run xs i k
 rw[List.filterMap_map] at this
 have e2:((fun x=>xs[x]?)∘fun x=>i+x)=fun m=>xs[i+m]?:=rfl
 rw[e2] at this
 rw[this]
theorem Th{t sl:Addr}{items:Array Value}{vl vu:Value}{lo hi:Option Int}{Q:Value→Shared→Prop}(ht:IsTup s.heap t items)(hs:s.heap.IsSliceOf sl vl vu .none)(pl:IsPart vl lo)(pu:IsPart vu hi)
  (hw: ¬(bh items.size 0 lo=0∧bh items.size items.size hi=items.size))
  (h:Q (.ref s.heap.objs.size) {s with heap:=s.heap.push {cls:= .type "tuple",data:= .seq ((items.toList.drop (bh items.size 0 lo)).take (bh items.size items.size hi - bh items.size 0 lo)).toArray}})
  (hsz:items.size≤sizeLine):wpAny (model prog w) A (getItem (.ref t) (.ref sl)) Q E s:=by
 have wk:sizeOk (.seq ((items.toList.drop (bh items.size 0 lo)).take (bh items.size items.size hi - bh items.size 0 lo)).toArray):=by
  show((items.toList.drop (bh items.size 0 lo)).take (bh items.size items.size hi - bh items.size 0 lo)).toArray.size≤sizeLine
  rw[List.size_toArray,List.length_take,List.length_drop,Array.length_toList]
  omega
 have hj:bh items.size items.size hi≤items.size:=zN _ _ (Nat.le_refl _) hi
 obtain⟨os,sJ,JU,wj⟩:=id hs
 have Ti:s.TypeIs (.ref sl) "slice":=⟨os,sJ,JU⟩
 unfold getItem
 try with_reducible refine wpAny_holding ?_
 first | refine wpAny_bind (wpAny_pure ?_) | skip
 refine wpAny_bind (wpAny_sequenceKey ht.typeIs (by decide) ?_)
 refine wpAny_bind (wpAny_callSpecial?_slot (name:=Str.ofString "__getitem__") ht.typeIs PyProof.Rows.slot_tuple_getitem
  (wpAny_call_entry PyProof.Rows.slot_tuple_getitem ht.typeIs entry_tuple_getitem ?_ (args_tuple_getitem _ _)))
 show wpAny _ _ (Builtin.Tuple.tupleItemsOf (.ref t) >>=_) _ _ s
 refine wpAny_bind (tupleItemsOf_ ht ?_)
 refine wpAny_bind (wpAny_typeOf Ti ?_)
 rw[if_pos (by decide)]
 refine wpAny_bind (Tf hs pl pu ?_)
 have mF: ¬((((bh items.size 0 lo:Nat):Int)==0 && (1:Int)==1 && (bh items.size items.size hi - bh items.size 0 lo)==items.size)=true):=by
  intro q
  rw[Bool.and_eq_true,Bool.and_eq_true] at q
  have q1:((bh items.size 0 lo:Nat):Int)=0:=eq_of_beq q.1.1
  have q2:bh items.size items.size hi - bh items.size 0 lo=items.size:=eq_of_beq q.2
  exact hw ⟨by omega,by omega⟩
 show wpAny _ _ (if (((bh items.size 0 lo:Nat):Int)==0 && (1:Int)==1 && (bh items.size items.size hi - bh items.size 0 lo)==items.size)=true then _ else _) _ _ s
 rw[if_neg mF,Tg]
 first
  | exact wpAny_bind (m:=Builtin.Tuple.tupleExact _) (wpAny_newObj_type (wpAny_pure ⟨_,rfl,wpAny_pure h⟩) wk)
  | exact wpAny_bind (m:=Builtin.Tuple.tupleExact _) (wpAny_newObj_type (wpAny_bind (wpAny_pure (wpAny_pure ⟨_,rfl,wpAny_pure h⟩))) wk)
  | exact wpAny_bind (wpAny_bind (m:=Builtin.Tuple.tupleExact _) (wpAny_newObj_type (wpAny_pure (wpAny_pure ⟨_,rfl,wpAny_pure h⟩)) wk))
  | exact wpAny_bind (wpAny_bind (m:=Builtin.Tuple.tupleExact _) (wpAny_newObj_type (wpAny_pure ⟨_,rfl,wpAny_pure h⟩) wk))
end
end HT
namespace L2
open PySem PySem.Spec PyProof.Rows
abbrev TO:=St→Hp→(Option Int→Hp→Prop)→Prop
def PO(X:Cx)(e:Option Expr)(t:TO):Prop:=
 ∀(pins:List (Addr×Obj)) (s:Shared) (σ:St) (H:Hp) (Q:Option Int→Hp→Prop),Inv X pins σ H s→t σ H Q→
  wpAny (model X.prog X.w) X.A (evalPart e X.env) (fun u s'=> ∃o H',Inv X pins σ H' s'∧IsPart u o∧Q o H') X.xe s
def JV:TO:=fun _ H Q=>Q none H
def wm(t:TE):TO:=fun σ H Q=>t σ H fun x H1=> ∃i,x= .int i∧Q (some i) H1
theorem intsAre_of{ns:List Int}: ∀{us:List Value},Vals (ns.map V.int) us→IntsAre us ns:=by
 induction ns with
 | nil=>intro us r;rw[List.map_nil] at r;cases r;exact .nil
 | cons n ns ih=>
  intro us r
  rw[List.map_cons] at r
  cases r with
  | cons r1 r2=>
   obtain⟨t,e⟩:=r1
   subst e
   exact .cons n t (ih r2)
section
variable {X:Cx} {e:Expr} {te:TE} {lo hi:Option Expr} {tl th:TO} {pos p2:Pos}
theorem Tj:PO X none JV:=by
 intro pins s σ H Q I h
 rw[evalPart_none]
 exact wpAny_pure ⟨none,H,I, .none,h⟩
theorem Tn(h:PE X e te):PO X (some e) (wm te):=by
 intro pins s σ H Q I hw
 rw[evalPart_some]
 refine aN (h pins s σ H _ I hw) fun u s1 ⟨x,H1,I1,r1,q1⟩=> ?_
 obtain⟨i,rfl,q⟩:=q1
 obtain⟨t,rfl⟩:=r1
 exact⟨some i,H1,I1, .int i t,q⟩
def wo(X:Cx)(r:V→Option Int→Option Int→Hp→VK→Prop):Prop:=
 ∀(pins:List (Addr×Obj)) (s:Shared) (σ:St) (H:Hp) (x:V) (v vl vu:Value) (lo hi:Option Int) (sl:Addr) (Q:VK),Inv X pins σ H s→RelV x v→s.heap.IsSliceOf sl vl vu .none→IsPart vl lo→IsPart vu hi→r x lo hi H Q→
  ∃T id,typeLookup (.type T) "__getitem__"=pure (some (.builtin id))∧s.TypeIs v T∧wpAny (model X.prog X.w) X.A (getItem v (.ref sl)) (EP X pins σ Q) X.xe s
def zO(r:V→Option Int→Option Int→Hp→VK→Prop)(te:TE)(tl th:TO):TE:=fun σ H Q=>te σ H fun x H1=>tl σ H1 fun l H2=>th σ H2 fun u H3=>r x l u H3 Q
theorem To{r:V→Option Int→Option Int→Hp→VK→Prop}(hr:wo X r)(he:PE X e te)(hl:PO X lo tl)(hu:PO X hi th):PE X (.Subscript e (.Slice lo hi none p2) pos) (zO r te tl th):=by
 intro pins s σ H Q I h
 refine Subscript_ (aN (he pins s σ H _ I h) fun v s1 ⟨x,H1,I1,r1,q1⟩=> ?_)
 refine wpAny_Slice (aN (hl pins s1 σ H1 _ I1 q1) fun vl s2 ⟨l,H2,I2,pl,q2⟩=>aN (hu pins s2 σ H2 _ I2 q2) fun vu s3 ⟨u,H3,I3,pu,q3⟩=> ?_)
 rw[evalPart_none]
 refine wpAny_pure ?_
 have I4:Inv X pins σ H3 {s3 with heap:=s3.heap.push {cls:= .type "slice",data:= .fields #[vl,vu, .none]}}:=I3.kept (t':=s3.toks) fun b ob q=>Heap.get?_push_of_some _ q
 obtain⟨T,id,hT,ht,hg⟩:=hr pins {s3 with heap:=s3.heap.push {cls:= .type "slice",data:= .fields #[vl,vu, .none]}} σ H3 x v vl vu l u s3.heap.objs.size Q I4 r1 (Heap.IsSliceOf.new ..) pl pu q3
 show wpAny (model X.prog X.w) X.A (subscriptTail e (.Slice lo hi none p2) v (.ref s3.heap.objs.size)) (EP X pins σ Q) X.xe {s3 with heap:=s3.heap.push {cls:= .type "slice",data:= .fields #[vl,vu, .none]}}
 exact tail_any (ops:=[.ref s3.heap.objs.size,v]) ht hT hg (by with_unfolding_all rfl)
def gO(xs:List V)(lo hi:Option Int):List V:=(xs.drop (HT.bh xs.length 0 lo)).take (HT.bh xs.length xs.length hi - HT.bh xs.length 0 lo)
theorem JW(xs:List V)(lo hi:Option Int):(gO xs lo hi).length≤xs.length:=by
 unfold gO
 rw[List.length_take,List.length_drop]
 omega
def Tp(K:PySem.W.Frag):V→Option Int→Option Int→Hp→VK→Prop:=fun x lo hi H Q=> ∃a xs,x= .ref a∧aF K H a xs∧
 ¬(HT.bh xs.length 0 lo=0∧HT.bh xs.length xs.length hi=xs.length)∧ ∀p,H p=none→Q (.ref p) (upd H p (.tup (gO xs lo hi)))
theorem Tq:wo X (Tp X.K):=by
 intro pins s σ H x v vl vu lo hi sl Q I rx hs pl pu h
 obtain⟨a,xs,rfl,hx,hw,q⟩:=h
 cases rx
 obtain⟨its,r,ht,hz⟩:=I.tuple hx
 have hlen:its.toArray.size=xs.length:=by rw[List.size_toArray];exact r.length.symm
 refine⟨"tuple",_,PyProof.Rows.slot_tuple_getitem.lookup,ht.typeIs, ?_⟩
 refine HT.Th ht hs pl pu (by rw[hlen];exact hw) ?_ (by rw[hlen];exact hz)
 rw[hlen]
 refine⟨.ref s.heap.objs.size,_,I.laid (t':=s.toks) (o:= .tup (gO xs lo hi)) (fun b ob q=>Heap.get?_push_of_some _ q) (Nat.le_refl _) ?_,rfl,q _ (I.aw.fresh (Nat.le_refl _))⟩
 exact⟨Nat.le_trans (JW xs lo hi) hz,_,(r.drop (HT.bh xs.length 0 lo)).take (HT.bh xs.length xs.length hi - HT.bh xs.length 0 lo),IsTup.new _ _⟩
def JX(K:PySem.W.Frag):R2:=fun x y H Q=> ∃a b xs ys,x= .ref a∧y= .ref b∧aF K H a xs∧aF K H b ys∧xs≠ []∧xs.length+ys.length≤sizeLine∧
 (ys=[]→Q (.ref a) H)∧(ys≠ []→ ∀p,H p=none→Q (.ref p) (upd H p (.tup (xs++ys))))
theorem Vals.zP{xs:List V}{us:List Value}(r:Vals xs us):us=[]↔xs=[]:=by
 cases r with
 | nil=>simp
 | cons _ _=>simp
theorem Tr:bw X (binaryOp .Add) (JX X.K):=by
 intro pins s σ H x y v u Q I rx ry h
 obtain⟨a,b,xs,ys,rfl,rfl,ha,hb,hx,hz,q1,q2⟩:=h
 cases rx
 cases ry
 obtain⟨its,r1,p1,_⟩:=I.tuple ha
 obtain⟨fM,r2,p2,_⟩:=I.tuple hb
 refine HT.Tc p1 p2 (fun z=>hx (r1.zP.mp z)) (fun z=> ⟨.ref a,H,I,rfl,q1 (r2.zP.mp z)⟩) (fun z=> ?_) (by rw[←r1.length,←r2.length];exact hz)
 refine⟨.ref s.heap.objs.size,_,I.laid (t':=s.toks) (o:= .tup (xs++ys)) (fun b ob q=>Heap.get?_push_of_some _ q) (Nat.le_refl _) ?_,rfl,q2 (fun w=>z (r2.zP.mpr w)) _ (I.aw.fresh (Nat.le_refl _))⟩
 exact⟨by rw[List.length_append];exact hz,_,r1.append r2,IsTup.new _ _⟩
end
def jb(n:Nat)(i:Int):Option Nat:=if 0≤i then (if i<n then some i.toNat else none) else if -(n:Int)≤i then some (i+n).toNat else none
def eS{α:Type}(xs:List α)(i:Int):Option α:=(jb xs.length i).bind fun j=>xs[j]?
theorem JY{n:Nat}{i:Int}{j:Nat}(h:jb n i=some j):seqIndex? i n=some j∧j<n∧ -(n:Int)≤i∧i<n:=by
 unfold jb at h
 by_cases h0:0≤i
 ·rw[if_pos h0] at h
  by_cases h1:i<n
  ·rw[if_pos h1] at h
   have e:i.toNat=j:=Option.some.inj h
   exact⟨by rw[seqIndex_of h0 h1,e],by omega,by omega,h1⟩
  ·rw[if_neg h1] at h;cases h
 ·rw[if_neg h0] at h
  by_cases h1: -(n:Int)≤i
  ·rw[if_pos h1] at h
   have e:(i+n).toNat=j:=Option.some.inj h
   exact⟨by rw[seqIndex_neg (by omega) h1,e],by omega,h1,by omega⟩
  ·rw[if_neg h1] at h;cases h
theorem zQ{α:Type}{xs:List α}{i:Int}{v:α}(h:eS xs i=some v): ∃j,seqIndex? i xs.length=some j∧xs[j]?=some v∧j<xs.length∧ -(xs.length:Int)≤i∧i<xs.length:=by
 unfold eS at h
 cases e:jb xs.length i with
 | none=>rw[e] at h;cases h
 | some j=>
  rw[e] at h
  obtain⟨h1,h2,h3,h4⟩:=JY e
  exact⟨j,h1,h,h2,h3,h4⟩
theorem kr{α:Type}{xs:List α}{j:Nat}{v:α}(h:xs[j]?=some v):eS xs (j:Int)=some v:=by
 have hj:j<xs.length:=(List.getElem?_eq_some_iff.mp h).1
 have e:jb xs.length (j:Int)=some j:=by
  unfold jb
  rw[if_pos (by omega),if_pos (by omega)];simp
 unfold eS;rw[e];exact h
theorem Ts{α:Type}(xs:List α)(v:α):eS (xs++ [v]) (-1)=some v:=by
 have hl:(xs++ [v]).length=xs.length+1:=by simp
 have e:jb (xs++ [v]).length (-1)=some xs.length:=by
  unfold jb
  rw[hl,if_neg (by decide),if_pos (by omega)]
  congr 1
  omega
 unfold eS
 rw[e]
 show(xs++ [v])[xs.length]?=some v
 simp
def JZ(b:Expr):Prop:= ∀o i,subscripted b false o i=operate [o,i] (getItem o i)
def jF(X:Cx)(r:R2):Prop:=
 ∀(value slice:Expr) (pins:List (Addr×Obj)) (s:Shared) (σ:St) (H:Hp) (x y:V) (v u:Value) (Q:VK),Inv X pins σ H s→RelV x v→RelV y u→r x y H Q→
  subscripted slice false v u=operate [v,u] (getItem v u)→wpAny (model X.prog X.w) X.A (subscriptTail value slice v u) (EP X pins σ Q) X.xe s
def ku(X:Cx)(id:String)(r:V→List V→Hp→VK→Prop):Prop:=
 ∀(pins:List (Addr×Obj)) (s:Shared) (σ:St) (H:Hp) (x:V) (xs:List V) (v:Value) (us:List Value) (Q:VK),Inv X pins σ H s→RelV x v→Vals xs us→r x xs H Q→
  wpAny (model X.prog X.w) X.A (call (.builtin id) (v::us)) (EP X pins σ Q) X.xe s
section
variable {X:Cx} {a b:Expr} {ta tb:TE} {pos:Pos}
theorem jF.or{r r':R2}(h:jF X r)(h':jF X r'):jF X (fun x y H Q=>r x y H Q∨r' x y H Q):=by
 intro value slice pins s σ H x y v u Q I rx ry q hs
 rcases q with q | q
 ·exact h value slice pins s σ H x y v u Q I rx ry q hs
 ·exact h' value slice pins s σ H x y v u Q I rx ry q hs
theorem Tt{r:R2}(hr:jF X r)(ha:PE X a ta)(hb:PE X b tb)(hs:JZ b):PE X (.Subscript a b pos) (dY r ta tb):=by
 intro pins s σ H Q I h
 exact Subscript_ (zC ha hb I h fun v u s2 x y H2 I2 rx ry q=>hr a b pins s2 σ H2 x y v u Q I2 rx ry q (hs _ _))
def J0(K:PySem.W.Frag):R2:=fun x y H Q=> ∃p xs i v,x= .ref p∧y= .int i∧aj K H p xs∧eS xs i=some v∧Q v H
def J3(K:PySem.W.Frag):R2:=fun x y H Q=> ∃p xs i v,x= .ref p∧y= .int i∧aF K H p xs∧eS xs i=some v∧Q v H
def J4:R2:=fun x y H Q=> ∃z i c,x= .str z∧y= .int i∧z.length≤sizeLine∧eS z.cps.toList i=some c∧Q (.str ⟨#[c]⟩) H
theorem Tu:jF X (J0 X.K):=by
 intro value slice pins s σ H x y v u Q I rx ry h hs
 obtain⟨p,xs,i,z,rfl,rfl,hq,he,q⟩:=h
 cases rx
 obtain⟨t,rfl⟩:=ry
 obtain⟨its,r,pl,hz⟩:=I.list hq
 obtain⟨j,h1,h2,h3,h4,h5⟩:=zQ he
 obtain⟨w,ew,hU⟩:=r.get h2
 have hl:=r.length
 have hn:=mD
 have fin:EP X pins σ Q w s:=⟨z,H,I,hU,q⟩
 by_cases h0:0≤i
 ·have hj:i.toNat=j:=by
   rw[seqIndex_of h0 h5] at h1
   exact Option.some.inj h1
  exact item_listR pl.isList h0 (by omega) (by rw[hj];simpa using ew) fin hs
 ·have hj:(i+ (its.toArray.size:Int)).toNat=j:=by
   rw[seqIndex_neg (by omega) h4] at h1
   rw[List.size_toArray,←hl]
   exact Option.some.inj h1
  exact subscriptTail_builtinR (x:=w) pl.isList.typeIs slot_list_getitem.lookup
   (wpAny_getItem_list_neg (Q:=fun r s'=>r=w∧EP X pins σ Q r s') pl.isList (by omega) (by rw[List.size_toArray] <;>omega) (by omega) (by rw[hj];simpa using ew) ⟨rfl,fin⟩) hs
theorem Tv:jF X (J3 X.K):=by
 intro value slice pins s σ H x y v u Q I rx ry h hs
 obtain⟨p,xs,i,z,rfl,rfl,hq,he,q⟩:=h
 cases rx
 obtain⟨t,rfl⟩:=ry
 obtain⟨its,r,pl,hz⟩:=I.tuple hq
 obtain⟨j,h1,h2,h3,h4,h5⟩:=zQ he
 obtain⟨w,ew,hU⟩:=r.get h2
 have hl:=r.length
 have hn:=mD
 have fin:EP X pins σ Q w s:=⟨z,H,I,hU,q⟩
 exact subscriptTail_builtinR (x:=w) pl.typeIs slot_tuple_getitem.lookup
  (getItem_tuple (j:=j) (Q:=fun r s'=>r=w∧EP X pins σ Q r s') pl (by omega) (by omega) (by rw[List.size_toArray,←hl];exact h1) (by simpa using ew) ⟨rfl,fin⟩) hs
theorem Tw:jF X J4:=by
 intro value slice pins s σ H x y v u Q I rx ry h hs
 obtain⟨z,i,c,rfl,rfl,hz,he,q⟩:=h
 obtain⟨t,rfl⟩:=rx
 obtain⟨t',rfl⟩:=ry
 obtain⟨j,h1,h2,h3,h4,h5⟩:=zQ he
 have hl:z.cps.toList.length=z.length:=by simp[Str.length]
 rw[hl] at h1 h4 h5
 have hn:=mD
 exact tail_any (typeIs_str s z t) slot_str_getitem.lookup (getItem_str (c:=c) (by
  have e1:decide (i< -(2 ^ 63:Int))=false:=decide_eq_false (by omega)
  have e2:decide (i≥2 ^ 63)=false:=decide_eq_false (by omega)
  rw[e1,e2,Bool.or_false]) (by rw[h1];simpa using h2) ⟨.str ⟨#[c]⟩,H,I.tok _,⟨_,rfl⟩,q⟩) hs
theorem Tx(its:List Value)(n j:Nat)(u:Value):Obj.mapSeq (·.setIfInBounds j u) {cls:= .type "list",data:= .seq its.toArray n}={cls:= .type "list",data:= .seq (its.set j u).toArray n}:=by
 simp[Obj.mapSeq]
theorem Inv.lst{pins:List (Addr×Obj)}{σ:St}{H:Hp}{s:Shared}{p:Addr}{xs:List V}(I:Inv X pins σ H s)(h:H p=some (.lst xs)):
  ∃(its:List Value) (n:Nat),Vals xs its∧s.heap.get? p=some {cls:= .type "list",data:= .seq its.toArray n}∧xs.length≤sizeLine:=by
 obtain⟨z,its,n,r,e⟩:=I.aw p _ h
 exact⟨its,n,r,e,z⟩
theorem Inv.Tz{pins:List (Addr×Obj)}{σ:St}{H:Hp}{s:Shared}{p:Addr}{xs ys:List V}{its gc:List Value}{n n':Nat}{f:Obj→Obj}(I:Inv X pins σ H s)(h:H p=some (.lst xs))
  (ho:s.heap.get? p=some {cls:= .type "list",data:= .seq its.toArray n}) (hf:f {cls:= .type "list",data:= .seq its.toArray n}={cls:= .type "list",data:= .seq gc.toArray n'}) (r:Vals ys gc) (hz:ys.length≤sizeLine) (t:Nat):
  Inv X pins σ (upd H p (.lst ys)) {s with heap:=s.heap.update p f,toks:=t}:=by
 have e:(s.heap.update p f).get? p=some {cls:= .type "list",data:= .seq gc.toArray n'}:=by
  rw[Heap.get?_update_self f ho (by rw[hf] <;>rfl),hf]
 refine I.write (x:=p) (e:=p) (by rw[h];trivial) (.inl rfl) (fun b u hb q=> (Heap.get?_update_other _ _ (Ne.symm hb)).trans q) ⟨_,e⟩ ?_
 exact⟨hz,gc,n',r,e⟩
def zR:V→V→V→Hp→(Hp→Prop)→Prop:=fun o i v H Q=> ∃p xs k j,o= .ref p∧i= .int k∧H p=some (.lst xs)∧jb xs.length k=some j∧Q (upd H p (.lst (xs.set j v)))
theorem set_list:Jj X zR:=by
 intro pins s σ H o i v ov iv u Q I ro ri rv h
 obtain⟨p,xs,k,j,rfl,rfl,hp,hj,q⟩:=h
 cases ro
 obtain⟨t,rfl⟩:=ri
 obtain⟨its,n,r,ho,hz⟩:=I.lst hp
 obtain⟨h1,h2,h3,h4⟩:=JY hj
 have hl:=r.length
 have hn:=mD
 have I':Inv X pins σ (upd H p (.lst (xs.set j v))) {s with heap:=s.heap.update p (Obj.mapSeq (·.setIfInBounds j u))}:=
  I.Tz hp ho (Tx its n j u) (r.set rv j) (by rw[List.length_set];exact hz) s.toks
 by_cases h0:0≤k
 ·have hk:k.toNat=j:=by
   rw[seqIndex_of h0 h4] at h1
   exact Option.some.inj h1
  exact PySem.W.ki_setAt ho h0 (by omega) (by rw[List.size_toArray,←hl];exact h4) (by rw[hk];exact⟨_,I',q⟩)
 ·have hk:(k+ (its.toArray.size:Int)).toNat=j:=by
   rw[seqIndex_neg (by omega) h3] at h1
   rw[List.size_toArray,←hl]
   exact Option.some.inj h1
  exact PySem.W.ki_setBack ho (by omega) (by rw[List.size_toArray,←hl];exact h3) (by omega) (by rw[hk];exact⟨_,I',q⟩)
theorem zS(lo hi:Option Int)(n:Nat):(sliceBounds lo hi none n).1=((HT.bh n 0 lo:Nat):Int)∧(sliceBounds lo hi none n).2.1=((HT.bh n n hi:Nat):Int)∧(sliceBounds lo hi none n).2.2=1:=by
 refine⟨?_, ?_,rfl⟩
 ·cases lo with
  | none=>simp[sliceBounds,HT.bh]
  | some i=>
   simp only[sliceBounds,HT.bh,Option.getD_none,show(1:Int) >0 by decide,if_true]
   by_cases h:i<0
   ·simp only[h,if_true] <;>omega
   ·simp only[h,if_false] <;>omega
 ·cases hi with
  | none=>simp[sliceBounds,HT.bh]
  | some i=>
   simp only[sliceBounds,HT.bh,Option.getD_none,show(1:Int) >0 by decide,if_true]
   by_cases h:i<0
   ·simp only[h,if_true] <;>omega
   ·simp only[h,if_false] <;>omega
theorem TB(its:List Value)(lo hi:Option Int):slicePick its.toArray lo hi none=((its.drop (HT.bh its.length 0 lo)).take (HT.bh its.length its.length hi - HT.bh its.length 0 lo)).toArray:=by
 obtain⟨h1,h2,h3⟩:=zS lo hi its.toArray.size
 unfold slicePick
 rw[h1,h2,h3]
 simp only[sliceRange_one,pick_run,List.size_toArray] <;>rfl
def TC(K:PySem.W.Frag):V→Option Int→Option Int→Hp→VK→Prop:=fun x lo hi H Q=> ∃a xs,x= .ref a∧aj K H a xs∧ ∀p,H p=none→Q (.ref p) (upd H p (.lst (gO xs lo hi)))
theorem TF:wo X (TC X.K):=by
 intro pins s σ H x v vl vu lo hi sl Q I rx hs pl pu h
 obtain⟨a,xs,rfl,hx,q⟩:=h
 cases rx
 obtain⟨its,r,ht,hz⟩:=I.list hx
 have hlen:=r.length
 refine⟨"list",_,slot_list_getitem.lookup,ht.isList.typeIs, ?_⟩
 refine wpAny_getItem_list_slice ht.isList hs pl pu .none (by simp) ?_ (by rw[List.size_toArray] <;>omega)
 rw[TB,←hlen]
 refine⟨.ref s.heap.objs.size,_,I.laid (t':=s.toks) (o:= .lst (gO xs lo hi)) (fun b ob q=>Heap.get?_push_of_some _ q) (Nat.le_refl _) ?_,rfl,q _ (I.aw.fresh (Nat.le_refl _))⟩
 exact⟨Nat.le_trans (JW xs lo hi) hz,_,0,(r.drop (HT.bh xs.length 0 lo)).take (HT.bh xs.length xs.length hi - HT.bh xs.length 0 lo),Heap.get?_push_size _ rfl⟩
def eE:V→Bool
 | .aq=>true
 | .bl _=>true
 | .int _=>true
 | .str _=>true
 | _=>false
def eT:V→V→Bool
 | .aq, .aq=>true
 | .bl a, .bl b=>a==b
 | .bl a, .int b=> (if a then 1 else 0)==b
 | .int a, .bl b=>a==(if b then 1 else 0)
 | .int a, .int b=>a==b
 | .str a, .str b=>a==b
 | _,_=>false
theorem TH{A:Around}{s:Shared}{y x:V}{u v:Value}(ry:RelV y u)(rx:RelV x v)(fy:eE y=true)(fx:eE x=true):SeqAt.EqAt A s u v (eT y x):=by
 cases y with
 | aq=>
  cases ry
  cases x with
  | aq=>cases rx;exact SeqAt.EqAt.same _
  | bl b=>cases rx;exact SeqAt.EqAt.none_bool b
  | int b=>obtain⟨t,rfl⟩:=rx;exact SeqAt.EqAt.none_int b t
  | str b=>obtain⟨t,rfl⟩:=rx;exact SeqAt.EqAt.none_str b t
  | _=>exact absurd (show false=true from fx) Bool.false_ne_true
 | bl a=>
  cases ry
  cases x with
  | aq=>cases rx;exact SeqAt.EqAt.bool_none a
  | bl b=>cases rx;exact SeqAt.EqAt.bool_bool a b
  | int b=>obtain⟨t,rfl⟩:=rx;exact SeqAt.EqAt.bool_int a b t
  | str b=>obtain⟨t,rfl⟩:=rx;exact SeqAt.EqAt.bool_str a b t
  | _=>exact absurd (show false=true from fx) Bool.false_ne_true
 | int a=>
  obtain⟨t',rfl⟩:=ry
  cases x with
  | aq=>cases rx;exact SeqAt.EqAt.int_none a t'
  | bl b=>cases rx;exact SeqAt.EqAt.int_bool a t' b
  | int b=>obtain⟨t,rfl⟩:=rx;exact SeqAt.EqAt.int_int a t' b t
  | str b=>obtain⟨t,rfl⟩:=rx;exact SeqAt.EqAt.int_str a t' b t
  | _=>exact absurd (show false=true from fx) Bool.false_ne_true
 | str a=>
  obtain⟨t',rfl⟩:=ry
  cases x with
  | aq=>cases rx;exact SeqAt.EqAt.str_none a t'
  | bl b=>cases rx;exact SeqAt.EqAt.str_bool a t' b
  | int b=>obtain⟨t,rfl⟩:=rx;exact SeqAt.EqAt.str_int a t' b t
  | str b=>obtain⟨t,rfl⟩:=rx;exact SeqAt.EqAt.str_str a t' b t
  | _=>exact absurd (show false=true from fx) Bool.false_ne_true
 | _=>exact absurd (show false=true from fy) Bool.false_ne_true
def dS(x:V)(u:Value):Bool:=match u with
 | .none=>eT .aq x
 | .bool b=>eT (.bl b) x
 | .int i _=>eT (.int i) x
 | .str z _=>eT (.str z) x
 | _=>false
theorem wq{x y:V}{u:Value}(r:RelV y u)(f:eE y=true):dS x u=eT y x:=by
 cases y with
 | aq=>cases r;rfl
 | bl b=>cases r;rfl
 | int i=>obtain⟨t,rfl⟩:=r;rfl
 | str z=>obtain⟨t,rfl⟩:=r;rfl
 | _=>exact absurd (show false=true from f) Bool.false_ne_true
theorem sL{x:V}: ∀{xs:List V} {us:List Value},Vals xs us→xs.all eE=true→us.any (dS x)=xs.any fun y=>eT y x
 | _,_, .nil,_=>rfl
 | y::xs,u::us, .cons r t,f=>by
  rw[List.all_cons,Bool.and_eq_true] at f
  rw[List.any_cons,List.any_cons,wq r f.1,sL t f.2]
theorem nR{A:Around}{s:Shared}{x:V}{v:Value}(rx:RelV x v)(fx:eE x=true): ∀{xs:List V} {us:List Value},Vals xs us→xs.all eE=true→ ∀u∈us,SeqAt.EqAt A s u v (dS x u)
 | _,_, .nil,_=>fun u hu=>by cases hu
 | y::xs,u::us, .cons r t,f=>fun u' hu=>by
  rw[List.all_cons,Bool.and_eq_true] at f
  rcases List.mem_cons.mp hu with rfl | hu
  ·rw[wq r f.1];exact TH r rx f.1 fx
  ·exact nR rx fx t f.2 u' hu
def gg(x:V)(xs:List V):Bool:=xs.any fun y=>eT y x
def zT(K:PySem.W.Frag)(neg:Bool):R2:=fun x y H Q=> ∃p xs,y= .ref p∧(aj K H p xs∨aF K H p xs)∧eE x=true∧xs.all eE=true∧Q (.bl (if neg then !gg x xs else gg x xs)) H
theorem TJ:bw X (compareOp .In) (zT X.K false):=by
 intro pins s σ H x y v u Q I rx ry h
 obtain⟨p,xs,rfl,hq,fx,fs,q⟩:=h
 cases ry
 rcases hq with hq | hq
 ·obtain⟨its,r,pl,hz⟩:=I.list hq
  refine SeqAt.in_listAt (dS x) pl.isList (fun w hw=>nR rx fx r fs w (by simpa using hw)) ⟨.bl _,H,I,rfl, ?_⟩
  rw[show its.toArray.any (dS x)=its.any (dS x) by simp,sL r fs]
  exact q
 ·obtain⟨its,r,pl,hz⟩:=I.tuple hq
  refine SeqAt.in_tupleAt (dS x) pl (fun w hw=>nR rx fx r fs w (by simpa using hw)) ⟨.bl _,H,I,rfl, ?_⟩
  rw[show its.toArray.any (dS x)=its.any (dS x) by simp,sL r fs]
  exact q
theorem TK:bw X (compareOp .NotIn) (zT X.K true):=by
 intro pins s σ H x y v u Q I rx ry h
 obtain⟨p,xs,rfl,hq,fx,fs,q⟩:=h
 cases ry
 rcases hq with hq | hq
 ·obtain⟨its,r,pl,hz⟩:=I.list hq
  refine SeqAt.notIn_listAt (dS x) pl.isList (fun w hw=>nR rx fx r fs w (by simpa using hw)) ⟨.bl _,H,I,rfl, ?_⟩
  rw[show its.toArray.any (dS x)=its.any (dS x) by simp,sL r fs]
  exact q
 ·obtain⟨its,r,pl,hz⟩:=I.tuple hq
  refine SeqAt.notIn_tupleAt (dS x) pl (fun w hw=>nR rx fx r fs w (by simpa using hw)) ⟨.bl _,H,I,rfl, ?_⟩
  rw[show its.toArray.any (dS x)=its.any (dS x) by simp,sL r fs]
  exact q
theorem cJ.or{f:Value}{r r':List V→Hp→VK→Prop}(h:cJ X f r)(h':cJ X f r'):cJ X f (fun xs H Q=>r xs H Q∨r' xs H Q):=by
 intro pins s σ H xs us Q I rs q
 rcases q with q | q
 ·exact h pins s σ H xs us Q I rs q
 ·exact h' pins s σ H xs us Q I rs q
theorem TL:cJ X (.type "list") (fun xs H Q=> ∃p ys,xs=[.ref p]∧(aj X.K H p ys∨aF X.K H p ys)∧ ∀l,H l=none→Q (.ref l) (upd H l (.lst ys))):=by
 intro pins s σ H xs us Q I r h
 obtain⟨p,ys,rfl,hq,q⟩:=h
 obtain⟨u,rfl,rx⟩:=vals1 r
 cases rx
 have fin: ∀(its:List Value),Vals ys its→ys.length≤sizeLine→ ∀(h':Heap) (c':Nat),(∀b o',s.heap.get? b=some o'→h'.get? b=some o')→
   h'.get? s.heap.objs.size=some {cls:= .type "list",dict:=none,data:= .seq its.toArray c',slots:= #[]}→EP X pins σ Q (.ref s.heap.objs.size) {s with heap:=h'}:=fun its r' hz h' c' kp e=>
  ⟨.ref s.heap.objs.size,_,I.laid (t':=s.toks) kp (Nat.le_refl _) (show cG X.prog X.w _ h' _ (.lst ys) from⟨hz,its,c',r',e⟩),rfl,q _ (I.aw.fresh (Nat.le_refl _))⟩
 rcases hq with hq | hq
 ·obtain⟨its,r',pl,hz⟩:=I.list hq
  have hlen:=r'.length
  obtain⟨o,ho,hc,n,hd⟩:=pl.isList
  exact call_list_seq p (.inl rfl) ho hc hd (fun h' c' kp e=>fin its r' hz h' c' kp e) (by simp only[List.size_toArray] <;>omega)
 ·obtain⟨its,r',pl,hz⟩:=I.tuple hq
  have hlen:=r'.length
  obtain⟨o,ho,hc,n,hd⟩:=pl
  exact call_list_seq p (.inr rfl) ho hc hd (fun h' c' kp e=>fin its r' hz h' c' kp e) (by simp only[List.size_toArray] <;>omega)
theorem TM:cJ X (.type "tuple") (fun xs H Q=> ∃p ys,xs=[.ref p]∧((aj X.K H p ys∧ ∀l,H l=none→Q (.ref l) (upd H l (.tup ys)))∨(aF X.K H p ys∧Q (.ref p) H))):=by
 intro pins s σ H xs us Q I r h
 obtain⟨p,ys,rfl,h⟩:=h
 obtain⟨u,rfl,rx⟩:=vals1 r
 cases rx
 rcases h with⟨hq,q⟩ | ⟨hq,q⟩
 ·obtain⟨its,r',pl,hz⟩:=I.list hq
  have hlen:=r'.length
  refine call_tuple_list pl.isList (fun h' kp=> ?_) (by simp only[List.size_toArray] <;>omega)
  have I1:Inv X pins σ H {s with heap:=h'}:=I.kept (t':=s.toks) kp
  have I2:Inv X pins σ (upd H h'.objs.size (.tup ys)) {s with heap:=h'.push {cls:= .type "tuple",data:= .seq its.toArray}}:=
   I1.laid (t':=s.toks) (fun b o e=>Heap.get?_push_of_some _ e) (Nat.le_refl _) (show cG X.prog X.w _ _ _ (.tup ys) from⟨hz,its,r',IsTup.new _ _⟩)
  exact⟨.ref h'.objs.size,_,I2,rfl,q _ (I1.aw.fresh (Nat.le_refl _))⟩
 ·obtain⟨its,r',pl,hz⟩:=I.tuple hq
  exact call_tuple_same pl ⟨.ref p,H,I,rfl,q⟩
def sN(K:PySem.W.Frag)(T:String)(x:V)(H:Hp):Prop:=match x with
 | .str _=>T="str"
 | .int _=>T="int"
 | .ref p=> (T="list"∧ ∃xs,aj K H p xs)∨(T="tuple"∧ ∃o,K.lookup p=some o∧o.cls= .type "tuple"∧o.dict=none)∨
   (T="dict"∧((∃ao,H p=some (.dK ao))∨ ∃ao,H p=some (.dT ao)))∨(T="set"∧ ∃S n,H p=some (.set S n))
 | _=>False
theorem J5{pins:List (Addr×Obj)}{σ:St}{H:Hp}{s:Shared}{T:String}{x:V}{v:Value}(I:Inv X pins σ H s)(r:RelV x v)(ty:sN X.K T x H):
  s.TypeIs v T∧ ∀a,v= .ref a→ ∃ob,s.heap.get? a=some ob∧ob.dict=none:=by
 cases x with
 | str z=>
  obtain⟨t,rfl⟩:=r
  cases (show T="str" from ty)
  exact⟨typeIs_str s z t,fun _ e=>nomatch e⟩
 | int i=>
  obtain⟨t,rfl⟩:=r
  cases (show T="int" from ty)
  exact⟨typeIs_int s i t,fun _ e=>nomatch e⟩
 | ref p=>
  cases r
  rcases ty with⟨rfl,xs,hq⟩ | ⟨rfl,o,hk,hc,hd⟩ | ⟨rfl,hk⟩ | ⟨rfl,S,n,hk⟩
  ·obtain⟨its,_,pl,_⟩:=I.list hq
   refine⟨pl.isList.typeIs,fun a e=> ?_⟩
   cases e
   obtain⟨o,n,e,c,hd,_⟩:=pl
   exact⟨o,e,hd⟩
  ·refine⟨⟨o,I.cX p o hk,hc⟩,fun a e=> ?_⟩
   cases e
   exact⟨o,I.cX _ o hk,hd⟩
  ·have z: ∃o,s.heap.get? p=some o∧o.ExactDict:=by
    rcases hk with⟨ao,hk⟩ | ⟨ao,hk⟩
    ·obtain⟨_,_,_,_,o,_,_,e,ex,_⟩:=I.aw p _ hk
     exact⟨o,e,ex⟩
    ·obtain⟨_,_,_,_,o,_,_,e,ex,_⟩:=I.aw p _ hk
     exact⟨o,e,ex⟩
   obtain⟨o,e,ex⟩:=z
   refine⟨⟨o,e,ex.1⟩,fun a e2=> ?_⟩
   cases e2
   exact⟨o,e,ex.2.1⟩
  ·obtain⟨o,_,_,_,e,ex,_⟩:=I.aw p _ hk
   refine⟨⟨o,e,ex.1⟩,fun a e2=> ?_⟩
   cases e2
   exact⟨o,e,ex.2.1⟩
 | _=>exact False.elim ty
def TN(K:PySem.W.Frag)(T:String)(r:V→List V→Hp→VK→Prop)(to:TE):TE:=fun σ H Q=>to σ H fun x H1=>sN K T x H1∧r x [] H1 Q
def TQ(K:PySem.W.Frag)(T:String)(r:V→List V→Hp→VK→Prop)(to:TE)(t:TA):TE:=fun σ H Q=>to σ H fun x H1=>sN K T x H1∧t σ H1 fun xs H2=>r x xs H2 Q
variable {o e:Expr} {es:List Expr} {to:TE} {t:TA} {name:Str} {apos dy:Pos} {T id:String} {r:V→List V→Hp→VK→Prop}
theorem TR(pa:PlainAttrs T)(slot:Slot T name id)(zU:typeOf (.builtin id)=pure (.type "method_descriptor"))(hm:ku X id r)(ho:PE X o to)
  (zV:attributeBase o name X.env (eval o X.env)=eval o X.env:=by rfl) (zW:(apos.endLine==dy.line)=true:=by rfl):PE X (.Call (.Attribute o name apos) [] [] dy) (TN X.K T r to):=by
 intro pins s σ H Q I h
 refine wpAny_Call_method0_late zV zW (aN (ho pins s σ H _ I h) fun v s1 ⟨x,H1,I1,r1,ty,q1⟩=> ?_)
 obtain⟨h1,h2⟩:=J5 I1 r1 ty
 exact⟨T,id,pa,slot,zU,h1,h2,Calls.callWith_builtin rfl (PySem.evalArgs_none (hm pins s1 σ H1 x [] v [] Q I1 r1 .nil q1))⟩
theorem TU(pa:PlainAttrs T)(slot:Slot T name id)(zU:typeOf (.builtin id)=pure (.type "method_descriptor"))(hm:ku X id r)(ho:PE X o to)(ha:PA X (e::es) t)
  (zV:attributeBase o name X.env (eval o X.env)=eval o X.env:=by rfl)
  (TV:((backTo dy (starEach (e::es) X.env)).all (fun x=> !x.1) && (backToKw dy (keywordEach [] X.env)).all (fun x=>x.1.isSome)
   && decide ((e::es).length+ ([]:List Keyword).length+ (if ([]:List Keyword).isEmpty then 0 else 1) <30))=true:=by rfl)
  (zW:(apos.endLine==dy.line)=true:=by rfl) (hs:starEach (e::es) X.env=(false,eval e X.env)::starEach es X.env:=by rfl) (TX:(backTo dy (starEach es X.env)).any (·.1)=false:=by rfl):
  PE X (.Call (.Attribute o name apos) (e::es) [] dy) (TQ X.K T r to t):=by
 intro pins s σ H Q I h
 refine wpAny_Call_method_late zV TV zW rfl (aN (ho pins s σ H _ I h) fun v s1 ⟨x,H1,I1,r1,ty,q1⟩=> ?_)
 obtain⟨h1,h2⟩:=J5 I1 r1 ty
 refine⟨T,id,pa,slot,zU,h1,h2, ?_⟩
 have hA:=ha dy pins s1 σ H1 _ I1 q1
 rw[hs] at hA⊢
 refine Calls.callWith_builtin (by show(false || (backTo dy (starEach es X.env)).any (·.1))=false;rw[TX] <;>rfl) (Calls.evalArgs_plain ?_)
 exact aN hA fun us s2 ⟨vs,H2,I2,r2,q2⟩=>hm pins s2 σ H2 x vs v us Q I2 r1 r2 q2
end
def sP(X:Cx)(id:String)(r:V→List V→Hp→VK→Prop):Prop:=
 ∀(pins:List (Addr×Obj)) (s:Shared) (σ:St) (H:Hp) (x:V) (xs:List V) (v:Value) (us:List Value) (Q:VK),Inv X pins σ H s→RelV x v→Vals xs us→r x xs H Q→
  wpAny (model X.prog X.w) X.A (call (.builtin id) (v::us)) (EP X pins σ Q) X.xe s
theorem Vals.one: ∀{x:V} {us:List Value},Vals [x] us→ ∃u,us=[u]∧RelV x u
 | _,_, .cons r .nil=> ⟨_,rfl,r⟩
theorem Vals.zero: ∀{us:List Value},Vals [] us→us=[]
 | _, .nil=>rfl
theorem Vals.dropLast{xs:List V}{us:List Value}(h:Vals xs us):Vals xs.dropLast us.dropLast:=by
 induction h with
 | nil=>exact .nil
 | cons r t ih=>
  cases t with
  | nil=>exact .nil
  | cons q t'=>exact .cons r ih
theorem Vals.reverse{xs:List V}{us:List Value}(h:Vals xs us):Vals xs.reverse us.reverse:=by
 induction h with
 | nil=>exact .nil
 | cons r t ih=>rw[List.reverse_cons,List.reverse_cons];exact Vals.append ih (.cons r .nil)
theorem Vals.rep{xs:List V}{us:List Value}(h:Vals xs us): ∀k:Nat,Vals (List.replicate k xs).flatten (List.replicate k us).flatten
 | 0=> .nil
 | k+1=>by
  rw[List.replicate_succ,List.replicate_succ,List.flatten_cons,List.flatten_cons]
  exact Vals.append h (Vals.rep h k)
theorem TY{α:Type}(l:List α):l.eraseIdx (l.length - 1)=l.dropLast:=by
 induction l with
 | nil=>rfl
 | cons a r ih=>
  cases r with
  | nil=>rfl
  | cons b r=>
   have e:(a::b::r).length - 1=((b::r).length - 1)+1:=by
    have h1:(a::b::r).length=r.length+2:=rfl
    have h2:(b::r).length=r.length+1:=rfl
    omega
   rw[e,List.eraseIdx_cons_succ,ih]
   all_goals rfl
theorem foldl_rep(its:List Value): ∀(k:Nat) (acc:List Value),
  List.foldl (fun x1 x2=>x1++x2) acc.toArray (List.replicate k its.toArray)=(acc++ (List.replicate k its).flatten).toArray
 | 0,acc=>by simp
 | k+1,acc=>by
  have e:acc.toArray++its.toArray=(acc++its).toArray:=by simp
  have e2:(acc++its)++ (List.replicate k its).flatten=acc++ (List.replicate (k+1) its).flatten:=by
   rw[List.replicate_succ,List.flatten_cons,List.append_assoc]
  rw[←e2,←foldl_rep its k (acc++its),←e,List.replicate_succ,List.foldl_cons]
section
variable {X:Cx} {pins:List (Addr×Obj)} {σ:St} {H:Hp} {s:Shared} {l b:Addr} {xs ys zs:List V}
theorem Inv.sQ{its gc:List Value}{n:Nat}{f:Array Value→Array Value}{t':Nat}(I:Inv X pins σ H s)(hH:H l=some (.lst xs))
  (e:s.heap.get? l=some {cls:= .type "list",data:= .seq its.toArray n}) (hf:f its.toArray=gc.toArray) (hv:Vals ys gc) (hz:ys.length≤sizeLine):
  Inv X pins σ (upd H l (.lst ys)) {s with heap:=s.heap.update l (Obj.mapSeq f),toks:=t'}:=by
 have q:=PySem.IsL.update e f
 rw[hf] at q
 refine I.write (x:=l) (e:=l) (by rw[hH];exact trivial) (.inl rfl) (fun b' u hb hu=> (Heap.get?_update_other s.heap (Obj.mapSeq f) (Ne.symm hb)).trans hu) ⟨_,q⟩ ?_
 exact⟨hz,gc,_,hv,q⟩
theorem Inv.J6{its:List Value}{t':Nat}(I:Inv X pins σ H s)(hv:Vals ys its)(hz:ys.length≤sizeLine):
  Inv X pins σ (upd H s.heap.objs.size (.lst ys)) {s with heap:=s.heap.push {cls:= .type "list",data:= .seq its.toArray},toks:=t'}:=
 I.laid (fun _ _ q=>Heap.get?_push_of_some _ q) (Nat.le_refl _) ⟨hz,its,0,hv,Heap.get?_push_size _ rfl⟩
theorem Inv.fresh(I:Inv X pins σ H s):H s.heap.objs.size=none:=I.aw.fresh (Nat.le_refl _)
theorem Inv.kx(I:Inv X pins σ H s)(hH:H l=some (.lst xs)):xs.length≤sizeLine∧ ∃(its:List Value) (n:Nat),Vals xs its∧xs.length=its.length∧s.heap.get? l=some {cls:= .type "list",data:= .seq its.toArray n}:=by
 obtain⟨z,its,n,r,e⟩:=I.aw l _ hH
 exact⟨z,its,n,r,r.length,e⟩
theorem J7{n:Nat}(h:n≤sizeLine):Builtin.List.listTooLong n=false:=by
 unfold Builtin.List.listTooLong
 exact decide_eq_false (by omega)
end
section
variable {X:Cx}
def TZ:V→List V→Hp→VK→Prop:=fun x vs H Q=> ∃l xs y,x= .ref l∧vs=[y]∧H l=some (.lst xs)∧xs.length<sizeLine∧Q .aq (upd H l (.lst (xs++ [y])))
theorem T_:sP X "list.append" TZ:=by
 intro pins s σ H x vs v us Q I rx rv h
 obtain⟨l,xs,y,rfl,rfl,hH,hz,q⟩:=h
 cases rx
 obtain⟨u,rfl,ru⟩:=rv.one
 obtain⟨z,its,n,r,hl,e⟩:=I.kx hH
 refine call_meets F.slot_list_append ⟨_,e,rfl⟩ F.entry_list_append (F.args_list_append_2 _ _) (PySem.list_append l its.toArray n u (by rw[List.size_toArray];omega)) ⟨e, ?_⟩
 refine⟨.aq,_,I.sQ (gc:=its++ [u]) hH e (by simp) (r.append (.cons ru .nil)) ?_,rfl,q⟩
 rw[List.length_append,List.length_singleton]
 omega
def Ua:V→List V→Hp→VK→Prop:=fun x vs H Q=> ∃l b xs zs,x= .ref l∧vs=[.ref b]∧H l=some (.lst xs)∧H b=some (.lst zs)∧xs.length+zs.length≤sizeLine∧Q .aq (upd H l (.lst (xs++zs)))
theorem Ub:sP X "list.extend" Ua:=by
 intro pins s σ H x vs v us Q I rx rv h
 obtain⟨l,b,xs,zs,rfl,rfl,hH,hB,hz,q⟩:=h
 cases rx
 obtain⟨u,rfl,ru⟩:=rv.one
 cases ru
 obtain⟨z,its,n,r,hl,e⟩:=I.kx hH
 obtain⟨z2,fM,n2,r2,jc,e2⟩:=I.kx hB
 have hsz:its.toArray.size+fM.toArray.size≤sizeLine:=by rw[List.size_toArray,List.size_toArray];omega
 have zX: ¬(!its.toArray.isEmpty && Builtin.List.listTooLong (its.toArray.size+fM.toArray.size))=true:=by
  rw[J7 hsz,Bool.and_false]
  exact Bool.false_ne_true
 refine call_meets F.slot_list_extend ⟨_,e,rfl⟩ F.entry_list_extend (F.args_list_extend_2 _ _)
  (AutoSeq1.list_extend_list_list_0 l its.toArray n b fM.toArray n2 zX (by rw[List.size_toArray];omega) (by omega)) ⟨e,e2, ?_⟩
 refine⟨.aq,_,I.sQ (gc:=its++fM) hH e (by simp) (r.append r2) ?_,rfl,q⟩
 rw[List.length_append]
 omega
def Uc:V→List V→Hp→VK→Prop:=fun x vs H Q=> ∃l xs y,x= .ref l∧vs=[]∧H l=some (.lst xs)∧xs[xs.length - 1]?=some y∧Q y (upd H l (.lst xs.dropLast))
theorem Ud:sP X "list.pop" Uc:=by
 intro pins s σ H x vs v us Q I rx rv h
 obtain⟨l,xs,y,rfl,rfl,hH,hy,q⟩:=h
 cases rx
 have sR:=rv.zero
 subst sR
 obtain⟨z,its,n,r,hl,e⟩:=I.kx hH
 obtain⟨u,hu,ru⟩:=r.get hy
 have zY:its.toArray[its.toArray.size - 1]?=some u:=by
  show its.toArray[its.length - 1]?=some u
  rw[←Array.getElem?_toList,←hl]
  exact hu
 refine call_meets F.slot_list_pop ⟨_,e,rfl⟩ F.entry_list_pop (F.args_list_pop_1 _) (MeetsSeq.list_pop_last l its.toArray n u zY (by rw[List.size_toArray];omega)) ⟨e, ?_⟩
 refine⟨y,_,I.sQ (gc:=its.dropLast) hH e ?_ r.dropLast ?_,ru,q⟩
 ·show its.toArray.eraseIdxIfInBounds (its.toArray.size - 1)=its.dropLast.toArray
  rw[List.size_toArray,List.eraseIdxIfInBounds_toArray,TY]
 ·rw[List.length_dropLast]
  omega
def Ue:V→List V→Hp→VK→Prop:=fun x vs H Q=> ∃l xs,x= .ref l∧vs=[]∧H l=some (.lst xs)∧Q .aq (upd H l (.lst xs.reverse))
theorem Ug:sP X "list.reverse" Ue:=by
 intro pins s σ H x vs v us Q I rx rv h
 obtain⟨l,xs,rfl,rfl,hH,q⟩:=h
 cases rx
 have sR:=rv.zero
 subst sR
 obtain⟨z,its,n,r,hl,e⟩:=I.kx hH
 refine call_meets F.slot_list_reverse ⟨_,e,rfl⟩ F.entry_list_reverse (F.args_list_reverse_1 _) (AutoSeq1.list_reverse_list_0 l its.toArray n (by rw[List.size_toArray];omega)) ⟨e, ?_⟩
 refine⟨.aq,_,I.sQ (gc:=its.reverse) hH e (by simp) r.reverse ?_,rfl,q⟩
 rw[List.length_reverse]
 omega
def Uh:V→List V→Hp→VK→Prop:=fun x vs H Q=> ∃l xs,x= .ref l∧vs=[]∧H l=some (.lst xs)∧Q .aq (upd H l (.lst []))
theorem Ui:sP X "list.clear" Uh:=by
 intro pins s σ H x vs v us Q I rx rv h
 obtain⟨l,xs,rfl,rfl,hH,q⟩:=h
 cases rx
 have sR:=rv.zero
 subst sR
 obtain⟨z,its,n,r,hl,e⟩:=I.kx hH
 refine call_meets F.slot_list_clear ⟨_,e,rfl⟩ F.entry_list_clear (F.args_list_clear_1 _) (AutoSeq1.list_clear_list_0 l its.toArray n (by rw[List.size_toArray];omega)) ⟨e, ?_⟩
 exact⟨.aq,_,I.sQ (gc:=[]) (ys:=[]) hH e rfl .nil (Nat.zero_le _),rfl,q⟩
def J8:R2:=fun x y H Q=> ∃l b xs zs,x= .ref l∧y= .ref b∧H l=some (.lst xs)∧H b=some (.lst zs)∧xs.length+zs.length≤sizeLine∧ ∀p,H p=none→Q (.ref p) (upd H p (.lst (xs++zs)))
theorem Uj:bw X (binaryOp .Add) J8:=by
 intro pins s σ H x y v u Q I rx ry h
 obtain⟨l,b,xs,zs,rfl,rfl,hH,hB,hz,q⟩:=h
 cases rx
 cases ry
 obtain⟨z,its,n,r,hl,e⟩:=I.kx hH
 obtain⟨z2,fM,n2,r2,jc,e2⟩:=I.kx hB
 refine PySem.P.add_list e e2 ?_ (by rw[List.size_toArray,List.size_toArray];omega)
 have ea:its.toArray++fM.toArray=(its++fM).toArray:=by simp
 rw[ea]
 exact⟨.ref _,_,I.J6 (t':=s.toks) (r.append r2) (by rw[List.length_append];omega),rfl,q _ I.fresh⟩
def J9:R2:=fun x y H Q=> ∃l k xs,x= .ref l∧y= .int k∧H l=some (.lst xs)∧ -(2 ^ 63)≤k∧k<2 ^ 63∧xs.length*k.toNat≤sizeLine∧
 ∀p,H p=none→Q (.ref p) (upd H p (.lst (List.replicate k.toNat xs).flatten))
theorem len_rep{α:Type}(xs:List α)(k:Nat):(List.replicate k xs).flatten.length=k*xs.length:=by
 induction k with
 | zero=>simp
 | succ k ih=>rw[List.replicate_succ,List.flatten_cons,List.length_append,ih,Nat.succ_mul,Nat.add_comm]
theorem Uk:bw X (binaryOp .Mult) J9:=by
 intro pins s σ H x y v u Q I rx ry h
 obtain⟨l,k,xs,rfl,rfl,hH,h1,h2,hz,q⟩:=h
 cases rx
 obtain⟨t,rfl⟩:=ry
 obtain⟨z,its,n,r,hl,e⟩:=I.kx hH
 have hlen:its.toArray.size*k.toNat≤sizeLine:=by rw[List.size_toArray,←hl];exact hz
 have Ul: ¬its.toArray.size*k.toNat> (2 ^ 63 - 1) / 8:=by
  have:(sizeLine:Nat)≤ (2 ^ 63 - 1) / 8:=by decide
  omega
 have Um: ¬(!Builtin.List.listFitsIndex k)=true:=by
  rw[fitsIndex_both h1 h2]
  exact Bool.false_ne_true
 have zX: ¬Builtin.List.listTooLong (its.toArray.size*k.toNat)=true:=by
  rw[J7 hlen]
  exact Bool.false_ne_true
 have Uo:List.foldl (fun x1 x2=>x1++x2) #[] (List.replicate (if its.toArray.isEmpty=true then 0 else k.toNat) its.toArray)=(List.replicate k.toNat its).flatten.toArray:=by
  have f0: ∀m:Nat,List.foldl (fun x1 x2=>x1++x2) #[] (List.replicate m its.toArray)=(List.replicate m its).flatten.toArray:=fun m=>by
   have:=foldl_rep its m []
   rw[List.nil_append] at this
   exact this
  rw[f0]
  cases its with
  | nil=>simp
  | cons a r'=>rw[if_neg (by simp)]
 refine wpAny_binaryOp_repeat_ref (T:="list") (U:="int") (by decide) ⟨_,e,rfl⟩ (fun s'=>typeIs_int s' k t) noFill_list_mul F.fills_int_mul F.slot_int_rmul repeat_list F.slot_int_index.lookup
  (call_meets F.slot_int_rmul (typeIs_int s k t) F.entry_int_rmul (F.args_int_rmul_2 _ _) (int___rmul___int_list k t l its.toArray n)
   ⟨e,rfl,⟨_,e,rfl⟩,call_meets F.slot_list_mul ⟨_,e,rfl⟩ F.entry_list_mul (F.args_list_mul_2 _ _) (AutoListH.list___mul___list_int_3 l its.toArray n k t Um Ul zX) ⟨e, ?_⟩⟩)
 rw[Uo]
 exact⟨.ref _,_,I.J6 (t':=s.toks) (r.rep k.toNat) (by rw[len_rep,Nat.mul_comm];exact hz),rfl,q _ I.fresh⟩
end
section
variable {prog:Program} {w:World} {A:Around} {E:Value→Shared→Prop} {s:Shared}
end
section
variable {X:Cx}
end
end L2
namespace J_
open PySem PySem.W PySem.Calls PyProof.Rows
theorem Up{P:Params}{h:Heap}: ∀(ns:List Int) (vs:List Value),WellAll P h vs (ns.map WData.int)→IntsAre vs ns:=by
 intro ns
 induction ns with
 | nil=>
  intro vs w
  rw[List.map_nil] at w
  cases w
  exact .nil
 | cons n ns ih=>
  intro vs w
  rw[List.map_cons] at w
  cases w with
  | cons a b=>
   cases a
   exact .cons _ _ (ih _ b)
theorem Uq{l:OpenLaw}{n:Nat}(hn:l.most=some n){P:Params}{h:Heap}{args:List WData}{vals:List Value}
  (iI:l.row.toRowW.claim.pre args=true) (zZ:WellAll P h vals args):
  ∃a vs ns,vals=[Value.ref a]∧args=[WData.list (ns.map WData.int)]∧h.get? a=some {cls:= .type "list",data:= .seq vs.toArray}∧IntsAre vs ns∧ns.length≤n:=by
 have Ur:WShape.hasAll [] args [.list .int]=true:=(pre_splitW iI).1
 have hc:l.pre.holds [] {args:=args}=true:=(pre_splitW iI).2
 obtain⟨d,r,rfl,h1,h2⟩:=hasAllW_cons Ur
 obtain rfl:=hasAllW_nil h2
 obtain⟨xs,rfl,h3⟩:=hasW_list h1
 obtain⟨ns,rfl⟩:=items_int h3
 have hlen:ns.length≤n:=by
  unfold OpenLaw.pre at hc
  have h4:(WTm.not (.lt (.lit (.int (n:Int))) (.len (.arg 0)))).holds [] {args:=[.list (ns.map .int)]}=true:=by
   have h4:=(holds_andW hc).1
   rw[hn] at h4
   exact h4
  have h5:=condW_of h4 (w_not (w_lt w_lit (w_len_list (w_arg rfl))))
  rw[List.length_map] at h5
  refine Nat.le_of_not_lt fun q=> ?_
  have q':(n:Int) < ((ns.length:Nat):Int):=by omega
  first
   | (rw[decide_eq_true q'] at h5;exact absurd h5 (by decide))
   | (simp at h5;omega)
 cases zZ with
 | cons w1 w2=>
  cases w2
  cases w1 with
  | list ho mG=>exact⟨_,_,ns,rfl,rfl,ho,Up ns _ mG,hlen⟩
theorem Us(l:OpenLaw)(args:List WData):l.row.toRowW.claim.post args (.bool true) args=true:=
 postW_of (r:=l.row.toRowW) (X:=(true==true))
  (show WShape.has [] (.bool true) .bool=true by first | rfl | decide | simp[WShape.has,WShape.arms,WShape.armsAll])
  (show(WTm.eq .res (.lit (.bool true))).value [] {args:=args,res:=some (.bool true),after:=args}=some (.bool (true==true)) from w_eq_bool (w_res rfl) w_lit) rfl
theorem Ut{l:OpenLaw}{n:Nat}{q:Program}{loose:List Str}{XP:(Str→Option Value)→Heap→Prop}{YP:World→Heap→Prop}{d:DefRec}
  (hn:l.most=some n) (sS:d.params.defaults=[])
  (call: ∀(w:World) (s₀ s₁:Shared) (mg mb:Str→Option Value) (fa:Addr) (o:Obj) (pm cd doc:Value) (a:Addr) (vs:List Value) (ns:List Int),
   Ground q loose [] XP w s₀ mg mb s₁.heap→YP w s₁.heap→
   s₁.heap.get? fa=some o→o.data= .func (docDef d.name d.params d.body d.scope pm cd doc)→s₁.heap.CodeRec cd d.name→mg d.name=some (.ref fa)→
   s₁.heap.get? a=some {cls:= .type "list",data:= .seq vs.toArray}→IntsAre vs ns→ns.length≤n→s₁.gens= #[]→
   codeAny (model l.prog w) callerA (.call (.ref fa) ⟨[.ref a],[]⟩) (fun r s'=>r= .ok (.ret (.bool true))∧OldK s₁.heap s'.heap∧s'.os=s₁.os∧AllBare s'.gens) s₁):
  WalkO q loose XP YP l.row.toRowW d [] (fun f vs=>PySem.call f vs):=by
 intro w s₀ s₁ mg mb G Y fa o pm cd doc dV kV ho hd hG hD ky hg args vals as iI anF hrd zZ wt
 obtain rfl:dV= .none:=Dflts.none hD sS
 obtain rfl:kV= .none:=Dflts.noKw hD
 obtain⟨a,vs,ns,rfl,rfl,z0,hints,hlen⟩:=Uq hn iI zZ
 refine enter_call (codeAny_mono (call w s₀ s₁ mg mb fa o pm cd doc a vs ns G Y ho (fd_plain hd) hG ky z0 hints hlen hg) fun r s' hq=> ?_)
 obtain⟨rfl,h2,h3,h4⟩:=hq
 exact⟨.inl ⟨.bool true, .bool true,[],rfl,fun _=>rfl, .bool true,Us l _,fun _=> ⟨List.Pairwise.nil,fun _ hm=> (nomatch hm)⟩⟩,h2,h3,h4⟩
section
variable {prog:Program} {w:World} {A:Around} {E:Value→Shared→Prop} {s:Shared} {K:Frag}
end
end J_
namespace L2
open PySem PySem.Spec PyProof.Rows
theorem Ka: ∀{vs:List Value} {ns:List Int},IntsAre vs ns→Vals (ns.map V.int) vs
 | _,_, .nil=> .nil
 | _,_, .cons n t h=> .cons ⟨t,rfl⟩ (Ka h)
def z6(H:Hp):Prop:= ∀b,H b=none∨ ∃o xs,H b=some (.bQ o (.lst xs))
theorem Uu{P:Program}{w:World}{K:PySem.W.Frag}{mg mb:Str→Option Value}{CX:aL}{k:Nat}{fa a:Addr}{fd:FuncData}{x:Str}{sp:Sp}{s₁:Shared}{vs:List Value}{ns:List Int}
  (KX:K.In s₁.heap) (qu:s₁.heap.Ns mainGlobals mg) (hb:s₁.heap.Ns builtinsNs mb) (Uv: ∀x:Str,x≠"__name__"→mb x=bootBuiltins x) (Uw:s₁.heap.NoLimit) (hg:s₁.gens= #[])
  (ha:s₁.heap.get? a=some {cls:= .type "list",data:= .seq vs.toArray}) (hi:IntsAre vs ns) (hl:ns.length≤sizeLine) (hr:dr k callerA)
  (F: ∀base:Heap,K.In base→base.Ns mainGlobals mg→cA P w K mg base CX k fa fd [x] sp) (Ux: ∀(s:Shared) (u:Value),BindsTo s fd ⟨[u],[]⟩ [(x,u)])
  (gf: ∀H:Hp,z6 H→aj K H a (ns.map V.int)→sp [.ref a] H (fun v _=>v= .bl true) fun _ _ _=>False)
  (z8: ∀H e s',CX [] H s₁ (fun _ _ _=>False) e s'→False):
  codeAny (model P w) callerA (.call (.ref fa) ⟨[.ref a],[]⟩) (fun r s'=>r= .ok (.ret (.bool true))∧OldK s₁.heap s'.heap∧s'.os=s₁.os∧AllBare s'.gens) s₁:=by
 have rv:=Ka hi
 have wu:=hi.length
 have core: ∀H:Hp,z6 H→aj K H a (ns.map V.int)→b_ P w H s₁.heap→(∀b,H b≠none→b=a)→(H a≠none→K.lookup a=none)→
   codeAny (model P w) callerA (.call (.ref fa) ⟨[.ref a],[]⟩) (fun r s'=>r= .ok (.ret (.bool true))∧OldK s₁.heap s'.heap∧s'.os=s₁.os∧AllBare s'.gens) s₁:=by
  intro H hO hS aw hA hK
  have nS: ∀{b:Addr} {o:Obj},s₁.heap.get? b=some o→H b=none→(ke s₁.heap H).get? b=some o:=fun e n=>Ro e n
  have sI: ∀{b:Addr} {o:Obj} {es:Array DictEntry} {ep:Nat},s₁.heap.get? b=some o→o.data= .dict es ep→H b=none:=fun {b o es ep} e d=>by
   cases q:H b with
   | none=>rfl
   | some u=>
    have e':b=a:=hA b (by rw[q];simp)
    subst e'
    rw[ha] at e;cases e
    have d':Data.seq vs.toArray _=Data.dict es ep:=d
    cases d'
  have wx: ∀{b:Addr} {m:Str→Option Value},s₁.heap.Ns b m→(ke s₁.heap H).Ns b m:=fun {b m} ⟨o,es,ep,e,d,r⟩=> ⟨o,es,ep,nS e (sI e d),d,r⟩
  have Kb:K.In (ke s₁.heap H):=fun b o e=>nS (KX b o e) (by
   cases q:H b with
   | none=>rfl
   | some u=>
    have e':b=a:=hA b (by rw[q];simp)
    subst e'
    rw[hK (by rw[q];simp)] at e;cases e)
  have hM:Mod K mg (ke s₁.heap H):=⟨Kb,wx qu,⟨mb,wx hb,Uv⟩,let ⟨mc,h1,h2⟩:=Uw;⟨mc,wx h1,h2⟩⟩
  have e0:kl P w K mg (ke s₁.heap H) callerA [] s₁ H:=⟨rfl,hM,fun b o e=>Rp e,Nat.le_of_eq (Rn _ _),trivial,fun b hb=>absurd (show b∈ ([]:List Addr) from hb) (by simp),aw, .of_eq hg⟩
  refine codeAny_mono ((F _ Kb (wx qu)).run callerA [] s₁ H ⟨[.ref a],[]⟩ [.ref a] [.ref a] _ _ hr e0 (Ux s₁ (.ref a)) (.cons rfl .nil) (gf H hO hS)) fun r s' h=> ?_
  cases r with
  | error e=>exact(z8 H e s' h).elim
  | ok fl=>
   cases fl with
   | next=>exact False.elim h
   | brk=>exact False.elim h
   | cont=>exact False.elim h
   | ret u=>
    obtain⟨v,H',os,bare,un,Uy,r',q⟩:=h
    have q':v= .bl true:=q
    subst q'
    obtain rfl:u=Value.bool true:=r'
    refine⟨rfl,OldK.of_keep fun b o e=> ?_,os,bare⟩
    cases q:H b with
    | none=>exact un.keep b o e q (by intro z;exact absurd (show b∈ ([]:List Addr) from z) (by simp)) (by simp)
    | some u=>
     rcases hO b with z | ⟨ob,xs,z⟩
     ·rw[q] at z;cases z
     ·have z2:=un.eQ b ob _ z
      obtain⟨e1,_⟩:=aw b _ z
      obtain⟨e2,_⟩:=Uy b _ z2
      rw[e] at e1;cases e1
      exact e2
 cases hk:K.lookup a with
 | some o=>
  have e:=KX a o hk
  rw[ha] at e
  cases e
  refine core (fun _=>none) (fun _=> .inl rfl) (.inr ⟨_,vs.toArray,_,hk,rfl,rfl,rfl,by rw[List.size_toArray,wu];exact hl,by simpa using rv⟩) (fun b u z=>by have z':(none:Option HO)=some u:=z;cases z') (fun b z=>absurd rfl z) fun z=>absurd rfl z
 | none=>
  refine core (fun b=>if b=a then some (.bQ {cls:= .type "list",data:= .seq vs.toArray} (.lst (ns.map V.int))) else none) (fun b=> ?_) (.inl (.inr ⟨{cls:= .type "list",data:= .seq vs.toArray},if_pos rfl⟩)) (fun b u z=> ?_) (fun b z=> ?_) fun _=>hk
  ·by_cases hb:b=a
   ·exact .inr ⟨_,_,if_pos hb⟩
   ·exact .inl (if_neg hb)
  ·by_cases hb:b=a
   ·have z':=(if_pos hb).symm.trans z
    cases z'
    subst hb
    exact⟨ha,by rw[List.length_map];exact hl,vs,_,rv,ha⟩
   ·have z':=(if_neg hb).symm.trans z
    cases z'
  ·by_cases hb:b=a
   ·exact hb
   ·exact absurd (if_neg hb) z
theorem Uz{l:PySem.W.OpenLaw}{n k:Nat}{q:Program}{loose:List Str}{XP:(Str→Option Value)→Heap→Prop}{YP:World→Heap→Prop}{d:DefRec}{K:Params→PySem.W.Frag}{CX:World→aL}{sp:World→Sp}{x:Str}
  (hn:l.most=some n) (eR:n≤sizeLine) (sS:d.params.defaults=[]) (hr:dr k callerA)
  (hY: ∀(w:World) (h:Heap),YP w h→(K w.params).In h)
  (F: ∀(w:World) (mg:Str→Option Value) (fa:Addr) (h:Heap),(K w.params).In h→h.Ns mainGlobals mg→mg d.name=some (.ref fa)→
   ∃fd:FuncData,(∀(s:Shared) (u:Value),BindsTo s fd ⟨[u],[]⟩ [(x,u)])∧
    ∀base:Heap,(K w.params).In base→base.Ns mainGlobals mg→cA l.prog w (K w.params) mg base (CX w) k fa fd [x] (sp w))
  (gf: ∀(w:World) (H:Hp) (a:Addr) (ns:List Int),ns.length≤n→z6 H→aj (K w.params) H a (ns.map V.int)→sp w [.ref a] H (fun v _=>v= .bl true) fun _ _ _=>False)
  (z8: ∀(w:World) (H:Hp) (s:Shared) (e:Value) (s':Shared),CX w [] H s (fun _ _ _=>False) e s'→False):
  PySem.W.WalkO q loose XP YP l.row.toRowW d [] (fun f vs=>PySem.call f vs):=by
 refine J_.Ut hn sS fun w s₀ s₁ mg mb fa o pm cd doc a vs ns G Y ho hd hG ky z0 hints hlen hg=> ?_
 have KX:=hY w _ Y
 obtain⟨fd,hb,hF⟩:=F w mg fa _ KX G.T.g ky
 exact Uu KX G.T.g G.T.b G.T.builtins G.T.nolimit hg z0 hints (Nat.le_trans hlen eR) hr hF hb (fun H hO hS=>gf w H a ns hlen hO hS) fun H e s'=>z8 w H s₁ e s'
end L2
namespace L2
open PySem PySem.Spec PyProof.Rows
def inClass(s:Stmt)(j:Nat):Stmt:=match s with
 | .ClassDef _ _ _ body _ _ _ _ _ _ _=>body.getD j (.Pass ⟨0,0,0,0⟩)
 | _=> .Pass ⟨0,0,0,0⟩
def bT(s:Stmt):Arguments:=match s with
 | .FunctionDef _ a _ _ _ _ _ _ _ _=>a
 | _=> {posonlyargs:=[],args:=[],vararg:=none,kwonlyargs:=[],kw_defaults:=[],kwarg:=none,defaults:=[]}
def aB(s:Stmt):List Stmt:=match s with
 | .FunctionDef _ _ b _ _ _ _ _ _ _=>b
 | _=> []
def az(s:Stmt):Scope:=match s with
 | .FunctionDef _ _ _ _ _ _ sc _ _ _=>sc
 | _=> {kind:= .function,names:=[],isGenerator:=false,isCoroutine:=false}
abbrev wy:aL:=fun _ _ _ _ _ _=>False
abbrev E0:XK:=fun _ _ _=>False
structure sT (K:PySem.W.Frag) (x qual:Str) (st:Stmt) (f:Addr) (fd:FuncData):Prop where
 ex: ∃(oc:Value) (od:Option Addr) (kV doc pm:Value) (an:Option Addr) (cY ct:Value) (ja:Array (Option Value)),
  fd=fnOf x qual (bT st) (aB st) (az st) .none kV doc pm an cY ct∧K.lookup f=some ⟨oc,od, .func fd,ja⟩∧codeIn K cY qual=true
 kp:keepIn K (.ref f)=true
section
variable {P:Program} {w:World} {K:PySem.W.Frag} {mg:Str→Option Value} {base:Heap}
theorem sT.binds{x qual:Str}{st:Stmt}{f:Addr}{fd:FuncData}{ps:List Str}(F:sT K x qual st f fd)
  (h: ∀(kV doc pm:Value) (an:Option Addr) (cY ct:Value) (us:List Value),us.length=ps.length→bindArgs (fnOf x qual (bT st) (aB st) (az st) .none kV doc pm an cY ct) ⟨us,[]⟩=pure (ps.zip us)):Binds K fd ps []:=by
 obtain⟨oc,od,kV,doc,pm,an,cY,ct,ja,rfl,lk,hG⟩:=F.ex
 exact .all (h kV doc pm an cY ct)
theorem cn{x qual:Str}{st:Stmt}{f:Addr}{oc:Value}{od an:Option Addr}{ja:Array (Option Value)}{kV doc pm cY ct:Value}(l:K.lookup f=some ⟨oc,od, .func (fnOf x qual (bT st) (aB st) (az st) .none kV doc pm an cY ct),ja⟩)
  (c:codeIn K cY qual=true) (k:keepIn K (.ref f)=true):sT K x qual st f (fnOf x qual (bT st) (aB st) (az st) .none kV doc pm an cY ct):=⟨⟨oc,od,kV,doc,pm,an,cY,ct,ja,rfl,l,c⟩,k⟩
end
section
variable {X:Cx}
end
theorem fN{A B:Prop}(h:B):if false=true then A else B:=by
 rw[if_neg Bool.false_ne_true]
 exact h
theorem dZ{A B:Prop}(h:A):if true=true then A else B:=by
 rw[if_pos rfl]
 exact h
theorem hV{c A B:Prop}[Decidable c](h1:c→A)(h2: ¬c→B):if c then A else B:=by
 by_cases h:c
 ·rw[if_pos h]
  exact h1 h
 ·rw[if_neg h]
  exact h2 h
def ax(H H':Hp):Prop:= ∀b o,H b=some o→H' b=some o
theorem ax.refl(H:Hp):ax H H:=fun _ _ h=>h
theorem ax.trans{H H1 H2:Hp}(a:ax H H1)(b:ax H1 H2):ax H H2:=fun c o h=>b c o (a c o h)
theorem ax.free{H H':Hp}(e:ax H H'){l:Addr}(h:H' l=Option.none):H l=Option.none:=by
 cases q:H l with
 | none=>rfl
 | some o=>
  rw[e l o q] at h
  cases h
theorem ax.seq{K:PySem.W.Frag}{H H':Hp}{a:Addr}{xs:List V}(e:ax H H')(h:aj K H a xs):aj K H' a xs:=by
 rcases h with(h | ⟨o,h⟩) | h
 ·exact .inl (.inl (e _ _ h))
 ·exact .inl (.inr ⟨o,e _ _ h⟩)
 ·exact .inr h
section
variable {κ:Type} [DecidableEq κ]
def eU(ao:List (κ×V))(k:κ):Option V:=(ao.find? fun kv=>decide (kv.1=k)).map (·.2)
def putK(ao:List (κ×V))(k:κ)(v:V):List (κ×V):=
 if (ao.any fun kv=>decide (kv.1=k))=true then ao.map (fun kv=>if kv.1=k then (kv.1,v) else kv) else ao++ [(k,v)]
theorem z9{p:κ×V}{r:List (κ×V)}{k:κ}(e:p.1=k):eU (p::r) k=some p.2:=by simp[eU,List.find?_cons,e]
theorem z_{p:κ×V}{r:List (κ×V)}{k:κ}(e: ¬p.1=k):eU (p::r) k=eU r k:=by simp[eU,List.find?_cons,e]
theorem Aa(k:κ): ∀ao:List (κ×V),(ao.any fun kv=>decide (kv.1=k))=(eU ao k).isSome
 | []=>rfl
 | p::r=>by
  rw[List.any_cons]
  by_cases e:p.1=k
  ·simp only[z9 e,decide_eq_true e,Bool.true_or,Option.isSome_some]
  ·rw[z_ e,decide_eq_false e,Bool.false_or];exact Aa k r
theorem Kc(ao:List (κ×V))(k:κ)(v:V):(putK ao k v).length≤ao.length+1:=by
 unfold putK
 split
 ·rw[List.length_map];omega
 ·rw[List.length_append,List.length_cons,List.length_nil];omega
theorem UA{ao:List (κ×V)}{k:κ}(v:V)(h:eU ao k=none):putK ao k v=ao++ [(k,v)]:=by
 unfold putK
 rw[Aa,h]
 exact if_neg (by decide)
theorem fH.Ab{o:Option V}{u:Option Value}(r:fH o u):o.isSome=u.isSome:=by
 cases o with
 | none=>cases u with
  | none=>rfl
  | some _=>exact(show False from r).elim
 | some _=>cases u with
  | none=>exact(show False from r).elim
  | some _=>rfl
theorem KV.val{ao:List (κ×V)}{vs:List (κ×Value)}(r:KV ao vs)(k:κ):fH (eU ao k) (valueAt vs k):=by
 unfold KV at r
 induction r with
 | nil=>exact True.intro
 | @cons p q ps qs h t ih=>
  obtain⟨h1,h2⟩:=h
  by_cases e:p.1=k
  ·have e':q.1=k:=h1.symm.trans e
   have b:valueAt (q::qs) k=some q.2:=by simp[valueAt,List.find?_cons,e']
   rw[z9 e,b];exact h2
  ·have e': ¬q.1=k:=fun z=>e (h1.trans z)
   have b:valueAt (q::qs) k=valueAt qs k:=by simp[valueAt,List.find?_cons,e']
   rw[z_ e,b];exact ih
theorem KV.any{ao:List (κ×V)}{vs:List (κ×Value)}(r:KV ao vs)(k:κ):(ao.any fun kv=>decide (kv.1=k))=vs.any fun kv=>decide (kv.1=k):=by
 unfold KV at r
 induction r with
 | nil=>rfl
 | cons h t ih=>rw[List.any_cons,List.any_cons,ih,h.1]
theorem KV.Ac{ao:List (κ×V)}{vs:List (κ×Value)}(r:KV ao vs)(k:κ){y:V}{u:Value}(ry:RelV y u):
  KV (ao.map fun kv=>if kv.1=k then (kv.1,y) else kv) (vs.map fun kv=>if kv.1=k then (kv.1,u) else kv):=by
 unfold KV at r⊢
 induction r with
 | nil=>exact .nil
 | @cons p q ps qs h t ih=>
  rw[List.map_cons,List.map_cons]
  refine .cons ?_ ih
  obtain⟨h1,h2⟩:=h
  by_cases e:p.1=k
  ·rw[if_pos e,if_pos (h1.symm.trans e)];exact⟨h1,ry⟩
  ·rw[if_neg e,if_neg (fun z=>e (h1.trans z))];exact⟨h1,h2⟩
theorem KV.put{ao:List (κ×V)}{vs:List (κ×Value)}(r:KV ao vs)(k:κ){y:V}{u:Value}(ry:RelV y u):KV (putK ao k y) (stored vs k u):=by
 unfold putK stored
 rw[r.any k]
 by_cases e:(vs.any fun kv=>decide (kv.1=k))=true
 ·rw[if_pos e,if_pos e];exact r.Ac k ry
 ·rw[if_neg e,if_neg e];exact Paired.snoc r ⟨rfl,ry⟩
theorem KV.length{ao:List (κ×V)}{vs:List (κ×Value)}(r:KV ao vs):ao.length=vs.length:=Paired.length r
end
theorem wz{P:Program}{w:World}{k:Key}{u:Value}(r:RelV (kV k) u):(eh P w).is k u=true:=by
 cases k with
 | inl i=>obtain⟨t,e⟩:=(show ∃t,u=Value.int i t from r);subst e;exact IH P w i t
 | inr x=>obtain⟨t,e⟩:=(show ∃t,u=Value.str x t from r);subst e;exact II P w x t
theorem Kd{P:Program}{w:World}: ∀{ks:List Key} {us:List Value},Vals (ks.map kV) us→ItemsAre (eh P w) ks us
 | [],_,r=>by rw[List.map_nil] at r;cases r;exact .nil
 | k::ks,_,r=>by
  rw[List.map_cons] at r
  cases r with
  | cons h t=>exact .cons (wz h) (Kd t)
abbrev KT(H:Hp):List (List Key×V)→List (List Key×Addr×Value)→Prop:=Paired fun p q=>p.1=q.1∧H q.2.1=some (.tup (p.1.map kV))∧RelV p.2 q.2.2
theorem KT.val{H:Hp}{ao:List (List Key×V)}{xs:List (List Key×Addr×Value)}(r:KT H ao xs)(k:List Key):fH (eU ao k) ((atKey xs k).map (·.2)):=by
 induction r with
 | nil=>exact True.intro
 | @cons p q ps qs h t ih=>
  obtain⟨h1,_,h2⟩:=h
  by_cases e:p.1=k
  ·have e':q.1=k:=h1.symm.trans e
   have b:atKey (q::qs) k=some q.2:=by simp[atKey,List.find?_cons,e']
   rw[z9 e,b];exact h2
  ·have e': ¬q.1=k:=fun z=>e (h1.trans z)
   have b:atKey (q::qs) k=atKey qs k:=by simp[atKey,List.find?_cons,e']
   rw[z_ e,b];exact ih
theorem KT.Ac{H:Hp}{ao:List (List Key×V)}{xs:List (List Key×Addr×Value)}(r:KT H ao xs)(k:List Key){y:V}{u:Value}(ry:RelV y u):
  KT H (ao.map fun kv=>if kv.1=k then (kv.1,y) else kv) (xs.map (putAt k u)):=by
 induction r with
 | nil=>exact .nil
 | @cons p q ps qs h t ih=>
  rw[List.map_cons,List.map_cons]
  refine .cons ?_ ih
  obtain⟨h1,h2,h3⟩:=h
  unfold putAt
  by_cases e:p.1=k
  ·rw[if_pos e,if_pos (h1.symm.trans e)];exact⟨h1,h2,ry⟩
  ·rw[if_neg e,if_neg (fun z=>e (h1.trans z))];exact⟨h1,h2,h3⟩
theorem KT.put{H:Hp}{ao:List (List Key×V)}{xs:List (List Key×Addr×Value)}(r:KT H ao xs)(k:List Key){b:Addr}{y:V}{u:Value}(hb:H b=some (.tup (k.map kV)))(ry:RelV y u):
  KT H (putK ao k y) (storedH xs k b u):=by
 have e:(ao.any fun kv=>decide (kv.1=k))=(atKey xs k).isSome:=by
  rw[Aa,(r.val k).Ab,Option.isSome_map]
 unfold putK storedH
 rw[e]
 by_cases q:(atKey xs k).isSome=true
 ·rw[if_pos q,if_pos q];exact r.Ac k ry
 ·rw[if_neg q,if_neg q];exact Paired.snoc r ⟨rfl,hb,ry⟩
theorem KT.keeps{H H':Hp}{ao:List (List Key×V)}{xs:List (List Key×Addr×Value)}(r:KT H ao xs)(ht: ∀b ys,H b=some (.tup ys)→H' b=some (.tup ys)):KT H' ao xs:=
 Paired.zk r fun _ _ z=> ⟨z.1,ht _ _ z.2.1,z.2.2⟩
section
variable {P:Program} {w:World} {H:Hp} {h:Heap} {a:Addr}
theorem Ke{u:HO}(ok:b_ P w H h)(e:Rd H a u):cG P w H h a u:=e.ok ok
theorem wA{ao:List (Key×V)}(ok:b_ P w H h)(e:Rd H a (.dK ao)):ao.length≤sizeLine∧(a==sysModules)=false∧ ∃vs,KV ao vs∧h.DictOf (eh P w) a vs:=
 show cG P w H h a (.dK ao) from Ke ok e
theorem UB{ao:List (Key×V)}(ok:b_ P w H h)(e:H a=some (.dK ao)):ao.length≤sizeLine∧(a==sysModules)=false∧ ∃vs,KV ao vs∧h.DictOf (eh P w) a vs:=wA ok (.inl e)
theorem wB{ks:List Key}(ok:b_ P w H h)(e:H a=some (.tup (ks.map kV))):(tupleKind (eh P w)).is h ks a:=by
 obtain⟨_,its,r,o,h1,h2,n,h3⟩:=(show cG P w H h a (.tup (ks.map kV)) from ok a _ e)
 exact⟨o,its.toArray,n,h1,h2,h3,by simpa using Kd r⟩
theorem wC{ao:List (List Key×V)}(ok:b_ P w H h)(e:Rd H a (.dT ao)):ao.length≤sizeLine∧(a==sysModules)=false∧
  ∃xs,KT H ao xs∧h.DictOfH (tupleKind (eh P w)) a xs:=by
 obtain⟨z,y,xs,r,o,es,ep,h1,h2,h3,h4,h5⟩:=(show cG P w H h a (.dT ao) from Ke ok e)
 refine⟨z,y,xs,r,o,es,ep,h1,h2,h3,h4,fun x hx=> ?_,h5⟩
 have all: ∀{l:List (List Key×V)} {m:List (List Key×Addr×Value)},KT H l m→ ∀x∈m,(tupleKind (eh P w)).is h x.1 x.2.1:=by
  intro l m q
  induction q with
  | nil=>intro x hx;exact nomatch hx
  | @cons p q ps qs hq t ih=>
   intro x hx
   rcases List.mem_cons.mp hx with e | hx
   ·subst e
    exact wB ok (by rw[←hq.1];exact hq.2.1)
   ·exact ih x hx
 exact all r x hx
theorem UC{ao:List (List Key×V)}(ok:b_ P w H h)(e:H a=some (.dT ao)):ao.length≤sizeLine∧(a==sysModules)=false∧
  ∃xs,KT H ao xs∧h.DictOfH (tupleKind (eh P w)) a xs:=wC ok (.inl e)
end
def fO(H:Hp)(a:Addr)(y:V)(r:Option V):Prop:=
 (∃ao k,Rd H a (.dK ao)∧y=kV k∧r=eU ao k)∨ ∃ao k b,Rd H a (.dT ao)∧y= .ref b∧H b=some (.tup (k.map kV))∧r=eU ao k
def sU(H:Hp)(a:Addr)(y v:V)(H':Hp):Prop:=
 (∃ao k,H a=some (.dK ao)∧y=kV k∧ao.length<sizeLine∧H'=upd H a (.dK (putK ao k v)))∨
 ∃ao k b,H a=some (.dT ao)∧y= .ref b∧H b=some (.tup (k.map kV))∧ao.length<sizeLine∧H'=upd H a (.dT (putK ao k v))
theorem fO.t{H:Hp}{a b:Addr}{ao:List (List Key×V)}{k:List Key}(e:H a=some (.dT ao))(eb:H b=some (.tup (k.map kV))):fO H a (.ref b) (eU ao k):= .inr ⟨ao,k,b, .inl e,rfl,eb,rfl⟩
theorem sU.t{H:Hp}{a b:Addr}{ao:List (List Key×V)}{k:List Key}{v:V}(e:H a=some (.dT ao))(eb:H b=some (.tup (k.map kV)))(hl:ao.length<sizeLine):
  sU H a (.ref b) v (upd H a (.dT (putK ao k v))):= .inr ⟨ao,k,b,e,rfl,eb,hl,rfl⟩
section
variable {X:Cx} {pins:List (Addr×Obj)} {σ:St} {H:Hp} {s:Shared} {a:Addr} {y v:V} {u r:Value} {o:Option V} {A:Around} {E:Value→Shared→Prop}
theorem Inv.big(I:Inv X pins σ H s):sysModules<s.heap.objs.size:=by
 have h:mainGlobals<s.heap.objs.size:=(I.mod.glob.keeps I.bk).lt
 exact Nat.lt_trans (by decide) h
theorem UD{Q:Value→Shared→Prop}(hu:A.units+1<cLine)(I:Inv X pins σ H s)(g:fO H a y (some v))(ry:RelV y u)(h: ∀w' s',Inv X pins σ H s'→RelV v w'→Q w' s'):
  wpAny (model X.prog X.w) A (getItem (.ref a) u) Q E s:=by
 rcases g with⟨ao,k,e,ey,l⟩ | ⟨ao,k,b,e,ey,eb,l⟩
 ·subst ey
  obtain⟨z,hd,vs,rel,dd⟩:=wA I.aw e
  obtain⟨w',hw,hU⟩:=fH.some_of (v:=v) (o:=valueAt vs k) (by rw[l];exact rel.val k)
  exact wpAny_getItem_of (wz ry) dd.mapOf hw (h w' _ (I.tok _) hU)
 ·subst ey
  cases (show u=Value.ref b from ry)
  obtain⟨z,hd,xs,rel,dd⟩:=wC I.aw e
  obtain⟨w',hw,hU⟩:=fH.some_of (v:=v) (o:=(atKey xs k).map (·.2)) (by rw[l];exact rel.val k)
  obtain⟨p,hp,UE⟩:=Option.map_eq_some_iff.mp hw
  refine wpAny_getItem_heap (tupleKind_room_in1 hu) (wB I.aw eb) dd hp ?_
  rw[UE]
  exact h w' _ (I.tok _) hU
theorem UG{Q:Value→Shared→Prop}(hu:A.units+1<cLine)(I:Inv X pins σ H s)(g:fO H a y o)(ry:RelV y u)(h: ∀s',Inv X pins σ H s'→Q (.bool o.isSome) s'):
  wpAny (model X.prog X.w) A (compareOp .In u (.ref a)) Q E s:=by
 rcases g with⟨ao,k,e,ey,l⟩ | ⟨ao,k,b,e,ey,eb,l⟩
 ·subst ey
  obtain⟨z,hd,vs,rel,dd⟩:=wA I.aw e
  refine wpAny_in_of (wz ry) hd dd.mapOf ?_
  rw[←(rel.val k).Ab,←l]
  exact h _ (I.tok _)
 ·subst ey
  cases (show u=Value.ref b from ry)
  obtain⟨z,hd,xs,rel,dd⟩:=wC I.aw e
  refine wpAny_in_heap (tupleKind_room_in1 hu) (wB I.aw eb) hd dd ?_
  have q:=(rel.val k).Ab
  rw[Option.isSome_map] at q
  rw[←q,←l]
  exact h _ (I.tok _)
theorem Kf{h':Heap}{t':Nat}{ob:HO}(I:Inv X pins σ H s)(mu:sv (H a))(hs:Heap.SameBut a s.heap h')(he: ∃q,h'.get? a=some q)(new:cG X.prog X.w (upd H a ob) h' a ob):
  Inv X pins σ (upd H a ob) {s with heap:=h',toks:=t'}:=
 I.write (x:=a) (e:=a) mu (.inl rfl) (fun b q hb z=> (hs.2 b hb).trans z) he new
theorem UH{P:Program}{w:World}{H':Hp}{h':Heap}{ao:List (Key×V)}{vs:List (Key×Value)}(z:ao.length≤sizeLine)(hd:(a==sysModules)=false)(rel:KV ao vs)(dd:h'.DictOf (eh P w) a vs):
  cG P w H' h' a (.dK ao):=⟨z,hd,vs,rel,dd⟩
theorem UI{H':Hp}{Q:Unit→Shared→Prop}(hu:A.units+1<cLine)(I:Inv X pins σ H s)(g:sU H a y v H')(ry:RelV y u)(rv:RelV v r)(h: ∀s',Inv X pins σ H' s'→Q () s'):
  wpAny (model X.prog X.w) A (setItem (.ref a) u r) Q E s:=by
 rcases g with⟨ao,k,e,ey,l,eH⟩ | ⟨ao,k,b,e,ey,eb,l,eH⟩
 ·subst ey eH
  obtain⟨z,hd,vs,rel,dd⟩:=UB I.aw e
  have hz:vs.length≤sizeLine:=by rw[←rel.length];exact z
  have hl:(putK ao k v).length≤sizeLine:=by have:=Kc ao k v;omega
  refine wpAny_setItem_pairs (hsz:=hz) (wz ry) dd fun h' wD hs=>h _ ?_
  have he: ∃q,h'.get? a=some q:=let ⟨q,_,_,hq,_⟩:=wD;⟨q,hq⟩
  exact Kf I (by rw[e];exact True.intro) hs he (UH hl hd (rel.put k rv) wD)
 ·subst ey eH
  cases (show u=Value.ref b from ry)
  obtain⟨z,hd,xs,rel,dd⟩:=UC I.aw e
  have hz:xs.length≤sizeLine:=by rw[←Paired.length rel];exact z
  have hl:(putK ao k v).length≤sizeLine:=by have:=Kc ao k v;omega
  refine wpAny_setItem_heap (hsz:=hz) (tupleKind_room_in1 hu) (wB I.aw eb) dd fun h' wD hs=>h _ ?_
  obtain⟨q,es,ep,hq,h2,h3,h4,_,h5⟩:=wD
  refine Kf I (by rw[e];exact True.intro) hs ⟨q,hq⟩ ⟨hl,hd,_,(rel.put k eb rv).keeps fun c ys ec=> ?_,q,es,ep,hq,h2,h3,h4,h5⟩
  rw[aI (gM ec e (fun z=>nomatch z))]
  exact ec
end
section
variable {X:Cx} {pins:List (Addr×Obj)} {σ:St} {H:Hp} {s:Shared} {a:Addr} {ao:List (Key×V)} {k:Key} {u:Value} {A:Around} {E:Value→Shared→Prop}
end
def Ad(i:Expr):Prop:= ∀ov iv,subscripted i false ov iv=operate [ov,iv] (getItem ov iv)
theorem UJ{prog:Program}{w:World}{A:Around}{E:Value→Shared→Prop}{s:Shared}{env:Env}{value slice:Expr}{pos:Pos}{T id:String}{Q:Value→Shared→Prop}
  (hl:typeLookup (.type T) "__getitem__"=pure (some (.builtin id))) (hs:Ad slice)
  (h:wpAny (model prog w) A (eval value env) (fun o s₁=>wpAny (model prog w) A (eval slice env) (fun i s₂=>s₂.TypeIs o T∧wpAny (model prog w) A (getItem o i) Q E s₂) E s₁) E s):
  wpAny (model prog w) A (eval (.Subscript value slice pos) env) Q E s:=by
 refine Subscript_ (wpAny_mono h (fun o s₁ h₁=>wpAny_mono h₁ (fun i s₂ h₂=> ?_) fun _ _ x=>x) fun _ _ x=>x)
 obtain⟨hT,h₂⟩:=h₂
 unfold subscriptTail
 refine wpAny_bind ?_
 rw[getitemInPython_of_ne hT.not_modules]
 refine wpAny_bind (wpAny_specialOf hT hl ?_)
 have fin:wpAny (model prog w) A (subscripted slice false o i) (fun r s₃=>wpAny (model prog w) A (letTemporaryGo value o r>>=fun _=>pure r) Q E s₃) E s₂:=by
  rw[hs o i]
  exact wpAny_operating (wpAny_mono h₂ (fun r s₃ h₃=>wpAny_bind (wpAny_letTemporaryGo (wpAny_pure h₃))) fun _ _ x=>x)
 first
  | exact wpAny_pure (wpAny_bind fin)
  | exact wpAny_bind (wpAny_pure (wpAny_bind fin))
  | exact wpAny_bind fin
theorem UK{X:Cx}{pins:List (Addr×Obj)}{σ:St}{H:Hp}{s:Shared}{a:Addr}{y:V}{o:Option V}(I:Inv X pins σ H s)(g:fO H a y o):s.TypeIs (.ref a) "dict":=by
 rcases g with⟨ao,k,e,_,_⟩ | ⟨ao,k,b,e,_,_,_⟩
 ·obtain⟨_,_,vs,_,dd⟩:=wA I.aw e
  exact dd.typeIs
 ·obtain⟨_,_,xs,_,dd⟩:=wC I.aw e
  exact dd.typeIs
def Kg(td ty:TE):TE:=fun σ H Q=>td σ H fun x H1=>ty σ H1 fun y H2=> ∃a v,x= .ref a∧fO H2 a y (some v)∧Q v H2
def Ae(ty td:TE):TE:=fun σ H Q=>ty σ H fun y H1=>td σ H1 fun x H2=> ∃a o,x= .ref a∧fO H2 a y o∧Q (.bl o.isSome) H2
def Kh(ty td:TE):TE:=fun σ H Q=>ty σ H fun y H1=>td σ H1 fun x H2=> ∃a o,x= .ref a∧fO H2 a y o∧Q (.bl (!o.isSome)) H2
def Ki(td ty tv:TE):TS:=fun D σ H=>tv σ H fun v H1=>td σ H1 fun x H2=>ty σ H2 fun y H3=> ∃a H4,x= .ref a∧sU H3 a y v H4∧D.nx σ H4
section
variable {X:Cx} {o i e value:Expr} {pos pos' zF:Pos} {td ty tv:TE}
theorem UL(hu:X.A.units+1<cLine)(ho:PE X o td)(hi:PE X i ty)(hs:Ad i):PE X (.Subscript o i pos) (Kg td ty):=by
 intro pins s σ H Q I h
 refine UJ PySem.F.slot_dict_getitem.lookup hs (aN (ho pins s σ H _ I h) fun u s1 ⟨x,H1,I1,rx,q1⟩=>aN (hi pins s1 σ H1 _ I1 q1) fun iv s2 ⟨y,H2,I2,ry,a,v,ex,g,q2⟩=> ?_)
 subst ex
 obtain rfl:u=Value.ref a:=rx
 exact⟨UK I2 g,UD hu I2 g ry fun w' s3 I3 hU=> ⟨v,H2,I3,hU,q2⟩⟩
theorem UM(hu:X.A.units+1<cLine)(hi:PE X i ty)(ho:PE X o td):PC X .In i o (Ae ty td):=by
 intro pins s σ H Q I h
 refine aN (hi pins s σ H _ I h) fun iv s1 ⟨y,H1,I1,ry,q1⟩=>aN (ho pins s1 σ H1 _ I1 q1) fun u s2 ⟨x,H2,I2,rx,a,ov,ex,g,q2⟩=> ?_
 subst ex
 obtain rfl:u=Value.ref a:=rx
 exact UG hu I2 g ry fun s3 I3=> ⟨.bl ov.isSome,H2,I3,rfl,q2⟩
theorem UN(hu:X.A.units+1<cLine)(ho:PE X o td)(hi:PE X i ty)(hv:PE X value tv)(hs:swapsWith value (some (.Subscript o i pos')) pos.line X.env=pure false):
  PS X (.Assign [.Subscript o i pos'] value pos) (Ki td ty tv):=by
 intro pins s σ H D I h
 refine wpAny_Assign_Subscript (aN (hv pins s σ H _ I h) fun r s1 ⟨v,H1,I1,rv,q1⟩=>aN (ho pins s1 σ H1 _ I1 q1) fun u s2 ⟨x,H2,I2,rx,q2⟩=>aN (hi pins s2 σ H2 _ I2 q2) fun iv s3 ⟨y,H3,I3,ry,a,H4,ex,g,q3⟩=> ?_) hs
 subst ex
 obtain rfl:u=Value.ref a:=rx
 exact UI hu I3 g ry rv fun s4 I4=> ⟨σ,H4,I4,q3⟩
end
theorem UO{P:Program}{w:World}{H:Hp}(h:Heap)(hb:sysModules<h.objs.size):cG P w H (h.push {cls:= .type "dict",data:= .dict #[]}) h.objs.size (.dT []):=
 ⟨Nat.zero_le _,beq_eq_false_iff_ne.mpr (Ne.symm (Nat.ne_of_lt hb)),[], .nil,_,#[],0,Heap.get?_push_size _ rfl,⟨rfl,rfl,rfl⟩,rfl,rfl,List.nodup_nil⟩
def Kj:TE:=fun _ H Q=> ∀p,H p=none→Q (.ref p) (upd H p (.dT []))
section
variable {X:Cx} {pos:Pos}
theorem UP:PE X (.Dict [] [] pos) Kj:=fun pins s σ H Q I h=>
 wpAny_Dict_empty ⟨.ref s.heap.objs.size,_,I.laid (a:=s.heap.objs.size) (o:= .dT []) (t':=s.toks) (fun _ _ q=>Heap.get?_push_of_some _ q) (Nat.le_refl _) (UO s.heap I.big),rfl,h _ (I.aw.fresh (Nat.le_refl _))⟩
end
def UQ(H:Hp)(a:Addr):Prop:=(∃ao,Rd H a (.dK ao))∨ ∃ao,Rd H a (.dT ao)
section
variable {X:Cx} {pins:List (Addr×Obj)} {σ:St} {H:Hp} {s:Shared} {a:Addr} {y d:V} {u r:Value} {o:Option V} {A:Around} {E:Value→Shared→Prop}
end
def UR(td ty tx:TE):TE:=fun σ H Q=>td σ H fun x H1=> ∃a,x= .ref a∧UQ H1 a∧ty σ H1 fun y H2=>tx σ H2 fun z H3=> ∃o,fO H3 a y o∧Q (o.getD z) H3
section
variable {X:Cx} {o e f:Expr} {apos dy:Pos} {td ty tx:TE}
end
end L2
set_option maxHeartbeats 4000000
namespace L2
open PySem PySem.Spec PyProof.Rows
section
variable {X:Cx} {pins:List (Addr×Obj)} {σ:St} {H:Hp} {s:Shared} {a:Addr} {o:HO}
theorem Inv.Kk(I:Inv X pins σ H s)(hn:H a=none)(h0:X.s₀.heap.objs.size≤a)(hL:a≠X.env.locals)(hC: ∀x c,X.env.cells.lookup x=some c→c≠a)
  (hp: ∀p∈X.pn++pins,p.1≠a) (new:cG X.prog X.w (upd H a o) s.heap a o):Inv X pins σ (upd H a o) s:=by
 have US: ∀b u,X.s₀.heap.get? b=some u→b≠a:=fun b u e=>Nat.ne_of_lt (Nat.lt_of_lt_of_le (Heap.lt_size e) h0)
 have sV: ∀b u,H b=some u→b≠a:=fun b u e=>bz e hn
 refine⟨I.ok,I.os,I.bare,⟨I.base.keep,I.base.slot,fun b u e n hx=> ?_,I.base.there,fun b xs e=> ?_,fun b u xs e=> ?_,fun b ps e=> ?_⟩,I.loc,I.cell, ?_,fun x c e=> ?_,fun p q=> ?_,fun b u e=> ?_,I.len⟩
 ·rw[aI (US b u e)];exact I.base.free b u e n hx
 ·have z:=I.base.da b xs e
  rw[aI (sV b _ z)];exact z
 ·have z:=I.base.eQ b u xs e
  rw[aI (sV b _ z)];exact z
 ·obtain⟨m,z⟩:=I.base.fJ b ps e
  exact⟨m,by rw[aI (sV b _ z)];exact z⟩
 ·rw[aI (Ne.symm hL)];exact I.free
 ·rw[aI (hC x c e)];exact I.gb x c e
 ·obtain⟨z1,z2,z3⟩:=I.pin p q
  exact⟨z1,by rw[aI (hp p q)];exact z2,z3⟩
 ·by_cases hb:b=a
  ·subst hb;rw[ay] at e;cases e;exact new
  ·rw[aI hb] at e
   exact(I.aw b u e).jz (fun _ _ _ q=>q) (fun c q=>by rw[aI (sV c _ q)];exact q) fun c xs q=>by rw[aI (sV c _ q)];exact q
end
def dC(cells:List (Str×Addr)):List (Str×NameKind)→List (Str×Addr)→List (Str×Addr)
 | [],acc=>acc
 | (n,k)::r,acc=>dC cells r (if k= .free then (n,(cells.lookup n).getD 0)::acc else acc)
theorem Kl(env:Env): ∀(names:List (Str×NameKind)) (acc:List (Str×Addr)),(∀y∈names,y.2= .free→ ∃c,env.cells.lookup y.1=some c)→
  (forIn names acc (fun(x:Str×NameKind) (cs:List (Str×Addr))=>match x with
   | (name,kind)=>if (kind==NameKind.free)=true then do let a ←cellOf env name;pure (ForInStep.yield ((name,a)::cs)) else pure (ForInStep.yield cs)):Sem (List (Str×Addr)))=pure (dC env.cells names acc)
 | [],acc,_=>rfl
 | (n,k)::r,acc,h=>by
  have hr:=fun Af=>Kl env r Af fun y hy=>h y (List.mem_cons_of_mem _ hy)
  rw[List.forIn_cons]
  by_cases hk:k= .free
  ·subst hk
   obtain⟨c,e⟩:=h (n, .free) List.mem_cons_self rfl
   have e':cellOf env n=pure c:=by unfold cellOf;rw[e]
   have ec:dC env.cells ((n, .free)::r) acc=dC env.cells r ((n,c)::acc):=by simp[dC,e]
   rw[ec,←hr]
   simp[e']
  ·have hb:(k==NameKind.free)=false:=by simpa using hk
   have ec:dC env.cells ((n,k)::r) acc=dC env.cells r acc:=by simp[dC,hk]
   rw[ec,←hr]
   simp[hb]
theorem UT{scope:Scope}{env:Env}(h: ∀y∈scope.names,y.2= .free→ ∃c,env.cells.lookup y.1=some c):closureFor scope env=pure (dC env.cells scope.names []):=by
 have:=Kl env scope.names [] h
 simp only[closureFor]
 rw[←this]
 simp
theorem Km{cells:List (Str×Addr)}: ∀(names:List (Str×NameKind)) (acc:List (Str×Addr)) (x:Str) (c:Addr),(dC cells names acc).lookup x=some c→(acc.lookup x=some c)∨((x, .free)∈names∧(cells.lookup x).getD 0=c)
 | [],acc,x,c,h=> .inl h
 | (n,k)::r,acc,x,c,h=>by
  simp only[dC] at h
  rcases Km r _ x c h with z | ⟨z1,z2⟩
  ·by_cases hk:k= .free
   ·subst hk
    simp only[if_true] at z
    rw[List.lookup_cons] at z
    by_cases hx:x==n
    ·simp only[hx] at z
     have UU:x=n:=eq_of_beq hx
     subst UU
     exact .inr ⟨List.mem_cons_self,Option.some.inj z⟩
    ·have jd:(x==n)=false:=by simpa using hx
     simp only[jd] at z
     exact .inl z
   ·simp only[if_neg hk] at z
    exact .inl z
  ·exact .inr ⟨List.mem_cons_of_mem _ z1,z2⟩
theorem Ag{cells:List (Str×Addr)}: ∀(names:List (Str×NameKind)) (acc:List (Str×Addr)) (x:Str),((x,NameKind.free)∈names∨ ∃c,acc.lookup x=some c)→ ∃c,(dC cells names acc).lookup x=some c
 | [],acc,x,h=>by
  rcases h with h | h
  ·cases h
  ·exact h
 | (n,k)::r,acc,x,h=>by
  simp only[dC]
  refine Ag r _ x ?_
  rcases h with h | ⟨c,h⟩
  ·rcases List.mem_cons.mp h with e | h
   ·cases e
    refine .inr ?_
    simp[List.lookup_cons]
   ·exact .inl h
  ·refine .inr ?_
   by_cases hk:k= .free
   ·simp only[if_pos hk,List.lookup_cons]
    cases hx:x==n
    ·exact⟨c,h⟩
    ·exact⟨_,rfl⟩
   ·simp only[if_neg hk];exact⟨c,h⟩
theorem Kn{env:Env}: ∀(names:List (Str×NameKind)) (x:Str),
  (names.map fun(n,k)=>if (k==NameKind.free && env.scope.kind== .function && env.kindOf n==some .cell) then (n,NameKind.cell) else (n,k)).lookup x=
   (names.lookup x).map fun k=>if (k==NameKind.free && env.scope.kind== .function && env.kindOf x==some .cell) then NameKind.cell else k
 | [],_=>rfl
 | (n,k)::r,x=>by
  have ih:=Kn (env:=env) r x
  show List.lookup x ((if (k==NameKind.free && env.scope.kind== .function && env.kindOf n==some .cell)=true then (n,NameKind.cell) else (n,k))::_)=_
  cases hx:x==n with
  | true=>
   have e:x=n:=eq_of_beq hx
   subst e
   by_cases hc:(k==NameKind.free && env.scope.kind== .function && env.kindOf x==some .cell)=true
   ·rw[if_pos hc];simp only[List.lookup_cons,beq_self_eq_true,Option.map_some];rw[if_pos hc]
   ·rw[if_neg hc];simp only[List.lookup_cons,beq_self_eq_true,Option.map_some];rw[if_neg hc]
  | false=>
   by_cases hc:(k==NameKind.free && env.scope.kind== .function && env.kindOf n==some .cell)=true
   ·rw[if_pos hc];simp only[List.lookup_cons,hx];exact ih
   ·rw[if_neg hc];simp only[List.lookup_cons,hx];exact ih
section
variable {prog:Program} {w:World} {A:Around} {R:Result→Shared→Prop} {s:Shared}
theorem UW{elt target iter:Expr}{ifs:List Expr}{scope:Scope}{pos:Pos}{it acc:Value}{env:Env}(I:Nat→Shared→Prop)
  (turn: ∀n s,I n s→wpAny (model prog w) A (pyNext it) (fun r s₁=>match r with
   | none=>R (.ok .next) s₁
   | some v=>wpAny (model prog w) A (letOwnedTupleGo target it v) (fun _ Ko=>wpAny (model prog w) A (assign target env v) (fun _ s₂=>
     wpAny (model prog w) A (forIn ifs true fun c r=>if r=true then do let ok ←isTrue c env (eval c env);pure (ForInStep.yield ok) else pure (ForInStep.yield r)) (fun ok s₃=>
      if ok=true then wpAny (model prog w) A (eval elt env) (fun x s₄=>
       wpAny (model prog w) A (call (.builtin "list.append") [acc,x]) (fun _ s₅=> ∃m,m<n∧I m s₅) (fun _ _=>False) s₄) (fun _ _=>False) s₃
      else ∃m,m<n∧I m s₃) (fun _ _=>False) s₂) (fun _ _=>False) Ko) (fun _ _=>False) s₁) (fun _ _=>False) s)
  (n:Nat) (h:I n s):codeAny (model prog w) A (.compLoop (.ListComp elt [⟨target,iter,ifs,0⟩] scope pos) 0 it acc env) R s:=by
 refine codeAny_loop rfl I (fun n s hI=> ?_) n h
 show wpAny _ A ((compTurn (.ListComp elt [⟨target,iter,ifs,0⟩] scope pos) 0 it acc env).onRaise (fun x=>do noteFrame x env;theTreesLotGoes x)) _ _ s
 refine wpAny_noted ?_
 rw[compTurn_list]
 refine wpAny_bind (wpAny_standAt (wpAny_bind (wpAny_mono (turn n s hI) (fun r s₁ h₁=> ?_) fun _ _ h'=>h'.elim)))
 cases r with
 | none=>exact wpAny_pure h₁
 | some v=>
  refine wpAny_bind (wpAny_mono h₁ (fun _ Ko UX=> ?_) fun _ _ h'=>h'.elim)
  refine wpAny_bind (wpAny_mono UX (fun _ s₂ h₂=>wpAny_bind (wpAny_mono h₂ (fun ok s₃ h₃=> ?_) fun _ _ h'=>h'.elim)) fun _ _ h'=>h'.elim)
  cases ok with
  | false=>exact wpAny_pure ⟨rfl,h₃⟩
  | true=>
   exact wpAny_bind (wpAny_bind (wpAny_mono h₃ (fun x s₄ h₄=>wpAny_bind (wpAny_mono h₄ (fun _ s₅ h₅=>wpAny_pure (wpAny_pure ⟨rfl,h₅⟩)) fun _ _ h'=>h'.elim)) fun _ _ h'=>h'.elim))
end
def fP(X:Cx)(scope:Scope)(N:List Str)(ex:List Addr)(C:Addr)(s:Shared)(H:Hp):Cx where
 prog:=X.prog
 w:=X.w
 K:=X.K
 mg:=X.mg
 base:=X.base
 A:=X.A
 N:=N
 s₀:=s
 H₀:=H
 env:=compEnvC scope (dC X.env.cells scope.names []) C X.env
 outer:=X.stack
 stack:=X.stack
 ex:=ex
 fn:=fun _=>false
 calm:=X.calm
 pn:=[]
 xe:=fun _ _=>False
structure je (X:Cx) (scope:Scope) (ln:List Str) (fv:List (Str×Nat)):Prop where
 kind:scope.kind= .function
 Kp: ∀y∈scope.names,y.2≠ .cell
 locals: ∀y∈scope.names,y.2= .local→scope.names.lookup y.1=some .local
 free: ∀y∈scope.names,y.2= .free→(X.env.kindOf y.1=some .cell∨X.env.kindOf y.1=some .free)
 UY: ∀p∈fv,X.N[p.2]?=some p.1∧scope.names.lookup p.1=some .free
def dc(σ:St)(fv:List (Str×Nat)):St:=fv.map fun p=> (σ[p.2]?).join
def nT(K:PySem.W.Frag):Option Nat→V→Hp→(List V→Prop)→Prop
 | none,x,_,Q=>Q [x]
 | some n,x,H,Q=> ∃a xs,x= .ref a∧aF K H a xs∧xs.length=n∧Q xs
def nU:Option TT→TT
 | none=>fun _ H k=>k true H
 | some t=>t
def mH(K:PySem.W.Frag)(wi:TI)(tk:Option Nat)(fv:List (Str×Nat))(tc:Option TT)(te:TE):TE:=fun σ H Q=>
 wi σ H fun J H1=> ∃W:Nat→Nat→List V→Hp→Prop,(∃m,W 0 m [] H1)∧ ∀i m ys H2,W i m ys H2→
  (J.stop i H2∧ ∀p,H2 p=none→Q (.ref p) (upd H2 p (.lst ys)))∨
  (J.go i H2∧ ∀x H3,J.i7 i H2 x H3→nT K tk x H3 fun xs=>
   nU tc (xs.map some++dc σ fv) H3 fun b H5=>
    if b=true then te (xs.map some++dc σ fv) H5 fun y H6=>ys.length<sizeLine∧ ∃m',m'<m∧W (i+1) m' (ys++ [y]) H6
    else ∃m',m'<m∧W (i+1) m' ys H5)
section
variable {X:Cx} {pins:List (Addr×Obj)} {σ:St} {H:Hp} {s₂ s₃:Shared} {scope:Scope} {ln:List Str} {fv:List (Str×Nat)} {fp:List Addr} {h₁:Heap} {D C:Addr} {m:Str→Option Value} {t:Nat}
theorem je.cells(S:je X scope ln fv)(I:Inv X pins σ H s₂){x:Str}{c:Addr}(h:(dC X.env.cells scope.names []).lookup x=some c):X.env.cells.lookup x=some c∧(x,NameKind.free)∈scope.names:=by
 rcases Km _ _ _ _ h with z | ⟨z1,z2⟩
 ·cases z
 ·obtain⟨c',e⟩:=I.ok.has x (S.free _ z1 rfl)
  rw[e] at z2
  have z3:c'=c:=z2
  subst z3
  exact⟨e,z1⟩
theorem je.Kq(S:je X scope ln fv)(I:Inv X pins σ H s₂):closureFor scope X.env=pure (dC X.env.cells scope.names []):=
 UT fun y hy hk=>I.ok.has y.1 (S.free y hy hk)
theorem UZ(S:je X scope ln fv)(I:Inv X pins σ H s₂)(f2: ∀b∈fp,iD X pins H b)(nV: ∀b∈fp,∃o,s₂.heap.get? b=some o)
  (os:s₃.os=s₂.os) (gens:s₃.gens=s₂.gens) (k3: ∀b o,s₂.heap.get? b=some o→s₃.heap.get? b=some o) (hD:D=s₂.heap.objs.size) (h3:s₃.heap.objs.size=s₂.heap.objs.size+1) (hC:C=s₃.heap.objs.size)
  (k4: ∀b o,s₃.heap.get? b=some o→h₁.get? b=some o) (qu:h₁.Ns C m):
  Inv (fP X scope (ln++fv.map (·.1)) (D::fp) C s₃ H) [] (ln.map (fun _=>none)++dc σ fv) H {s₃ with heap:=h₁,toks:=t}:=by
 have cl: ∀{x c},(dC X.env.cells scope.names []).lookup x=some c→X.env.cells.lookup x=some c:=fun h=> (S.cells I h).1
 have U0: ∀{x c},(dC X.env.cells scope.names []).lookup x=some c→c<s₂.heap.objs.size:=fun h=>by
  obtain⟨v,q⟩:=I.cell _ _ (cl h)
  exact q.lt
 have U1: ∀b∈fp,b<s₂.heap.objs.size:=fun b hb=>by obtain⟨o,e⟩:=nV b hb;exact Heap.lt_size e
 have U2: ∀b∈D::fp,b≤s₂.heap.objs.size:=fun b hb=>by
  rcases List.mem_cons.mp hb with e | hb
  ·rw[e,hD];exact Nat.le_refl _
  ·exact Nat.le_of_lt (U1 b hb)
 have Kr: ∀x,(relabel scope X.env).names.lookup x=(scope.names.lookup x).map fun k=>if (k==NameKind.free && X.env.scope.kind== .function && X.env.kindOf x==some .cell) then NameKind.cell else k:=fun x=>Kn scope.names x
 have U3: ∀x,scope.names.lookup x=some .free→((relabel scope X.env).names.lookup x=some .cell∨(relabel scope X.env).names.lookup x=some .free):=fun x e=>by
  rw[Kr,e]
  simp only[Option.map_some]
  split
  ·exact .inl rfl
  ·exact .inr rfl
 have U4: ∀x,((relabel scope X.env).names.lookup x=some .cell∨(relabel scope X.env).names.lookup x=some .free)→(x,NameKind.free)∈scope.names:=fun x e=>by
  rw[Kr] at e
  cases q:scope.names.lookup x with
  | none=>rw[q] at e;rcases e with e | e<;>cases e
  | some k=>
   rw[q] at e
   have hm:(x,k)∈scope.names:=PySem.mem_of_lookup q
   simp only[Option.map_some] at e
   by_cases hk:k= .free
   ·rw[hk] at hm;exact hm
   ·have hb:(k==NameKind.free)=false:=by simpa using hk
    simp only[hb,Bool.false_and,Bool.false_eq_true,if_false] at e
    rcases e with e | e
    ·exact absurd (Option.some.inj e) (S.Kp _ hm)
    ·exact absurd (Option.some.inj e) hk
 refine⟨⟨I.ok.mod,S.kind,I.ok.glob,I.ok.blt,Nat.le_of_eq hC.symm,fun x y c h1 h2=>I.ok.inj x y c (cl h1) (cl h2),fun x hx=>Ag _ _ x (.inl (U4 x hx)),fun x c h _=> (by cases h),I.ok.hd,I.ok.frames, .inl rfl,fun b hb=> ⟨?_,fun x c e=> ?_⟩,fun b o e=> ⟨k3 b o (I.bs b o e).1,(I.bs b o e).2⟩, ?_,fun b o e hb=> ?_,fun b hb hf=> ?_, ?_,I.vT⟩,
  rfl, ?_,Un.kept fun b u e=>k4 b u e,⟨m,qu,fun i x v e1 e2 e3=> ?_⟩,fun x c e=> ?_,I.aw.fresh ?_,fun x c e=>I.gb x c (cl e),fun p hp=>absurd (show p∈ ([]:List (Addr×Obj)) from hp) (by simp),I.aw.kept fun b u e=>k4 b u (k3 b u e), ?_⟩
 ·show b≠C
  have:=U2 b hb
  rw[hC,h3];exact Nat.ne_of_lt (Nat.lt_succ_of_le this)
 ·have q1:=U0 e
  rcases List.mem_cons.mp hb with z | z
  ·rw[z,hD];exact Nat.ne_of_lt q1
  ·exact(f2 b z).2.2.2.2.1 x c (cl e)
 ·show X.base.objs.size≤s₃.heap.objs.size
  have:=Nat.le_trans I.ok.mB I.sz
  omega
 ·have e2:=(I.bs b o e).1
  have mI:b∈D::fp:=hb
  rcases List.mem_cons.mp mI with z | z
  ·have:=Heap.lt_size e2
   rw[z,hD] at this;exact Nat.lt_irrefl _ this
  ·rcases (f2 b z).2.2.2.1 with q | q
   ·exact I.ok.vQ b o e q
   ·exact absurd (Nat.lt_of_lt_of_le (Heap.lt_size (I.ok.bs b o e).1) q) (Nat.lt_irrefl _)
 ·have Ks:b∈bC X.stack:=hf
  have mI:b∈D::fp:=hb
  rcases List.mem_cons.mp mI with z | z
  ·rcases List.mem_cons.mp (I.vS b Ks) with q | q
   ·have:=I.lt
    rw[←q,z,hD] at this;exact Nat.lt_irrefl _ this
   ·exact I.IL (by rw[z,hD];exact Nat.le_refl _) q
  ·rcases List.mem_cons.mp (I.vS b Ks) with q | q
   ·exact(f2 b z).2.1 q
   ·exact(f2 b z).2.2.1 q
 ·exact PySem.Heap.FunFrames.of_keeps (fun b o e _=> ⟨o,k3 b o e,rfl⟩) I.stack
 ·show AllBare s₃.gens
  rw[gens];exact I.bare
 ·have hi:ln.length≤i:=by
   by_cases hi:i<ln.length
   ·exfalso
    rw[List.getElem?_append_left (by simpa using hi),List.getElem?_map] at e2
    cases q:ln[i]? with
    | none=>rw[q] at e2;cases e2
    | some y=>rw[q] at e2;cases e2
   ·omega
  have nW:(ln++fv.map (·.1))[i]?=some x:=e1
  rw[List.getElem?_append_right hi,List.getElem?_map] at nW
  rw[List.getElem?_append_right (by simpa using hi),List.length_map] at e2
  unfold dc at e2
  rw[List.getElem?_map] at e2
  cases q:fv[i - ln.length]? with
  | none=>rw[q] at nW;cases nW
  | some p=>
   rw[q] at nW e2
   have ex:p.1=x:=Option.some.inj nW
   have ev:(σ[p.2]?).join=some v:=Option.some.inj e2
   obtain⟨g1,g2⟩:=S.UY p (List.mem_of_getElem? q)
   rw[ex] at g1 g2
   have U5:σ[p.2]?=some (some v):=by
    cases z:σ[p.2]? with
    | none=>rw[z] at ev;cases ev
    | some o=>rw[z] at ev;rw[show o=some v from ev]
   have hk:=S.free _ (PySem.mem_of_lookup g2) rfl
   obtain⟨m2,eR,hl⟩:=I.loc
   obtain⟨u,r,l⟩:=hl p.2 x v g1 U5 (by rcases hk with k | k;exact .inr (.inl k);exact .inr (.inr k))
   refine⟨u,r, .inr ?_⟩
   rcases l with⟨k,_⟩ | ⟨_,c,ec,z⟩
   ·rcases hk with k' | k'<;> (rw[k] at k';cases k')
   ·refine⟨U3 x g2,c, ?_, ?_⟩
    ·obtain⟨c',e'⟩:=Ag (cells:=X.env.cells) scope.names [] x (.inl (PySem.mem_of_lookup g2))
     have:=cl e'
     rw[ec] at this;cases this
     exact e'
    ·obtain⟨o,ho,hd⟩:=z
     exact⟨o,k4 c o (k3 c o ho),hd⟩
 ·obtain⟨v,o,ho,hd⟩:=I.cell x c (cl e)
  exact⟨v,o,k4 c o (k3 c o ho),hd⟩
 ·show s₂.heap.objs.size≤C
  rw[hC,h3];exact Nat.le_succ _
 ·show(ln.map (fun _=>none)++dc σ fv).length=(ln++fv.map (·.1)).length
  simp[dc]
end
structure Ah (Φ:Cx→Prop) (P:Program) (w:World) (K:PySem.W.Frag) (tg:Expr) (J:It) (fp:List Addr) (it:Addr) (tn:Nat→Heap→Prop):Prop where
 mem:it∈fp
 obj: ∀i h,tn i h→ ∀b∈fp,∃o,h.get? b=some o∧ ∀v,o.data≠ .cell v
 keep: ∀i h h',tn i h→(∀b∈fp,∀o,h.get? b=some o→h'.get? b=some o)→tn i h'
 item: ∀(X:Cx),X.prog=P→X.w=w→X.K=K→Φ X→ ∀(i:Nat) (pins:List (Addr×Obj)) (s:Shared) (σ:St) (H:Hp) (E:Value→Shared→Prop),Inv X pins σ H s→(∀b∈fp,iD X pins H b)→tn i s.heap→J.go i H→
  wpAny (model P w) X.A (pyNext (.ref it)) (fun r s1=> ∃u,r=some u∧
   wpAny (model P w) X.A (letOwnedTupleGo tg (.ref it) u) (fun _ s2=> ∃x H',Inv X pins σ H' s2∧RelV x u∧J.i7 i H x H'∧tn (i+1) s2.heap∧ ∀b∈fp,H' b=none) E s1) E s
 done: ∀(X:Cx),X.prog=P→X.w=w→X.K=K→Φ X→ ∀(i:Nat) (pins:List (Addr×Obj)) (s:Shared) (σ:St) (H:Hp) (E:Value→Shared→Prop),Inv X pins σ H s→(∀b∈fp,iD X pins H b)→tn i s.heap→J.stop i H→
  wpAny (model P w) X.A (pyNext (.ref it)) (fun r s1=>r=none∧Inv X pins σ H s1) E s
 self: ∀(A:Around) (i:Nat) (s:Shared) (Q:Value→Shared→Prop) (E:Value→Shared→Prop),tn i s.heap→Q (.ref it) s→wpAny (model P w) A (pyIter (.ref it)) Q E s
def wF(Φ:Cx→Prop)(X:Cx)(tg iter:Expr)(wi:TI):Prop:=
 ∀(pins:List (Addr×Obj)) (s:Shared) (σ:St) (H:Hp) (R:It→Hp→Prop),Inv X pins σ H s→wi σ H R→
  wpAny (model X.prog X.w) X.A (eval iter X.env) (fun v s1=>wpAny (model X.prog X.w) X.A (pyIter v) (fun nI s2=>
   ∃(it:Addr) (fp:List Addr) (tn:Nat→Heap→Prop) (J:It) (H':Hp),nI= .ref it∧Inv X pins σ H' s2∧Ah Φ X.prog X.w X.K tg J fp it tn∧tn 0 s2.heap∧(∀b∈fp,iD X pins H' b)∧R J H') X.xe s1) X.xe s
abbrev Calm(X:Cx):Prop:=X.calm=true
theorem PI.p{X:Cx}{tg iter:Expr}{wi:TI}(h:PI X tg iter wi):wF Calm X tg iter wi:=fun pins s σ H R I q=>
 aN (h pins s σ H R I q) fun v s1 h1=>aN h1 fun nI s2 ⟨it,fp,tn,J,H',e,I',T,st,f,r⟩=> ⟨it,fp,tn,J,H',e,I',⟨T.mem,T.obj,T.keep,T.item,T.done,T.self⟩,st,f,r⟩
section
variable {X:Cx} {pins:List (Addr×Obj)} {σ:St} {H:Hp} {s₂:Shared} {scope:Scope} {ln:List Str} {fv:List (Str×Nat)} {elt tg iter:Expr} {ifs:List Expr} {pos:Pos}
 {J:It} {fp:List Addr} {it:Addr} {tn:Nat→Heap→Prop} {tk:Option Nat} {tc:Option TT} {te:TE} {Qv:VK} {RR:Value→Addr→Result→Shared→Prop} {E:Value→Shared→Prop}
def wG(Ψ:Hp→Prop)(X:Cx)(scope:Scope)(ln:List Str)(fv:List (Str×Nat))(tg:Expr)(tk:Option Nat):Prop:=
 ∀(ex:List Addr) (C:Addr) (s:Shared) (H:Hp),Ψ H→ ∃g,PG (fP X scope (ln++fv.map (·.1)) ex C s H) tg g∧
  ∀(x:V) (pre φ:St) (H':Hp) (Q:St→Hp→Prop),pre.length=ln.length→nT X.K tk x H' (fun xs=>xs.length=ln.length→Q (xs.map some++φ) H')→g x (pre++φ) H' Q
def sW(X:Cx)(scope:Scope)(ln:List Str)(fv:List (Str×Nat))(tg:Expr)(tk:Option Nat):Prop:=
 ∀(ex:List Addr) (C:Addr) (s:Shared) (H:Hp),∃g,PG (fP X scope (ln++fv.map (·.1)) ex C s H) tg g∧
  ∀(x:V) (pre φ:St) (H':Hp) (Q:St→Hp→Prop),pre.length=ln.length→nT X.K tk x H' (fun xs=>xs.length=ln.length→Q (xs.map some++φ) H')→g x (pre++φ) H' Q
def sX(X:Cx)(scope:Scope)(N:List Str)(ifs:List Expr)(tc:Option TT):Prop:=
 match tc with
 | none=>ifs=[]
 | some t=> ∃c,ifs=[c]∧ ∀(ex:List Addr) (C:Addr) (s:Shared) (H:Hp),PT (fP X scope N ex C s H) c t
theorem Kt{Φ:Cx→Prop}{Ψ:Hp→Prop}(S:je X scope ln fv)(hc: ∀Xc:Cx,Xc.A=X.A→Xc.calm=X.calm→Xc.H₀=H→Φ Xc)(hΨ:Ψ H)(hg:wG Ψ X scope ln fv tg tk)(ht:sX X scope (ln++fv.map (·.1)) ifs tc)
  (he: ∀(ex:List Addr) (C:Addr) (s:Shared) (H:Hp),PE (fP X scope (ln++fv.map (·.1)) ex C s H) elt te)
  (I:Inv X pins σ H s₂) (T:Ah Φ X.prog X.w X.K tg J fp it tn) (st:tn 0 s₂.heap) (f2: ∀b∈fp,iD X pins H b)
  (h: ∃W:Nat→Nat→List V→Hp→Prop,(∃m,W 0 m [] H)∧ ∀i m ys H2,W i m ys H2→
   (J.stop i H2∧ ∀p,H2 p=none→Qv (.ref p) (upd H2 p (.lst ys)))∨
   (J.go i H2∧ ∀x H3,J.i7 i H2 x H3→nT X.K tk x H3 fun xs=>
    nU tc (xs.map some++dc σ fv) H3 fun b H5=>
     if b=true then te (xs.map some++dc σ fv) H5 fun y H6=>ys.length<sizeLine∧ ∃m',m'<m∧W (i+1) m' (ys++ [y]) H6
     else ∃m',m'<m∧W (i+1) m' ys H5))
  (U6: ∀D C H' s' m,Inv X pins σ H' s'→s'.heap.Ns C m→H' C=none→C≠X.env.locals→X.s₀.heap.objs.size≤C→(∀x c,X.env.cells.lookup x=some c→c≠C)→(∀p∈X.pn++pins,p.1≠C)→Qv (.ref D) H'→RR (.ref D) C (.ok .next) s'):
  wpAny (model X.prog X.w) X.A (newList []) (fun acc s₃=>wpAny (model X.prog X.w) X.A (newFunctionEnv scope X.env.globals (dC X.env.cells scope.names []) [] X.env.qual none .none (some X.env)) (fun Ku s₄=>
   codeAny (model X.prog X.w) X.A (.compStart (.ListComp elt [⟨tg,iter,ifs,0⟩] scope pos) 0 (.ref it) acc {Ku with scope:=relabel scope X.env}) (RR acc Ku.locals) s₄) E s₃) E s₂:=by
 obtain⟨W,⟨m0,w0⟩,turn⟩:=h
 refine wpAny_newObj_type (wpAny_newFunctionEnv S.Kp (by intro y hy;simp at hy) (fun h₁ wH wI=> ?_) S.kind)
 dsimp only at wH wI⊢
 generalize wJ:({s₂ with heap:=s₂.heap.push {cls:= .type "list",dict:=none,data:= .seq ([]:List Value).toArray}}:Shared)=s₃
 have sY:s₂.heap.push {cls:= .type "list",dict:=none,data:= .seq ([]:List Value).toArray}=s₃.heap:=by rw[←wJ]
 rw[sY] at wH wI⊢
 have Kv:s₃.os=s₂.os:=by rw[←wJ]
 have U7:s₃.gens=s₂.gens:=by rw[←wJ]
 have nX:s₃.heap.objs.size=s₂.heap.objs.size+1:=by rw[←sY,Heap.size_push]
 have k3: ∀b o,s₂.heap.get? b=some o→s₃.heap.get? b=some o:=fun b o e=>by rw[←sY];exact Heap.get?_push_of_some _ e
 have k4: ∀b o,s₃.heap.get? b=some o→h₁.get? b=some o:=fun b o e=>wI.extBut b o (Nat.ne_of_lt (Heap.lt_size e)) (Heap.get?_push_of_some _ e)
 have gD:s₃.heap.get? s₂.heap.objs.size=some {cls:= .type "list",dict:=none,data:= .seq ([]:List Value).toArray}:=by rw[←sY];exact Heap.get?_push_size _ rfl
 generalize eD:s₂.heap.objs.size=D at gD
 generalize eC:s₃.heap.objs.size=C at wH wI⊢
 have wK:D≠C:=by rw[←eD,←eC,nX];exact Nat.ne_of_lt (Nat.lt_succ_self _)
 have nV: ∀b∈fp,∃o,s₂.heap.get? b=some o:=fun b hb=>by obtain⟨o,e,_⟩:=T.obj 0 _ st b hb;exact⟨o,e⟩
 have Kw: ∀b∈fp,b≠D:=fun b hb=>by obtain⟨o,e⟩:=nV b hb;rw[←eD];exact Nat.ne_of_lt (Heap.lt_size e)
 have U8: ∀b∈fp,b≠C:=fun b hb=>by
  obtain⟨o,e⟩:=nV b hb
  have:=Heap.lt_size e
  rw[←eC,nX];exact Nat.ne_of_lt (Nat.lt_succ_of_lt this)
 generalize eX:fP X scope (ln++fv.map (·.1)) (D::fp) C s₃ H=Xc
 have I4: ∀t,Inv Xc [] (ln.map (fun _=>none)++dc σ fv) H {s₃ with heap:=h₁,toks:=t}:=fun t=>by
  rw[←eX]
  exact UZ S I f2 nV Kv U7 k3 eD.symm nX eC.symm k4 wH
 have xL:Xc.env.locals=C:=by rw[←eX];rfl
 have wL:Xc.ex=D::fp:=by rw[←eX];rfl
 have U9:Xc.fs=bC X.stack:=by rw[←eX];rfl
 have xP:Xc.prog=X.prog:=by rw[←eX];rfl
 have xw:Xc.w=X.w:=by rw[←eX];rfl
 have xK:Xc.K=X.K:=by rw[←eX];rfl
 have xA:Xc.A=X.A:=by rw[←eX];rfl
 have xc:Φ Xc:=hc Xc xA (by rw[←eX];rfl) (by rw[←eX];rfl)
 have Kx:Xc.pn=[]:=by rw[←eX];rfl
 have Ai:Xc.xe=fun _ _=>False:=by rw[←eX];rfl
 have Ky:Xc.env.cells=dC X.env.cells scope.names []:=by rw[←eX];rfl
 have Aj:Xc.env=compEnvC scope (dC X.env.cells scope.names []) C X.env:=by rw[←eX];rfl
 have cD: ∀x c,Xc.env.cells.lookup x=some c→c≠D:=fun x c e=>by
  rw[Ky] at e
  obtain⟨v,q⟩:=I.cell x c (S.cells I e).1
  rw[←eD];exact Nat.ne_of_lt q.lt
 have cF: ∀x c,Xc.env.cells.lookup x=some c→ ∀b∈fp,c≠b:=fun x c e b hb=>by
  rw[Ky] at e
  exact(f2 b hb).2.2.2.2.1 x c (S.cells I e).1
 have sF: ∀b∈D::fp,b∉Xc.fs:=fun b hb hf=>by
  have:=(I4 0).ok.vR b (by rw[wL];exact hb)
  exact this hf
 have nJ: ∀{H':Hp} {oD:Obj},(∀b∈fp,H' b=none)→ ∀b∈fp,iD Xc [(D,oD)] H' b:=fun hn b hb=>
  ⟨hn b hb,by rw[xL];exact U8 b hb,sF b (List.mem_cons_of_mem _ hb), .inl (by rw[wL];exact List.mem_cons_of_mem _ hb),fun x c e=>cF x c e b hb,fun p hp=>by
   rw[Kx] at hp
   rcases List.mem_singleton.mp (show p∈ [(D,_)] from hp) with rfl
   exact(Kw b hb).symm⟩
 have loop: ∀s₄:Shared,s₄={s₃ with heap:=h₁,toks:=s₃.toks+ ([]:List (Str×Value)).length}→
   codeAny (model X.prog X.w) X.A (.compLoop (.ListComp elt [⟨tg,iter,ifs,0⟩] scope pos) 0 (.ref it) (.ref D) (compEnvC scope (dC X.env.cells scope.names []) C X.env)) (RR (.ref D) C) s₄:=by
  rintro s₄ rfl
  refine UW (fun n s'=> ∃i pre ys its nn H',Inv Xc [(D,{cls:= .type "list",data:= .seq (List.toArray its) nn})] (pre++dc σ fv) H' s'∧pre.length=ln.length∧tn i s'.heap∧(∀b∈fp,H' b=none)∧Vals ys its∧ys.length≤sizeLine∧W i n ys H') ?_ m0
   ⟨0,ln.map (fun _=>none),[],[],0,H,(I4 _).ql (fun p hp=> ?_),by simp,T.keep 0 _ _ st (fun b _ o e=>k4 b o (k3 b o e)),fun b hb=> (f2 b hb).1, .nil,Nat.zero_le _,w0⟩
  rotate_left
  ·have qv:=List.mem_singleton.mp hp
   subst qv
   refine⟨k4 _ _ gD,I.aw.fresh (Nat.le_of_eq eD),by rw[xL];exact wK,sF D List.mem_cons_self,fun v z=>by cases z⟩
  rintro n s' ⟨i,pre,ys,its,nn,H',I',iI,i8,Kz,hv,hz,w'⟩
  have anH:=I'.pin (D,_) (List.mem_append_right _ List.mem_cons_self)
  rcases turn i n ys H' w' with⟨stop,qn⟩ | ⟨go,step⟩
  ·have td:=T.done Xc xP xw xK xc i _ s' _ H' (fun _ _=>False) I' (nJ Kz) i8 stop
   rw[xA] at td
   refine aN td fun r s1 ⟨hr,I1⟩=> ?_
   subst hr
   have Ak:=I1.pin (D,_) (List.mem_append_right _ List.mem_cons_self)
   have b1:=I1.base
   rw[U9,wL] at b1
   have KA:Xc.s₀=s₃:=by rw[←eX];rfl
   have U_:Xc.H₀=H:=by rw[←eX];rfl
   rw[KA,U_] at b1
   have nD: ∀b o,s₂.heap.get? b=some o→b∉fp→b∉D::fp:=fun b o e hb hm=>by
    rcases List.mem_cons.mp hm with z | z
    ·have:=Heap.lt_size e
     rw[z,eD] at this;exact Nat.lt_irrefl _ this
    ·exact hb z
   have un:Un (bC X.stack) fp H H' s₂.heap s1.heap:=⟨fun b o e nb hb hx=>b1.keep b o (k3 b o e) nb hb (nD b o e hx),fun b o e nb hb hx=>b1.slot b o (k3 b o e) nb hb (nD b o e hx),fun b o e nb hx=>b1.free b o (k3 b o e) nb (nD b o e hx),
    fun b o e hx=>b1.there b o (k3 b o e) (nD b o e hx),b1.da,b1.eQ,b1.fJ⟩
   have Va:s1.os=s₂.os:=by rw[I1.os,KA,Kv]
   have KC:=I1.aw
   rw[xP,xw] at KC
   have J1:Inv X pins σ H' s1:=I.zt Va un KC I1.bare fun b hb=> ⟨(f2 b hb).2.2.2.1,(f2 b hb).2.1,(f2 b hb).2.2.2.2.1,(f2 b hb).2.2.2.2.2⟩
   have Vb: ∀x c,X.env.cells.lookup x=some c→c≠D:=fun x c e=>by
    obtain⟨v,q⟩:=I.cell x c e
    rw[←eD];exact Nat.ne_of_lt q.lt
   have Vc: ∀x c,X.env.cells.lookup x=some c→c≠C:=fun x c e=>by
    obtain⟨v,q⟩:=I.cell x c e
    rw[←eC,nX];exact Nat.ne_of_lt (Nat.lt_succ_of_lt q.lt)
   have pD: ∀p∈X.pn++pins,p.1≠D:=fun p hp=>by rw[←eD];exact Nat.ne_of_lt (Heap.lt_size (I.pin p hp).1)
   have pC: ∀p∈X.pn++pins,p.1≠C:=fun p hp=>by
    rw[←eC,nX];exact Nat.ne_of_lt (Nat.lt_succ_of_lt (Heap.lt_size (I.pin p hp).1))
   have lD:D≠X.env.locals:=by rw[←eD];exact Nat.ne_of_gt I.lt
   have lC:C≠X.env.locals:=by
    rw[←eC,nX];exact Nat.ne_of_gt (Nat.lt_succ_of_lt I.lt)
   have J2:Inv X pins σ (upd H' D (.lst ys)) s1:=Inv.Kk J1 Ak.2.1 (by rw[←eD];exact I.sz) lD Vb pD ⟨hz,its,nn,hv,Ak.1⟩
   obtain⟨mC,KD,_⟩:=I1.loc
   rw[xL] at KD
   have fC:H' C=none:=by have:=I1.free;rw[xL] at this;exact this
   exact U6 D C _ s1 mC J2 KD (by rw[aI (Ne.symm wK)];exact fC) lC (by rw[←eC,nX];exact Nat.le_succ_of_le I.sz) Vc pC (qn D Ak.2.1)
  ·have ti:=T.item Xc xP xw xK xc i _ s' _ H' (fun _ _=>False) I' (nJ Kz) i8 go
   rw[xA] at ti
   refine aN ti fun r s4 ⟨u,hr,h4⟩=> ?_
   subst hr
   refine aN h4 fun _ s5 ⟨x,H5,I5,r5,y5,nK,zA⟩=> ?_
   have sH:=I5.pinned (nJ zA) (T.obj _ _ nK)
   obtain⟨g,pg,gq⟩:=hg (D::fp) C s₃ H hΨ
   rw[eX] at pg
   have rd:=step x H5 y5
   have KG:=pg _ s5 _ H5 x u (fun σ6 H6=> ∃xs:List V,σ6=xs.map some++dc σ fv∧xs.length=ln.length∧H6=H5∧
     nU tc (xs.map some++dc σ fv) H5 fun b H5=>
     if b=true then te (xs.map some++dc σ fv) H5 fun y H6=>ys.length<sizeLine∧ ∃m',m'<n∧W (i+1) m' (ys++ [y]) H6
     else ∃m',m'<n∧W (i+1) m' ys H5) sH r5 (gq x pre (dc σ fv) H5 _ iI (by
      cases tk with
      | none=>exact fun hl=> ⟨_,rfl,hl,rfl,rd⟩
      | some k=>
       obtain⟨a,xs,e1,e2,e3,rd⟩:=rd
       exact⟨a,xs,e1,e2,e3,fun hl=> ⟨xs,rfl,hl,rfl,rd⟩⟩))
   rw[xA,xP,xw,Ai,Aj] at KG
   refine aN KG fun _ s6 ⟨σ6,H6,I6,xs,e6,hX,eH,KH⟩=> ?_
   subst e6 eH
   have KI: ∀{H7:Hp} {σ7:St} {s7:Shared},Inv Xc ([(D,{cls:= .type "list",data:= .seq (List.toArray its) nn})]++qp fp s5.heap) σ7 H7 s7→tn (i+1) s7.heap∧(∀b∈fp,H7 b=none)∧s7.heap.get? D=some {cls:= .type "list",data:= .seq (List.toArray its) nn}∧H7 D=none:=fun {H7 σ7 s7} I7=>by
    refine⟨T.keep _ _ _ nK fun b hb o e=> (I7.pin (b,o) (List.mem_append_right _ (List.mem_append_right _ (v9 hb e)))).1,fun b hb=> ?_, ?_, ?_⟩
    ·obtain⟨o,e,d⟩:=T.obj _ _ nK b hb
     exact(I7.pin (b,o) (List.mem_append_right _ (List.mem_append_right _ (v9 hb e)))).2.1
    ·exact(I7.pin (D,_) (List.mem_append_right _ (List.mem_append_left _ List.mem_cons_self))).1
    ·exact(I7.pin (D,_) (List.mem_append_right _ (List.mem_append_left _ List.mem_cons_self))).2.1
   have tests:wpAny (model X.prog X.w) X.A (forIn ifs true fun c r=>if r=true then do let ok ←isTrue c (compEnvC scope (dC X.env.cells scope.names []) C X.env) (eval c (compEnvC scope (dC X.env.cells scope.names []) C X.env));pure (ForInStep.yield ok) else pure (ForInStep.yield r))
     (fun ok s7=> ∃H7,Inv Xc ([(D,{cls:= .type "list",data:= .seq (List.toArray its) nn})]++qp fp s5.heap) (xs.map some++dc σ fv) H7 s7∧
      if ok=true then te (xs.map some++dc σ fv) H7 fun y H6=>ys.length<sizeLine∧ ∃m',m'<n∧W (i+1) m' (ys++ [y]) H6
      else ∃m',m'<n∧W (i+1) m' ys H7) (fun _ _=>False) s6:=by
    cases tc with
    | none=>
     have kz:ifs=[]:=ht
     subst kz
     exact wpAny_tests_nil ⟨_,I6,KH⟩
    | some t=>
     obtain⟨c,kz,pt⟩:=(show ∃c,ifs=[c]∧ ∀(ex:List Addr) (C:Addr) (s:Shared) (H:Hp),PT (fP X scope (ln++fv.map (·.1)) ex C s H) c t from ht)
     subst kz
     have KJ:=pt (D::fp) C s₃ H
     rw[eX] at KJ
     have q:=KJ _ s6 _ _ _ I6 KH
     rw[xA,xP,xw,Ai,Aj] at q
     exact wpAny_tests_one (aN q fun b s7 ⟨H7,I7,q7⟩=> ⟨H7,I7,q7⟩)
   refine aN tests fun ok s7 ⟨H7,I7,q7⟩=> ?_
   cases ok with
   | false=>
    simp only[Bool.false_eq_true,if_false] at q7⊢
    obtain⟨m',hm,w7⟩:=q7
    obtain⟨t7,f7,d7,n7⟩:=KI I7
    refine⟨m',hm,i+1,xs.map some,ys,its,nn,H7,I7.ql (fun p hp=> ?_),by simpa using hX,t7,f7,hv,hz,w7⟩
    exact I7.pin p (List.mem_append_right _ (List.mem_append_left _ hp))
   | true=>
    simp only[if_true] at q7⊢
    have q:=he (D::fp) C s₃ H
    rw[eX] at q
    have q:=q _ s7 _ H7 _ I7 q7
    rw[xA,xP,xw,Ai,Aj] at q
    refine aN q fun uy s8 ⟨y,H8,I8,r8,aS,m',hm,w8⟩=> ?_
    obtain⟨t8,f8,d8,n8⟩:=KI I8
    have hl:=hv.length
    refine call_meets F.slot_list_append ⟨_,d8,rfl⟩ F.entry_list_append (F.args_list_append_2 _ _) (PySem.list_append D its.toArray nn uy (by rw[List.size_toArray];omega)) ⟨d8, ?_⟩
    have I9: ∀t,Inv Xc [] (xs.map some++dc σ fv) H8 {s8 with heap:=s8.heap.update D (Obj.mapSeq (·.push uy)),toks:=t}:=fun t=>
     (I8.ql (iC:=[]) (fun p hp=>absurd hp (by simp))).turned (it:=D) (t':=t) (fun b o hb e=> (Heap.get?_update_other s8.heap (Obj.mapSeq (·.push uy)) (Ne.symm hb)).trans e) n8 (by rw[xL];exact wK) (.inl (by rw[wL];exact List.mem_cons_self)) cD
      (fun p hp=>by rw[Kx] at hp;exact absurd hp (by simp))
    have g9:=PySem.IsL.update d8 (·.push uy)
    obtain⟨n9,Vd⟩: ∃n9,(s8.heap.update D (Obj.mapSeq (·.push uy))).get? D=some {cls:= .type "list",data:= .seq (its++ [uy]).toArray n9}:=
     ⟨_,by rw[show(its++ [uy]).toArray=its.toArray.push uy by simp];exact g9⟩
    refine⟨m',hm,i+1,xs.map some,ys++ [y],its++ [uy],n9,H8,(I9 _).ql (fun p hp=> ?_),by simpa using hX, ?_,f8,hv.append (.cons r8 .nil), ?_,w8⟩
    ·have qv:=List.mem_singleton.mp hp
     subst qv
     exact⟨Vd,n8,by rw[xL];exact wK,sF D List.mem_cons_self,fun v z=>by cases z⟩
    ·exact T.keep _ _ _ t8 fun b hb o e=> (Heap.get?_update_other s8.heap (Obj.mapSeq (·.push uy)) (Ne.symm (Kw b hb))).trans e
    ·rw[List.length_append,List.length_singleton];omega
 have Ve:tn 0 h₁:=T.keep 0 _ _ st fun b _ o e=>k4 b o (k3 b o e)
 have e4:({s₂ with heap:=h₁,toks:=s₂.toks+ ([]:List (Str×Value)).length}:Shared)={s₃ with heap:=h₁,toks:=s₃.toks+ ([]:List (Str×Value)).length}:=by rw[←wJ]
 exact codeAny_compStart_list (loop _ e4) (T.self X.A 0 _ _ _ Ve (loop _ e4))
end
section
variable {X:Cx} {scope:Scope} {ln:List Str} {fv:List (Str×Nat)} {elt tg iter:Expr} {ifs:List Expr} {pos:Pos} {wi:TI} {tk:Option Nat} {tc:Option TT} {te:TE}
theorem Vf{Φ:Cx→Prop}{Ψ:Hp→Prop}(S:je X scope ln fv)(hc: ∀H,Ψ H→ ∀Xc:Cx,Xc.A=X.A→Xc.calm=X.calm→Xc.H₀=H→Φ Xc)(hΨ: ∀pins σ H s,Inv X pins σ H s→Ψ H)(hi:wF Φ X tg iter wi)(hg:wG Ψ X scope ln fv tg tk)(ht:sX X scope (ln++fv.map (·.1)) ifs tc)
  (he: ∀(ex:List Addr) (C:Addr) (s:Shared) (H:Hp),PE (fP X scope (ln++fv.map (·.1)) ex C s H) elt te) (hs: ∀x,foldedSetIterable iter X.env x=pure x:=by intro _;rfl):
  PE X (.ListComp elt [⟨tg,iter,ifs,0⟩] scope pos) (mH X.K wi tk fv tc te):=by
 intro pins s σ H Q I h
 rw[eval_ListComp]
 refine wpAny_comprehension_free (use:=none) rfl hs (S.Kq I) S.kind S.locals (aN (hi pins s σ H _ I h) fun v s1 h1=>aN h1 fun nI s2 h2=> ?_)
 obtain⟨it,fp,tn,J,H2,e,I2,T,sG,f2,hW⟩:=h2
 subst e
 refine Kt (RR:=fun acc C=>compPost (model X.prog X.w) X.A X.xe none (EP X pins σ Q) acc C) S (hc H2 (hΨ _ _ _ _ I2)) (hΨ _ _ _ _ I2) hg ht he I2 T sG f2 hW ?_
 intro D C H' s' m I' ns hn hL h0 mJ hp q
 refine⟨m,ns,fun h' sb=> ⟨.ref D,H', ?_,rfl,q⟩⟩
 exact I'.turned (it:=C) (t':=s'.toks) (fun b o hb e=>sb.extBut b o hb e) hn hL (.inr h0) mJ hp
theorem KL{Φ:Cx→Prop}{Ψ:Hp→Prop}{i:Nat}{y:Str}{py sZ:Pos}(hN:X.N.Nodup)(cR:X.N[i]?=some y)(hy:Loc X.env.scope y)(Al:swapsWith (.ListComp elt [⟨tg,iter,ifs,0⟩] scope pos) (some (.Name y py)) sZ.line X.env=pure true)
  (S:je X scope ln fv) (hc: ∀H,Ψ H→ ∀Xc:Cx,Xc.A=X.A→Xc.calm=X.calm→Xc.H₀=H→Φ Xc) (hΨ: ∀pins σ H s,Inv X pins σ H s→Ψ H) (hi:wF Φ X tg iter wi) (hg:wG Ψ X scope ln fv tg tk) (ht:sX X scope (ln++fv.map (·.1)) ifs tc)
  (he: ∀(ex:List Addr) (C:Addr) (s:Shared) (H:Hp),PE (fP X scope (ln++fv.map (·.1)) ex C s H) elt te) (hs: ∀x,foldedSetIterable iter X.env x=pure x:=by intro _;rfl)
  (hf:X.fn y=true∨X.env.scope.names.lookup y=some .local:=by first | exact .inl rfl | exact .inr rfl | assumption):
  PS X (.Assign [.Name y py] (.ListComp elt [⟨tg,iter,ifs,0⟩] scope pos) sZ) (i6 (mH X.K wi tk fv tc te) (dR i)):=by
 intro pins s σ H D I h
 rw[exec_Assign_Name_used _ _ _ _ Al]
 refine wpAny_bind (wpAny_standAt (wpAny_bind ?_))
 show wpAny _ X.A (do let _ ←comprehension (.ListComp elt [⟨tg,iter,ifs,0⟩] scope pos) scope X.env _ (newList []) false (eval iter X.env) (some (assign (.Name y py) X.env))) _ _ s
 refine wpAny_bind (wpAny_mono (wpAny_comprehension_free (use:=some (assign (.Name y py) X.env)) (Q:=fun _ s'=>SP X pins D .next s') rfl hs (S.Kq I) S.kind S.locals
  (aN (hi pins s σ H _ I h) fun v s1 h1=>aN h1 fun nI s2 h2=> ?_)) (fun _ s' hq=>wpAny_pure (wpAny_pure hq)) fun _ _ e=>e)
 obtain⟨it,fp,tn,J,H2,e,I2,T,sG,f2,hW⟩:=h2
 subst e
 refine Kt (Qv:=fun x H1=>dR i x σ H1 D.nx) (RR:=fun acc C=>compPost (model X.prog X.w) X.A X.xe (some (assign (.Name y py) X.env)) (fun _ s'=>SP X pins D .next s') acc C) S (hc H2 (hΨ _ _ _ _ I2)) (hΨ _ _ _ _ I2) hg ht he I2 T sG f2 hW ?_
 intro Da C H' s' m I' ns hn hL h0 mJ hp q
 show wpAny _ X.A (assign (.Name y py) X.env (.ref Da)) _ _ _
 refine wpAny_assign_Name (IS I' hN cR hy (v:= .ref Da) rfl (fun s4 I4 ⟨a,sb,ha⟩=> ?_) hf)
 have Vg:C≠a:=by
  rcases ha with z | z
  ·rw[z];exact hL
  ·exact Ne.symm (mJ _ _ z)
 refine⟨m,ns.sameBut sb Vg,fun h' Vh=> ⟨_,H', ?_,q⟩⟩
 exact I4.turned (it:=C) (t':=s4.toks) (fun b o hb e=>Vh.extBut b o hb e) hn hL (.inr h0) mJ hp
theorem Vi(S:je X scope ln fv)(hc:X.calm=true)(hi:PI X tg iter wi)(hg:sW X scope ln fv tg tk)(ht:sX X scope (ln++fv.map (·.1)) ifs tc)
  (he: ∀(ex:List Addr) (C:Addr) (s:Shared) (H:Hp),PE (fP X scope (ln++fv.map (·.1)) ex C s H) elt te) (hs: ∀x,foldedSetIterable iter X.env x=pure x:=by intro _;rfl):
  PE X (.ListComp elt [⟨tg,iter,ifs,0⟩] scope pos) (mH X.K wi tk fv tc te):=
 Vf (Φ:=Calm) (Ψ:=fun _=>True) S (fun _ _ Xc _ e _=>e.trans hc) (fun _ _ _ _ _=>trivial) hi.p (fun ex C s H _=>hg ex C s H) ht he hs
theorem Vj{i:Nat}{y:Str}{py sZ:Pos}(hN:X.N.Nodup)(cR:X.N[i]?=some y)(hy:Loc X.env.scope y)(Al:swapsWith (.ListComp elt [⟨tg,iter,ifs,0⟩] scope pos) (some (.Name y py)) sZ.line X.env=pure true)
  (S:je X scope ln fv) (hc:X.calm=true) (hi:PI X tg iter wi) (hg:sW X scope ln fv tg tk) (ht:sX X scope (ln++fv.map (·.1)) ifs tc)
  (he: ∀(ex:List Addr) (C:Addr) (s:Shared) (H:Hp),PE (fP X scope (ln++fv.map (·.1)) ex C s H) elt te) (hs: ∀x,foldedSetIterable iter X.env x=pure x:=by intro _;rfl)
  (hf:X.fn y=true∨X.env.scope.names.lookup y=some .local:=by first | exact .inl rfl | exact .inr rfl | assumption):
  PS X (.Assign [.Name y py] (.ListComp elt [⟨tg,iter,ifs,0⟩] scope pos) sZ) (i6 (mH X.K wi tk fv tc te) (dR i)):=
 KL (Φ:=Calm) (Ψ:=fun _=>True) hN cR hy Al S (fun _ _ Xc _ e _=>e.trans hc) (fun _ _ _ _ _=>trivial) hi.p (fun ex C s H _=>hg ex C s H) ht he hs hf
end
section
variable {X:Cx} {scope:Scope} {fv:List (Str×Nat)}
theorem Vk{x:Str}{px:Pos}(hl:scope.names.lookup x=some .local)(jG:(x::fv.map (·.1)).Nodup):sW X scope [x] fv (.Name x px) none:=by
 intro ex C s H
 have Vl:Loc (fP X scope ([x]++fv.map (·.1)) ex C s H).env.scope x:= .inl (lookup_relabel_local hl)
 refine⟨dR 0,qm (X:=fP X scope ([x]++fv.map (·.1)) ex C s H) jG rfl Vl (.inr (lookup_relabel_local hl)),fun v pre φ H' Q hp h=> ?_⟩
 obtain⟨a,rfl⟩: ∃a,pre=[a]:=by
  match pre,hp with
  | [a],_=>exact⟨a,rfl⟩
 exact h rfl
theorem Vm{x y:Str}{px py pos:Pos}{k:Nat}(hc:X.calm=true)(hx:scope.names.lookup x=some .local)(hy:scope.names.lookup y=some .local)(jG:(x::y::fv.map (·.1)).Nodup):sW X scope [x,y] fv (.Tuple [.Name x px, .Name y py] k pos) (some 2):=by
 intro ex C s H
 generalize eX:fP X scope ([x,y]++fv.map (·.1)) ex C s H=Xc
 have xN:Xc.N=x::y::fv.map (·.1):=by rw[←eX];rfl
 have xc:Xc.calm=true:=by rw[←eX];exact hc
 have lx:Xc.env.scope.names.lookup x=some .local:=by rw[←eX];exact lookup_relabel_local hx
 have ly:Xc.env.scope.names.lookup y=some .local:=by rw[←eX];exact lookup_relabel_local hy
 have p1:PG Xc (.Name x px) (dR 0):=qm (by rw[xN];exact jG) (by rw[xN];rfl) (.inl lx) (.inr lx)
 have p2:PG Xc (.Name y py) (dR 1):=qm (by rw[xN];exact jG) (by rw[xN];rfl) (.inl ly) (.inr ly)
 have xK:Xc.K=X.K:=by rw[←eX];rfl
 refine⟨vY Xc.K 2 (qo (dR 0) (qo (dR 1) vX)),Jk xc (sD p1 (sD p2 zx)),fun v pre φ H' Q hp h=> ?_⟩
 obtain⟨a,b,rfl⟩: ∃a b,pre=[a,b]:=by
  match pre,hp with
  | [a,b],_=>exact⟨a,b,rfl⟩
 obtain⟨a',xs,rfl,e2,e3,q⟩:=h
 obtain⟨v1,v2,rfl⟩: ∃v1 v2,xs=[v1,v2]:=by
  match xs,e3 with
  | [v1,v2],_=>exact⟨v1,v2,rfl⟩
 exact⟨a',_,rfl,by rw[xK];exact e2,rfl,v1,_,rfl,v2,_,rfl,rfl,q rfl⟩
end
section
variable {X:Cx}
theorem bw.imp{f:Value→Value→Sem Value}{r r':R2}(h:bw X f r)(i: ∀x y H Q,r' x y H Q→r x y H Q):bw X f r':=fun pins s σ H x y v u Q I rx ry q=>h pins s σ H x y v u Q I rx ry (i _ _ _ _ q)
theorem cJ.imp{f:Value}{r r':List V→Hp→VK→Prop}(h:cJ X f r)(i: ∀xs H Q,r' xs H Q→r xs H Q):cJ X f r':=fun pins s σ H xs us Q I rv q=>h pins s σ H xs us Q I rv (i _ _ _ q)
def KN(K:PySem.W.Frag):R2:=fun x y H Q=>match x,y with
 | .int i, .int j=>Q (.int (i+j)) H
 | .str i, .str j=>i.length+j.length≤sizeLine∧Q (.str (i++j)) H
 | .ref l, .ref b=>J8 (.ref l) (.ref b) H Q∨JX K (.ref l) (.ref b) H Q
 | _,_=>False
theorem Vn:bw X (binaryOp .Add) (KN X.K):=by
 refine bw.imp ((R_.or Sz).or (Uj.or Tr)) fun x y H Q h=> ?_
 cases x<;>cases y<;>first
  | exact False.elim h
  | exact .inl (.inl ⟨_,_,rfl,rfl,h⟩)
  | exact .inl (.inr ⟨_,_,rfl,rfl,h⟩)
  | exact .inr h
def jH(C:Int→Int→Prop)(g:Int→Int→V):R2:=fun x y H Q=>match x,y with
 | .int i, .int j=>C i j∧Q (g i j) H
 | _,_=>False
theorem Am{C:Int→Int→Prop}{g:Int→Int→V}(x y:V)(H:Hp)(Q:VK)(h:jH C g x y H Q):rI C g x y H Q:=by
 cases x<;>cases y<;>first
  | exact False.elim h
  | exact⟨_,_,rfl,rfl,h⟩
theorem s_{g:Int→Int→V}(x y:V)(H:Hp)(Q:VK)(h:jH (fun _ _=>True) g x y H Q):kf g x y H Q:=by
 cases x<;>cases y<;>first
  | exact False.elim h
  | exact⟨_,_,rfl,rfl,h.2⟩
def KO:R2:=fun x y H Q=>match x,y with
 | .int i, .int j=>wc i j∧Q (.int (i*j)) H
 | .ref l, .int k=>J9 (.ref l) (.int k) H Q
 | _,_=>False
theorem Vo:bw X (binaryOp .Mult) KO:=by
 refine bw.imp (Sb.or Uk) fun x y H Q h=> ?_
 cases x<;>cases y<;>first
  | exact False.elim h
  | exact .inl ⟨_,_,rfl,rfl,h⟩
  | exact .inr h
def qw(K:PySem.W.Frag):Operator→R2
 | .Add=>KN K
 | .Sub=>jH (fun _ _=>True) fun i j=> .int (i - j)
 | .Mult=>KO
 | .FloorDiv=>jH Ju fun i j=> .int (i / j)
 | .Mod=>jH (fun _ j=>0<j) fun i j=> .int (i % j)
 | .Pow=>jH Jv fun i j=> .int (i ^ j.toNat)
 | _=>fun _ _ _ _=>False
theorem Vp(op:Operator):bw X (binaryOp op) (qw X.K op):=by
 cases op<;>first
  | exact Vn
  | exact bw.imp Sa s_
  | exact Vo
  | exact bw.imp Sd Am
  | exact bw.imp Se Am
  | exact bw.imp Sf Am
  | exact fun _ _ _ _ _ _ _ _ _ _ _ _ h=>False.elim h
mutual
def Is(H:Hp):PyData→V→Prop
 | .none,v=>v= .aq
 | .bool b,v=>v= .bl b
 | .int i,v=>v= .int i
 | .str x,v=>v= .str x
 | .list xs,v=> ∃a vs,v= .ref a∧H a=some (.lst vs)∧IsL H xs vs
 | .tuple xs,v=> ∃a vs,v= .ref a∧H a=some (.tup vs)∧IsL H xs vs
 | .dict _,_=>False
def IsL(H:Hp):List PyData→List V→Prop
 | [],vs=>vs=[]
 | d::ds,vs=> ∃v r,vs=v::r∧Is H d v∧IsL H ds r
end
mutual
theorem Is.reads{pins:List (Addr×Obj)}{σ:St}{H:Hp}{s:Shared}(I:Inv X pins σ H s): ∀(d:PyData) (v:V) (u:Value),Is H d v→RelV v u→ ∃as,Reads s.heap u d as
 | .none,v,u,h,r=>by rw[show v= .aq from h] at r;rw[show u= .none from r];exact⟨_, .none⟩
 | .bool b,v,u,h,r=>by rw[show v= .bl b from h] at r;rw[show u= .bool b from r];exact⟨_, .bool b⟩
 | .int i,v,u,h,r=>by rw[show v= .int i from h] at r;obtain⟨t,e⟩:=r;rw[e];exact⟨_, .int i t⟩
 | .str x,v,u,h,r=>by rw[show v= .str x from h] at r;obtain⟨t,e⟩:=r;rw[e];exact⟨_, .str x t⟩
 | .list xs,v,u,h,r=>by
  obtain⟨a,vs,e,hH,hl⟩:=(show ∃a vs,v= .ref a∧H a=some (.lst vs)∧IsL H xs vs by simpa only[Is] using h)
  rw[e] at r
  rw[show u= .ref a from r]
  obtain⟨_,its,n,hv,hg⟩:=I.aw a _ hH
  obtain⟨as,q⟩:=IsL.reads I xs vs its hl hv
  exact⟨_, .list hg rfl rfl (by simpa using q)⟩
 | .tuple xs,v,u,h,r=>by
  obtain⟨a,vs,e,hH,hl⟩:=(show ∃a vs,v= .ref a∧H a=some (.tup vs)∧IsL H xs vs by simpa only[Is] using h)
  rw[e] at r
  rw[show u= .ref a from r]
  obtain⟨_,its,hv,o,hg,hc,n,hd⟩:=I.aw a _ hH
  obtain⟨as,q⟩:=IsL.reads I xs vs its hl hv
  exact⟨_, .tuple hg hc hd (by simpa using q)⟩
 | .dict _,v,u,h,r=>by simp only[Is] at h
theorem IsL.reads{pins:List (Addr×Obj)}{σ:St}{H:Hp}{s:Shared}(I:Inv X pins σ H s): ∀(ds:List PyData) (vs:List V) (us:List Value),IsL H ds vs→Vals vs us→ ∃as,ReadsAll s.heap us ds as
 | [],vs,us,h,r=>by
  rw[show vs=[] from h] at r
  cases r
  exact⟨_, .nil⟩
 | d::ds,vs,us,h,r=>by
  obtain⟨v,q,e,h1,h2⟩:=(show ∃v r,vs=v::r∧Is H d v∧IsL H ds r by simpa only[IsL] using h)
  rw[e] at r
  cases r with
  | cons r1 r2=>
   obtain⟨as,q1⟩:=Is.reads I d v _ h1 r1
   obtain⟨bs,q2⟩:=IsL.reads I ds q _ h2 r2
   exact⟨_, .cons q1 q2⟩
end
def Vq:V→Bool
 | .mz _=>false
 | .fh _=>false
 | _=>true
def Vr:R2:=fun x y H Q=> ∃a b xs,x= .ref a∧y= .ref b∧H a=some (.lst xs)∧H b=some (.lst xs)∧xs.all Vq=true∧Q (.bl true) H
def kA(neg:Bool):R2:=fun x y H Q=>match jC x y with
 | true=>Q (.bl (neg ^^ decide (x=y))) H
 | false=> ∃d e,Is H d x∧Is H e y∧SeqAt.shaped d=true∧SeqAt.shaped e=true∧Q (.bl (neg ^^ PyData.eqv d e)) H
def Vs:R2:=fun x y H Q=>kA false x y H Q∨Vr x y H Q
theorem Vt(hu:X.A.units+64<cLine):bw X (compareOp .Eq) (kA false):=by
 intro pins s σ H x y v u Q I rx ry h
 unfold kA at h
 by_cases hs:jC x y=true
 ·rw[hs] at h
  simp only[Bool.false_xor] at h
  exact Sl pins s σ H x y v u Q I rx ry ⟨hs,h⟩
 ·rw[show jC x y=false by simpa using hs] at h
  obtain⟨d,e,h1,h2,h3,h4,q⟩:=h
  rw[Bool.false_xor] at q
  obtain⟨as,r1⟩:=Is.reads I d x v h1 rx
  obtain⟨bs,r2⟩:=Is.reads I e y u h2 ry
  exact eq_dataH r1 r2 h3 h4 hu ⟨.bl _,H,I,rfl,q⟩
theorem Vu(hu:X.A.units+64<cLine):bw X (compareOp .NotEq) (kA true):=by
 intro pins s σ H x y v u Q I rx ry h
 unfold kA at h
 by_cases hs:jC x y=true
 ·rw[hs] at h
  simp only[Bool.true_xor] at h
  exact Sm pins s σ H x y v u Q I rx ry ⟨hs,h⟩
 ·rw[show jC x y=false by simpa using hs] at h
  obtain⟨d,e,h1,h2,h3,h4,q⟩:=h
  rw[Bool.true_xor] at q
  obtain⟨as,r1⟩:=Is.reads I d x v h1 rx
  obtain⟨bs,r2⟩:=Is.reads I e y u h2 ry
  exact ne_dataH r1 r2 h3 h4 hu ⟨.bl _,H,I,rfl,q⟩
theorem Vv(l:Addr)(o:Obj)(es:Array DictEntry)(ep:Nat)(hc:o.cls= .type "dict")(hd:o.data= .dict es ep)(b:Str)(u:Tok):
  Meets (Builtin.«dict.__eq__» ⟨[.ref l, .str b u],[]⟩) (fun _ R s=>s.heap.get? l=some o∧R (.ok (.ret .notImplemented)) s):=
 .of_wp fun prog w A R s h=>by obtain⟨hp,g,d,tk,os⟩:=s;obtain⟨hl,h⟩:=h;obtain⟨cls,dd,data,sl⟩:=o;simp only at hc hd;subst hc hd;have f1:=F.sub_str_dict;wp_walk using AutoSeq1.wpAny_loadPart' hl;exact⟨_,rfl,h⟩
theorem Vw(b:Str)(u:Tok)(l:Addr)(o:Obj)(es:Array DictEntry)(ep:Nat)(hc:o.cls= .type "dict")(hd:o.data= .dict es ep):
  Meets (Builtin.«str.__eq__» ⟨[.str b u, .ref l],[]⟩) (fun _ R s=>s.heap.get? l=some o∧R (.ok (.ret .notImplemented)) s):=
 .of_wp fun prog w A R s h=>by obtain⟨hp,g,d,tk,os⟩:=s;obtain⟨hl,h⟩:=h;obtain⟨cls,dd,data,sl⟩:=o;simp only at hc hd;subst hc hd;wp_walk using AutoSeq1.wpAny_loadPart' hl,wpAny_load hl;exact⟨_,rfl,h⟩
theorem Vx{A:Around}{s:Shared}{l:Addr}{o:Obj}{es:Array DictEntry}{ep:Nat}(b:Str)(u:Tok)(ho:s.heap.get? l=some o)(hc:o.cls= .type "dict")(hd:o.data= .dict es ep)(hu:A.units<cLine):SeqAt.EqAt A s (.str b u) (.ref l) false:=fun prog w E Q h=>by
 have rc:SeqAt.RcAt A s (.str b u) (.ref l) false:=fun prog w E Q h=>
  SeqAt.rc_eq_decline_or (k:=false) (typeIs_str s b u) ⟨_,ho,hc⟩ (by decide) F.sub_dict_str F.slot_str_eq F.slot_dict_eq_refl
   (fun _ hq=>call_meets F.slot_str_eq (typeIs_str s b u) F.entry_str_eq (F.args_str_eq_2 _ _) (Vw b u l o es ep hc hd) ⟨ho,hq⟩)
   (fun _ hq=>call_meets F.slot_dict_eq_refl ⟨_,ho,hc⟩ F.entry_dict_eq (F.args_dict_eq_2 _ _) (Vv l o es ep hc hd b u) ⟨ho,hq⟩)
   (fun _ hq=>wpAny_of_eq (rfl:isSame (.str b u) (.ref l)=pure false) hq) (.inr hu) h
 unfold eqBool
 refine wpAny_holding ?_
 refine wpAny_ite_split (fun Vy=>absurd (eq_of_beq Vy) nofun) (fun _=> ?_)
 exact wpAny_bind (rc prog w E _ (wpAny_truthy_bool h))
def KP(K:PySem.W.Frag)(H:Hp)(a:Addr):Prop:=(∃xs,aj K H a xs)∨(∃xs,aF K H a xs)∨ ∃ao,H a=some (.dK ao)
theorem tj{pins:List (Addr×Obj)}{σ:St}{H:Hp}{s:Shared}{a:Addr}(I:Inv X pins σ H s)(hc:KP X.K H a)(hu:X.A.units+64<cLine): ∀{ts:List Str} {us:List Value},Vals (ts.map V.str) us→ ∀u∈us,SeqAt.EqAt X.A.in1 s u (.ref a) false
 | [],_, .nil=>fun u hu=>by cases hu
 | t::ts,u::us, .cons r rs=>fun u' tm=>by
  rcases List.mem_cons.mp tm with rfl | tm
  ·obtain⟨k,rfl⟩:=(show ∃k,_=Value.str t k from r)
   have An:X.A.in1.units<cLine:=by show X.A.units+1<cLine;omega
   rcases hc with⟨xs,hc⟩ | ⟨xs,hc⟩ | ⟨ao,hc⟩
   ·obtain⟨its,_,pl,_⟩:=I.list hc
    exact SeqAt.EqAt.str_list t k pl.isList An
   ·obtain⟨its,_,pl,_⟩:=I.tuple hc
    exact SeqAt.EqAt.str_tuple t k pl An
   ·obtain⟨_,_,vs,_,o,es,ep,ho,hx,hd,_⟩:=(show cG X.prog X.w H s.heap a (.dK ao) from I.aw a _ hc)
    exact Vx t k ho hx.1 hd An
  ·exact tj I hc hu rs u' tm
def wM(K:PySem.W.Frag)(neg:Bool):R2:=fun x y H Q=>match y with
 | .str j=> ∃i,x= .str i∧Q (.bl (if neg then !(!(Builtin.Str.occurrences j i 0 j.length 1).isEmpty) else !(Builtin.Str.occurrences j i 0 j.length 1).isEmpty)) H
 | .ref p=>match x with
  | .ref a=> ∃ts:List Str,(aj K H p (ts.map V.str)∨aF K H p (ts.map V.str))∧KP K H a∧Q (.bl neg) H
  | x=>zT K neg x (.ref p) H Q
 | _=>False
theorem Vz(hu:X.A.units+64<cLine):bw X (compareOp .In) (wM X.K false):=by
 intro pins s σ H x y v u Q I rx ry h
 cases y with
 | str j=>
  obtain⟨i,e,q⟩:=h
  exact Ss pins s σ H x _ v u Q I rx ry ⟨i,j,e,rfl,q⟩
 | ref p=>
  cases x with
  | ref a=>
   obtain⟨ts,hq,hc,q⟩:=h
   cases rx
   cases ry
   rcases hq with hq | hq
   ·obtain⟨its,r,pl,hz⟩:=I.list hq
    refine SeqAt.in_listAt (fun _=>false) pl.isList (fun w hw=>tj I hc hu r w (by simpa using hw)) ⟨.bl _,H,I,rfl, ?_⟩
    rw[show(its.toArray.any fun _=>false)=false by simp];exact q
   ·obtain⟨its,r,pl,hz⟩:=I.tuple hq
    refine SeqAt.in_tupleAt (fun _=>false) pl (fun w hw=>tj I hc hu r w (by simpa using hw)) ⟨.bl _,H,I,rfl, ?_⟩
    rw[show(its.toArray.any fun _=>false)=false by simp];exact q
  | _=>exact TJ pins s σ H _ _ v u Q I rx ry h
 | _=>exact False.elim h
theorem VA(hu:X.A.units+64<cLine):bw X (compareOp .NotIn) (wM X.K true):=by
 intro pins s σ H x y v u Q I rx ry h
 cases y with
 | str j=>
  obtain⟨i,e,q⟩:=h
  exact Sw pins s σ H x _ v u Q I rx ry ⟨i,j,e,rfl,q⟩
 | ref p=>
  cases x with
  | ref a=>
   obtain⟨ts,hq,hc,q⟩:=h
   cases rx
   cases ry
   rcases hq with hq | hq
   ·obtain⟨its,r,pl,hz⟩:=I.list hq
    refine SeqAt.notIn_listAt (fun _=>false) pl.isList (fun w hw=>tj I hc hu r w (by simpa using hw)) ⟨.bl _,H,I,rfl, ?_⟩
    rw[show(its.toArray.any fun _=>false)=false by simp];exact q
   ·obtain⟨its,r,pl,hz⟩:=I.tuple hq
    refine SeqAt.notIn_tupleAt (fun _=>false) pl (fun w hw=>tj I hc hu r w (by simpa using hw)) ⟨.bl _,H,I,rfl, ?_⟩
    rw[show(its.toArray.any fun _=>false)=false by simp];exact q
  | _=>exact TK pins s σ H _ _ v u Q I rx ry h
 | _=>exact False.elim h
theorem VB{M:Model}{A:Around}{E:Value→Shared→Prop}{s:Shared}{Q:Value→Shared→Prop}{v:Value}{d:Bool}(hv: ∀id,v≠ .builtin id)(h:Q (.bool (v== .bool d)) s):wpAny M A (compareOp .Is v (.bool d)) Q E s:=by
 cases v<;>first | exact wpAny_pure h | exact absurd rfl (hv _)
theorem VC{M:Model}{A:Around}{E:Value→Shared→Prop}{s:Shared}{Q:Value→Shared→Prop}{v:Value}{d:Bool}(hv: ∀id,v≠ .builtin id)(h:Q (.bool (!(v== .bool d))) s):wpAny M A (compareOp .IsNot v (.bool d)) Q E s:=by
 cases v<;>first | exact wpAny_pure h | exact absurd rfl (hv _)
def KQ:R2:=fun x y H Q=>match y with
 | .bl b=>Q (.bl (decide (x= .bl b))) H
 | _=>y= .aq∧Q (.bl (decide (x= .aq))) H
def KR:R2:=fun x y H Q=>match y with
 | .bl b=>Q (.bl (!decide (x= .bl b))) H
 | _=>y= .aq∧Q (.bl (!decide (x= .aq))) H
theorem VD:bw X (compareOp .Is) KQ:=by
 intro pins s σ H x y v u Q I rx ry h
 cases y with
 | bl b=>
  cases ry
  have nb: ∀id,v≠ .builtin id:=fun id z=>by
   subst z
   cases x<;>first
    | (obtain⟨t,e⟩:=rx;cases e;done)
    | (cases rx;done)
  refine VB nb (cz I (show Q (.bl (decide (x= .bl b))) H from h) ?_)
  cases x<;>first
   | (cases rx;rfl)
   | (obtain⟨t,rfl⟩:=rx;rfl)
   | (cases rx;rename_i a;cases a<;>cases b<;>rfl)
 | _=>exact Su pins s σ H x _ v u Q I rx ry h
theorem VE:bw X (compareOp .IsNot) KR:=by
 intro pins s σ H x y v u Q I rx ry h
 cases y with
 | bl b=>
  cases ry
  have nb: ∀id,v≠ .builtin id:=fun id z=>by
   subst z
   cases x<;>first
    | (obtain⟨t,e⟩:=rx;cases e;done)
    | (cases rx;done)
  refine VC nb (cz I (show Q (.bl (!decide (x= .bl b))) H from h) ?_)
  cases x<;>first
   | (cases rx;rfl)
   | (obtain⟨t,rfl⟩:=rx;rfl)
   | (cases rx;rename_i a;cases a<;>cases b<;>rfl)
 | _=>exact Sv pins s σ H x _ v u Q I rx ry h
def dz(K:PySem.W.Frag):CmpOp→R2
 | .Eq=>kA false
 | .NotEq=>kA true
 | .Lt=>jH (fun _ _=>True) fun i j=> .bl (decide (i<j))
 | .LtE=>jH (fun _ _=>True) fun i j=> .bl (decide (i≤j))
 | .Gt=>jH (fun _ _=>True) fun i j=> .bl (decide (j<i))
 | .GtE=>jH (fun _ _=>True) fun i j=> .bl (decide (j≤i))
 | .In=>wM K false
 | .NotIn=>wM K true
 | .Is=>KQ
 | .IsNot=>KR
theorem KS(hu:X.A.units+64<cLine)(op:CmpOp):bw X (compareOp op) (dz X.K op):=by
 cases op with
 | Eq=>exact Vt hu
 | NotEq=>exact Vu hu
 | Lt=>exact bw.imp Sn s_
 | LtE=>exact bw.imp So s_
 | Gt=>exact bw.imp Sq s_
 | GtE=>exact bw.imp Sr s_
 | In=>exact Vz hu
 | NotIn=>exact VA hu
 | Is=>exact VD
 | IsNot=>exact VE
inductive Ty where | int | str | bool | list | tuple | dict
 deriving DecidableEq
def Ty.nm:Ty→String
 | .int=> "int" | .str=> "str" | .bool=> "bool" | .list=> "list" | .tuple=> "tuple" | .dict=> "dict"
def cv(T:Ty)(x:V)(H:Hp)(Q:Bool→Prop):Prop:=match x with
 | .aq=>Q false
 | .bl _=>Q (T== .bool || T== .int)
 | .int _=>Q (T== .int)
 | .str _=>Q (T== .str)
 | .ref a=>match H a with
  | some (.lst _)=>Q (T== .list)
  | some (.bQ _ (.lst _))=>Q (T== .list)
  | some (.tup _)=>Q (T== .tuple)
  | some (.dK _)=>Q (T== .dict)
  | some (.dT _)=>Q (T== .dict)
  | _=>False
 | _=>False
theorem mK(K:PySem.W.Frag)(S T:Ty):kitOne K (.type S.nm) (.type T.nm)=some (S==T || (S== .bool && T== .int)):=by
 cases S<;>cases T<;>rfl
theorem VF(K:PySem.W.Frag)(T:Ty):kitOne K (.type "NoneType") (.type T.nm)=some false:=by
 cases T<;>rfl
theorem VG(hc:X.calm=true):cJ X (.builtin "sum") (fun xs H Q=> ∃(p:Addr) (ns:List Int),xs=[.ref p]∧aj X.K H p (ns.map V.int)∧Q (.int ns.sum) H):=by
 intro pins s σ H xs us Q I r h
 obtain⟨p,ns,rfl,hq,q⟩:=h
 obtain⟨u,rfl,ru⟩:=vals1 r
 cases ru
 obtain⟨its,rv,pl,hz⟩:=I.list hq
 have hi:=intsAre_of rv
 obtain⟨xs,hx⟩:=hi.allInts.items
 have eF:s.heap.IsList p (intItems xs):=hx ▸ pl.isList
 refine sum_intListG (I.ok.hd hc) eF fun h' tk t' hk=> ?_
 have e1:ns=xs.toList.map (·.1):=by
  rw[←nums_intItems,←hx]
  exact(show numsOf its.toArray.toList=ns from hi.numsOf).symm
 have e2:preSum (numAt xs) xs.size=ns.sum:=by
  rw[preSum_eq,List.take_of_length_le (by simp),e1]
 rw[e2]
 exact⟨.int ns.sum,H,I.kept (t':=tk) hk,⟨t',rfl⟩,q⟩
theorem KU: ∀{ts:List Str} {us:List Value},Vals (ts.map V.str) us→ ∃l:List (Str×Tok),us=strValues l∧l.map (·.1)=ts
 | [],_, .nil=> ⟨[],rfl,rfl⟩
 | x::ts,_, .cons ⟨t,e⟩ r=>by
  obtain⟨l,e1,e2⟩:=KU r
  subst e e1
  exact⟨(x,t)::l,rfl,by simp[e2]⟩
def rJoin(K:PySem.W.Frag):V→List V→Hp→VK→Prop:=fun x vs H Q=> ∃(sep:Str) (p:Addr) (ts:List Str),x= .str sep∧vs=[.ref p]∧aj K H p (ts.map V.str)∧JoinOk sep ts=true∧Q (.str (Txt.join sep ts)) H
theorem VH:ku X "str.join" (rJoin X.K):=by
 intro pins s σ H x vs v us Q I rx rv h
 obtain⟨sep,p,ts,rfl,rfl,hq,hj,q⟩:=h
 obtain⟨t,rfl⟩:=rx
 obtain⟨u,rfl,ru⟩:=vals1 rv
 cases ru
 obtain⟨its,rv,pl,hz⟩:=I.list hq
 obtain⟨l,rfl,e2⟩:=KU rv
 exact SC.join pl.isList e2 hj fun t' k=> ⟨.str _,H,I.tok k,⟨t',rfl⟩,q⟩
def VI:V→List V→Hp→VK→Prop:=fun x vs H Q=> ∃z y,x= .str z∧vs=[.str y]∧z.length≤sizeLine∧Q (.str (Txt.lstripChars z y)) H
theorem VJ:ku X "str.lstrip" VI:=by
 intro pins s σ H x vs v us Q I rx rv h
 obtain⟨z,y,rfl,rfl,hz,q⟩:=h
 obtain⟨t,rfl⟩:=rx
 obtain⟨u,rfl,⟨t2,rfl⟩⟩:=vals1 rv
 refine call_gives F.slot_str_lstrip (typeIs_str _ _ _) F.entry_str_lstrip (F.args_str_lstrip_2 _ _) (gives_str_lstrip_chars z y t t2) (post_val_or_made (fun _=>fits_stripped _ _ _ hz) fun t' k=> ?_)
 exact⟨.str _,H,I.tok k,⟨t',rfl⟩,q⟩
def VL:V→List V→Hp→VK→Prop:=fun x vs H Q=> ∃z y i,x= .str z∧vs=[.str y, .int i]∧Q (.bl (decide (fromIndex z.length i+y.length≤z.length) && Builtin.Str.subAt z y (fromIndex z.length i))) H
theorem VM:ku X "str.startswith" VL:=by
 intro pins s σ H x vs v us Q I rx rv h
 obtain⟨z,y,i,rfl,rfl,q⟩:=h
 obtain⟨t,rfl⟩:=rx
 obtain⟨u,w,rfl,⟨t2,rfl⟩,⟨t3,rfl⟩⟩:=vals2 rv
 exact call_gives F.slot_str_startswith (typeIs_str _ _ _) F.entry_str_startswith (F.args_str_startswith_3 _ _ _) (gives_str_startswith_from z y i t t2 t3) ⟨.bl _,H,I,rfl,q⟩
def kD{α:Type}(xs:List α)(lo hi:Option Int):List α:=(xs.drop (HT.bh xs.length 0 lo)).take (HT.bh xs.length xs.length hi - HT.bh xs.length 0 lo)
def jI(z:Str)(lo hi:Option Int):Str:=⟨(kD z.cps.toList lo hi).toArray⟩
theorem VN(z:Str)(lo hi:Option Int):((Builtin.Str.strSliceIndices lo hi 1 z.length).filterMap (z.cps[·]?))=kD z.cps.toList lo hi:=by
 obtain⟨h1,h2,h3⟩:=zS lo hi z.length
 have e0:Builtin.Str.strSliceIndices lo hi 1 z.length=sliceRange (sliceBounds lo hi none z.length).1 (sliceBounds lo hi none z.length).2.1 (sliceBounds lo hi none z.length).2.2:=rfl
 have hz:z.cps.toList.length=z.length:=by simp[Str.length]
 rw[e0,h1,h2,h3,sliceRange_one,pick_run]
 unfold kD
 rw[hz]
end
section
variable {X:Cx}
def qx(K:PySem.W.Frag)(neg:Bool):R2:=fun x y H Q=> ∃p xs d es,y= .ref p∧aj K H p xs∧Is H d x∧IsL H es xs∧SeqAt.shaped d=true∧d.depth≤60∧(∀e∈es,SeqAt.shaped e=true)∧Q (.bl (neg ^^ es.any fun e=>PyData.eqv e d)) H
theorem KW{h:Heap}{d:PyData}(e:Value→Bool)(he: ∀y de as,Reads h y de as→de.canLay0=true→e y=PyData.eqv de d): ∀{us:List Value} {ds:List PyData} {bs:List Addr},ReadsAll h us ds bs→(∀x∈ds,x.canLay0=true)→us.any e=ds.any fun x=>PyData.eqv x d
 | _,_,_, .nil,_=>rfl
 | _,_,_, .cons r rs,hc=>by
  rw[List.any_cons,List.any_cons,he _ _ _ r (hc _ List.mem_cons_self),KW e he rs fun x hx=>hc x (List.mem_cons_of_mem _ hx)]
theorem KY{h:Heap}: ∀{us:List Value} {ds:List PyData} {bs:List Addr},ReadsAll h us ds bs→ ∀u∈us,∃d∈ds,∃as,Reads h u d as
 | _,_,_, .nil,u,hu=>by cases hu
 | _,_,_, .cons r rs,u,hu=>by
  rcases List.mem_cons.mp hu with rfl | hu
  ·exact⟨_,List.mem_cons_self,_,r⟩
  ·obtain⟨d,hd,as,q⟩:=KY rs u hu
   exact⟨d,List.mem_cons_of_mem _ hd,as,q⟩
open Classical in
theorem VO{pins:List (Addr×Obj)}{s:Shared}{σ:St}{H:Hp}{x:V}{v:Value}{d:PyData}{es:List PyData}{xs:List V}{its:List Value}(I:Inv X pins σ H s)(hu:X.A.units+64<cLine)(hx:Is H d x)(rx:RelV x v)(hs:IsL H es xs)(r:Vals xs its)(sd:SeqAt.shaped d=true)(dep:d.depth≤60)(se: ∀e∈es,SeqAt.shaped e=true):
  ∃e:Value→Bool,(∀w∈its,SeqAt.EqAt X.A.in1 s w v (e w))∧its.any e=es.any fun e=>PyData.eqv e d:=by
 obtain⟨as,rd⟩:=Is.reads I d x v hx rx
 obtain⟨bs,ra⟩:=IsL.reads I es xs its hs r
 have cd:=SeqAt.canLay_of_shaped sd
 let e:Value→Bool:=fun y=>decide (∃de qy,Reads s.heap y de qy∧de.canLay0=true∧PyData.eqv de d=true)
 have he: ∀y de qy,Reads s.heap y de qy→de.canLay0=true→e y=PyData.eqv de d:=by
  intro y de qy q c
  show decide _=_
  cases hv:PyData.eqv de d with
  | true=>exact decide_eq_true ⟨de,qy,q,c,hv⟩
  | false=>
   refine decide_eq_false fun⟨VP,wN,q',_,wd⟩=> ?_
   have:=SeqAt.Reads.unique de VP y qy wN c q q'
   rw[←this,hv] at wd
   cases wd
 refine⟨e,fun w hw=> ?_,KW e he ra fun x hx=>SeqAt.canLay_of_shaped (se x hx)⟩
 obtain⟨de,Ao,wN,q⟩:=KY ra w hw
 have KZ:=SeqAt.canLay_of_shaped (se de Ao)
 rw[he w de wN q KZ]
 exact SeqAt.eqAt_reads de d X.A.in1 s w v wN as q rd KZ cd (by show X.A.units+1+min de.depth d.depth<cLine;omega)
theorem VQ(hu:X.A.units+64<cLine):bw X (compareOp .NotIn) (qx X.K true):=by
 intro pins s σ H x y v u Q I rx ry h
 obtain⟨p,xs,d,es,rfl,hq,hx,hs,sd,dep,se,q⟩:=h
 cases ry
 obtain⟨its,r,pl,hz⟩:=I.list hq
 obtain⟨e,he,ha⟩:=VO I hu hx rx hs r sd dep se
 refine SeqAt.notIn_listAt e pl.isList (fun w hw=>he w (by simpa using hw)) ⟨.bl _,H,I,rfl, ?_⟩
 rw[show its.toArray.any e=its.any e by simp,ha]
 simpa using q
end
def mL:HO:= .ext fun _=>True
structure Ap (ob:Obj) (cls:Value) (vs:Array Value):Prop where
 cls:ob.cls=cls
 data:ob.data= .fields vs
 VR:vs[2]?=some .none
 dict:ob.dict=none
def ExcAt(H:Hp)(ea D:Addr):Prop:= ∃ob vs,H ea=some (.bQ ob mL)∧Ap ob (.ref D) vs
structure tq (K:PySem.W.Frag) (D:Addr):Prop where
 tu:PySem.W.findIn K (.ref D) "__getattribute__"=some (some (.builtin "BaseException.__getattribute__"))
 tw:PySem.W.findIn K (.ref D) "__getattr__"=some none
 hk:(PySem.W.clsIn K D).isSome=true
 ha:PySem.W.findIn K (.ref D) "__class__"=some (some (.builtin "object.__class__"))
 hn:PySem.W.specialIn K (.builtin "object.__class__") "__get__"=some (some (.builtin "getset_descriptor.__get__"))
 mE:PySem.W.takesIn K (.builtin "object.__class__")=some true
 hm:PySem.W.mroIn K D (.type "object")=some true
 hb:PySem.W.mroIn K D (.type "BaseException")=some true
def cV:V→Value
 | .ref a=> .ref a
 | .ty n=> .type n
 | _=> .none
def jJ(K:PySem.W.Frag):List V→Hp→VK→Prop
 | [.ref ea,c],H,Q=> ∃D b,ExcAt H ea D∧tq K D∧((∃C,c= .ref C)∨ ∃n,c= .ty n)∧kitOne K (.ref D) (cV c)=some b∧Q (.bl b) H
 | _,_,_=>False
def K0(sp:Sp)(hv:Option Addr)(t:TA):TE:=fun σ H Q=>t σ H fun vs H1=> (∃ea D,hv=some ea∧ExcAt H1 ea D)∧sp vs H1 Q E0
def Aq(C:Addr)(E:XK)(t:TA):TS:=fun _ σ H=>t σ H fun vs H1=>vs.length≤sizeLine∧E (.ref C) none H1
def Ar(K:PySem.W.Frag)(C:Addr)(i n:Nat)(th:Addr→TS)(D:Ends):XK:=fun cls _ H'=>exmOne K cls (.ref C)=some true∧
 ∀(ea:Addr) (ob:Obj) (vs:Array Value) (σ':St),H' ea=none→σ'.length=n→Ap ob cls vs→th ea {nx:=fun _ _=>False,rt:=D.rt} (σ'.set i (some (.ref ea))) (upd H' ea (.bQ ob mL))
def wO(K:PySem.W.Frag)(C:Addr)(i n:Nat)(tb:XK→TS)(th:Addr→TS):TS:=fun D σ H=>tb (Ar K C i n th D) {nx:=D.nx,rt:=D.rt} σ H
inductive kE where | len | min | max | sum | int | list | tuple | abs
 deriving DecidableEq
inductive gP where | append | pop | extend | join | lstrip | starts | reverse | clear | index | find | count | As | Au
 deriving DecidableEq
inductive IK where | list | tup | fI | VS | zip | VT
 deriving DecidableEq
inductive RE where
 | v (i:Nat) | c (x:V) | g (j:Nat)
 | bin (op:Operator) (a b:RE) | neg (a:RE)
 | cmp (op:CmpOp) (a b:RE) | K1 (op nY:CmpOp) (a b d:RE) | K2 (op nY K3:CmpOp) (a b d f:RE)
 | and (as:List RE) | or (as:List RE) | not (a:RE) | tD (t a b:RE)
 | call (j:Nat) (as:List RE) | blt (b:kE) (as:List RE) | d3 (T:Ty) (a:RE)
 | bJ (m:gP) (o:RE) (as:List RE)
 | ix (a b:RE) | sl (a:RE) (lo hi:Option RE)
 | tup (as:List RE) | lst (as:List RE)
 | comp (tk:Option Nat) (fv:List (Str×Nat)) (k:IK) (its:List RE) (cond:Option RE) (elt:RE)
 | di (a c:RE) | wQ (j:Nat) (a:RE) | VU | same (a b:RE)
 | Av | tE (a b:RE) | wR (a b:RE) | K4 (a b:RE) | VV (o a b:RE) | inD (a b:RE) | tF (a b:RE)
 | fld (o:RE) (f:Str) | eV (j:Nat) (m:Str) (o:RE) (as:List RE) | make (j:Nat) (as:List RE)
inductive RS where
 | asg (i:Nat) (e:RE) | qz (i:Nat) (e:RE) | set (o ix e:RE)
 | drop (e:RE) | ret (e:RE) | VW
 | ite (c:RE) (t e:List RS)
 | nZ (i:Nat) (k:IK) (its:List RE) (body:List RS)
 | jK (is:List Nat) (k:IK) (its:List RE) (body:List RS)
 | tG (c:RE) (body:List RS)
 | pass | brk | cont | never
 | VX (o lo hi e:RE) | mM (o:RE) (f:Str) (e:RE)
 | VY (is:List Nat) (e:RE) | dput (o i e:RE) | jL (j:Nat) (as:List RE) | Aw (n i j:Nat) (body su:List RS)
structure aG where
 K:PySem.W.Frag
 fs:Nat→Sp
 gv:Nat→V
 E:XK
 sd:Addr→List (Key×V)→Prop
 ms:Nat→Addr×Sp
 kt:Nat→Addr×Sp
 ex:Nat→Addr
 hs:Nat→Sp
 hv:Option Addr
abbrev aG.calm(Γ:aG):aG:={Γ with E:=E0}
def kI(K:PySem.W.Frag)(x:V)(H:Hp)(Q:Bool→Prop):Prop:=match x with
 | .aq=>Q false
 | .bl b=>Q b
 | .int i=>Q (i !=0)
 | .str y=>y.length≤sizeLine∧Q ((y.length:Int) !=0)
 | .ref p=> (∃xs,aj K H p xs∧Q (!xs.isEmpty))∨(∃xs,aF K H p xs∧Q (!xs.isEmpty))∨ ∃ao,H p=some (.dK ao)∧Q (!ao.isEmpty)
 | _=>False
theorem K5{K:PySem.W.Frag}{x:V}{H:Hp}{Q:Bool→Prop}(h:kI K x H Q): ∃k,JB K x H k∧Q k:=by
 cases x with
 | aq=>exact⟨_,rfl,h⟩
 | bl b=>exact⟨_,rfl,h⟩
 | int i=>exact⟨_,rfl,h⟩
 | str y=>exact⟨_,⟨h.1,rfl⟩,h.2⟩
 | ref p=>
  rcases h with⟨xs,h1,h2⟩ | ⟨xs,h1,h2⟩ | ⟨xs,h1,h2⟩
  ·exact⟨_, .inl ⟨xs,h1,rfl⟩,h2⟩
  ·exact⟨_, .inr (.inl ⟨xs,h1,rfl⟩),h2⟩
  ·exact⟨_, .inr (.inr ⟨xs,h1,rfl⟩),h2⟩
 | _=>exact False.elim h
def gh(K:PySem.W.Frag)(t:TE):TT:=fun σ H Q=>t σ H fun x H1=>kI K x H1 fun b=>Q b H1
def Ax(K:PySem.W.Frag)(t:TE):TE:=fun σ H Q=>t σ H fun x H1=>kI K x H1 fun b=>Q (.bl (!b)) H1
def K6:V→Hp→VK→Prop:=fun x H Q=>match x with | .int i=>Q (.int (-i)) H | _=>False
def wu(K:PySem.W.Frag)(x:V)(H:Hp)(Q:Nat→Prop):Prop:=match x with
 | .str y=>y.length≤sizeLine∧Q y.length
 | .ref p=> (∃xs,aj K H p xs∧Q xs.length)∨ ∃xs,aF K H p xs∧Q xs.length
 | _=>False
def signs(x:Str):List V:=x.cps.toList.map fun c=>V.str ⟨#[c]⟩
def VZ:TE:=fun _ H Q=> ∀p,H p=none→Q (.ref p) (upd H p (.dK []))
def mO(K:PySem.W.Frag):kE→List V→Hp→VK→Prop
 | .len,[x],H,Q=>wu K x H fun n=>Q (.int n) H
 | .min,[.int i, .int j],H,Q=>Q (.int (if j<i then j else i)) H
 | .max,[.int i, .int j],H,Q=>Q (.int (if j>i then j else i)) H
 | .min,[.ref p],H,Q=> ∃ns:List Int,aj K H p (ns.map V.int)∧ns≠ []∧ ∀m:Int,m∈ns→(∀n∈ns,m≤n)→Q (.int m) H
 | .max,[.ref p],H,Q=> ∃ns:List Int,aj K H p (ns.map V.int)∧ns≠ []∧ ∀m:Int,m∈ns→(∀n∈ns,n≤m)→Q (.int m) H
 | .sum,[.ref p],H,Q=> ∃ns:List Int,aj K H p (ns.map V.int)∧Q (.int ns.sum) H
 | .int,[.int i],H,Q=>Q (.int i) H
 | .int,[.bl k],H,Q=>Q (.int (if k then 1 else 0)) H
 | .list,[.ref p],H,Q=> ∃ys,(aj K H p ys∨aF K H p ys)∧ ∀l,H l=none→Q (.ref l) (upd H l (.lst ys))
 | .list,[.str x],H,Q=>x.length≤sizeLine∧ ∀l,H l=none→Q (.ref l) (upd H l (.lst (signs x)))
 | .tuple,[.str x],H,Q=>x.length≤sizeLine∧ ∀l,H l=none→Q (.ref l) (upd H l (.tup (signs x)))
 | .abs,[.int i],H,Q=>Q (.int (if i<0 then -i else i)) H
 | .tuple,[.ref p],H,Q=> ∃ys,(aj K H p ys∧ ∀l,H l=none→Q (.ref l) (upd H l (.tup ys)))∨(aF K H p ys∧Q (.ref p) H)
 | _,_,_,_=>False
def wU(T:Ty):List V→Hp→VK→Prop
 | [x, .ty n],H,Q=>n=T.nm∧cv T x H fun b=>Q (.bl b) H
 | _,_,_=>False
def tH(K:PySem.W.Frag):gP→V→List V→Hp→VK→Prop
 | .append, .ref l,[y],H,Q=> ∃xs,H l=some (.lst xs)∧xs.length<sizeLine∧Q .aq (upd H l (.lst (xs++ [y])))
 | .pop, .ref l,[],H,Q=> ∃xs y,H l=some (.lst xs)∧xs[xs.length - 1]?=some y∧Q y (upd H l (.lst xs.dropLast))
 | .extend, .ref l,[.ref b],H,Q=> ∃xs zs,H l=some (.lst xs)∧H b=some (.lst zs)∧xs.length+zs.length≤sizeLine∧Q .aq (upd H l (.lst (xs++zs)))
 | .join, .str sep,[.ref p],H,Q=> ∃ts:List Str,aj K H p (ts.map V.str)∧JoinOk sep ts=true∧Q (.str (Txt.join sep ts)) H
 | .lstrip, .str z,[.str y],H,Q=>z.length≤sizeLine∧Q (.str (Txt.lstripChars z y)) H
 | .starts, .str z,[.str y, .int i],H,Q=>Q (.bl (decide (fromIndex z.length i+y.length≤z.length) && Builtin.Str.subAt z y (fromIndex z.length i))) H
 | .find, .str z,[.str y],H,Q=>Q (.int (match Builtin.Str.occurrences z y 0 z.length 1 with | i::_=> (i:Int) | []=> -1)) H
 | .find, .str z,[.str y, .int i],H,Q=>Q (.int (match Builtin.Str.occurrences z y (fromIndex z.length i) z.length 1 with | k::_=> (k:Int) | []=> -1)) H
 | .count, .str z,[.str y],H,Q=>Q (.int (Builtin.Str.occurrences z y 0 z.length (z.length+1)).length) H
 | .reverse, .ref l,[],H,Q=> ∃xs,H l=some (.lst xs)∧Q .aq (upd H l (.lst xs.reverse))
 | .index, .ref l,[.str y],H,Q=> ∃ts:List Str,aj K H l (ts.map V.str)∧y∈ts∧Q (.int (ts.idxOf y:Nat)) H
 | .clear, .ref l,[],H,Q=> ∃xs,H l=some (.lst xs)∧Q .aq (upd H l (.lst []))
 | .As, .ref l,[y],H,Q=> ∃xs,aj K H l xs∧eE y=true∧xs.all eE=true∧Q (.int (xs.countP (fun z=>eT z y):Nat)) H
 | .Au, .ref l,[y],H,Q=> ∃xs,aj K H l xs∧eE y=true∧xs.all eE=true∧gg y xs=true∧Q (.int (xs.findIdx (fun z=>eT z y):Nat)) H
 | _,_,_,_,_=>False
def wV:gP→String
 | .join | .lstrip | .starts | .find | .count=> "str"
 | _=> "list"
def qA(K:PySem.W.Frag)(m:gP)(to:TE)(t:TA):TE:=fun σ H Q=>to σ H fun x H1=>sN K (wV m) x H1∧t σ H1 fun xs H2=>tH K m x xs H2 Q
def Ay(K:PySem.W.Frag):V→Option Int→Option Int→Hp→VK→Prop:=fun x lo hi H Q=>match x with
 | .str z=>z.length≤sizeLine∧Q (.str (jI z lo hi)) H
 | .ref a=> (∃xs,aj K H a xs∧ ∀p,H p=none→Q (.ref p) (upd H p (.lst (gO xs lo hi))))∨
  (∃xs,aF K H a xs∧ ¬(HT.bh xs.length 0 lo=0∧HT.bh xs.length xs.length hi=xs.length)∧ ∀p,H p=none→Q (.ref p) (upd H p (.tup (gO xs lo hi))))
 | _=>False
def n4(ao:List (Key×V))(k:Key):Option V:=(ao.find? fun kv=>decide (kv.1=k)).map (·.2)
def K7(sd:Addr→List (Key×V)→Prop):R2:=fun x y H Q=> ∃p ao k v,x= .ref p∧y=kV k∧sd p ao∧n4 ao k=some v∧Q v H
def n_(K:PySem.W.Frag)(sd:Addr→List (Key×V)→Prop):R2:=fun x y H Q=>J0 K x y H Q∨J3 K x y H Q∨J4 x y H Q∨K7 sd x y H Q
def V0(r r' r2:R2)(ta tb tc td:TE):TT:=fun σ H Q=>ta σ H fun x H1=>tb σ H1 fun y H2=>r x y H2 fun z H3=> ∃k,z= .bl k∧
 (if k=true then tc σ H3 fun w H4=>r' y w H4 fun z2 H5=> ∃k2,z2= .bl k2∧(if k2=true then td σ H5 fun u H6=>r2 w u H6 fun z3 H7=> ∃k3,z3= .bl k3∧Q k3 H7 else Q false H5) else Q false H3)
def tI(K:PySem.W.Frag)(a b:Addr):It:=
  ⟨fun i H=> ∃xs ys,aj K H a xs∧aj K H b ys∧i<xs.length∧i<ys.length,
   fun i H x H'=> ∃T,H T=none∧x= .ref T∧ ∀xs ys u v,aj K H a xs→aj K H b ys→xs[i]?=some u→ys[i]?=some v→H'=upd H T (.tup [u,v]),
   fun i H=> ∃xs ys,aj K H a xs∧aj K H b ys∧i=min xs.length ys.length⟩
def V1(K:PySem.W.Frag)(a:Addr):It:=
  ⟨fun i H=> ∃xs,aj K H a xs∧i<xs.length,
   fun i H x H'=> ∃T,H T=none∧x= .ref T∧ ∀xs u,aj K H a xs→xs[i]?=some u→H'=upd H T (.tup [.int (i:Nat),u]),
   fun i H=> ∃xs,aj K H a xs∧i=xs.length⟩
def V2(K:PySem.W.Frag)(ta:TA):TI:=fun σ H R=>ta σ H fun vs H1=> ∃a,vs=[.ref a]∧(∃xs,aj K H1 a xs)∧R (V1 K a) H1
def Az(K:PySem.W.Frag)(ta:TA):TI:=fun σ H R=>ta σ H fun vs H1=> ∃a b,vs=[.ref a, .ref b]∧(∃xs,aj K H1 a xs)∧(∃ys,aj K H1 b ys)∧R (tI K a b) H1
mutual
def ag(Γ:aG):RE→TE
 | .v i=>zu i
 | .c x=>tC x
 | .g j=>tC (Γ.gv j)
 | .bin op a b=>dY (qw Γ.K op) (ag Γ a) (ag Γ b)
 | .neg a=>Js K6 (ag Γ a)
 | .cmp op a b=>dY (dz Γ.K op) (ag Γ a) (ag Γ b)
 | .K1 op nY a b d=>JA (dz Γ.K op) (dz Γ.K nY) (ag Γ a) (ag Γ b) (ag Γ d)
 | .K2 _ _ _ _ _ _ _=>fun _ _ _=>False
 | .and as=>K8 Γ as
 | .or as=>K9 Γ as
 | .not a=>Ax Γ.K (ag Γ a)
 | .tD t a b=>Jc (bD Γ t) (ag Γ a) (ag Γ b)
 | .call j as=>zH (Γ.fs j) [] Γ.E (bK Γ as)
 | .blt b as=>jE (mO Γ.K b) (bK Γ as)
 | .d3 T a=>jE (wU T) (dM (ag Γ a) (dM (tC (.ty T.nm)) gN))
 | .bJ m o as=>qA Γ.K m (ag Γ o) (bK Γ as)
 | .ix a b=>dY (n_ Γ.K Γ.sd) (ag Γ a) (ag Γ b)
 | .sl a lo hi=>zO (Ay Γ.K) (ag Γ a) (mP Γ lo) (mP Γ hi)
 | .tup as=>JI (bK Γ as)
 | .lst as=>JJ (bK Γ as)
 | .comp tk fv k its cond elt=>mH Γ.K (hZ Γ k its) tk fv (tJ Γ.calm cond) (ag Γ.calm elt)
 | .di a c=>jE (jJ Γ.K) (dM (ag Γ a) (dM (ag Γ c) gN))
 | .VU=>VZ
 | .same a b=>dY Vs (ag Γ a) (ag Γ b)
 | .inD a b=>dY (qx Γ.K false) (ag Γ a) (ag Γ b)
 | .tF a b=>dY (qx Γ.K true) (ag Γ a) (ag Γ b)
 | .Av=>Kj
 | .tE a b=>Kg (ag Γ a) (ag Γ b)
 | .wR a b=>Ae (ag Γ a) (ag Γ b)
 | .K4 a b=>Kh (ag Γ a) (ag Γ b)
 | .VV o a b=>UR (ag Γ o) (ag Γ a) (ag Γ b)
 | .wQ j a=>K0 (Γ.hs j) Γ.hv (dM (ag Γ a) gN)
 | .fld o f=>wg Γ.K (ag Γ o) f
 | .eV j m o as=>qt (Γ.ms j).1 m (Γ.ms j).2 [] Γ.E (ag Γ o) (bK Γ as)
 | .make j as=>zI (Γ.kt j).1 (Γ.kt j).2 [] Γ.E (bK Γ as)
def bD(Γ:aG):RE→TT
 | .not a=>Ja (bD Γ a)
 | .inD a b=>nN (dY (qx Γ.K false) (ag Γ a) (ag Γ b))
 | .tF a b=>nN (dY (qx Γ.K true) (ag Γ a) (ag Γ b))
 | .wR a b=>tB (Ae (ag Γ a) (ag Γ b))
 | .K4 a b=>tB (Kh (ag Γ a) (ag Γ b))
 | .and as=>K_ Γ as
 | .or as=>La Γ as
 | .cmp op a b=>nN (dY (dz Γ.K op) (ag Γ a) (ag Γ b))
 | .K1 op nY a b d=>nN (JA (dz Γ.K op) (dz Γ.K nY) (ag Γ a) (ag Γ b) (ag Γ d))
 | .K2 op nY K3 a b d f=>V0 (dz Γ.K op) (dz Γ.K nY) (dz Γ.K K3) (ag Γ a) (ag Γ b) (ag Γ d) (ag Γ f)
 | .v i=>gh Γ.K (zu i)
 | .call j as=>gh Γ.K (zH (Γ.fs j) [] Γ.E (bK Γ as))
 | .d3 T a=>gh Γ.K (jE (wU T) (dM (ag Γ a) (dM (tC (.ty T.nm)) gN)))
 | .di a c=>gh Γ.K (jE (jJ Γ.K) (dM (ag Γ a) (dM (ag Γ c) gN)))
 | .bJ m o as=>gh Γ.K (qA Γ.K m (ag Γ o) (bK Γ as))
 | .ix a b=>gh Γ.K (dY (n_ Γ.K Γ.sd) (ag Γ a) (ag Γ b))
 | .bin op a b=>gh Γ.K (dY (qw Γ.K op) (ag Γ a) (ag Γ b))
 | .fld o f=>gh Γ.K (wg Γ.K (ag Γ o) f)
 | .eV j m o as=>gh Γ.K (qt (Γ.ms j).1 m (Γ.ms j).2 [] Γ.E (ag Γ o) (bK Γ as))
 | _=>fun _ _ _=>False
def bK(Γ:aG):List RE→TA
 | []=>gN
 | a::r=>dM (ag Γ a) (bK Γ r)
def K8(Γ:aG):List RE→TE
 | []=>fun _ _ _=>False
 | [a]=>ag Γ a
 | a::r=>Jb (ag Γ a) (K8 Γ r)
def K9(Γ:aG):List RE→TE
 | []=>fun _ _ _=>False
 | [a]=>ag Γ a
 | a::r=>RD (ag Γ a) (K9 Γ r)
def K_(Γ:aG):List RE→TT
 | []=>fun _ _ _=>False
 | [a]=>bD Γ a
 | a::r=>IZ (bD Γ a) (K_ Γ r)
def La(Γ:aG):List RE→TT
 | []=>fun _ _ _=>False
 | [a]=>bD Γ a
 | a::r=>I_ (bD Γ a) (La Γ r)
def mP(Γ:aG):Option RE→TO
 | none=>JV
 | some a=>wm (ag Γ a)
def tJ(Γ:aG):Option RE→Option TT
 | none=>none
 | some a=>some (bD Γ a)
def hZ(Γ:aG)(k:IK):List RE→TI
 | []=>fun _ _ _=>False
 | a::r=>match k with
  | .list=>sE Γ.K (ag Γ a)
  | .tup=>R0 Γ.K (ag Γ a)
  | .fI=>Jo (dM (ag Γ a) (bK Γ r))
  | .VS=>R4 (dM (ag Γ a) (bK Γ r))
  | .zip=>Az Γ.K (dM (ag Γ a) (bK Γ r))
  | .VT=>V2 Γ.K (dM (ag Γ a) (bK Γ r))
end
structure dt where
 N:List Str
 sc:Scope
 fn:List Str
 gn:List Str
 bl:List Str
 mn:List Str
 kn:List Str
 en:List Str
 hn:List Str
 md:Nat
def AA(sc:Scope)(x:Str):Bool:=match sc.names.lookup x with
 | some .local=>true | some .cell=>true | some .free=>true | _=>false
def loc(sc:Scope)(x:Str):Bool:=match sc.names.lookup x with
 | some .local=>true | some .cell=>true | _=>false
def kJ(sc:Scope)(x:Str):Bool:=match sc.names.lookup x with
 | some .globalImplicit=>true | _=>false
theorem V3{sc:Scope}{x:Str}(h:AA sc x=true):vO sc x:=by
 unfold AA at h
 unfold vO
 cases e:sc.names.lookup x with
 | none=>rw[e] at h;cases h
 | some k=>rw[e] at h;cases k<;>first | exact .inl rfl | exact .inr (.inl rfl) | exact .inr (.inr rfl) | cases h
theorem wW{sc:Scope}{x:Str}(h:loc sc x=true):Loc sc x:=by
 unfold loc at h
 unfold Loc
 cases e:sc.names.lookup x with
 | none=>rw[e] at h;cases h
 | some k=>rw[e] at h;cases k<;>first | exact .inl rfl | exact .inr rfl | cases h
theorem V4{sc:Scope}{x:Str}(h:kJ sc x=true):sc.names.lookup x=some .globalImplicit:=by
 unfold kJ at h
 cases e:sc.names.lookup x with
 | none=>rw[e] at h;cases h
 | some k=>rw[e] at h;cases k<;>first | rfl | cases h
structure tK where
 elt:Expr
 tg:Expr
 iter:Expr
 ifs:List Expr
 sc:Scope
def kE.nm:kE→Str
 | .len=> "len" | .min=> "min" | .max=> "max" | .sum=> "sum" | .int=> "int" | .list=> "list" | .tuple=> "tuple" | .abs=> "abs"
def gP.nm:gP→Str
 | .append=> "append" | .pop=> "pop" | .extend=> "extend" | .join=> "join" | .lstrip=> "lstrip" | .starts=> "startswith" | .reverse=> "reverse" | .clear=> "clear" | .index=> "index" | .find=> "find" | .count=> "count" | .As=> "count" | .Au=> "index"
def mQ:Expr→Bool
 | .Call (.Name _ _) [] [] _=>false
 | _=>true
def noStar:Expr→Bool
 | .Starred ..=>false
 | _=>true
def tL:Expr→Bool
 | .Set ..=>false
 | _=>true
def AB(Lb sc:Scope):Scope:=
 {Lb with names:=Lb.names.map fun(n,k)=>if (k== .free && sc.kind== .function && sc.names.lookup n==some .cell) then (n, .cell) else (n,k)}
def AD(tk:Option Nat)(tg:Expr):Option (List Str):=match tk,tg with
 | none, .Name x _=>some [x]
 | some 2, .Tuple [.Name x _, .Name y _] _ _=>some [x,y]
 | _,_=>none
def Lc(S:dt)(c:tK)(ln:List Str)(fv:List (Str×Nat)):dt:={S with N:=ln++fv.map (·.1),sc:=AB c.sc S.sc,en:=[],md:=if S.md=0 then 0 else 2}
def AE(S:dt)(c:tK)(ln:List Str)(fv:List (Str×Nat)):Bool:=
 decide (c.sc.kind= .function) && c.sc.names.all (fun y=>decide (y.2≠ .cell)) && c.sc.names.all (fun y=>decide (y.2≠ .local) || decide (c.sc.names.lookup y.1=some .local))
 && c.sc.names.all (fun y=>decide (y.2≠ .free) || decide (S.sc.names.lookup y.1=some .cell) || decide (S.sc.names.lookup y.1=some .free))
 && fv.all (fun p=>decide (S.N[p.2]?=some p.1) && decide (c.sc.names.lookup p.1=some .free))
 && ln.all (fun x=>decide (c.sc.names.lookup x=some .local)) && decide ((ln++fv.map (·.1)).Nodup) && tL c.iter
theorem V5{P:Program}{w:World}{K:PySem.W.Frag}{elts:List Expr}{k:Nat}{pos:Pos}{z TI TO i1 i2 l1 l2:Addr}(D:ZipApart z TI TO i1 i2 l1 l2)(dl:l1≠TI∧l2≠TI):
  Turn P w K (.Tuple elts k pos) (tI K l1 l2) [z,TI,TO,i1,i2] z
   (fun i h=>IsZip h z TI TO .none∧IsPair h TI (.ref i1) (.ref i2)∧(∃a b,IsPair h TO a b)∧h.IsListIter i1 l1 i∧h.IsListIter i2 l2 i) where
 mem:=by simp
 obj:=fun i h st b hb=>by
  obtain⟨hz,kN,⟨a,b',kO⟩,⟨o1,e1,c1,d1⟩,⟨o2,e2,c2,d2⟩⟩:=st
  simp only[List.mem_cons,List.not_mem_nil,or_false] at hb
  rcases hb with rfl | rfl | rfl | rfl | rfl
  ·exact⟨_,hz,fun v q=>by cases q⟩
  ·exact⟨_,kN,fun v q=>by cases q⟩
  ·exact⟨_,kO,fun v q=>by cases q⟩
  ·exact⟨_,e1,fun v q=>by rw[d1] at q;cases q⟩
  ·exact⟨_,e2,fun v q=>by rw[d2] at q;cases q⟩
 keep:=fun i h h' st hk=>by
  obtain⟨hz,kN,⟨a,b',kO⟩,h1,h2⟩:=st
  exact⟨hk z (by simp) _ hz,hk TI (by simp) _ kN,⟨a,b',hk TO (by simp) _ kO⟩,h1.at fun o e=>hk i1 (by simp) o e,h2.at fun o e=>hk i2 (by simp) o e⟩
 item:=by
  intro X hP hw hK hc i pins s σ H E I hf st hg
  subst hP hw hK
  obtain⟨xs,ys,hx,hy,hi1,hi2⟩:=hg
  obtain⟨og,r1,p1,z1⟩:=I.list hx
  obtain⟨fM,r2,p2,z2⟩:=I.list hy
  have oh:=r1.length
  have jc:=r2.length
  have W:=WalksT.zip2 (prog:=X.prog) (w:=X.w) (A:=X.A) (I.ok.hd hc) z TI TO i1 i2 l1 l2 D og.toArray fM.toArray
  obtain⟨hz,kN,kO,h1,h2⟩:=id st
  have hn:i<min og.toArray.size fM.toArray.size:=by simp only[List.size_toArray];omega
  refine W.item i s _ _ hn ⟨hz,kN,kO,h1,h2,p1.isList,p2.isList⟩ fun T vals h' tk hv hT V6 mid hk=> ?_
  refine⟨.ref T,rfl, ?_⟩
  refine W.go elts k pos i T _ _ _ mid fun wX V7 Ld=> ?_
  obtain⟨u,v,eu,ev,rfl⟩:=hv
  have fz: ∀b∈ [z,TO,i1,i2],b∈ [z,TI,TO,i1,i2]:=fun b hb=>by
   simp only[List.mem_cons,List.not_mem_nil,or_false] at hb⊢
   rcases hb with rfl | rfl | rfl | rfl<;>simp
  have kk: ∀b o,b∉ [z,TO,i1,i2]→s.heap.get? b=some o→wX.get? b=some o:=fun b o hb e=>Ld b o hb (hk b o hb e)
  have I1:Inv X pins σ H {s with heap:=wX,toks:=tk}:=by
   refine I.step (g':=s.gens) (d':=s.drawn) (ch:=[z,TO,i1,i2]) (fun b hb=> ?_) (fun b o _ _ hc e _=>kk b o hc e) (fun b o _ _ hc e _=> ⟨o.slots,kk b o hc e⟩) (fun _ _ _ _ n=>n)
    (fun b o hc e=> ⟨o,kk b o hc e⟩) (fun _ _ e=>e) (fun _ _ _ e=>e) (fun b ps e=> ⟨#[],by rw[e];simp⟩) (fun m hm=> ?_) (fun b o e=> ?_) I.bare
   ·obtain⟨f0,f1,f2,f3,f4,f5⟩:=hf b (fz b hb)
    exact⟨f3,f1,f4,f5⟩
   ·obtain⟨o,es,ep,ho,r⟩:=hm
    exact⟨o,es,ep,kk _ o (fun hb=> (hf _ (fz _ hb)).2.1 rfl) ho,r⟩
   ·have nb: ∀c o',H c=some o'→c∉ [z,TO,i1,i2]:=fun c o' e hb=>by
     rw[(hf c (fz c hb)).1] at e;cases e
    refine(I.aw b o e).jz (fun c q fK e'=>kk c q ?_ e') (fun _ q=>q) fun _ _ q=>q
    rcases fK with rfl | fK
    ·exact nb _ _ e
    ·exact nb _ _ fK
  have qB:s.heap.objs.size≤T:=hT
  have fT:H T=none:=I.aw.fresh qB
  have aT:T∉ [z,TO,i1,i2]:=W.apart i T h' mid
  have tT:wX.IsTuple T #[u,v]:=by
   obtain⟨o,ho,q⟩:=V6
   exact⟨o,Ld T o aT ho,q⟩
  obtain⟨a,V8,ra⟩: ∃a,xs[i]?=some a∧RelV a u:=by
   have e:og[i]?=some u:=by simpa using eu
   have:i<xs.length:=by omega
   obtain⟨u',e',r'⟩:=r1.get (i:=i) (x:=xs[i]) (by simp[this])
   rw[e] at e';cases e'
   exact⟨xs[i],by simp[this],r'⟩
  obtain⟨b,V9,rb⟩: ∃b,ys[i]?=some b∧RelV b v:=by
   have e:fM[i]?=some v:=by simpa using ev
   have:i<ys.length:=by omega
   obtain⟨u',e',r'⟩:=r2.get (i:=i) (x:=ys[i]) (by simp[this])
   rw[e] at e';cases e'
   exact⟨ys[i],by simp[this],r'⟩
  have sz0:=I.sz
  have I2:Inv X pins σ (upd H T (.tup [a,b])) {s with heap:=wX,toks:=tk}:=by
   refine Inv.Kk I1 fT (Nat.le_trans I.sz qB) (Nat.ne_of_gt (Nat.lt_of_lt_of_le I.lt qB)) (fun x c e q=> ?_) (fun p hp q=> ?_) ⟨by show 2≤sizeLine;decide,[u,v], .cons ra (.cons rb .nil),tT⟩
   ·obtain⟨v',q'⟩:=I.cell x c e
    have:=q'.lt
    rw[q] at this
    exact absurd (Nat.lt_of_lt_of_le this qB) (Nat.lt_irrefl _)
   ·have:=Heap.lt_size (I.pin p hp).1
    rw[q] at this
    exact absurd (Nat.lt_of_lt_of_le this qB) (Nat.lt_irrefl _)
  refine⟨.ref T,_,I2,rfl,⟨T,fT,rfl,fun bc fj a' b' jd zY ea eb=> ?_⟩, ?_,fun c fK=> ?_⟩
  ·rw[I.vW jd hx,V8] at ea
   rw[I.vW zY hy,V9] at eb
   cases ea;cases eb;rfl
  ·obtain⟨q1,q2,q3,q4,q5,_⟩:=V7
   exact⟨q1,q2,q3,q4,q5⟩
  ·have n0:=(hf c fK).1
   have:c≠T:=fun q=>by
    obtain⟨o,e,_⟩: ∃o,s.heap.get? c=some o∧True:=by
     obtain⟨hz,kN,⟨a',b',kO⟩,⟨o1,e1,_⟩,⟨o2,e2,_⟩⟩:=st
     simp only[List.mem_cons,List.not_mem_nil,or_false] at fK
     rcases fK with rfl | rfl | rfl | rfl | rfl
     ·exact⟨_,hz,trivial⟩
     ·exact⟨_,kN,trivial⟩
     ·exact⟨_,kO,trivial⟩
     ·exact⟨_,e1,trivial⟩
     ·exact⟨_,e2,trivial⟩
    have:=Heap.lt_size e
    rw[q] at this
    exact absurd (Nat.lt_of_lt_of_le this qB) (Nat.lt_irrefl _)
   rw[aI this];exact n0
 done:=by
  intro X hP hw hK hc i pins s σ H E I hf st hg
  subst hP hw hK
  obtain⟨xs,ys,hx,hy,hi⟩:=hg
  obtain⟨og,r1,p1,z1⟩:=I.list hx
  obtain⟨fM,r2,p2,z2⟩:=I.list hy
  have oh:=r1.length
  have jc:=r2.length
  have W:=WalksT.zip2 (prog:=X.prog) (w:=X.w) (A:=X.A) (I.ok.hd hc) z TI TO i1 i2 l1 l2 D og.toArray fM.toArray
  obtain⟨hz,kN,kO,h1,h2⟩:=id st
  have hn:i=min og.toArray.size fM.toArray.size:=by simp only[List.size_toArray];omega
  subst hn
  refine W.done s _ _ ⟨hz,kN,kO,h1,h2,p1.isList,p2.isList⟩ fun h' tk hk=> ⟨rfl, ?_⟩
  have fz: ∀b∈ [z,TO,i1,i2],b∈ [z,TI,TO,i1,i2]:=fun b hb=>by
   simp only[List.mem_cons,List.not_mem_nil,or_false] at hb⊢
   rcases hb with rfl | rfl | rfl | rfl<;>simp
  refine I.step (g':=s.gens) (d':=s.drawn) (ch:=[z,TO,i1,i2]) (fun b hb=> ?_) (fun b o _ _ hc e _=>hk b o hc e) (fun b o _ _ hc e _=> ⟨o.slots,hk b o hc e⟩) (fun _ _ _ _ n=>n)
   (fun b o hc e=> ⟨o,hk b o hc e⟩) (fun _ _ e=>e) (fun _ _ _ e=>e) (fun b ps e=> ⟨#[],by rw[e];simp⟩) (fun m hm=> ?_) (fun b o e=> ?_) I.bare
  ·obtain⟨f0,f1,f2,f3,f4,f5⟩:=hf b (fz b hb)
   exact⟨f3,f1,f4,f5⟩
  ·obtain⟨o,es,ep,ho,r⟩:=hm
   exact⟨o,es,ep,hk _ o (fun hb=> (hf _ (fz _ hb)).2.1 rfl) ho,r⟩
  ·have nb: ∀c o',H c=some o'→c∉ [z,TO,i1,i2]:=fun c o' e hb=>by
    rw[(hf c (fz c hb)).1] at e;cases e
   refine(I.aw b o e).jz (fun c q fK e'=>hk c q ?_ e') (fun _ q=>q) fun _ _ q=>q
   rcases fK with rfl | fK
   ·exact nb _ _ e
   ·exact nb _ _ fK
 self:=fun A i s Q E st hQ=>wpAny_pyIter_zip st.1 hQ
theorem boot_zip:bootBuiltins "zip"=some (.type "zip"):=by decide+kernel
theorem V_{X:Cx}{elts:List Expr}{k:Nat}{zF:Pos}{a b:Expr}{ta:TA}{p pos:Pos}(hg:Gl X "zip")(hm:X.mg "zip"=none)(ha:PA X [a,b] ta)
  (hs:starEach [a,b] X.env=(false,eval a X.env)::starEach [b] X.env) (jD:(backTo pos (starEach [b] X.env)).any (·.1)=false):
  PI X (.Tuple elts k zF) (.Call (.Name "zip" p) [a,b] [] pos) (Az X.K ta):=by
 intro pins s σ H R I h
 refine Call_ (sC I hg hm boot_zip (PyProof.Rows.callWith_type1 (aN (ha pos pins s σ H _ I h) fun us s1 ⟨vs,H1,I1,r1,q1⟩=> ?_) hs jD))
 obtain⟨l1,l2,e,⟨xs,hx⟩,⟨ys,hy⟩,q⟩:=q1
 subst e
 obtain⟨u,v,rfl,ru,rv⟩:=vals2 r1
 cases ru
 cases rv
 obtain⟨og,rr1,p1,z1⟩:=I1.list hx
 obtain⟨fM,rr2,p2,z2⟩:=I1.list hy
 refine call_zip_2 p1.isList p2.isList fun h' a1 a2 a3 a4 a5 a6 hk=> ?_
 refine wpAny_pyIter_zip a1 ?_
 have lt1: @LT.lt Nat _ l1 s1.heap.objs.size:=by obtain⟨_,e,_⟩:=p1.isList;exact Heap.lt_size e
 have lt2: @LT.lt Nat _ l2 s1.heap.objs.size:=by obtain⟨_,e,_⟩:=p2.isList;exact Heap.lt_size e
 have D:ZipApart (s1.heap.objs.size+4) (s1.heap.objs.size+2) (s1.heap.objs.size+3) s1.heap.objs.size (s1.heap.objs.size+1) l1 l2:=by
  constructor<;> (show @Ne Nat _ _;omega)
 have I2:Inv X pins σ H1 {s1 with heap:=h'}:=I1.kept (t':=s1.toks) hk
 refine⟨_,_,_,_,H1,rfl,I2,V5 D ⟨by show @Ne Nat _ _;omega,by show @Ne Nat _ _;omega⟩,⟨a1,a2,⟨_,_,a3⟩,a4,a5⟩,fun b' hb=> ?_,q⟩
 have hle:s1.heap.objs.size≤b':=by
  simp only[List.mem_cons,List.not_mem_nil,or_false] at hb
  rcases hb with rfl | rfl | rfl | rfl | rfl
  ·exact Nat.le_add_right _ _
  ·exact Nat.le_add_right _ _
  ·exact Nat.le_add_right _ _
  ·exact Nat.le_refl _
  ·exact Nat.le_add_right _ _
 have:=I1.vZ (b:=b') (H':=H1) hle (I1.aw.fresh hle)
 exact this
end L2
set_option maxHeartbeats 400000
namespace L2
open PySem PySem.Spec PyProof.Rows
def h_(A:Around)(h:Heap):Prop:=A.handled=none∨ ∃e o vs,A.handled=some (.ref e)∧h.get? e=some o∧o.data= .fields vs∧vs[2]?=some .none
theorem h_.keeps{A:Around}{h h':Heap}(x:h_ A h)(k: ∀b o vs,h.get? b=some o→o.data= .fields vs→vs[2]?=some .none→h'.get? b=some o):h_ A h':=by
 rcases x with x | ⟨e,o,vs,a,b,c,d⟩
 ·exact .inl x
 ·exact .inr ⟨e,o,vs,a,k e o vs b c d,c,d⟩
theorem Wa:entryFor table "proto.unchain"=some Builtin.«proto.unchain»:=entryFor_of_fast (by kernel_rfl)
section
variable {prog:Program} {w:World} {A:Around} {E:Value→Shared→Prop} {s:Shared}
theorem Wd{a:Addr}{o:Obj}{vs:Array Value}{i:Nat}{v:Value}{Q:Unit→Shared→Prop}(ho:s.heap.get? a=some o)(hd:o.data= .fields vs)(hi:i<vs.size)(h:Q () {s with heap:=s.heap.update a (Obj.mapFields (·.setIfInBounds i v))}):
  wpAny (model prog w) A (updateField a i v) Q E s:=by
 unfold updateField
 refine wpAny_bind (wpAny_load ho ?_)
 rw[hd]
 show wpAny _ _ (if i<vs.size then _ else _) _ _ s
 rw[if_pos hi]
 exact wpAny_update ho h
theorem We{α:Type}{a:Addr}{o:Obj}{vs:Array Value}{Q:α→Shared→Prop}(hh:h_ A s.heap)(ho:s.heap.get? a=some o)(hd:o.data= .fields vs)(h2:2<vs.size)(cK: ∀e,A.handled=some (.ref e)→e≠a)
  (hE: ∀h',Heap.SameBut a s.heap h'→(∃o',h'.get? a=some o'∧o'.cls=o.cls)→E (.ref a) {s with heap:=h'}):wpAny (model prog w) A (raiseNew (.ref a):Sem α) Q E s:=by
 unfold raiseNew
 refine wpAny_bind (wpAny_handled ?_)
 rcases hh with hh | ⟨e,oe,ve,hh,he,Ao,Wf⟩
 ·rw[hh]
  exact wpAny_bind (wpAny_pure (wpAny_throw (hE s.heap (Heap.SameBut.refl ..) ⟨o,ho,rfl⟩)))
 ·rw[hh]
  have ne:e≠a:=cK e hh
  have hb:((Value.ref e) !=(Value.ref a))=true:=by
   simp only[bne_iff_ne,ne_eq,Value.ref.injEq]
   exact ne
  dsimp only
  rw[if_pos hb]
  refine wpAny_bind (wpAny_holding (wpAny_runValue (codeAny_builtin Wa ?_)))
  unfold Builtin.«proto.unchain»
  dsimp only
  refine wpAny_bind (wpAny_field he Ao Wf ?_)
  rw[if_pos (by rfl)]
  refine wpAny_bind (wpAny_pure (wpAny_pure ?_))
  dsimp only
  refine wpAny_bind (Wd ho hd h2 ?_)
  refine wpAny_throw (hE _ (Heap.SameBut.update ..) ⟨_,Heap.get?_update_self _ ho (Obj.isFreed_of_fields (Obj.data_mapFields hd _)),Obj.cls_mapFields ..⟩)
theorem Le{it:Addr}{f:Obj→Obj}{Qf:Fin→Shared→Prop}{Q:Option Value→Shared→Prop}(hh:h_ A s.heap)(hn: ∀vs:Array Value,¬ ∃o,s.heap.get? it=some o∧o.data= .fields vs∧vs[2]?=some .none)
  (hQ: ∀h',Heap.ExtBut it s.heap h'→Q none {s with heap:=h'}):
  wpAny (model prog w) A.in1 Builtin.SmallTypes.stopIteration Qf (fun e s'=>wpAny (model prog w) A (do let b ←isInstance e (.type "StopIteration");if b=true then pure none else throw e) Q E s') {s with heap:=s.heap.update it f}:=by
 show wpAny _ _ (newExc (.type "StopIteration") [] >>=_) _ _ _
 refine wpAny_bind ?_
 simp only[newExc,newTuple]
 refine wpAny_bind (wpAny_newObj_type ?_ (by size_fits))
 refine wpAny_bind (m:=firstArgMember _ _) (wpAny_of_eq (a:=Value.none) (by first | rfl | (simp only[firstArgMember];rfl)) ?_)
 refine wpAny_newObj_type ?_ (by size_fits)
 dsimp only
 have lt: ∀b o,s.heap.get? b=some o→b≠it→(s.heap.update it f).get? b=some o:=fun b o e hb=> (Heap.get?_update_other _ _ (Ne.symm hb)).trans e
 have Wg:h_ A.in1 (((s.heap.update it f).push {cls:= .type "tuple",data:= .seq ([]:List Value).toArray}).push
   {cls:= .type "StopIteration",data:= .fields (#[.ref (s.heap.update it f).objs.size, .none, .none, .none, .bool false, .none]++ownMembersOf (.type "StopIteration") [])}):=by
  rcases hh with hh | ⟨e,oe,ve,h1,h2,h3,h4⟩
  ·exact .inl hh
  ·refine .inr ⟨e,oe,ve,h1,Heap.get?_push_of_some _ (Heap.get?_push_of_some _ (lt e oe h2 fun z=> ?_)),h3,h4⟩
   subst z
   exact hn ve ⟨oe,h2,h3,h4⟩
 refine We Wg (Heap.get?_push_size _ rfl) rfl (Nat.lt_of_lt_of_le (show 2<6 by decide) (by rw[Array.size_append];exact Nat.le_add_right 6 _)) (fun e he=> ?_) (fun h' sb ⟨o',q1,q2⟩=> ?_)
 ·rcases hh with hh | ⟨e',oe,ve,h1,h2,h3,h4⟩
  ·rw[show A.in1.handled=none from hh] at he;cases he
  ·rw[show A.in1.handled=_ from h1] at he
   cases he
   have:=Heap.lt_size h2
   refine Nat.ne_of_lt (Nat.lt_of_lt_of_le this ?_)
   rw[Heap.size_push,Heap.size_update]
   exact Nat.le_succ _
 ·refine wpAny_bind (wpAny_isInstance (T:="StopIteration") (b:=true) ⟨_,q1,q2⟩ isSubtype_stop ?_)
  refine wpAny_pure (hQ _ fun b o hb e=> ?_)
  have e3:=lt b o e hb
  have e4:=Heap.get?_push_of_some {cls:= .type "StopIteration",data:= .fields (#[.ref (s.heap.update it f).objs.size, .none, .none, .none, .bool false, .none]++ownMembersOf (.type "StopIteration") [])} (Heap.get?_push_of_some {cls:= .type "tuple",data:= .seq ([]:List Value).toArray} e3)
  refine(sb.2 b (Nat.ne_of_lt (Nat.lt_of_lt_of_le (Heap.lt_size e3) ?_))).trans e4
  rw[Heap.size_push]
  exact Nat.le_succ _
theorem Wh{it l:Addr}{i:Nat}{items}{Q:Option Value→Shared→Prop}(hh:h_ A s.heap)
  (hit:s.heap.IsListIter it l i) (hl:s.heap.IsList l items) (hx:items[i]?=none)
  (hQ: ∀h',Heap.ExtBut it s.heap h'→Q none {s with heap:=h'}):wpAny (model prog w) A (pyNext (.ref it)) Q E s:=by
 obtain⟨o,ho,hc,hd⟩:=id hit
 obtain⟨ol,qC,_,nl,mR⟩:=hl
 unfold pyNext
 refine wpAny_bind (wpAny_attempt (wpAny_callSpecial?_slot (name:=Str.ofString "__next__") hit.typeIs slot_listiter_next
  (wpAny_call_entry slot_listiter_next hit.typeIs entry_listiter_next ?_ (args_listiter_next _))))
 show wpAny _ _ (field (.ref it) 0>>=_) _ _ s
 refine wpAny_bind (wpAny_field ho hd (x:= .ref l) rfl ?_)
 show wpAny _ _ (if (Value.ref l==Value.none)=true then _ else _) _ _ s
 rw[if_neg (show ¬((Value.ref l==Value.none)=true) from Bool.false_ne_true)]
 show wpAny _ _ (field (.ref it) 1>>=_) _ _ s
 refine wpAny_bind (wpAny_field ho hd (x:= .int i 0) rfl ?_)
 show wpAny _ _ (seqItems? (.ref l) >>=_) _ _ s
 refine wpAny_bind (wpAny_seqItems qC mR ?_)
 simp only[Int.toNat_natCast,hx]
 refine wpAny_bind (wpAny_rule (wpAny_bind (wpAny_setField ho hd (by simp) ?_)))
 exact Le hh (fun vs z=>by obtain⟨o',h1,h2,h3⟩:=z;rw[ho] at h1;cases h1;rw[hd] at h2;cases h2;cases h3) hQ
theorem Wi{it t:Addr}{i:Nat}{items}{Q:Option Value→Shared→Prop}(hh:h_ A s.heap)
  (hit:IsTupIter s.heap it t i) (ht:IsTup s.heap t items) (hx:items[i]?=none)
  (hQ: ∀h',Heap.ExtBut it s.heap h'→Q none {s with heap:=h'}):wpAny (model prog w) A (pyNext (.ref it)) Q E s:=by
 obtain⟨o,ho,hc,hd⟩:=id hit
 obtain⟨ol,qC,_,nl,mR⟩:=ht
 unfold pyNext
 refine wpAny_bind (wpAny_attempt (wpAny_callSpecial?_slot (name:=Str.ofString "__next__") hit.typeIs slot_tupleiter_next
  (wpAny_call_entry slot_tupleiter_next hit.typeIs entry_tupleiter_next ?_ (args_tupleiter_next _))))
 show wpAny _ _ (field (.ref it) 0>>=_) _ _ s
 refine wpAny_bind (wpAny_field ho hd (x:= .ref t) rfl ?_)
 show wpAny _ _ (if (Value.ref t==Value.none)=true then _ else _) _ _ s
 rw[if_neg (show ¬((Value.ref t==Value.none)=true) from Bool.false_ne_true)]
 show wpAny _ _ (field (.ref it) 1>>=_) _ _ s
 refine wpAny_bind (wpAny_field ho hd (x:= .int i 0) rfl ?_)
 show wpAny _ _ (seqItems? (.ref t) >>=_) _ _ s
 refine wpAny_bind (wpAny_seqItems qC mR ?_)
 simp only[Int.toNat_natCast,hx]
 refine wpAny_bind (wpAny_rule (wpAny_bind (wpAny_setField ho hd (by simp) ?_)))
 exact Le hh (fun vs z=>by obtain⟨o',h1,h2,h3⟩:=z;rw[ho] at h1;cases h1;rw[hd] at h2;cases h2;cases h3) hQ
theorem Wj{t:Addr}{items:Array Value}{Q:List Value→Shared→Prop}(hh:h_ A s.heap)(ht:IsTup s.heap t items)
  (hQ: ∀h',Heap.ExtBut s.heap.objs.size s.heap h'→Q items.toList {s with heap:=h'}):wpAny (model prog w) A (unpackItems (.ref t) items.size none) Q E s:=by
 have aS:t≠s.heap.objs.size:=by obtain⟨o,ho,_⟩:=ht;exact Nat.ne_of_lt (Heap.lt_size ho)
 unfold unpackItems
 refine wpAny_bind ?_
 ·unfold notIterableAtAll
  refine wpAny_bind (wpAny_specialOf ht.typeIs slot_tuple_iter.lookup ?_)
  refine wpAny_pure ?_
  simp only[Bool.false_eq_true,if_false]
  refine wpAny_bind (wpAny_holding (iter_tuple ht ?_))
  refine wpAny_bind (wpAny_holding (draw_tuple aS items.size 0 _ _ ⟨_,Heap.get?_push_size _ rfl,rfl,rfl⟩ (ht.push _) (by omega) fun h₁ tM kP=> ?_))
  have mG:List.take items.size (List.drop 0 items.toList)=items.toList:=by
   rw[List.drop_zero];exact List.take_of_length_le (by simp)
  rw[mG]
  rw[if_neg (by simp)]
  have AF:IsTup h₁ t items:=(ht.push _).extBut kP.extBut aS
  have Wk:h_ A h₁:=hh.keeps fun b o vs e _ _=>kP.extBut b o (Nat.ne_of_lt (Heap.lt_size e)) (Heap.get?_push_of_some _ e)
  refine wpAny_bind (wpAny_holding (Wi Wk tM AF (by simp) fun h₂ AG=> ?_))
  simp only[Option.isSome_none,Bool.false_eq_true,if_false]
  refine wpAny_pure (hQ h₂ fun b o hb e=>AG b o hb (kP.extBut b o hb (Heap.get?_push_of_some _ e)))
theorem Wl{env:Env}{elts:List Expr}{x1}{pos:Pos}{t:Addr}{items:Array Value}{Q:Unit→Shared→Prop}(hh:h_ A s.heap)(ht:IsTup s.heap t items)
  (hn:(assignEach elts env).length=items.size) (AH:(assignEach elts env).findIdx? (·.1)=none)
  (h: ∀h',Heap.ExtBut s.heap.objs.size s.heap h'→wpAny (model prog w) A (assignInOrder ((assignEach elts env).map (·.2)) items.toList) Q E {s with heap:=h'}):
  wpAny (model prog w) A (assign (.Tuple elts x1 pos) env (.ref t)) Q E s:=by
 rw[assign_Tuple]
 refine wpAny_bind (wpAny_standAt ?_)
 unfold unpack
 rw[hn,AH]
 exact wpAny_bind (wpAny_holding (Wj hh ht h))
end
end L2
set_option maxHeartbeats 1000000
namespace L2
open PySem PySem.Spec PyProof.Rows PySem.W
section
variable {prog:Program} {w:World} {A:Around} {E:Value→Shared→Prop} {s:Shared} {K:Frag} {x D:Addr} {ox:Obj}
theorem Wm{Q:Option Value→Shared→Prop}(X:K.In s.heap)(I:InstAt s.heap x ox D none)(tu:findIn K (.ref D) "__getattribute__"=some (some (.builtin "BaseException.__getattribute__")))(tw:findIn K (.ref D) "__getattr__"=some none)
  (hk:(clsIn K D).isSome=true) (ha:findIn K (.ref D) "__class__"=some (some (.builtin "object.__class__"))) (hn:specialIn K (.builtin "object.__class__") "__get__"=some (some (.builtin "getset_descriptor.__get__"))) (mE:takesIn K (.builtin "object.__class__")=some true)
  (hm:mroIn K D (.type "object")=some true) (hb:mroIn K D (.type "BaseException")=some true)
  (h:Q (some (.ref D)) {s with toks:=s.toks+1}):wpAny (model prog w) A (getAttr? (.ref x) "__class__") Q E s:=by
 have hf:findObj K D none "__class__"=some (.bind (.builtin "getset_descriptor.__get__") (.builtin "object.__class__")):=by
  obtain⟨cd,hc⟩:=Option.isSome_iff_exists.mp hk
  unfold findObj
  rw[hc,Option.bind_some,ha,Option.bind_some]
  simp only[hn,mE,Option.bind_some]
 obtain⟨hh,g,d,t,os⟩:=s
 have L0:=I.type (M:=model prog w)
 have L1:=looks_findIn (M:=model prog w) X tu
 have L2:=looks_findIn (M:=model prog w) X tw
 have L3:=looks_find (M:=model prog w) X I hf
 unfold getAttr? getAttrBy? getAttrBy
 refine wpAny_bind (wpAny_mkText (wpAny_bind (wpAny_attempt (wpAny_holding (wpAny_bind (L0.at (wpAny_bind (L1.at ?_))))))))
 have Wn:(Value.builtin "BaseException.__getattribute__"==Value.builtin "object.__getattribute__")=false:=by decide+kernel
 show wpAny _ _ (if (onTheHeap (Value.ref D) && Value.builtin "BaseException.__getattribute__"==Value.builtin "object.__getattribute__")=true then _ else _) _ _ _
 rw[Wn,Bool.and_false,if_neg (by decide)]
 unfold getAttrByItsOwn hookBefore
 refine wpAny_bind (L2.at ?_)
 refine wpAny_bind (wpAny_attempt (wpAny_holding ?_))
 show wpAny _ _ (boundAndCalled _ _ _) _ _ _
 unfold boundAndCalled
 rw[F.excAttr_ValueError.ga.bind (.ref x)]
 refine wpAny_bind (wpAny_pure ?_)
 refine wpAny_call (codeAny_call_builtin F.excAttr_ValueError.ga.plain F.entry_bexc_ga ?_)
 have L4:=looks_mroIn (M:=model prog w) X hb
 have tN:builtinKind "BaseException.__getattribute__"=some .slot:=by decide+kernel
 have Wo:splitId "BaseException.__getattribute__"=some ("BaseException","__getattribute__"):=by decide+kernel
 have anP:=F.args_bexc_ga (.ref x) (.str "__class__" t)
 simp only[checkBuiltinCall,tN,Wo]
 have L5:Looks (model prog w) hh (isInstance (.ref x) (.type "BaseException")) true:=L0.andThen L4
 refine wpAny_bind (L5.at ?_)
 repeat (any_goals (first | assumption | (with_reducible refine wpAny_loadPart_at I.at_ ?_;rw[I.cls];refine wpAny_pure (wpAny_bind (L3.at ?_))) | wp_step))
 refine class_get (s:=⟨hh,g,d,t+1,os⟩) (ox:=ox) (od:=none) X I hm ?_
 exact wpAny_pure (wpAny_pure (wpAny_pure h))
theorem Wq(tu:findIn K (.ref D) "__getattribute__"=some (some (.builtin "BaseException.__getattribute__")))(tw:findIn K (.ref D) "__getattr__"=some none)
  (hk:(clsIn K D).isSome=true) (ha:findIn K (.ref D) "__class__"=some (some (.builtin "object.__class__"))) (hn:specialIn K (.builtin "object.__class__") "__get__"=some (some (.builtin "getset_descriptor.__get__"))) (mE:takesIn K (.builtin "object.__class__")=some true)
  (hm:mroIn K D (.type "object")=some true) (hb:mroIn K D (.type "BaseException")=some true):KitX K (.ref x) (.ref D) (fun h=>InstAt h x ox D none) where
 ty:=fun _ _ _ I=>I.type
 it:=fun _ _ X _=>by
  obtain⟨Wr,kg⟩:=Option.isSome_iff_exists.mp hk
  unfold clsIn at kg
  split at kg
  ·rename_i c' d' Ws zm ho
   intro A' Q' E' s' k q
   unfold isType loadHead
   exact wpAny_bind (wpAny_loadPart (k _ _ (X _ _ ho)) (wpAny_pure q))
  ·cases kg
 ne:=fun h tp dd its n sl X Wt=>by
  obtain⟨Wr,kg⟩:=Option.isSome_iff_exists.mp hk
  refine Bool.eq_false_iff.mpr fun q=> ?_
  have e:D=tp:=Value.ref.inj (beq_iff_eq.mp q)
  subst e
  unfold clsIn at kg
  split at kg
  ·rename_i c' d' Ws zm ho
   have z:=(X _ _ ho).symm.trans Wt
   cases z
  ·cases kg
 ca:=fun X I k=>Wm X I tu tw hk ha hn mE hm hb k
end
end L2
set_option maxHeartbeats 400000
namespace L2
open PySem PySem.Spec PyProof.Rows
inductive bX (J:Shared→Prop) {α:Type}:Sem α→Prop
 | pure (a:α):bX J (.pure a)
 | raise (e:Value):bX J (.raise e)
 | unsupported (w:String):bX J (.unsupported w)
 | rule {t:String} {k:Unit→Sem α}:bX J (k ())→bX J (.rule t k)
 | load {a:Addr} {p:Option Value} {k:Obj→Sem α}:(∀o,bX J (k o))→bX J (.load a p k)
 | update {a:Addr} {p:Option Value} {f:Obj→Obj} {k:Unit→Sem α}:(∀s,J s→J {s with heap:=s.heap.update a f})→bX J (k ())→bX J (.update a p f k)
 | alloc {o:Obj} {k:Addr→Sem α}:(∀s,J s→J {s with heap:=s.heap.push o})→(∀a,bX J (k a))→bX J (.alloc o k)
 | stack {k:List (Code×Pos)→Sem α}:(∀t,bX J (k t))→bX J (.stack k)
theorem Wu{M:Model}{Γ:PySem.Ctx}{J:Shared→Prop}{α:Type}{t:Sem α}(kt:bX J t): ∀{Q:α→Pos→Shared→Prop} {E:Value→Pos→Shared→Prop} {p:Pos} {s:Shared},J s→Sem.wp M Γ t Q E p s→
  Sem.wp M Γ t (fun a p s=>Q a p s∧J s) (fun e p s=>E e p s∧J s) p s:=by
 induction kt with
 | pure a=>intro Q E p s j h;rw[Sem.wp] at h⊢;exact⟨h,j⟩
 | raise e=>intro Q E p s j h;rw[Sem.wp] at h⊢;exact⟨h,j⟩
 | unsupported w=>intro Q E p s j h;rw[Sem.wp] at h;exact h.elim
 | rule _ ih=>intro Q E p s j h;rw[Sem.wp] at h⊢;exact ih j h
 | load _ ih=>intro Q E p s j h;rw[Sem.wp] at h⊢;obtain⟨o,e,h⟩:=h;exact⟨o,e,ih o j h⟩
 | update f _ ih=>intro Q E p s j h;rw[Sem.wp] at h⊢;exact⟨h.1,ih (f _ j) h.2⟩
 | alloc f _ ih=>intro Q E p s j h;rw[Sem.wp] at h⊢;exact ih _ (f _ j) h
 | stack _ ih=>intro Q E p s j h;rw[Sem.wp] at h⊢;exact ih _ j h
theorem tO{M:Model}{A:Around}{J:Shared→Prop}{α:Type}{t:Sem α}{Q:α→Shared→Prop}{E:Value→Shared→Prop}{s:Shared}(k:bX J t)(j:J s)(h:wpAny M A t Q E s):
  wpAny M A t (fun a s=>Q a s∧J s) (fun e s=>E e s∧J s) s:=fun Γ p hΓ=>Wu k j (h Γ p hΓ)
def dN(e:Addr)(s:Shared):Prop:= ∃o vs,s.heap.get? e=some o∧o.data= .fields vs∧vs[2]?=some .none∧o.dict=none
theorem Wv(f:Array Value→Array Value)(o:Obj):(Obj.mapFields f o).dict=o.dict:=by
 unfold Obj.mapFields
 split<;>rfl
theorem Ww{e a:Addr}{i:Nat}{v:Value}(hi:i≠2)(s:Shared)(j:dN e s):dN e {s with heap:=s.heap.update a (Obj.mapFields (·.setIfInBounds i v))}:=by
 obtain⟨o,vs,h1,h2,h3,h4⟩:=j
 by_cases z:a=e
 ·subst z
  have d:=Obj.data_mapFields h2 (·.setIfInBounds i v)
  exact⟨_,_,Heap.get?_update_self _ h1 (Obj.isFreed_of_fields d),d,by rw[Array.getElem?_setIfInBounds_ne hi];exact h3,(Wv _ _).trans h4⟩
 ·exact⟨o,vs,(Heap.get?_update_other _ _ z).trans h1,h2,h3,h4⟩
theorem Wx{e a:Addr}{f:Obj→Obj}(hf: ∀o,(f o).data=o.data∧(f o).dict=o.dict)(s:Shared)(j:dN e s):dN e {s with heap:=s.heap.update a f}:=by
 obtain⟨o,vs,h1,h2,h3,h4⟩:=j
 by_cases z:a=e
 ·subst z
  exact⟨_,vs,Heap.get?_update_self _ h1 (Obj.isFreed_of_fields ((hf o).1.trans h2)),(hf o).1.trans h2,h3,(hf o).2.trans h4⟩
 ·exact⟨o,vs,(Heap.get?_update_other _ _ z).trans h1,h2,h3,h4⟩
theorem Wy{e:Addr}{ob:Obj}(s:Shared)(j:dN e s):dN e {s with heap:=s.heap.push ob}:=by
 obtain⟨o,vs,h1,h2,h3,h4⟩:=j
 exact⟨o,vs,Heap.get?_push_of_some _ h1,h2,h3,h4⟩
theorem bX.bind{J:Shared→Prop}{α β:Type}{t:Sem α}{f:α→Sem β}(kt:bX J t)(h: ∀a,bX J (f a)):bX J (t>>=f):=by
 show bX J (t.bind f)
 induction kt with
 | pure a=>exact h a
 | raise e=>exact .raise e
 | unsupported w=>exact .unsupported w
 | rule _ ih=>exact .rule ih
 | load _ ih=>exact .load ih
 | update g _ ih=>exact .update g ih
 | alloc g _ ih=>exact .alloc g ih
 | stack _ ih=>exact .stack ih
section
variable {e:Addr}
theorem AI{a:Addr}:bX (dN e) (load a):= .load fun o=> .pure o
theorem AJ{v x:Value}{i:Nat}(hi:i≠2):bX (dN e) (setField v i x):=by
 unfold setField
 split
 ·rename_i a
  unfold updateField
  refine AI.bind fun o=> ?_
  split
  ·split
   ·exact .update (fun s j=>Ww hi s j) (.pure ())
   ·exact .unsupported _
  ·exact .unsupported _
 ·exact .unsupported _
theorem Wz{v:Value}:bX (dN e) (fieldsOf v):=by
 unfold fieldsOf
 split
 ·refine AI.bind fun o=> ?_
  split
  ·exact .pure _
  ·exact .unsupported _
 ·exact .unsupported _
theorem wY{v:Value}{i:Nat}:bX (dN e) (field v i):=by
 unfold field
 refine Wz.bind fun vs=> ?_
 split
 ·exact .pure _
 ·exact .unsupported _
theorem AK{v:Value}{f:Option Addr}:bX (dN e) (setFlight v f):=by
 unfold setFlight
 refine wY.bind fun tb=> ?_
 split
 ·exact AJ (by decide)
 ·exact .pure _
theorem AL:bX (dN e) stack:= .stack fun t=> .pure t
theorem WA{ty:String}{vs:List Value}:bX (dN e) (newFields ty vs):=by
 unfold newFields newObj newObjAsIs
 show bX (dN e) (if vs.toArray.size>sizeLine+2 then (unsupported "record:memory" >>=_) else _)
 split
 ·exact .unsupported _
 ·exact bX.bind (.alloc (fun s j=>Wy s j) fun a=> .pure a) fun a=> .pure _
theorem WB{f:Addr}{b:Bool}:bX (dN e) (entryPlaceOf f b):=by
 unfold entryPlaceOf
 refine AL.bind fun anQ=> ?_
 split
 ·exact .pure _
 ·exact .pure _
theorem Lf: ∀l:List Env,bX (dN e) (readyFrames l)
 | []=> .pure _
 | env::outer=>by
  unfold readyFrames
  split
  ·refine AI.bind fun o=> ?_
   split
   ·exact .pure _
   ·refine bX.bind ?_ fun im=>bX.bind ?_ fun bk=>bX.bind (.update (fun s j=>Wx (by intro o;exact⟨rfl,rfl⟩) s j) (.pure ())) fun _=>Lf outer
    ·unfold behindIsImport
     split
     ·exact .pure _
     ·split
      ·exact .pure _
      ·exact wY.bind fun _=> .pure _
    ·unfold keptBack
     split
     ·split
      ·exact .pure _
      ·unfold underTheClaimsCaller
       exact bX.bind (AL.bind fun _=> .pure _) fun _=> .pure _
     ·exact .pure _
  ·exact .unsupported _
theorem WC{env:Env}:bX (dN e) (PySem.frameOf env):=by
 unfold PySem.frameOf frameEnvs
 refine bX.bind (AL.bind fun _=> .pure _) fun l=> ?_
 refine bX.bind ?_ fun r=> ?_
 ·unfold frameObject
  split
  ·exact .pure _
  ·exact(Lf _).bind fun _=> .pure _
 ·split
  ·exact .pure _
  ·exact .unsupported _
theorem Lg{v:Value}{env:Env}:bX (dN e) (noteFrame v env):=by
 unfold noteFrame
 split
 ·rename_i x d hq
  refine wY.bind fun hd=> ?_
  have tail:bX (dN e) (do let a ←PySem.frameOf env;let pl ←entryPlaceOf d (hd != .none);let b ←EntryCells.newEntry hd a .none (rawInt d) .none pl;setField v 1 b):=
   WC.bind fun a=>WB.bind fun pl=>bX.bind WA fun b=>AJ (by decide)
  dsimp only
  split
  ·refine wY.bind fun x=> ?_
   split
   ·exact .pure _
   ·exact(AJ (by decide)).bind fun _=>tail
  ·exact tail
 ·exact .unsupported _
theorem Lh{v:Value}{env:Env}:bX (dN e) (leaving env v):=by
 unfold leaving
 exact Lg.bind fun _=>AK
end
end L2
set_option maxHeartbeats 4000000
namespace L2
open PySem PySem.Spec PyProof.Rows
theorem cG.wZ{P:Program}{w:World}{H:Hp}{h:Heap}{a:Addr}{o:HO}(x:cG P w H h a o): ∃ob,h.get? a=some ob:=by
 cases o with
 | lst xs=>obtain⟨_,_,_,_,e⟩:=x;exact⟨_,e⟩
 | tup xs=>obtain⟨_,_,_,ob,e,_⟩:=x;exact⟨_,e⟩
 | dK ao=>obtain⟨_,_,_,_,o,_,_,e,_⟩:=x;exact⟨_,e⟩
 | dT ao=>obtain⟨_,_,_,_,o,_,_,e,_⟩:=x;exact⟨_,e⟩
 | set S n=>obtain⟨o,_,_,_,e,_⟩:=x;exact⟨_,e⟩
 | ins C dx fs=>obtain⟨_,_,_,e,_⟩:=x;exact⟨_,e⟩
 | own y=>obtain⟨_,e⟩:=x;exact⟨_,e⟩
 | xd fs=>obtain⟨_,⟨_,_,_,e,_⟩,_⟩:=x;exact⟨_,e⟩
 | fI lo hi=>obtain⟨_,_,_,e⟩:=x;exact⟨_,e⟩
 | bQ ob u=>obtain⟨e,_⟩:=x;exact⟨_,e⟩
 | jy ps=>exact⟨_,(show h.get? a=some _ from x)⟩
 | met f y=>exact⟨_,(show h.get? a=some _ from x)⟩
 | ext φ=>obtain⟨_,⟨_,e⟩,_⟩:=x;exact⟨_,e⟩
theorem b_.w5{P:Program}{w:World}{H:Hp}{h h':Heap}(ok:b_ P w H h)(k: ∀b u,H b≠none→h.get? b=some u→h'.get? b=some u):b_ P w H h':=fun a o e=>
 (ok a o e).jz (fun b u hb hu=>k b u (by
  rcases hb with rfl | hb
  ·rw[e];exact Option.some_ne_none _
  ·rw[hb];exact Option.some_ne_none _) hu) (fun _ z=>z) (fun _ _ z=>z)
def eG(P:Program)(w:World):aL:=fun outer H s E e s'=> ∃(ea:Addr) (cls:Value) (t:Addr) (B:Heap) (H':Hp),
 e= .ref ea∧s'.os=s.os∧AllBare s'.gens∧Un (bC outer) [] H H' s.heap s'.heap∧b_ P w H' s'.heap∧Heap.FlyingW B outer ea cls (.ref t) s'.heap∧dN ea s'∧H' ea=none∧
 (∀b,H' b≠none→ ∀o,s'.heap.get? b=some o→B.get? b=some o)∧(∀b o,s.heap.get? b=some o→b∉bC outer→ ∀o',s'.heap.get? b=some o'→B.get? b=some o')∧E cls none H'
theorem w6{P:Program}{w:World}{outer:List Env}{H:Hp}{s:Shared}{e:Value}{s':Shared}(h:eG P w outer H s E0 e s'):False:=by
 obtain⟨_,_,_,_,_,_,_,_,_,_,_,_,_,_,_,h⟩:=h
 exact h
section
variable {P:Program} {w:World} {K:PySem.W.Frag} {mg:Str→Option Value} {base:Heap} {N:List Str} {qual:Str} {scope:Scope} {f:Addr} {cd:Value} {A:Around} {outer:List Env} {s₀:Shared} {H₀:Hp} {E:XK}
theorem WD:Passes (eG P w) (ko (eG P w) P w K mg base N qual scope f cd A outer s₀ H₀ E) E:=by
 intro pins σ H s e s' I hx
 obtain⟨ea,cls,t,B,H',rfl,os,bare,u,aw,fl,tP,kQ,c1,c2,hE⟩:=hx
 have tQ:=I.ok.frames
 have hL:s₀.heap.objs.size≤ (envOfC qual scope s₀.heap.objs.size f cd).locals:=I.ok.above
 have nL: ∀b o,s₀.heap.get? b=some o→b∉bC outer→b∉bC (envOfC qual scope s₀.heap.objs.size f cd::outer):=fun b o hb hn hm=>by
  have jM:b∈ (envOfC qual scope s₀.heap.objs.size f cd).locals::bC outer:=hm
  rcases List.mem_cons.mp jM with rfl | z
  ·exact absurd (Heap.lt_size hb) (Nat.not_lt.mpr hL)
  ·exact hn z
 have iA: ∀b∈bC (envOfC qual scope s₀.heap.objs.size f cd::outer),H' b=none:=fun b hb=>by
  obtain⟨o,ho,_⟩:=(I.stack.mem hb).2
  exact u.free b o ho (I.vT b hb) List.not_mem_nil
 refine wpAny_mono (tO Lh tP (wpAny_leaves_onW (Q:=fun _ gd=> ∃h',gd={s' with heap:=h'}∧Heap.FlyingW B outer ea cls (.ref t) h'∧s'.heap.UpToSlots h') (E:=fun _ _=>False) tQ rfl fl fun h' iJ up=> ⟨h',rfl,iJ,up⟩))
  (fun _ gd hq=> ?_) (fun _ _ z=>z.1.elim)
 obtain⟨⟨h',rfl,iJ,up⟩,AM⟩:=hq
 have into: ∀b o,s.heap.get? b=some o→b∉bC (envOfC qual scope s₀.heap.objs.size f cd::outer)→ ∀o',s'.heap.get? b=some o'→h'.get? b=some o':=fun b o hb hn o' dQ=>iJ.1 b o' (c2 b o hb hn o' dQ)
 have jA: ∀b o,H' b≠none→s'.heap.get? b=some o→h'.get? b=some o:=fun b o hb ho=>iJ.1 b o (c1 b hb o ho)
 have fQ: ∀b∈bC (envOfC qual scope s₀.heap.objs.size f cd::outer),∀o,s'.heap.get? b=some o→ ∃sl,h'.get? b=some {o with slots:=sl}:=fun b hb o ho=>by
  obtain⟨o1,gQ,hd⟩:=(fl.2.2.1.mem hb).2
  rw[ho] at gQ
  cases gQ
  exact up b o ho hd
 refine⟨ea,cls,t,B,H',rfl,os.trans I.os,bare,⟨fun b o q n hn _=> ?_,fun b o q n hn _=> ?_,fun b o q n _=> ?_,fun b o q _=> ?_,fun b xs q=>u.da b xs (I.base.da b xs q),fun b o v q=>u.eQ b o v (I.base.eQ b o v q),fun b ps q=> ?_⟩,
  aw.w5 (fun b o hb ho=>jA b o hb ho),iJ,AM,kQ,fun b hb o ho=> ?_,fun b o q hn o' dQ=> ?_,hE⟩
 ·have q1:=I.base.keep b o q n hn List.not_mem_nil
  have n1:=I.base.free b o q n List.not_mem_nil
  have dA:=nL b o q hn
  exact into b o q1 dA o (u.keep b o q1 n1 dA List.not_mem_nil)
 ·obtain⟨sl,q1⟩:=I.base.slot b o q n hn List.not_mem_nil
  have n1:=I.base.free b o q n List.not_mem_nil
  have dA:b∈bC (envOfC qual scope s₀.heap.objs.size f cd::outer):=List.mem_cons_of_mem _ hn
  obtain⟨nQ,q2⟩:=u.slot b _ q1 n1 dA List.not_mem_nil
  obtain⟨tR,q3⟩:=fQ b dA _ q2
  exact⟨tR,q3⟩
 ·obtain⟨o1,q1⟩:=I.base.there b o q List.not_mem_nil
  exact u.free b o1 q1 (I.base.free b o q n List.not_mem_nil) List.not_mem_nil
 ·obtain⟨o1,q1⟩:=I.base.there b o q List.not_mem_nil
  obtain⟨o2,q2⟩:=u.there b o1 q1 List.not_mem_nil
  by_cases hm:b∈bC (envOfC qual scope s₀.heap.objs.size f cd::outer)
  ·obtain⟨sl,q3⟩:=fQ b hm o2 q2
   exact⟨_,q3⟩
  ·exact⟨o2,into b o1 q1 hm o2 q2⟩
 ·obtain⟨m1,e1⟩:=I.base.fJ b ps q
  obtain⟨m2,e2⟩:=u.fJ b _ e1
  exact⟨m1++m2,by rw[e2,Array.append_assoc]⟩
 ·obtain⟨eo,hH⟩:=Option.ne_none_iff_exists'.mp hb
  obtain⟨o2,q2⟩:=(aw b eo hH).wZ
  have q3:=jA b o2 hb q2
  have jf:h'.get? b=some o:=ho
  rw[q3] at jf
  cases jf
  exact c1 b hb _ q2
 ·obtain⟨o1,q1⟩:=I.base.there b o q List.not_mem_nil
  obtain⟨o2,q2⟩:=u.there b o1 q1 List.not_mem_nil
  have dA:=nL b o q hn
  have q3:=into b o1 q1 dA o2 q2
  have jf:h'.get? b=some o':=dQ
  rw[q3] at jf
  cases jf
  exact c2 b o1 q1 dA _ q2
def Raises(X:Cx)(E:XK):Prop:= ∀(pins:List (Addr×Obj)) (σ:St) (H:Hp) (s:Shared) (h':Heap) (e:Addr) (cls:Value) (vs:List Value),Inv X pins σ H s→Heap.MadeExcOf s.heap h' e cls vs→E cls none H→X.xe (.ref e) {s with heap:=h'}
theorem WE:Raises (ko (eG P w) P w K mg base N qual scope f cd A outer s₀ H₀ E) E:=by
 intro pins σ H s h1 e cls vs I hx hE
 have tQ:=I.ok.frames
 have hL:s₀.heap.objs.size≤ (envOfC qual scope s₀.heap.objs.size f cd).locals:=I.ok.above
 have nL: ∀b o,s₀.heap.get? b=some o→b∉bC outer→b∉bC (envOfC qual scope s₀.heap.objs.size f cd::outer):=fun b o hb hn hm=>by
  have jM:b∈ (envOfC qual scope s₀.heap.objs.size f cd).locals::bC outer:=hm
  rcases List.mem_cons.mp jM with rfl | z
  ·exact absurd (Heap.lt_size hb) (Nat.not_lt.mpr hL)
  ·exact hn z
 have w9: ∀env∈ (envOfC qual scope s₀.heap.objs.size f cd::outer),∀b,env.frame=some b→b∈bC (envOfC qual scope s₀.heap.objs.size f cd::outer):=fun env he b hb=>List.mem_filterMap.mpr ⟨env,he,hb⟩
 have tP:dN e {s with heap:=h1}:=by
  obtain⟨t,ht,_,_⟩:=hx.there
  exact⟨_,_,ht,rfl,rfl,rfl⟩
 refine wpAny_mono (tO Lh tP (wpAny_leaves_madeW (Q:=fun _ gd=> ∃h' t,gd={s with heap:=h'}∧Heap.FlyingW (hideAll s.heap (bC (envOfC qual scope s₀.heap.objs.size f cd::outer))) outer e cls (.ref t) h'∧h1.UpToSlots h') (E:=fun _ _=>False)
  tQ rfl (fun b o q=>of_hideAll _ q) (PySem.W.funFrames_hide I.stack w9) hx fun h' t iJ _ _ up=> ⟨h',t,rfl,iJ,up⟩)) (fun _ gd hq=> ?_) (fun _ _ z=>z.1.elim)
 obtain⟨⟨h',t,rfl,iJ,up⟩,AM⟩:=hq
 have into: ∀b o,s.heap.get? b=some o→b∉bC (envOfC qual scope s₀.heap.objs.size f cd::outer)→h'.get? b=some o:=fun b o hb hn=>iJ.1 b o (hideAll_get _ hb hn)
 have AN: ∀b,H b≠none→b∉bC (envOfC qual scope s₀.heap.objs.size f cd::outer):=fun b hb hm=>hb (I.vT b hm)
 have fQ: ∀b∈bC (envOfC qual scope s₀.heap.objs.size f cd::outer),∀o,s.heap.get? b=some o→ ∃sl,h'.get? b=some {o with slots:=sl}:=fun b hb o ho=>by
  obtain⟨o1,gQ,hd⟩:=(I.stack.mem hb).2
  rw[ho] at gQ
  cases gQ
  exact up b o (hx.keeps b o ho) hd
 refine⟨e,cls,t,_,H,rfl,I.os,I.bare,⟨fun b o q n hn _=> ?_,fun b o q n hn _=> ?_,fun b o q n _=>I.base.free b o q n List.not_mem_nil,fun b o q _=> ?_,I.base.da,I.base.eQ,I.base.fJ⟩,
  I.aw.w5 (fun b o hb ho=>into b o ho (AN b hb)),iJ,AM, ?_,fun b hb o ho=> ?_,fun b o q hn o' dQ=> ?_,hE⟩
 ·exact into b o (I.base.keep b o q n hn List.not_mem_nil) (nL b o q hn)
 ·obtain⟨sl,q1⟩:=I.base.slot b o q n hn List.not_mem_nil
  obtain⟨tR,q3⟩:=fQ b (List.mem_cons_of_mem _ hn) _ q1
  exact⟨tR,q3⟩
 ·obtain⟨o1,q1⟩:=I.base.there b o q List.not_mem_nil
  by_cases hm:b∈bC (envOfC qual scope s₀.heap.objs.size f cd::outer)
  ·obtain⟨sl,q3⟩:=fQ b hm o1 q1
   exact⟨_,q3⟩
  ·exact⟨o1,into b o1 q1 hm⟩
 ·cases q:H e with
  | none=>rfl
  | some ho=>
   obtain⟨o2,q2⟩:=(I.aw e ho q).wZ
   rw[hx.new] at q2
   cases q2
 ·obtain⟨eo,hH⟩:=Option.ne_none_iff_exists'.mp hb
  obtain⟨o2,q2⟩:=(I.aw b eo hH).wZ
  have q3:=into b o2 q2 (AN b hb)
  have jf:h'.get? b=some o:=ho
  rw[q3] at jf
  cases jf
  exact hideAll_get _ q2 (AN b hb)
 ·obtain⟨o1,q1⟩:=I.base.there b o q List.not_mem_nil
  have dA:=nL b o q hn
  have q3:=into b o1 q1 dA
  have jf:h'.get? b=some o':=dQ
  rw[q3] at jf
  cases jf
  exact hideAll_get _ q1 dA
end
section
variable {X:Cx}
theorem WG{x:Str}{C:Addr}{bm:List Value}{B newId qD:String}{e:Expr}{es:List Expr}{t:TA}{np dy pos:Pos}{E:XK}(hc:X.calm=true)(O:OwnCls x C bm newId X.mg X.base)(FB:ExcBaseFacts B newId qD bm)(AO:Gl X x)
  (hd:(x==("__debug__":Str))=false) (ha:PA X (e::es) t) (hs:starEach (e::es) X.env=(false,eval e X.env)::starEach es X.env) (h1:(backTo dy (starEach es X.env)).any (·.1)=false) (hR:Raises X E):
  PS X (.Raise (some (.Call (.Name x np) (e::es) [] dy)) none pos) (Aq C E t):=by
 intro pins s σ H D I h
 obtain⟨tl,N,nm,q,bs,hdct,sn,sub,ab,col,dd,k0,k1,k2,k3,k5,mN,hC,hN,w_,T⟩:=O.obj
 have hg:PE X (.Name x np) (tC (.ref C)):=IX AO O.bound rfl hd
 refine wpAny_Raise_call_subT (C:=C) (nm:=nm) (q:=q) (N:=N) (bs:=bs) (bm:=tl) (hdct:=hdct) (sn:=sn) (sub:=sub) (ab:=ab) (col:=col) (dd:=dd) (k0:=k0) (k1:=k1) (k2:=k2) (k3:=k3) (k5:=k5)
  FB (mN:=mN) (T.hasType FB.hasBase) (I.ok.hd hc) (by rw[hs];show(false || (backTo dy (starEach es X.env)).any (·.1))=false;rw[h1];rfl) w_
  (aN (hg pins s σ H (fun v H1=>v= .ref C∧Aq C E t D σ H1) I ⟨rfl,h⟩) fun f s1 ⟨v,H1,I1,r1,ev,q1⟩=> ?_)
 subst ev
 obtain rfl:f=Value.ref C:=r1
 refine⟨rfl, ?_⟩
 have hA:=ha dy pins s1 σ H1 _ I1 q1
 rw[hs] at hA⊢
 refine Calls.evalArgs_plain (aN hA fun us s2 ⟨vs,H2,I2,r2,hl,q2⟩=> ⟨rfl, ?_,I2.bk _ _ hC,hN.keeps I2.bk,T.keeps I2.bk,fun h' e' hm=>hR pins σ H2 s2 h' e' _ _ I2 hm q2⟩)
 have:=r2.length
 show us.length≤sizeLine
 omega
end
theorem Li{P:Program}{w:World}{l:List Env}{H H':Hp}{h h1 h' B:Heap}(u:Un (bC l) [] H H' h h1)(aw:b_ P w H' h1)(fr:h1.FunFrames B l)
  (c1: ∀b,H' b≠none→ ∀o,h1.get? b=some o→B.get? b=some o) (c2: ∀b o,h.get? b=some o→b∉bC l→ ∀o',h1.get? b=some o'→B.get? b=some o') (st:B.StaysIn h') (up:h1.UpToSlots h'):
  Un (bC l) [] H H' h h'∧b_ P w H' h'∧(∀b,H' b≠none→ ∀o,h'.get? b=some o→B.get? b=some o)∧(∀b o,h.get? b=some o→b∉bC l→ ∀o',h'.get? b=some o'→B.get? b=some o'):=by
 have jA: ∀b o,H' b≠none→h1.get? b=some o→h'.get? b=some o:=fun b o hb ho=>st b o (c1 b hb o ho)
 have into: ∀b o,h.get? b=some o→b∉bC l→ ∀o',h1.get? b=some o'→h'.get? b=some o':=fun b o hb hn o' dQ=>st b o' (c2 b o hb hn o' dQ)
 have fQ: ∀b∈bC l,∀o,h1.get? b=some o→ ∃sl,h'.get? b=some {o with slots:=sl}:=fun b hb o ho=>by
  obtain⟨o1,gQ,hd⟩:=(fr.mem hb).2
  rw[ho] at gQ
  cases gQ
  exact up b o ho hd
 refine⟨⟨fun b o q n hn _=>into b o q hn o (u.keep b o q n hn List.not_mem_nil),fun b o q n hn _=> ?_,u.free,fun b o q _=> ?_,u.da,u.eQ,u.fJ⟩,aw.w5 (fun b o hb ho=>jA b o hb ho),fun b hb o ho=> ?_,fun b o q hn o' dQ=> ?_⟩
 ·obtain⟨sl,q1⟩:=u.slot b o q n hn List.not_mem_nil
  obtain⟨nQ,q2⟩:=fQ b hn _ q1
  exact⟨nQ,q2⟩
 ·obtain⟨o1,q1⟩:=u.there b o q List.not_mem_nil
  by_cases hm:b∈bC l
  ·obtain⟨sl,q3⟩:=fQ b hm o1 q1
   exact⟨_,q3⟩
  ·exact⟨o1,into b o q hm o1 q1⟩
 ·obtain⟨eo,hH⟩:=Option.ne_none_iff_exists'.mp hb
  obtain⟨o2,q2⟩:=(aw b eo hH).wZ
  have q3:=jA b o2 hb q2
  rw[q3] at ho
  cases ho
  exact c1 b hb _ q2
 ·obtain⟨o2,q2⟩:=u.there b o q List.not_mem_nil
  have q3:=into b o q hn o2 q2
  rw[q3] at dQ
  cases dQ
  exact c2 b o q hn _ q2
def Cx.alt(X:Cx)(A:Around)(calm:Bool)(pn:List (Addr×Obj))(xe:Value→Shared→Prop):Cx:={X with A:=A,calm:=calm,pn:=pn,xe:=xe}
theorem Inv.alt{X:Cx}{pins iC oi:List (Addr×Obj)}{σ:St}{H:Hp}{s:Shared}{A':Around}{qE:Bool}{AQ:Value→Shared→Prop}(I:Inv X pins σ H s)(hf:A'.frames=X.A.frames)(hc:qE=true→A'.handled=none)(hp: ∀p∈oi++iC,p∈X.pn++pins):
  Inv (X.alt A' qE oi AQ) iC σ H s where
 ok:=⟨I.ok.mod,I.ok.kind,I.ok.glob,I.ok.blt,I.ok.above,I.ok.inj,I.ok.has,I.ok.vP,hc,hf.trans I.ok.frames,I.ok.iA,I.ok.Rq,I.ok.bs,I.ok.mB,I.ok.vQ,I.ok.vR,I.ok.iB,I.ok.nE⟩
 os:=I.os
 bare:=I.bare
 base:=I.base
 loc:=I.loc
 cell:=I.cell
 free:=I.free
 gb:=I.gb
 pin:=fun p h=>I.pin p (hp p h)
 aw:=I.aw
 len:=I.len
theorem Inv.AR{X:Cx}{pins iC oi:List (Addr×Obj)}{σ:St}{H:Hp}{s:Shared}{A':Around}{qE:Bool}{AQ:Value→Shared→Prop}(ok:X.Ok)(I:Inv (X.alt A' qE oi AQ) iC σ H s)(hp: ∀p∈X.pn++pins,p∈oi++iC):
  Inv X pins σ H s where
 ok:=ok
 os:=I.os
 bare:=I.bare
 base:=I.base
 loc:=I.loc
 cell:=I.cell
 free:=I.free
 gb:=I.gb
 pin:=fun p h=>I.pin p (hp p h)
 aw:=I.aw
 len:=I.len
theorem WH{P:Program}{w:World}{H:Hp}{h:Heap}{ea:Addr}{ob:Obj}(h1:h.get? ea=some ob):cG P w H h ea (.bQ ob mL):=
 ⟨h1,trivial,⟨ob,h1⟩,fun _ _ _ _=>trivial⟩
theorem b_.more{P:Program}{w:World}{H:Hp}{h:Heap}{a:Addr}{o:HO}(ok:b_ P w H h)(ha:H a=none)(x:cG P w (upd H a o) h a o):b_ P w (upd H a o) h:=fun b u e=>by
 by_cases z:b=a
 ·subst z
  rw[ay] at e
  cases e
  exact x
 ·rw[aI z] at e
  exact(ok b u e).jz (fun _ _ _ q=>q) (fun c q=>by rw[aI (bz q ha)];exact q) (fun c xs q=>by rw[aI (bz q ha)];exact q)
section
variable {X:Cx}
theorem Inv.WI{pins:List (Addr×Obj)}{σ:St}{H:Hp}{s:Shared}{h':Heap}{m':Str→Option Value}{tk:Nat}(I:Inv X pins σ H s)(hn:h'.Ns X.env.locals m')(sb:Heap.SameBut X.env.locals s.heap h'):
  Inv X pins (List.replicate X.N.length none) H {s with heap:=h',toks:=tk} where
 ok:=I.ok
 os:=I.os
 bare:=I.bare
 base:=by
  have ne: ∀b o,X.s₀.heap.get? b=some o→b≠X.env.locals:=fun b o q z=>by
   rw[z] at q
   exact absurd (Heap.lt_size q) (Nat.not_lt.mpr I.ok.above)
  refine⟨fun b o q n hn hx=> (sb.2 b (ne b o q)).trans (I.base.keep b o q n hn hx),fun b o q n hn hx=> ?_,I.base.free,fun b o q hx=> ?_,I.base.da,I.base.eQ,I.base.fJ⟩
  ·obtain⟨sl,e⟩:=I.base.slot b o q n hn hx
   exact⟨sl,(sb.2 b (ne b o q)).trans e⟩
  ·obtain⟨o',e⟩:=I.base.there b o q hx
   exact⟨o',(sb.2 b (ne b o q)).trans e⟩
 loc:=⟨m',hn,fun i x v h1 h2=>by
  rw[List.getElem?_replicate] at h2
  split at h2<;>cases h2⟩
 cell:=fun x c h=>by
  obtain⟨v,o,e,d⟩:=I.cell x c h
  refine⟨v,o,(sb.2 c (fun z=> ?_)).trans e,d⟩
  obtain⟨m,⟨o2,es,ep,e2,d2,_⟩,_⟩:=I.loc
  rw[z,e2] at e
  cases e
  rw[d] at d2
  cases d2
 free:=I.free
 gb:=I.gb
 pin:=fun p hp=>by
  obtain⟨a,b,c,d,e⟩:=I.pin p hp
  exact⟨(sb.2 _ c).trans a,b,c,d,e⟩
 aw:=I.aw.w5 fun b u hb hu=> (sb.2 b (fun z=>hb (by rw[z];exact I.free))).trans hu
 len:=List.length_replicate
theorem WJ{x n:Str}{C:Addr}{i:Nat}{body:List Stmt}{b₀:Stmt}{AS:List Stmt}{tb:XK→TS}{th:Addr→TS}{np tU pos:Pos}(i5:X.stack=X.env::X.outer)(tQ:X.env.frame=some X.env.locals)(hex:X.ex=[])
  (AO:Gl X x) (hd:(x==("__debug__":Str))=false) (ky:X.mg x=some (.ref C)) (nd:X.N.Nodup) (hN:X.N[i]?=some n) (wt:X.env.scope.names.lookup n=some .local)
  (hb: ∀(pn:List (Addr×Obj)) (xe:Value→Shared→Prop) (E:XK),PassesOwn (model X.prog X.w) X.A X.env xe→Passes (eG X.prog X.w) (X.alt X.A X.calm pn xe) E→bo (X.alt X.A X.calm pn xe) body (tb E))
  (hh: ∀(ea:Addr) (pn:List (Addr×Obj)),bo (X.alt (X.A.mark (some (.ref ea))) false pn fun _ _=>False) (b₀::AS) (th ea)):
  PS X (.Try body [.ExceptHandler (some (.Name x np)) (some n) (b₀::AS) tU] [] [] pos) (wO X.K C i X.N.length tb th):=by
 intro pins s σ H D I h
 refine wpAny_Try_except ?_
 have P1:Passes (eG X.prog X.w) (X.alt X.A X.calm (X.pn++pins) fun e s₁=>wpAny (model X.prog X.w) X.A (noteFrame e X.env) (fun _ s₂=>wpAny (model X.prog X.w) X.A (setFlight e none) (fun _ s₃=>wpAny (model X.prog X.w) X.A (handleBy e X.env [.ExceptHandler (some (.Name x np)) (some n) (b₀::AS) tU]) (SP X pins D) X.xe s₃) X.xe s₂) X.xe s₁) (Ar X.K C i X.N.length th D):=by
  intro iC σ' H1 s1 e' s' I1 hx
  obtain⟨ea,cls,t,B,H',rfl,os,bare,u,aw,fl,tP,kQ,c1,c2,hm,WK⟩:=hx
  have WL:X.A.frames=some (X.env::X.outer):=by rw[I.ok.frames,i5]
  have iJ:Heap.FlyingW B (X.env::X.outer) ea cls (.ref t) s'.heap:=by rw[←i5];exact fl
  refine wpAny_mono (tO Lg tP (wpAny_looks_onW (Q:=fun _ gd=> ∃h',gd={s' with heap:=h'}∧Heap.HeldW B (X.env::X.outer) ea cls (.ref t) X.env.locals h'∧s'.heap.UpToSlots h') (E:=fun _ _=>False) WL tQ iJ fun h4 kR AU=> ⟨h4,rfl,kR,AU⟩))
   (fun _ s4 hq=> ?_) (fun _ _ z=>z.1.elim)
  obtain⟨⟨h4,rfl,kR,AU⟩,WM⟩:=hq
  refine wpAny_mono (tO AK WM (wpAny_landsW (s:={s' with heap:=h4}) (Q:=fun _ gd=> ∃h',gd={s' with heap:=h'}∧Heap.FlyingW B (X.env::X.outer) ea cls (.ref t) h'∧h4.UpToSlots h') (E:=fun _ _=>False) kR fun h5 qG AV=> ⟨h5,rfl,qG,AV⟩))
   (fun _ s5 hq=> ?_) (fun _ _ z=>z.1.elim)
  obtain⟨⟨h5,rfl,WN,AV⟩,WO⟩:=hq
  have qG:Heap.FlyingW B X.stack ea cls (.ref t) h5:=by rw[i5];exact WN
  obtain⟨u5,Lj,tV,tW⟩:=Li (l:=X.stack) u aw fl.2.2.1 c1 c2 qG.1 (AU.trans AV)
  obtain⟨oe,ws,WQ,WR,anR,anS⟩:=qG.first
  have I5:=I1.zt (s':={s' with heap:=h5}) (ch:=[]) os u5 Lj bare (fun b z=>absurd z List.not_mem_nil)
  refine wpAny_handleBy_cons (codeAny_handlers_test ?_) (by intro q;cases q)
  have sH:Inv (X.alt (X.A.mark (some (.ref ea))) false (X.pn++pins) fun _ _=>False) [] σ' H' {s' with heap:=h5}:=I5.alt (A':=X.A.mark (some (.ref ea))) (qE:=false) (oi:=X.pn++pins) (iC:=[]) rfl (fun z=>nomatch z) (fun p hp=>List.mem_append.mpr (.inl (by rw[List.append_nil] at hp;exact hp)))
  refine sA sH AO ky ?_ hd
  have LT:PySem.W.Looks (model X.prog X.w) h5 (typeOf (.ref ea)) cls:=by
   subst WR
   exact(PySem.W.Looks.ld WQ).andThen .now
  refine(PySem.W.exm_one I5.cX LT hm).here ?_
  refine codeAny_handlers_suite_as ?_
  refine wpAny_mono (tO AK WO (lands_againW (s:={s' with heap:=h5}) (Q:=fun _ gd=> ∃h',gd={s' with heap:=h'}∧Heap.FlyingW B X.stack ea cls (.ref t) h'∧h5.UpToSlots h') (E:=fun _ _=>False) qG fun h6 qH AW=> ⟨h6,rfl,qH,AW⟩))
   (fun _ s6 hq=> ?_) (fun _ _ z=>z.1.elim)
  obtain⟨⟨h6,rfl,qH,AW⟩,WS⟩:=hq
  obtain⟨u6,WT,xa,tX⟩:=Li (l:=X.stack) u5 Lj qG.2.2.1 tV tW qH.1 AW
  obtain⟨qI,Lk,xb,WU,AX,_⟩:=qH.first
  have qJ:Ap qI cls Lk:=by
   obtain⟨o',vs',q1,q2,q3,q4⟩:=WS
   have jN:h6.get? ea=some o':=q1
   rw[xb] at jN
   cases jN
   rw[AX] at q2
   cases q2
   exact⟨WU,AX,q3,q4⟩
  have ne1:s1.heap.get? ea=none:=by
   cases q:s1.heap.get? ea with
   | none=>rfl
   | some o1=>
    by_cases Ll:ea∈bC X.stack
    ·obtain⟨o2,eo,hd2⟩:=(qH.2.2.1.mem Ll).2
     rw[xb] at eo
     cases eo
     exact(hd2 _ AX).elim
    ·have:=tX ea o1 q Ll qI xb
     rw[qH.2.1] at this
     cases this
  have u7:Un (bC X.stack) [] H1 (upd H' ea (.bQ qI mL)) s1.heap h6:=⟨u6.keep,u6.slot,fun b o q n hx=>by
    rw[aI (fun z=>by rw[z,ne1] at q;cases q)];exact u6.free b o q n hx,u6.there,fun b xs q=>by
    have q':=u6.da b xs q
    rw[aI (bz q' kQ)];exact q',fun b o v q=>by
    have q':=u6.eQ b o v q
    rw[aI (bz q' kQ)];exact q',fun b ps q=>by
    obtain⟨more,q'⟩:=u6.fJ b ps q
    exact⟨more,by rw[aI (bz q' kQ)];exact q'⟩⟩
  have WV:b_ X.prog X.w (upd H' ea (.bQ qI mL)) h6:=WT.more kQ (WH xb)
  have I7:=I1.zt (s':={s' with heap:=h6}) (ch:=[]) os u7 WV bare (fun b z=>absurd z List.not_mem_nil)
  have I8:Inv (X.alt (X.A.mark (some (.ref ea))) false (X.pn++pins) fun _ _=>False) [] σ' (upd H' ea (.bQ qI mL)) {s' with heap:=h6}:=I7.alt (A':=X.A.mark (some (.ref ea))) (qE:=false) (oi:=X.pn++pins) (iC:=[]) rfl (fun z=>nomatch z) (fun p hp=>List.mem_append.mpr (.inl (by rw[List.append_nil] at hp;exact hp)))
  refine zr (X:=X.alt (X.A.mark (some (.ref ea))) false (X.pn++pins) fun _ _=>False) (v:= .ref ea) I8 nd hN (.inl wt) rfl (fun s9 I9=> ?_) (.inr wt)
  refine wpAny_mono (hh ea (X.pn++pins) [] s9 _ _ {nx:=fun _ _=>False,rt:=D.rt} I9 (WK ea qI Lk σ' kQ I1.len qJ)) (fun f tY hs=> ?_) fun _ _ z=>z.elim
  cases f with
  | next=>obtain⟨_,_,_,z⟩:=hs;exact z.elim
  | brk=>obtain⟨_,_,_,z⟩:=hs;exact z.elim
  | cont=>obtain⟨_,_,_,z⟩:=hs;exact z.elim
  | ret v=>
   obtain⟨v',WW,Lm,WX,r,q⟩:=hs
   have Ln:Inv X pins WW Lm tY:=WX.AR I.ok (fun p hp=>by simpa using hp)
   obtain⟨m,hn,_⟩:=Ln.loc
   refine wpAny_nameGoes wt hn (by rw[I.ok.kind];rfl) fun h' m' sy sb=> ?_
   exact⟨v',_,Lm,Ln.WI sy sb,r,q⟩
 refine wpAny_mono (hb _ _ _ PassesOwn.looking P1 [] s σ H {nx:=D.nx,rt:=D.rt} (I.alt rfl I.ok.hd (fun p hp=>by simpa using hp)) h) (fun f s1 hs=> ?_) fun e' s' hx=>hx
 cases f with
 | next=>
  obtain⟨σ',H',I',q⟩:=hs
  exact Je pins s1 σ' H' D (I'.AR I.ok (fun p hp=>by simpa using hp)) q
 | brk=>obtain⟨_,_,_,z⟩:=hs;exact z.elim
 | cont=>obtain⟨_,_,_,z⟩:=hs;exact z.elim
 | ret v=>
  obtain⟨v',σ',H',I',r,q⟩:=hs
  exact⟨v',σ',H',I'.AR I.ok (fun p hp=>by simpa using hp),r,q⟩
end
def gi(A:Around)(H:Hp):Prop:= ∃e D,A.handled=some (.ref e)∧ExcAt H e D
def Hd(X:Cx):Prop:=gi X.A X.H₀
theorem ExcAt.keeps{H H':Hp}{e D:Addr}(h:ExcAt H e D)(k: ∀b o u,H b=some (.bQ o u)→H' b=some (.bQ o u)):ExcAt H' e D:=by
 obtain⟨ob,vs,h1,h2⟩:=h
 exact⟨ob,vs,k _ _ _ h1,h2⟩
theorem gi.keeps{A:Around}{H H':Hp}(h:gi A H)(k: ∀b o u,H b=some (.bQ o u)→H' b=some (.bQ o u)):gi A H':=by
 obtain⟨e,D,h1,h2⟩:=h
 exact⟨e,D,h1,h2.keeps k⟩
theorem gi.mR{P:Program}{w:World}{A:Around}{H:Hp}{h:Heap}(x:gi A H)(ok:b_ P w H h):h_ A h:=by
 obtain⟨e,D,h1,ob,vs,h2,h3⟩:=x
 exact .inr ⟨e,ob,vs,h1,(ok e _ h2).1,h3.data,h3.VR⟩
section
variable {X:Cx} {pins:List (Addr×Obj)} {σ:St} {H:Hp} {s:Shared}
theorem Hd.at(h:Hd X)(I:Inv X pins σ H s):gi X.A H:=gi.keeps h I.base.eQ
theorem Hd.mR(h:Hd X)(I:Inv X pins σ H s):h_ X.A s.heap:=(h.at I).mR I.aw
end
theorem WY{P:Program}{w:World}{K:PySem.W.Frag}{tg:Expr}(a it:Addr):Ah Hd P w K tg (iE K a) [it] it (fun i h=>h.IsListIter it a i) where
 mem:=by simp
 obj:=(v3 (P:=P) (w:=w) (K:=K) (tg:=tg) a it).obj
 keep:=(v3 (P:=P) (w:=w) (K:=K) (tg:=tg) a it).keep
 item:=by
  intro X hP hw hK hc i pins s σ H E I hf st hg
  subst hP hw hK
  obtain⟨xs,x,hq,hx⟩:=hg
  obtain⟨its,rv,p,hz⟩:=I.list hq
  obtain⟨u,hu,ru⟩:=rv.get hx
  obtain⟨f0,f1,f2,f3,f4,f5⟩:=hf it (by simp)
  refine wpAny_pyNext_list_item st p.isList (x:=u) (by simpa using hu) fun h' i8 sb=> ?_
  have I1:Inv X pins σ H {s with heap:=h'}:=I.turned (t':=s.toks) (fun b o hb e=> (sb.2 b hb).trans e) f0 f1 f3 f4 f5
  obtain⟨o,e,c,d⟩:=id i8
  exact⟨u,rfl,zy (s:={s with heap:=h'}) e c d (by decide) ⟨x,H,I1,ru,⟨rfl,fun ys hy=>by rw[I.vW hy hq];exact hx⟩,i8,fun b hb=> (hf b hb).1⟩⟩
 done:=by
  intro X hP hw hK hc i pins s σ H E I hf st hg
  subst hP hw hK
  obtain⟨xs,hq,hx⟩:=hg
  obtain⟨its,rv,p,hz⟩:=I.list hq
  obtain⟨f0,f1,f2,f3,f4,f5⟩:=hf it (by simp)
  have hl:=rv.length
  exact Wh (hc.mR I) st p.isList (by simp;omega) fun h' eb=> ⟨rfl,I.turned (t':=s.toks) (fun b o hb e=>eb b o hb e) f0 f1 f3 f4 f5⟩
 self:=(v3 (P:=P) (w:=w) (K:=K) (tg:=tg) a it).self
section
variable {X:Cx} {tg:Expr}
theorem WZ{l:Expr}{tl:TE}(hl:PE X l tl):wF Hd X tg l (sE X.K tl):=by
 intro pins s σ H R I h
 refine aN (hl pins s σ H _ I h) fun v s1 ⟨x,H1,I1,r1,q1⟩=> ?_
 obtain⟨a,e,⟨xs,hq⟩,q⟩:=q1
 subst e
 cases r1
 obtain⟨its,rv,p,hz⟩:=I1.list hq
 refine wpAny_pyIter_list p.isList ?_
 refine⟨s1.heap.objs.size,[s1.heap.objs.size],_,_,H1,rfl,I1.kept (t':=s1.toks) fun b o e=>Heap.get?_push_of_some _ e,WY a _,⟨_,Heap.get?_push_size _ rfl,rfl,rfl⟩,fun b hb=> ?_,q⟩
 have e:b=s1.heap.objs.size:=by simpa using hb
 subst e
 exact I1.vZ (Nat.le_refl _) (I1.aw.fresh (Nat.le_refl _))
theorem W0{pos:Pos}{es:List Expr}{k:Nat}{t:iZ}{n:Nat}(hd:Hd X)(h:nH X es t)
  (hn:(assignEach es X.env).length=n:=by rfl) (i5:(assignEach es X.env).findIdx? (·.1)=none:=by rfl):PG X (.Tuple es k pos) (vY X.K n t):=by
 intro pins s σ H v u Q I r hw
 obtain⟨a,xs,e1,hq,hl,hw⟩:=hw
 subst e1
 cases r
 obtain⟨its,rv,ht,hz⟩:=I.tuple hq
 refine Wl (hd.mR I) ht (by simp[hn,←hl,rv.length]) i5 fun h' hx=> ?_
 have I1:Inv X pins σ H {s with heap:=h'}:=I.kept (t':=s.toks) fun b o e=>hx b o (Nat.ne_of_lt (Heap.lt_size e)) e
 exact h pins _ σ H xs _ Q I1 (by simpa using rv) hw
theorem W7{scope:Scope}{fv:List (Str×Nat)}{x y:Str}{px py pos:Pos}{k:Nat}(hx:scope.names.lookup x=some .local)(hy:scope.names.lookup y=some .local)(jG:(x::y::fv.map (·.1)).Nodup):wG (gi X.A) X scope [x,y] fv (.Tuple [.Name x px, .Name y py] k pos) (some 2):=by
 intro ex C s H hH
 generalize eX:fP X scope ([x,y]++fv.map (·.1)) ex C s H=Xc
 have xN:Xc.N=x::y::fv.map (·.1):=by rw[←eX];rfl
 have xd:Hd Xc:=by rw[←eX];exact hH
 have lx:Xc.env.scope.names.lookup x=some .local:=by rw[←eX];exact lookup_relabel_local hx
 have ly:Xc.env.scope.names.lookup y=some .local:=by rw[←eX];exact lookup_relabel_local hy
 have p1:PG Xc (.Name x px) (dR 0):=qm (by rw[xN];exact jG) (by rw[xN];rfl) (.inl lx) (.inr lx)
 have p2:PG Xc (.Name y py) (dR 1):=qm (by rw[xN];exact jG) (by rw[xN];rfl) (.inl ly) (.inr ly)
 have xK:Xc.K=X.K:=by rw[←eX];rfl
 refine⟨vY Xc.K 2 (qo (dR 0) (qo (dR 1) vX)),W0 xd (sD p1 (sD p2 zx)),fun v pre φ H' Q hp h=> ?_⟩
 obtain⟨a,b,rfl⟩: ∃a b,pre=[a,b]:=by
  match pre,hp with
  | [a,b],_=>exact⟨a,b,rfl⟩
 obtain⟨a',xs,rfl,e2,e3,q⟩:=h
 obtain⟨v1,v2,rfl⟩: ∃v1 v2,xs=[v1,v2]:=by
  match xs,e3 with
  | [v1,v2],_=>exact⟨v1,v2,rfl⟩
 exact⟨a',_,rfl,by rw[xK];exact e2,rfl,v1,_,rfl,v2,_,rfl,rfl,q rfl⟩
theorem W8{X:Cx}: ∀H,gi X.A H→ ∀Xc:Cx,Xc.A=X.A→Xc.calm=X.calm→Xc.H₀=H→Hd Xc:=fun H h Xc a _ b=>by
 show gi Xc.A Xc.H₀
 rw[a,b];exact h
theorem W9:cJ X (.builtin "isinstance") (jJ X.K):=by
 intro pins s σ H xs us Q I r h
 match xs,h with
 | [.ref ea,c],h=>
  obtain⟨D,b,⟨ob,vs,h1,h2⟩,hC,hc,hk,hq⟩:=h
  cases r with
  | cons r1 r=>
   cases r with
   | cons r2 r=>
    cases r
    rename_i u1 u2
    cases (show u1=Value.ref ea from r1)
    have e2:u2=cV c:=by
     rcases hc with⟨C,rfl⟩ | ⟨n,rfl⟩
     ·exact r2
     ·exact r2
    subst e2
    have at_:=(I.aw ea _ h1).1
    have inst:InstAt s.heap ea ob D none:=⟨at_,h2.cls,by unfold PySem.W.notCls;rw[h2.data],by rw[h2.dict];trivial⟩
    exact kia_one (Wq hC.tu hC.tw hC.hk hC.ha hC.hn hC.mE hC.hm hC.hb) I.cX inst hk (fun z=>nomatch z) fun tk=> ⟨.bl b,H,I.tok tk,rfl,hq⟩
end
structure gj (k:Nat) (A:Around):Prop where
 dp:A.depth+3*k+5<recursionLimit
 un:A.units+16*k+200<cLine
theorem dr.h{k:Nat}{A:Around}(r:dr k A):gj k A:=⟨r.dp,r.un⟩
theorem gj.mark{k:Nat}{A:Around}(r:gj k A)(v:Option Value):gj k (A.mark v):=⟨r.dp,r.un⟩
theorem gj.deeper{k:Nat}{A:Around}(r:gj (k+1) A)(env:Env):gj k (A.deeper env):=
 ⟨by have:=r.dp;show A.depth+1+3*k+5<_;omega,by have:=r.un;show A.units+3+16*k+200<_;omega⟩
theorem gj.depth{k:Nat}{A:Around}(r:gj k A):A.depth<recursionLimit:=by have:=r.dp;omega
theorem gj.units{k:Nat}{A:Around}(r:gj k A):A.units+64<cLine:=by have:=r.un;omega
def W_(outer:List Env)(P:Program)(w:World)(H:Hp)(s:Shared)(Q:VK)(r:Result)(s':Shared):Prop:=
 match r with
 | .ok (.ret u)=>CE outer P w H s Q u s'
 | _=>False
structure oj (P:Program) (w:World) (K:PySem.W.Frag) (mg:Str→Option Value) (base:Heap) (k:Nat) (f:Addr) (fd:FuncData) (ps:List Str) (sp:Sp):Prop where
 len: ∀vs H Q E,sp vs H Q E→vs.length=ps.length
 run: ∀(A:Around) (outer:List Env) (s:Shared) (H:Hp) (args:Args) (us:List Value) (vs:List V) (Q:VK),gj k A→gi A H→kl P w K mg base A outer s H→BindsTo s fd args (ps.zip us)→Vals vs us→sp vs H Q E0→
  codeAny (model P w) A (.call (.ref f) args) (W_ outer P w H s Q) s
theorem oj.mono{P:Program}{w:World}{K:PySem.W.Frag}{mg:Str→Option Value}{base:Heap}{j k:Nat}{f:Addr}{fd:FuncData}{ps:List Str}{sp:Sp}(F:oj P w K mg base j f fd ps sp)(h:j≤k):oj P w K mg base k f fd ps sp:=
 ⟨F.len,fun A outer s H args us vs Q hr=>F.run A outer s H args us vs Q ⟨by have:=hr.dp;omega,by have:=hr.un;omega⟩⟩
def xf(CX:aL)(P:Program)(w:World)(K:PySem.W.Frag)(mg:Str→Option Value)(base:Heap)(N:List Str)(qual:Str)(scope:Scope)(f:Addr)(cd:Value)(A:Around)(outer:List Env)(s:Shared)(H:Hp):Cx:=
 (ko CX P w K mg base N qual scope f cd {A with handled:=none} outer s H E0).alt (A.deeper (envOfC qual scope s.heap.objs.size f cd)) false [] fun _ _=>False
theorem Xa{CX:aL}{P:Program}{w:World}{K:PySem.W.Frag}{mg:Str→Option Value}{base:Heap}{k:Nat}{f:Addr}{name qual:Str}{params:Arguments}{body:List Stmt}{scope:Scope}{dV kV doc pm cY ct oc:Value}{an od:Option Addr}
  {ja:Array (Option Value)} {N ps:List Str} {sp:Sp} (lk:K.lookup f=some ⟨oc,od, .func (fnOf name qual params body scope dV kV doc pm an cY ct),ja⟩) (hG:codeIn K cY qual=true) (S:bR N ps scope)
  (len: ∀vs H Q E,sp vs H Q E→vs.length=ps.length)
  (zK: ∀(A:Around) (outer:List Env) (s:Shared) (H:Hp) (vs:List V) (Q:VK),gj k (A.deeper (envOfC qual scope s.heap.objs.size f cY))→gi A H→sp vs H Q E0→
   ∃t,bo (xf CX P w K mg base N qual scope f cY A outer s H) body t∧t {nx:=fun _ H'=>Q .aq H',rt:=Q} (start N vs) H):
  oj P w K mg base (k+1) f (fnOf name qual params body scope dV kV doc pm an cY ct) ps sp:=by
 refine⟨len,fun A outer s H args us vs Q hr hh e0 hb r gf=> ?_⟩
 have hl:=len _ _ _ _ gf
 have KX:K.In s.heap:=e0.mod.nC.keeps fun b o e=> (e0.bs b o e).1
 have lim:s.heap.NoLimit:=e0.mod.nolimit.keeps fun b o e=> (e0.bs b o e).1
 have zL: ∀y∈ps.zip us,scope.names.lookup y.1=some .local∨(scope.names.lookup y.1=some .cell∧((cellsFrom (s.heap.objs.size+1) scope.names []).lookup y.1).isSome=true):=fun⟨n,v⟩ hy=>by
  rcases S.par n (List.of_mem_zip hy).1 with q | q
  ·exact .inl q
  ·exact .inr ⟨q,cellsFrom_some _ _ _ (.inl q)⟩
 refine codeAny_call_function hr.depth (KX _ _ lk) rfl S.co S.gen rfl (codeRec_of KX hG) (hb _ _ _ _ ?_)
 refine wpAny_newFunctionEnv_cells S.kind zL fun env he s1 x=> ?_
 subst he
 refine⟨lim.keeps x.toInCall.keep,codeAny_func ?_⟩
 obtain⟨t,ht,hq⟩:=zK A outer s H vs Q (hr.deeper _) hh gf
 have Xb:kl P w K mg base {A with handled:=none} outer s H:=⟨e0.frames,e0.mod,e0.bs,e0.mB,e0.iB,e0.nE,e0.aw,e0.bare⟩
 have I0:Inv (ko CX P w K mg base N qual scope f cY {A with handled:=none} outer s H E0) [] (start N vs) H s1:=JP S rfl Xb hl r x
 have I:Inv (xf CX P w K mg base N qual scope f cY A outer s H) [] (start N vs) H s1:=I0.alt rfl (fun z=>nomatch z) (fun p hp=>hp)
 refine wpAny_mono (ht [] s1 (start N vs) H _ I hq) (fun fl s' hs=> ?_) fun e s' hs=>hs.elim
 have fin: ∀{σ':St} {H':Hp} {v:V} {u:Value},Inv (xf CX P w K mg base N qual scope f cY A outer s H) [] σ' H' s'→RelV v u→Q v H'→CE outer P w H s Q u s':=
  fun {σ' H' v u} J rv q=> ⟨v,H',J.os,J.bare,J.base,J.aw,rv,q⟩
 cases fl with
 | ret u=>
  obtain⟨v,σ',H',J,rv,q⟩:=hs
  exact fin J rv q
 | next=>
  obtain⟨σ',H',J,q⟩:=hs
  exact fin (v:=V.aq) (u:=Value.none) J rfl q
 | brk=>
  obtain⟨_,_,_,q⟩:=hs
  exact False.elim q
 | cont=>
  obtain⟨_,_,_,q⟩:=hs
  exact False.elim q
theorem Xd{CX:aL}{P:Program}{w:World}{K:PySem.W.Frag}{mg:Str→Option Value}{base:Heap}{N:List Str}{qual:Str}{scope:Scope}{f:Addr}{cd:Value}{A:Around}{outer:List Env}{s:Shared}{H:Hp}(h:gi A H):Hd (xf CX P w K mg base N qual scope f cd A outer s H):=h
section
variable {X:Cx} {k:Nat} {f:Addr} {fd:FuncData} {ps:List Str} {sp:Sp} {x:Str} {p pos:Pos} {e:Expr} {ta:TE} {hv:Option Addr}
theorem Xe(F:oj X.prog X.w X.K X.mg X.base k f fd ps sp)(hr:gj k X.A)(hg:Gl X x)(hm:X.mg x=some (.ref f))(hk:keepIn X.K (.ref f)=true)(hb:Binds X.K fd ps [])(hh: ∀e,hv=some e→X.A.handled=some (.ref e))
  (ha:PE X e ta) (hs:noStar e=true) (km:(x==("__debug__":Str))=false):PE X (.Call (.Name x p) [e] [] pos) (K0 sp hv (dM ta gN)):=by
 intro pins s σ H Q I h
 have he:starEach [e] X.env=(false,eval e X.env)::starEach [] X.env:=by cases e<;>first | rfl | cases hs
 refine wpAny_Call_Name_kw (sA I hg hm ?_ km)
 have hA:PA X [e] (dM ta gN):=kj ha qr he
 refine callWith_K (h₀:=X.base) I.ok.mod.nC hk (aN (hA pos pins s σ H _ I h) fun us s1 ⟨vs,H1,I1,r,⟨ea,D,h1,h2⟩,q⟩=> ⟨I1.cX, ?_⟩) he rfl
 have r2:Vals vs us:=r
 have hl:us.length=ps.length:=by rw[←r2.length];exact F.len _ _ _ _ q
 have mI:=hb s1 us I1.cX (by rw[List.append_nil];exact hl)
 rw[List.append_nil] at mI
 refine wpAny_call (codeAny_mono (F.run X.A X.stack s1 H1 ⟨us,[]⟩ us vs Q hr ⟨ea,D,hh ea h1,h2⟩ I1.zG mI r2 q) fun r s' hq=> ?_)
 cases r with
 | error e=>exact False.elim hq
 | ok fl=>
  cases fl with
  | ret u=>exact I1.after hq
  | next=>exact False.elim hq
  | brk=>exact False.elim hq
  | cont=>exact False.elim hq
end
def Lo(CX:aL)(X:Cx)(x:Str)(sp:Sp):Prop:=
 ∃k f fd ps,cA X.prog X.w X.K X.mg X.base CX k f fd ps sp∧dr k X.A∧X.mg x=some (.ref f)∧keepIn X.K (.ref f)=true∧Binds X.K fd ps []
def xg(CX:aL)(X:Cx)(C:Addr)(m:Str)(sp:Sp):Prop:=
 i_ X.K C∧ ∃k f fd ps,Meth X.K C m f∧cA X.prog X.w X.K X.mg X.base CX k f fd ps sp∧dr k X.A∧Binds X.K fd ps []
def Lp(CX:aL)(X:Cx)(x:Str)(C:Addr)(sp:Sp):Prop:=
 ∃k f fd ps,Mk X.K C f∧cA X.prog X.w X.K X.mg X.base CX k f fd ps sp∧dr (k+1) X.A∧X.mg x=some (.ref C)∧Binds X.K fd ps []
def Lq(X:Cx)(x:Str)(sp:Sp):Prop:=
 ∃k f fd ps,oj X.prog X.w X.K X.mg X.base k f fd ps sp∧gj k X.A∧X.mg x=some (.ref f)∧keepIn X.K (.ref f)=true∧Binds X.K fd ps []
def Lr(X:Cx)(x:Str)(C:Addr):Prop:= ∃bm B newId qD,OwnCls x C bm newId X.mg X.base∧ExcBaseFacts B newId qD bm
structure Good (CX:aL) (S:dt) (Γ:aG) (X:Cx):Prop where
 N:X.N=S.N
 sc:X.env.scope=S.sc
 K:X.K=Γ.K
 calm:S.md=0→X.calm=true
 units:X.A.units+64<cLine
 fns:S.md=0→ ∀j x,S.fn[j]?=some x→Lo CX X x (Γ.fs j)
 cC: ∀j x,S.gn[j]?=some x→ ∃u,X.mg x=some u∧RelV (Γ.gv j) u
 fS: ∀x,S.bl.contains x=true→X.mg x=none
 pass:Passes CX X Γ.E
 jO: ∀outer H s e s',CX outer H s E0 e s'→False
 kS: ∀p ao,Γ.sd p ao→ ∀h:Heap,X.K.In h→ ∃vs,KV ao vs∧h.DictOf (eh X.prog X.w) p vs
 kT:S.md=0→ ∀j m,S.mn[j]?=some m→xg CX X (Γ.ms j).1 m (Γ.ms j).2
 mS:S.md=0→ ∀j x,S.kn[j]?=some x→Lp CX X x (Γ.kt j).1 (Γ.kt j).2
 qK: ∀j x,S.en[j]?=some x→Lr X x (Γ.ex j)
 kU: ∀j x,S.hn[j]?=some x→Lq X x (Γ.hs j)
 mT: ∀e,Γ.hv=some e→X.A.handled=some (.ref e)
 om:S.md=1→Hd X
theorem xh{S:dt}(h:(if S.md=0 then 0 else 2)=0):S.md=0:=by
 split at h
 ·assumption
 ·cases h
section
variable {CX:aL} {S:dt} {Γ:aG} {X:Cx}
theorem Good.inner(G:Good CX S Γ X)(c:tK)(ln:List Str)(fv:List (Str×Nat))(ex:List Addr)(C:Addr)(s:Shared)(H:Hp):
  Good CX (Lc S c ln fv) Γ.calm (fP X c.sc (ln++fv.map (·.1)) ex C s H) where
 N:=rfl
 sc:=by
  show relabel c.sc X.env=AB c.sc S.sc
  rw[←G.sc];rfl
 K:=G.K
 calm:=fun h=>G.calm (xh h)
 units:=G.units
 fns:=fun m j x h=>G.fns (xh m) j x h
 cC:=G.cC
 fS:=G.fS
 pass:=fun _ _ _ _ _ _ _ h=> (G.jO _ _ _ _ _ h).elim
 jO:=G.jO
 kS:=G.kS
 kT:=fun z j m h=>G.kT (xh z) j m h
 mS:=fun z j x h=>G.mS (xh z) j x h
 qK:=fun j x h=>by simp[Lc] at h
 kU:=fun j x h=>G.kU j x h
 mT:=fun e h=>G.mT e h
 om:=fun h=>by
  have h':(if S.md=0 then 0 else 2)=1:=h
  split at h'<;>cases h'
theorem Good.gl(G:Good CX S Γ X){x:Str}(h:kJ S.sc x=true):Gl X x:=by
 show X.env.scope.names.lookup x=_
 rw[G.sc];exact V4 h
theorem d4{e:Expr}{es:List Expr}{env:Env}(h:noStar e=true):starEach (e::es) env=(false,eval e env)::starEach es env:=by
 cases e<;>first | rfl | cases h
theorem nS{o:Expr}{x:Str}{env:Env}(h:mQ o=true):attributeBase o x env (eval o env)=eval o env:=by
 unfold attributeBase
 split
 ·cases h
 ·rfl
theorem tZ{e:Expr}{env:Env}(h:tL e=true): ∀x,foldedSetIterable e env x=pure x:=by
 intro x
 cases e<;>first | rfl | cases h
def gk(es:List Expr):Bool:=es.all noStar
theorem jP(env:Env)(pos:Pos): ∀(es:List Expr),gk es=true→(backTo pos (starEach es env)).any (·.1)=false
 | [],h=>rfl
 | e::es,h=>by
  simp only[gk,List.all_cons,Bool.and_eq_true] at h
  rw[d4 h.1]
  have ih:=jP env pos es h.2
  show(false || (backTo pos (starEach es env)).any (·.1))=false
  rw[ih];rfl
theorem AY(env:Env)(pos:Pos): ∀(es:List Expr),gk es=true→(backTo pos (starEach es env)).all (fun x=> !x.1)=true
 | [],h=>rfl
 | e::es,h=>by
  simp only[gk,List.all_cons,Bool.and_eq_true] at h
  rw[d4 h.1]
  have ih:=AY env pos es h.2
  show(!false && (backTo pos (starEach es env)).all (fun x=> !x.1))=true
  rw[ih];rfl
theorem dD{e:Expr}{es:List Expr}(h:gk (e::es)=true):noStar e=true∧gk es=true:=by
 simp only[gk,List.all_cons,Bool.and_eq_true] at h
 exact h
theorem AZ(G:Good CX S Γ X){c:tK}{ln:List Str}{fv:List (Str×Nat)}(h:AE S c ln fv=true):
  je X c.sc ln fv∧(∀x∈ln,c.sc.names.lookup x=some .local)∧(ln++fv.map (·.1)).Nodup∧tL c.iter=true:=by
 simp only[AE,Bool.and_eq_true,decide_eq_true_eq,List.all_eq_true,Bool.or_eq_true] at h
 obtain⟨⟨⟨⟨⟨⟨⟨h1,h2⟩,h3⟩,h4⟩,h5⟩,h6⟩,h7⟩,h8⟩:=h
 refine⟨⟨h1,fun y hy=>h2 y hy,fun y hy hl=> ?_,fun y hy hf=> ?_,fun p hp=> ?_⟩,h6,h7,h8⟩
 ·rcases h3 y hy with z | z
  ·exact absurd hl z
  ·exact z
 ·show X.env.scope.names.lookup y.1=_∨X.env.scope.names.lookup y.1=_
  rw[G.sc]
  rcases h4 y hy with(z | z) | z
  ·exact absurd hf z
  ·exact .inl z
  ·exact .inr z
 ·rw[G.N];exact h5 p hp
theorem Ls(hc:X.calm=true){c:tK}{tk:Option Nat}{ln:List Str}{fv:List (Str×Nat)}(h:AD tk c.tg=some ln)(hl: ∀x∈ln,c.sc.names.lookup x=some .local)(hn:(ln++fv.map (·.1)).Nodup):
  sW X c.sc ln fv c.tg tk:=by
 unfold AD at h
 split at h
 ·rename_i x p he
  cases h
  rw[he]
  exact Vk (hl x (by simp)) hn
 ·rename_i x p y q k pos he
  cases h
  rw[he]
  exact Vm hc (hl x (by simp)) (hl y (by simp)) hn
 ·cases h
theorem Xf{xs:List V}{H:Hp}{Q:VK}{K:PySem.W.Frag}(h:mO K .int xs H Q):(∃i,xs=[.int i]∧Q (.int i) H)∨ ∃k,xs=[.bl k]∧Q (.int (if k then 1 else 0)) H:=by
 match xs,h with
 | [.int i],h=>exact .inl ⟨i,rfl,h⟩
 | [.bl k],h=>exact .inr ⟨k,rfl,h⟩
theorem Xg{K:PySem.W.Frag}{x:V}{H:Hp}{Q:Nat→Prop}(h:wu K x H Q): ∃n,JE K x H n∧Q n:=by
 match x,h with
 | .str y,h=>exact⟨_,⟨h.1,rfl⟩,h.2⟩
 | .ref p, .inl ⟨xs,a,b⟩=>exact⟨_, .inl ⟨xs,a,rfl⟩,b⟩
 | .ref p, .inr ⟨xs,a,b⟩=>exact⟨_, .inr ⟨xs,a,rfl⟩,b⟩
inductive Xh (X:Cx) (b:kE):Prop where
 | fn (id:String) (hv:bootBuiltins b.nm=some (.builtin id)) (hc:cJ X (.builtin id) (mO X.K b))
 | ty (T:String) (hv:bootBuiltins b.nm=some (.type T)) (hc:cJ X (.type T) (mO X.K b))
theorem boot_min:bootBuiltins "min"=some (.builtin "min"):=by decide+kernel
theorem boot_max:bootBuiltins "max"=some (.builtin "max"):=by decide+kernel
theorem boot_abs:bootBuiltins "abs"=some (.builtin "abs"):=by decide+kernel
theorem boot_sum:bootBuiltins "sum"=some (.builtin "sum"):=by decide+kernel
theorem Lu:bootBuiltins "isinstance"=some (.builtin "isinstance"):=by decide+kernel
theorem Xi:bootBuiltins "int"=some (.type "int"):=by decide+kernel
theorem Xj:bootBuiltins "list"=some (.type "list"):=by decide+kernel
theorem Xk:bootBuiltins "tuple"=some (.type "tuple"):=by decide+kernel
theorem A0(f:Nat→Int)(lt:Nat→Nat→Bool)(h: ∀i j,lt i j=decide (f i<f j)): ∀n,argBest lt n≤n∧ ∀i,i≤n→f (argBest lt n)≤f i
 | 0=> ⟨Nat.le_refl _,fun i hi=>by
   obtain rfl:i=0:=by omega
   exact Int.le_refl _⟩
 | n+1=>by
  obtain⟨a,b⟩:=A0 f lt h n
  have e:argBest lt (n+1)=if lt (n+1) (argBest lt n)=true then n+1 else argBest lt n:=rfl
  rw[e,h]
  split
  ·rename_i q
   have q:=of_decide_eq_true q
   refine⟨Nat.le_refl _,fun i hi=> ?_⟩
   by_cases z:i=n+1
   ·rw[z];exact Int.le_refl _
   ·have:=b i (by omega);omega
  ·rename_i q
   have q: ¬f (n+1) <f (argBest lt n):=fun z=>q (decide_eq_true z)
   refine⟨by omega,fun i hi=> ?_⟩
   by_cases z:i=n+1
   ·rw[z];omega
   ·exact b i (by omega)
theorem Lv{xs:Array (Int×Tok)}{i:Nat}(h:i<xs.size):numAt xs i=xs[i].1:=by
 unfold numAt
 rw[Array.getElem?_eq_getElem h];rfl
theorem Lw{xs:Array (Int×Tok)}{i:Nat}(h:i<xs.size):numAt xs i∈xs.toList.map (·.1):=by
 rw[Lv h]
 exact List.mem_map.mpr ⟨xs[i],by simp,rfl⟩
theorem Lx{xs:Array (Int×Tok)}{n:Int}(h:n∈xs.toList.map (·.1)): ∃i,i<xs.size∧n=numAt xs i:=by
 obtain⟨y,hy,rfl⟩:=List.mem_map.mp h
 obtain⟨i,hi,rfl⟩:=List.getElem_of_mem hy
 have cR:i<xs.size:=by simpa using hi
 exact⟨i,cR,by rw[Lv cR];simp⟩
theorem Ly{pins:List (Addr×Obj)}{σ:St}{H:Hp}{s:Shared}{p:Addr}{ns:List Int}(I:Inv X pins σ H s)(hq:aj X.K H p (ns.map V.int)): ∃xs:Array (Int×Tok),s.heap.IsList p (intItems xs)∧ns=xs.toList.map (·.1):=by
 obtain⟨its,rv,pl,hz⟩:=I.list hq
 have hi:=intsAre_of rv
 obtain⟨xs,hx⟩:=hi.allInts.items
 refine⟨xs,hx ▸ pl.isList, ?_⟩
 rw[←nums_intItems,←hx]
 exact(show numsOf its.toArray.toList=ns from hi.numsOf).symm
theorem Xl(hc:X.calm=true):cJ X (.builtin "min") (fun xs H Q=> ∃(p:Addr) (ns:List Int),xs=[.ref p]∧aj X.K H p (ns.map V.int)∧ns≠ []∧ ∀m:Int,m∈ns→(∀n∈ns,m≤n)→Q (.int m) H):=by
 intro pins s σ H xs us Q I r h
 obtain⟨p,ns,rfl,hq,cK,q⟩:=h
 obtain⟨u,rfl,ru⟩:=vals1 r
 cases ru
 obtain⟨xs,hl,rfl⟩:=Ly I hq
 have sz:0<xs.size:=Nat.pos_of_ne_zero fun z=>cK (by rw[Array.eq_empty_of_size_eq_zero z];rfl)
 refine min_intList (I.ok.hd hc) hl sz fun v h' tk hv hk=> ?_
 obtain⟨t,rfl⟩:=intItems_at hv
 obtain⟨b1,b2⟩:=A0 (numAt xs) (fun i j=>decide (numAt xs i<numAt xs j)) (fun _ _=>rfl) (xs.size - 1)
 refine⟨.int _,H,I.kept (t':=tk) hk,⟨t,rfl⟩,q _ (Lw (by omega)) fun n hn=> ?_⟩
 obtain⟨i,hi,rfl⟩:=Lx hn
 exact b2 i (by omega)
theorem Xm(hc:X.calm=true):cJ X (.builtin "max") (fun xs H Q=> ∃(p:Addr) (ns:List Int),xs=[.ref p]∧aj X.K H p (ns.map V.int)∧ns≠ []∧ ∀m:Int,m∈ns→(∀n∈ns,n≤m)→Q (.int m) H):=by
 intro pins s σ H xs us Q I r h
 obtain⟨p,ns,rfl,hq,cK,q⟩:=h
 obtain⟨u,rfl,ru⟩:=vals1 r
 cases ru
 obtain⟨xs,hl,rfl⟩:=Ly I hq
 have sz:0<xs.size:=Nat.pos_of_ne_zero fun z=>cK (by rw[Array.eq_empty_of_size_eq_zero z];rfl)
 refine max_intList (I.ok.hd hc) hl sz fun v h' tk hv hk=> ?_
 obtain⟨t,rfl⟩:=intItems_at hv
 obtain⟨b1,b2⟩:=A0 (fun i=> - numAt xs i) (fun i j=>decide (numAt xs i>numAt xs j)) (fun i j=>decide_eq_decide.mpr (by omega)) (xs.size - 1)
 refine⟨.int _,H,I.kept (t':=tk) hk,⟨t,rfl⟩,q _ (Lw (by omega)) fun n hn=> ?_⟩
 obtain⟨i,hi,rfl⟩:=Lx hn
 have:=b2 i (by omega)
 omega
theorem Lz{x:Str}{acc:Array Value}(h:ItemsOf (SignAt x) acc x.cps.size):Vals (signs x) acc.toList:=by
 have go: ∀(l:List Nat) (us:List Value),us.length=l.length→(∀(j:Nat) (v:Value),us[j]?=some v→ ∃(c:Nat) (t:Tok),l[j]?=some c∧v=Value.str ⟨#[c]⟩ t)→Vals (l.map fun c=>V.str ⟨#[c]⟩) us:=by
  intro l
  induction l with
  | nil=>
   intro us hl _
   rw[List.length_eq_zero_iff.mp hl]
   exact .nil
  | cons c l ih=>
   intro us hl hv
   cases us with
   | nil=>cases hl
   | cons u us=>
    obtain⟨c',t,e1,e2⟩:=hv 0 u rfl
    have nW:c=c':=by simpa using e1
    subst nW
    exact .cons ⟨t,e2⟩ (ih us (by simpa using hl) fun j v hj=>by
     obtain⟨c2,t2,g1,g2⟩:=hv (j+1) v (by simpa using hj)
     exact⟨c2,t2,by simpa using g1,g2⟩)
 refine go x.cps.toList acc.toList ?_ fun j v hj=> ?_
 ·have:=h.1;simpa using this
 ·obtain⟨c,t,e1,e2⟩:=h.2 j v (by simpa using hj)
  exact⟨c,t,by simpa using e1,e2⟩
theorem LA(x:Str):(signs x).length=x.length:=by simp[signs,Str.length]
theorem Xn(hc:X.calm=true):cJ X (.type "list") (fun xs H Q=> ∃x,xs=[.str x]∧x.length≤sizeLine∧ ∀l,H l=none→Q (.ref l) (upd H l (.lst (signs x)))):=by
 intro pins s σ H xs us Q I r h
 obtain⟨x,rfl,hx,q⟩:=h
 obtain⟨u,rfl,t,rfl⟩:=vals1 r
 refine call_list_str (I.ok.hd hc) x t (fun h' tk Af c' hk e A4=> ?_) hx
 have rv:=Lz A4
 exact⟨.ref s.heap.objs.size,_,I.laid (t':=tk) hk (Nat.le_refl _) (show cG X.prog X.w _ h' _ (.lst (signs x)) from⟨by rw[LA];exact hx,Af.toList,c',rv,by simpa using e⟩),rfl,q _ (I.aw.fresh (Nat.le_refl _))⟩
theorem Xo(hc:X.calm=true):cJ X (.type "tuple") (fun xs H Q=> ∃x,xs=[.str x]∧x.length≤sizeLine∧ ∀l,H l=none→Q (.ref l) (upd H l (.tup (signs x)))):=by
 intro pins s σ H xs us Q I r h
 obtain⟨x,rfl,hx,q⟩:=h
 obtain⟨u,rfl,t,rfl⟩:=vals1 r
 refine call_tuple_str (I.ok.hd hc) x t (fun h' tk acc hk A4=> ?_) hx
 have rv:=Lz A4
 have I1:Inv X pins σ H {s with heap:=h',toks:=tk}:=I.kept (t':=tk) hk
 have I2:Inv X pins σ (upd H h'.objs.size (.tup (signs x))) {s with heap:=h'.push {cls:= .type "tuple",data:= .seq acc},toks:=tk}:=
  I1.laid (t':=tk) (fun b o e=>Heap.get?_push_of_some _ e) (Nat.le_refl _) (show cG X.prog X.w _ _ _ (.tup (signs x)) from⟨by rw[LA];exact hx,acc.toList,rv,by simpa using IsTup.new _ _⟩)
 exact⟨.ref h'.objs.size,_,I2,rfl,q _ (I1.aw.fresh (Nat.le_refl _))⟩
theorem Xp(hc:X.calm=true)(b:kE):Xh X b:=by
 cases b with
 | len=>exact .fn "len" boot_len (cJ.imp SH fun xs H Q h=>by
   match xs,h with
   | [x],h=>obtain⟨n,h1,h2⟩:=Xg (Q:=fun n=>Q (.int n) H) h;exact⟨x,n,rfl,h1,h2⟩)
 | min=>exact .fn "min" boot_min (cJ.imp ((SE hc).or (Xl hc)) fun xs H Q h=>by
   match xs,h with
   | [.int i, .int j],h=>exact .inl ⟨i,j,rfl,h⟩
   | [.ref p],⟨ns,h1,h2,h3⟩=>exact .inr ⟨p,ns,rfl,h1,h2,h3⟩)
 | max=>exact .fn "max" boot_max (cJ.imp ((SD hc).or (Xm hc)) fun xs H Q h=>by
   match xs,h with
   | [.int i, .int j],h=>exact .inl ⟨i,j,rfl,h⟩
   | [.ref p],⟨ns,h1,h2,h3⟩=>exact .inr ⟨p,ns,rfl,h1,h2,h3⟩)
 | sum=>exact .fn "sum" boot_sum (cJ.imp (VG hc) fun xs H Q h=>by
   match xs,h with
   | [.ref p],⟨ns,h1,h2⟩=>exact⟨p,ns,rfl,h1,h2⟩)
 | abs=>exact .fn "abs" boot_abs (cJ.imp SA fun xs H Q h=>by
   match xs,h with
   | [.int i],h=>exact⟨i,rfl,h⟩)
 | int=>exact .ty "int" Xi (cJ.imp SF fun xs H Q h=>Xf h)
 | list=>exact .ty "list" Xj (cJ.imp (TL.or (Xn hc)) fun xs H Q h=>by
   match xs,h with
   | [.ref p],⟨ys,h1,h2⟩=>exact .inl ⟨p,ys,rfl,h1,h2⟩
   | [.str x],⟨h1,h2⟩=>exact .inr ⟨x,rfl,h1,h2⟩)
 | tuple=>exact .ty "tuple" Xk (cJ.imp (TM.or (Xo hc)) fun xs H Q h=>by
   match xs,h with
   | [.ref p],⟨ys,h1⟩=>exact .inl ⟨p,ys,rfl,h1⟩
   | [.str x],⟨h1,h2⟩=>exact .inr ⟨x,rfl,h1,h2⟩)
structure Xq (X:Cx) (m:gP) (id:String):Prop where
 pa:PlainAttrs (wV m)
 slot:Slot (wV m) m.nm id
 ty:typeOf (.builtin id)=pure (.type "method_descriptor")
 mt:ku X id (tH X.K m)
theorem Xr{P:Program}{w:World}{k:Key}{u:Value}(r:RelV (kV k) u):(eh P w).is k u=true:=by
 cases k with
 | inl i=>obtain⟨t,e⟩:=(show ∃t,u=Value.int i t from r);subst e;exact IH P w i t
 | inr x=>obtain⟨t,e⟩:=(show ∃t,u=Value.str x t from r);subst e;exact II P w x t
theorem Xs{ao:List (Key×V)}{vs:List (Key×Value)}(r:KV ao vs)(k:Key){v:V}(h:n4 ao k=some v): ∃u,valueAt vs k=some u∧RelV v u:=by
 unfold KV at r
 induction r with
 | nil=>cases h
 | @cons p q ps qs hh t ih=>
  obtain⟨h1,h2⟩:=hh
  by_cases e:p.1=k
  ·have e':q.1=k:=h1.symm.trans e
   have b:valueAt (q::qs) k=some q.2:=by simp[valueAt,List.find?_cons,e']
   have a:n4 (p::ps) k=some p.2:=by simp[n4,List.find?_cons,e]
   rw[a] at h
   cases h
   exact⟨_,b,h2⟩
  ·have e': ¬q.1=k:=fun z=>e (h1.trans z)
   have b:valueAt (q::qs) k=valueAt qs k:=by simp[valueAt,List.find?_cons,e']
   have a:n4 (p::ps) k=n4 ps k:=by simp[n4,List.find?_cons,e]
   rw[a] at h
   rw[b]
   exact ih h
theorem Xt{sd:Addr→List (Key×V)→Prop}(A5: ∀p ao,sd p ao→ ∀h:Heap,X.K.In h→ ∃vs,KV ao vs∧h.DictOf (eh X.prog X.w) p vs):jF X (K7 sd):=by
 intro value slice pins s σ H x y v u Q I rx ry h hs
 obtain⟨p,ao,k,z,rfl,rfl,hq,he,q⟩:=h
 cases rx
 obtain⟨vs,r,dd⟩:=A5 p ao hq s.heap I.cX
 obtain⟨w,ew,hU⟩:=Xs r k he
 exact subscriptTail_builtinR (x:=w) dd.mapOf.typeIs PySem.F.slot_dict_getitem.lookup
  (wpAny_getItem_of (Q:=fun r s'=>r=w∧EP X pins σ Q r s') (Xr ry) dd.mapOf ew ⟨rfl,z,H,I.tok _,hU,q⟩) hs
theorem Xu{sd:Addr→List (Key×V)→Prop}(A5: ∀p ao,sd p ao→ ∀h:Heap,X.K.In h→ ∃vs,KV ao vs∧h.DictOf (eh X.prog X.w) p vs):jF X (n_ X.K sd):=Tu.or (Tv.or (Tw.or (Xt A5)))
theorem xi(y:Str): ∀{ts:List Str} {us:List Value},Vals (ts.map V.str) us→ ∀(j:Nat) (h1:j<us.length) (h2:j<ts.length),(Value.isStrOf y us[j]=(ts[j]==y))
 | [],_, .nil,j,h1,_=>absurd h1 (Nat.not_lt_zero _)
 | t::ts,_, .cons r rs,0,_,_=>by
  obtain⟨k,rfl⟩:=(show ∃k,_=Value.str t k from r)
  rfl
 | t::ts,_, .cons r rs,j+1,h1,h2=>xi y rs j (Nat.lt_of_succ_lt_succ h1) (Nat.lt_of_succ_lt_succ h2)
theorem LB{y:Str}: ∀{ts:List Str} {j:Nat},j<ts.idxOf y→ ∀(h2:j<ts.length),(ts[j]==y)=false
 | n::r,0,h,_=>by
  by_cases e:n=y
  ·subst e;simp at h
  ·simpa using e
 | n::r,j+1,h,h2=>by
  by_cases e:n=y
  ·subst e;simp at h
  ·have hb:(n==y)=false:=by simpa using e
   have h':j<r.idxOf y:=by
    rw[List.idxOf_cons,hb] at h
    exact Nat.lt_of_succ_lt_succ h
   exact LB h' (Nat.lt_of_succ_lt_succ h2)
theorem Xv:ku X "list.index" (fun x vs H Q=> ∃(l:Addr) (y:Str) (ts:List Str),x= .ref l∧vs=[.str y]∧aj X.K H l (ts.map V.str)∧y∈ts∧Q (.int (ts.idxOf y:Nat)) H):=by
 intro pins s σ H x vs v us Q I rx rv h
 obtain⟨l,y,ts,rfl,rfl,hq,hy,q⟩:=h
 cases rx
 obtain⟨u,rfl,⟨t,rfl⟩⟩:=vals1 rv
 obtain⟨its,r,⟨⟨cls,dd,data,sl⟩,n,ho,hc,t6,hd⟩,hz⟩:=I.list hq
 simp only at hc hd
 subst hc hd
 have hlen:=r.length
 rw[List.length_map] at hlen hz
 have hj:ts.idxOf y<ts.length:=List.idxOf_lt_length_iff.mpr hy
 have hn:=mD
 refine call_meets PySem.F.slot_list_index ⟨_,ho,rfl⟩ PySem.F.entry_list_index (PySem.F.args_list_index_2 _ _)
  (PySem.SeqAt.list_indexAt l its.toArray n dd sl (.str y t) (Value.isStrOf y) (ts.idxOf y) (by simp;omega) (by omega) ?_ ?_) ⟨ho,fun z ia=> ?_,⟨.int _,H,I.tok _,⟨_,rfl⟩,q⟩⟩
 ·show Value.isStrOf y its[ts.idxOf y]=true
  rw[xi y r _ (by omega) hj]
  simpa using List.getElem_idxOf hj
 ·intro j A6 aS
  show Value.isStrOf y its[j]=false
  rw[xi y r j (by simpa using A6) (by omega)]
  exact LB aS _
 ·have hm:z∈its:=by simpa using ia
  obtain⟨j,xj,rfl⟩:=List.getElem_of_mem hm
  have LC:j<ts.length:=by omega
  have e:=xi y r j xj LC
  obtain⟨k,ek⟩:=(r.get (i:=j) (x:= .str ts[j]) (by simp[LC]))
  obtain⟨Xw,k2,Xx⟩:=ek
  have Xy:its[j]= .str ts[j] k2:=by
   have:=List.getElem?_eq_getElem xj
   rw[Xw] at this
   exact(Option.some.inj this).symm.trans Xx
  rw[e,Xy]
  exact PySem.SeqAt.EqAt.str_str _ _ _ _
theorem LD{x:V}: ∀{xs:List V} {us:List Value},Vals xs us→xs.all eE=true→us.countP (dS x)=xs.countP fun y=>eT y x
 | _,_, .nil,_=>rfl
 | y::xs,u::us, .cons r t,f=>by
  rw[List.all_cons,Bool.and_eq_true] at f
  rw[List.countP_cons,List.countP_cons,wq r f.1,LD t f.2]
theorem Xz:ku X "list.count" (fun x vs H Q=> ∃(l:Addr) (y:V) (xs:List V),x= .ref l∧vs=[y]∧aj X.K H l xs∧eE y=true∧xs.all eE=true∧Q (.int (xs.countP (fun z=>eT z y):Nat)) H):=by
 intro pins s σ H x vs v us Q I rx rv h
 obtain⟨l,y,xs,rfl,rfl,hq,fy,fs,q⟩:=h
 cases rx
 obtain⟨u,rfl,ru⟩:=vals1 rv
 obtain⟨its,r,⟨⟨cls,dd,data,sl⟩,n,ho,hc,t6,hd⟩,hz⟩:=I.list hq
 simp only at hc hd
 subst hc hd
 rw[←LD r fs] at q
 exact call_meets PySem.F.slot_list_count ⟨_,ho,rfl⟩ PySem.F.entry_list_count (PySem.F.args_list_count_2 _ _)
  (PySem.SeqAt.list_countAt l its.toArray n dd sl u (dS y)) ⟨ho,fun z ia=>nR ru fy r fs z (by simpa using ia),⟨.int _,H,I.tok _,⟨_,rfl⟩,q⟩⟩
theorem XA:ku X "list.index" (fun x vs H Q=> ∃(l:Addr) (y:V) (xs:List V),x= .ref l∧vs=[y]∧aj X.K H l xs∧eE y=true∧xs.all eE=true∧gg y xs=true∧Q (.int (xs.findIdx (fun z=>eT z y):Nat)) H):=by
 intro pins s σ H x vs v us Q I rx rv h
 obtain⟨l,y,xs,rfl,rfl,hq,fy,fs,w9,q⟩:=h
 cases rx
 obtain⟨u,rfl,ru⟩:=vals1 rv
 obtain⟨its,r,⟨⟨cls,dd,data,sl⟩,n,ho,hc,t6,hd⟩,hz⟩:=I.list hq
 simp only at hc hd
 subst hc hd
 have hlen:=r.length
 have e: ∀j (h1:j<its.length) (h2:j<xs.length),dS y its[j]=eT xs[j] y:=fun j h1 h2=>by
  obtain⟨w,e1,r1⟩:=r.get (i:=j) (x:=xs[j]) (by simp[h2])
  have e2:=List.getElem?_eq_getElem h1
  rw[e1] at e2
  rw[←Option.some.inj e2]
  exact wq r1 (List.all_eq_true.mp fs _ (List.getElem_mem h2))
 have hj:xs.findIdx (fun z=>eT z y) <xs.length:=List.findIdx_lt_length.mpr (List.any_eq_true.mp w9)
 have hn:=mD
 refine call_meets PySem.F.slot_list_index ⟨_,ho,rfl⟩ PySem.F.entry_list_index (PySem.F.args_list_index_2 _ _)
  (PySem.SeqAt.list_indexAt l its.toArray n dd sl u (dS y) (xs.findIdx fun z=>eT z y) (by simp;omega) (by omega) ?_ ?_) ⟨ho,fun z ia=>nR ru fy r fs z (by simpa using ia),⟨.int _,H,I.tok _,⟨_,rfl⟩,q⟩⟩
 ·show dS y its[xs.findIdx fun z=>eT z y]=true
  rw[e _ (by omega) hj]
  exact List.findIdx_getElem (w:=hj)
 ·intro j A6 aS
  show dS y its[j]=false
  rw[e j (by simpa using A6) (by omega)]
  simpa using List.not_of_lt_findIdx aS
theorem LF(m:gP): ∃id,Xq X m id:=by
 cases m with
 | append=>exact⟨_,F.plainAttrs_list,F.slot_list_append,F.type_list_append,fun pins s σ H x xs v us Q I rx rv h=>by
   match x,xs,h with
   | .ref l,[y],⟨zs,h1,h2,h3⟩=>exact T_ pins s σ H _ _ v us Q I rx rv ⟨l,zs,y,rfl,rfl,h1,h2,h3⟩⟩
 | pop=>exact⟨_,F.plainAttrs_list,F.slot_list_pop,F.type_list_pop,fun pins s σ H x xs v us Q I rx rv h=>by
   match x,xs,h with
   | .ref l,[],⟨zs,y,h1,h2,h3⟩=>exact Ud pins s σ H _ _ v us Q I rx rv ⟨l,zs,y,rfl,rfl,h1,h2,h3⟩⟩
 | extend=>exact⟨_,F.plainAttrs_list,F.slot_list_extend,F.type_list_extend,fun pins s σ H x xs v us Q I rx rv h=>by
   match x,xs,h with
   | .ref l,[.ref b],⟨ys,zs,h1,h2,h3,h4⟩=>exact Ub pins s σ H _ _ v us Q I rx rv ⟨l,b,ys,zs,rfl,rfl,h1,h2,h3,h4⟩⟩
 | join=>exact⟨_,F.plainAttrs_str,F.slot_str_join,F.type_str_join,fun pins s σ H x xs v us Q I rx rv h=>by
   match x,xs,h with
   | .str z,[.ref p],⟨ts,h1,h2,h3⟩=>exact VH pins s σ H _ _ v us Q I rx rv ⟨z,p,ts,rfl,rfl,h1,h2,h3⟩⟩
 | lstrip=>exact⟨_,F.plainAttrs_str,F.slot_str_lstrip,F.type_str_lstrip,fun pins s σ H x xs v us Q I rx rv h=>by
   match x,xs,h with
   | .str z,[.str y],⟨h1,h2⟩=>exact VJ pins s σ H _ _ v us Q I rx rv ⟨z,y,rfl,rfl,h1,h2⟩⟩
 | starts=>exact⟨_,F.plainAttrs_str,F.slot_str_startswith,F.type_str_startswith,fun pins s σ H x xs v us Q I rx rv h=>by
   match x,xs,h with
   | .str z,[.str y, .int i],h1=>exact VM pins s σ H _ _ v us Q I rx rv ⟨z,y,i,rfl,rfl,h1⟩⟩
 | find=>exact⟨_,F.plainAttrs_str,F.slot_str_find,F.type_str_find,fun pins s σ H x xs v us Q I rx rv h=>by
   match x,xs,h with
   | .str z,[.str y],h1=>
    obtain⟨t,rfl⟩:=rx
    obtain⟨u,rfl,⟨t2,rfl⟩⟩:=vals1 rv
    exact call_gives F.slot_str_find (typeIs_str _ _ _) F.entry_str_find (F.args_str_find_2 _ _) (gives_str_find z y t t2) ⟨.int _,H,I.tok _,⟨_,rfl⟩,h1⟩
   | .str z,[.str y, .int i],h1=>
    obtain⟨t,rfl⟩:=rx
    obtain⟨u,w',rfl,⟨t2,rfl⟩,⟨t3,rfl⟩⟩:=vals2 rv
    exact call_gives F.slot_str_find (typeIs_str _ _ _) F.entry_str_find (F.args_str_find_3 _ _ _) (gives_str_find_from z y i t t2 t3) ⟨.int _,H,I.tok _,⟨_,rfl⟩,h1⟩⟩
 | count=>exact⟨_,F.plainAttrs_str,F.slot_str_count,F.type_str_count,fun pins s σ H x xs v us Q I rx rv h=>by
   match x,xs,h with
   | .str z,[.str y],h1=>
    obtain⟨t,rfl⟩:=rx
    obtain⟨u,rfl,⟨t2,rfl⟩⟩:=vals1 rv
    exact call_gives F.slot_str_count (typeIs_str _ _ _) F.entry_str_count (F.args_str_count_2 _ _) (gives_str_count z y t t2) ⟨.int _,H,I.tok _,⟨_,rfl⟩,h1⟩⟩
 | reverse=>exact⟨_,F.plainAttrs_list,F.slot_list_reverse,F.type_list_reverse,fun pins s σ H x xs v us Q I rx rv h=>by
   match x,xs,h with
   | .ref l,[],⟨zs,h1,h2⟩=>exact Ug pins s σ H _ _ v us Q I rx rv ⟨l,zs,rfl,rfl,h1,h2⟩⟩
 | index=>exact⟨_,F.plainAttrs_list,F.slot_list_index,F.type_list_index,fun pins s σ H x xs v us Q I rx rv h=>by
   match x,xs,h with
   | .ref l,[.str y],⟨ts,h1,h2,h3⟩=>exact Xv pins s σ H _ _ v us Q I rx rv ⟨l,y,ts,rfl,rfl,h1,h2,h3⟩⟩
 | As=>exact⟨_,F.plainAttrs_list,F.slot_list_count,F.type_list_count,fun pins s σ H x xs v us Q I rx rv h=>by
   match x,xs,h with
   | .ref l,[y],⟨zs,h1,h2,h3,h4⟩=>exact Xz pins s σ H _ _ v us Q I rx rv ⟨l,y,zs,rfl,rfl,h1,h2,h3,h4⟩⟩
 | Au=>exact⟨_,F.plainAttrs_list,F.slot_list_index,F.type_list_index,fun pins s σ H x xs v us Q I rx rv h=>by
   match x,xs,h with
   | .ref l,[y],⟨zs,h1,h2,h3,h4,h5⟩=>exact XA pins s σ H _ _ v us Q I rx rv ⟨l,y,zs,rfl,rfl,h1,h2,h3,h4,h5⟩⟩
 | clear=>exact⟨_,F.plainAttrs_list,F.slot_list_clear,F.type_list_clear,fun pins s σ H x xs v us Q I rx rv h=>by
   match x,xs,h with
   | .ref l,[],⟨zs,h1,h2⟩=>exact Ui pins s σ H _ _ v us Q I rx rv ⟨l,zs,rfl,rfl,h1,h2⟩⟩
theorem XB{pins:List (Addr×Obj)}{σ:St}{H:Hp}{s:Shared}{T:Ty}{x:V}{u:Value}{Qb:Bool→Prop}{Q:Value→Shared→Prop}{E:Value→Shared→Prop}(I:Inv X pins σ H s)(rx:RelV x u)(h:cv T x H Qb)
  (hq: ∀b tk,Qb b→Q (.bool b) {s with toks:=tk}):wpAny (model X.prog X.w) X.A (call (.builtin "isinstance") [u, .type T.nm]) Q E s:=by
 match x,rx,h with
 | .aq,rx,h=>exact ki I rx (.aq) (VF _ T) fun tk=>hq _ _ h
 | .bl b,rx,h=>exact ki I rx (.bl b) (mK X.K .bool T) fun tk=>hq _ _ (by cases T<;>exact h)
 | .int i,rx,h=>exact ki I rx (.int i) (mK X.K .int T) fun tk=>hq _ _ (by cases T<;>exact h)
 | .str i,rx,h=>exact ki I rx (.str i) (mK X.K .str T) fun tk=>hq _ _ (by cases T<;>exact h)
 | .ref a,rx,h=>
  cases e:H a with
  | none=>simp only[cv,e] at h
  | some o=>
   match o,e with
   | .lst xs,e=>simp only[cv,e] at h;exact ki I rx (.lst e) (mK X.K .list T) fun tk=>hq _ _ (by cases T<;>exact h)
   | .bQ ob (.lst xs),e=>simp only[cv,e] at h;exact ki I rx (.bQ e) (mK X.K .list T) fun tk=>hq _ _ (by cases T<;>exact h)
   | .tup xs,e=>simp only[cv,e] at h;exact ki I rx (.tup e) (mK X.K .tuple T) fun tk=>hq _ _ (by cases T<;>exact h)
   | .dK xs,e=>simp only[cv,e] at h;exact ki I rx (.dK e) (mK X.K .dict T) fun tk=>hq _ _ (by cases T<;>exact h)
   | .dT xs,e=>simp only[cv,e] at h;exact ki I rx (.dT e) (mK X.K .dict T) fun tk=>hq _ _ (by cases T<;>exact h)
   | .set _ _,e=>simp only[cv,e] at h
   | .ins _ _ _,e=>simp only[cv,e] at h
   | .own _,e=>simp only[cv,e] at h
   | .xd _,e=>simp only[cv,e] at h
   | .met _ _,e=>simp only[cv,e] at h
   | .fI _ _,e=>simp only[cv,e] at h
   | .jy _,e=>simp only[cv,e] at h
   | .ext _,e=>simp only[cv,e] at h
   | .bQ ob (.tup xs),e=>simp only[cv,e] at h
   | .bQ ob (.dK xs),e=>simp only[cv,e] at h
   | .bQ ob (.dT xs),e=>simp only[cv,e] at h
   | .bQ ob (.set _ _),e=>simp only[cv,e] at h
   | .bQ ob (.ins _ _ _),e=>simp only[cv,e] at h
   | .bQ ob (.own _),e=>simp only[cv,e] at h
   | .bQ ob (.xd _),e=>simp only[cv,e] at h
   | .bQ ob (.met _ _),e=>simp only[cv,e] at h
   | .bQ ob (.fI _ _),e=>simp only[cv,e] at h
   | .bQ ob (.jy _),e=>simp only[cv,e] at h
   | .bQ ob (.ext _),e=>simp only[cv,e] at h
   | .bQ ob (.bQ _ _),e=>simp only[cv,e] at h
theorem XC(T:Ty):bootBuiltins (Str.ofString T.nm)=some (.type T.nm):=by cases T<;>decide+kernel
theorem XD(T:Ty):cJ X (.builtin "isinstance") (wU T):=by
 intro pins s σ H xs us Q I r h
 match xs,r,h with
 | [x, .ty n],r,⟨e,h⟩=>
  subst e
  obtain⟨u,w',rfl,ru,hU⟩:=vals2 r
  cases hU
  exact XB I ru h fun b tk hb=> ⟨.bl b,H,I.tok tk,rfl,hb⟩
theorem XE{T:Ty}{a:Expr}{ta:TE}{p q pos:Pos}(ha:PE X a ta)(hs:noStar a=true)(hg:Gl X "isinstance")(hm:X.mg "isinstance"=none)(XF:Gl X (Str.ofString T.nm))(XG:X.mg (Str.ofString T.nm)=none):
  PE X (.Call (.Name "isinstance" p) [a, .Name (Str.ofString T.nm) q] [] pos) (jE (wU T) (dM ta (dM (tC (.ty T.nm)) gN))):=by
 have hT:PE X (.Name (Str.ofString T.nm) q) (tC (.ty T.nm)):=IY XF XG (XC T) rfl (by cases T<;>decide) (by cases T<;>decide)
 exact zM (XD T) hg hm Lu (kj ha (kj hT qr rfl) (d4 hs)) (by decide) (by decide) (d4 hs) rfl
end
section
variable {X:Cx}
theorem XH:wo X (Ay X.K):=by
 intro pins s σ H x v vl vu lo hi sl Q I rx hs pl pu h
 match x,rx,h with
 | .ref a,rx, .inl ⟨xs,h1,h2⟩=>exact TF pins s σ H _ v vl vu lo hi sl Q I rx hs pl pu ⟨a,xs,rfl,h1,h2⟩
 | .ref a,rx, .inr ⟨xs,h1,h2,h3⟩=>exact Tq pins s σ H _ v vl vu lo hi sl Q I rx hs pl pu ⟨a,xs,rfl,h1,h2,h3⟩
 | .str z,rx,⟨h1,h2⟩=>
  obtain⟨t,rfl⟩:=rx
  obtain⟨l,el,ml⟩: ∃l:Option (Int×Tok),vl=partValue l∧l.map (·.1)=lo:=by
   cases pl with
   | none=>exact⟨none,rfl,rfl⟩
   | int i t=>exact⟨some (i,t),rfl,rfl⟩
  obtain⟨u,eu,mu⟩: ∃u:Option (Int×Tok),vu=partValue u∧u.map (·.1)=hi:=by
   cases pu with
   | none=>exact⟨none,rfl,rfl⟩
   | int i t=>exact⟨some (i,t),rfl,rfl⟩
  subst el eu
  refine⟨"str",_,F.slot_str_getitem.lookup,typeIs_str _ _ _, ?_⟩
  refine wpAny_getItem_str_slice (l:=l) (u:=u) (st:=none) hs rfl ?_
  obtain⟨b1,b2,b3⟩:=zS lo hi z.length
  have hp:slicePicked z l u none=(List.range (HT.bh z.length z.length hi - HT.bh z.length 0 lo)).map (HT.bh z.length 0 lo+ ·):=by
   show Builtin.Str.strSliceIndices (l.map (·.1)) (u.map (·.1)) 1 z.length=_
   rw[ml,mu]
   have e0:Builtin.Str.strSliceIndices lo hi 1 z.length=sliceRange (sliceBounds lo hi none z.length).1 (sliceBounds lo hi none z.length).2.1 (sliceBounds lo hi none z.length).2.2:=rfl
   rw[e0,b1,b2,b3,sliceRange_one]
  have hc:((slicePicked z l u none).filterMap (z.cps[·]?))=kD z.cps.toList lo hi:=by
   show(Builtin.Str.strSliceIndices (l.map (·.1)) (u.map (·.1)) 1 z.length).filterMap (z.cps[·]?)=_
   rw[ml,mu,VN]
  have hz:z.cps.toList.length=z.length:=by simp[Str.length]
  have hA:=HT.zN z.length 0 (Nat.zero_le _) lo
  have hB:=HT.zN z.length z.length (Nat.le_refl _) hi
  unfold sliceMade
  refine post_val_or_made (fun _=> ?_) fun t' k=> ?_
  ·show(List.toArray ((slicePicked z l u none).filterMap (z.cps[·]?))).size≤sizeLine
   rw[hc,List.size_toArray]
   have:(kD z.cps.toList lo hi).length≤z.cps.toList.length:=by unfold kD;simp only[List.length_take,List.length_drop];omega
   omega
  ·have e:(if (((none:Option (Int×Tok)).map (·.1)).getD 1==1 && (slicePicked z l u none).length==z.length)=true then z else ⟨((slicePicked z l u none).filterMap (z.cps[·]?)).toArray⟩)=jI z lo hi:=by
    split
    ·rename_i hq
     simp only[Bool.and_eq_true,beq_iff_eq] at hq
     have XI:=hq.2
     rw[hp,List.length_map,List.length_range] at XI
     have a0:HT.bh z.length 0 lo=0:=by omega
     have b0:HT.bh z.length z.length hi=z.length:=by omega
     unfold jI kD
     rw[hz,a0,b0,←hz,Nat.sub_zero,List.drop_zero,List.take_length]
    ·rw[hc];rfl
   rw[e]
   exact⟨.str _,H,I.tok k,⟨t',rfl⟩,h2⟩
theorem XJ:v_ X (unaryOp .USub) K6:=by
 intro pins s σ H x v Q I rx h
 match x,rx,h with
 | .int i,rx,h=>exact Si pins s σ H _ v Q I rx ⟨i,rfl,h⟩
theorem XM{a:Expr}{ta:TE}{pos:Pos}(ha:PE X a ta):PE X (.UnaryOp .Not a pos) (Ax X.K ta):=by
 intro pins s σ H Q I h
 refine UnaryOp_ (aN (ha pins s σ H _ I h) fun v s1 ⟨x,H1,I1,r1,q1⟩=>not_of ?_)
 exact aN (JD pins s1 σ H1 x v (fun b H2=>Q (.bl (!b)) H2) I1 r1 (K5 q1)) fun b s2 ⟨H2,I2,q2⟩=> ⟨.bl (!b),H2,I2,rfl,q2⟩
theorem t9{a:Expr}{ta:TE}(ha:PE X a ta)(he: ∀whole,isTrue a X.env whole=(do let v ←whole;standAt a.pos;holding [v] (truthy v))):PT X a (gh X.K ta):=by
 intro pins s σ H Q I h
 exact isTrue_plain (aN (ha pins s σ H _ I h) fun v s1 ⟨x,H1,I1,r1,q1⟩=>JD pins s1 σ H1 x v Q I1 r1 (K5 q1)) (he _)
theorem XN{m:gP}{o e:Expr}{es:List Expr}{to:TE}{t:TA}{apos dy:Pos}(ho:PE X o to)(ha:PA X (e::es) t)(hb:mQ o=true)(hl:(apos.endLine==dy.line)=true)(hn:(e::es).length<29)
  (hs:starEach (e::es) X.env=(false,eval e X.env)::starEach es X.env) (h1:(backTo dy (starEach es X.env)).any (·.1)=false) (h2:(backTo dy (starEach (e::es) X.env)).all (fun x=> !x.1)=true):
  PE X (.Call (.Attribute o m.nm apos) (e::es) [] dy) (qA X.K m to t):=by
 obtain⟨id,M⟩:=LF (X:=X) m
 exact TU M.pa M.slot M.ty M.mt ho ha (nS hb) (by
  rw[h2]
  show(true && true && decide ((e::es).length+0+0<30))=true
  rw[decide_eq_true (by omega)];rfl) hl hs h1
theorem XO{m:gP}{o:Expr}{to:TE}{apos dy:Pos}(ho:PE X o to)(hb:mQ o=true)(hl:(apos.endLine==dy.line)=true):
  PE X (.Call (.Attribute o m.nm apos) [] [] dy) (qA X.K m to gN):=by
 obtain⟨id,M⟩:=LF (X:=X) m
 exact TR M.pa M.slot M.ty M.mt ho (nS hb) hl
end
section
variable {X:Cx} {CX:aL}
theorem LG{o:Expr}{m:Str}{apos pos:Pos}{args:List Expr}{Q:Value→Shared→Prop}{E:Value→Shared→Prop}{A:Around}{s:Shared}{env:Env}{prog:Program}{w:World}
  (hb:mQ o=true) (hl:(apos.endLine==pos.line)=true) (hn:args.length<29) (hf:(backTo pos (starEach args env)).all (fun x=> !x.1)=true)
  (h:wpAny (model prog w) A (eval o env) (fun ov s1=> ∀pl,wpAny (model prog w) A (getMethod ov m pl) (fun fx s2=>wpAny (model prog w) A (callWith pos fx.1 fx.2 (backTo pos (starEach args env)) (backToKw pos (keywordEach [] env))) Q E s2) E s1) E s):
  wpAny (model prog w) A (eval (.Call (.Attribute o m apos) args [] pos) env) Q E s:=by
 have XQ:methodCallForm (args.length+0) (backTo pos (starEach args env)) (backToKw pos (keywordEach [] env))=true:=by
  show((backTo pos (starEach args env)).all (fun x=> !x.1) && true && decide (args.length+0+0<30))=true
  rw[hf,decide_eq_true (by omega)];rfl
 have line:methodCallPos true o env apos pos=pure pos:=by unfold methodCallPos;simp[hl]
 rw[arm_eval_Call,nS hb]
 refine wpAny_bind (wpAny_mono h (fun ov s1 h1=>wpAny_bind (wpAny_standAt ?_)) fun _ _ e=>e)
 unfold methodCall
 rw[show([]:List Keyword).length=0 from rfl,XQ]
 refine wpAny_bind (wpAny_holding (wpAny_mono (h1 _) (fun fx s2 h2=> ?_) fun _ _ e=>e))
 exact wpAny_bind (wpAny_of_eq line h2)
theorem XR{o e:Expr}{es:List Expr}{to:TE}{t:TA}{apos pos:Pos}{C:Addr}{m:Str}{sp:Sp}{E:XK}(M:xg CX X C m sp)(hx:Passes CX X E)(ho:PE X o to)(ha:PA X (e::es) t)(hb:mQ o=true)(hl:(apos.endLine==pos.line)=true)(hn:(e::es).length<29)
  (hs:starEach (e::es) X.env=(false,eval e X.env)::starEach es X.env) (h1:(backTo pos (starEach es X.env)).any (·.1)=false) (h2:(backTo pos (starEach (e::es) X.env)).all (fun x=> !x.1)=true):
  PE X (.Call (.Attribute o m apos) (e::es) [] pos) (qt C m sp [] E to t):=by
 obtain⟨c,k,f,fd,ps,hm,F,hr,t_⟩:=M
 intro pins s σ H Q I h
 refine LG hb hl hn h2 (aN (ho pins s σ H _ I h) fun u s1 ⟨x,H1,I1,rx,a,dx,fs,ex,ea,l,q⟩=>fun pl=> ?_)
 subst ex
 obtain rfl:u=Value.ref a:=rx
 refine JH I1 ea c hm l ?_
 refine callWith_K (first:=[.ref a]) (h₀:=X.base) I.ok.mod.nC hm.kp (aN (ha pos pins s1 σ H1 _ I1 q) fun us s2 ⟨vs,H2,I2,r,q2⟩=> ⟨I2.cX, ?_⟩) hs h1
 exact zJ (us:= .ref a::us) (vs:= .ref a::vs) F hr t_ .nil hx I2 (.cons rfl r) q2
theorem XS{o:Expr}{to:TE}{apos pos:Pos}{C:Addr}{m:Str}{sp:Sp}{E:XK}(M:xg CX X C m sp)(hx:Passes CX X E)(ho:PE X o to)(hb:mQ o=true)(hl:(apos.endLine==pos.line)=true):
  PE X (.Call (.Attribute o m apos) [] [] pos) (qt C m sp [] E to gN):=by
 obtain⟨c,k,f,fd,ps,hm,F,hr,t_⟩:=M
 intro pins s σ H Q I h
 refine LG hb hl (by decide) rfl (aN (ho pins s σ H _ I h) fun u s1 ⟨x,H1,I1,rx,a,dx,fs,ex,ea,l,q⟩=>fun pl=> ?_)
 subst ex
 obtain rfl:u=Value.ref a:=rx
 refine JH I1 ea c hm l ?_
 exact PySem.W.callWith_K0 (first:=[.ref a]) I1.cX hm.kp (zJ (us:=[.ref a]) (vs:=[.ref a]) F hr t_ .nil hx I1 (.cons rfl .nil) q)
end
section
variable {prog:Program} {w:World} {A:Around} {E:Value→Shared→Prop} {s:Shared}
theorem LH{it l:Addr}{items:Array Value}(cK:l≠it): ∀(n i:Nat) (s:Shared) (Q:List Value→Shared→Prop),s.heap.IsListIter it l i→s.heap.IsList l items→i+n≤items.size→
  (∀h',h'.IsListIter it l (i+n)→Heap.SameBut it s.heap h'→Q ((items.toList.drop i).take n) {s with heap:=h'})→wpAny (model prog w) A (draw (.ref it) n) Q E s
 | 0,i,s,Q,hit,_,_,hQ=>by
  show wpAny _ _ (pure []) Q E s
  exact wpAny_pure (by simpa using hQ s.heap hit (Heap.SameBut.refl ..))
 | n+1,i,s,Q,hit,ht,hle,hQ=>by
  have aS:i<items.size:=by omega
  show wpAny _ _ (pyNext (.ref it) >>=_) Q E s
  refine wpAny_bind (wpAny_pyNext_list_item hit ht (x:=items[i]) (by simp[aS]) fun h₁ tM kP=> ?_)
  refine wpAny_bind (wpAny_holding (LH cK n (i+1) _ _ tM (ht.extBut kP.extBut cK) (by omega) fun h₂ XT XU=>wpAny_pure ?_))
  have hd:items.toList.drop i=items[i]::items.toList.drop (i+1):=by simp[List.drop_eq_getElem_cons,aS]
  have:=hQ h₂ (by rw[show i+ (n+1)=i+1+n by omega];exact XT) (kP.trans XU)
  rw[hd,List.take_succ_cons] at this
  exact this
theorem XW{t:Addr}{items:Array Value}{Q:List Value→Shared→Prop}(hh:A.handled=none)(ht:s.heap.IsList t items)
  (hQ: ∀h',Heap.ExtBut s.heap.objs.size s.heap h'→Q items.toList {s with heap:=h'}):wpAny (model prog w) A (unpackItems (.ref t) items.size none) Q E s:=by
 have aS:t≠s.heap.objs.size:=by obtain⟨o,ho,_⟩:=ht;exact Nat.ne_of_lt (Heap.lt_size ho)
 unfold unpackItems
 refine wpAny_bind ?_
 ·unfold notIterableAtAll
  refine wpAny_bind (wpAny_specialOf ht.typeIs slot_list_iter.lookup ?_)
  refine wpAny_pure ?_
  simp only[Bool.false_eq_true,if_false]
  refine wpAny_bind (wpAny_holding (wpAny_pyIter_list ht ?_))
  refine wpAny_bind (wpAny_holding (LH aS items.size 0 _ _ ⟨_,Heap.get?_push_size _ rfl,rfl,rfl⟩ (ht.push _) (by omega) fun h₁ tM kP=> ?_))
  have mG:List.take items.size (List.drop 0 items.toList)=items.toList:=by
   rw[List.drop_zero];exact List.take_of_length_le (by simp)
  rw[mG]
  rw[if_neg (by simp)]
  have AF:h₁.IsList t items:=(ht.push _).extBut kP.extBut aS
  refine wpAny_bind (wpAny_holding (wpAny_pyNext_list_end hh tM AF (by simp) fun h₂ AG=> ?_))
  simp only[Option.isSome_none,Bool.false_eq_true,if_false]
  refine wpAny_pure (hQ h₂ fun b o hb e=>AG b o hb (kP.extBut b o hb (Heap.get?_push_of_some _ e)))
theorem XX{env:Env}{elts:List Expr}{x1}{pos:Pos}{t:Addr}{items:Array Value}{Q:Unit→Shared→Prop}(hh:A.handled=none)(ht:s.heap.IsList t items)
  (hn:(assignEach elts env).length=items.size) (AH:(assignEach elts env).findIdx? (·.1)=none)
  (h: ∀h',Heap.ExtBut s.heap.objs.size s.heap h'→wpAny (model prog w) A (assignInOrder ((assignEach elts env).map (·.2)) items.toList) Q E {s with heap:=h'}):
  wpAny (model prog w) A (assign (.Tuple elts x1 pos) env (.ref t)) Q E s:=by
 rw[assign_Tuple]
 refine wpAny_bind (wpAny_standAt ?_)
 unfold unpack
 rw[hn,AH]
 exact wpAny_bind (wpAny_holding (XW hh ht h))
end
def xk(K:PySem.W.Frag)(n:Nat)(t:iZ):TG:=fun v σ H Q=> ∃a xs,v= .ref a∧(aF K H a xs∨aj K H a xs)∧xs.length=n∧t xs σ H Q
theorem XY{X:Cx}{es:List Expr}{k:Nat}{t:iZ}{n:Nat}{pos:Pos}(hc:X.calm=true)(h:nH X es t)
  (hn:(assignEach es X.env).length=n) (i5:(assignEach es X.env).findIdx? (·.1)=none):PG X (.Tuple es k pos) (xk X.K n t):=by
 intro pins s σ H v u Q I r hw
 obtain⟨a,xs,e1,hq,hl,hw⟩:=hw
 rcases hq with hq | hq
 ·exact Jk hc h hn i5 pins s σ H v u Q I r ⟨a,xs,e1,hq,hl,hw⟩
 ·subst e1
  cases r
  obtain⟨its,rv,ht,hz⟩:=I.list hq
  refine XX (I.ok.hd hc) ht.isList (by simp[hn,←hl,rv.length]) i5 fun h' hx=> ?_
  have I1:Inv X pins σ H {s with heap:=h'}:=I.kept (t':=s.toks) fun b o e=>hx b o (Nat.ne_of_lt (Heap.lt_size e)) e
  exact h pins _ σ H xs _ Q I1 (by simpa using rv) hw
def ua:List Nat→iZ
 | []=>vX
 | i::r=>qo (dR i) (ua r)
def XZ(to:TE)(tl th:TO):TG:=fun v σ H Q=>to σ H fun o H1=>tl σ H1 fun i H2=>th σ H2 fun j H3=> ∃l b xs ys a c,o= .ref l∧v= .ref b∧i=some a∧j=some c∧H3 l=some (.lst xs)∧H3 b=some (.lst ys)∧l≠b∧
 0≤a∧a≤c∧c≤xs.length∧xs.length+ys.length≤sizeLine∧Q σ (upd H3 l (.lst (xs.take a.toNat++ys++xs.drop c.toNat)))
mutual
def bj(Γ:aG):RS→TS
 | .asg i e=>i6 (ag Γ e) (dR i)
 | .qz i e=>i6 (ag Γ e) (dR i)
 | .set o ix e=>i6 (ag Γ e) (Jl (ag Γ o) (ag Γ ix) zR)
 | .dput o i e=>Ki (ag Γ o) (ag Γ i) (ag Γ e)
 | .drop e=>Jg (ag Γ e)
 | .ret e=>Jh (ag Γ e)
 | .VW=>RP
 | .ite c t e=>Ji (bD Γ c) (ar Γ t) (ar Γ e)
 | .nZ i k its body=>v8 (hZ Γ k its) (dR i) (ar Γ body)
 | .jK is k its body=>v8 (hZ Γ k its) (xk Γ.K is.length (ua is)) (ar Γ body)
 | .tG c body=>Jm (bD Γ c) (ar Γ body)
 | .pass=>zv
 | .brk=>RL
 | .cont=>Jf
 | .never=>RT
 | .VX o lo hi e=>i6 (ag Γ e) (XZ (ag Γ o) (wm (ag Γ lo)) (wm (ag Γ hi)))
 | .mM o f e=>zE Γ.K (ag Γ o) (ag Γ e) f
 | .VY is e=>i6 (ag Γ e) (xk Γ.K is.length (ua is))
 | .jL j as=>Aq (Γ.ex j) Γ.E (bK Γ as)
 | .Aw n i j body su=>fun D σ H=> ∃C,Γ.gv j= .ref C∧wO Γ.K C i n (fun E=>ar {Γ with E:=E} body) (fun ea=>ar {Γ with E:=E0,hv:=some ea} su) D σ H
def ar(Γ:aG):List RS→TS
 | []=>zv
 | s::r=>Jd (bj Γ s) (ar Γ r)
end
def ub:Expr→Bool
 | .Slice ..=>false | _=>true
def xl:Expr→Bool
 | .ListComp ..=>false | .SetComp ..=>false | .DictComp ..=>false | _=>true
def xm(sc:Scope)(x:Str)(line:Nat)(s:Scope)(p:Pos):Bool:=
 decide (sc.kind= .function) && decide (sc.names.lookup x=some .local) && (line==p.line) && !(s.names.any fun(n,k)=>n==x && (k== .local || k== .cell))
def qL(N:List Str)(sc:Scope):List Nat→List Str→Bool
 | [],xs=>xs.isEmpty
 | i::r,xs=>match xs with
  | []=>false
  | x::t=>decide (N[i]?=some x) && loc sc x && qL N sc r t
structure aO (CX:aL) (S:dt) (Γ:aG) (X:Cx):Prop extends Good CX S Γ X where
 nd:S.N.Nodup
 jQ: ∀x,X.fn x=true
 own:PassesOwn (model X.prog X.w) X.A X.env X.xe
 mU:X.env.scope.kind= .function
 rs: ∀(j:Nat) (x:Str),S.en[j]?=some x→Raises X Γ.E
 iA:X.stack=X.env::X.outer
 fQ:X.env.frame=some X.env.locals
 oo:X.ex=[]
 oq:CX=eG X.prog X.w
def qV(S:dt)(i:Nat)(x:Str):Bool:=decide (S.N[i]?=some x) && AA S.sc x && !(x==("__debug__":Str)) && !(x==("__classdict__":Str))
def kG(S:dt)(j:Nat)(x:Str):Bool:=decide (S.gn[j]?=some x) && kJ S.sc x && !(x==("__debug__":Str))
def kF(S:dt)(j:Nat)(x:Str):Bool:=decide (S.fn[j]?=some x) && kJ S.sc x && !(x==("__debug__":Str))
def kK(S:dt)(j:Nat)(x:Str):Bool:=decide (S.kn[j]?=some x) && kJ S.sc x && !(x==("__debug__":Str))
def kB(S:dt)(x y:Str):Bool:=decide (x=y) && kJ S.sc x && S.bl.contains x
def kM(o:Expr)(m:Str)(x:Str)(n:Nat)(a c:Pos):Bool:=decide (x=m) && mQ o && (a.endLine==c.line) && decide (n<29)
def kL(S:dt)(i:Nat)(x:Str):Bool:=decide (S.N[i]?=some x) && loc S.sc x
section
variable {CX:aL} {S:dt} {Γ:aG} {X:Cx} {e e2 a b c d:Expr} {es:List Expr} {x:Str} {p q pos:Pos} {r ra rb rc:RE} {rs:List RE} {i j:Nat}
theorem aa(G:Good CX S Γ X)(h:qV S i x=true:=by kernel_rfl):PE X (.Name x p) (ag Γ (.v i)):=by
 simp only[qV,Bool.and_eq_true,decide_eq_true_eq,Bool.not_eq_true'] at h
 exact Rw (by rw[G.N];exact h.1.1.1) (by rw[G.sc];exact V3 h.1.1.2) h.1.2 h.2
theorem aD{v:Int}{k:Nat}:PE X (.Constant (.int v) k p) (ag Γ (.c (.int v))):=Rx
theorem aH{v:Str}{k:Nat}:PE X (.Constant (.str v) k p) (ag Γ (.c (.str v))):=RA
theorem jg{v:Bool}{k:Nat}:PE X (.Constant (.bool v) k p) (ag Γ (.c (.bl v))):=Ry
theorem X0{k:Nat}:PE X (.Constant .none k p) (ag Γ (.c .aq)):=Rz
theorem gp(G:Good CX S Γ X)(h:kG S j x=true:=by kernel_rfl):PE X (.Name x p) (ag Γ (.g j)):=by
 simp only[kG,Bool.and_eq_true,decide_eq_true_eq,Bool.not_eq_true'] at h
 obtain⟨u,hm,r⟩:=G.cC j x h.1.1
 exact IX (G.gl h.1.2) hm r h.2
theorem aY{op:Operator}(G:Good CX S Γ X)(ha:PE X a (ag Γ ra))(hb:PE X b (ag Γ rb)):PE X (.BinOp a op b p) (ag Γ (.bin op ra rb)):=by
 show PE X _ (dY (qw Γ.K op) (ag Γ ra) (ag Γ rb))
 rw[←G.K]
 exact R8 (Vp op) ha hb
theorem qM(ha:PE X a (ag Γ ra)):PE X (.UnaryOp .USub a p) (ag Γ (.neg ra)):=R9 XJ ha
theorem gR{op:CmpOp}(G:Good CX S Γ X)(ha:PE X a (ag Γ ra))(hb:PE X b (ag Γ rb))(hm:behindInMarks op b=false:=by kernel_rfl):PE X (.Compare a [op] [b] p) (ag Γ (.cmp op ra rb)):=by
 show PE X _ (dY (dz Γ.K op) (ag Γ ra) (ag Γ rb))
 rw[←G.K]
 exact Sx (KS G.units op) ha hb hm
theorem kW(h:PE X e (ag Γ r)):PE X (.BoolOp .And [e] p) (ag Γ (.and [r])):=RF h
theorem jR{r2:RE}(h:PE X e (ag Γ r))(t:PE X (.BoolOp .And (e2::es) p) (ag Γ (.and (r2::rs)))):PE X (.BoolOp .And (e::e2::es) p) (ag Γ (.and (r::r2::rs))):=RG h t
theorem A7(G:Good CX S Γ X)(ha:PE X a (ag Γ ra)):PE X (.UnaryOp .Not a p) (ag Γ (.not ra)):=by
 show PE X _ (Ax Γ.K (ag Γ ra))
 rw[←G.K]
 exact XM ha
theorem A8(hc:PT X c (bD Γ rc))(ha:PE X a (ag Γ ra))(hb:PE X b (ag Γ rb)):PE X (.IfExp c a b p) (ag Γ (.tD rc ra rb)):=RH hc ha hb
theorem ai:PA X [] (bK Γ []):=qr
theorem af(h:PE X e (ag Γ r))(t:PA X es (bK Γ rs))(hs:noStar e=true:=by kernel_rfl):PA X (e::es) (bK Γ (r::rs)):=kj h t (d4 hs)
theorem aZ(G:Good CX S Γ X)(hA:PA X (e::es) (bK Γ (r::rs)))(h:kF S j x=true:=by kernel_rfl)(hn:gk (e::es)=true:=by kernel_rfl)(hq:S.md=0:=by rfl):PE X (.Call (.Name x p) (e::es) [] pos) (ag Γ (.call j (r::rs))):=by
 simp only[kF,Bool.and_eq_true,decide_eq_true_eq,Bool.not_eq_true'] at h
 obtain⟨k,f,fd,ps,F,hr,hm,hk,hb⟩:=G.fns hq j x h.1.1
 exact S7 F hr (G.gl h.1.2) hm hk hb .nil G.pass hA h.2 (d4 (dD hn).1) (jP _ _ es (dD hn).2)
theorem X1(G:Good CX S Γ X)(hA:PA X (e::es) (bK Γ (r::rs)))(h:kK S j x=true:=by kernel_rfl)(hn:gk (e::es)=true:=by kernel_rfl)(hq:S.md=0:=by rfl):PE X (.Call (.Name x p) (e::es) [] pos) (ag Γ (.make j (r::rs))):=by
 simp only[kK,Bool.and_eq_true,decide_eq_true_eq,Bool.not_eq_true'] at h
 obtain⟨k,f,fd,ps,M,F,hr,hm,hb⟩:=G.mS hq j x h.1.1
 exact S9 M F hr (G.gl h.1.2) hm hb .nil G.pass hA h.2 (d4 (dD hn).1) (jP _ _ es (dD hn).2)
theorem cL{t:kE}(G:Good CX S Γ X)(hA:PA X (e::es) (bK Γ (r::rs)))(h:kB S x t.nm=true:=by kernel_rfl)(hn:gk (e::es)=true:=by kernel_rfl)(hq:S.md=0:=by rfl):PE X (.Call (.Name x p) (e::es) [] pos) (ag Γ (.blt t (r::rs))):=by
 simp only[kB,Bool.and_eq_true,decide_eq_true_eq] at h
 obtain⟨⟨rfl,h2⟩,h3⟩:=h
 have n1:t.nm≠"__name__":=by cases t<;>decide
 have n2:(t.nm==("__debug__":Str))=false:=by cases t<;>decide
 show PE X _ (jE (mO Γ.K t) (bK Γ (r::rs)))
 rw[←G.K]
 cases Xp (X:=X) (G.calm hq) t with
 | fn id hv hc=>exact zM hc (G.gl h2) (G.fS _ h3) hv hA n1 n2 (d4 (dD hn).1) (jP _ _ es (dD hn).2)
 | ty T hv hc=>exact Tb hc (G.gl h2) (G.fS _ h3) hv hA n1 n2 (d4 (dD hn).1) (jP _ _ es (dD hn).2)
theorem gT{T:Ty}{y:Str}(G:Good CX S Γ X)(ha:PE X a (ag Γ ra))(h:kB S x "isinstance"=true:=by kernel_rfl)(h2:kB S y (Str.ofString T.nm)=true:=by kernel_rfl)(hs:noStar a=true:=by kernel_rfl):PE X (.Call (.Name x p) [a, .Name y q] [] pos) (ag Γ (.d3 T ra)):=by
 simp only[kB,Bool.and_eq_true,decide_eq_true_eq] at h h2
 obtain⟨⟨rfl,g2⟩,g3⟩:=h
 obtain⟨⟨rfl,k2⟩,k3⟩:=h2
 exact XE ha hs (G.gl g2) (G.fS _ g3) (G.gl k2) (G.fS _ k3)
theorem gu(G:Good CX S Γ X)(ha:PE X a (ag Γ ra))(hb:PE X b (ag Γ rb))(h:kB S x "isinstance"=true:=by kernel_rfl)(hn:gk [a,b]=true:=by kernel_rfl):PE X (.Call (.Name x p) [a,b] [] pos) (ag Γ (.di ra rb)):=by
 simp only[kB,Bool.and_eq_true,decide_eq_true_eq] at h
 obtain⟨⟨rfl,g2⟩,g3⟩:=h
 show PE X _ (jE (jJ Γ.K) (dM (ag Γ ra) (dM (ag Γ rb) gN)))
 rw[←G.K]
 exact zM W9 (G.gl g2) (G.fS _ g3) Lu (kj ha (kj hb qr (d4 (dD (dD hn).2).1)) (d4 (dD hn).1)) (by decide) (by decide) (d4 (dD hn).1) (jP _ _ _ (dD hn).2)
theorem X3{n:String}(G:Good CX S Γ X)(hv:bootBuiltins (Str.ofString n)=some (.type n))(h1:Str.ofString n≠"__name__")(h2:(Str.ofString n==("__debug__":Str))=false)(h:kB S x (Str.ofString n)=true:=by kernel_rfl):PE X (.Name x p) (ag Γ (.c (.ty n))):=by
 simp only[kB,Bool.and_eq_true,decide_eq_true_eq] at h
 obtain⟨⟨rfl,g2⟩,g3⟩:=h
 exact IY (G.gl g2) (G.fS _ g3) hv rfl h1 h2
def kH(S:dt)(j:Nat)(x:Str):Bool:=decide (S.hn[j]?=some x) && kJ S.sc x && !(x==("__debug__":Str))
theorem X4(G:Good CX S Γ X)(ha:PE X a (ag Γ ra))(h:kH S j x=true:=by kernel_rfl)(hs:noStar a=true:=by kernel_rfl):PE X (.Call (.Name x p) [a] [] pos) (ag Γ (.wQ j ra)):=by
 simp only[kH,Bool.and_eq_true,decide_eq_true_eq,Bool.not_eq_true'] at h
 obtain⟨k,f,fd,ps,F,hr,hm,hk,hb⟩:=G.kU j x h.1.1
 exact Xe F hr (G.gl h.1.2) hm hk hb G.mT ha hs h.2
theorem X5{m:gP}{o:Expr}{ro:RE}{ap:Pos}(G:Good CX S Γ X)(ho:PE X o (ag Γ ro))(h:kM o m.nm x 0 ap pos=true:=by kernel_rfl):PE X (.Call (.Attribute o x ap) [] [] pos) (ag Γ (.bJ m ro [])):=by
 simp only[kM,Bool.and_eq_true,decide_eq_true_eq] at h
 obtain⟨⟨⟨rfl,h2⟩,h3⟩, -⟩:=h
 show PE X _ (qA Γ.K m (ag Γ ro) gN)
 rw[←G.K]
 exact XO ho h2 h3
theorem cT{m:gP}{o:Expr}{ro:RE}{ap:Pos}(G:Good CX S Γ X)(ho:PE X o (ag Γ ro))(hA:PA X (e::es) (bK Γ (r::rs)))(h:kM o m.nm x (es.length+1) ap pos=true:=by kernel_rfl)(hn:gk (e::es)=true:=by kernel_rfl):PE X (.Call (.Attribute o x ap) (e::es) [] pos) (ag Γ (.bJ m ro (r::rs))):=by
 simp only[kM,Bool.and_eq_true,decide_eq_true_eq] at h
 obtain⟨⟨⟨rfl,h2⟩,h3⟩,h4⟩:=h
 show PE X _ (qA Γ.K m (ag Γ ro) (bK Γ (r::rs)))
 rw[←G.K]
 exact XN ho hA h2 h3 h4 (d4 (dD hn).1) (jP _ _ es (dD hn).2) (AY _ _ (e::es) hn)
theorem jh{f:Str}{ro:RE}(G:Good CX S Γ X)(ho:PE X a (ag Γ ro))(h:mQ a=true:=by kernel_rfl):PE X (.Attribute a f p) (ag Γ (.fld ro f)):=by
 show PE X _ (wg Γ.K (ag Γ ro) f)
 rw[←G.K]
 exact SX ho (nS h)
theorem qN{m:Str}{o:Expr}{ro:RE}{ap:Pos}(G:Good CX S Γ X)(ho:PE X o (ag Γ ro))(h:(kM o m m 0 ap pos && decide (S.mn[j]?=some m))=true:=by kernel_rfl)(hq:S.md=0:=by rfl):PE X (.Call (.Attribute o m ap) [] [] pos) (ag Γ (.eV j m ro [])):=by
 simp only[kM,Bool.and_eq_true,decide_eq_true_eq] at h
 obtain⟨⟨⟨⟨-,h2⟩,h3⟩, -⟩,h5⟩:=h
 exact XS (G.kT hq j _ h5) G.pass ho h2 h3
theorem A9{m:Str}{o:Expr}{ro:RE}{ap:Pos}(G:Good CX S Γ X)(ho:PE X o (ag Γ ro))(hA:PA X (e::es) (bK Γ (r::rs)))(h:(kM o m m (es.length+1) ap pos && decide (S.mn[j]?=some m))=true:=by kernel_rfl)(hn:gk (e::es)=true:=by kernel_rfl)(hq:S.md=0:=by rfl):PE X (.Call (.Attribute o m ap) (e::es) [] pos) (ag Γ (.eV j m ro (r::rs))):=by
 simp only[kM,Bool.and_eq_true,decide_eq_true_eq] at h
 obtain⟨⟨⟨⟨-,h2⟩,h3⟩,h4⟩,h5⟩:=h
 exact XR (G.kT hq j _ h5) G.pass ho hA h2 h3 h4 (d4 (dD hn).1) (jP _ _ es (dD hn).2) (AY _ _ (e::es) hn)
theorem X6(h:ub b=true):JZ b:=fun o i=>by cases b<;>first | rfl | cases h
theorem a_(G:Good CX S Γ X)(ha:PE X a (ag Γ ra))(hb:PE X b (ag Γ rb))(h:ub b=true:=by kernel_rfl):PE X (.Subscript a b p) (ag Γ (.ix ra rb)):=by
 show PE X _ (dY (n_ Γ.K Γ.sd) (ag Γ ra) (ag Γ rb))
 rw[←G.K]
 exact Tt (Xu G.kS) ha hb (X6 h)
theorem X7:PE X (.Dict [] [] p) (ag Γ .Av):=UP
theorem X8(h:ub b=true):Ad b:=fun ov iv=>by cases b<;>first | rfl | cases h
theorem LI(G:Good CX S Γ X)(ha:PE X a (ag Γ ra))(hb:PE X b (ag Γ rb))(h:ub b=true:=by kernel_rfl):PE X (.Subscript a b p) (ag Γ (.tE ra rb)):=
 UL (by have:=G.units;omega) ha hb (X8 h)
theorem X9(G:Good CX S Γ X)(ha:PE X a (ag Γ ra))(hb:PE X b (ag Γ rb))(hm:behindInMarks .In b=false:=by kernel_rfl):PT X (.Compare a [.In] [b] p) (bD Γ (.wR ra rb)):=
 RB (UM (by have:=G.units;omega) ha hb) hm
theorem X_(G:Good CX S Γ X)(ha:PE X a (ag Γ ra))(hb:PE X b (ag Γ rb))(hm:behindInMarks .NotIn b=false:=by kernel_rfl):PT X (.Compare a [.NotIn] [b] p) (bD Γ (.tF ra rb)):=by
 show PT X _ (nN (dY (qx Γ.K true) (ag Γ ra) (ag Γ rb)))
 rw[←G.K]
 exact Jz (VQ G.units) ha hb hm
theorem mV{lo hi:Option Expr}{rl rh:Option RE}(G:Good CX S Γ X)(ha:PE X a (ag Γ ra))(hl:PO X lo (mP Γ rl))(hh:PO X hi (mP Γ rh)):PE X (.Subscript a (.Slice lo hi none q) p) (ag Γ (.sl ra rl rh)):=by
 show PE X _ (zO (Ay Γ.K) (ag Γ ra) (mP Γ rl) (mP Γ rh))
 rw[←G.K]
 exact To XH ha hl hh
theorem Ya:PO X none (mP Γ none):=Tj
theorem gw(ha:PE X a (ag Γ ra)):PO X (some a) (mP Γ (some ra)):=Tn ha
theorem bY{k}(hA:PA X es (bK Γ rs)):PE X (.Tuple es k p) (ag Γ (.tup rs)):=S4 hA
theorem cI(hA:PA X es (bK Γ rs)):PE X (.List es p) (ag Γ (.lst rs)):=S5 hA
def uc(CX:aL)(S:dt)(Γ:aG)(cond:Option RE)(ifs:List Expr):Prop:=match cond with
 | none=>ifs=[]
 | some r=> ∃e0,ifs=[e0]∧ ∀X,Good CX S Γ X→PT X e0 (bD Γ r)
theorem ou:uc CX S Γ none []:=rfl
theorem ud(h: ∀X,Good CX S Γ X→PT X e (bD Γ r)):uc CX S Γ (some r) [e]:=⟨e,rfl,h⟩
def kC(S:dt)(tk:Option Nat)(tg iter:Expr)(sc:Scope)(k:IK)(ln:List Str)(fv:List (Str×Nat)):Bool:=decide (AD tk tg=some ln) && (decide (k≠ .zip) || tk.isSome) && AE S ⟨.Constant .none 0 ⟨0,0,0,0⟩,tg,iter,[],sc⟩ ln fv
abbrev cS(S:dt)(sc:Scope)(ln:List Str)(fv:List (Str×Nat)):dt:={S with N:=ln++fv.map (·.1),sc:=AB sc S.sc,en:=[],md:=if S.md=0 then 0 else 2}
theorem jS{tk:Option Nat}{fv:List (Str×Nat)}{k:IK}{its:List RE}{cond:Option RE}{elt:RE}{el tg iter:Expr}{ifs:List Expr}{sc:Scope}{ln:List Str}(G:Good CX S Γ X)(h:kC S tk tg iter sc k ln fv=true)(hi:PI X tg iter (hZ Γ k its))
  (hc:uc CX (cS S sc ln fv) Γ.calm cond ifs) (he: ∀X,Good CX (cS S sc ln fv) Γ.calm X→PE X el (ag Γ.calm elt)) (hq:S.md=0:=by rfl):PE X (.ListComp el [⟨tg,iter,ifs,0⟩] sc p) (ag Γ (.comp tk fv k its cond elt)):=by
 simp only[kC,Bool.and_eq_true,decide_eq_true_eq] at h
 obtain⟨⟨h1,h2⟩,h3⟩:=h
 obtain⟨o1,o2,o3,o4⟩:=AZ (c:=⟨.Constant .none 0 ⟨0,0,0,0⟩,tg,iter,[],sc⟩) G h3
 show PE X _ (mH Γ.K (hZ Γ k its) tk fv (tJ Γ.calm cond) (ag Γ.calm elt))
 rw[←G.K]
 refine Vi o1 (G.calm hq) hi (Ls (c:=⟨.Constant .none 0 ⟨0,0,0,0⟩,tg,iter,[],sc⟩) (G.calm hq) h1 o2 o3) ?_ (fun ex C s H=>he _ (G.inner ⟨.Constant .none 0 ⟨0,0,0,0⟩,tg,iter,[],sc⟩ ln fv ex C s H)) (tZ o4)
 cases cond with
 | none=>exact hc
 | some r=>
  obtain⟨e0,q,hq⟩:=hc
  exact⟨e0,q,fun ex C s H=>hq _ (G.inner ⟨.Constant .none 0 ⟨0,0,0,0⟩,tg,iter,[],sc⟩ ln fv ex C s H)⟩
theorem gz(h:PT X a (bD Γ ra)):PT X (.UnaryOp .Not a p) (bD Γ (.not ra)):=RC h
theorem xn(h:PT X e (bD Γ r)):PW X (.BoolOp .And [e] p) (bD Γ (.and [r])):=pw_and1 h
theorem xo{r2:RE}(h:PT X e (bD Γ r))(t:PW X (.BoolOp .And (e2::es) p) (bD Γ (.and (r2::rs)))):PW X (.BoolOp .And (e::e2::es) p) (bD Γ (.and (r::r2::rs))):=pw_and h t
theorem ow(h:PT X e (bD Γ r)):PW X (.BoolOp .Or [e] p) (bD Γ (.or [r])):=pw_or1 h
theorem kY{r2:RE}(h:PT X e (bD Γ r))(t:PW X (.BoolOp .Or (e2::es) p) (bD Γ (.or (r2::rs)))):PW X (.BoolOp .Or (e::e2::es) p) (bD Γ (.or (r::r2::rs))):=pw_or h t
theorem bA{op:CmpOp}(G:Good CX S Γ X)(ha:PE X a (ag Γ ra))(hb:PE X b (ag Γ rb))(hm:behindInMarks op b=false:=by kernel_rfl):PT X (.Compare a [op] [b] p) (bD Γ (.cmp op ra rb)):=by
 show PT X _ (nN (dY (dz Γ.K op) (ag Γ ra) (ag Γ rb)))
 rw[←G.K]
 exact Jz (KS G.units op) ha hb hm
theorem Yb(G:Good CX S Γ X)(h:PE X (.Name x p) (ag Γ (.v i))):PT X (.Name x p) (bD Γ (.v i)):=by
 show PT X _ (gh Γ.K (ag Γ (.v i)))
 rw[←G.K]
 exact t9 h fun _=>rfl
theorem oy(G:Good CX S Γ X)(h:PE X (.Call a es [] p) (ag Γ (.call j rs))):PT X (.Call a es [] p) (bD Γ (.call j rs)):=by
 show PT X _ (gh Γ.K (ag Γ (.call j rs)))
 rw[←G.K]
 exact t9 h fun _=>rfl
theorem LJ(G:Good CX S Γ X)(h:PE X (.Call a es [] p) (ag Γ (.di ra rb))):PT X (.Call a es [] p) (bD Γ (.di ra rb)):=by
 show PT X _ (gh Γ.K (ag Γ (.di ra rb)))
 rw[←G.K]
 exact t9 h fun _=>rfl
theorem qO{T:Ty}(G:Good CX S Γ X)(h:PE X (.Call a es [] p) (ag Γ (.d3 T ra))):PT X (.Call a es [] p) (bD Γ (.d3 T ra)):=by
 show PT X _ (gh Γ.K (ag Γ (.d3 T ra)))
 rw[←G.K]
 exact t9 h fun _=>rfl
theorem Yc{m:gP}{ro:RE}(G:Good CX S Γ X)(h:PE X (.Call a es [] p) (ag Γ (.bJ m ro rs))):PT X (.Call a es [] p) (bD Γ (.bJ m ro rs)):=by
 show PT X _ (gh Γ.K (ag Γ (.bJ m ro rs)))
 rw[←G.K]
 exact t9 h fun _=>rfl
theorem fk{tg:Expr}(G:Good CX S Γ X)(ha:PE X a (ag Γ ra)):PI X tg a (hZ Γ .list [ra]):=by
 show PI X tg a (sE Γ.K (ag Γ ra))
 rw[←G.K]
 exact R1 ha
theorem qP{tg:Expr}(G:Good CX S Γ X)(ha:PE X a (ag Γ ra))(h:kB S x "range"=true:=by kernel_rfl)(hs:noStar a=true:=by kernel_rfl):PI X tg (.Call (.Name x p) [a] [] pos) (hZ Γ .fI [ra]):=by
 simp only[kB,Bool.and_eq_true,decide_eq_true_eq] at h
 obtain⟨⟨rfl,h2⟩,h3⟩:=h
 exact R5 (G.gl h2) (G.fS _ h3) (kj ha qr (d4 hs)) (d4 hs)
theorem Yd{ts:List Expr}{k}{tp:Pos}(G:Good CX S Γ X)(ha:PE X a (ag Γ ra))(hb:PE X b (ag Γ rb))(h:kB S x "zip"=true:=by kernel_rfl)(hn:gk [a,b]=true:=by kernel_rfl):PI X (.Tuple ts k tp) (.Call (.Name x p) [a,b] [] pos) (hZ Γ .zip [ra,rb]):=by
 simp only[kB,Bool.and_eq_true,decide_eq_true_eq] at h
 obtain⟨⟨rfl,h2⟩,h3⟩:=h
 show PI X _ _ (Az Γ.K (dM (ag Γ ra) (bK Γ [rb])))
 rw[←G.K]
 exact V_ (G.gl h2) (G.fS _ h3) (kj ha (kj hb qr (d4 (dD (dD hn).2).1)) (d4 (dD hn).1)) (d4 (dD hn).1) (jP _ _ _ (dD hn).2)
end
section
variable {CX:aL} {S:dt} {Γ:aG} {X:Cx} {e a b c v:Expr} {es:List Expr} {x:Str} {p q pos:Pos} {r ra rb rc:RE} {i j:Nat} {st:Stmt} {LK:List Stmt} {s:RS} {ss t u:List RS}
theorem A_{v:Expr}{t:Option Expr}{l:Nat}{env:Env}(h:xl v=true):swapsWith v t l env=pure false:=by
 cases v<;>first | rfl | cases h
theorem Ye{v:Expr}{x:Str}{p:Pos}{l:Nat}{env:Env}(h:env.kindOf x=some .cell):swapsWith v (some (.Name x p)) l env=pure false:=by
 cases v<;>first
  | rfl
  | (unfold swapsWith;simp only[h];have q:(some NameKind.cell==some NameKind.local)=false:=rfl;simp only[q,Bool.and_false,Bool.false_and])
theorem LL{v o i:Expr}{p:Pos}{l:Nat}{env:Env}:swapsWith v (some (.Subscript o i p)) l env=pure false:=by
 cases v<;>rfl
theorem Yf{v o i:Expr}{p:Pos}{env:Env}:swappedStores [.Subscript o i p] v env=pure none:=by
 cases v<;>rfl
theorem aO.name(G:aO CX S Γ X)(h:kL S i x=true):PG X (.Name x p) (dR i):=by
 simp only[kL,Bool.and_eq_true,decide_eq_true_eq] at h
 exact qm (by rw[G.N];exact G.nd) (by rw[G.N];exact h.1) (by rw[G.sc];exact wW h.2) (.inl (G.jQ x))
theorem au:bo X [] (ar Γ []):=Je
theorem ah(h:PS X st (bj Γ s))(t:bo X LK (ar Γ ss)):bo X (st::LK) (ar Γ (s::ss)):=RK h t
theorem aU(G:aO CX S Γ X)(he:PE X v (ag Γ r))(h:kL S i x=true:=by kernel_rfl)(hc:(xl v || decide (S.sc.names.lookup x=some .cell))=true:=by kernel_rfl):PS X (.Assign [.Name x p] v q) (bj Γ (.asg i r)):=by
 simp only[kL,Bool.and_eq_true,decide_eq_true_eq,Bool.or_eq_true] at h hc
 refine RW (by rw[G.N];exact G.nd) (by rw[G.N];exact h.1) (by rw[G.sc];exact wW h.2) he ?_ (.inl (G.jQ x))
 rcases hc with h4 | h4
 ·exact A_ h4
 ·exact Ye (by show X.env.scope.names.lookup x=_;rw[G.sc];exact h4)
theorem Yg{tk:Option Nat}{fv:List (Str×Nat)}{k:IK}{its:List RE}{cond:Option RE}{elt:RE}{el tg iter:Expr}{ifs:List Expr}{sc:Scope}{ln:List Str}{pc:Pos}(G:aO CX S Γ X)(h0:kL S i x=true)(hs:xm S.sc x p.line sc pc=true)(h:kC S tk tg iter sc k ln fv=true)(hi:PI X tg iter (hZ Γ k its))
  (hc:uc CX (cS S sc ln fv) Γ.calm cond ifs) (he: ∀X,Good CX (cS S sc ln fv) Γ.calm X→PE X el (ag Γ.calm elt)) (hq:S.md=0:=by rfl):PS X (.Assign [.Name x p] (.ListComp el [⟨tg,iter,ifs,0⟩] sc pc) q) (bj Γ (.qz i (.comp tk fv k its cond elt))):=by
 simp only[kC,kL,xm,Bool.and_eq_true,decide_eq_true_eq,beq_iff_eq,Bool.not_eq_true'] at h h0 hs
 obtain⟨⟨h1,h2⟩,h3⟩:=h
 obtain⟨o1,o2,o3,o4⟩:=AZ (c:=⟨.Constant .none 0 ⟨0,0,0,0⟩,tg,iter,[],sc⟩) G.toGood h3
 show PS X _ (i6 (mH Γ.K (hZ Γ k its) tk fv (tJ Γ.calm cond) (ag Γ.calm elt)) (dR i))
 rw[←G.K]
 refine Vj (by rw[G.N];exact G.nd) (by rw[G.N];exact h0.1) (by rw[G.sc];exact wW h0.2) ?_ o1 (G.calm hq) hi (Ls (c:=⟨.Constant .none 0 ⟨0,0,0,0⟩,tg,iter,[],sc⟩) (G.calm hq) h1 o2 o3) ?_ (fun ex C s H=>he _ (G.toGood.inner ⟨.Constant .none 0 ⟨0,0,0,0⟩,tg,iter,[],sc⟩ ln fv ex C s H)) (tZ o4) (.inl (G.jQ x))
 ·have e1:X.env.kindOf x=some .local:=by show X.env.scope.names.lookup x=_;rw[G.sc];exact hs.1.1.2
  have e2:X.env.blockKind= .function:=by unfold Env.blockKind;rw[G.mU];rfl
  unfold swapsWith
  simp only[e1,e2,hs.1.2,hs.2]
  show pure (true && true && (pc.line==pc.line) && !false)=pure true
  rw[beq_self_eq_true];rfl
 ·cases cond with
  | none=>exact hc
  | some r=>
   obtain⟨e0,q,hq⟩:=hc
   exact⟨e0,q,fun ex C s H=>hq _ (G.toGood.inner ⟨.Constant .none 0 ⟨0,0,0,0⟩,tg,iter,[],sc⟩ ln fv ex C s H)⟩
theorem Yh{fv:List (Str×Nat)}{cond:Option RE}{elt:RE}{el iter:Expr}{ifs:List Expr}{sc:Scope}{n1 n2:Str}{p1 p2 tp:Pos}{kt}{pc:Pos}(G:aO CX S Γ X)(h0:kL S i x=true)(hs:xm S.sc x p.line sc pc=true)(h:kC S (some 2) (.Tuple [.Name n1 p1, .Name n2 p2] kt tp) iter sc .list [n1,n2] fv=true)(hi:PE X iter (ag Γ ra))
  (hc:uc CX (cS S sc [n1,n2] fv) Γ.calm cond ifs) (he: ∀X,Good CX (cS S sc [n1,n2] fv) Γ.calm X→PE X el (ag Γ.calm elt)) (hq:S.md=1:=by rfl):PS X (.Assign [.Name x p] (.ListComp el [⟨.Tuple [.Name n1 p1, .Name n2 p2] kt tp,iter,ifs,0⟩] sc pc) q) (bj Γ (.qz i (.comp (some 2) fv .list [ra] cond elt))):=by
 simp only[kC,kL,xm,Bool.and_eq_true,decide_eq_true_eq,beq_iff_eq,Bool.not_eq_true'] at h h0 hs
 obtain⟨⟨h1,h2⟩,h3⟩:=h
 obtain⟨o1,o2,o3,o4⟩:=AZ (c:=⟨.Constant .none 0 ⟨0,0,0,0⟩, .Tuple [.Name n1 p1, .Name n2 p2] kt tp,iter,[],sc⟩) G.toGood h3
 show PS X _ (i6 (mH Γ.K (sE Γ.K (ag Γ ra)) (some 2) fv (tJ Γ.calm cond) (ag Γ.calm elt)) (dR i))
 rw[←G.K]
 have hH:Hd X:=G.om hq
 refine KL (Φ:=Hd) (Ψ:=gi X.A) (by rw[G.N];exact G.nd) (by rw[G.N];exact h0.1) (by rw[G.sc];exact wW h0.2) ?_ o1 W8 (fun _ _ _ _ I=>hH.at I) (WZ hi) (W7 (o2 n1 (by simp)) (o2 n2 (by simp)) o3) ?_ (fun ex C s H=>he _ (G.toGood.inner ⟨.Constant .none 0 ⟨0,0,0,0⟩, .Tuple [.Name n1 p1, .Name n2 p2] kt tp,iter,[],sc⟩ [n1,n2] fv ex C s H)) (tZ o4) (.inl (G.jQ x))
 ·have e1:X.env.kindOf x=some .local:=by show X.env.scope.names.lookup x=_;rw[G.sc];exact hs.1.1.2
  have e2:X.env.blockKind= .function:=by unfold Env.blockKind;rw[G.mU];rfl
  unfold swapsWith
  simp only[e1,e2,hs.1.2,hs.2]
  show pure (true && true && (pc.line==pc.line) && !false)=pure true
  rw[beq_self_eq_true];rfl
 ·cases cond with
  | none=>exact hc
  | some r=>
   obtain⟨e0,q,hq⟩:=hc
   exact⟨e0,q,fun ex C s H=>hq _ (G.toGood.inner ⟨.Constant .none 0 ⟨0,0,0,0⟩, .Tuple [.Name n1 p1, .Name n2 p2] kt tp,iter,[],sc⟩ [n1,n2] fv ex C s H)⟩
theorem LM(he:PE X v (ag Γ r))(ha:PE X a (ag Γ ra))(hb:PE X b (ag Γ rb))(h:ub b=true:=by kernel_rfl):PS X (.Assign [.Subscript a b p] v q) (bj Γ (.set ra rb r)):=
 RV he (RU ha hb set_list (by intro w;cases b<;>first | rfl | cases h)) (by exact LL (o:=a) (i:=b) (p:=p) (l:=q.line) (env:=X.env)) Yf rfl
theorem Yi(G:aO CX S Γ X)(he:PE X v (ag Γ r))(ha:PE X a (ag Γ ra))(hb:PE X b (ag Γ rb)):PS X (.Assign [.Subscript a b p] v q) (bj Γ (.dput ra rb r)):=
 UN (by have:=G.toGood.units;omega) ha hb he (by exact LL (o:=a) (i:=b) (p:=p) (l:=q.line) (env:=X.env))
theorem qQ{f:Str}(G:aO CX S Γ X)(ho:PE X a (ag Γ ra))(he:PE X v (ag Γ r))(h:xl v=true:=by kernel_rfl):PS X (.Assign [.Attribute a f p] v q) (bj Γ (.mM ra f r)):=by
 show PS X _ (zE Γ.K (ag Γ ra) (ag Γ r) f)
 rw[←G.K]
 exact SY ho he (A_ h)
theorem dj(he:PE X v (ag Γ r))(h:xl v=true:=by kernel_rfl):PS X (.Expr v p) (bj Γ (.drop r)):=RN he (A_ h)
theorem bG(he:PE X v (ag Γ r)):PS X (.Return (some v) p) (bj Γ (.ret r)):=RO he
theorem bH{as bs:List Stmt}(hc:PT X c (bD Γ rc))(ha:bo X as (ar Γ t))(hb:bo X bs (ar Γ u)):PS X (.If c as bs p) (bj Γ (.ite rc t u)):=RQ hc ha hb
theorem LN{as:List Stmt}(G:aO CX S Γ X)(hc:PT X c (bD Γ rc))(ha:bo X as (ar Γ t)):PS X (.While c as [] p) (bj Γ (.tG rc t)):=RX G.own hc ha
theorem ue{k:IK}{its:List RE}{iter:Expr}{as:List Stmt}(G:aO CX S Γ X)(hi:PI X (.Name x p) iter (hZ Γ k its))(ha:bo X as (ar Γ t))(h:kL S i x=true:=by kernel_rfl)(hs:tL iter=true:=by kernel_rfl)(hq:S.md=0:=by rfl):PS X (.For (.Name x p) iter as [] q) (bj Γ (.nZ i k its t)):=
 Jp G.own (G.calm hq) hi (G.name h) ha (tZ hs)
theorem LO(G:aO CX S Γ X): ∀(is:List Nat) (xs:List (Str×Pos)),qL S.N S.sc is (xs.map (·.1))=true→
  nH X (xs.map fun y=> .Name y.1 y.2) (ua is)∧(assignEach (xs.map fun y=>Expr.Name y.1 y.2) X.env).length=is.length∧(assignEach (xs.map fun y=>Expr.Name y.1 y.2) X.env).findIdx? (·.1)=none
 | [],xs,h=>by
  simp only[qL,List.isEmpty_iff,List.map_eq_nil_iff] at h
  subst h;exact⟨zx,rfl,rfl⟩
 | i::r,[],h=>by simp only[List.map_nil,qL] at h;cases h
 | i::r,y::t,h=>by
  simp only[List.map_cons,qL,Bool.and_eq_true] at h
  obtain⟨i1,i2,i3⟩:=LO G r t h.2
  refine⟨sD (G.name (by simp only[kL,Bool.and_eq_true];exact h.1)) i1 rfl, ?_, ?_⟩
  ·show(assignEach _ X.env).length+1=r.length+1
   rw[i2]
  ·show List.findIdx? (·.1) ((false,assign (.Name y.1 y.2) X.env)::assignEach _ X.env)=none
   rw[List.findIdx?_cons,i3];rfl
theorem mW{is:List Nat}{k:IK}{its:List RE}{iter:Expr}{as:List Stmt}{kt}{tp:Pos}(xs:List (Str×Pos))(G:aO CX S Γ X)(hi:PI X (.Tuple (xs.map fun y=> .Name y.1 y.2) kt tp) iter (hZ Γ k its))(ha:bo X as (ar Γ t))(h:qL S.N S.sc is (xs.map (·.1))=true:=by kernel_rfl)(hs:tL iter=true:=by kernel_rfl)(hq:S.md=0:=by rfl):
  PS X (.For (.Tuple (xs.map fun y=> .Name y.1 y.2) kt tp) iter as [] q) (bj Γ (.jK is k its t)):=by
 obtain⟨i1,i2,i3⟩:=LO G is xs h
 show PS X _ (v8 (hZ Γ k its) (xk Γ.K is.length (ua is)) (ar Γ t))
 rw[←G.K]
 exact Jp G.own (G.calm hq) hi (XY (G.calm hq) i1 i2 i3) ha (tZ hs)
def kX(S:dt)(j:Nat)(x:Str):Bool:=decide (S.en[j]?=some x) && kJ S.sc x && !(x==("__debug__":Str))
theorem mX{rs:List RE}{np dy:Pos}(G:aO CX S Γ X)(hA:PA X (e::es) (bK Γ (r::rs)))(h:kX S j x=true:=by kernel_rfl)(hn:gk (e::es)=true:=by kernel_rfl)(hq:S.md=0:=by rfl):PS X (.Raise (some (.Call (.Name x np) (e::es) [] dy)) none pos) (bj Γ (.jL j (r::rs))):=by
 simp only[kX,Bool.and_eq_true,decide_eq_true_eq,Bool.not_eq_true'] at h
 obtain⟨bm,B,newId,qD,O,FB⟩:=G.qK j x h.1.1
 exact WG (G.calm hq) O FB (G.gl h.1.2) h.2 hA (d4 (dD hn).1) (jP _ _ es (dD hn).2) (G.rs j x h.1.1)
abbrev tS(S:dt):dt:={S with en:=[]}
abbrev hS(S:dt):dt:={S with en:=[],md:=2}
theorem aO.Yj(G:aO CX S Γ X)(pn:List (Addr×Obj))(xe:Value→Shared→Prop)(E:XK)(ho:PassesOwn (model X.prog X.w) X.A X.env xe)(hp:Passes (eG X.prog X.w) (X.alt X.A X.calm pn xe) E):
  aO CX (tS S) {Γ with E:=E} (X.alt X.A X.calm pn xe):=
 {N:=G.N,sc:=G.sc,K:=G.K,calm:=G.calm,units:=G.units,fns:=G.fns,cC:=G.cC,fS:=G.fS,pass:=by rw[G.oq];exact hp,jO:=G.jO,kS:=G.kS,kT:=G.kT,mS:=G.mS,
  qK:=fun _ _ h=> (by simp at h),kU:=G.kU,mT:=G.mT,om:=G.om,nd:=G.nd,jQ:=G.jQ,own:=ho,mU:=G.mU,rs:=fun _ _ h=> (by simp at h),iA:=G.iA,fQ:=G.fQ,oo:=G.oo,oq:=G.oq}
theorem aO.held(G:aO CX S Γ X)(ea:Addr)(pn:List (Addr×Obj)):
  aO CX (hS S) {Γ with E:=E0,hv:=some ea} (X.alt (X.A.mark (some (.ref ea))) false pn fun _ _=>False):=
 {N:=G.N,sc:=G.sc,K:=G.K,calm:=fun h=> (nomatch h),units:=G.units,fns:=fun h=> (nomatch h),cC:=G.cC,fS:=G.fS,pass:=fun _ _ _ _ _ _ _ h=> (G.jO _ _ _ _ _ h).elim,jO:=G.jO,kS:=G.kS,kT:=fun h=> (nomatch h),mS:=fun h=> (nomatch h),
  qK:=fun _ _ h=> (by simp at h),kU:=fun j x h=> (by
   obtain⟨k,f,fd,ps,F,r,m⟩:=G.kU j x h
   exact⟨k,f,fd,ps,F,r.mark _,m⟩),
  mT:=fun e h=> (by cases h;rfl),om:=fun h=> (nomatch h),nd:=G.nd,jQ:=G.jQ,own:=PassesOwn.never,mU:=G.mU,rs:=fun _ _ h=> (by simp at h),iA:=G.iA,fQ:=G.fQ,oo:=G.oo,oq:=G.oq}
theorem Yk{n:Nat}{y:Str}{np tU:Pos}{body su:List Stmt}{b₀:Stmt}{rb uf:List RS}(G:aO CX S Γ X)(h:kG S j x=true)(hn:(decide (S.N.length=n) && decide (S.N[i]?=some y) && decide (S.sc.names.lookup y=some .local))=true)
  (hb: ∀{Γ:aG} {X:Cx},aO CX (tS S) Γ X→bo X body (ar Γ rb)) (hs: ∀{Γ:aG} {X:Cx},aO CX (hS S) Γ X→bo X (b₀::su) (ar Γ uf)):
  PS X (.Try body [.ExceptHandler (some (.Name x np)) (some y) (b₀::su) tU] [] [] pos) (bj Γ (.Aw n i j rb uf)):=by
 simp only[kG,Bool.and_eq_true,decide_eq_true_eq,Bool.not_eq_true'] at h hn
 obtain⟨u,hm,hu⟩:=G.cC j x h.1.1
 intro pins s σ H D I q
 obtain⟨C,e,q⟩:=(show ∃C,Γ.gv j= .ref C∧wO Γ.K C i n (fun E=>ar {Γ with E:=E} rb) (fun ea=>ar {Γ with E:=E0,hv:=some ea} uf) D σ H from q)
 rw[e] at hu
 have tm:u= .ref C:=hu
 subst tm
 have hl:X.N.length=n:=by rw[G.N];exact hn.1.1
 have q':wO X.K C i X.N.length (fun E=>ar {Γ with E:=E} rb) (fun ea=>ar {Γ with E:=E0,hv:=some ea} uf) D σ H:=by rw[G.K,hl];exact q
 exact WJ (tb:=fun E=>ar {Γ with E:=E} rb) (th:=fun ea=>ar {Γ with E:=E0,hv:=some ea} uf) G.iA G.fQ G.oo (G.gl h.1.2) h.2 hm (by rw[G.N];exact G.nd) (by rw[G.N];exact hn.1.2) (by rw[G.sc];exact hn.2)
  (fun pn xe E ho hp=>hb (G.Yj pn xe E ho hp)) (fun ea pn=>hs (G.held ea pn)) pins s σ H D I q'
theorem Yl:PS X (.Continue p) (bj Γ .cont):=RM
end
section
variable {P:Program} {w:World} {K:PySem.W.Frag} {mg:Str→Option Value} {base:Heap}
def ck(P:Program)(w:World)(K:PySem.W.Frag)(mg:Str→Option Value)(base:Heap)(k:Nat)(x:Str)(sp:Sp):Prop:=
 ∃f fd ps,cA P w K mg base (eG P w) k f fd ps sp∧mg x=some (.ref f)∧keepIn K (.ref f)=true∧Binds K fd ps []
theorem ck.mono{j k:Nat}{x:Str}{sp:Sp}(h:ck P w K mg base j x sp)(hk:j≤k):ck P w K mg base k x sp:=by
 obtain⟨f,fd,ps,F,r⟩:=h
 exact⟨f,fd,ps,F.mono hk,r⟩
def mY(tab:List (Str×Sp))(j:Nat):Sp:=match tab[j]? with
 | some p=>p.2
 | none=>fun _ _ _ _=>False
def oz(tab:List (Str×V))(j:Nat):V:=match tab[j]? with
 | some p=>p.2
 | none=> .aq
structure fm (mg:Str→Option Value) (p:Str×V):Prop where
 ex: ∃u,mg p.1=some u∧RelV p.2 u
def jT(tab:List (Str×Addr×Sp))(j:Nat):Addr×Sp:=match tab[j]? with
 | some p=>p.2
 | none=> (0,fun _ _ _ _=>False)
def xp(tab:List (Str×Addr))(j:Nat):Addr:=match tab[j]? with
 | some p=>p.2
 | none=>0
abbrev aQ(K:PySem.W.Frag)(tab:List (Str×Sp))(gt:List (Str×V))(dk:List (Addr×List (Key×V)):=[])(mt kt:List (Str×Addr×Sp):=[])(et:List (Str×Addr):=[])(ht:List (Str×Sp):=[])(E:XK:=E0):aG:=
 {K:=K,fs:=mY tab,gv:=oz gt,E:=E,sd:=fun p ao=> (p,ao)∈dk,ms:=jT mt,kt:=jT kt,ex:=xp et,hs:=mY ht,hv:=none}
def jU(P:Program)(w:World)(K:PySem.W.Frag)(mg:Str→Option Value)(base:Heap)(k:Nat)(p:Str×Addr×Sp):Prop:=
 i_ K p.2.1∧ ∃f fd ps,Meth K p.2.1 p.1 f∧cA P w K mg base (eG P w) k f fd ps p.2.2∧Binds K fd ps []
def ug(P:Program)(w:World)(K:PySem.W.Frag)(mg:Str→Option Value)(base:Heap)(k:Nat)(p:Str×Addr×Sp):Prop:=
 ∃j f fd ps,j+1≤k∧Mk K p.2.1 f∧cA P w K mg base (eG P w) j f fd ps p.2.2∧mg p.1=some (.ref p.2.1)∧Binds K fd ps []
theorem jU.mono{j k:Nat}{p:Str×Addr×Sp}(h:jU P w K mg base j p)(hk:j≤k):jU P w K mg base k p:=by
 obtain⟨c,f,fd,ps,m,F,b⟩:=h
 exact⟨c,f,fd,ps,m,F.mono hk,b⟩
theorem ug.mono{j k:Nat}{p:Str×Addr×Sp}(h:ug P w K mg base j p)(hk:j≤k):ug P w K mg base k p:=by
 obtain⟨i,f,fd,ps,m,r⟩:=h
 exact⟨i,f,fd,ps,Nat.le_trans m hk,r⟩
def Ym(P:Program)(w:World)(K:PySem.W.Frag)(q:Addr×List (Key×V)):Prop:= ∀h:Heap,K.In h→ ∃vs,KV q.2 vs∧h.DictOf (eh P w) q.1 vs
abbrev bg(N:List Str)(sc:Scope)(tab:List Str)(gt:List Str)(bl:List Str)(mn kn:List Str:=[])(en hn:List Str:=[])(md:Nat:=0):dt:={N:=N,sc:=sc,fn:=tab,gn:=gt,bl:=bl,mn:=mn,kn:=kn,en:=en,hn:=hn,md:=md}
def uh(mg:Str→Option Value)(base:Heap)(p:Str×Addr):Prop:= ∃bm B newId qD,OwnCls p.1 p.2 bm newId mg base∧ExcBaseFacts B newId qD bm
def qR(P:Program)(w:World)(K:PySem.W.Frag)(mg:Str→Option Value)(base:Heap)(k:Nat)(x:Str)(sp:Sp):Prop:=
 ∃f fd ps,oj P w K mg base k f fd ps sp∧mg x=some (.ref f)∧keepIn K (.ref f)=true∧Binds K fd ps []
theorem qR.mono{P:Program}{w:World}{K:PySem.W.Frag}{mg:Str→Option Value}{base:Heap}{j k:Nat}{x:Str}{sp:Sp}(h:qR P w K mg base j x sp)(hk:j≤k):qR P w K mg base k x sp:=by
 obtain⟨f,fd,ps,F,r⟩:=h
 exact⟨f,fd,ps,F.mono hk,r⟩
theorem bU{x qual:Str}{st:Stmt}{f:Addr}{fd:FuncData}{N ps:List Str}{k:Nat}{sp:Sp}(F:sT K x qual st f fd)(S:bR N ps (az st))
  (tab:List (Str×Sp)) (gt:List (Str×V)) (bl:List Str) (mt kt:List (Str×Addr×Sp)) (et:List (Str×Addr)) (ht:List (Str×Sp)) (body:List RS)
  (hm: ∀{CX:aL} {Γ:aG} {X:Cx},aO CX (bg N (az st) (tab.map (·.1)) (gt.map (·.1)) bl (mt.map (·.1)) (kt.map (·.1)) (et.map (·.1)) (ht.map (·.1))) Γ X→bo X (aB st) (ar Γ body))
  (Yn: ∀p∈tab,ck P w K mg base k p.1 p.2) (Ba: ∀p∈gt,fm mg p) (Bb: ∀y∈bl,mg y=none) (dk:List (Addr×List (Key×V))) (Yo: ∀q∈dk,Ym P w K q)
  (Yp: ∀p∈mt,jU P w K mg base k p) (Yq: ∀p∈kt,ug P w K mg base k p) (het: ∀p∈et,uh mg base p) (Yr: ∀p∈ht,qR P w K mg base k p.1 p.2)
  (len: ∀vs H Q E,sp vs H Q E→vs.length=ps.length)
  (Bc: ∀vs H Q E,sp vs H Q E→ar (aQ K tab gt dk mt kt et ht E) body {nx:=fun _ H'=>Q .aq H',rt:=Q} (start N vs) H):cA P w K mg base (eG P w) (k+1) f fd ps sp:=by
 obtain⟨oc,od,kV,doc,pm,an,cY,ct,ja,rfl,lk,hG⟩:=F.ex
 refine Ta lk hG S len fun A outer s H vs Q E hr gf=> ⟨_,hm (CX:=eG P w) (Γ:=aQ K tab gt dk mt kt et ht E) ?_,Bc vs H Q E gf⟩
 refine {N:=rfl,sc:=rfl,K:=rfl,calm:=fun _=>rfl,units:=hr.units,fns:=fun _ j y hj=> ?_,cC:=fun j y hj=> ?_,fS:=fun y hy=> ?_,pass:=WD,jO:=fun _ _ _ _ _ h=>w6 h,kS:=fun p ao h=>Yo _ h,kT:=fun _ j y hj=> ?_,mS:=fun _ j y hj=> ?_,qK:=fun j y hj=> ?_,kU:=fun j y hj=> ?_,mT:=fun _ h=> (nomatch h),om:=fun h=> (nomatch h),nd:=S.nd,jQ:=fun _=>rfl,own:=PassesOwn.leaving,mU:=S.kind,rs:=fun _ _ _=>WE,iA:=rfl,fQ:=rfl,oo:=rfl,oq:=rfl}
 ·have bV:(tab.map (·.1))[j]?=some y:=hj
  rw[List.getElem?_map] at bV
  cases q:tab[j]? with
  | none=>rw[q] at bV;cases bV
  | some p=>
   rw[q] at bV
   have e:p.1=y:=Option.some.inj bV
   obtain⟨f',oA,oB,F',m',k',b'⟩:=Yn p (List.mem_of_getElem? q)
   have es:mY tab j=p.2:=by unfold mY;rw[q]
   show Lo (eG P w) _ y (mY tab j)
   rw[es,←e]
   exact⟨k,f',oA,oB,F',hr,m',k',b'⟩
 ·have bV:(gt.map (·.1))[j]?=some y:=hj
  rw[List.getElem?_map] at bV
  cases q:gt[j]? with
  | none=>rw[q] at bV;cases bV
  | some p=>
   rw[q] at bV
   have e:p.1=y:=Option.some.inj bV
   obtain⟨u,h1,h2⟩:=(Ba p (List.mem_of_getElem? q)).ex
   have es:oz gt j=p.2:=by unfold oz;rw[q]
   show ∃u,mg y=some u∧RelV (oz gt j) u
   rw[es,←e]
   exact⟨u,h1,h2⟩
 ·exact Bb y (by simpa using hy)
 ·have bV:(mt.map (·.1))[j]?=some y:=hj
  rw[List.getElem?_map] at bV
  cases q:mt[j]? with
  | none=>rw[q] at bV;cases bV
  | some p=>
   rw[q] at bV
   have e:p.1=y:=Option.some.inj bV
   obtain⟨c,f',oA,oB,m',F',b'⟩:=Yp p (List.mem_of_getElem? q)
   have es:jT mt j=p.2:=by unfold jT;rw[q]
   show xg (eG P w) _ (jT mt j).1 y (jT mt j).2
   rw[es,←e]
   exact⟨c,k,f',oA,oB,m',F',hr,b'⟩
 ·have bV:(kt.map (·.1))[j]?=some y:=hj
  rw[List.getElem?_map] at bV
  cases q:kt[j]? with
  | none=>rw[q] at bV;cases bV
  | some p=>
   rw[q] at bV
   have e:p.1=y:=Option.some.inj bV
   obtain⟨i,f',oA,oB,hi,m',F',g',b'⟩:=Yq p (List.mem_of_getElem? q)
   have es:jT kt j=p.2:=by unfold jT;rw[q]
   show Lp (eG P w) _ y (jT kt j).1 (jT kt j).2
   rw[es,←e]
   exact⟨i,f',oA,oB,m',F',hr.mono hi,g',b'⟩
 ·have bV:(et.map (·.1))[j]?=some y:=hj
  rw[List.getElem?_map] at bV
  cases q:et[j]? with
  | none=>rw[q] at bV;cases bV
  | some p=>
   rw[q] at bV
   have e:p.1=y:=Option.some.inj bV
   have es:xp et j=p.2:=by unfold xp;rw[q]
   show Lr _ y (xp et j)
   rw[es,←e]
   exact het p (List.mem_of_getElem? q)
 ·have bV:(ht.map (·.1))[j]?=some y:=hj
  rw[List.getElem?_map] at bV
  cases q:ht[j]? with
  | none=>rw[q] at bV;cases bV
  | some p=>
   rw[q] at bV
   have e:p.1=y:=Option.some.inj bV
   obtain⟨f',oA,oB,F',m',k',b'⟩:=Yr p (List.mem_of_getElem? q)
   have es:mY ht j=p.2:=by unfold mY;rw[q]
   show Lq _ y (mY ht j)
   rw[es,←e]
   exact⟨k,f',oA,oB,F',hr.h,m',k',b'⟩
section
variable {x qual:Str} {st:Stmt} {f C:Addr} {fd:FuncData} {N ps:List Str} {k:Nat} {sp:Sp}
end
end
section
variable {P:Program} {w:World} {K:PySem.W.Frag} {mg:Str→Option Value} {base:Heap} {x qual:Str} {st:Stmt} {f:Addr} {fd:FuncData} {N ps:List Str} {k:Nat} {sp:Sp}
theorem Ys(F:sT K x qual st f fd)(S:bR N ps (az st))(ky:mg x=some (.ref f))(hb:Binds K fd ps [])
  (gt:List (Str×V)) (bl:List Str) (body:List RS)
  (hm: ∀{CX:aL} {Γ:aG} {X:Cx},aO CX (bg N (az st) [] (gt.map (·.1)) bl (md:=1)) Γ X→bo X (aB st) (ar Γ body))
  (Ba: ∀p∈gt,fm mg p) (Bb: ∀y∈bl,mg y=none) (len: ∀vs H Q E,sp vs H Q E→vs.length=ps.length)
  (Bc: ∀vs H Q,sp vs H Q E0→ar (aQ K [] gt) body {nx:=fun _ H'=>Q .aq H',rt:=Q} (start N vs) H):qR P w K mg base (k+1) x sp:=by
 obtain⟨oc,od,kV,doc,pm,an,cY,ct,ja,rfl,lk,hG⟩:=F.ex
 refine⟨f,_,ps,Xa (CX:=eG P w) lk hG S len fun A outer s H vs Q hr hh gf=> ⟨_,hm (CX:=eG P w) (Γ:=aQ K [] gt) ?_,Bc vs H Q gf⟩,ky,F.kp,hb⟩
 refine {N:=rfl,sc:=rfl,K:=rfl,calm:=fun h=> (nomatch h),units:=hr.units,fns:=fun h=> (nomatch h),cC:=fun j y hj=> ?_,fS:=fun y hy=> ?_,pass:=fun _ _ _ _ _ _ _ h=> (w6 h).elim,jO:=fun _ _ _ _ _ h=>w6 h,kS:=fun p ao h=> (nomatch h),kT:=fun h=> (nomatch h),mS:=fun h=> (nomatch h),qK:=fun j y hj=> (nomatch hj),kU:=fun j y hj=> (nomatch hj),mT:=fun _ h=> (nomatch h),om:=fun _=>Xd hh,nd:=S.nd,jQ:=fun _=>rfl,own:=PassesOwn.never,mU:=S.kind,rs:=fun _ _ hj=> (nomatch hj),iA:=rfl,fQ:=rfl,oo:=rfl,oq:=rfl}
 ·have bV:(gt.map (·.1))[j]?=some y:=hj
  rw[List.getElem?_map] at bV
  cases q:gt[j]? with
  | none=>rw[q] at bV;cases bV
  | some p=>
   rw[q] at bV
   have e:p.1=y:=Option.some.inj bV
   obtain⟨u,h1,h2⟩:=(Ba p (List.mem_of_getElem? q)).ex
   have es:oz gt j=p.2:=by unfold oz;rw[q]
   show ∃u,mg y=some u∧RelV (oz gt j) u
   rw[es,←e]
   exact⟨u,h1,h2⟩
 ·exact Bb y (by simpa using hy)
theorem cA.top{k:Nat}(F:cA P w K mg base (eG P w) k f fd ps sp):cA P w K mg base wy k f fd ps (fun vs H Q _=>sp vs H Q E0):=
 ⟨fun vs H Q E h=>F.len vs H Q E0 h,fun A outer s H args us vs Q E hr e0 hb hv hs=>codeAny_mono (F.run A outer s H args us vs Q E0 hr e0 hb hv hs) fun r s' h=>by
  cases r with
  | error e=>exact(w6 h).elim
  | ok fl=>cases fl<;>exact h⟩
end
section
variable {Γ:aG} {D:Ends} {σ:St} {H:Hp} {r:List RS} {Q:VK}
theorem Bd{i:Nat}{e:RE}(h:ag Γ e σ H fun x H1=>ar Γ r D (σ.set i (some x)) H1):ar Γ (.asg i e::r) D σ H:=h
theorem LP{i:Nat}{e:RE}(h:ag Γ e σ H fun x H1=>ar Γ r D (σ.set i (some x)) H1):ar Γ (.qz i e::r) D σ H:=h
theorem Yt{c:RE}{t e:List RS}(h:bD Γ c σ H fun b H1=>if b=true then ar Γ t {D with nx:=ar Γ r D} σ H1 else ar Γ e {D with nx:=ar Γ r D} σ H1):ar Γ (.ite c t e::r) D σ H:=h
theorem LQ{b:kE}{as:List RE}(h:bK Γ as σ H fun vs H1=>mO Γ.K b vs H1 Q):ag Γ (.blt b as) σ H Q:=h
theorem LR{a:RE}{Q:List V→Hp→Prop}(h:ag Γ a σ H fun x H1=>Q [x] H1):bK Γ [a] σ H Q:=h
end
end L2
namespace L2.B
open PySem PySem.Spec PyProof.Rows
def Be:List Str:=["thing"]
def LS:List Str:=["thing"]
noncomputable def Bf:List RS:=
 [.ret (.and [(.d3 .int (.v 0)),(.not (.d3 .bool (.v 0)))])]
def Yu:List Str:=[]
def Yv:List Str:=[]
def LU:List Str:=["isinstance","int","bool"]
def Yw:List Str:=[]
def Yx:List Str:=[]
def Yy:List Str:=[]
def Yz:List Str:=[]
def xq:List Str:=["thing","words"]
def LV:List Str:=["thing","words"]
noncomputable def xr:List RS:=
 [.ret (.and [(.d3 .str (.v 0)),(.cmp .In (.v 0) (.v 1))])]
def YA:List Str:=[]
def YB:List Str:=[]
def LW:List Str:=["isinstance","str"]
def YC:List Str:=[]
def YD:List Str:=[]
def YE:List Str:=[]
def YF:List Str:=[]
def xt:List Str:=["thing"]
def LX:List Str:=["thing"]
noncomputable def xu:List RS:=
 [.ret (.and [(.d3 .str (.v 0)),(.cmp .Eq (.bJ .lstrip (.v 0) [(.g 0)]) (.c (.str "")))])]
def YG:List Str:=[]
def YH:List Str:=["SIGNS"]
def LY:List Str:=["isinstance","str"]
def YI:List Str:=[]
def YJ:List Str:=[]
def YK:List Str:=[]
def YL:List Str:=[]
def Bg:List Str:=["thing"]
def LZ:List Str:=["thing"]
noncomputable def Bh:List RS:=
 [.ite (.not (.call 0 [(.v 0)])) [.jL 0 [(.c (.str "a text is a str of signs from the blank to the tilde, and line feeds"))]] []]
def YM:List Str:=["is_text"]
def YN:List Str:=[]
def L6:List Str:=[]
def YO:List Str:=[]
def YQ:List Str:=[]
def YR:List Str:=["BadText"]
def YS:List Str:=[]
def ui:List Str:=["thing"]
def L7:List Str:=["thing"]
noncomputable def uj:List RS:=
 [.ite (.or [(.not (.d3 .tuple (.v 0))),(.cmp .NotEq (.blt .len [(.v 0)]) (.c (.int 2)))]) [.ret (.c (.bl false))] [],
 .ite (.call 0 [(.ix (.v 0) (.c (.int 0))),(.tup [(.c (.str "keep"))])]) [.ret (.and [(.call 1 [(.ix (.v 0) (.c (.int 1)))]),(.cmp .GtE (.ix (.v 0) (.c (.int 1))) (.c (.int 1)))])] [],
 .ret (.and [(.call 0 [(.ix (.v 0) (.c (.int 0))),(.tup [(.c (.str "cut")),(.c (.str "put"))])]),(.call 2 [(.ix (.v 0) (.c (.int 1)))]),(.cmp .NotEq (.ix (.v 0) (.c (.int 1))) (.c (.str "")))])]
def YT:List Str:=["is_word","is_whole","is_text"]
def YU:List Str:=[]
def L8:List Str:=["isinstance","tuple","len"]
def YV:List Str:=[]
def YW:List Str:=[]
def YX:List Str:=[]
def YY:List Str:=[]
def Bi:List Str:=["word","ahead"]
def L9:List Str:=["word","ahead"]
noncomputable def Bj:List RS:=
 [.ret (.and [(.cmp .NotEq (.v 0) (.v 1)),(.not (.and [(.cmp .Eq (.v 1) (.c (.str "cut"))),(.cmp .Eq (.v 0) (.c (.str "put")))]))])]
def YZ:List Str:=[]
def Y0:List Str:=[]
def L_:List Str:=[]
def Y1:List Str:=[]
def Y2:List Str:=[]
def Y3:List Str:=[]
def Y4:List Str:=[]
def xv:List Str:=["change","ahead","part"]
def Ma:List Str:=["change"]
noncomputable def uk:List RS:=
 [.ite (.not (.d3 .list (.v 0))) [.jL 0 [(.c (.str "a change is a list"))]] [],
 .asg 1 (.c (.str "")),
 .nZ 2 .list [(.v 0)] [.ite (.not (.call 0 [(.v 2)])) [.jL 0 [(.c (.str "a part is a keep of 1 sign or more, or a cut or put of a text that is not empty"))]] [],
  .ite (.not (.call 1 [(.ix (.v 2) (.c (.int 0))),(.v 1)])) [.jL 0 [(.c (.str "neighbours have two words, and no put stands right behind a cut"))]] [],
  .asg 1 (.ix (.v 2) (.c (.int 0)))]]
def Y5:List Str:=["is_part","may_follow"]
def Y6:List Str:=[]
def Bk:List Str:=["isinstance","list"]
def Y7:List Str:=[]
def Y8:List Str:=[]
def Y9:List Str:=["BadChange"]
def Y_:List Str:=[]
def Bl:List Str:=["part"]
def Mb:List Str:=["part"]
noncomputable def Bm:List RS:=
 [.ret (.tD (.cmp .Eq (.ix (.v 0) (.c (.int 0))) (.c (.str "keep"))) (.ix (.v 0) (.c (.int 1))) (.blt .len [(.ix (.v 0) (.c (.int 1)))]))]
def Za:List Str:=[]
def Zb:List Str:=[]
def Mc:List Str:=["len"]
def Zc:List Str:=[]
def Zd:List Str:=[]
def Ze:List Str:=[]
def Zf:List Str:=[]
def xx:List Str:=["change","over","gives"]
def Md:List Str:=["change"]
noncomputable def um:List RS:=
 [.drop (.call 0 [(.v 0)]),
 .asg 1 (.blt .sum [(.comp none [] .list [(.v 0)] (some (.cmp .NotEq (.ix (.v 0) (.c (.int 0))) (.c (.str "put")))) (.call 1 [(.v 0)]))]),
 .asg 2 (.blt .sum [(.comp none [] .list [(.v 0)] (some (.cmp .NotEq (.ix (.v 0) (.c (.int 0))) (.c (.str "cut")))) (.call 1 [(.v 0)]))]),
 .ret (.tup [(.v 1),(.v 2)])]
def Zg:List Str:=["need_change","part_size"]
def Zh:List Str:=[]
def Bn:List Str:=["sum"]
def Zi:List Str:=[]
def Zj:List Str:=[]
def Zk:List Str:=[]
def Zl:List Str:=[]
def Bo:List Str:=["change","size"]
def Me:List Str:=["change","size"]
noncomputable def Bp:List RS:=
 [.ite (.and [(.cmp .Gt (.blt .len [(.v 0)]) (.c (.int 0))),(.cmp .Eq (.ix (.ix (.v 0) (.neg (.c (.int 1)))) (.c (.int 0))) (.c (.str "keep")))]) [.asg 1 (.bin .Add (.v 1) (.ix (.bJ .pop (.v 0) []) (.c (.int 1))))] [],
 .drop (.bJ .append (.v 0) [(.tup [(.c (.str "keep")),(.v 1)])])]
def Zm:List Str:=[]
def Zn:List Str:=[]
def Mf:List Str:=["len"]
def Zo:List Str:=[]
def Zp:List Str:=[]
def Zq:List Str:=[]
def Zr:List Str:=[]
def Bq:List Str:=["change","puts","cuts","put","cut"]
def Mg:List Str:=["change","puts","cuts"]
noncomputable def Br:List RS:=
 [.asg 3 (.bJ .join (.c (.str "")) [(.v 1)]),
 .asg 4 (.bJ .join (.c (.str "")) [(.v 2)]),
 .ite (.cmp .NotEq (.v 3) (.c (.str ""))) [.drop (.bJ .append (.v 0) [(.tup [(.c (.str "put")),(.v 3)])])] [],
 .ite (.cmp .NotEq (.v 4) (.c (.str ""))) [.drop (.bJ .append (.v 0) [(.tup [(.c (.str "cut")),(.v 4)])])] []]
def Zs:List Str:=[]
def Zt:List Str:=[]
def Mh:List Str:=[]
def Zu:List Str:=[]
def Zv:List Str:=[]
def Zw:List Str:=[]
def Zx:List Str:=[]
def Bs:List Str:=["parts","change","puts","cuts","word","what"]
def Mi:List Str:=["parts"]
noncomputable def Bt:List RS:=
 [.asg 1 (.lst []),
 .asg 2 (.lst []),
 .asg 3 (.lst []),
 .jK [4,5] .list [(.v 0)] [.ite (.cmp .Eq (.v 4) (.c (.str "put"))) [.drop (.bJ .append (.v 2) [(.v 5)])] [.ite (.cmp .Eq (.v 4) (.c (.str "cut"))) [.drop (.bJ .append (.v 3) [(.v 5)])] [.ite (.cmp .Gt (.v 5) (.c (.int 0))) [.drop (.call 0 [(.v 1),(.v 2),(.v 3)]),
     .asg 2 (.lst []),
     .asg 3 (.lst []),
     .drop (.call 1 [(.v 1),(.v 5)])] []]]],
 .drop (.call 0 [(.v 1),(.v 2),(.v 3)]),
 .ret (.v 1)]
def Zy:List Str:=["add_texts","add_keep"]
def Zz:List Str:=[]
def Mj:List Str:=[]
def ZA:List Str:=[]
def ZC:List Str:=[]
def ZD:List Str:=[]
def ZE:List Str:=[]
def xy:List Str:=["text","change","place","pieces","word","what"]
def Ml:List Str:=["text","change"]
noncomputable def uo:List RS:=
 [.drop (.call 0 [(.v 0)]),
 .ite (.cmp .NotEq (.ix (.call 1 [(.v 1)]) (.c (.int 0))) (.blt .len [(.v 0)])) [.jL 0 [(.c (.str "the change is over a text of another number of signs"))]] [],
 .asg 2 (.c (.int 0)),
 .asg 3 (.lst []),
 .jK [4,5] .list [(.v 1)] [.ite (.cmp .Eq (.v 4) (.c (.str "put"))) [.drop (.bJ .append (.v 3) [(.v 5)])] [.ite (.cmp .Eq (.v 4) (.c (.str "keep"))) [.drop (.bJ .append (.v 3) [(.sl (.v 0) (some (.v 2)) (some (.bin .Add (.v 2) (.v 5))))]),
    .asg 2 (.bin .Add (.v 2) (.v 5))] [.ite (.not (.bJ .starts (.v 0) [(.v 5),(.v 2)])) [.jL 0 [(.c (.str "what is cut is not what stands there"))]] [.asg 2 (.bin .Add (.v 2) (.blt .len [(.v 5)]))]]]],
 .ret (.bJ .join (.c (.str "")) [(.v 3)])]
def ZF:List Str:=["need_text","sizes"]
def ZG:List Str:=[]
def Bu:List Str:=["len"]
def ZH:List Str:=[]
def ZI:List Str:=[]
def ZJ:List Str:=["BadFit"]
def ZK:List Str:=[]
def Bv:List Str:=["_law_script","_law_k"]
def Mm:List Str:=["_law_script","_law_k"]
noncomputable def Bw:List RS:=
 [.ite (.cmp .Lt (.v 1) (.blt .len [(.v 0)])) [.ret (.ix (.v 0) (.v 1))] [],
 .ret (.c (.int 0))]
def ZL:List Str:=[]
def ZM:List Str:=[]
def Mn:List Str:=["len"]
def ZN:List Str:=[]
def ZO:List Str:=[]
def ZP:List Str:=[]
def ZQ:List Str:=[]
def Bx:List Str:=["_law_cell","_law_k","_law_number"]
def Mo:List Str:=["_law_cell","_law_k"]
noncomputable def By:List RS:=
 [.asg 2 (.bin .Mod (.bin .Add (.bin .Add (.bin .Mult (.v 0) (.c (.int 48271))) (.bin .Mult (.c (.int 7919)) (.v 1))) (.c (.int 11))) (.c (.int 1000003))),
 .ret (.bin .Mod (.bin .Mult (.bin .Mod (.bin .Mult (.v 2) (.v 2)) (.c (.int 1000003))) (.v 2)) (.c (.int 1000003)))]
def ZR:List Str:=[]
def ZS:List Str:=[]
def Mp:List Str:=[]
def ZT:List Str:=[]
def ZU:List Str:=[]
def ZV:List Str:=[]
def ZW:List Str:=[]
def Bz:List Str:=["_law_cell","_law_size_here","_law_some"]
def Mq:List Str:=["_law_cell","_law_size_here"]
noncomputable def BA:List RS:=
 [.asg 2 (.c (.str " !\"#$&'()*+,-./0123456789:;<=>?@ABCDEFGHIJKLMNOPQRSTUVWXYZ[\\]^_`")),
 .asg 2 (.bin .Add (.v 2) (.c (.str "abcdefghijklmnopqrstuvwxyz{|}~\n"))),
 .ite (.cmp .Eq (.bin .Mod (.v 0) (.c (.int 3))) (.c (.int 0))) [.asg 2 (.c (.str "ab\n"))] [],
 .ret (.bJ .join (.c (.str "")) [(.comp none [("_law_some",2),("_law_cell",0)] .fI [(.v 1)] none (.ix (.v 1) (.bin .Mod (.bin .FloorDiv (.call 0 [(.v 2),(.v 0)]) (.c (.int 7))) (.blt .len [(.v 1)]))))])]
def ZX:List Str:=["_law_mixed"]
def ZY:List Str:=[]
def Mr:List Str:=["range","len"]
def ZZ:List Str:=[]
def Z0:List Str:=[]
def Z1:List Str:=[]
def Z2:List Str:=[]
def BB:List Str:=["_law_cell"]
def Ms:List Str:=["_law_cell"]
noncomputable def BC:List RS:=
 [.ite (.cmp .Eq (.bin .Mod (.v 0) (.c (.int 8))) (.c (.int 1))) [.ret (.bin .Mod (.bin .FloorDiv (.v 0) (.c (.int 8))) (.c (.int 401)))] [],
 .ret (.bin .Mod (.bin .FloorDiv (.v 0) (.c (.int 8))) (.c (.int 25)))]
def Z3:List Str:=[]
def Z4:List Str:=[]
def Mt:List Str:=[]
def Z5:List Str:=[]
def Z6:List Str:=[]
def Z7:List Str:=[]
def Z8:List Str:=[]
def BD:List Str:=["_law_cell","_law_text_here","_law_many","_law_parts_here","_law_at","_law_k","_law_number","_law_size_here","_law_left"]
def Mu:List Str:=["_law_cell","_law_text_here","_law_many"]
noncomputable def BE:List RS:=
 [.asg 3 (.lst []),
 .asg 4 (.c (.int 0)),
 .nZ 5 .fI [(.v 2)] [.asg 6 (.call 0 [(.v 0),(.bin .Add (.c (.int 50)) (.v 5))]),
  .asg 7 (.ix (.lst [(.c (.int 1)),(.c (.int 2)),(.c (.int 0)),(.c (.int 3)),(.c (.int 5)),(.c (.int 40))]) (.bin .Mod (.bin .FloorDiv (.v 6) (.c (.int 4))) (.c (.int 6)))),
  .asg 8 (.blt .min [(.v 7),(.bin .Sub (.blt .len [(.v 1)]) (.v 4))]),
  .ite (.cmp .Eq (.bin .Mod (.v 6) (.c (.int 4))) (.c (.int 3))) [.drop (.bJ .append (.v 3) [(.tup [(.c (.str "put")),(.call 1 [(.v 6),(.v 7)])])])] [.ite (.cmp .Eq (.bin .Mod (.v 6) (.c (.int 4))) (.c (.int 2))) [.drop (.bJ .append (.v 3) [(.tup [(.c (.str "cut")),(.sl (.v 1) (some (.v 4)) (some (.bin .Add (.v 4) (.v 8))))])])] [.drop (.bJ .append (.v 3) [(.tup [(.c (.str "keep")),(.v 8)])])]],
  .ite (.cmp .Lt (.bin .Mod (.v 6) (.c (.int 4))) (.c (.int 3))) [.asg 4 (.bin .Add (.v 4) (.v 8))] []],
 .ret (.bin .Add (.v 3) (.lst [(.tup [(.c (.str "keep")),(.bin .Sub (.blt .len [(.v 1)]) (.v 4))])]))]
def Z9:List Str:=["_law_mixed","_law_text"]
def Z_:List Str:=[]
def Mv:List Str:=["range","min","len"]
def aaa:List Str:=[]
def aab:List Str:=[]
def aac:List Str:=[]
def aad:List Str:=[]
def xB:List Str:=["_law_parts_here","_law_rows","_law_word","_law_thing","_law_found","_law_put","_law_cut","_law_keep","_law_some"]
def Mw:List Str:=["_law_parts_here"]
noncomputable def BF:List RS:=
 [.asg 1 (.lst [(.lst [(.c (.str "")),(.c (.str "")),(.c (.int 0))])]),
 .jK [2,3] .list [(.v 0)] [.ite (.cmp .Eq (.v 2) (.c (.str "keep"))) [.set (.ix (.v 1) (.neg (.c (.int 1)))) (.c (.int 2)) (.bin .Add (.ix (.ix (.v 1) (.neg (.c (.int 1)))) (.c (.int 2))) (.v 3))] [.ite (.cmp .NotEq (.v 3) (.c (.str ""))) [.ite (.cmp .Gt (.ix (.ix (.v 1) (.neg (.c (.int 1)))) (.c (.int 2))) (.c (.int 0))) [.drop (.bJ .append (.v 1) [(.lst [(.c (.str "")),(.c (.str "")),(.c (.int 0))])])] [],
    .set (.ix (.v 1) (.neg (.c (.int 1)))) (.blt .int [(.cmp .Eq (.v 2) (.c (.str "cut")))]) (.bin .Add (.ix (.ix (.v 1) (.neg (.c (.int 1)))) (.blt .int [(.cmp .Eq (.v 2) (.c (.str "cut")))])) (.v 3))] []]],
 .asg 4 (.lst []),
 .jK [5,6,7] .list [(.v 1)] [.asg 8 (.lst [(.tup [(.c (.str "put")),(.v 5)]),(.tup [(.c (.str "cut")),(.v 6)]),(.tup [(.c (.str "keep")),(.v 7)])]),
  .asg 4 (.bin .Add (.v 4) (.comp none [] .list [(.v 8)] (some (.and [(.cmp .NotEq (.ix (.v 0) (.c (.int 1))) (.c (.str ""))),(.cmp .NotEq (.ix (.v 0) (.c (.int 1))) (.c (.int 0)))])) (.v 0)))],
 .ret (.v 4)]
def aae:List Str:=[]
def aaf:List Str:=[]
def Mx:List Str:=["int"]
def aag:List Str:=[]
def aah:List Str:=[]
def aai:List Str:=[]
def aaj:List Str:=[]
def BG:List Str:=["_law_cell","_law_text_here","_law_many"]
def My:List Str:=["_law_cell","_law_text_here","_law_many"]
noncomputable def BH:List RS:=
 [.ret (.call 0 [(.call 1 [(.v 0),(.v 1),(.v 2)])])]
def aak:List Str:=["_law_neat","_law_parts"]
def aal:List Str:=[]
def Mz:List Str:=[]
def aam:List Str:=[]
def aan:List Str:=[]
def aao:List Str:=[]
def aap:List Str:=[]
def xD:List Str:=["_law_found","_law_due","_law_part","_law_other"]
noncomputable def BI:List RS:=
 [.ite (.or [(.not (.d3 .list (.v 0))),(.cmp .NotEq (.blt .len [(.v 0)]) (.blt .len [(.v 1)]))]) [.ret (.c (.bl false))] [],
 .jK [2,3] .zip [(.v 0),(.v 1)] [.ite (.or [(.not (.d3 .tuple (.v 2))),(.cmp .NotEq (.blt .len [(.v 2)]) (.c (.int 2))),(.not (.d3 .str (.ix (.v 2) (.c (.int 0))))),(.cmp .NotEq (.ix (.v 2) (.c (.int 0))) (.ix (.v 3) (.c (.int 0))))]) [.ret (.c (.bl false))] [],
  .ite (.or [(.cmp .NotEq (.d3 .str (.ix (.v 3) (.c (.int 1)))) (.d3 .str (.ix (.v 2) (.c (.int 1))))),(.cmp .NotEq (.ix (.v 2) (.c (.int 1))) (.ix (.v 3) (.c (.int 1))))]) [.ret (.c (.bl false))] [],
  .ite (.and [(.not (.d3 .str (.ix (.v 3) (.c (.int 1))))),(.not (.call 0 [(.ix (.v 2) (.c (.int 1)))]))]) [.ret (.c (.bl false))] []],
 .ret (.c (.bl true))]
def aaq:List Str:=["_law_whole"]
def aar:List Str:=[]
def MA:List Str:=["isinstance","list","len","zip","tuple","str"]
def aas:List Str:=[]
def aat:List Str:=[]
def aau:List Str:=[]
def aav:List Str:=[]
def BJ:List Str:=["_law_text_here","_law_change_here","_law_found_here","_law_at","_law_word_here","_law_thing"]
def MB:List Str:=["_law_text_here","_law_change_here"]
noncomputable def BK:List RS:=
 [.asg 2 (.c (.str "")),
 .asg 3 (.c (.int 0)),
 .jK [4,5] .list [(.v 1)] [.ite (.cmp .Eq (.v 4) (.c (.str "put"))) [.asg 2 (.bin .Add (.v 2) (.v 5))] [.ite (.cmp .Eq (.v 4) (.c (.str "cut"))) [.asg 3 (.bin .Add (.v 3) (.blt .len [(.v 5)]))] [.asg 2 (.bin .Add (.v 2) (.sl (.v 0) (some (.v 3)) (some (.bin .Add (.v 3) (.v 5))))),
    .asg 3 (.bin .Add (.v 3) (.v 5))]]],
 .ret (.v 2)]
def aaw:List Str:=[]
def aax:List Str:=[]
def MC:List Str:=["len"]
def aay:List Str:=[]
def aaz:List Str:=[]
def aaA:List Str:=[]
def aaB:List Str:=[]
def ji:List Str:=["_law_e","_law_some","_law_found_here"]
def MD:List Str:=["_law_e"]
noncomputable def dU:List RS:=
 [.asg 1 (.lst [(.tup [(.c (.str "text")),(.di (.v 0) (.g 0))]),(.tup [(.c (.str "change")),(.di (.v 0) (.g 1))]),(.tup [(.c (.str "fit")),(.di (.v 0) (.g 2))])]),
 .asg 1 (.bin .Add (.v 1) (.lst [(.tup [(.c (.str "place")),(.di (.v 0) (.g 3))]),(.tup [(.c (.str "side")),(.di (.v 0) (.g 4))]),(.tup [(.c (.str "mark")),(.di (.v 0) (.g 5))])])),
 .asg 1 (.bin .Add (.v 1) (.lst [(.tup [(.c (.str "node")),(.di (.v 0) (.g 6))]),(.tup [(.c (.str "cursor")),(.di (.v 0) (.g 7))])])),
 .asg 1 (.bin .Add (.v 1) (.lst [(.tup [(.c (.str "deed")),(.di (.v 0) (.g 8))]),(.tup [(.c (.str "letter")),(.di (.v 0) (.g 9))])])),
 .asg 1 (.bin .Add (.v 1) (.lst [(.tup [(.c (.str "gone")),(.di (.v 0) (.g 10))]),(.tup [(.c (.str "hand")),(.di (.v 0) (.g 11))]),(.tup [(.c (.str "note")),(.di (.v 0) (.g 12))])])),
 .qz 2 (.comp (some 2) [] .list [(.v 1)] (some (.v 1)) (.v 0)),
 .ite (.or [(.not (.di (.v 0) (.g 13))),(.not (.di (.v 0) (.c (.ty "ValueError"))))]) [.drop (.bJ .append (.v 2) [(.c (.str "bare"))])] [],
 .ret (.bJ .join (.c (.str "/")) [(.v 2)])]
def kZ:List Str:=[]
def k_:List Str:=["BadText","BadChange","BadFit","NoPlace","BadSide","NoMark","NoNode","NoCursor","BadDeed","BadLetter","NoLetter","NoHand","NoNote","InkError"]
def jV:List Str:=["isinstance","ValueError"]
def lg:List Str:=[]
def lh:List Str:=[]
def lj:List Str:=[]
def lp:List Str:=[]
def BL:List Str:=["_law_found_here"]
def ME:List Str:=["_law_found_here"]
noncomputable def BM:List RS:=
 [.ret (.and [(.d3 .int (.v 0)),(.not (.d3 .bool (.v 0)))])]
def aaC:List Str:=[]
def aaD:List Str:=[]
def MF:List Str:=["isinstance","int","bool"]
def aaE:List Str:=[]
def aaF:List Str:=[]
def aaG:List Str:=[]
def aaH:List Str:=[]
def BN:List Str:=["self","change"]
def MG:List Str:=["self","change"]
noncomputable def BO:List RS:=
 [.mM (.v 0) "parts" (.blt .list [(.v 1)]),
 .mM (.v 0) "passed_by" (.c (.int 0)),
 .mM (.v 0) "offset" (.c (.int 0))]
def aaI:List Str:=[]
def aaJ:List Str:=[]
def MH:List Str:=["list"]
def aaK:List Str:=[]
def aaL:List Str:=[]
def aaM:List Str:=[]
def aaN:List Str:=[]
def BP:List Str:=["self"]
def MI:List Str:=["self"]
noncomputable def BQ:List RS:=
 [.ret (.tD (.cmp .Lt (.fld (.v 0) "passed_by") (.blt .len [(.fld (.v 0) "parts")])) (.ix (.ix (.fld (.v 0) "parts") (.fld (.v 0) "passed_by")) (.c (.int 0))) (.c (.str "")))]
def aaO:List Str:=[]
def aaP:List Str:=[]
def MJ:List Str:=["len"]
def aaQ:List Str:=[]
def aaR:List Str:=[]
def aaS:List Str:=[]
def aaT:List Str:=[]
def BR:List Str:=["self"]
def MK:List Str:=["self"]
noncomputable def BS:List RS:=
 [.ret (.bin .Sub (.call 0 [(.ix (.fld (.v 0) "parts") (.fld (.v 0) "passed_by"))]) (.fld (.v 0) "offset"))]
def aaU:List Str:=["part_size"]
def aaV:List Str:=[]
def ML:List Str:=[]
def aaW:List Str:=[]
def aaX:List Str:=[]
def aaY:List Str:=[]
def aaZ:List Str:=[]
def BU:List Str:=["self","size","part","begin","end"]
def MM:List Str:=["self","size"]
noncomputable def xE:List RS:=
 [.asg 2 (.ix (.fld (.v 0) "parts") (.fld (.v 0) "passed_by")),
 .asg 3 (.fld (.v 0) "offset"),
 .asg 4 (.bin .Add (.v 3) (.v 1)),
 .mM (.v 0) "offset" (.v 4),
 .ite (.cmp .Eq (.eV 0 "left" (.v 0) []) (.c (.int 0))) [.mM (.v 0) "passed_by" (.bin .Add (.fld (.v 0) "passed_by") (.c (.int 1))),
  .mM (.v 0) "offset" (.c (.int 0))] [],
 .ret (.tup [(.ix (.v 2) (.c (.int 0))),(.tD (.cmp .Eq (.ix (.v 2) (.c (.int 0))) (.c (.str "keep"))) (.v 1) (.sl (.ix (.v 2) (.c (.int 1))) (some (.v 3)) (some (.v 4))))])]
def aa0:List Str:=[]
def aa1:List Str:=[]
def MN:List Str:=[]
def aa2:List Str:=["left"]
def aa3:List Str:=[]
def aa4:List Str:=[]
def aa5:List Str:=[]
def xG:List Str:=["given","text"]
def MO:List Str:=["given","text"]
noncomputable def uq:List RS:=
 [.ite (.cmp .Eq (.ix (.v 0) (.c (.int 0))) (.c (.str "keep"))) [.ret (.lst [(.tup [(.c (.str "cut")),(.v 1)])])] [],
 .ite (.cmp .NotEq (.ix (.v 0) (.c (.int 1))) (.v 1)) [.jL 0 [(.c (.str "what the first change puts is cut otherwise"))]] [],
 .ret (.lst [])]
def aa6:List Str:=[]
def aa7:List Str:=[]
def BV:List Str:=[]
def aa8:List Str:=[]
def aa9:List Str:=[]
def aa_:List Str:=["BadFit"]
def aba:List Str:=[]
def xH:List Str:=["walk","part","parts","place","size","given"]
def MP:List Str:=["walk","part"]
noncomputable def ur:List RS:=
 [.asg 2 (.lst []),
 .asg 3 (.c (.int 0)),
 .tG (.cmp .Lt (.v 3) (.call 0 [(.v 1)])) [.ite (.cmp .Eq (.eV 0 "word" (.v 0) []) (.c (.str "cut"))) [.drop (.bJ .append (.v 2) [(.eV 1 "take" (.v 0) [(.eV 2 "left" (.v 0) [])])]),
   .cont] [],
  .asg 4 (.blt .min [(.eV 2 "left" (.v 0) []),(.bin .Sub (.call 0 [(.v 1)]) (.v 3))]),
  .asg 5 (.eV 1 "take" (.v 0) [(.v 4)]),
  .ite (.cmp .Eq (.ix (.v 1) (.c (.int 0))) (.c (.str "keep"))) [.drop (.bJ .append (.v 2) [(.v 5)])] [.drop (.bJ .extend (.v 2) [(.call 1 [(.v 5),(.sl (.ix (.v 1) (.c (.int 1))) (some (.v 3)) (some (.bin .Add (.v 3) (.v 4))))])])],
  .asg 3 (.bin .Add (.v 3) (.v 4))],
 .ret (.v 2)]
def abb:List Str:=["part_size","cut_behind"]
def abc:List Str:=[]
def BW:List Str:=["min"]
def abd:List Str:=["word","take","left"]
def abe:List Str:=[]
def abf:List Str:=[]
def abg:List Str:=[]
def xI:List Str:=["one","other","walk","parts","part"]
def MQ:List Str:=["one","other"]
noncomputable def uu:List RS:=
 [.ite (.cmp .NotEq (.ix (.call 0 [(.v 0)]) (.c (.int 1))) (.ix (.call 0 [(.v 1)]) (.c (.int 0)))) [.jL 0 [(.c (.str "the other change is over another number of signs than the first one gives"))]] [],
 .asg 2 (.make 0 [(.v 0)]),
 .asg 3 (.lst []),
 .nZ 4 .list [(.v 1)] [.ite (.cmp .Eq (.ix (.v 4) (.c (.int 0))) (.c (.str "put"))) [.drop (.bJ .append (.v 3) [(.v 4)])] [.drop (.bJ .extend (.v 3) [(.call 1 [(.v 2),(.v 4)])])]],
 .tG (.cmp .NotEq (.eV 0 "word" (.v 2) []) (.c (.str ""))) [.drop (.bJ .append (.v 3) [(.eV 1 "take" (.v 2) [(.eV 2 "left" (.v 2) [])])])],
 .ret (.call 2 [(.v 3)])]
def abh:List Str:=["sizes","parts_behind","neat"]
def abi:List Str:=[]
def BX:List Str:=[]
def abj:List Str:=["word","take","left"]
def abk:List Str:=["Walk"]
def abl:List Str:=["BadFit"]
def abm:List Str:=[]
structure oC (K:PySem.W.Frag) (C:Addr):Prop where
 cl:i_ K C
 uv:kh K C "parts"
 oE:kh K C "passed_by"
 uw:kh K C "offset"
def BY:List Str:=["_law_text_here"]
def MR:List Str:=["_law_text_here"]
noncomputable def BZ:List RS:=
 [.ret (.comp none [("_law_text_here",0)] .fI [(.blt .len [(.v 0)])] none (.tup [(.tup [(.c (.str "old")),(.v 0)]),(.ix (.v 1) (.v 0))]))]
def abn:List Str:=[]
def abo:List Str:=[]
def MS:List Str:=["range","len"]
def abp:List Str:=[]
def abq:List Str:=[]
def abr:List Str:=[]
def abt:List Str:=[]
def B_:List Str:=["_law_rows","_law_change_here","_law_who","_law_found_here","_law_at","_law_many","_law_word_here","_law_thing"]
def MT:List Str:=["_law_rows","_law_change_here","_law_who"]
noncomputable def Ca:List RS:=
 [.asg 3 (.lst []),
 .asg 4 (.c (.int 0)),
 .asg 5 (.c (.int 0)),
 .jK [6,7] .list [(.v 1)] [.ite (.cmp .Eq (.v 6) (.c (.str "put"))) [.asg 3 (.bin .Add (.v 3) (.comp none [("_law_who",2),("_law_thing",7),("_law_many",5)] .fI [(.blt .len [(.v 7)])] none (.tup [(.tup [(.v 1),(.bin .Add (.v 3) (.v 0))]),(.ix (.v 2) (.v 0))]))),
   .asg 5 (.bin .Add (.v 5) (.blt .len [(.v 7)]))] [.ite (.cmp .Eq (.v 6) (.c (.str "cut"))) [.asg 4 (.bin .Add (.v 4) (.blt .len [(.v 7)]))] [.asg 3 (.bin .Add (.v 3) (.sl (.v 0) (some (.v 4)) (some (.bin .Add (.v 4) (.v 7))))),
    .asg 4 (.bin .Add (.v 4) (.v 7))]]],
 .ret (.v 3)]
def abu:List Str:=[]
def abv:List Str:=[]
def MU:List Str:=["range","len"]
def abw:List Str:=[]
def abx:List Str:=[]
def aby:List Str:=[]
def abz:List Str:=[]
def Cb:List Str:=["_law_old","_law_new","_law_places","_law_k","_law_parts_here","_law_at","_law_name","_law_sign"]
def MV:List Str:=["_law_old","_law_new"]
noncomputable def Cc:List RS:=
 [.asg 2 .Av,
 .nZ 3 .fI [(.blt .len [(.v 0)])] [.dput (.v 2) (.ix (.ix (.v 0) (.v 3)) (.c (.int 0))) (.v 3)],
 .asg 4 (.lst []),
 .asg 5 (.c (.int 0)),
 .jK [6,7] .list [(.v 1)] [.ite (.wR (.v 6) (.v 2)) [.drop (.bJ .append (.v 4) [(.tup [(.c (.str "cut")),(.bJ .join (.c (.str "")) [(.comp none [] .list [(.sl (.v 0) (some (.v 5)) (some (.tE (.v 2) (.v 6))))] none (.ix (.v 0) (.c (.int 1))))])])]),
   .drop (.bJ .append (.v 4) [(.tup [(.c (.str "keep")),(.c (.int 1))])]),
   .asg 5 (.bin .Add (.tE (.v 2) (.v 6)) (.c (.int 1)))] [.drop (.bJ .append (.v 4) [(.tup [(.c (.str "put")),(.v 7)])])]],
 .ret (.call 0 [(.bin .Add (.v 4) (.lst [(.tup [(.c (.str "cut")),(.bJ .join (.c (.str "")) [(.comp none [] .list [(.sl (.v 0) (some (.v 5)) none)] none (.ix (.v 0) (.c (.int 1))))])])]))])]
def abA:List Str:=["_law_neat"]
def abB:List Str:=[]
def MW:List Str:=["range","len"]
def abC:List Str:=[]
def abD:List Str:=[]
def abE:List Str:=[]
def abF:List Str:=[]
def Cd:List Str:=["_law_rows","_law_name"]
def MX:List Str:=["_law_rows","_law_name"]
noncomputable def Ce:List RS:=
 [.ret (.comp (some 2) [("_law_name",1)] .list [(.v 0)] none (.tup [(.v 0),(.ix (.lst [(.v 1),(.ix (.c (.str "ab")) (.blt .int [(.cmp .Eq (.v 1) (.c (.str "a")))]))]) (.blt .int [(.cmp .Eq (.v 0) (.v 2))]))]))]
def abG:List Str:=[]
def abH:List Str:=[]
def MY:List Str:=["int"]
def abI:List Str:=[]
def abJ:List Str:=[]
def abK:List Str:=[]
def abL:List Str:=[]
end L2.B
namespace L2.dH
open PySem PySem.Spec PyProof.Rows L2.B
def cw(i:Nat):Stmt:=(PySem.Challenge.pw_inkloom_k06_one_then_the_other.main.body).getD i (.Pass ⟨0,0,0,0⟩)
def oF:Stmt:=cw 17
theorem abM:bR Be LS (az oF):=cm
theorem abN{CX:aL}{Γ:aG}{X:Cx}(G:aO CX (bg Be (az oF) Yu Yv LU Yw Yx Yy Yz 0) Γ X):bo X (aB oF) (ar Γ Bf):=by
 have g:=G.toGood
 exact(ah (bG (jR (gT g (aa g)) (kW (A7 g (gT g (aa g)))))) au)
def oG:Stmt:=cw 18
theorem abO:bR xq LV (az oG):=cm
theorem abP{CX:aL}{Γ:aG}{X:Cx}(G:aO CX (bg xq (az oG) YA YB LW YC YD YE YF 0) Γ X):bo X (aB oG) (ar Γ xr):=by
 have g:=G.toGood
 exact(ah (bG (jR (gT g (aa g)) (kW (gR g (aa g) (aa g))))) au)
def oH:Stmt:=cw 19
theorem abQ:bR xt LX (az oH):=cm
theorem abR{CX:aL}{Γ:aG}{X:Cx}(G:aO CX (bg xt (az oH) YG YH LY YI YJ YK YL 0) Γ X):bo X (aB oH) (ar Γ xu):=by
 have g:=G.toGood
 exact(ah (bG (jR (gT g (aa g)) (kW (gR g (cT g (aa g) (af (gp g) ai)) aH)))) au)
def oI:Stmt:=cw 20
theorem abS:bR Bg LZ (az oI):=cm
theorem abT{CX:aL}{Γ:aG}{X:Cx}(G:aO CX (bg Bg (az oI) YM YN L6 YO YQ YR YS 0) Γ X):bo X (aB oI) (ar Γ Bh):=by
 have g:=G.toGood
 exact(ah (bH (gz (oy g (aZ g (af (aa g) ai)))) (ah (mX G (af aH ai)) au) au) au)
def oJ:Stmt:=cw 22
theorem abU:bR ui L7 (az oJ):=cm
theorem abV{CX:aL}{Γ:aG}{X:Cx}(G:aO CX (bg ui (az oJ) YT YU L8 YV YW YX YY 0) Γ X):bo X (aB oJ) (ar Γ uj):=by
 have g:=G.toGood
 exact(ah (bH (PW.pt (kY (gz (qO g (gT g (aa g)))) (ow (bA g (cL g (af (aa g) ai)) aD)))) (ah (bG jg) au) au) (ah (bH (oy g (aZ g (af (a_ g (aa g) aD) (af (bY (af aH ai)) ai)))) (ah (bG (jR (aZ g (af (a_ g (aa g) aD) ai)) (kW (gR g (a_ g (aa g) aD) aD)))) au) au) (ah (bG (jR (aZ g (af (a_ g (aa g) aD) (af (bY (af aH (af aH ai))) ai))) (jR (aZ g (af (a_ g (aa g) aD) ai)) (kW (gR g (a_ g (aa g) aD) aH))))) au)))
def oK:Stmt:=cw 23
theorem abW:bR Bi L9 (az oK):=cm
theorem abX{CX:aL}{Γ:aG}{X:Cx}(G:aO CX (bg Bi (az oK) YZ Y0 L_ Y1 Y2 Y3 Y4 0) Γ X):bo X (aB oK) (ar Γ Bj):=by
 have g:=G.toGood
 exact(ah (bG (jR (gR g (aa g) (aa g)) (kW (A7 g (jR (gR g (aa g) aH) (kW (gR g (aa g) aH))))))) au)
def oM:Stmt:=cw 24
theorem MZ:bR xv Ma (az oM):=cm
theorem M0{CX:aL}{Γ:aG}{X:Cx}(G:aO CX (bg xv (az oM) Y5 Y6 Bk Y7 Y8 Y9 Y_ 0) Γ X):bo X (aB oM) (ar Γ uk):=by
 have g:=G.toGood
 exact(ah (bH (gz (qO g (gT g (aa g)))) (ah (mX G (af aH ai)) au) au) (ah (aU G aH) (ah (ue G (fk g (aa g)) (ah (bH (gz (oy g (aZ g (af (aa g) ai)))) (ah (mX G (af aH ai)) au) au) (ah (bH (gz (oy g (aZ g (af (a_ g (aa g) aD) (af (aa g) ai))))) (ah (mX G (af aH ai)) au) au) (ah (aU G (a_ g (aa g) aD)) au)))) au)))
def oN:Stmt:=cw 25
theorem abY:bR Bl Mb (az oN):=cm
theorem abZ{CX:aL}{Γ:aG}{X:Cx}(G:aO CX (bg Bl (az oN) Za Zb Mc Zc Zd Ze Zf 0) Γ X):bo X (aB oN) (ar Γ Bm):=by
 have g:=G.toGood
 exact(ah (bG (A8 (bA g (a_ g (aa g) aD) aH) (a_ g (aa g) aD) (cL g (af (a_ g (aa g) aD) ai)))) au)
def oO:Stmt:=cw 26
theorem M1:bR xx Md (az oO):=cm
theorem M3{CX:aL}{Γ:aG}{X:Cx}(G:aO CX (bg xx (az oO) Zg Zh Bn Zi Zj Zk Zl 0) Γ X):bo X (aB oO) (ar Γ um):=by
 have g:=G.toGood
 exact(ah (dj (aZ g (af (aa g) ai))) (ah (aU G (cL g (af (jS (ln:=["part"]) g (by kernel_rfl) (fk g (aa g)) (ud fun _ g=> (bA g (a_ g (aa g) aD) aH)) (fun _ g=> (aZ g (af (aa g) ai)))) ai))) (ah (aU G (cL g (af (jS (ln:=["part"]) g (by kernel_rfl) (fk g (aa g)) (ud fun _ g=> (bA g (a_ g (aa g) aD) aH)) (fun _ g=> (aZ g (af (aa g) ai)))) ai))) (ah (bG (bY (af (aa g) (af (aa g) ai)))) au))))
def oP:Stmt:=inClass (cw 27) 0
theorem ab0:bR BN MG (az oP):=cm
theorem ab1{CX:aL}{Γ:aG}{X:Cx}(G:aO CX (bg BN (az oP) aaI aaJ MH aaK aaL aaM aaN 0) Γ X):bo X (aB oP) (ar Γ BO):=by
 have g:=G.toGood
 exact(ah (qQ G (aa g) (cL g (af (aa g) ai))) (ah (qQ G (aa g) aD) (ah (qQ G (aa g) aD) au)))
def oQ:Stmt:=inClass (cw 27) 1
theorem ab2:bR BP MI (az oQ):=cm
theorem ab3{CX:aL}{Γ:aG}{X:Cx}(G:aO CX (bg BP (az oQ) aaO aaP MJ aaQ aaR aaS aaT 0) Γ X):bo X (aB oQ) (ar Γ BQ):=by
 have g:=G.toGood
 exact(ah (bG (A8 (bA g (jh g (aa g)) (cL g (af (jh g (aa g)) ai))) (a_ g (a_ g (jh g (aa g)) (jh g (aa g))) aD) aH)) au)
def oR:Stmt:=inClass (cw 27) 2
theorem ab4:bR BR MK (az oR):=cm
theorem ab5{CX:aL}{Γ:aG}{X:Cx}(G:aO CX (bg BR (az oR) aaU aaV ML aaW aaX aaY aaZ 0) Γ X):bo X (aB oR) (ar Γ BS):=by
 have g:=G.toGood
 exact(ah (bG (aY g (aZ g (af (a_ g (jh g (aa g)) (jh g (aa g))) ai)) (jh g (aa g)))) au)
def oS:Stmt:=inClass (cw 27) 3
theorem ab6:bR BU MM (az oS):=cm
theorem ab7{CX:aL}{Γ:aG}{X:Cx}(G:aO CX (bg BU (az oS) aa0 aa1 MN aa2 aa3 aa4 aa5 0) Γ X):bo X (aB oS) (ar Γ xE):=by
 have g:=G.toGood
 exact(ah (aU G (a_ g (jh g (aa g)) (jh g (aa g)))) (ah (aU G (jh g (aa g))) (ah (aU G (aY g (aa g) (aa g))) (ah (qQ G (aa g) (aa g)) (ah (bH (bA g (qN g (aa g)) aD) (ah (qQ G (aa g) (aY g (jh g (aa g)) aD)) (ah (qQ G (aa g) aD) au)) au) (ah (bG (bY (af (a_ g (aa g) aD) (af (A8 (bA g (a_ g (aa g) aD) aH) (aa g) (mV g (a_ g (aa g) aD) (gw (aa g)) (gw (aa g)))) ai)))) au))))))
def oU:Stmt:=cw 28
theorem ab8:bR Bo Me (az oU):=cm
theorem ab9{CX:aL}{Γ:aG}{X:Cx}(G:aO CX (bg Bo (az oU) Zm Zn Mf Zo Zp Zq Zr 0) Γ X):bo X (aB oU) (ar Γ Bp):=by
 have g:=G.toGood
 exact(ah (bH (PW.pt (xo (bA g (cL g (af (aa g) ai)) aD) (xn (bA g (a_ g (a_ g (aa g) (qM aD)) aD) aH)))) (ah (aU G (aY g (aa g) (a_ g (X5 g (aa g)) aD))) au) au) (ah (dj (cT g (aa g) (af (bY (af aH (af (aa g) ai))) ai))) au))
def oV:Stmt:=cw 29
theorem ab_:bR Bq Mg (az oV):=cm
theorem aca{CX:aL}{Γ:aG}{X:Cx}(G:aO CX (bg Bq (az oV) Zs Zt Mh Zu Zv Zw Zx 0) Γ X):bo X (aB oV) (ar Γ Br):=by
 have g:=G.toGood
 exact(ah (aU G (cT g aH (af (aa g) ai))) (ah (aU G (cT g aH (af (aa g) ai))) (ah (bH (bA g (aa g) aH) (ah (dj (cT g (aa g) (af (bY (af aH (af (aa g) ai))) ai))) au) au) (ah (bH (bA g (aa g) aH) (ah (dj (cT g (aa g) (af (bY (af aH (af (aa g) ai))) ai))) au) au) au))))
def oW:Stmt:=cw 30
theorem acb:bR Bs Mi (az oW):=cm
theorem acd{CX:aL}{Γ:aG}{X:Cx}(G:aO CX (bg Bs (az oW) Zy Zz Mj ZA ZC ZD ZE 0) Γ X):bo X (aB oW) (ar Γ Bt):=by
 have g:=G.toGood
 exact(ah (aU G (cI ai)) (ah (aU G (cI ai)) (ah (aU G (cI ai)) (ah (mW [(_,_),(_,_)] G (fk g (aa g)) (ah (bH (bA g (aa g) aH) (ah (dj (cT g (aa g) (af (aa g) ai))) au) (ah (bH (bA g (aa g) aH) (ah (dj (cT g (aa g) (af (aa g) ai))) au) (ah (bH (bA g (aa g) aD) (ah (dj (aZ g (af (aa g) (af (aa g) (af (aa g) ai))))) (ah (aU G (cI ai)) (ah (aU G (cI ai)) (ah (dj (aZ g (af (aa g) (af (aa g) ai)))) au)))) au) au)) au)) au)) (ah (dj (aZ g (af (aa g) (af (aa g) (af (aa g) ai))))) (ah (bG (aa g)) au))))))
def oX:Stmt:=cw 31
theorem M4:bR xy Ml (az oX):=cm
theorem M5{CX:aL}{Γ:aG}{X:Cx}(G:aO CX (bg xy (az oX) ZF ZG Bu ZH ZI ZJ ZK 0) Γ X):bo X (aB oX) (ar Γ uo):=by
 have g:=G.toGood
 exact(ah (dj (aZ g (af (aa g) ai))) (ah (bH (bA g (a_ g (aZ g (af (aa g) ai)) aD) (cL g (af (aa g) ai))) (ah (mX G (af aH ai)) au) au) (ah (aU G aD) (ah (aU G (cI ai)) (ah (mW [(_,_),(_,_)] G (fk g (aa g)) (ah (bH (bA g (aa g) aH) (ah (dj (cT g (aa g) (af (aa g) ai))) au) (ah (bH (bA g (aa g) aH) (ah (dj (cT g (aa g) (af (mV g (aa g) (gw (aa g)) (gw (aY g (aa g) (aa g)))) ai))) (ah (aU G (aY g (aa g) (aa g))) au)) (ah (bH (gz (Yc g (cT g (aa g) (af (aa g) (af (aa g) ai))))) (ah (mX G (af aH ai)) au) (ah (aU G (aY g (aa g) (cL g (af (aa g) ai)))) au)) au)) au)) au)) (ah (bG (cT g aH (af (aa g) ai))) au))))))
def oY:Stmt:=cw 33
theorem M6:bR xG MO (az oY):=cm
theorem M7{CX:aL}{Γ:aG}{X:Cx}(G:aO CX (bg xG (az oY) aa6 aa7 BV aa8 aa9 aa_ aba 0) Γ X):bo X (aB oY) (ar Γ uq):=by
 have g:=G.toGood
 exact(ah (bH (bA g (a_ g (aa g) aD) aH) (ah (bG (cI (af (bY (af aH (af (aa g) ai))) ai))) au) au) (ah (bH (bA g (a_ g (aa g) aD) (aa g)) (ah (mX G (af aH ai)) au) au) (ah (bG (cI ai)) au)))
def oZ:Stmt:=cw 34
theorem M8:bR xH MP (az oZ):=cm
theorem M9{CX:aL}{Γ:aG}{X:Cx}(G:aO CX (bg xH (az oZ) abb abc BW abd abe abf abg 0) Γ X):bo X (aB oZ) (ar Γ ur):=by
 have g:=G.toGood
 exact(ah (aU G (cI ai)) (ah (aU G aD) (ah (LN G (bA g (aa g) (aZ g (af (aa g) ai))) (ah (bH (bA g (qN g (aa g)) aH) (ah (dj (cT g (aa g) (af (A9 g (aa g) (af (qN g (aa g)) ai)) ai))) (ah Yl au)) au) (ah (aU G (cL g (af (qN g (aa g)) (af (aY g (aZ g (af (aa g) ai)) (aa g)) ai)))) (ah (aU G (A9 g (aa g) (af (aa g) ai))) (ah (bH (bA g (a_ g (aa g) aD) aH) (ah (dj (cT g (aa g) (af (aa g) ai))) au) (ah (dj (cT g (aa g) (af (aZ g (af (aa g) (af (mV g (a_ g (aa g) aD) (gw (aa g)) (gw (aY g (aa g) (aa g)))) ai))) ai))) au)) (ah (aU G (aY g (aa g) (aa g))) au)))))) (ah (bG (aa g)) au))))
def o5:Stmt:=cw 35
theorem M_:bR xI MQ (az o5):=cm
theorem Na{CX:aL}{Γ:aG}{X:Cx}(G:aO CX (bg xI (az o5) abh abi BX abj abk abl abm 0) Γ X):bo X (aB o5) (ar Γ uu):=by
 have g:=G.toGood
 exact(ah (bH (bA g (a_ g (aZ g (af (aa g) ai)) aD) (a_ g (aZ g (af (aa g) ai)) aD)) (ah (mX G (af aH ai)) au) au) (ah (aU G (X1 g (af (aa g) ai))) (ah (aU G (cI ai)) (ah (ue G (fk g (aa g)) (ah (bH (bA g (a_ g (aa g) aD) aH) (ah (dj (cT g (aa g) (af (aa g) ai))) au) (ah (dj (cT g (aa g) (af (aZ g (af (aa g) (af (aa g) ai))) ai))) au)) au)) (ah (LN G (bA g (qN g (aa g)) aH) (ah (dj (cT g (aa g) (af (A9 g (aa g) (af (qN g (aa g)) ai)) ai))) au)) (ah (bG (aZ g (af (aa g) ai))) au))))))
def o6:Stmt:=cw 37
theorem ace:bR Bv Mm (az o6):=cm
theorem acf{CX:aL}{Γ:aG}{X:Cx}(G:aO CX (bg Bv (az o6) ZL ZM Mn ZN ZO ZP ZQ 0) Γ X):bo X (aB o6) (ar Γ Bw):=by
 have g:=G.toGood
 exact(ah (bH (bA g (aa g) (cL g (af (aa g) ai))) (ah (bG (a_ g (aa g) (aa g))) au) au) (ah (bG aD) au))
def o7:Stmt:=cw 38
theorem acg:bR BL ME (az o7):=cm
theorem ach{CX:aL}{Γ:aG}{X:Cx}(G:aO CX (bg BL (az o7) aaC aaD MF aaE aaF aaG aaH 0) Γ X):bo X (aB o7) (ar Γ BM):=by
 have g:=G.toGood
 exact(ah (bG (jR (gT g (aa g)) (kW (A7 g (gT g (aa g)))))) au)
def o8:Stmt:=cw 39
theorem aci:bR Bx Mo (az o8):=cm
theorem acj{CX:aL}{Γ:aG}{X:Cx}(G:aO CX (bg Bx (az o8) ZR ZS Mp ZT ZU ZV ZW 0) Γ X):bo X (aB o8) (ar Γ By):=by
 have g:=G.toGood
 exact(ah (aU G (aY g (aY g (aY g (aY g (aa g) aD) (aY g aD (aa g))) aD) aD)) (ah (bG (aY g (aY g (aY g (aY g (aa g) (aa g)) aD) (aa g)) aD)) au))
def o9:Stmt:=cw 40
theorem ack:bR Bz Mq (az o9):=cm
theorem acm{CX:aL}{Γ:aG}{X:Cx}(G:aO CX (bg Bz (az o9) ZX ZY Mr ZZ Z0 Z1 Z2 0) Γ X):bo X (aB o9) (ar Γ BA):=by
 have g:=G.toGood
 exact(ah (aU G aH) (ah (aU G (aY g (aa g) aH)) (ah (bH (bA g (aY g (aa g) aD) aD) (ah (aU G aH) au) au) (ah (bG (cT g aH (af (jS (ln:=["_law_k"]) g (by kernel_rfl) (qP g (aa g)) ou (fun _ g=> (a_ g (aa g) (aY g (aY g (aZ g (af (aa g) (af (aa g) ai))) aD) (cL g (af (aa g) ai)))))) ai))) au))))
def o_:Stmt:=cw 41
theorem acn:bR BB Ms (az o_):=cm
theorem aco{CX:aL}{Γ:aG}{X:Cx}(G:aO CX (bg BB (az o_) Z3 Z4 Mt Z5 Z6 Z7 Z8 0) Γ X):bo X (aB o_) (ar Γ BC):=by
 have g:=G.toGood
 exact(ah (bH (bA g (aY g (aa g) aD) aD) (ah (bG (aY g (aY g (aa g) aD) aD)) au) au) (ah (bG (aY g (aY g (aa g) aD) aD)) au))
def pb:Stmt:=cw 42
theorem acp:bR BD Mu (az pb):=cm
theorem acq{CX:aL}{Γ:aG}{X:Cx}(G:aO CX (bg BD (az pb) Z9 Z_ Mv aaa aab aac aad 0) Γ X):bo X (aB pb) (ar Γ BE):=by
 have g:=G.toGood
 exact(ah (aU G (cI ai)) (ah (aU G aD) (ah (ue G (qP g (aa g)) (ah (aU G (aZ g (af (aa g) (af (aY g aD (aa g)) ai)))) (ah (aU G (a_ g (cI (af aD (af aD (af aD (af aD (af aD (af aD ai))))))) (aY g (aY g (aa g) aD) aD))) (ah (aU G (cL g (af (aa g) (af (aY g (cL g (af (aa g) ai)) (aa g)) ai)))) (ah (bH (bA g (aY g (aa g) aD) aD) (ah (dj (cT g (aa g) (af (bY (af aH (af (aZ g (af (aa g) (af (aa g) ai))) ai))) ai))) au) (ah (bH (bA g (aY g (aa g) aD) aD) (ah (dj (cT g (aa g) (af (bY (af aH (af (mV g (aa g) (gw (aa g)) (gw (aY g (aa g) (aa g)))) ai))) ai))) au) (ah (dj (cT g (aa g) (af (bY (af aH (af (aa g) ai))) ai))) au)) au)) (ah (bH (bA g (aY g (aa g) aD) aD) (ah (aU G (aY g (aa g) (aa g))) au) au) au)))))) (ah (bG (aY g (aa g) (cI (af (bY (af aH (af (aY g (cL g (af (aa g) ai)) (aa g)) ai))) ai)))) au))))
def xB:List Str:=["_law_parts_here","_law_rows","_law_word_here","_law_thing","_law_found_here","_law_put","_law_cut","_law_keep","_law_some"]
def pd:Stmt:=cw 43
theorem acr:bR xB Mw (az pd):=cm
theorem acs{CX:aL}{Γ:aG}{X:Cx}(G:aO CX (bg xB (az pd) aae aaf Mx aag aah aai aaj 0) Γ X):bo X (aB pd) (ar Γ BF):=by
 have g:=G.toGood
 exact(ah (aU G (cI (af (cI (af aH (af aH (af aD ai)))) ai))) (ah (mW [(_,_),(_,_)] G (fk g (aa g)) (ah (bH (bA g (aa g) aH) (ah (LM (aY g (a_ g (a_ g (aa g) (qM aD)) aD) (aa g)) (a_ g (aa g) (qM aD)) aD) au) (ah (bH (bA g (aa g) aH) (ah (bH (bA g (a_ g (a_ g (aa g) (qM aD)) aD) aD) (ah (dj (cT g (aa g) (af (cI (af aH (af aH (af aD ai)))) ai))) au) au) (ah (LM (aY g (a_ g (a_ g (aa g) (qM aD)) (cL g (af (gR g (aa g) aH) ai))) (aa g)) (a_ g (aa g) (qM aD)) (cL g (af (gR g (aa g) aH) ai))) au)) au) au)) au)) (ah (aU G (cI ai)) (ah (mW [(_,_),(_,_),(_,_)] G (fk g (aa g)) (ah (aU G (cI (af (bY (af aH (af (aa g) ai))) (af (bY (af aH (af (aa g) ai))) (af (bY (af aH (af (aa g) ai))) ai))))) (ah (aU G (aY g (aa g) (jS (ln:=["_law_part"]) g (by kernel_rfl) (fk g (aa g)) (ud fun _ g=> (PW.pt (xo (bA g (a_ g (aa g) aD) aH) (xn (bA g (a_ g (aa g) aD) aD))))) (fun _ g=> (aa g))))) au))) (ah (bG (aa g)) au)))))
def pe:Stmt:=cw 44
theorem acu:bR BG My (az pe):=cm
theorem acv{CX:aL}{Γ:aG}{X:Cx}(G:aO CX (bg BG (az pe) aak aal Mz aam aan aao aap 0) Γ X):bo X (aB pe) (ar Γ BH):=by
 have g:=G.toGood
 exact(ah (bG (aZ g (af (aZ g (af (aa g) (af (aa g) (af (aa g) ai)))) ai))) au)
def pf:Stmt:=cw 45
theorem acw:bR BJ MB (az pf):=cm
theorem acx{CX:aL}{Γ:aG}{X:Cx}(G:aO CX (bg BJ (az pf) aaw aax MC aay aaz aaA aaB 0) Γ X):bo X (aB pf) (ar Γ BK):=by
 have g:=G.toGood
 exact(ah (aU G aH) (ah (aU G aD) (ah (mW [(_,_),(_,_)] G (fk g (aa g)) (ah (bH (bA g (aa g) aH) (ah (aU G (aY g (aa g) (aa g))) au) (ah (bH (bA g (aa g) aH) (ah (aU G (aY g (aa g) (cL g (af (aa g) ai)))) au) (ah (aU G (aY g (aa g) (mV g (aa g) (gw (aa g)) (gw (aY g (aa g) (aa g)))))) (ah (aU G (aY g (aa g) (aa g))) au))) au)) au)) (ah (bG (aa g)) au))))
def xD:List Str:=["_law_found_here","_law_due","_law_part","_law_other"]
def Nb:List Str:=["_law_found_here","_law_due"]
def ph:Stmt:=cw 46
theorem acy:bR xD Nb (az ph):=cm
theorem acz{CX:aL}{Γ:aG}{X:Cx}(G:aO CX (bg xD (az ph) aaq aar MA aas aat aau aav 0) Γ X):bo X (aB ph) (ar Γ BI):=by
 have g:=G.toGood
 exact(ah (bH (PW.pt (kY (gz (qO g (gT g (aa g)))) (ow (bA g (cL g (af (aa g) ai)) (cL g (af (aa g) ai)))))) (ah (bG jg) au) au) (ah (mW [(_,_),(_,_)] G (Yd g (aa g) (aa g)) (ah (bH (PW.pt (kY (gz (qO g (gT g (aa g)))) (kY (bA g (cL g (af (aa g) ai)) aD) (kY (gz (qO g (gT g (a_ g (aa g) aD)))) (ow (bA g (a_ g (aa g) aD) (a_ g (aa g) aD))))))) (ah (bG jg) au) au) (ah (bH (PW.pt (kY (bA g (gT g (a_ g (aa g) aD)) (gT g (a_ g (aa g) aD))) (ow (bA g (a_ g (aa g) aD) (a_ g (aa g) aD))))) (ah (bG jg) au) au) (ah (bH (PW.pt (xo (gz (qO g (gT g (a_ g (aa g) aD)))) (xn (gz (oy g (aZ g (af (a_ g (aa g) aD) ai))))))) (ah (bG jg) au) au) au)))) (ah (bG jg) au)))
def cO:Stmt:=cw 47
theorem acA:bR ji MD (az cO):=cm
theorem acB{CX:aL}{Γ:aG}{X:Cx}(G:aO CX (bg ji (az cO) kZ k_ jV lg lh lj lp 1) Γ X):PS X ((aB cO).getD 0 (.Pass ⟨0,0,0,0⟩)) (bj Γ (dU.getD 0 (.ret (.c .aq)))):=by
 have g:=G.toGood
 show PS X (.Assign [.Name "_law_some" _] _ _) (bj Γ (.asg 1 _))
 with_reducible exact(aU G (cI (af (bY (af aH (af (gu g (aa g) (gp g)) ai))) (af (bY (af aH (af (gu g (aa g) (gp g)) ai))) (af (bY (af aH (af (gu g (aa g) (gp g)) ai))) ai)))))
theorem acC{CX:aL}{Γ:aG}{X:Cx}(G:aO CX (bg ji (az cO) kZ k_ jV lg lh lj lp 1) Γ X):PS X ((aB cO).getD 1 (.Pass ⟨0,0,0,0⟩)) (bj Γ (dU.getD 1 (.ret (.c .aq)))):=by
 have g:=G.toGood
 show PS X (.Assign [.Name "_law_some" _] _ _) (bj Γ (.asg 1 _))
 with_reducible exact(aU G (aY g (aa g) (cI (af (bY (af aH (af (gu g (aa g) (gp g)) ai))) (af (bY (af aH (af (gu g (aa g) (gp g)) ai))) (af (bY (af aH (af (gu g (aa g) (gp g)) ai))) ai))))))
theorem acD{CX:aL}{Γ:aG}{X:Cx}(G:aO CX (bg ji (az cO) kZ k_ jV lg lh lj lp 1) Γ X):PS X ((aB cO).getD 2 (.Pass ⟨0,0,0,0⟩)) (bj Γ (dU.getD 2 (.ret (.c .aq)))):=by
 have g:=G.toGood
 show PS X (.Assign [.Name "_law_some" _] _ _) (bj Γ (.asg 1 _))
 with_reducible exact(aU G (aY g (aa g) (cI (af (bY (af aH (af (gu g (aa g) (gp g)) ai))) (af (bY (af aH (af (gu g (aa g) (gp g)) ai))) ai)))))
theorem acE{CX:aL}{Γ:aG}{X:Cx}(G:aO CX (bg ji (az cO) kZ k_ jV lg lh lj lp 1) Γ X):PS X ((aB cO).getD 3 (.Pass ⟨0,0,0,0⟩)) (bj Γ (dU.getD 3 (.ret (.c .aq)))):=by
 have g:=G.toGood
 show PS X (.Assign [.Name "_law_some" _] _ _) (bj Γ (.asg 1 _))
 with_reducible exact(aU G (aY g (aa g) (cI (af (bY (af aH (af (gu g (aa g) (gp g)) ai))) (af (bY (af aH (af (gu g (aa g) (gp g)) ai))) ai)))))
theorem acF{CX:aL}{Γ:aG}{X:Cx}(G:aO CX (bg ji (az cO) kZ k_ jV lg lh lj lp 1) Γ X):PS X ((aB cO).getD 4 (.Pass ⟨0,0,0,0⟩)) (bj Γ (dU.getD 4 (.ret (.c .aq)))):=by
 have g:=G.toGood
 show PS X (.Assign [.Name "_law_some" _] _ _) (bj Γ (.asg 1 _))
 with_reducible exact(aU G (aY g (aa g) (cI (af (bY (af aH (af (gu g (aa g) (gp g)) ai))) (af (bY (af aH (af (gu g (aa g) (gp g)) ai))) (af (bY (af aH (af (gu g (aa g) (gp g)) ai))) ai))))))
theorem acG{CX:aL}{Γ:aG}{X:Cx}(G:aO CX (bg ji (az cO) kZ k_ jV lg lh lj lp 1) Γ X):PS X ((aB cO).getD 5 (.Pass ⟨0,0,0,0⟩)) (bj Γ (dU.getD 5 (.ret (.c .aq)))):=by
 have g:=G.toGood
 exact(Yh G (by kernel_rfl) (by kernel_rfl) (by kernel_rfl) (aa g) (ud fun _ g=> (Yb g (aa g))) (fun _ g=> (aa g)))
theorem acH{CX:aL}{Γ:aG}{X:Cx}(G:aO CX (bg ji (az cO) kZ k_ jV lg lh lj lp 1) Γ X):PS X ((aB cO).getD 6 (.Pass ⟨0,0,0,0⟩)) (bj Γ (dU.getD 6 (.ret (.c .aq)))):=by
 have g:=G.toGood
 exact(bH (PW.pt (kY (gz (LJ g (gu g (aa g) (gp g)))) (ow (gz (LJ g (gu g (aa g) (X3 g (by decide+kernel) (by decide) (by decide)))))))) (ah (dj (cT g (aa g) (af aH ai))) au) au)
theorem acI{CX:aL}{Γ:aG}{X:Cx}(G:aO CX (bg ji (az cO) kZ k_ jV lg lh lj lp 1) Γ X):PS X ((aB cO).getD 7 (.Pass ⟨0,0,0,0⟩)) (bj Γ (dU.getD 7 (.ret (.c .aq)))):=by
 have g:=G.toGood
 show PS X (.Return (some _) _) (bj Γ (.ret _))
 with_reducible exact(bG (cT g aH (af (aa g) ai)))
theorem acJ{CX:aL}{Γ:aG}{X:Cx}(G:aO CX (bg ji (az cO) kZ k_ jV lg lh lj lp 1) Γ X):bo X (aB cO) (ar Γ dU):=by
 have e:aB cO=[((aB cO).getD 0 (.Pass ⟨0,0,0,0⟩)),((aB cO).getD 1 (.Pass ⟨0,0,0,0⟩)),((aB cO).getD 2 (.Pass ⟨0,0,0,0⟩)),((aB cO).getD 3 (.Pass ⟨0,0,0,0⟩)),((aB cO).getD 4 (.Pass ⟨0,0,0,0⟩)),((aB cO).getD 5 (.Pass ⟨0,0,0,0⟩)),((aB cO).getD 6 (.Pass ⟨0,0,0,0⟩)),((aB cO).getD 7 (.Pass ⟨0,0,0,0⟩))]:=by kernel_rfl
 have e2:dU=[(dU.getD 0 (.ret (.c .aq))),(dU.getD 1 (.ret (.c .aq))),(dU.getD 2 (.ret (.c .aq))),(dU.getD 3 (.ret (.c .aq))),(dU.getD 4 (.ret (.c .aq))),(dU.getD 5 (.ret (.c .aq))),(dU.getD 6 (.ret (.c .aq))),(dU.getD 7 (.ret (.c .aq)))]:=by kernel_rfl
 rw[e,e2]
 with_reducible exact ah (acB G) (ah (acC G) (ah (acD G) (ah (acE G) (ah (acF G) (ah (acG G) (ah (acH G) (ah (acI G) (au))))))))
def pj:Stmt:=cw 48
theorem acK:bR BY MR (az pj):=cm
theorem acL{CX:aL}{Γ:aG}{X:Cx}(G:aO CX (bg BY (az pj) abn abo MS abp abq abr abt 0) Γ X):bo X (aB pj) (ar Γ BZ):=by
 have g:=G.toGood
 exact(ah (bG (jS (ln:=["_law_k"]) g (by kernel_rfl) (qP g (cL g (af (aa g) ai))) ou (fun _ g=> (bY (af (bY (af aH (af (aa g) ai))) (af (a_ g (aa g) (aa g)) ai)))))) au)
def pw:Stmt:=cw 49
theorem acM:bR B_ MT (az pw):=cm
theorem acN{CX:aL}{Γ:aG}{X:Cx}(G:aO CX (bg B_ (az pw) abu abv MU abw abx aby abz 0) Γ X):bo X (aB pw) (ar Γ Ca):=by
 have g:=G.toGood
 exact(ah (aU G (cI ai)) (ah (aU G aD) (ah (aU G aD) (ah (mW [(_,_),(_,_)] G (fk g (aa g)) (ah (bH (bA g (aa g) aH) (ah (aU G (aY g (aa g) (jS (ln:=["_law_k"]) g (by kernel_rfl) (qP g (cL g (af (aa g) ai))) ou (fun _ g=> (bY (af (bY (af (aa g) (af (aY g (aa g) (aa g)) ai))) (af (a_ g (aa g) (aa g)) ai))))))) (ah (aU G (aY g (aa g) (cL g (af (aa g) ai)))) au)) (ah (bH (bA g (aa g) aH) (ah (aU G (aY g (aa g) (cL g (af (aa g) ai)))) au) (ah (aU G (aY g (aa g) (mV g (aa g) (gw (aa g)) (gw (aY g (aa g) (aa g)))))) (ah (aU G (aY g (aa g) (aa g))) au))) au)) au)) (ah (bG (aa g)) au)))))
def pz:Stmt:=cw 50
theorem acO:bR Cb MV (az pz):=cm
theorem acP{CX:aL}{Γ:aG}{X:Cx}(G:aO CX (bg Cb (az pz) abA abB MW abC abD abE abF 0) Γ X):bo X (aB pz) (ar Γ Cc):=by
 have g:=G.toGood
 exact(ah (aU G X7) (ah (ue G (qP g (cL g (af (aa g) ai))) (ah (Yi G (aa g) (aa g) (a_ g (a_ g (aa g) (aa g)) aD)) au)) (ah (aU G (cI ai)) (ah (aU G aD) (ah (mW [(_,_),(_,_)] G (fk g (aa g)) (ah (bH (X9 g (aa g) (aa g)) (ah (dj (cT g (aa g) (af (bY (af aH (af (cT g aH (af (jS (ln:=["_law_one"]) g (by kernel_rfl) (fk g (mV g (aa g) (gw (aa g)) (gw (LI g (aa g) (aa g))))) ou (fun _ g=> (a_ g (aa g) aD))) ai)) ai))) ai))) (ah (dj (cT g (aa g) (af (bY (af aH (af aD ai))) ai))) (ah (aU G (aY g (LI g (aa g) (aa g)) aD)) au))) (ah (dj (cT g (aa g) (af (bY (af aH (af (aa g) ai))) ai))) au)) au)) (ah (bG (aZ g (af (aY g (aa g) (cI (af (bY (af aH (af (cT g aH (af (jS (ln:=["_law_one"]) g (by kernel_rfl) (fk g (mV g (aa g) (gw (aa g)) Ya)) ou (fun _ g=> (a_ g (aa g) aD))) ai)) ai))) ai))) ai))) au))))))
def Cf:List Str:=["_law_one","_law_other","_law_e"]
def Nc:List Str:=["_law_one","_law_other"]
noncomputable def Cg:List RS:=
 [.Aw 3 2 0 [.ret (.call 0 [(.v 0),(.v 1)])] [.ret (.wQ 0 (.v 2))]]
def acQ:List Str:=["then"]
def acR:List Str:=["InkError"]
def Nd:List Str:=[]
def acS:List Str:=[]
def acT:List Str:=[]
def acU:List Str:=[]
def acV:List Str:=["_law_word"]
def pA:Stmt:=cw 51
theorem acW:bR Cf Nc (az pA):=cm
theorem acX{CX:aL}{Γ:aG}{X:Cx}(G:aO CX (bg Cf (az pA) acQ acR Nd acS acT acU acV 0) Γ X):bo X (aB pA) (ar Γ Cg):=by
 have g:=G.toGood
 exact(ah (Yk G (by kernel_rfl) (by kernel_rfl) (fun G=> (fun g=> (ah (bG (aZ g (af (aa g) (af (aa g) ai)))) au)) G.toGood) (fun G=> (fun g=> (ah (bG (X4 g (aa g))) au)) G.toGood)) au)
def pB:Stmt:=cw 52
theorem acY:bR Cd MX (az pB):=cm
theorem acZ{CX:aL}{Γ:aG}{X:Cx}(G:aO CX (bg Cd (az pB) abG abH MY abI abJ abK abL 0) Γ X):bo X (aB pB) (ar Γ Ce):=by
 have g:=G.toGood
 exact(ah (bG (jS (ln:=["_law_one","_law_sign"]) g (by kernel_rfl) (fk g (aa g)) ou (fun _ g=> (bY (af (aa g) (af (a_ g (cI (af (aa g) (af (a_ g aH (cL g (af (gR g (aa g) aH) ai))) ai))) (cL g (af (gR g (aa g) (aa g)) ai))) ai)))))) au)
def Ci:List Str:=["_law_rows","_law_middle","_law_behind","_law_one","_law_cell","_law_there","_law_cut","_law_name","_law_found_here"]
def Nf:List Str:=["_law_rows","_law_middle","_law_behind","_law_one","_law_cell"]
noncomputable def Cj:List RS:=
 [.asg 5 (.comp (some 2) [] .list [(.v 2)] none (.v 0)),
 .qz 6 (.comp (some 2) [("_law_there",5)] .list [(.v 1)] (some (.tF (.v 0) (.v 2))) (.v 0)),
 .ite (.cmp .Eq (.v 6) (.lst [])) [.ret (.c (.bl true))] [],
 .asg 7 (.ix (.v 6) (.bin .Mod (.v 4) (.blt .len [(.v 6)]))),
 .asg 8 (.call 0 [(.v 3),(.call 1 [(.call 2 [(.v 1),(.v 7)]),(.v 2)])]),
 .ite (.cmp .Eq (.ix (.v 7) (.c (.int 0))) (.c (.str "one"))) [.ret (.cmp .Eq (.v 8) (.c (.str "fit")))] [],
 .ret (.call 3 [(.v 8),(.call 1 [(.call 2 [(.v 0),(.v 7)]),(.v 2)])])]
def ac0:List Str:=["_law_found","_law_between","_law_told_otherwise","_law_same"]
def ac1:List Str:=[]
def Ng:List Str:=["len"]
def ac2:List Str:=[]
def ac3:List Str:=[]
def ac4:List Str:=[]
def ac5:List Str:=[]
def pE:Stmt:=cw 53
theorem ac6:bR Ci Nf (az pE):=cm
theorem ac7{CX:aL}{Γ:aG}{X:Cx}(G:aO CX (bg Ci (az pE) ac0 ac1 Ng ac2 ac3 ac4 ac5 0) Γ X):bo X (aB pE) (ar Γ Cj):=by
 have g:=G.toGood
 exact(ah (aU G (jS (ln:=["_law_name","_law_sign"]) g (by kernel_rfl) (fk g (aa g)) ou (fun _ g=> (aa g)))) (ah (Yg (ln:=["_law_name","_law_sign"]) G (by kernel_rfl) (by kernel_rfl) (by kernel_rfl) (fk g (aa g)) (ud fun _ g=> (X_ g (aa g) (aa g))) (fun _ g=> (aa g))) (ah (bH (bA g (aa g) (cI ai)) (ah (bG jg) au) au) (ah (aU G (a_ g (aa g) (aY g (aa g) (cL g (af (aa g) ai))))) (ah (aU G (aZ g (af (aa g) (af (aZ g (af (aZ g (af (aa g) (af (aa g) ai))) (af (aa g) ai))) ai)))) (ah (bH (bA g (a_ g (aa g) aD) aH) (ah (bG (gR g (aa g) aH)) au) au) (ah (bG (aZ g (af (aa g) (af (aZ g (af (aZ g (af (aa g) (af (aa g) ai))) (af (aa g) ai))) ai)))) au)))))))
def eI:List Str:=["_law_script","_law_text_here","_law_one","_law_between_here","_law_other","_law_rows","_law_middle","_law_behind","_law_handed","_law_turn","_law_found_here","_law_cell","_law_longer","_law_shorter","_law_odd"]
def Nh:List Str:=["_law_script"]
noncomputable def cc:List RS:=
 [.asg 1 (.call 0 [(.call 1 [(.v 0),(.c (.int 1))]),(.call 2 [(.call 1 [(.v 0),(.c (.int 0))])])]),
 .asg 2 (.call 3 [(.call 1 [(.v 0),(.c (.int 3))]),(.v 1),(.bin .Mod (.call 1 [(.v 0),(.c (.int 2))]) (.c (.int 9)))]),
 .asg 3 (.call 4 [(.v 1),(.v 2)]),
 .asg 4 (.call 3 [(.call 1 [(.v 0),(.c (.int 5))]),(.v 3),(.bin .Mod (.call 1 [(.v 0),(.c (.int 4))]) (.c (.int 9)))]),
 .asg 5 (.call 5 [(.v 1)]),
 .asg 6 (.call 6 [(.v 5),(.v 2),(.c (.str "one"))]),
 .asg 7 (.call 6 [(.v 6),(.v 4),(.c (.str "other"))]),
 .asg 8 (.lst [(.blt .list [(.v 2)]),(.blt .list [(.v 4)])]),
 .nZ 9 .fI [(.c (.int 2))] [.asg 10 (.call 7 [(.ix (.v 8) (.c (.int 0))),(.ix (.v 8) (.c (.int 1)))]),
  .ite (.or [(.not (.call 8 [(.v 10),(.call 9 [(.v 5),(.v 7)])])),(.cmp .NotEq (.v 8) (.lst [(.v 2),(.v 4)]))]) [.ret (.c (.bl false))] [],
  .ite (.cmp .NotEq (.call 10 [(.v 1),(.v 10)]) (.call 4 [(.v 3),(.v 4)])) [.ret (.c (.bl false))] [],
  .drop (.bJ .append (.v 10) [(.tup [(.c (.str "keep")),(.c (.int 1))])])],
 .asg 11 (.call 11 [(.call 1 [(.v 0),(.c (.int 6))]),(.c (.int 2))]),
 .ite (.not (.call 12 [(.v 5),(.v 6),(.v 7),(.v 2),(.bin .FloorDiv (.v 11) (.c (.int 4)))])) [.ret (.c (.bl false))] [],
 .asg 12 (.call 3 [(.call 1 [(.v 0),(.c (.int 5))]),(.bin .Add (.v 3) (.c (.str "a"))),(.bin .Mod (.call 1 [(.v 0),(.c (.int 4))]) (.c (.int 9)))]),
 .asg 13 (.call 13 [(.lst [(.tup [(.c (.str "keep")),(.blt .max [(.c (.int 0)),(.bin .Sub (.blt .len [(.v 3)]) (.c (.int 1)))])])])]),
 .ite (.or [(.cmp .NotEq (.call 7 [(.v 2),(.v 12)]) (.c (.str "fit"))),(.and [(.cmp .NotEq (.v 3) (.c (.str ""))),(.cmp .NotEq (.call 7 [(.v 2),(.v 13)]) (.c (.str "fit")))])]) [.ret (.c (.bl false))] [],
 .asg 14 (.ix (.lst [(.lst [(.tup [(.c (.str "keep")),(.c (.int 0))])]),(.c .aq),(.c (.str "keep")),(.lst [(.tup [(.c (.str "put")),(.c (.str "a"))]),(.tup [(.c (.str "put")),(.c (.str "b"))])])]) (.bin .Mod (.v 11) (.c (.int 4)))),
 .ret (.and [(.cmp .Eq (.call 7 [(.v 14),(.v 4)]) (.c (.str "change"))),(.cmp .Eq (.call 7 [(.v 2),(.v 14)]) (.c (.str "change")))])]
def fo:List Str:=["_law_text","_law_cell_at","_law_size","_law_change","_law_done","_law_named","_law_gone","_law_found","_law_same","_law_between","done","_law_mixed","_law_cut_otherwise","_law_neat"]
def fu:List Str:=[]
def eW:List Str:=["list","range","max","len"]
def fA:List Str:=[]
def fB:List Str:=[]
def fD:List Str:=[]
def fE:List Str:=[]
def bq:Stmt:=cw 54
theorem ac8:bR eI Nh (az bq):=cm
theorem ac9{CX:aL}{Γ:aG}{X:Cx}(G:aO CX (bg eI (az bq) fo fu eW fA fB fD fE 0) Γ X):PS X ((aB bq).getD 0 (.Pass ⟨0,0,0,0⟩)) (bj Γ (cc.getD 0 (.ret (.c .aq)))):=by
 have g:=G.toGood
 show PS X (.Assign [.Name "_law_text_here" _] _ _) (bj Γ (.asg 1 _))
 with_reducible exact(aU G (aZ g (af (aZ g (af (aa g) (af aD ai))) (af (aZ g (af (aZ g (af (aa g) (af aD ai))) ai)) ai))))
theorem ac_{CX:aL}{Γ:aG}{X:Cx}(G:aO CX (bg eI (az bq) fo fu eW fA fB fD fE 0) Γ X):PS X ((aB bq).getD 1 (.Pass ⟨0,0,0,0⟩)) (bj Γ (cc.getD 1 (.ret (.c .aq)))):=by
 have g:=G.toGood
 show PS X (.Assign [.Name "_law_one" _] _ _) (bj Γ (.asg 2 _))
 with_reducible exact(aU G (aZ g (af (aZ g (af (aa g) (af aD ai))) (af (aa g) (af (aY g (aZ g (af (aa g) (af aD ai))) aD) ai)))))
theorem ada{CX:aL}{Γ:aG}{X:Cx}(G:aO CX (bg eI (az bq) fo fu eW fA fB fD fE 0) Γ X):PS X ((aB bq).getD 2 (.Pass ⟨0,0,0,0⟩)) (bj Γ (cc.getD 2 (.ret (.c .aq)))):=by
 have g:=G.toGood
 show PS X (.Assign [.Name "_law_between_here" _] _ _) (bj Γ (.asg 3 _))
 with_reducible exact(aU G (aZ g (af (aa g) (af (aa g) ai))))
theorem adb{CX:aL}{Γ:aG}{X:Cx}(G:aO CX (bg eI (az bq) fo fu eW fA fB fD fE 0) Γ X):PS X ((aB bq).getD 3 (.Pass ⟨0,0,0,0⟩)) (bj Γ (cc.getD 3 (.ret (.c .aq)))):=by
 have g:=G.toGood
 show PS X (.Assign [.Name "_law_other" _] _ _) (bj Γ (.asg 4 _))
 with_reducible exact(aU G (aZ g (af (aZ g (af (aa g) (af aD ai))) (af (aa g) (af (aY g (aZ g (af (aa g) (af aD ai))) aD) ai)))))
theorem ade{CX:aL}{Γ:aG}{X:Cx}(G:aO CX (bg eI (az bq) fo fu eW fA fB fD fE 0) Γ X):PS X ((aB bq).getD 4 (.Pass ⟨0,0,0,0⟩)) (bj Γ (cc.getD 4 (.ret (.c .aq)))):=by
 have g:=G.toGood
 show PS X (.Assign [.Name "_law_rows" _] _ _) (bj Γ (.asg 5 _))
 with_reducible exact(aU G (aZ g (af (aa g) ai)))
theorem adf{CX:aL}{Γ:aG}{X:Cx}(G:aO CX (bg eI (az bq) fo fu eW fA fB fD fE 0) Γ X):PS X ((aB bq).getD 5 (.Pass ⟨0,0,0,0⟩)) (bj Γ (cc.getD 5 (.ret (.c .aq)))):=by
 have g:=G.toGood
 show PS X (.Assign [.Name "_law_middle" _] _ _) (bj Γ (.asg 6 _))
 with_reducible exact(aU G (aZ g (af (aa g) (af (aa g) (af aH ai)))))
theorem adg{CX:aL}{Γ:aG}{X:Cx}(G:aO CX (bg eI (az bq) fo fu eW fA fB fD fE 0) Γ X):PS X ((aB bq).getD 6 (.Pass ⟨0,0,0,0⟩)) (bj Γ (cc.getD 6 (.ret (.c .aq)))):=by
 have g:=G.toGood
 show PS X (.Assign [.Name "_law_behind" _] _ _) (bj Γ (.asg 7 _))
 with_reducible exact(aU G (aZ g (af (aa g) (af (aa g) (af aH ai)))))
theorem adh{CX:aL}{Γ:aG}{X:Cx}(G:aO CX (bg eI (az bq) fo fu eW fA fB fD fE 0) Γ X):PS X ((aB bq).getD 7 (.Pass ⟨0,0,0,0⟩)) (bj Γ (cc.getD 7 (.ret (.c .aq)))):=by
 have g:=G.toGood
 show PS X (.Assign [.Name "_law_handed" _] _ _) (bj Γ (.asg 8 _))
 with_reducible exact(aU G (cI (af (cL g (af (aa g) ai)) (af (cL g (af (aa g) ai)) ai))))
theorem adi{CX:aL}{Γ:aG}{X:Cx}(G:aO CX (bg eI (az bq) fo fu eW fA fB fD fE 0) Γ X):PS X ((aB bq).getD 8 (.Pass ⟨0,0,0,0⟩)) (bj Γ (cc.getD 8 (.ret (.c .aq)))):=by
 have g:=G.toGood
 exact(ue G (qP g aD) (ah (aU G (aZ g (af (a_ g (aa g) aD) (af (a_ g (aa g) aD) ai)))) (ah (bH (PW.pt (kY (gz (oy g (aZ g (af (aa g) (af (aZ g (af (aa g) (af (aa g) ai))) ai))))) (ow (bA g (aa g) (cI (af (aa g) (af (aa g) ai))))))) (ah (bG jg) au) au) (ah (bH (bA g (aZ g (af (aa g) (af (aa g) ai))) (aZ g (af (aa g) (af (aa g) ai)))) (ah (bG jg) au) au) (ah (dj (cT g (aa g) (af (bY (af aH (af aD ai))) ai))) au)))))
theorem adj{CX:aL}{Γ:aG}{X:Cx}(G:aO CX (bg eI (az bq) fo fu eW fA fB fD fE 0) Γ X):PS X ((aB bq).getD 9 (.Pass ⟨0,0,0,0⟩)) (bj Γ (cc.getD 9 (.ret (.c .aq)))):=by
 have g:=G.toGood
 show PS X (.Assign [.Name "_law_cell" _] _ _) (bj Γ (.asg 11 _))
 with_reducible exact(aU G (aZ g (af (aZ g (af (aa g) (af aD ai))) (af aD ai))))
theorem adk{CX:aL}{Γ:aG}{X:Cx}(G:aO CX (bg eI (az bq) fo fu eW fA fB fD fE 0) Γ X):PS X ((aB bq).getD 10 (.Pass ⟨0,0,0,0⟩)) (bj Γ (cc.getD 10 (.ret (.c .aq)))):=by
 have g:=G.toGood
 exact(bH (gz (oy g (aZ g (af (aa g) (af (aa g) (af (aa g) (af (aa g) (af (aY g (aa g) aD) ai)))))))) (ah (bG jg) au) au)
theorem adl{CX:aL}{Γ:aG}{X:Cx}(G:aO CX (bg eI (az bq) fo fu eW fA fB fD fE 0) Γ X):PS X ((aB bq).getD 11 (.Pass ⟨0,0,0,0⟩)) (bj Γ (cc.getD 11 (.ret (.c .aq)))):=by
 have g:=G.toGood
 show PS X (.Assign [.Name "_law_longer" _] _ _) (bj Γ (.asg 12 _))
 with_reducible exact(aU G (aZ g (af (aZ g (af (aa g) (af aD ai))) (af (aY g (aa g) aH) (af (aY g (aZ g (af (aa g) (af aD ai))) aD) ai)))))
theorem adm{CX:aL}{Γ:aG}{X:Cx}(G:aO CX (bg eI (az bq) fo fu eW fA fB fD fE 0) Γ X):PS X ((aB bq).getD 12 (.Pass ⟨0,0,0,0⟩)) (bj Γ (cc.getD 12 (.ret (.c .aq)))):=by
 have g:=G.toGood
 show PS X (.Assign [.Name "_law_shorter" _] _ _) (bj Γ (.asg 13 _))
 with_reducible exact(aU G (aZ g (af (cI (af (bY (af aH (af (cL g (af aD (af (aY g (cL g (af (aa g) ai)) aD) ai))) ai))) ai)) ai)))
theorem adn{CX:aL}{Γ:aG}{X:Cx}(G:aO CX (bg eI (az bq) fo fu eW fA fB fD fE 0) Γ X):PS X ((aB bq).getD 13 (.Pass ⟨0,0,0,0⟩)) (bj Γ (cc.getD 13 (.ret (.c .aq)))):=by
 have g:=G.toGood
 exact(bH (PW.pt (kY (bA g (aZ g (af (aa g) (af (aa g) ai))) aH) (ow (PW.pt (xo (bA g (aa g) aH) (xn (bA g (aZ g (af (aa g) (af (aa g) ai))) aH))))))) (ah (bG jg) au) au)
theorem ado{CX:aL}{Γ:aG}{X:Cx}(G:aO CX (bg eI (az bq) fo fu eW fA fB fD fE 0) Γ X):PS X ((aB bq).getD 14 (.Pass ⟨0,0,0,0⟩)) (bj Γ (cc.getD 14 (.ret (.c .aq)))):=by
 have g:=G.toGood
 show PS X (.Assign [.Name "_law_odd" _] _ _) (bj Γ (.asg 14 _))
 with_reducible exact(aU G (a_ g (cI (af (cI (af (bY (af aH (af aD ai))) ai)) (af X0 (af aH (af (cI (af (bY (af aH (af aH ai))) (af (bY (af aH (af aH ai))) ai))) ai))))) (aY g (aa g) aD)))
theorem adp{CX:aL}{Γ:aG}{X:Cx}(G:aO CX (bg eI (az bq) fo fu eW fA fB fD fE 0) Γ X):PS X ((aB bq).getD 15 (.Pass ⟨0,0,0,0⟩)) (bj Γ (cc.getD 15 (.ret (.c .aq)))):=by
 have g:=G.toGood
 show PS X (.Return (some _) _) (bj Γ (.ret _))
 with_reducible exact(bG (jR (gR g (aZ g (af (aa g) (af (aa g) ai))) aH) (kW (gR g (aZ g (af (aa g) (af (aa g) ai))) aH))))
theorem adq{CX:aL}{Γ:aG}{X:Cx}(G:aO CX (bg eI (az bq) fo fu eW fA fB fD fE 0) Γ X):bo X (aB bq) (ar Γ cc):=by
 have e:aB bq=[((aB bq).getD 0 (.Pass ⟨0,0,0,0⟩)),((aB bq).getD 1 (.Pass ⟨0,0,0,0⟩)),((aB bq).getD 2 (.Pass ⟨0,0,0,0⟩)),((aB bq).getD 3 (.Pass ⟨0,0,0,0⟩)),((aB bq).getD 4 (.Pass ⟨0,0,0,0⟩)),((aB bq).getD 5 (.Pass ⟨0,0,0,0⟩)),((aB bq).getD 6 (.Pass ⟨0,0,0,0⟩)),((aB bq).getD 7 (.Pass ⟨0,0,0,0⟩)),((aB bq).getD 8 (.Pass ⟨0,0,0,0⟩)),((aB bq).getD 9 (.Pass ⟨0,0,0,0⟩)),((aB bq).getD 10 (.Pass ⟨0,0,0,0⟩)),((aB bq).getD 11 (.Pass ⟨0,0,0,0⟩)),((aB bq).getD 12 (.Pass ⟨0,0,0,0⟩)),((aB bq).getD 13 (.Pass ⟨0,0,0,0⟩)),((aB bq).getD 14 (.Pass ⟨0,0,0,0⟩)),((aB bq).getD 15 (.Pass ⟨0,0,0,0⟩))]:=by kernel_rfl
 have e2:cc=[(cc.getD 0 (.ret (.c .aq))),(cc.getD 1 (.ret (.c .aq))),(cc.getD 2 (.ret (.c .aq))),(cc.getD 3 (.ret (.c .aq))),(cc.getD 4 (.ret (.c .aq))),(cc.getD 5 (.ret (.c .aq))),(cc.getD 6 (.ret (.c .aq))),(cc.getD 7 (.ret (.c .aq))),(cc.getD 8 (.ret (.c .aq))),(cc.getD 9 (.ret (.c .aq))),(cc.getD 10 (.ret (.c .aq))),(cc.getD 11 (.ret (.c .aq))),(cc.getD 12 (.ret (.c .aq))),(cc.getD 13 (.ret (.c .aq))),(cc.getD 14 (.ret (.c .aq))),(cc.getD 15 (.ret (.c .aq)))]:=by kernel_rfl
 rw[e,e2]
 with_reducible exact ah (ac9 G) (ah (ac_ G) (ah (ada G) (ah (adb G) (ah (ade G) (ah (adf G) (ah (adg G) (ah (adh G) (ah (adi G) (ah (adj G) (ah (adk G) (ah (adl G) (ah (adm G) (ah (adn G) (ah (ado G) (ah (adp G) (au))))))))))))))))
end L2.dH
namespace L2.B
open PySem PySem.Spec PyProof.Rows
def eY(H H':Hp):Prop:= ∀b xs,H b=some (.tup xs)→H' b=some (.tup xs)
theorem bf{H H':Hp}(h:ax H H'):eY H H':=fun b xs e=>h b _ e
theorem sameNew{H:Hp}{p:Addr}{o:HO}(h:H p=none):ax H (upd H p o):=fun b u e=>by rw[aI (bz e h)];exact e
def aW(c:Addr)(H H':Hp):Prop:= ∀b o,H b=some o→b≠c→H' b=some o
theorem aW.upd{H:Hp}{c:Addr}{o:HO}:aW c H (upd H c o):=fun b u e n=>by rw[aI n];exact e
theorem aW.trans{c:Addr}{H H1 H2:Hp}(a:aW c H H1)(b:aW c H1 H2):aW c H H2:=fun d o e n=>b d o (a d o e n) n
theorem aW.same{c:Addr}{H H1 H2:Hp}(a:aW c H H1)(b:ax H1 H2):aW c H H2:=fun d o e n=>b d o (a d o e n)
theorem sameBut{c:Addr}{H H1 H2:Hp}(a:ax H H1)(b:aW c H1 H2):aW c H H2:=fun d o e n=>b d o (a d o e) n
theorem jj{c:Addr}{H H1 H2:Hp}(a:ax H H1)(hc:H c=none)(b:aW c H1 H2):ax H H2:=fun d o e=>b d o (a d o e) (bz e hc)
theorem aW.da{c:Addr}{H H':Hp}{xs:List V}(h:aW c H H')(hc:H c=some (.lst xs)):eY H H':=fun b ys e=>h b _ e (fun z=>by rw[z,hc] at e;cases e)
theorem iF{c:Bool}{A B:Prop}(q:B)(h:c=false:=by first | rfl | decide):if c=true then A else B:=by
 rw[h];exact fN q
theorem iT{c:Bool}{A B:Prop}(q:A)(h:c=true:=by first | rfl | decide):if c=true then A else B:=by
 rw[h];exact dZ q
inductive Pt where | keep (n:Int) | put (s:Str) | cut (s:Str)
 deriving DecidableEq
def Pt.word:Pt→Str | .keep _=> "keep" | .put _=> "put" | .cut _=> "cut"
def Pt.val:Pt→V | .keep n=> .int n | .put s=> .str s | .cut s=> .str s
def gA(H:Hp)(v:V)(p:Pt):Prop:= ∃a,v= .ref a∧H a=some (.tup [.str p.word,p.val])
abbrev aM(H:Hp):List V→List Pt→Prop:=Paired (gA H)
theorem gA.mono{H H':Hp}{v:V}{p:Pt}(t:eY H H')(h:gA H v p):gA H' v p:=by
 obtain⟨a,e,h⟩:=h
 exact⟨a,e,t _ _ h⟩
theorem aM.mono{H H':Hp}(t:eY H H'): ∀{vs:List V} {ps:List Pt},aM H vs ps→aM H' vs ps
 | _,_, .nil=> .nil
 | _,_, .cons h r=> .cons (h.mono t) (aM.mono t r)
theorem aM.get{H:Hp}: ∀{vs:List V} {ps:List Pt} {i:Nat} {v:V},aM H vs ps→vs[i]?=some v→ ∃p,ps[i]?=some p∧gA H v p
 | _,_,i,v, .nil,e=>by simp at e
 | _,_,0,v, .cons h r,e=>by simp at e;subst e;exact⟨_,rfl,h⟩
 | _,_,i+1,v, .cons h r,e=>by
  obtain⟨p,a,b⟩:=aM.get (i:=i) r (by simpa using e)
  exact⟨p,by simpa using a,b⟩
theorem aM.snoc{H:Hp}{vs:List V}{ps:List Pt}{v:V}{p:Pt}(h:aM H vs ps)(q:gA H v p):aM H (vs++ [v]) (ps++ [p]):=Paired.snoc h q
theorem aM.dropLast{H:Hp}: ∀{vs:List V} {ps:List Pt},aM H vs ps→aM H vs.dropLast ps.dropLast
 | _,_, .nil=> .nil
 | _,_, .cons h .nil=> .nil
 | _,_, .cons h (.cons h2 r)=> .cons h (aM.dropLast (.cons h2 r))
def xJ:Sp:=fun vs H Q E=> ∃i,vs=[.int i]∧Q (.bl true) H
def iK(w a:Str):Bool:=w !=a && !(a=="cut" && w=="put")
def qS:Sp:=fun vs H Q E=> ∃w a,vs=[.str w, .str a]∧Q (.bl (iK w a)) H
theorem ads{K:PySem.W.Frag}(vs:List V)(H:Hp)(Q:VK)(E:XK)(h:qS vs H Q E):ar (aQ K [] [] (E:=E)) Bj {nx:=fun _ H'=>Q .aq H',rt:=Q} (start Bi vs) H:=by
 obtain⟨w,a,rfl,q⟩:=h
 refine⟨_,rfl,_,rfl,_,rfl, ?_⟩
 unfold iK at q
 refine hV (fun h=> ?_) (fun h=> ?_)
 ·rw[Bool.true_xor,fL] at h
  have e:(w !=a)=true:=h
  rw[e] at q
  refine⟨_,rfl,_,rfl, ?_⟩
  refine hV (fun h2=> ?_) (fun h2=> ?_)
  ·rw[Bool.false_xor,fL] at h2
   rw[h2] at q
   refine⟨_,rfl, ?_⟩
   show Q (.bl (!(false ^^ decide (V.str w=V.str "put")))) H
   rw[Bool.false_xor,fL]
   exact q
  ·rw[Bool.false_xor,fL] at h2
   have e2:(a=="cut")=false:=by simpa using h2
   rw[e2] at q
   exact q
 ·rw[Bool.true_xor,fL] at h
  have e:(w !=a)=false:=by simpa using h
  rw[e] at q
  exact q
def qT:Pt→Int | .keep n=>n | .put s=>s.length | .cut s=>s.length
def Ck:Pt→Prop | .keep _=>True | .put s=>s.length≤1000000 | .cut s=>s.length≤1000000
theorem bL{n:Nat}(h:n≤1000000):n≤sizeLine:=Nat.le_trans h (by decide)
theorem cU{n:Nat}(h:n≤1000000):n<sizeLine:=Nat.lt_of_le_of_lt h (by decide)
def gB:Sp:=fun vs H Q E=> ∃v p,vs=[v]∧gA H v p∧Ck p∧Q (.int (qT p)) H
theorem adt{K:PySem.W.Frag}(vs:List V)(H:Hp)(Q:VK)(E:XK)(h:gB vs H Q E):ar (aQ K [] [] (E:=E)) Bm {nx:=fun _ H'=>Q .aq H',rt:=Q} (start Bl vs) H:=by
 obtain⟨v,p,rfl,⟨a,rfl,ha⟩,ho,q⟩:=h
 refine⟨_,rfl, .inr (.inl ⟨_,_,_,_,rfl,rfl,aF.of ha,rfl,_,rfl, ?_⟩)⟩
 rw[Bool.false_xor,fL]
 cases p with
 | keep n=>exact dZ ⟨_,rfl, .inr (.inl ⟨_,_,_,_,rfl,rfl,aF.of ha,rfl,q⟩)⟩
 | put s=>exact fN ⟨_,rfl, .inr (.inl ⟨_,_,_,_,rfl,rfl,aF.of ha,rfl,bL ho,q⟩)⟩
 | cut s=>exact fN ⟨_,rfl, .inr (.inl ⟨_,_,_,_,rfl,rfl,aF.of ha,rfl,bL ho,q⟩)⟩
def cell(ns:List Int)(k:Nat):Int:=ns.getD k 0
def ux(K:PySem.W.Frag):Sp:=fun vs H Q E=> ∃(a:Addr) (ns:List Int) (k:Int),vs=[.ref a, .int k]∧aj K H a (ns.map V.int)∧0≤k∧Q (.int (cell ns k.toNat)) H
theorem adu{K:PySem.W.Frag}(vs:List V)(H:Hp)(Q:VK)(E:XK)(h:ux K vs H Q E):ar (aQ K [] [] (E:=E)) Bw {nx:=fun _ H'=>Q .aq H',rt:=Q} (start Bv vs) H:=by
 obtain⟨a,ns,k,rfl,ha,hk,q⟩:=h
 refine⟨_,rfl,_,rfl, .inl ⟨_,ha,trivial,_,rfl, ?_⟩⟩
 rw[List.length_map]
 refine hV (fun h=> ?_) (fun h=> ?_)
 ·have aS:k< (ns.length:Int):=of_decide_eq_true h
  refine⟨_,rfl,_,rfl, .inl ⟨_,_,_,_,rfl,rfl,ha, ?_,q⟩⟩
  have e:=kr (xs:=ns.map V.int) (j:=k.toNat) (v:= .int (cell ns k.toNat)) (by
   have:k.toNat<ns.length:=by omega
   simp[cell,this])
  rw[show((k.toNat:Nat):Int)=k by omega] at e
  exact e
 ·have hge: ¬k< (ns.length:Int):=fun z=>h (decide_eq_true z)
  have e:cell ns k.toNat=0:=by
   have z:ns[k.toNat]?=none:=List.getElem?_eq_none_iff.mpr (by omega)
   unfold cell
   rw[List.getD_eq_getElem?_getD,z];rfl
  rw[e] at q
  exact q
theorem Cm:(0:Int) <1000003:=by decide
def mixed(c k:Int):Int:=let n:=(c*48271+7919*k+11) % 1000003;n*n % 1000003*n % 1000003
def lq:Sp:=fun vs H Q E=> ∃c k,vs=[.int c, .int k]∧Q (.int (mixed c k)) H
theorem adv{K:PySem.W.Frag}(vs:List V)(H:Hp)(Q:VK)(E:XK)(h:lq vs H Q E):ar (aQ K [] [] (E:=E)) By {nx:=fun _ H'=>Q .aq H',rt:=Q} (start Bx vs) H:=by
 obtain⟨c,k,rfl,q⟩:=h
 have h0: ∀z:Int,0≤z % 1000003∧z % 1000003<1000003:=fun z=> ⟨Int.emod_nonneg _ (by decide),Int.emod_lt_of_pos _ (by decide)⟩
 have h1:=h0 (c*48271+7919*k+11)
 have h2:=h0 ((c*48271+7919*k+11) % 1000003* ((c*48271+7919*k+11) % 1000003))
 refine⟨_,rfl, .inr ⟨by decide,by decide⟩,_,rfl, .inl ⟨by decide,by decide⟩,Cm, ?_⟩
 refine⟨_,rfl,_,rfl, .inl ⟨by omega,by omega⟩,Cm,_,rfl, .inl ⟨by omega,by omega⟩,Cm, ?_⟩
 exact q
theorem adw(c k:Int):0≤mixed c k∧mixed c k<1000003:=⟨Int.emod_nonneg _ (by decide),Int.emod_lt_of_pos _ (by decide)⟩
def SG:Str:=" !\"#$&'()*+,-./0123456789:;<=>?@ABCDEFGHIJKLMNOPQRSTUVWXYZ[\\]^_`abcdefghijklmnopqrstuvwxyz{|}~\n"
def good(x:Str):Prop:=x.length≤1000000∧ ∀c∈x.cps.toList,SG.cps.contains c=true
theorem takeWhile_all{α:Type}(p:α→Bool): ∀l:List α,(∀c∈l,p c=true)→l.takeWhile p=l
 | [],_=>rfl
 | c::l,h=>by rw[List.takeWhile_cons,h c List.mem_cons_self,takeWhile_all p l fun d hd=>h d (List.mem_cons_of_mem _ hd)];rfl
theorem adx(x y:Str)(h: ∀c∈x.cps.toList,y.cps.contains c=true):Txt.lstripChars x y="":=by
 have e0:stripLo y.cps.contains true x=x.length:=by
  unfold stripLo
  rw[if_pos rfl,takeWhile_all _ _ h]
  simp[Str.length]
 have e1:stripHi y.cps.contains false x x.length=x.length:=rfl
 unfold Txt.lstripChars Txt.stripBy stripSame stripped
 rw[e0,e1]
 split
 ·rename_i hq
  simp only[Bool.and_eq_true,beq_iff_eq] at hq
  have:x.cps= #[]:=Array.eq_empty_of_size_eq_zero hq.1
  obtain⟨c⟩:=x
  have e:c= #[]:=this
  subst e
  rfl
 ·show(⟨x.cps.extract x.length x.length⟩:Str)=_
  have:x.cps.extract x.length x.length= #[]:=by simp[Str.length]
  rw[this];rfl
theorem Cn{H:Hp}{a:Addr}{xs:List V}{T:Ty}{k:Bool→Prop}(h:H a=some (.tup xs))(q:k (T== .tuple)):cv T (.ref a) H k:=by
 show(match H a with | some (.lst _)=>k (T== .list) | some (.bQ _ (.lst _))=>k (T== .list) | some (.tup _)=>k (T== .tuple) | some (.dK _)=>k (T== .dict) | some (.dT _)=>k (T== .dict) | _=>False)
 rw[h];exact q
theorem Co{H:Hp}{a:Addr}{xs:List V}{T:Ty}{k:Bool→Prop}(h:H a=some (.lst xs))(q:k (T== .list)):cv T (.ref a) H k:=by
 show(match H a with | some (.lst _)=>k (T== .list) | some (.bQ _ (.lst _))=>k (T== .list) | some (.tup _)=>k (T== .tuple) | some (.dK _)=>k (T== .dict) | some (.dT _)=>k (T== .dict) | _=>False)
 rw[h];exact q
abbrev gS:List (Str×V):=[("SIGNS", .str SG)]
def ady:Sp:=fun vs H Q E=> ∃x,vs=[.str x]∧good x∧Q (.bl true) H
theorem adz{K:PySem.W.Frag}(vs:List V)(H:Hp)(Q:VK)(E:XK)(h:ady vs H Q E):ar (aQ K [] gS (E:=E)) xu {nx:=fun _ H'=>Q .aq H',rt:=Q} (start xt vs) H:=by
 obtain⟨x,rfl,hx,q⟩:=h
 refine⟨_,rfl,rfl,_,rfl,dZ ⟨_,rfl,rfl,bL hx.1, ?_⟩⟩
 show Q (.bl (false ^^ decide (V.str (Txt.lstripChars x SG)=V.str ""))) H
 rw[adx x SG hx.2,decide_eq_true rfl]
 exact q
def br:Pt→Prop | .keep n=>1≤n | .put s=>good s∧s≠"" | .cut s=>good s∧s≠""
def adA(K:PySem.W.Frag):Sp:=fun vs H Q E=> ∃w p xs,vs=[.str w, .ref p]∧aF K H p xs∧xs.all eE=true∧Q (.bl (gg (.str w) xs)) H
theorem adB{K:PySem.W.Frag}(vs:List V)(H:Hp)(Q:VK)(E:XK)(h:adA K vs H Q E):ar (aQ K [] [] (E:=E)) xr {nx:=fun _ H'=>Q .aq H',rt:=Q} (start xq vs) H:=by
 obtain⟨w,p,xs,rfl,hp,hf,q⟩:=h
 exact⟨_,rfl,rfl,_,rfl,dZ ⟨_,rfl,_,rfl,p,xs,rfl,(.inr hp),rfl,hf,q⟩⟩
def Cp:Sp:=fun vs H Q E=> ∃v p,vs=[v]∧gA H v p∧br p∧ ∀H',ax H H'→Q (.bl true) H'
def chainOk:Str→List Pt→Bool
 | _,[]=>true
 | a,p::r=>iK p.word a && chainOk p.word r
def ib(a:Str)(ps:List Pt):Nat→Str
 | 0=>a
 | i+1=>match ps[i]? with | some p=>p.word | none=> ""
theorem Cq: ∀(ps:List Pt) (a:Str) (i:Nat) (p:Pt),chainOk a ps=true→ps[i]?=some p→iK p.word (ib a ps i)=true
 | [],_,_,_,_,h=>by simp at h
 | q::r,a,0,p,h,e=>by
  simp only[chainOk,Bool.and_eq_true] at h
  simp at e;subst e;exact h.1
 | q::r,a,i+1,p,h,e=>by
  simp only[chainOk,Bool.and_eq_true] at h
  have e':r[i]?=some p:=by simpa using e
  have ih:=Cq r q.word i p h.2 e'
  cases i with
  | zero=>simpa[ib] using ih
  | succ i=>simpa[ib] using ih
abbrev adC:List (Str×Sp):=[("is_part",Cp),("may_follow",qS)]
def xM:Sp:=fun vs H Q E=> ∃a xs ps,vs=[.ref a]∧H a=some (.lst xs)∧aM H xs ps∧(∀p∈ps,br p)∧chainOk "" ps=true∧ ∀H',ax H H'→Q .aq H'
theorem adD{K:PySem.W.Frag}{et:List (Str×Addr)}(vs:List V)(H:Hp)(Q:VK)(E:XK)(h:xM vs H Q E):ar (aQ K adC [] (et:=et) (E:=E)) uk {nx:=fun _ H'=>Q .aq H',rt:=Q} (start xv vs) H:=by
 obtain⟨a,xs,ps,rfl,ha,bN,aw,dh,q⟩:=h
 refine⟨_,rfl,rfl,Co ha ⟨_,rfl,a,rfl,⟨_,aj.of ha⟩,iG (K:=K) (a:=a) (xs:=xs) (fun i σ H2=> ∃v,σ=[some (.ref a),some (.str (ib "" ps i)),v]∧ax H H2) ⟨none,rfl,ax.refl _⟩
  (fun i σ H2 _ ⟨_,_,s2⟩=>aj.of (s2 _ _ ha)) ?_ ?_⟩⟩
 ·rintro i x σ H2 hi ⟨v,rfl,s2⟩
  obtain⟨p,hp,eJ⟩:=bN.get hi
  obtain⟨b,rfl,hb⟩:=eJ.mono (bf s2)
  refine⟨_,rfl,_,p,rfl,⟨b,rfl,hb⟩,aw p (List.mem_of_getElem? hp),fun H3 s3=> ?_⟩
  refine⟨_,rfl, .inr (.inl ⟨_,_,_,_,rfl,rfl,aF.of (s3 _ _ hb),rfl,_,rfl,p.word,_,rfl, ?_⟩)⟩
  have e:=Cq ps "" i p dh hp
  show(fun c H1=>if (!c)=true then _ else _) (iK p.word (ib "" ps i)) H3
  rw[e]
  refine⟨_,rfl, .inr (.inl ⟨_,_,_,_,rfl,rfl,aF.of (s3 _ _ hb),rfl,some (.ref b), ?_,s2.trans s3⟩)⟩
  show[some (V.ref a),some (V.str p.word),some (V.ref b)]=_
  have e2:ib "" ps (i+1)=p.word:=by simp only[ib,hp]
  rw[e2]
 ·rintro σ H2 ⟨v,rfl,s2⟩
  exact q H2 s2
def overOf(ps:List Pt):List Int:=(ps.filter fun p=>decide (p.word≠ ("put":Str))).map qT
def pF(ps:List Pt):List Int:=(ps.filter fun p=>decide (p.word≠ ("cut":Str))).map qT
abbrev Ni:List (Str×Sp):=[("need_change",xM),("part_size",gB)]
def fF:Sp:=fun vs H Q E=> ∃a xs ps,vs=[.ref a]∧H a=some (.lst xs)∧aM H xs ps∧(∀p∈ps,br p)∧chainOk "" ps=true∧ps.length≤1000000∧
 ∀t H',ax H H'→H' t=some (.tup [.int (overOf ps).sum, .int (pF ps).sum])→Q (.ref t) H'
theorem uz{p:Pt}(h:br p):Ck p:=by
 cases p with
 | keep n=>trivial
 | put s=>exact h.1.1
 | cut s=>exact h.1.1
theorem Nj{α:Type}(p:α→Bool)(l:List α)(i:Nat)(v:α)(h:l[i]?=some v):(l.take (i+1)).filter p=(l.take i).filter p++ (if p v then [v] else []):=by
 rw[List.take_add_one,h,List.filter_append]
 cases hp:p v<;>simp[hp]
theorem adE{K:PySem.W.Frag}(vs:List V)(H:Hp)(Q:VK)(E:XK)(h:fF vs H Q E):ar (aQ K Ni [] (E:=E)) um {nx:=fun _ H'=>Q .aq H',rt:=Q} (start xx vs) H:=by
 obtain⟨a,xs,ps,rfl,ha,bN,aw,dh,hlen,q⟩:=h
 refine⟨_,rfl,a,xs,ps,rfl,ha,bN,aw,dh,fun H1 s1=> ?_⟩
 have hl:=Paired.length bN
 have comp: ∀(w:Str) (H1:Hp) (Q1:VK) (σ:St),ax H H1→σ[0]?=some (some (.ref a))→
   (∀b H2,ax H H2→H2 b=some (.lst (((ps.filter fun p=>decide (p.word≠w)).map qT).map V.int))→Q1 (.ref b) H2)→
   ag (aQ K Ni [] (E:=E)) (.comp none [] .list [(.v 0)] (some (.cmp .NotEq (.ix (.v 0) (.c (.int 0))) (.c (.str w)))) (.call 1 [(.v 0)])) σ H1 Q1:=by
  intro w H1 Q1 σ s1 hσ hq
  refine⟨_,hσ,a,rfl,⟨_,aj.of (s1 _ _ ha)⟩,fun i m ys H2=>m=xs.length - i∧i≤xs.length∧ax H H2∧ys=(((ps.take i).filter fun p=>decide (p.word≠w)).map qT).map V.int,⟨_,rfl,Nat.zero_le _,s1,rfl⟩, ?_⟩
  rintro i m ys H2 ⟨rfl,hi,s2,rfl⟩
  by_cases aS:i<xs.length
  ·refine .inr ⟨⟨xs,xs[i],aj.of (s2 _ _ ha),by simp[aS]⟩, ?_⟩
   rintro x H3 ⟨rfl,hx⟩
   have jd:=hx xs (aj.of (s2 _ _ ha))
   obtain⟨p,hp,eJ⟩:=bN.get jd
   obtain⟨b,rfl,hb⟩:=eJ.mono (bf s2)
   refine⟨_,rfl, .inr (.inl ⟨_,_,_,_,rfl,rfl,aF.of hb,rfl,_,rfl, ?_⟩)⟩
   rw[Bool.true_xor,fL]
   have tf:=Nj (fun p=>decide (p.word≠w)) ps i p hp
   have hc:((ps.take i).filter fun p=>decide (p.word≠w)).length≤1000000:=Nat.le_trans (List.length_filter_le _ _) (Nat.le_trans (List.length_take_le _ _) (by omega))
   refine hV (fun h=> ?_) (fun h=> ?_)
   ·have e:decide (p.word≠w)=true:=by simpa using h
    refine⟨_,rfl,_,p,rfl,⟨b,rfl,hb⟩,uz (aw p (List.mem_of_getElem? hp)), ?_,xs.length - (i+1),by omega,rfl,aS,s2, ?_⟩
    ·rw[List.length_map,List.length_map];exact cU hc
    ·rw[tf,e];simp
   ·have e:decide (p.word≠w)=false:=by simpa using h
    refine⟨xs.length - (i+1),by omega,rfl,aS,s2, ?_⟩
    rw[tf,e];simp
  ·have eK:i=xs.length:=by omega
   subst eK
   refine .inl ⟨⟨xs,aj.of (s2 _ _ ha),Nat.le_refl _⟩,fun p hp=> ?_⟩
   have e:ps.take xs.length=ps:=List.take_of_length_le (by omega)
   rw[e]
   exact hq p _ (s2.trans (sameNew hp)) ay
 refine Bd (LQ (LR (comp "put" H1 _ _ s1 rfl fun b1 H2 s2 e2=> ⟨_,aj.of e2, ?_⟩)))
 refine Bd (LQ (LR (comp "cut" H2 _ _ s2 rfl fun b2 H3 s3 e3=> ⟨_,aj.of e3, ?_⟩)))
 refine⟨_,rfl,_,rfl,(by show 2≤sizeLine;decide),fun t ht=> ?_⟩
 exact q t _ (s3.trans (sameNew ht)) ay
def cat(ts:List Str):Str:=Txt.join "" ts
def sz(ts:List Str):Nat:=(ts.map Str.length).sum
theorem ofString_empty:(Str.ofString "")=⟨#[]⟩:=rfl
theorem pG(ts:List Str):(cat ts).cps.toList=(ts.map fun t=>t.cps.toList).flatten:=by
 have e:(Str.ofString "").cps= #[]:=rfl
 cases ts with
 | nil=>rfl
 | cons t r=>
  show(r.foldl (fun acc p=>acc++ (Str.ofString "").cps++p.cps) t.cps).toList=_
  rw[e]
  have go: ∀(r:List Str) (acc:Array Nat),(r.foldl (fun acc p=>acc++ #[]++p.cps) acc).toList=acc.toList++ (r.map fun t=>t.cps.toList).flatten:=by
   intro r
   induction r with
   | nil=>intro acc;simp
   | cons q r ih=>
    intro acc
    show(r.foldl (fun acc p=>acc++ #[]++p.cps) (acc++ #[]++q.cps)).toList=_
    rw[ih];simp
  rw[go];simp
theorem fU{x y:Str}(h:x.cps.toList=y.cps.toList):x=y:=by
 obtain⟨x⟩:=x
 obtain⟨y⟩:=y
 exact congrArg Str.mk (Array.toList_inj.mp h)
theorem app_list(x y:Str):(x++y).cps.toList=x.cps.toList++y.cps.toList:=by
 show(x.cps++y.cps).toList=_
 simp
theorem Cr(a b:List Str):cat (a++b)=cat a++cat b:=fU (by rw[app_list,pG,pG,pG];simp)
theorem Cs(x:Str):cat [x]=x:=fU (by rw[pG];simp)
theorem len_list(x:Str):x.length=x.cps.toList.length:=by simp[Str.length]
theorem xO(ts:List Str):(cat ts).length=sz ts:=by
 rw[len_list,pG,List.length_flatten]
 unfold sz
 rw[List.map_map]
 congr 1
theorem Nk(x:Str):x++ (Str.ofString "")=x:=fU (by rw[app_list];simp[ofString_empty])
theorem qU(x:Str):(Str.ofString "")++x=x:=fU (by rw[app_list];simp[ofString_empty])
theorem Nl(a b:List Str):sz (a++b)=sz a+sz b:=by simp[sz]
theorem joinOk_of{ts:List Str}(h:sz ts≤1000000):JoinOk "" ts=true:=by
 have go: ∀(l:List Str) (n:Nat),l.foldl (· + ·.length+ (Str.ofString "").length) n=n+sz l:=by
  intro l
  induction l with
  | nil=>intro n;rfl
  | cons t r ih=>
   intro n
   show r.foldl _ (n+t.length+0)=_
   rw[ih]
   show n+t.length+0+sz r=n+ (t.length+sz r)
   omega
 unfold JoinOk
 have e:ts.toArray.foldl (· + ·.length+ (Str.ofString "").length) 0=sz ts:=by
  rw[List.foldl_toArray,go,Nat.zero_add]
 rw[e]
 show(!decide (sz ts>sizeLine))=true
 rw[decide_eq_false (by have:=bL h;omega)]
 rfl
def txt(mk:Str→Pt)(x:Str):List Pt:=if x="" then [] else [mk x]
def du(ch:List Pt)(cM cW:List Str):List Pt:=ch++txt .put (cat cM)++txt .cut (cat cW)
def xQ:Sp:=fun vs H Q E=> ∃c p q xs ps cM cW,vs=[.ref c, .ref p, .ref q]∧H c=some (.lst xs)∧aM H xs ps∧H p=some (.lst (cM.map .str))∧H q=some (.lst (cW.map .str))∧
 sz cM≤1000000∧sz cW≤1000000∧ps.length≤900000∧ ∀H' bc,aW c H H'→H' c=some (.lst bc)→aM H' bc (du ps cM cW)→Q .aq H'
theorem adF{K:PySem.W.Frag}(vs:List V)(H:Hp)(Q:VK)(E:XK)(h:xQ vs H Q E):ar (aQ K [] [] (E:=E)) Br {nx:=fun _ H'=>Q .aq H',rt:=Q} (start Bq vs) H:=by
 obtain⟨c,p,q,xs,ps,cM,cW,rfl,hc,bN,hp,hq,hz1,hz2,hl,k⟩:=h
 have hlen:=Paired.length bN
 refine⟨rfl,_,rfl,cM,aj.of hp,joinOk_of hz1, ?_⟩
 refine⟨rfl,_,rfl,cW,aj.of hq,joinOk_of hz2, ?_⟩
 have Nm: ∀(i:Nat) (w x:Str) (mk:Str→Pt) (H1:Hp) (ic:List V) (lu:List Pt) (σ:St) (D:Ends),(∀y,(mk y).word=w∧(mk y).val= .str y)→H1 c=some (.lst ic)→aM H1 ic lu→lu.length≤950000→σ[0]?=some (some (.ref c))→σ[i]?=some (some (.str x))→
   (∀H2 eZ,aW c H1 H2→H2 c=some (.lst eZ)→aM H2 eZ (lu++txt mk x)→D.nx σ H2)→
   bj (aQ K [] [] (E:=E)) (.ite (.cmp .NotEq (.v i) (.c (.str ""))) [.drop (.bJ .append (.v 0) [(.tup [(.c (.str w)),(.v i)])])] []) D σ H1:=by
  intro i w x mk H1 ic lu σ D Nn gU qW oh h0 hi kk
  have adI:=Paired.length qW
  refine⟨_,hi,_,rfl, ?_⟩
  rw[Bool.true_xor,fL]
  refine hV (fun h=> ?_) (fun h=> ?_)
  ·have ne:x≠"":=by simpa using h
   refine⟨_,h0, .inl ⟨rfl,_,aj.of gU⟩,_,hi,(by show 2≤sizeLine;decide),fun t ht=> ?_⟩
   have uA:c≠t:=bz gU ht
   refine⟨ic,(by rw[aI uA];exact gU),cU (by omega),kk _ (ic++ [.ref t]) ((sameBut (sameNew ht) aW.upd)) ay ?_⟩
   have tt:eY H1 (upd (upd H1 t (.tup [.str w, .str x])) c (.lst (ic++ [.ref t]))):=(sameBut (sameNew ht) aW.upd).da gU
   unfold txt
   rw[if_neg ne]
   refine aM.snoc (qW.mono tt) ⟨t,rfl, ?_⟩
   rw[aI uA.symm,ay,(Nn x).1,(Nn x).2]
  ·have e:x="":=by simpa using h
   refine kk H1 ic (fun b o e _=>e) gU ?_
   unfold txt
   rw[if_pos e,List.append_nil]
   exact qW
 refine Nm 3 "put" (cat cM) .put H xs ps _ _ (fun _=> ⟨rfl,rfl⟩) hc bN (by omega) rfl rfl fun H2 eZ b2 cB lA=> ?_
 have l2:(ps++txt .put (cat cM)).length≤950000:=by
  rw[List.length_append]
  have:(txt .put (cat cM)).length≤1:=by unfold txt;split<;>simp
  omega
 refine Nm 4 "cut" (cat cW) .cut H2 eZ _ _ _ (fun _=> ⟨rfl,rfl⟩) cB lA l2 rfl rfl fun H3 e7 b3 eL qX=> ?_
 exact k H3 e7 (b2.trans b3) eL qX
def dI(ch:List Pt)(n:Int):List Pt:=match ch.getLast? with
 | some (.keep m)=>ch.dropLast++ [.keep (n+m)]
 | _=>ch++ [.keep n]
def xR:Sp:=fun vs H Q E=> ∃c n xs ps,vs=[.ref c, .int n]∧H c=some (.lst xs)∧aM H xs ps∧ps.length≤900000∧
 ∀H' bc,aW c H H'→H' c=some (.lst bc)→aM H' bc (dI ps n)→Q .aq H'
theorem aM.last{H:Hp}{xs:List V}{ps:List Pt}(h:aM H xs ps)(hn:xs.length≠0): ∃v p,xs[xs.length - 1]?=some v∧eS xs (-1)=some v∧ps.getLast?=some p∧gA H v p:=by
 have aS:xs.length - 1<xs.length:=by omega
 obtain⟨p,hp,pv⟩:=h.get (i:=xs.length - 1) (v:=xs[xs.length - 1]) (by simp[aS])
 refine⟨xs[xs.length - 1],p,by simp[aS], ?_, ?_,pv⟩
 ·unfold eS jb
  have: ¬(0:Int)≤ -1:=by decide
  rw[if_neg this,if_pos (by omega)]
  have e:((-1:Int)+ (xs.length:Int)).toNat=xs.length - 1:=by omega
  show xs[((-1:Int)+ (xs.length:Int)).toNat]?=_
  rw[e];simp[aS]
 ·rw[List.getLast?_eq_getElem?,←Paired.length h];exact hp
theorem adJ{K:PySem.W.Frag}(vs:List V)(H:Hp)(Q:VK)(E:XK)(h:xR vs H Q E):ar (aQ K [] [] (E:=E)) Bp {nx:=fun _ H'=>Q .aq H',rt:=Q} (start Bo vs) H:=by
 obtain⟨c,n,xs,ps,rfl,hc,bN,hl,k⟩:=h
 have hlen:=Paired.length bN
 have fin: ∀(m:Int) (H1:Hp) (ic:List V) (lu:List Pt),aW c H H1→H1 c=some (.lst ic)→aM H1 ic lu→lu.length≤900000→dI ps n=lu++ [.keep m]→
   ar (aQ K [] [] (E:=E)) [.drop (.bJ .append (.v 0) [(.tup [(.c (.str "keep")),(.v 1)])])] {nx:=fun _ H'=>Q .aq H',rt:=Q} [some (.ref c),some (.int m)] H1:=by
  intro m H1 ic lu b1 gU qW oh e
  have adI:=Paired.length qW
  refine⟨_,rfl, .inl ⟨rfl,_,aj.of gU⟩,_,rfl,(by show 2≤sizeLine;decide),fun t ht=> ?_⟩
  have uA:c≠t:=bz gU ht
  refine⟨ic,(by rw[aI uA];exact gU),cU (by omega),k _ (ic++ [.ref t]) (b1.trans (sameBut (sameNew ht) aW.upd)) ay ?_⟩
  rw[e]
  refine aM.snoc (qW.mono ((sameBut (sameNew ht) aW.upd).da gU)) ⟨t,rfl, ?_⟩
  rw[aI uA.symm,ay];rfl
 refine⟨_,rfl, .inl ⟨_,aj.of hc,trivial,_,rfl, ?_⟩⟩
 refine hV (fun h=> ?_) (fun h=> ?_)
 ·have hn:xs.length≠0:=by
   have:=of_decide_eq_true h
   omega
  obtain⟨v,p,e1,e2,e3,a,rfl,ha⟩:=bN.last hn
  refine⟨_,rfl, .inl ⟨_,_,_,_,rfl,rfl,aj.of hc,e2, .inr (.inl ⟨_,_,_,_,rfl,rfl,aF.of ha,rfl,_,rfl, ?_⟩)⟩⟩
  rw[Bool.false_xor,fL]
  cases p with
  | keep m=>
   have qY:upd H c (.lst xs.dropLast) a=some (.tup [.str "keep", .int m]):=by rw[aI (gM ha hc (by intro z;cases z))];exact ha
   refine⟨_,rfl,_,rfl, .inl ⟨rfl,_,aj.of hc⟩,xs,_,hc,e1, .inr (.inl ⟨_,_,_,_,rfl,rfl,aF.of qY,rfl, ?_⟩)⟩
   ·refine fin (n+m) _ xs.dropLast ps.dropLast aW.upd ay (bN.dropLast.mono (aW.upd.da hc)) (by rw[List.length_dropLast];omega) ?_
    unfold dI
    rw[e3]
  | put s=>exact fin n H xs ps (fun b o e _=>e) hc bN hl (by unfold dI;rw[e3])
  | cut s=>exact fin n H xs ps (fun b o e _=>e) hc bN hl (by unfold dI;rw[e3])
 ·have e0:ps=[]:=by
   have: ¬(0:Int) < (xs.length:Int):=fun z=>h (decide_eq_true z)
   exact List.length_eq_zero_iff.mp (by omega)
  exact fin n H xs ps (fun b o e _=>e) hc bN hl (by rw[e0];rfl)
abbrev NS:=List Pt×List Str×List Str
def df:NS→Pt→NS
 | (ch,p,c), .put s=> (ch,p++ [s],c)
 | (ch,p,c), .cut s=> (ch,p,c++ [s])
 | (ch,p,c), .keep n=>if 0<n then (dI (du ch p c) n,[],[]) else (ch,p,c)
def pH(ps:List Pt):List Pt:=let s:=ps.foldl df ([],[],[]);du s.1 s.2.1 s.2.2
def cZ:Pt→Nat | .keep _=>0 | .put s=>s.length | .cut s=>s.length
def aJ(ps:List Pt):Nat:=(ps.map cZ).sum
theorem xS(ps:List Pt)(i:Nat):aJ (ps.take i)≤aJ ps:=by
 have:aJ ps=aJ (ps.take i)+aJ (ps.drop i):=by
  unfold aJ
  rw[←List.sum_append,←List.map_append,List.take_append_drop]
 omega
theorem Ct{ps:List Pt}{i:Nat}{p:Pt}(h:ps[i]?=some p):aJ (ps.take (i+1))=aJ (ps.take i)+cZ p:=by
 rw[List.take_add_one,h]
 simp[aJ]
theorem Np{α β:Type}{f:β→α→β}{b:β}{l:List α}{i:Nat}{p:α}(h:l[i]?=some p):(l.take (i+1)).foldl f b=f ((l.take i).foldl f b) p:=by
 rw[List.take_add_one,h,List.foldl_append]
 rfl
theorem Nq(mk:Str→Pt)(x:Str):(txt mk x).length≤1:=by unfold txt;split<;>simp
theorem xT(ch:List Pt)(p c:List Str):(du ch p c).length≤ch.length+2:=by
 unfold du
 have:=Nq .put (cat p)
 have:=Nq .cut (cat c)
 simp only[List.length_append]
 omega
theorem Nr(ch:List Pt)(n:Int):(dI ch n).length≤ch.length+1:=by
 unfold dI
 split
 ·simp only[List.length_append,List.length_dropLast,List.length_singleton];omega
 ·simp
abbrev adK:List (Str×Sp):=[("add_texts",xQ),("add_keep",xR)]
def mZ:Sp:=fun vs H Q E=> ∃a xs ps,vs=[.ref a]∧H a=some (.lst xs)∧aM H xs ps∧ps.length≤100000∧aJ ps≤100000∧
 ∀b H' ys,ax H H'→H b=none→H' b=some (.lst ys)→aM H' ys (pH ps)→Q (.ref b) H'
theorem adL{K:PySem.W.Frag}(vs:List V)(H:Hp)(Q:VK)(E:XK)(h:mZ vs H Q E):ar (aQ K adK [] (E:=E)) Bt {nx:=fun _ H'=>Q .aq H',rt:=Q} (start Bs vs) H:=by
 obtain⟨a,xs,ps,rfl,ha,bN,hl,ht,k⟩:=h
 have hlen:=Paired.length bN
 refine⟨Nat.zero_le _,fun c hc=> ⟨Nat.zero_le _,fun p0 uB=> ⟨Nat.zero_le _,fun q0 qZ=> ?_⟩⟩⟩
 have Cu:c≠p0:=fun z=>by rw[←z,ay] at uB;cases uB
 have Nt:c≠q0:=fun z=>by rw[←z,aI Cu,ay] at qZ;cases qZ
 have Nu:p0≠q0:=fun z=>by rw[←z,ay] at qZ;cases qZ
 have s0:ax H (upd (upd (upd H c (.lst [])) p0 (.lst [])) q0 (.lst [])):=(sameNew hc).trans ((sameNew uB).trans (sameNew qZ))
 have fp0:H p0=none:=(sameNew hc).free uB
 have fq0:H q0=none:=((sameNew hc).trans (sameNew uB)).free qZ
 refine⟨_,rfl,a,rfl,⟨_,aj.of (s0 _ _ ha)⟩,iG (K:=K) (a:=a) (xs:=xs) (fun i σ H2=> ∃p q ch cM cW lE w x,σ=[some (.ref a),some (.ref c),some (.ref p),some (.ref q),w,x]∧H p=none∧H q=none∧p≠c∧q≠c∧p≠q∧ax H H2∧
   H2 c=some (.lst lE)∧aM H2 lE ch∧H2 p=some (.lst (cM.map .str))∧H2 q=some (.lst (cW.map .str))∧(ps.take i).foldl df ([],[],[])=(ch,cM,cW)∧ch.length≤3*i∧cM.length≤i∧cW.length≤i∧sz cM+sz cW≤aJ (ps.take i))
  ⟨p0,q0,[],[],[],[],none,none,rfl,fp0,fq0,Cu.symm,Nt.symm,Nu,s0,(by rw[aI Nt,aI Cu,ay]), .nil,(by rw[aI Nu,ay];rfl),ay,rfl,by simp,by simp,by simp,by simp[sz]⟩
  (fun i σ H2 _ ⟨_,_,_,_,_,_,_,_,_,_,_,_,_,_,s2,_⟩=>aj.of (s2 _ _ ha)) ?_ ?_⟩
 ·rintro i x σ H2 hi ⟨p,q,ch,cM,cW,lE,w,x',rfl,fp,fq,pc,qc,pq,s2,q9,dh,m3,m4,ef,l1,l2,l3,l4⟩
  obtain⟨pt,dE,eJ⟩:=bN.get hi
  obtain⟨b,rfl,hb⟩:=eJ.mono (bf s2)
  have cR:i<ps.length:=(List.getElem?_eq_some_iff.mp dE).1
  have m5:(ps.take (i+1)).foldl df ([],[],[])=df (ch,cM,cW) pt:=by rw[Np dE,ef]
  have et:=Ct dE
  have tb:=xS ps i
  refine⟨b,_,rfl, .inl (aF.of hb),rfl,_,_,rfl,_,_,rfl,rfl, ?_⟩
  cases pt with
  | put s=>
   refine⟨_,rfl,_,rfl,_,rfl, .inl ⟨rfl,_,aj.of m3⟩,_,rfl,_,m3,cU (by rw[List.length_map];omega), ?_⟩
   have bt:aW p H2 (upd H2 p (.lst (cM.map V.str++ [.str s]))):=aW.upd
   refine⟨p,q,ch,cM++ [s],cW,lE,_,_,rfl,fp,fq,pc,qc,pq,jj s2 fp bt,bt _ _ q9 pc.symm,dh.mono (bt.da m3),(by rw[ay,List.map_append];rfl),bt _ _ m4 pq.symm,m5,by omega,by simp;omega,by omega, ?_⟩
   rw[Nl,et]
   show sz cM+ (s.length+0)+sz cW≤aJ (ps.take i)+s.length
   omega
  | cut s=>
   refine⟨_,rfl,_,rfl,_,rfl,_,rfl,_,rfl, .inl ⟨rfl,_,aj.of m4⟩,_,rfl,_,m4,cU (by rw[List.length_map];omega), ?_⟩
   have bt:aW q H2 (upd H2 q (.lst (cW.map V.str++ [.str s]))):=aW.upd
   refine⟨p,q,ch,cM,cW++ [s],lE,_,_,rfl,fp,fq,pc,qc,pq,jj s2 fq bt,bt _ _ q9 qc.symm,dh.mono (bt.da m4),bt _ _ m3 pq,(by rw[ay,List.map_append];rfl),m5,by omega,by omega,by simp;omega, ?_⟩
   rw[Nl,et]
   show sz cM+ (sz cW+ (s.length+0))≤aJ (ps.take i)+s.length
   omega
  | keep n=>
   refine⟨_,rfl,_,rfl,_,rfl,_,rfl,_,rfl,trivial,_,rfl, ?_⟩
   refine hV (fun h=> ?_) (fun h=> ?_)
   ·have hn:0<n:=of_decide_eq_true h
    have e2:df (ch,cM,cW) (.keep n)=(dI (du ch cM cW) n,[],[]):=if_pos hn
    refine⟨_,rfl,_,rfl,_,rfl,c,p,q,lE,ch,cM,cW,rfl,q9,dh,m3,m4,by omega,by omega,by omega,fun H3 e7 b3 xU Cv=> ?_⟩
    have s3:ax H H3:=jj s2 hc b3
    refine⟨Nat.zero_le _,fun p1 xV=> ⟨Nat.zero_le _,fun q1 uC=> ?_⟩⟩
    have Cw:c≠p1:=bz xU xV
    have eM:upd H3 p1 (.lst []) c=some (.lst e7):=by rw[aI Cw];exact xU
    have Cy:c≠q1:=bz eM uC
    have Nv:p1≠q1:=fun z=>by rw[←z,ay] at uC;cases uC
    have iL:upd (upd H3 p1 (.lst [])) q1 (.lst []) c=some (.lst e7):=by rw[aI Cy];exact eM
    have s5:ax H3 (upd (upd H3 p1 (.lst [])) q1 (.lst [])):=(sameNew xV).trans (sameNew uC)
    refine⟨_,rfl,_,rfl,c,n,e7,_,rfl,iL,Cv.mono (bf s5), ?_,fun H6 ie b6 uD adO=> ?_⟩
    ·have:=xT ch cM cW
     omega
    ·refine⟨p1,q1,_,[],[],ie,_,_,rfl,s3.free xV,(s3.trans (sameNew xV)).free uC,Cw.symm,Cy.symm,Nv,jj (s3.trans s5) hc b6,uD,adO,b6 _ _ (by rw[aI Nv,ay];rfl) Cw.symm,b6 _ _ (by rw[ay];rfl) Cy.symm,m5.trans e2, ?_,by simp,by simp,by simp[sz]⟩
     have:=xT ch cM cW
     have:=Nr (du ch cM cW) n
     omega
   ·have hn: ¬0<n:=fun z=>h (decide_eq_true z)
    have e2:df (ch,cM,cW) (.keep n)=(ch,cM,cW):=if_neg hn
    refine⟨p,q,ch,cM,cW,lE,_,_,rfl,fp,fq,pc,qc,pq,s2,q9,dh,m3,m4,m5.trans e2,by omega,by omega,by omega,by omega⟩
 ·rintro σ H2 ⟨p,q,ch,cM,cW,lE,w,x',rfl,fp,fq,pc,qc,pq,s2,q9,dh,m3,m4,ef,l1,l2,l3,l4⟩
  have e:ps.take xs.length=ps:=List.take_of_length_le (by omega)
  rw[e] at ef l4
  refine⟨_,rfl,_,rfl,_,rfl,c,p,q,lE,ch,cM,cW,rfl,q9,dh,m3,m4,by omega,by omega,by omega,fun H3 e7 b3 xU Cv=> ?_⟩
  refine⟨_,rfl,k c H3 e7 (jj s2 hc b3) hc xU ?_⟩
  unfold pH
  rw[ef]
  exact Cv
def A1:Str:=" !\"#$&'()*+,-./0123456789:;<=>?@ABCDEFGHIJKLMNOPQRSTUVWXYZ[\\]^_`"
def A2:Str:="abcdefghijklmnopqrstuvwxyz{|}~\n"
def A3:Str:="ab\n"
def xW(al:Str):Prop:=0<al.length∧al.length≤1000∧ ∀c∈al.cps.toList,SG.cps.contains c=true
theorem Nw{al:Str}(h:(decide (0<al.length) && decide (al.length≤1000) && al.cps.toList.all fun c=>SG.cps.contains c)=true):xW al:=by
 simp only[Bool.and_eq_true,decide_eq_true_eq,List.all_eq_true] at h
 exact⟨h.1.1,h.1.2,h.2⟩
theorem adP:xW (A1++A2):=Nw (by decide+kernel)
theorem al3:xW A3:=Nw (by decide+kernel)
theorem adR:A1.length+A2.length≤sizeLine:=by decide+kernel
abbrev Nx:List (Str×Sp):=[("_law_mixed",lq)]
def pI:Sp:=fun vs H Q E=> ∃c n,vs=[.int c, .int n]∧0≤n∧n≤1000∧ ∀x H',good x→x.length=n.toNat→ax H H'→Q (.str x) H'
def Cz(t:Str):Prop:=t.length=1∧ ∀c∈t.cps.toList,SG.cps.contains c=true
theorem xX: ∀(ts:List Str),(∀t∈ts,Cz t)→sz ts=ts.length
 | [],_=>rfl
 | t::r,h=>by
  show t.length+sz r=r.length+1
  rw[(h t List.mem_cons_self).1,xX r fun q hq=>h q (List.mem_cons_of_mem _ hq)]
  omega
theorem adS{ts:List Str}(h: ∀t∈ts,Cz t)(hl:ts.length≤1000):good (cat ts):=by
 refine⟨by rw[xO,xX ts h];omega,fun c hc=> ?_⟩
 rw[pG,List.mem_flatten] at hc
 obtain⟨l,hl,hc⟩:=hc
 obtain⟨t,ht,rfl⟩:=List.mem_map.mp hl
 exact(h t ht).2 c hc
theorem adT{K:PySem.W.Frag}(vs:List V)(H:Hp)(Q:VK)(E:XK)(h:pI vs H Q E):ar (aQ K Nx [] (E:=E)) BA {nx:=fun _ H'=>Q .aq H',rt:=Q} (start Bz vs) H:=by
 obtain⟨c,n,rfl,pJ,dA,k⟩:=h
 have fin: ∀(al:Str),xW al→ar (aQ K Nx [] (E:=E)) [.ret (.bJ .join (.c (.str "")) [(.comp none [("_law_some",2),("_law_cell",0)] .fI [(.v 1)] none (.ix (.v 1) (.bin .Mod (.bin .FloorDiv (.call 0 [(.v 2),(.v 0)]) (.c (.int 7))) (.blt .len [(.v 1)]))))])]
   {nx:=fun _ H'=>Q .aq H',rt:=Q} [some (.int c),some (.int n),some (.str al)] H:=by
  intro al ho
  refine⟨rfl,_,rfl,n,rfl,by omega,by omega,fun i m ys H2=>m=n.toNat - i∧i≤n.toNat∧H2=H∧ ∃ts:List Str,ys=ts.map V.str∧ts.length=i∧ ∀t∈ts,Cz t,⟨_,rfl,Nat.zero_le _,rfl,[],rfl,rfl,fun t ht=>by cases ht⟩, ?_⟩
  rintro i m ys H2 ⟨rfl,hi,rfl,ts,rfl,hl,xY⟩
  by_cases aS:i<n.toNat
  ·refine .inr ⟨aS, ?_⟩
   rintro x H3 ⟨rfl,rfl⟩
   refine⟨_,rfl,_,rfl,_,rfl,_,_,rfl,⟨by decide,by decide⟩,_,rfl,bL (by have:=ho.2.1;omega),(by show(0:Int) < (al.length:Int);have:=ho.1;omega), ?_⟩
   have hm:=adw c (0+ (i:Int))
   have hj0:0≤mixed c (0+ (i:Int)) / 7 % (al.length:Int):=Int.emod_nonneg _ (by have:=ho.1;omega)
   have xj:mixed c (0+ (i:Int)) / 7 % (al.length:Int) < (al.length:Int):=Int.emod_lt_of_pos _ (by have:=ho.1;omega)
   obtain⟨j,ej⟩: ∃j,j=mixed c (0+ (i:Int)) / 7 % (al.length:Int):=⟨_,rfl⟩
   rw[←ej] at hj0 xj
   have q_:j.toNat<al.cps.toList.length:=by rw[←len_list];omega
   refine .inr (.inr (.inl ⟨al,j,al.cps.toList[j.toNat],rfl,(by rw[ej]),bL (by have:=ho.2.1;omega), ?_, ?_,n.toNat - (i+1),by omega,rfl,aS,rfl,ts++ [⟨#[al.cps.toList[j.toNat]]⟩],(by rw[List.map_append];rfl),by simp[hl], ?_⟩))
   ·have e:=kr (xs:=al.cps.toList) (j:=j.toNat) (v:=al.cps.toList[j.toNat]) (by simp[q_])
    rw[show((j.toNat:Nat):Int)=j by omega] at e
    exact e
   ·rw[List.length_map];exact cU (by omega)
   ·intro t ht
    rcases List.mem_append.mp ht with z | z
    ·exact xY t z
    ·rw[List.mem_singleton.mp z]
     refine⟨rfl,fun d hd=> ?_⟩
     have:d=al.cps.toList[j.toNat]:=by simpa using hd
     rw[this]
     exact ho.2.2 _ (List.getElem_mem q_)
  ·have eK:i=n.toNat:=by omega
   refine .inl ⟨by show n.toNat≤i;omega,fun p hp=> ?_⟩
   refine⟨ts,aj.of ay,joinOk_of (by rw[xX ts xY];omega), ?_⟩
   exact k (cat ts) _ (adS xY (by omega)) (by rw[xO,xX ts xY,hl,eK]) (sameNew hp)
 refine⟨_,rfl,adR,_,rfl,(by show(0:Int) <3;decide),_,rfl, ?_⟩
 refine hV (fun h=> ?_) (fun h=> ?_)
 ·exact fin A3 al3
 ·exact fin (A1++A2) adP
def dO:Pt→Prop | .keep n=>0≤n | .put s=>good s∧s.length≤100000 | .cut s=>good s∧s.length≤100000
abbrev Row:=Str×Str×Int
def jk(r:Row):List V:=[.str r.1, .str r.2.1, .int r.2.2]
def Ny(H:Hp)(v:V)(r:Row):Prop:= ∃b,v= .ref b∧H b=some (.lst (jk r))
abbrev lF(H:Hp):List V→List Row→Prop:=Paired (Ny H)
theorem lF.mono{H H':Hp}: ∀{vs:List V} {ps:List Row},lF H vs ps→(∀v∈vs,∀b,v= .ref b→ ∀o,H b=some o→H' b=some o)→lF H' vs ps
 | _,_, .nil,_=> .nil
 | _,_, .cons ⟨b,e,h⟩ r,k=> .cons ⟨b,e,k _ List.mem_cons_self b e _ h⟩ (lF.mono r fun v hv=>k v (List.mem_cons_of_mem _ hv))
theorem lF.get{H:Hp}: ∀{vs:List V} {ps:List Row} {i:Nat} {v:V},lF H vs ps→vs[i]?=some v→ ∃p,ps[i]?=some p∧Ny H v p
 | _,_,i,v, .nil,e=>by simp at e
 | _,_,0,v, .cons h r,e=>by simp at e;subst e;exact⟨_,rfl,h⟩
 | _,_,i+1,v, .cons h r,e=>by
  obtain⟨p,a,b⟩:=lF.get (i:=i) r (by simpa using e)
  exact⟨p,by simpa using a,b⟩
def bp:List Row×Row→Pt→List Row×Row
 | (pre,r), .keep n=> (pre,(r.1,r.2.1,r.2.2+n))
 | (pre,r), .put s=>if s="" then (pre,r) else if 0<r.2.2 then (pre++ [r],(Str.ofString ""++s,"",0)) else (pre,(r.1++s,r.2.1,r.2.2))
 | (pre,r), .cut s=>if s="" then (pre,r) else if 0<r.2.2 then (pre++ [r],("",Str.ofString ""++s,0)) else (pre,(r.1,r.2.1++s,r.2.2))
def dF(r:Row):List Pt:=txt .put r.1++txt .cut r.2.1++ (if r.2.2=0 then [] else [.keep r.2.2])
def cH(rows:List Row):List Pt:=(rows.map dF).flatten
def bW(ps:List Pt):List Row:=let s:=ps.foldl bp ([],("","",0));s.1++ [s.2]
def dv(ps:List Pt):List Pt:=cH (bW ps)
structure iM (H H2:Hp) (R:Addr) (rs:List V) (b:Addr) (pre:List Row) (r:Row):Prop where
 same:ax H H2
 lst:H2 R=some (.lst (rs++ [.ref b]))
 fr:H R=none
 rows:lF H2 rs pre
 last:H2 b=some (.lst (jk r))
 fb:H b=none
 bC: ∀v∈rs,∀x,v= .ref x→H x=none∧x≠b∧x≠R
 ne:b≠R
theorem uE(xs:List V)(v:V):eS (xs++ [v]) (-1)=some v:=Ts xs v
theorem iM.set{H H2:Hp}{R b:Addr}{rs:List V}{pre:List Row}{r r':Row}(S:iM H H2 R rs b pre r):iM H (upd H2 b (.lst (jk r'))) R rs b pre r' where
 same:=jj S.same S.fb aW.upd
 lst:=by rw[aI S.ne.symm];exact S.lst
 fr:=S.fr
 rows:=S.rows.mono fun v hv x e o h=>by rw[aI (S.bC v hv x e).2.1];exact h
 last:=ay
 fb:=S.fb
 bC:=S.bC
 ne:=S.ne
theorem iM.grow{H H2:Hp}{R b t:Addr}{rs:List V}{pre:List Row}{r r':Row}(S:iM H H2 R rs b pre r)(ht:H2 t=none):
  iM H (upd (upd H2 t (.lst (jk r'))) R (.lst (rs++ [.ref b]++ [.ref t]))) R (rs++ [.ref b]) t (pre++ [r]) r':=by
 have xZ:t≠R:=fun z=>by rw[z,S.lst] at ht;cases ht
 have htb:b≠t:=bz S.last ht
 have kk: ∀x o,H2 x=some o→x≠R→upd (upd H2 t (.lst (jk r'))) R (.lst (rs++ [.ref b]++ [.ref t])) x=some o:=fun x o e n=>by rw[aI n,aI (bz e ht)];exact e
 exact {
  same:=fun x o e=>kk x o (S.same x o e) (bz e S.fr)
  lst:=ay
  fr:=S.fr
  rows:=Paired.snoc (S.rows.mono fun v hv x e o h=>kk x o h (S.bC v hv x e).2.2) ⟨b,rfl,kk b _ S.last S.ne⟩
  last:=by rw[aI xZ,ay]
  fb:=S.same.free ht
  bC:=fun v hv x e=>by
   rcases List.mem_append.mp hv with z | z
   ·obtain⟨h1,h2,h3⟩:=S.bC v z x e
    refine⟨h1,fun q=> ?_,h3⟩
    obtain⟨i,hi⟩:=List.getElem?_of_mem z
    obtain⟨p,_,y,e',hy⟩:=S.rows.get hi
    rw[e] at e'
    cases e'
    rw[q,ht] at hy;cases hy
   ·rw[List.mem_singleton.mp z] at e
    cases e
    exact⟨S.fb,htb,S.ne⟩
  ne:=xZ}
abbrev Dn(Q:VK):Ends:={nx:=fun _ H'=>Q .aq H',rt:=Q}
def jm:Sp:=fun vs H Q E=> ∃a xs ps,vs=[.ref a]∧H a=some (.lst xs)∧aM H xs ps∧ps.length≤100000∧aJ ps≤100000∧
 ∀b H' ys,ax H H'→H b=none→H' b=some (.lst ys)→aM H' ys (dv ps)→Q (.ref b) H'
theorem x9{K:PySem.W.Frag}{H H2:Hp}{R b:Addr}{rs:List V}{pre:List Row}{r r':Row}{D:Ends}{a:Addr}{w s:Str}{x4 x5 x6 x7 x8:Option V}(S:iM H H2 R rs b pre r)(i:Nat)(hi:i<2)
  (hw:(if (w=="cut")=true then 1 else 0:Int)=(i:Int)) (o:Str) (ho:(jk r)[i]?=some (.str o)) (hr:(jk r).set i (.str (o++s))=jk r') (hs:o.length+s.length≤sizeLine)
  (k: ∀H3,iM H H3 R rs b pre r'→D.nx [some (.ref a),some (.ref R),some (.str w),some (.str s),x4,x5,x6,x7,x8] H3):
  bj (aQ K [] [] (E:=E)) (.set (.ix (.v 1) (.neg (.c (.int 1)))) (.blt .int [(.cmp .Eq (.v 2) (.c (.str "cut")))]) (.bin .Add (.ix (.ix (.v 1) (.neg (.c (.int 1)))) (.blt .int [(.cmp .Eq (.v 2) (.c (.str "cut")))])) (.v 3))) D
   [some (.ref a),some (.ref R),some (.str w),some (.str s),x4,x5,x6,x7,x8] H2:=by
 have lb:aj K H2 b (jk r):=aj.of S.last
 have ei:(if (false ^^ decide (V.str w=V.str "cut"))=true then 1 else 0:Int)=(i:Int):=by rw[Bool.false_xor,fL];exact hw
 refine⟨_,rfl, .inl ⟨_,_,_,_,rfl,rfl,aj.of S.lst,uE _ _,_,rfl, ?_⟩⟩
 show n_ K (aQ K [] [] (E:=E)).sd (.ref b) (.int (if (false ^^ decide (V.str w=V.str "cut"))=true then 1 else 0)) H2 _
 rw[ei]
 refine .inl ⟨b,_,_,_,rfl,rfl,lb,kr ho,_,rfl,hs,_,rfl, .inl ⟨_,_,_,_,rfl,rfl,aj.of S.lst,uE _ _,_,rfl, ?_⟩⟩
 show zR (.ref b) (.int (if (false ^^ decide (V.str w=V.str "cut"))=true then 1 else 0)) (.str (o++s)) H2 _
 rw[ei]
 refine⟨b,jk r,(i:Int),i,rfl,rfl,S.last, ?_, ?_⟩
 ·unfold jb
  rw[if_pos (by omega),if_pos (by show(i:Int) < ((3:Nat):Int);omega)]
  simp
 ·rw[hr]
  exact k _ S.set
theorem adW{rows:List Row}{i:Nat}{r:Row}(h:rows[i]?=some r):cH (rows.take (i+1))=cH (rows.take i)++dF r:=by
 unfold cH
 rw[List.take_add_one,h]
 simp
theorem Nz{K:PySem.W.Frag}{H H2:Hp}{R b:Addr}{rs:List V}{pre:List Row}{r:Row}{D:Ends}{a:Addr}{w s:Str}{x4 x5 x6 x7 x8:Option V}(S:iM H H2 R rs b pre r)(p:Pt)(hp:(p= .put s∧w="put")∨(p= .cut s∧w="cut"))
  (hs:s.length≤100000) (h1:r.1.length≤100000) (h2:r.2.1.length≤100000) (hn:rs.length≤100000)
  (k: ∀H3 bO b',iM H H3 R bO b' (bp (pre,r) p).1 (bp (pre,r) p).2→bO.length≤rs.length+1→D.nx [some (.ref a),some (.ref R),some (.str w),some (.str s),x4,x5,x6,x7,x8] H3):
  ar (aQ K [] [] (E:=E)) [.ite (.cmp .NotEq (.v 3) (.c (.str ""))) [.ite (.cmp .Gt (.ix (.ix (.v 1) (.neg (.c (.int 1)))) (.c (.int 2))) (.c (.int 0))) [.drop (.bJ .append (.v 1) [(.lst [(.c (.str "")),(.c (.str "")),(.c (.int 0))])])] [],
    .set (.ix (.v 1) (.neg (.c (.int 1)))) (.blt .int [(.cmp .Eq (.v 2) (.c (.str "cut")))]) (.bin .Add (.ix (.ix (.v 1) (.neg (.c (.int 1)))) (.blt .int [(.cmp .Eq (.v 2) (.c (.str "cut")))])) (.v 3))] []] D
   [some (.ref a),some (.ref R),some (.str w),some (.str s),x4,x5,x6,x7,x8] H2:=by
 refine⟨_,rfl,_,rfl, ?_⟩
 rw[Bool.true_xor,fL]
 refine hV (fun h=> ?_) (fun h=> ?_)
 ·have ne:s≠"":=by simpa using h
  refine⟨_,rfl, .inl ⟨_,_,_,_,rfl,rfl,aj.of S.lst,uE _ _, .inl ⟨_,_,_,_,rfl,rfl,aj.of S.last,rfl,trivial,_,rfl, ?_⟩⟩⟩
  have line: ∀n:Nat,n≤100000→n+s.length≤sizeLine:=fun n hn=>bL (by omega)
  have e0:(Str.ofString "").length=0:=rfl
  refine hV (fun h=> ?_) (fun h=> ?_)
  ·have hk:0<r.2.2:=of_decide_eq_true h
   refine⟨_,rfl, .inl ⟨rfl,_,aj.of S.lst⟩,(by show 3≤sizeLine;decide),fun t ht=> ?_⟩
   have xZ:R≠t:=bz S.lst ht
   refine⟨_,(by rw[aI xZ];exact S.lst),cU (by rw[List.length_append,List.length_singleton];omega), ?_⟩
   have S':=S.grow (r':=((Str.ofString "",Str.ofString "",0):Row)) ht
   rcases hp with⟨rfl,rfl⟩ | ⟨rfl,rfl⟩
   ·have es:bp (pre,r) (.put s)=(pre++ [r],((Str.ofString ""++s,Str.ofString "",0):Row)):=by show(if s="" then _ else if 0<r.2.2 then _ else _)=_;rw[if_neg ne,if_pos hk]
    rw[es] at k
    exact x9 S' 0 (by omega) rfl "" rfl rfl (line _ (by rw[e0];omega)) fun H3 S3=>k H3 _ t S3 (by simp)
   ·have es:bp (pre,r) (.cut s)=(pre++ [r],((Str.ofString "",Str.ofString ""++s,0):Row)):=by show(if s="" then _ else if 0<r.2.2 then _ else _)=_;rw[if_neg ne,if_pos hk]
    rw[es] at k
    exact x9 S' 1 (by omega) rfl "" rfl rfl (line _ (by rw[e0];omega)) fun H3 S3=>k H3 _ t S3 (by simp)
  ·have hk: ¬0<r.2.2:=fun z=>h (decide_eq_true z)
   rcases hp with⟨rfl,rfl⟩ | ⟨rfl,rfl⟩
   ·have es:bp (pre,r) (.put s)=(pre,(r.1++s,r.2.1,r.2.2)):=by show(if s="" then _ else if 0<r.2.2 then _ else _)=_;rw[if_neg ne,if_neg hk]
    rw[es] at k
    exact x9 S 0 (by omega) rfl r.1 rfl rfl (line _ h1) fun H3 S3=>k H3 _ b S3 (by omega)
   ·have es:bp (pre,r) (.cut s)=(pre,(r.1,r.2.1++s,r.2.2)):=by show(if s="" then _ else if 0<r.2.2 then _ else _)=_;rw[if_neg ne,if_neg hk]
    rw[es] at k
    exact x9 S 1 (by omega) rfl r.2.1 rfl rfl (line _ h2) fun H3 S3=>k H3 _ b S3 (by omega)
 ·have e:s="":=by simpa using h
  have es:bp (pre,r) p=(pre,r):=by
   rcases hp with⟨rfl,rfl⟩ | ⟨rfl,rfl⟩
   ·show(if s="" then _ else _)=_;rw[if_pos e]
   ·show(if s="" then _ else _)=_;rw[if_pos e]
  rw[es] at k
  exact k H2 rs b S (by omega)
theorem ig(x y:Str):(x++y).length=x.length+y.length:=by rw[len_list,app_list,List.length_append,←len_list,←len_list]
theorem adX(pre:List Row)(r:Row)(p:Pt)(n:Nat)(h1:r.1.length≤n)(h2:r.2.1.length≤n):(bp (pre,r) p).2.1.length≤n+cZ p∧(bp (pre,r) p).2.2.1.length≤n+cZ p:=by
 have e0:(Str.ofString "").length=0:=rfl
 cases p with
 | keep m=>exact⟨by show r.1.length≤n+0;omega,by show r.2.1.length≤n+0;omega⟩
 | put s=>
  show(if s="" then (pre,r) else if 0<r.2.2 then (pre++ [r],((Str.ofString ""++s,Str.ofString "",0):Row)) else (pre,(r.1++s,r.2.1,r.2.2))).2.1.length≤n+s.length∧
   (if s="" then (pre,r) else if 0<r.2.2 then (pre++ [r],((Str.ofString ""++s,Str.ofString "",0):Row)) else (pre,(r.1++s,r.2.1,r.2.2))).2.2.1.length≤n+s.length
  split
  ·exact⟨by show r.1.length≤_;omega,by show r.2.1.length≤_;omega⟩
  ·split
   ·exact⟨by show(Str.ofString ""++s).length≤_;rw[ig,e0];omega,by show(Str.ofString "").length≤_;rw[e0];omega⟩
   ·exact⟨by show(r.1++s).length≤_;rw[ig];omega,by show r.2.1.length≤_;omega⟩
 | cut s=>
  show(if s="" then (pre,r) else if 0<r.2.2 then (pre++ [r],((Str.ofString "",Str.ofString ""++s,0):Row)) else (pre,(r.1,r.2.1++s,r.2.2))).2.1.length≤n+s.length∧
   (if s="" then (pre,r) else if 0<r.2.2 then (pre++ [r],((Str.ofString "",Str.ofString ""++s,0):Row)) else (pre,(r.1,r.2.1++s,r.2.2))).2.2.1.length≤n+s.length
  split
  ·exact⟨by show r.1.length≤_;omega,by show r.2.1.length≤_;omega⟩
  ·split
   ·exact⟨by show(Str.ofString "").length≤_;rw[e0];omega,by show(Str.ofString ""++s).length≤_;rw[ig,e0];omega⟩
   ·exact⟨by show r.1.length≤_;omega,by show(r.2.1++s).length≤_;rw[ig];omega⟩
theorem NA{Γ:aG}{op:CmpOp}{x v:V}{σ:St}{H:Hp}{Q:VK}(h:dz Γ.K op x v H Q):ag Γ (.c v) σ H fun y H2=>dz Γ.K op x y H2 Q:=h
theorem NB{K:PySem.W.Frag}{x y:V}{H:Hp}{Q:VK}(hs:jC x y=true)(q:Q (.bl (true ^^ decide (x=y))) H):dz K .NotEq x y H Q:=by
 show kA true x y H Q
 unfold kA
 rw[hs];exact q
theorem adY{K:PySem.W.Frag}{H1:Hp}{l t1 t2 t3:Addr}{r:Row}{σ:St}{Q1:VK}(hl:H1 l=some (.lst [.ref t1, .ref t2, .ref t3]))(h1:H1 t1=some (.tup [.str "put", .str r.1]))(h2:H1 t2=some (.tup [.str "cut", .str r.2.1]))(h3:H1 t3=some (.tup [.str "keep", .int r.2.2]))
  (hσ:σ[8]?=some (some (.ref l))) (k: ∀p ys,H1 p=none→aM H1 ys (dF r)→ys.length≤3→Q1 (.ref p) (upd H1 p (.lst ys))):
  ag (aQ K [] [] (E:=E)) (.comp none [] .list [(.v 8)] (some (.and [(.cmp .NotEq (.ix (.v 0) (.c (.int 1))) (.c (.str ""))),(.cmp .NotEq (.ix (.v 0) (.c (.int 1))) (.c (.int 0)))])) (.v 0)) σ H1 Q1:=by
 have eF:aj K H1 l [.ref t1, .ref t2, .ref t3]:=aj.of hl
 let pK:Nat→List Pt:=fun i=>match i with | 0=> [] | 1=>txt .put r.1 | 2=>txt .put r.1++txt .cut r.2.1 | _=>dF r
 refine⟨_,hσ,l,rfl,⟨_,eF⟩,fun i m ys H2=>m=3 - i∧i≤3∧H2=H1∧aM H1 ys (pK i)∧ys.length≤i,⟨_,rfl,Nat.zero_le _,rfl, .nil,Nat.le_refl _⟩, ?_⟩
 rintro i m ys H2 ⟨rfl,hi,rfl,bB,lG⟩
 have small:ys.length<sizeLine:=cU (by omega)
 have go: ∀(t:Addr) (p:Pt) (j:Nat),H2 t=some (.tup [.str p.word,p.val])→i=j→j<3→(pK (j+1)=pK j++ [p]∧p.val≠ .str ""∧p.val≠ .int 0∨pK (j+1)=pK j∧(p.val= .str ""∨p.val= .int 0))→
   (∃s,p.val= .str s)∨(∃n,p.val= .int n)→
   nU (tJ (aQ K [] [] (E:=E)).calm (some (.and [(.cmp .NotEq (.ix (.v 0) (.c (.int 1))) (.c (.str ""))),(.cmp .NotEq (.ix (.v 0) (.c (.int 1))) (.c (.int 0)))]))) ([V.ref t].map some++dc σ []) H2 fun b H5=>
    if b=true then ag (aQ K [] [] (E:=E)).calm (.v 0) ([V.ref t].map some++dc σ []) H5 fun y H6=>ys.length<sizeLine∧ ∃m',m'<3 - i∧m'=3 - (i+1)∧i+1≤3∧H6=H2∧aM H2 (ys++ [y]) (pK (i+1))∧(ys++ [y]).length≤i+1
    else ∃m',m'<3 - i∧m'=3 - (i+1)∧i+1≤3∧H5=H2∧aM H2 ys (pK (i+1))∧ys.length≤i+1:=by
  intro t p j ht ej hj hc hv
  subst ej
  have sc1:jC p.val (.str "")=true:=by rcases hv with⟨s,e⟩ | ⟨n,e⟩ <;>rw[e] <;>rfl
  have sc2:jC p.val (.int 0)=true:=by rcases hv with⟨s,e⟩ | ⟨n,e⟩ <;>rw[e] <;>rfl
  refine⟨_,rfl, .inr (.inl ⟨_,_,_,_,rfl,rfl,aF.of ht,rfl,NA (NB sc1 ⟨_,rfl, ?_⟩)⟩)⟩
  by_cases q1:p.val= .str ""
  ·rw[decide_eq_true q1]
   rcases hc with⟨_,z,_⟩ | ⟨e,_⟩
   ·exact absurd q1 z
   ·exact⟨3 - (i+1),by omega,rfl,by omega,rfl,by rw[e];exact bB,by omega⟩
  ·rw[decide_eq_false q1]
   refine⟨_,rfl, .inr (.inl ⟨_,_,_,_,rfl,rfl,aF.of ht,rfl,NA (NB sc2 ⟨_,rfl, ?_⟩)⟩)⟩
   by_cases q2:p.val= .int 0
   ·rw[decide_eq_true q2]
    rcases hc with⟨_,_,z⟩ | ⟨e,_⟩
    ·exact absurd q2 z
    ·exact⟨3 - (i+1),by omega,rfl,by omega,rfl,by rw[e];exact bB,by omega⟩
   ·rw[decide_eq_false q2]
    rcases hc with⟨e,_,_⟩ | ⟨_,z⟩
    ·refine⟨_,rfl,small,3 - (i+1),by omega,rfl,by omega,rfl, ?_,by simp;omega⟩
     rw[e]
     exact aM.snoc bB ⟨t,rfl,ht⟩
    ·rcases z with z | z
     ·exact absurd z q1
     ·exact absurd z q2
 have tx: ∀(mk:Str→Pt) (x:Str) (l:List Pt),(mk x).val= .str x→(l++txt mk x=l++ [mk x]∧(mk x).val≠ .str ""∧(mk x).val≠ .int 0∨l++txt mk x=l∧((mk x).val= .str ""∨(mk x).val= .int 0)):=by
  intro mk x l hv
  unfold txt
  by_cases e:x=""
  ·rw[if_pos e];exact .inr ⟨by simp, .inl (by rw[hv,e])⟩
  ·rw[if_neg e];exact .inl ⟨rfl,by rw[hv];exact fun z=>e (by injection z),by rw[hv];exact fun z=>by cases z⟩
 by_cases aS:i<3
 ·refine .inr ⟨⟨_,[V.ref t1,V.ref t2,V.ref t3][i],eF,by simp[aS]⟩, ?_⟩
  rintro x H3 ⟨rfl,hx⟩
  have jd:=hx _ eF
  have:i=0∨i=1∨i=2:=by omega
  rcases this with rfl | rfl | rfl
  ·have ex:x= .ref t1:=by simpa using jd.symm
   subst ex
   exact go t1 (.put r.1) 0 h1 rfl (by omega) (tx .put r.1 [] rfl) (.inl ⟨_,rfl⟩)
  ·have ex:x= .ref t2:=by simpa using jd.symm
   subst ex
   exact go t2 (.cut r.2.1) 1 h2 rfl (by omega) (tx .cut r.2.1 _ rfl) (.inl ⟨_,rfl⟩)
  ·have ex:x= .ref t3:=by simpa using jd.symm
   subst ex
   refine go t3 (.keep r.2.2) 2 h3 rfl (by omega) ?_ (.inr ⟨_,rfl⟩)
   by_cases e:r.2.2=0
   ·refine .inr ⟨?_, .inr (by show V.int r.2.2=_;rw[e])⟩
    show dF r=txt .put r.1++txt .cut r.2.1
    unfold dF
    rw[if_pos e,List.append_nil]
   ·refine .inl ⟨?_, ?_, ?_⟩
    ·show dF r=txt .put r.1++txt .cut r.2.1++ [.keep r.2.2]
     unfold dF
     rw[if_neg e]
    ·intro z
     have z':V.int r.2.2=V.str "":=z
     cases z'
    ·intro z
     have z':V.int r.2.2=V.int 0:=z
     injection z' with z'
     exact e z'
 ·have eK:i=3:=by omega
  subst eK
  refine .inl ⟨⟨_,eF,by simp⟩,fun p hp=> ?_⟩
  exact k p ys hp bB lG
theorem ad1{K:PySem.W.Frag}(vs:List V)(H:Hp)(Q:VK)(E:XK)(h:jm vs H Q E):ar (aQ K [] [] (E:=E)) BF {nx:=fun _ H'=>Q .aq H',rt:=Q} (start xB vs) H:=by
 obtain⟨a,xs,ps,rfl,ha,bN,hl,ht,k⟩:=h
 have hlen:=Paired.length bN
 refine⟨(by show 3≤sizeLine;decide),fun b0 CA=> ⟨(by show 1≤sizeLine;decide),fun R hR=> ?_⟩⟩
 have NC:b0≠R:=fun z=>by rw[←z,ay] at hR;cases hR
 have fR:H R=none:=(sameNew CA).free hR
 have S0:iM H (upd (upd H b0 (.lst [.str "", .str "", .int 0])) R (.lst [.ref b0])) R [] b0 [] ((Str.ofString "",Str.ofString "",0):Row):=
  {same:=(sameNew CA).trans (sameNew hR),lst:=ay,fr:=fR,rows:= .nil,last:=(by rw[aI NC,ay];rfl),fb:=CA,bC:=(fun v hv=>by cases hv),ne:=NC}
 refine⟨_,rfl,a,rfl,⟨_,aj.of (S0.same _ _ ha)⟩,iG (K:=K) (a:=a) (xs:=xs) (fun i σ H2=> ∃u v rs b pre r,σ=[some (.ref a),some (.ref R),u,v,none,none,none,none,none]∧iM H H2 R rs b pre r∧
   (ps.take i).foldl bp ([],((Str.ofString "",Str.ofString "",0):Row))=(pre,r)∧rs.length≤i∧r.1.length≤aJ (ps.take i)∧r.2.1.length≤aJ (ps.take i))
  ⟨none,none,[],b0,[],_,rfl,S0,rfl,Nat.le_refl _,Nat.zero_le _,Nat.zero_le _⟩ (fun i σ H2 _ ⟨_,_,_,_,_,_,_,S,_⟩=>aj.of (S.same _ _ ha)) ?_ ?_⟩
 ·rintro i x σ H2 hi ⟨u,v,rs,b,pre,r,rfl,S,ef,l1,l2,l3⟩
  obtain⟨pt,dE,eJ⟩:=bN.get hi
  obtain⟨t,rfl,hb⟩:=eJ.mono (bf S.same)
  have cR:i<ps.length:=(List.getElem?_eq_some_iff.mp dE).1
  have m5:(ps.take (i+1)).foldl bp ([],((Str.ofString "",Str.ofString "",0):Row))=bp (pre,r) pt:=by rw[Np dE,ef]
  have et:=Ct dE
  have tb:=xS ps i
  have tb1:=xS ps (i+1)
  have sl:=adX pre r pt _ l2 l3
  refine⟨t,_,rfl, .inl (aF.of hb),rfl,_,_,rfl,_,_,rfl,rfl, ?_⟩
  refine⟨_,rfl,_,rfl, ?_⟩
  cases pt with
  | keep n=>
   refine⟨_,rfl, .inl ⟨_,_,_,_,rfl,rfl,aj.of S.lst,uE _ _, .inl ⟨_,_,_,_,rfl,rfl,aj.of S.last,rfl,_,rfl,_,rfl, .inl ⟨_,_,_,_,rfl,rfl,aj.of S.lst,uE _ _,b,jk r,2,2,rfl,rfl,S.last,rfl, ?_⟩⟩⟩⟩
   refine⟨_,_,rs,b,pre,(r.1,r.2.1,r.2.2+n),rfl,S.set (r':=(r.1,r.2.1,r.2.2+n)),m5,by omega, ?_, ?_⟩
   ·show r.1.length≤_;omega
   ·show r.2.1.length≤_;omega
  | put s=>
   refine Nz S (.put s) (.inl ⟨rfl,rfl⟩) ?_ (by omega) (by omega) (by omega) fun H3 bO b' S' hr'=> ⟨_,_,bO,b',_,_,rfl,S',m5,by omega,by omega,by omega⟩
   have:cZ (.put s)=s.length:=rfl
   omega
  | cut s=>
   refine Nz S (.cut s) (.inr ⟨rfl,rfl⟩) ?_ (by omega) (by omega) (by omega) fun H3 bO b' S' hr'=> ⟨_,_,bO,b',_,_,rfl,S',m5,by omega,by omega,by omega⟩
   have:cZ (.cut s)=s.length:=rfl
   omega
 ·rintro σ Hm ⟨u,v,rs,b,pre,r,rfl,S,ef,l1,l2,l3⟩
  have e:ps.take xs.length=ps:=List.take_of_length_le (by omega)
  rw[e] at ef
  have ad3:bW ps=pre++ [r]:=by
   show(ps.foldl bp ([],((Str.ofString "",Str.ofString "",0):Row))).1++ [(ps.foldl bp ([],((Str.ofString "",Str.ofString "",0):Row))).2]=_
   rw[ef]
  have ND:lF Hm (rs++ [.ref b]) (bW ps):=by rw[ad3];exact Paired.snoc S.rows ⟨b,rfl,S.last⟩
  have m6:=Paired.length ND
  refine⟨Nat.zero_le _,fun f0 CB=> ?_⟩
  refine⟨_,rfl,R,rfl,⟨_,aj.of (sameNew CB _ _ S.lst)⟩,iG (K:=K) (a:=R) (xs:=rs++ [.ref b]) (fun i σ H2=> ∃f ys p5 p6 p7 p8,σ=[some (.ref a),some (.ref R),u,v,some (.ref f),p5,p6,p7,p8]∧ax Hm H2∧H f=none∧H2 f=some (.lst ys)∧aM H2 ys (cH ((bW ps).take i))∧ys.length≤3*i)
   ⟨f0,[],none,none,none,none,rfl,sameNew CB,S.same.free CB,ay, .nil,Nat.le_refl _⟩ (fun i σ H2 _ ⟨_,_,_,_,_,_,_,s2,_⟩=>aj.of (s2 _ _ S.lst)) ?_ ?_⟩
  ·rintro i x σ H2 hi ⟨f,ys,p5,p6,p7,p8,rfl,s2,ff,CD,bB,lG⟩
   obtain⟨row,ad4,w,rfl,hw⟩:=ND.get hi
   have h2w:=s2 _ _ hw
   have cR:i< (rs++ [V.ref b]).length:=(List.getElem?_eq_some_iff.mp hi).1
   have hrs:rs.length≤100000:=by omega
   have uF:i≤100000:=by simp only[List.length_append,List.length_singleton] at cR;omega
   refine⟨w,_,rfl, .inr (aj.of h2w),rfl,_,_,rfl,_,_,rfl,_,_,rfl,rfl, ?_⟩
   refine⟨_,rfl,(by show 2≤sizeLine;decide),fun t1 fV=> ⟨_,rfl,(by show 2≤sizeLine;decide),fun t2 jW=> ⟨_,rfl,(by show 2≤sizeLine;decide),fun t3 pL=> ⟨(by show 3≤sizeLine;decide),fun l eF=> ?_⟩⟩⟩⟩
   have c1:t1≠t2:=fun z=>by rw[←z,ay] at jW;cases jW
   have rf:t1≠t3:=fun z=>by rw[←z,aI c1,ay] at pL;cases pL
   have rg:t2≠t3:=fun z=>by rw[←z,ay] at pL;cases pL
   have c1l:t1≠l:=fun z=>by rw[←z,aI rf,aI c1,ay] at eF;cases eF
   have c2l:t2≠l:=fun z=>by rw[←z,aI rg,ay] at eF;cases eF
   have c3l:t3≠l:=fun z=>by rw[←z,ay] at eF;cases eF
   have s3:=((sameNew (o:= .tup [.str "put", .str row.1]) fV).trans (sameNew (o:= .tup [.str "cut", .str row.2.1]) jW)).trans ((sameNew (o:= .tup [.str "keep", .int row.2.2]) pL).trans (sameNew (o:= .lst [.ref t1, .ref t2, .ref t3]) eF))
   refine⟨_,rfl,adY (r:=row) (l:=l) (t1:=t1) (t2:=t2) (t3:=t3) ay (by rw[aI c1l,aI rf,aI c1,ay]) (by rw[aI c2l,aI rg,ay]) (by rw[aI c3l,ay]) rfl fun p zs hp NF x_=> ?_⟩
   generalize sY:upd (upd (upd (upd H2 t1 (.tup [.str "put", .str row.1])) t2 (.tup [.str "cut", .str row.2.1])) t3 (.tup [.str "keep", .int row.2.2])) l (.lst [.ref t1, .ref t2, .ref t3])=H3 at s3 hp NF
   have NG:=s3 _ _ CD
   have h4f:upd H3 p (.lst zs) f=some (.lst ys):=by rw[aI (bz NG hp)];exact NG
   refine .inl ⟨f,p,ys,zs,rfl,rfl,h4f,ay,bL (by omega),fun q hq=> ?_⟩
   have s5:ax Hm (upd (upd H3 p (.lst zs)) q (.lst (ys++zs))):=s2.trans (s3.trans ((sameNew hp).trans (sameNew hq)))
   have t5:eY H3 (upd (upd H3 p (.lst zs)) q (.lst (ys++zs))):=bf ((sameNew hp).trans (sameNew hq))
   refine⟨q,ys++zs,_,_,_,_,rfl,s5,S.same.free ((s2.trans (s3.trans (sameNew hp))).free hq),ay, ?_,by rw[List.length_append];omega⟩
   rw[adW ad4]
   have app: ∀{vs:List V} {as:List Pt} {ws:List V} {bs:List Pt} {G:Hp},aM G vs as→aM G ws bs→aM G (vs++ws) (as++bs):=fun {vs as ws bs G} h1 h2=>by
    induction h1 with
    | nil=>exact h2
    | cons a _ ih=>exact .cons a ih
   exact app ((bB.mono (bf s3)).mono t5) (NF.mono t5)
  ·rintro σ H2 ⟨f,ys,p5,p6,p7,p8,rfl,s2,ff,CD,bB,lG⟩
   have e2:(bW ps).take (rs++ [V.ref b]).length=bW ps:=List.take_of_length_le (by omega)
   rw[e2] at bB
   exact⟨_,rfl,k f H2 ys (S.same.trans s2) ff CD bB⟩
theorem ya(a b:List Row):cH (a++b)=cH a++cH b:=by simp[cH]
theorem uG(r:Row):cH [r]=dF r:=by simp[cH]
theorem CG{r:Row}(h:0<r.2.2):dF r=txt .put r.1++txt .cut r.2.1++ [.keep r.2.2]:=by
 unfold dF
 rw[if_neg (by omega)]
theorem NH{r:Row}(h:r.2.2=0):dF r=txt .put r.1++txt .cut r.2.1:=by
 unfold dF
 rw[if_pos h,List.append_nil]
def NI:Pt→Bool | .keep _=>true | _=>false
theorem ad_{ch:List Pt}{n:Int}(h: ∀p,ch.getLast?=some p→NI p=false):dI ch n=ch++ [.keep n]:=by
 unfold dI
 split
 ·rename_i m e
  have:=h _ e
  cases this
 ·rfl
theorem aea(ch:List Pt)(m n:Int):dI (ch++ [.keep m]) n=ch++ [.keep (n+m)]:=by
 unfold dI
 rw[List.getLast?_append]
 simp
theorem txt_nil(mk:Str→Pt):txt mk ""=[]:=if_pos rfl
theorem iN{mk:Str→Pt}{x:Str}(h:x≠""):txt mk x=[mk x]:=if_neg h
theorem aeb{pre:List Row}{r:Row}(h:pre≠ []→r.1≠""∨r.2.1≠""): ∀p,(cH pre++txt .put r.1++txt .cut r.2.1).getLast?=some p→NI p=false:=by
 intro p hp
 by_cases h2:r.2.1=""
 ·rw[h2,txt_nil,List.append_nil] at hp
  by_cases h1:r.1=""
  ·rw[h1,txt_nil,List.append_nil] at hp
   by_cases iI:pre=[]
   ·rw[iI] at hp
    simp[cH] at hp
   ·rcases h iI with z | z
    ·exact absurd h1 z
    ·exact absurd h2 z
  ·rw[iN h1,List.getLast?_append] at hp
   simp at hp;subst hp;rfl
 ·rw[iN h2,List.getLast?_append] at hp
  simp at hp;subst hp;rfl
def Rel(s:NS)(t:List Row×Row):Prop:=
 (∀x∈t.1,0<x.2.2)∧(t.1≠ []→t.2.1≠""∨t.2.2.1≠"")∧0≤t.2.2.2∧
  ((t.2.2.2=0∧s.1=cH t.1∧cat s.2.1=t.2.1∧cat s.2.2=t.2.2.1)∨(0<t.2.2.2∧s.1=cH (t.1++ [t.2])∧cat s.2.1=""∧cat s.2.2=""))
theorem m7(a:List Str)(s:Str):cat (a++ [s])=cat a++s:=by rw[Cr,Cs]
theorem aec{s:NS}{t:List Row×Row}{p:Pt}(R:Rel s t)(hp:dO p):Rel (df s p) (bp t p):=by
 obtain⟨ch,pu,cu⟩:=s
 obtain⟨pre,r⟩:=t
 obtain⟨r1,r2,r3,r4⟩:=R
 simp only at r1 r2 r3 r4
 cases p with
 | keep n=>
  have pJ:0≤n:=hp
  by_cases hn:0<n
  ·have e1:df (ch,pu,cu) (.keep n)=(dI (du ch pu cu) n,[],[]):=if_pos hn
   rw[e1]
   refine⟨r1,r2,by show 0≤r.2.2+n;omega, .inr ⟨by show 0<r.2.2+n;omega, ?_,rfl,rfl⟩⟩
   show dI (du ch pu cu) n=cH (pre++ [(r.1,r.2.1,r.2.2+n)])
   rw[ya,uG,CG (r:=(r.1,r.2.1,r.2.2+n)) (by show 0<r.2.2+n;omega)]
   rcases r4 with⟨k0,e2,e3,e4⟩ | ⟨k0,e2,e3,e4⟩
   ·have ea:du ch pu cu=cH pre++txt .put r.1++txt .cut r.2.1:=by unfold du;rw[e2,e3,e4]
    rw[ea,ad_ (aeb r2)]
    show _=cH pre++ (txt .put r.1++txt .cut r.2.1++ [.keep (r.2.2+n)])
    rw[k0,Int.zero_add];simp
   ·have ea:du ch pu cu=cH pre++ (txt .put r.1++txt .cut r.2.1)++ [.keep r.2.2]:=by
     unfold du
     rw[e2,e3,e4,txt_nil,txt_nil,List.append_nil,List.append_nil,ya,uG,CG k0];simp
    rw[ea,aea]
    show _=cH pre++ (txt .put r.1++txt .cut r.2.1++ [.keep (r.2.2+n)])
    rw[Int.add_comm n];simp
  ·have e0:n=0:=by omega
   have e1:df (ch,pu,cu) (.keep n)=(ch,pu,cu):=if_neg hn
   have e2:bp (pre,r) (.keep n)=(pre,r):=by show(pre,(r.1,r.2.1,r.2.2+n))=_;rw[e0,Int.add_zero]
   rw[e1,e2]
   exact⟨r1,r2,r3,r4⟩
 | put x=>
  show Rel (ch,pu++ [x],cu) (bp (pre,r) (.put x))
  by_cases hx:x=""
  ·have e2:bp (pre,r) (.put x)=(pre,r):=if_pos hx
   rw[e2]
   refine⟨r1,r2,r3, ?_⟩
   have e:cat (pu++ [x])=cat pu:=by rw[m7,hx];exact Nk _
   show _∨_
   simp only[e]
   exact r4
  ·by_cases hk:0<r.2.2
   ·have e2:bp (pre,r) (.put x)=(pre++ [r],((Str.ofString ""++x,Str.ofString "",0):Row)):=by show(if x="" then _ else if 0<r.2.2 then _ else _)=_;rw[if_neg hx,if_pos hk]
    rw[e2]
    rcases r4 with⟨k0,_⟩ | ⟨_,e5,e3,e4⟩
    ·omega
    ·refine⟨fun y hy=> ?_,fun _=> .inl (by rw[qU];exact hx),Int.le_refl _, .inl ⟨rfl,e5, ?_,e4⟩⟩
     ·rcases List.mem_append.mp hy with z | z
      ·exact r1 y z
      ·rw[List.mem_singleton.mp z];exact hk
     ·show cat (pu++ [x])=_
      rw[m7,e3]
   ·have e2:bp (pre,r) (.put x)=(pre,(r.1++x,r.2.1,r.2.2)):=by show(if x="" then _ else if 0<r.2.2 then _ else _)=_;rw[if_neg hx,if_neg hk]
    rw[e2]
    rcases r4 with⟨k0,e5,e3,e4⟩ | ⟨k0,_⟩
    ·refine⟨r1,fun _=> .inl ?_,r3, .inl ⟨k0,e5, ?_,e4⟩⟩
     ·intro z
      have:=congrArg Str.length z
      rw[ig] at this
      have l0:(Str.ofString "").length=0:=rfl
      rw[l0] at this
      have m8:x.length=0:=by omega
      exact hx (fU (by rw[len_list] at m8;rw[List.length_eq_zero_iff.mp m8];rfl))
     ·show cat (pu++ [x])=_
      rw[m7,e3]
    ·omega
 | cut x=>
  show Rel (ch,pu,cu++ [x]) (bp (pre,r) (.cut x))
  by_cases hx:x=""
  ·have e2:bp (pre,r) (.cut x)=(pre,r):=if_pos hx
   rw[e2]
   refine⟨r1,r2,r3, ?_⟩
   have e:cat (cu++ [x])=cat cu:=by rw[m7,hx];exact Nk _
   show _∨_
   simp only[e]
   exact r4
  ·by_cases hk:0<r.2.2
   ·have e2:bp (pre,r) (.cut x)=(pre++ [r],((Str.ofString "",Str.ofString ""++x,0):Row)):=by show(if x="" then _ else if 0<r.2.2 then _ else _)=_;rw[if_neg hx,if_pos hk]
    rw[e2]
    rcases r4 with⟨k0,_⟩ | ⟨_,e5,e3,e4⟩
    ·omega
    ·refine⟨fun y hy=> ?_,fun _=> .inr (by rw[qU];exact hx),Int.le_refl _, .inl ⟨rfl,e5,e3, ?_⟩⟩
     ·rcases List.mem_append.mp hy with z | z
      ·exact r1 y z
      ·rw[List.mem_singleton.mp z];exact hk
     ·show cat (cu++ [x])=_
      rw[m7,e4]
   ·have e2:bp (pre,r) (.cut x)=(pre,(r.1,r.2.1++x,r.2.2)):=by show(if x="" then _ else if 0<r.2.2 then _ else _)=_;rw[if_neg hx,if_neg hk]
    rw[e2]
    rcases r4 with⟨k0,e5,e3,e4⟩ | ⟨k0,_⟩
    ·refine⟨r1,fun _=> .inr ?_,r3, .inl ⟨k0,e5,e3, ?_⟩⟩
     ·intro z
      have:=congrArg Str.length z
      rw[ig] at this
      have l0:(Str.ofString "").length=0:=rfl
      rw[l0] at this
      have m8:x.length=0:=by omega
      exact hx (fU (by rw[len_list] at m8;rw[List.length_eq_zero_iff.mp m8];rfl))
     ·show cat (cu++ [x])=_
      rw[m7,e4]
    ·omega
theorem NJ: ∀(ps:List Pt) (s:NS) (t:List Row×Row),Rel s t→(∀p∈ps,dO p)→Rel (ps.foldl df s) (ps.foldl bp t)
 | [],s,t,R,_=>R
 | p::r,s,t,R,h=>NJ r _ _ (aec R (h p List.mem_cons_self)) fun q hq=>h q (List.mem_cons_of_mem _ hq)
theorem aed(ps:List Pt)(h: ∀p∈ps,dO p):Rel (ps.foldl df ([],[],[])) (ps.foldl bp ([],((Str.ofString "",Str.ofString "",0):Row))):=
 NJ ps _ _ ⟨(fun x hx=>by cases hx),fun z=>absurd rfl z,Int.le_refl _, .inl ⟨rfl,rfl,rfl,rfl⟩⟩ h
theorem CH(ps:List Pt)(h: ∀p∈ps,dO p):pH ps=dv ps:=by
 obtain⟨r1,r2,r3,r4⟩:=aed ps h
 show du _ _ _=cH (_++ [_])
 generalize ps.foldl df ([],[],[])=s at r4⊢
 generalize ps.foldl bp ([],((Str.ofString "",Str.ofString "",0):Row))=t at r1 r2 r3 r4⊢
 unfold du
 rcases r4 with⟨k0,e5,e3,e4⟩ | ⟨k0,e5,e3,e4⟩
 ·rw[e5,e3,e4,ya,uG,NH k0];simp
 ·rw[e5,e3,e4,txt_nil,txt_nil];simp
def sg(x:Str):Prop:= ∀c∈x.cps.toList,SG.cps.contains c=true
theorem yb{x y:Str}(a:sg x)(b:sg y):sg (x++y):=fun c hc=>by
 rw[app_list] at hc
 rcases List.mem_append.mp hc with z | z
 ·exact a c z
 ·exact b c z
theorem m9:sg (Str.ofString ""):=fun c hc=>by cases hc
def jn(r:Row):Nat:=r.1.length+r.2.1.length
structure RI (n:Nat) (t:List Row×Row):Prop where
 pos: ∀x∈t.1,0<x.2.2
 nn:0≤t.2.2.2
 s1: ∀x∈t.1++ [t.2],sg x.1∧sg x.2.1
 tl: ∀x∈ (t.1++ [t.2]).tail,x.1≠""∨x.2.1≠""
 aJ:((t.1++ [t.2]).map jn).sum=n
theorem NK{x y:Str}(h:x≠""):x++y≠"":=fun z=>by
 have:=congrArg Str.length z
 rw[ig] at this
 have l0:(Str.ofString "").length=0:=rfl
 rw[l0] at this
 have m8:x.length=0:=by omega
 exact h (fU (by rw[len_list] at m8;rw[List.length_eq_zero_iff.mp m8];rfl))
theorem NL{α:Type}(l:List α)(a:α):(l++ [a]).tail=if l=[] then [] else l.tail++ [a]:=by
 cases l with
 | nil=>rfl
 | cons b r=>simp
theorem CI{n m:Nat}{pre:List Row}{r r':Row}(I:RI n (pre,r))(h0:0≤r'.2.2)(h1:sg r'.1∧sg r'.2.1)(h2:(r.1≠""→r'.1≠"")∧(r.2.1≠""→r'.2.1≠""))(h3:jn r'=jn r+m):RI (n+m) (pre,r'):=by
 refine⟨I.pos,h0,fun x hx=> ?_,fun x hx=> ?_, ?_⟩
 ·rcases List.mem_append.mp hx with z | z
  ·exact I.s1 x (List.mem_append_left _ z)
  ·rw[List.mem_singleton.mp z];exact h1
 ·have t1:=I.tl
  simp only at t1 hx
  rw[NL] at hx t1
  by_cases hp:pre=[]
  ·rw[if_pos hp] at hx;cases hx
  ·rw[if_neg hp] at hx t1
   rcases List.mem_append.mp hx with z | z
   ·exact t1 x (List.mem_append_left _ z)
   ·rw[List.mem_singleton.mp z]
    rcases t1 r (by simp) with q | q
    ·exact .inl (h2.1 q)
    ·exact .inr (h2.2 q)
 ·have:=I.aJ
  simp only[List.map_append,List.sum_append,List.map_cons,List.map_nil,List.sum_cons,List.sum_nil] at this⊢
  omega
theorem NM{n m:Nat}{pre:List Row}{r r':Row}(I:RI n (pre,r))(hk:0<r.2.2)(h0:0≤r'.2.2)(h1:sg r'.1∧sg r'.2.1)(h2:r'.1≠""∨r'.2.1≠"")(h3:jn r'=m):RI (n+m) (pre++ [r],r'):=by
 refine⟨fun x hx=> ?_,h0,fun x hx=> ?_,fun x hx=> ?_, ?_⟩
 ·rcases List.mem_append.mp hx with z | z
  ·exact I.pos x z
  ·rw[List.mem_singleton.mp z];exact hk
 ·rcases List.mem_append.mp hx with z | z
  ·exact I.s1 x z
  ·rw[List.mem_singleton.mp z];exact h1
 ·have t1:=I.tl
  simp only at t1 hx
  rw[NL,if_neg (by simp)] at hx
  rcases List.mem_append.mp hx with z | z
  ·exact t1 x z
  ·rw[List.mem_singleton.mp z];exact h2
 ·have:=I.aJ
  simp only[List.map_append,List.sum_append,List.map_cons,List.map_nil,List.sum_cons,List.sum_nil] at this⊢
  omega
theorem aee{n:Nat}{t:List Row×Row}{p:Pt}(I:RI n t)(hp:dO p):RI (n+cZ p) (bp t p):=by
 obtain⟨pre,r⟩:=t
 have hs:=I.s1 r (by simp)
 have uH:0≤r.2.2:=I.nn
 have e0:(Str.ofString "").length=0:=rfl
 cases p with
 | keep m=>exact CI I (by show 0≤r.2.2+m;have:0≤m:=hp;omega) hs ⟨fun z=>z,fun z=>z⟩ rfl
 | put x=>
  have gx:sg x:=hp.1.2
  by_cases hx:x=""
  ·have e2:bp (pre,r) (.put x)=(pre,r):=if_pos hx
   have e3:cZ (.put x)=0:=by show x.length=0;rw[hx];rfl
   rw[e2,e3];exact I
  ·by_cases hk:0<r.2.2
   ·have e2:bp (pre,r) (.put x)=(pre++ [r],((Str.ofString ""++x,Str.ofString "",0):Row)):=by show(if x="" then _ else if 0<r.2.2 then _ else _)=_;rw[if_neg hx,if_pos hk]
    rw[e2]
    refine NM I hk (Int.le_refl _) ⟨yb m9 gx,m9⟩ (.inl (by rw[qU];exact hx)) ?_
    show(Str.ofString ""++x).length+ (Str.ofString "").length=x.length
    rw[ig,e0];omega
   ·have e2:bp (pre,r) (.put x)=(pre,(r.1++x,r.2.1,r.2.2)):=by show(if x="" then _ else if 0<r.2.2 then _ else _)=_;rw[if_neg hx,if_neg hk]
    rw[e2]
    refine CI I uH ⟨yb hs.1 gx,hs.2⟩ ⟨NK,fun z=>z⟩ ?_
    show(r.1++x).length+r.2.1.length=r.1.length+r.2.1.length+x.length
    rw[ig];omega
 | cut x=>
  have gx:sg x:=hp.1.2
  by_cases hx:x=""
  ·have e2:bp (pre,r) (.cut x)=(pre,r):=if_pos hx
   have e3:cZ (.cut x)=0:=by show x.length=0;rw[hx];rfl
   rw[e2,e3];exact I
  ·by_cases hk:0<r.2.2
   ·have e2:bp (pre,r) (.cut x)=(pre++ [r],((Str.ofString "",Str.ofString ""++x,0):Row)):=by show(if x="" then _ else if 0<r.2.2 then _ else _)=_;rw[if_neg hx,if_pos hk]
    rw[e2]
    refine NM I hk (Int.le_refl _) ⟨m9,yb m9 gx⟩ (.inr (by rw[qU];exact hx)) ?_
    show(Str.ofString "").length+ (Str.ofString ""++x).length=x.length
    rw[ig,e0];omega
   ·have e2:bp (pre,r) (.cut x)=(pre,(r.1,r.2.1++x,r.2.2)):=by show(if x="" then _ else if 0<r.2.2 then _ else _)=_;rw[if_neg hx,if_neg hk]
    rw[e2]
    refine CI I uH ⟨hs.1,yb hs.2 gx⟩ ⟨fun z=>z,NK⟩ ?_
    show r.1.length+ (r.2.1++x).length=r.1.length+r.2.1.length+x.length
    rw[ig];omega
theorem CJ: ∀(ps:List Pt) (n:Nat) (t:List Row×Row),RI n t→(∀p∈ps,dO p)→RI (n+aJ ps) (ps.foldl bp t)
 | [],n,t,I,_=>I
 | p::r,n,t,I,h=>by
  have:=CJ r _ _ (aee I (h p List.mem_cons_self)) fun q hq=>h q (List.mem_cons_of_mem _ hq)
  have e:n+cZ p+aJ r=n+aJ (p::r):=by show _=n+ (cZ p+aJ r);omega
  rw[e] at this
  exact this
theorem NN{r:Row}{a:Str}{rest:List Pt}(ha:a=""∨(a="keep"∧(r.1≠""∨r.2.1≠"")))(hk:0<r.2.2)(h:chainOk "keep" rest=true):chainOk a (dF r++rest)=true:=by
 rw[CG hk]
 by_cases h1:r.1="" <;>by_cases h2:r.2.1=""
 ·rw[h1,h2,txt_nil,txt_nil]
  rcases ha with rfl | ⟨_,z | z⟩
  ·exact h
  ·exact absurd h1 z
  ·exact absurd h2 z
 ·rw[h1,txt_nil,iN h2]
  rcases ha with rfl | ⟨rfl,_⟩ <;>exact h
 ·rw[h2,txt_nil,iN h1]
  rcases ha with rfl | ⟨rfl,_⟩ <;>exact h
 ·rw[iN h1,iN h2]
  rcases ha with rfl | ⟨rfl,_⟩ <;>exact h
theorem chain_last{r:Row}{a:Str}(ha:a=""∨(a="keep"∧(r.1≠""∨r.2.1≠"")))(hk:0≤r.2.2):chainOk a (dF r)=true:=by
 by_cases h0:0<r.2.2
 ·have:=NN (rest:=[]) ha h0 rfl
  rw[List.append_nil] at this
  exact this
 ·rw[NH (by omega)]
  by_cases h1:r.1="" <;>by_cases h2:r.2.1=""
  ·rw[h1,h2,txt_nil,txt_nil];rfl
  ·rw[h1,txt_nil,iN h2]
   rcases ha with rfl | ⟨rfl,_⟩ <;>rfl
  ·rw[h2,txt_nil,iN h1]
   rcases ha with rfl | ⟨rfl,_⟩ <;>rfl
  ·rw[iN h1,iN h2]
   rcases ha with rfl | ⟨rfl,_⟩ <;>rfl
theorem NO: ∀(pre:List Row) (r:Row) (a:Str),(∀x∈pre,0<x.2.2)→0≤r.2.2→(a=""∨(a="keep"∧ ∀x,(pre++ [r]).head?=some x→x.1≠""∨x.2.1≠""))→(∀x∈ (pre++ [r]).tail,x.1≠""∨x.2.1≠"")→
  chainOk a (cH (pre++ [r]))=true
 | [],r,a,_,hk,ha,_=>by
  rw[List.nil_append,uG]
  exact chain_last (ha.imp id fun⟨x,y⟩=> ⟨x,y r rfl⟩) hk
 | q::pre,r,a,hp,hk,ha,ht=>by
  have e:cH (q::pre++ [r])=dF q++cH (pre++ [r]):=by simp[cH]
  rw[e]
  refine NN (ha.imp id fun⟨x,y⟩=> ⟨x,y q rfl⟩) (hp q List.mem_cons_self) ?_
  refine NO pre r "keep" (fun x hx=>hp x (List.mem_cons_of_mem _ hx)) hk (.inr ⟨rfl,fun x hx=>ht x ?_⟩) fun x hx=>ht x (List.mem_of_mem_tail hx)
  show x∈pre++ [r]
  exact List.mem_of_mem_head? hx
theorem aef{r:Row}{p:Pt}(hs:sg r.1∧sg r.2.1)(hl:jn r≤1000000)(hk:0≤r.2.2)(h:p∈dF r):br p:=by
 unfold dF txt at h
 unfold jn at hl
 rcases List.mem_append.mp h with h | h
 ·rcases List.mem_append.mp h with h | h
  ·split at h
   ·cases h
   ·rename_i ne
    rw[List.mem_singleton.mp h]
    exact⟨⟨by omega,hs.1⟩,ne⟩
  ·split at h
   ·cases h
   ·rename_i ne
    rw[List.mem_singleton.mp h]
    exact⟨⟨by omega,hs.2⟩,ne⟩
 ·split at h
  ·cases h
  ·rw[List.mem_singleton.mp h]
   show 1≤r.2.2
   omega
theorem aeg(r:Row):aJ (dF r)=jn r:=by
 have t1: ∀(mk:Str→Pt) (x:Str),(∀y,cZ (mk y)=y.length)→aJ (txt mk x)=x.length:=by
  intro mk x h
  unfold txt
  by_cases e:x=""
  ·rw[if_pos e,e];rfl
  ·rw[if_neg e];show cZ (mk x)+0=_;rw[h,Nat.add_zero]
 have ta: ∀a b:List Pt,aJ (a++b)=aJ a+aJ b:=fun a b=>by simp[aJ]
 unfold dF jn
 rw[ta,ta,t1 .put _ fun _=>rfl,t1 .cut _ fun _=>rfl]
 split
 ·rfl
 ·rfl
theorem CK: ∀rows:List Row,aJ (cH rows)=(rows.map jn).sum
 | []=>rfl
 | r::rows=>by
  have e:cH (r::rows)=dF r++cH rows:=by simp[cH]
  have ta: ∀a b:List Pt,aJ (a++b)=aJ a+aJ b:=fun a b=>by simp[aJ]
  rw[e,ta,aeg,CK rows];rfl
theorem aeh{l:List Row}{x:Row}(h:x∈l):jn x≤ (l.map jn).sum:=by
 induction l with
 | nil=>cases h
 | cons a l ih=>
  rw[List.map_cons,List.sum_cons]
  rcases List.mem_cons.mp h with rfl | h
  ·omega
  ·have:=ih h;omega
theorem uI(ps:List Pt)(h: ∀p∈ps,dO p)(ht:aJ ps≤100000):chainOk "" (dv ps)=true∧(∀p∈dv ps,br p)∧aJ (dv ps)≤100000:=by
 have I:=CJ ps 0 ([],((Str.ofString "",Str.ofString "",0):Row)) ⟨(fun x hx=>by cases hx),Int.le_refl _,(fun x hx=>by rw[List.mem_singleton.mp hx];exact⟨m9,m9⟩),(fun x hx=>by cases hx),rfl⟩ h
 rw[Nat.zero_add] at I
 have e:dv ps=cH ((ps.foldl bp ([],((Str.ofString "",Str.ofString "",0):Row))).1++ [(ps.foldl bp ([],((Str.ofString "",Str.ofString "",0):Row))).2]):=rfl
 rw[e]
 generalize ps.foldl bp ([],((Str.ofString "",Str.ofString "",0):Row))=t at I
 refine⟨NO t.1 t.2 "" I.pos I.nn (.inl rfl) I.tl,fun p hp=> ?_,by rw[CK,I.aJ];exact ht⟩
 unfold cH at hp
 rw[List.mem_flatten] at hp
 obtain⟨l,hl,hp⟩:=hp
 obtain⟨x,hx,rfl⟩:=List.mem_map.mp hl
 have hle:=aeh hx
 rw[I.aJ] at hle
 refine aef (I.s1 x hx) (by omega) ?_ hp
 rcases List.mem_append.mp hx with z | z
 ·have:=I.pos x z;omega
 ·rw[List.mem_singleton.mp z];exact I.nn
theorem NP(ps:List Pt):(pH ps).length≤3*ps.length+2:=by
 have go: ∀(l:List Pt) (s:NS),(l.foldl df s).1.length≤s.1.length+3*l.length:=by
  intro l
  induction l with
  | nil=>intro s;simp
  | cons p l ih=>
   intro s
   have h1:=ih (df s p)
   have h2:(df s p).1.length≤s.1.length+3:=by
    obtain⟨ch,pu,cu⟩:=s
    cases p with
    | keep n=>
     by_cases hn:0<n
     ·have e1:df (ch,pu,cu) (.keep n)=(dI (du ch pu cu) n,[],[]):=if_pos hn
      rw[e1]
      have:=xT ch pu cu
      have:=Nr (du ch pu cu) n
      show(dI (du ch pu cu) n).length≤ch.length+3
      omega
     ·have e1:df (ch,pu,cu) (.keep n)=(ch,pu,cu):=if_neg hn
      rw[e1]
      show ch.length≤ch.length+3
      omega
    | put x=>show ch.length≤ch.length+3;omega
    | cut x=>show ch.length≤ch.length+3;omega
   rw[List.foldl_cons,List.length_cons]
   omega
 have h1:=go ps ([],[],[])
 have h2:=xT (ps.foldl df ([],[],[])).1 (ps.foldl df ([],[],[])).2.1 (ps.foldl df ([],[],[])).2.2
 show(du _ _ _).length≤_
 simp only[List.length_nil] at h1
 omega
def aei:Pt→PyData | .keep n=> .int n | .put s=> .str s | .cut s=> .str s
def toD(p:Pt):PyData:= .tuple [.str p.word,aei p]
def rj:Pt→Prop | .keep _=>True | .put s=>sg s | .cut s=>sg s
theorem NQ{x:Str}(h:sg x):PyData.strOk x=true:=by
 have small: ∀c,SG.cps.contains c=true→c<0x110000:=by
  have all:SG.cps.toList.all (fun c=>decide (c<0x110000))=true:=by decide+kernel
  intro c hc
  have hm:c∈SG.cps.toList:=by simpa using hc
  exact of_decide_eq_true (List.all_eq_true.mp all c hm)
 unfold PyData.strOk
 rw[Array.all_eq_true']
 intro c hc
 exact decide_eq_true (small c (h c (by simpa using hc)))
theorem toD_ok{p:Pt}(h:rj p):(toD p).canLay0=true∧(toD p).depth=1:=by
 cases p with
 | keep n=>exact⟨(by show(PyData.strOk (Str.ofString "keep") && (true && true))=true;decide+kernel),rfl⟩
 | put s=>
  refine⟨?_,rfl⟩
  show(PyData.strOk (Str.ofString "put") && (PyData.strOk s && true))=true
  rw[NQ h];decide+kernel
 | cut s=>
  refine⟨?_,rfl⟩
  show(PyData.strOk (Str.ofString "cut") && (PyData.strOk s && true))=true
  rw[NQ h];decide+kernel
theorem CL: ∀(ps:List Pt),(∀p∈ps,rj p)→PyData.canLayAll0 (ps.map toD)=true∧PyData.depthAll (ps.map toD)≤1
 | [],_=> ⟨rfl,Nat.zero_le _⟩
 | p::r,h=>by
  obtain⟨a,b⟩:=toD_ok (h p List.mem_cons_self)
  obtain⟨c,d⟩:=CL r fun q hq=>h q (List.mem_cons_of_mem _ hq)
  refine⟨?_, ?_⟩
  ·show((toD p).canLay0 && PyData.canLayAll0 (r.map toD))=true
   rw[a,c];rfl
  ·show max (toD p).depth (PyData.depthAll (r.map toD))≤1
   rw[b];omega
theorem uJ{H:Hp}: ∀{vs:List V} {ps:List Pt},aM H vs ps→IsL H (ps.map toD) vs
 | _,_, .nil=>rfl
 | _,_, .cons (a:=v) (b:=p) ⟨a,e,h⟩ r=>by
  refine⟨v,_,rfl, ?_,uJ r⟩
  refine⟨a,_,e,h, .str p.word,[p.val],rfl,rfl,p.val,[],rfl, ?_,rfl⟩
  cases p<;>rfl
theorem CM{p:Pt}(h:br p):rj p:=by
 cases p with
 | keep n=>trivial
 | put s=>exact h.1.2
 | cut s=>exact h.1.2
def Pt.yc:Pt→Pt | .keep n=> .keep n | .put s=> .cut s | .cut s=> .put s
def yd(ps:List Pt):List Pt:=ps.map Pt.yc
theorem aej(ps:List Pt)(h: ∀p∈ps,dO p):RI (aJ ps) (ps.foldl bp ([],((Str.ofString "",Str.ofString "",0):Row))):=by
 have I:=CJ ps 0 ([],((Str.ofString "",Str.ofString "",0):Row)) ⟨(fun x hx=>by cases hx),Int.le_refl _,(fun x hx=>by rw[List.mem_singleton.mp hx];exact⟨m9,m9⟩),(fun x hx=>by cases hx),rfl⟩ h
 rwa [Nat.zero_add] at I
theorem aek{p:Pt}(h:br p)(ht:cZ p≤100000):dO p:=by
 cases p with
 | keep n=>exact Int.le_trans (by decide) (show(1:Int)≤n from h)
 | put s=>exact⟨h.1,ht⟩
 | cut s=>exact⟨h.1,ht⟩
theorem ael{ps:List Pt}{p:Pt}(h:p∈ps):cZ p≤aJ ps:=by
 induction ps with
 | nil=>cases h
 | cons q ps ih=>
  have e:aJ (q::ps)=cZ q+aJ ps:=by simp[aJ]
  rw[e]
  rcases List.mem_cons.mp h with rfl | h
  ·omega
  ·have:=ih h;omega
theorem aem{ps:List Pt}(h: ∀p∈ps,br p)(ht:aJ ps≤100000): ∀p∈ps,dO p:=fun p hp=>aek (h p hp) (Nat.le_trans (ael hp) ht)
inductive Run:List Nat→List Pt→List Nat→Prop
 | nil:Run [] [] []
 | keep {a l r:List Nat} {n:Int} {ps:List Pt}:n=a.length→Run l ps r→Run (a++l) (.keep n::ps) (a++r)
 | put {s:Str} {l r:List Nat} {ps:List Pt}:Run l ps r→Run l (.put s::ps) (s.cps.toList++r)
 | cut {s:Str} {l r:List Nat} {ps:List Pt}:Run l ps r→Run (s.cps.toList++l) (.cut s::ps) r
theorem Run.yc{l r:List Nat}{ps:List Pt}(h:Run l ps r):Run r (yd ps) l:=by
 induction h with
 | nil=>exact .nil
 | keep e _ ih=>exact .keep e ih
 | put _ ih=>exact .cut ih
 | cut _ ih=>exact .put ih
theorem Run.app{l l' r r':List Nat}{ps qs:List Pt}(h:Run l ps r)(h':Run l' qs r'):Run (l++l') (ps++qs) (r++r'):=by
 induction h with
 | nil=>exact h'
 | keep e _ ih=>rw[List.append_assoc,List.append_assoc];exact .keep e ih
 | put _ ih=>rw[List.append_assoc];exact .put ih
 | cut _ ih=>rw[List.append_assoc];exact .cut ih
theorem Run.over{l r:List Nat}{ps:List Pt}(h:Run l ps r):(overOf ps).sum=l.length:=by
 induction h with
 | nil=>rfl
 | @keep a l r n ps e _ ih=>
  have e2:overOf (.keep n::ps)=n::overOf ps:=rfl
  rw[e2,List.sum_cons,ih,e,List.length_append]
  simp
 | @put s l r ps _ ih=>
  have e2:overOf (.put s::ps)=overOf ps:=rfl
  rw[e2,ih]
 | @cut s l r ps _ ih=>
  have e2:overOf (.cut s::ps)=(s.length:Int)::overOf ps:=rfl
  rw[e2,List.sum_cons,ih,List.length_append,len_list]
  simp
def pM(r:Row)(l q:List Nat):Prop:= ∃k:List Nat,r.2.2=k.length∧l=r.2.1.cps.toList++k∧q=r.1.cps.toList++k
inductive lH:List Row→List Nat→List Nat→Prop
 | nil:lH [] [] []
 | snoc {rs:List Row} {r:Row} {l q l' q':List Nat}:lH rs l q→pM r l' q'→lH (rs++ [r]) (l++l') (q++q')
theorem NR{s:Str}:Run [] (txt .put s) s.cps.toList:=by
 by_cases h:s=""
 ·rw[h,txt_nil];exact .nil
 ·rw[iN h]
  have:=Run.put (s:=s) Run.nil
  rwa [List.append_nil] at this
theorem aen{s:Str}:Run s.cps.toList (txt .cut s) []:=by
 have:=(NR (s:=s)).yc
 have e:yd (txt .put s)=txt .cut s:=by
  unfold txt;split<;>rfl
 rwa [e] at this
theorem pM.run{r:Row}{l q:List Nat}(h:pM r l q):Run l (dF r) q:=by
 obtain⟨k,hk,rfl,rfl⟩:=h
 have h3:Run k (if r.2.2=0 then [] else [.keep r.2.2]) k:=by
  split
  ·rename_i h
   have:k=[]:=List.length_eq_zero_iff.mp (by omega)
   rw[this];exact .nil
  ·have:=Run.keep (a:=k) hk Run.nil
   rwa [List.append_nil] at this
 have:=((NR (s:=r.1)).app (aen (s:=r.2.1))).app h3
 simpa[dF] using this
theorem lH.run{rs:List Row}{l q:List Nat}(h:lH rs l q):Run l (cH rs) q:=by
 induction h with
 | nil=>exact .nil
 | snoc _ h2 ih=>rw[ya,uG];exact ih.app h2.run
def One:Pt→List Nat→List Nat→Prop
 | .keep n,l,q=>l=q∧n=l.length
 | .put s,l,q=>l=[]∧q=s.cps.toList
 | .cut s,l,q=>l=s.cps.toList∧q=[]
theorem uK{p:Pt}{l q:List Nat}{ps:List Pt}(h:Run l (p::ps) q): ∃l1 l2 q1 q2,l=l1++l2∧q=q1++q2∧Run l2 ps q2∧
  One p l1 q1:=by
 cases h with
 | keep e h=>exact⟨_,_,_,_,rfl,rfl,h,rfl,e⟩
 | put h=>exact⟨[],_,_,_,rfl,rfl,h,rfl,rfl⟩
 | cut h=>exact⟨_,_,[],_,rfl,rfl,h,rfl,rfl⟩
theorem aeo{pre:List Row}{r:Row}{p:Pt}{l0 q0 l1 q1 l2 q2:List Nat}(h0:lH pre l0 q0)(h1:pM r l1 q1)
  (hp:One p l2 q2):
  ∃pN pO jo jN,lH (bp (pre,r) p).1 pN pO∧pM (bp (pre,r) p).2 jo jN∧l0++l1++l2=pN++jo∧q0++q1++q2=pO++jN:=by
 cases p with
 | keep n=>
  obtain⟨rfl,rfl⟩:=hp
  obtain⟨k,hk,rfl,rfl⟩:=h1
  refine⟨l0,q0,_,_,h0,⟨k++l2, ?_,rfl,rfl⟩,by simp[bp],by simp[bp]⟩
  show r.2.2+ (l2.length:Int)=_
  rw[hk,List.length_append];simp
 | put s=>
  obtain⟨rfl,rfl⟩:=hp
  by_cases hs:s=""
  ·have e:bp (pre,r) (.put s)=(pre,r):=by simp only[bp,if_pos hs]
   rw[e]
   refine⟨l0,q0,l1,q1,h0,h1,by simp, ?_⟩
   rw[hs]
   show q0++q1++ (Str.ofString "").cps.toList=_
   rw[ofString_empty];simp
  ·by_cases hk:0<r.2.2
   ·have e:bp (pre,r) (.put s)=(pre++ [r],((Str.ofString ""++s,"",0):Row)):=by simp only[bp,if_neg hs,if_pos hk]
    rw[e]
    refine⟨_,_,[],s.cps.toList,h0.snoc h1,⟨[],rfl,rfl, ?_⟩,by simp,by simp⟩
    show s.cps.toList=(Str.ofString ""++s).cps.toList++ []
    rw[qU];simp
   ·have e:bp (pre,r) (.put s)=(pre,(r.1++s,r.2.1,r.2.2)):=by simp only[bp,if_neg hs,if_neg hk]
    rw[e]
    obtain⟨k,tN,rfl,rfl⟩:=h1
    have:k=[]:=List.length_eq_zero_iff.mp (by omega)
    subst this
    refine⟨l0,q0,r.2.1.cps.toList,r.1.cps.toList++s.cps.toList,h0,⟨[],tN,by simp,by simp[app_list]⟩,by simp,by simp⟩
 | cut s=>
  obtain⟨rfl,rfl⟩:=hp
  by_cases hs:s=""
  ·have e:bp (pre,r) (.cut s)=(pre,r):=by simp only[bp,if_pos hs]
   rw[e]
   refine⟨l0,q0,l1,q1,h0,h1, ?_,by simp⟩
   rw[hs]
   show l0++l1++ (Str.ofString "").cps.toList=_
   rw[ofString_empty];simp
  ·by_cases hk:0<r.2.2
   ·have e:bp (pre,r) (.cut s)=(pre++ [r],(("",Str.ofString ""++s,0):Row)):=by simp only[bp,if_neg hs,if_pos hk]
    rw[e]
    refine⟨_,_,s.cps.toList,[],h0.snoc h1,⟨[],rfl, ?_,rfl⟩,by simp,by simp⟩
    show s.cps.toList=(Str.ofString ""++s).cps.toList++ []
    rw[qU];simp
   ·have e:bp (pre,r) (.cut s)=(pre,(r.1,r.2.1++s,r.2.2)):=by simp only[bp,if_neg hs,if_neg hk]
    rw[e]
    obtain⟨k,tN,rfl,rfl⟩:=h1
    have:k=[]:=List.length_eq_zero_iff.mp (by omega)
    subst this
    refine⟨l0,q0,r.2.1.cps.toList++s.cps.toList,r.1.cps.toList,h0,⟨[],tN,by simp[app_list],by simp⟩,by simp,by simp⟩
theorem NT: ∀(ps:List Pt) (pre:List Row) (r:Row) (l0 q0 l1 q1 l2 q2:List Nat),lH pre l0 q0→pM r l1 q1→Run l2 ps q2→
  ∃pN pO jo jN,lH (ps.foldl bp (pre,r)).1 pN pO∧pM (ps.foldl bp (pre,r)).2 jo jN∧l0++l1++l2=pN++jo∧q0++q1++q2=pO++jN
 | [],pre,r,l0,q0,l1,q1,l2,q2,h0,h1,h2=>by
  cases h2
  exact⟨l0,q0,l1,q1,h0,h1,by simp,by simp⟩
 | p::ps,pre,r,l0,q0,l1,q1,l2,q2,h0,h1,h2=>by
  obtain⟨a,b,c,d,rfl,rfl,h3,h4⟩:=uK h2
  obtain⟨pN,pO,jo,jN,g0,g1,e1,e2⟩:=aeo h0 h1 h4
  obtain⟨aep,aeq,aer,aes,f0,f1,e3,e4⟩:=NT ps _ _ pN pO jo jN b d g0 g1 h3
  refine⟨aep,aeq,aer,aes,f0,f1, ?_, ?_⟩
  ·rw[←e3,←e1];simp
  ·rw[←e4,←e2];simp
theorem CN{ps:List Pt}{l q:List Nat}(h:Run l ps q):Run l (dv ps) q:=by
 obtain⟨l0,q0,l1,q1,h0,h1,e1,e2⟩:=NT ps [] ("","",0) [] [] [] [] l q .nil ⟨[],rfl,rfl,rfl⟩ h
 have:=(h0.snoc h1).run
 rw[←e1,←e2] at this
 exact this
def CO:Sp:=fun vs H Q E=> ∃x,vs=[.str x]∧good x∧Q .aq H
def uL:Sp:=fun vs H Q E=> ∃c,vs=[.int c]∧ ∀n,0≤n→n≤400→Q (.int n) H
theorem aet{K:PySem.W.Frag}(vs:List V)(H:Hp)(Q:VK)(E:XK)(h:uL vs H Q E):ar (aQ K [] [] (E:=E)) BC {nx:=fun _ H'=>Q .aq H',rt:=Q} (start BB vs) H:=by
 obtain⟨c,rfl,q⟩:=h
 refine⟨_,rfl,by show(0:Int) <8;decide,_,rfl, ?_⟩
 refine hV (fun _=> ?_) (fun _=> ?_)
 ·exact⟨_,rfl,⟨by decide,by decide⟩,by show(0:Int) <401;decide,q _ (Int.emod_nonneg _ (by decide)) (by have:=Int.emod_lt_of_pos (c / 8) (show(0:Int) <401 by decide);omega)⟩
 ·exact⟨_,rfl,⟨by decide,by decide⟩,by show(0:Int) <25;decide,q _ (Int.emod_nonneg _ (by decide)) (by have:=Int.emod_lt_of_pos (c / 8) (show(0:Int) <25 by decide);omega)⟩
theorem CP{x:Str}{a b c:List Nat}(h:x.cps.toList=a++ (b++c))(n:Int)(hn:n=b.length):jI x (some (a.length:Int)) (some ((a.length:Int)+n))=⟨b.toArray⟩:=by
 have e1:(a.length:Int)+n=((a.length+b.length:Nat):Int):=by rw[hn];simp
 unfold jI kD
 rw[e1,HT.kq,HT.kq,h]
 have l1:(a++ (b++c)).length=a.length+ (b.length+c.length):=by simp
 rw[l1]
 have m1:min a.length (a.length+ (b.length+c.length))=a.length:=by omega
 have m2:min (a.length+b.length) (a.length+ (b.length+c.length))=a.length+b.length:=by omega
 rw[m1,m2,List.drop_left,show a.length+b.length - a.length=b.length by omega,List.take_left]
theorem NU{x s:Str}{a c:List Nat}(h:x.cps.toList=a++ (s.cps.toList++c)):(decide (fromIndex x.length (a.length:Int)+s.length≤x.length) && Builtin.Str.subAt x s (fromIndex x.length (a.length:Int)))=true:=by
 have e:fromIndex x.length (a.length:Int)=a.length:=by unfold fromIndex;rw[if_neg (by omega)];omega
 have hl:x.length=a.length+ (s.length+c.length):=by rw[len_list x,h,len_list s];simp
 rw[e,Bool.and_eq_true,decide_eq_true_eq]
 refine⟨by omega, ?_⟩
 unfold Builtin.Str.subAt
 rw[beq_iff_eq]
 apply Array.toList_inj.mp
 rw[Array.toList_extract,h,len_list s]
 simp[List.extract_eq_drop_take]
theorem ye(x:Str):(⟨x.cps.toList.toArray⟩:Str)=x:=fU rfl
abbrev aeu:List (Str×Sp):=[("need_text",CO),("sizes",fF)]
def rk:Sp:=fun vs H Q E=> ∃x a xs ps r,vs=[.str x, .ref a]∧good x∧H a=some (.lst xs)∧aM H xs ps∧(∀p∈ps,br p)∧chainOk "" ps=true∧ps.length≤100000∧Run x.cps.toList ps r∧r.length≤1000000∧
 ∀H',ax H H'→Q (.str ⟨r.toArray⟩) H'
theorem aev{K:PySem.W.Frag}{et:List (Str×Addr)}(vs:List V)(H:Hp)(Q:VK)(E:XK)(h:rk vs H Q E):ar (aQ K aeu [] (et:=et) (E:=E)) uo {nx:=fun _ H'=>Q .aq H',rt:=Q} (start xy vs) H:=by
 obtain⟨x,a,xs,ps,r,rfl,hx,ha,bN,aw,dh,hl,hr,m6,q⟩:=h
 have hlen:=Paired.length bN
 refine⟨_,rfl,x,rfl,hx, ?_⟩
 refine⟨_,rfl,a,xs,ps,rfl,ha,bN,aw,dh,by omega,fun t H1 s1 ht=> ?_⟩
 refine .inr (.inl ⟨_,_,_,_,rfl,rfl,aF.of ht,rfl,_,rfl,bL hx.1,_,rfl, ?_⟩)
 rw[hr.over,←len_list,Bool.true_xor,decide_eq_true rfl]
 refine⟨Nat.zero_le _,fun pc uM=> ?_⟩
 have s2:ax H (upd H1 pc (.lst [])):=s1.trans (sameNew uM)
 have uN:H pc=none:=s1.free uM
 refine⟨_,rfl,a,rfl,⟨_,aj.of (s2 _ _ ha)⟩,iG (K:=K) (a:=a) (xs:=xs) (fun i σ H2=> ∃l1 l2 q1 q2 ts w v,σ=[some (.str x),some (.ref a),some (.int ((l1.length:Nat):Int)),some (.ref pc),w,v]∧ax H H2∧
   H2 pc=some (.lst (ts.map V.str))∧x.cps.toList=l1++l2∧r=q1++q2∧Run l2 (ps.drop i) q2∧(cat ts).cps.toList=q1∧ts.length≤i)
  ⟨[],x.cps.toList,[],r,[],none,none,rfl,s2,ay,rfl,rfl,hr,rfl,Nat.le_refl _⟩
  (fun i σ H2 _ ⟨_,_,_,_,_,_,_,_,s3,_⟩=>aj.of (s3 _ _ ha)) ?_ ?_⟩
 ·rintro i y σ H2 hi ⟨l1,l2,q1,q2,ts,w,v,rfl,s3,hp,e1,e2,dB,ec,tl⟩
  obtain⟨pt,dE,eJ⟩:=bN.get hi
  obtain⟨b,rfl,hb⟩:=eJ.mono (bf s3)
  have cR:i<ps.length:=(List.getElem?_eq_some_iff.mp dE).1
  have ed:ps.drop i=pt::ps.drop (i+1):=by
   rw[List.drop_eq_getElem_cons cR]
   congr 1
   exact Option.some.inj ((List.getElem?_eq_getElem cR).symm.trans dE)
  rw[ed] at dB
  obtain⟨la,lb,qa,qb,rfl,rfl,pP,one⟩:=uK dB
  refine⟨b,_,rfl, .inl (aF.of hb),rfl,_,_,rfl,_,_,rfl,rfl, ?_⟩
  have bt: ∀o,aW pc H2 (upd H2 pc o):=fun o=>aW.upd
  cases pt with
  | put s=>
   obtain⟨rfl,rfl⟩:=one
   refine⟨_,rfl,_,rfl,_,rfl, .inl ⟨rfl,_,aj.of hp⟩,_,rfl,_,hp,cU (by rw[List.length_map];omega), ?_⟩
   refine⟨l1,lb,q1++s.cps.toList,qb,ts++ [s],_,_,rfl,jj s3 uN (bt _),(by rw[ay,List.map_append];rfl),by simpa using e1,by rw[e2];simp,pP,by rw[Cr,Cs,app_list,ec],by simp;omega⟩
  | keep n=>
   obtain⟨rfl,hn⟩:=one
   refine⟨_,rfl,_,rfl,_,rfl,_,rfl,_,rfl, .inl ⟨rfl,_,aj.of hp⟩, ?_⟩
   refine⟨_,rfl,_,rfl,_,rfl,_,rfl,_,rfl,_,rfl,bL hx.1, ?_⟩
   rw[CP e1 n hn]
   refine⟨_,hp,cU (by rw[List.length_map];omega), ?_⟩
   refine⟨_,rfl,_,rfl, ?_⟩
   refine⟨l1++la,lb,q1++la,qb,ts++ [⟨la.toArray⟩],some (.str "keep"),some (.int n), ?_,jj s3 uN (bt _),(by rw[ay,List.map_append];rfl),by rw[e1];simp,by rw[e2];simp,pP,by rw[Cr,Cs,app_list,ec],by simp;omega⟩
   show[_,_,some (V.int ((l1.length:Int)+n)),_,_,_]=_
   rw[List.length_append,hn,Int.natCast_add]
   rfl
  | cut s=>
   obtain⟨rfl,rfl⟩:=one
   refine⟨_,rfl,_,rfl,_,rfl,_,rfl,_,rfl,rfl,_,rfl,_,rfl, ?_⟩
   show(fun c H1=>if (!c)=true then _ else _) (decide (fromIndex x.length (l1.length:Int)+s.length≤x.length) && Builtin.Str.subAt x s (fromIndex x.length (l1.length:Int))) H2
   rw[NU e1]
   refine⟨_,rfl,_,rfl,bL (aw _ (List.mem_of_getElem? dE)).1.1, ?_⟩
   refine⟨l1++s.cps.toList,lb,q1,qb,ts,some (.str "cut"),some (.str s), ?_,s3,hp,by rw[e1];simp,e2,pP,ec,by omega⟩
   show[_,_,some (V.int ((l1.length:Int)+ (s.length:Int))),_,_,_]=_
   rw[List.length_append,←len_list,Int.natCast_add]
   rfl
 ·rintro σ H2 ⟨l1,l2,q1,q2,ts,w,v,rfl,s3,hp,e1,e2,dB,ec,tl⟩
  rw[hlen,List.drop_length] at dB
  cases dB
  rw[List.append_nil] at e2
  subst e2
  have hsz:sz ts≤1000000:=by
   have:=xO ts
   rw[len_list,ec] at this
   omega
  have er:(⟨r.toArray⟩:Str)=cat ts:=fU (by rw[ec])
  refine⟨rfl,_,rfl,ts,aj.of hp,joinOk_of hsz, ?_⟩
  have k:=q H2 s3
  rw[er] at k
  exact k
theorem aew(j:Int)(h0:0≤j)(h1:j<6): ∃n:Int,eS [V.int 1,V.int 2,V.int 0,V.int 3,V.int 5,V.int 40] j=some (.int n)∧0≤n∧n≤40:=by
 obtain rfl | rfl | rfl | rfl | rfl | rfl:j=0∨j=1∨j=2∨j=3∨j=4∨j=5:=by omega
 all_goals exact⟨_,rfl,by decide,by decide⟩
theorem CQ(a b:List Pt):aJ (a++b)=aJ a+aJ b:=by simp[aJ]
abbrev aex:List (Str×Sp):=[("_law_mixed",lq),("_law_text",pI)]
def yf:Sp:=fun vs H Q E=> ∃(c:Int) (x:Str) (m:Int),vs=[.int c, .str x, .int m]∧good x∧x.length≤10000∧0≤m∧m≤100∧
 ∀b H' ys ps q,ax H H'→H b=none→H' b=some (.lst ys)→aM H' ys ps→(∀p∈ps,dO p)→ps.length≤101→aJ ps≤4000→Run x.cps.toList ps q→Q (.ref b) H'
theorem aey{K:PySem.W.Frag}(vs:List V)(H:Hp)(Q:VK)(E:XK)(h:yf vs H Q E):ar (aQ K aex [] (E:=E)) BE {nx:=fun _ H'=>Q .aq H',rt:=Q} (start BD vs) H:=by
 obtain⟨c,x,m,rfl,hx,rm,yg,CS,k⟩:=h
 refine⟨Nat.zero_le _,fun b hb=> ?_⟩
 refine⟨_,rfl,m,rfl,by omega,by omega,zB (lo:=0) (n:=m.toNat) (fun i σ H2=> ∃u v w z ys ps l1 l2 q,σ=[some (.int c),some (.str x),some (.int m),some (.ref b),some (.int ((l1.length:Nat):Int)),u,v,w,z]∧ax H H2∧H2 b=some (.lst ys)∧aM H2 ys ps∧ps.length=i∧(∀p∈ps,dO p)∧
   aJ ps≤40*i∧x.cps.toList=l1++l2∧Run l1 ps q)
  ⟨none,none,none,none,[],[],[],x.cps.toList,[],rfl,sameNew hb,ay, .nil,rfl,(fun p hp=>by cases hp),Nat.le_refl _,rfl, .nil⟩ ?_ ?_⟩
 ·rintro i σ H2 hi ⟨u,v,w,z,ys,ps,l1,l2,q,rfl,s2,uO,bN,hl,aw,ht,ex,dB⟩
  have hlen:=Paired.length bN
  have hxx:x.length=l1.length+l2.length:=by rw[len_list,ex];simp
  refine⟨_,rfl,_,rfl,c,_,rfl, ?_⟩
  generalize mixed c (50+ (0+ (i:Int)))=nm
  refine⟨(by show 6≤sizeLine;decide),fun t1 fV=> ?_⟩
  have j0:0≤nm / 4 % 6:=Int.emod_nonneg _ (by decide)
  have j1:nm / 4 % 6<6:=Int.emod_lt_of_pos _ (by decide)
  obtain⟨n5,e5,n50,n51⟩:=aew (nm / 4 % 6) j0 j1
  refine⟨_,rfl,⟨by decide,by decide⟩,(by show(0:Int) <6;decide), .inl ⟨_,_,_,_,rfl,rfl,aj.of ay,e5, ?_⟩⟩
  have s3:ax H (upd H2 t1 (.lst [.int 1, .int 2, .int 0, .int 3, .int 5, .int 40])):=s2.trans (sameNew fV)
  have pQ:upd H2 t1 (.lst [.int 1, .int 2, .int 0, .int 3, .int 5, .int 40]) b=some (.lst ys):=by rw[aI (bz uO fV)];exact uO
  have qX:=bN.mono (bf (sameNew (o:= .lst [.int 1, .int 2, .int 0, .int 3, .int 5, .int 40]) fV))
  generalize upd H2 t1 (.lst [.int 1, .int 2, .int 0, .int 3, .int 5, .int 40])=H3 at s3 pQ qX
  refine⟨_,rfl,_,rfl,bL (by omega),_,rfl,trivial, ?_⟩
  obtain⟨lf,NV⟩: ∃lf,lf=(if (x.length:Int) - (l1.length:Int) <n5 then (x.length:Int) - (l1.length:Int) else n5):=⟨_,rfl⟩
  have lf0:0≤lf∧lf≤40∧lf≤ (l2.length:Int):=by
   rw[NV];split<;>omega
  show ar _ _ _ [some (V.int c),some (V.str x),some (V.int m),some (V.ref b),some (V.int ((l1.length:Nat):Int)),some (V.int (0+ (i:Int))),some (V.int nm),some (V.int n5),some (V.int (if (x.length:Int) - (l1.length:Int) <n5 then (x.length:Int) - (l1.length:Int) else n5))] H3
  rw[←NV]
  obtain⟨la,lb,e2,rn⟩: ∃la lb,l2=la++lb∧lf=(la.length:Int):=⟨l2.take lf.toNat,l2.drop lf.toNat,(List.take_append_drop _ _).symm,by rw[List.length_take];omega⟩
  have app: ∀(p:Pt) (H4:Hp),ax H H4→H4 b=some (.lst ys)→aM H4 ys ps→ ∀t,H4 t=none→
    upd H4 t (.tup [.str p.word,p.val]) b=some (.lst ys)∧ys.length<sizeLine∧
     ax H (upd (upd H4 t (.tup [.str p.word,p.val])) b (.lst (ys++ [.ref t])))∧aM (upd (upd H4 t (.tup [.str p.word,p.val])) b (.lst (ys++ [.ref t]))) (ys++ [.ref t]) (ps++ [p]):=by
   intro p H4 s4 CU aeC t ht
   have uP:b≠t:=bz CU ht
   refine⟨(by rw[aI uP];exact CU),cU (by omega),jj s4 hb (sameBut (sameNew ht) aW.upd), ?_⟩
   refine aM.snoc (aeC.mono ((sameBut (sameNew ht) aW.upd).da CU)) ⟨t,rfl, ?_⟩
   rw[aI uP.symm,ay]
  have NW: ∀p,dO p→ ∀q∈ps++ [p],dO q:=by
   intro p hp q hq
   rcases List.mem_append.mp hq with z | z
   ·exact aw q z
   ·rw[List.mem_singleton.mp z];exact hp
  have sgl: ∀c∈la,SG.cps.contains c=true:=fun c hc=>hx.2 c (by rw[ex,e2];simp[hc])
  refine⟨_,rfl,(by show(0:Int) <4;decide),_,rfl, ?_⟩
  refine hV (fun h=> ?_) (fun h=> ?_)
  ·have h3:nm % 4=3:=by
    have:=of_decide_eq_true (show decide (V.int (nm % 4)=V.int 3)=true from by rw[←Bool.false_xor (decide _)];exact h)
    injection this
   refine⟨_,rfl, .inl ⟨rfl,_,aj.of pQ⟩,_,rfl,_,rfl,nm,n5,rfl,n50,by omega,fun y H5 gy ly s5=> ⟨(by show 2≤sizeLine;decide),fun t m_=> ?_⟩⟩
   obtain⟨a1,a2,a3,a4⟩:=app (.put y) H5 (s3.trans s5) (s5 _ _ pQ) (qX.mono (bf s5)) t m_
   refine⟨ys,a1,a2, ?_⟩
   refine⟨_,rfl,(by show(0:Int) <4;decide),trivial,_,rfl,iF ?_ (decide_eq_false (by omega))⟩
   have hr:=dB.app (Run.put (s:=y) Run.nil)
   rw[List.append_nil,List.append_nil] at hr
   refine⟨_,_,_,_,ys++ [V.ref t],ps++ [Pt.put y],l1,l2,_,rfl,a3,ay,a4,by simp[hl],NW _ ⟨gy,by omega⟩, ?_,ex,hr⟩
   rw[CQ]
   show aJ ps+ (y.length+0)≤_
   omega
  ·have h3:nm % 4≠3:=fun z=>h (by show(false ^^ decide (V.int (nm % 4)=V.int 3))=true;rw[z];rfl)
   have h4:nm % 4<3:=by have:=Int.emod_lt_of_pos nm (show(0:Int) <4 by decide);omega
   have fin: ∀(p:Pt) (H5:Hp) (fj:List V) (q':List Nat),ax H H5→H5 b=some (.lst fj)→aM H5 fj (ps++ [p])→dO p→cZ p≤40→Run (l1++la) (ps++ [p]) q'→
     ∃u v w z ys ps jo l2 q,[some (V.int c),some (V.str x),some (V.int m),some (V.ref b),some (V.int ((l1.length:Int)+lf)),some (V.int (0+ (i:Int))),some (V.int nm),some (V.int n5),some (V.int lf)]=
      [some (.int c),some (.str x),some (.int m),some (.ref b),some (.int ((jo.length:Nat):Int)),u,v,w,z]∧ax H H5∧H5 b=some (.lst ys)∧aM H5 ys ps∧ps.length=i+1∧(∀p∈ps,dO p)∧
      aJ ps≤40* (i+1)∧x.cps.toList=jo++l2∧Run jo ps q:=by
    intro p H5 fj q' s5 h5 hp5 rp tp hr
    refine⟨some (.int (0+ (i:Int))),some (.int nm),some (.int n5),some (.int lf),fj,ps++ [p],l1++la,lb,q', ?_,s5,h5,hp5,by simp[hl],NW p rp, ?_,by rw[ex,e2];simp,hr⟩
    ·rw[List.length_append,rn,Int.natCast_add]
    ·rw[CQ]
     have:aJ [p]=cZ p:=by simp[aJ]
     omega
   refine⟨_,rfl,(by show(0:Int) <4;decide),_,rfl, ?_⟩
   refine hV (fun h5=> ?_) (fun h5=> ?_)
   ·refine⟨_,rfl, .inl ⟨rfl,_,aj.of pQ⟩,_,rfl,_,rfl,_,rfl,_,rfl,_,rfl,_,rfl,bL (by omega), ?_⟩
    rw[CP (by rw[ex,e2]) lf rn]
    refine⟨(by show 2≤sizeLine;decide),fun t m_=> ?_⟩
    obtain⟨a1,a2,a3,a4⟩:=app (.cut ⟨la.toArray⟩) H3 s3 pQ qX t m_
    refine⟨ys,a1,a2, ?_⟩
    refine⟨_,rfl,(by show(0:Int) <4;decide),trivial,_,rfl,iT ?_ (decide_eq_true h4)⟩
    refine⟨_,rfl,_,rfl, ?_⟩
    have hr:=dB.app (Run.cut (s:=⟨la.toArray⟩) Run.nil)
    rw[List.append_nil] at hr
    have ll:(⟨la.toArray⟩:Str).length=la.length:=by rw[len_list]
    exact fin (.cut ⟨la.toArray⟩) _ _ _ a3 ay a4 ⟨⟨by rw[ll];omega,sgl⟩,by rw[ll];omega⟩ (by show(⟨la.toArray⟩:Str).length≤40;rw[ll];omega) hr
   ·refine⟨_,rfl, .inl ⟨rfl,_,aj.of pQ⟩,_,rfl,(by show 2≤sizeLine;decide),fun t m_=> ?_⟩
    obtain⟨a1,a2,a3,a4⟩:=app (.keep lf) H3 s3 pQ qX t m_
    refine⟨ys,a1,a2, ?_⟩
    refine⟨_,rfl,(by show(0:Int) <4;decide),trivial,_,rfl,iT ?_ (decide_eq_true h4)⟩
    refine⟨_,rfl,_,rfl, ?_⟩
    have hr:=dB.app (Run.keep (a:=la) rn Run.nil)
    rw[List.append_nil] at hr
    exact fin (.keep lf) _ _ _ a3 ay a4 lf0.1 (by show 0≤40;decide) hr
 ·rintro σ H2 ⟨u,v,w,z,ys,ps,l1,l2,q,rfl,s2,uO,bN,hl,aw,ht,ex,dB⟩
  have hlen:=Paired.length bN
  have hxx:x.length=l1.length+l2.length:=by rw[len_list,ex];simp
  refine⟨_,rfl,_,rfl,bL (by omega),_,rfl,trivial,(by show 2≤sizeLine;decide),fun t m_=> ⟨(by show 1≤sizeLine;decide),fun d hd=> ?_⟩⟩
  have uP:b≠t:=bz uO m_
  have rq:upd H2 t (.tup [.str "keep", .int ((x.length:Int) - (l1.length:Int))]) b=some (.lst ys):=by rw[aI uP];exact uO
  have t_:b≠d:=bz rq hd
  have NX:t≠d:=fun z=>by rw[←z,ay] at hd;cases hd
  have s4:ax H2 (upd (upd H2 t (.tup [.str "keep", .int ((x.length:Int) - (l1.length:Int))])) d (.lst [.ref t])):=(sameNew m_).trans (sameNew hd)
  refine .inl ⟨b,d,ys,[.ref t],rfl,rfl,(by rw[aI t_];exact rq),ay,bL (by simp;omega),fun e he=> ?_⟩
  have s5:=s4.trans (sameNew (o:= .lst (ys++ [.ref t])) he)
  have he2:H2 e=none:=s4.free he
  have hr:=dB.app (Run.keep (a:=l2) (n:=(x.length:Int) - (l1.length:Int)) (by omega) Run.nil)
  rw[List.append_nil,←ex] at hr
  have hte:t≠e:=fun z=>by rw[←z,aI NX,ay] at he;cases he
  refine k e _ (ys++ [.ref t]) (ps++ [.keep ((x.length:Int) - (l1.length:Int))]) _ (s2.trans s5) (s2.free he2) ay (aM.snoc (bN.mono (bf s5)) ⟨t,rfl, ?_⟩) ?_ (by simp;omega) ?_ hr
  ·rw[aI hte,aI NX,ay];rfl
  ·intro p hp
   rcases List.mem_append.mp hp with z | z
   ·exact aw p z
   ·rw[List.mem_singleton.mp z]
    show(0:Int)≤_
    omega
  ·rw[CQ]
   show aJ ps+ (0+0)≤4000
   omega
abbrev aeH:List (Str×Sp):=[("_law_neat",jm),("_law_parts",yf)]
def nc:Sp:=fun vs H Q E=> ∃(c:Int) (x:Str) (m:Int),vs=[.int c, .str x, .int m]∧good x∧x.length≤10000∧0≤m∧m≤100∧
 ∀b H' ys ps q,ax H H'→H b=none→H' b=some (.lst ys)→aM H' ys ps→(∀p∈ps,br p)→chainOk "" ps=true→ps.length≤305→aJ ps≤4000→Run x.cps.toList ps q→Q (.ref b) H'
theorem yh(ps:List Pt)(h: ∀p∈ps,dO p):aJ (dv ps)=aJ ps:=by
 have I:=aej ps h
 have e:dv ps=cH ((ps.foldl bp ([],((Str.ofString "",Str.ofString "",0):Row))).1++ [(ps.foldl bp ([],((Str.ofString "",Str.ofString "",0):Row))).2]):=rfl
 rw[e,CK,I.aJ]
theorem aeI{K:PySem.W.Frag}(vs:List V)(H:Hp)(Q:VK)(E:XK)(h:nc vs H Q E):ar (aQ K aeH [] (E:=E)) BH {nx:=fun _ H'=>Q .aq H',rt:=Q} (start BG vs) H:=by
 obtain⟨c,x,m,rfl,hx,rm,yg,CS,k⟩:=h
 refine⟨_,rfl,_,rfl,_,rfl,c,x,m,rfl,hx,rm,yg,CS,fun b H1 ys ps q s1 fb h1 hp hr hl ht dB=> ?_⟩
 refine⟨b,ys,ps,rfl,h1,hp,by omega,by omega,fun d H2 zs s2 fd h2 hz=> ?_⟩
 obtain⟨g1,g2,_⟩:=uI ps hr (by omega)
 have jc:=NP ps
 rw[CH ps hr] at jc
 exact k d H2 zs (dv ps) q (s1.trans s2) (s1.free fd) h2 hz g2 g1 (by omega) (by rw[yh ps hr];exact ht) (CN dB)
end L2.B
namespace L2
open PySem PySem.Spec PyProof.Rows
section
variable {Γ:aG} {D:Ends} {σ:St} {H:Hp} {r:List RS} {Q:VK} {QA:List V→Hp→Prop} {QT:Bool→Hp→Prop}
theorem aA{i:Nat}{v:V}(h:σ[i]?=some (some v))(q:Q v H):ag Γ (.v i) σ H Q:=⟨_,h,q⟩
theorem aX{v:V}(q:Q v H):ag Γ (.c v) σ H Q:=q
theorem NY{j:Nat}(q:Q (Γ.gv j) H):ag Γ (.g j) σ H Q:=q
theorem e8{op:Operator}{a b:RE}(h:ag Γ a σ H fun x H1=>ag Γ b σ H1 fun y H2=>qw Γ.K op x y H2 Q):ag Γ (.bin op a b) σ H Q:=h
theorem uQ{op:CmpOp}{a b:RE}(h:ag Γ a σ H fun x H1=>ag Γ b σ H1 fun y H2=>dz Γ.K op x y H2 Q):ag Γ (.cmp op a b) σ H Q:=h
theorem dJ{a b:RE}(h:ag Γ a σ H fun x H1=>ag Γ b σ H1 fun y H2=>n_ Γ.K Γ.sd x y H2 Q):ag Γ (.ix a b) σ H Q:=h
theorem aeJ{j:Nat}{as:List RE}(h:bK Γ as σ H fun vs H1=>Γ.fs j (vs++ []) H1 Q Γ.E):ag Γ (.call j as) σ H Q:=h
theorem cf{j:Nat}{as:List RE}(sp:Sp)(hs:Γ.fs j=sp)(h:bK Γ as σ H fun vs H1=>sp vs H1 Q Γ.E):ag Γ (.call j as) σ H Q:=by
 subst hs
 refine aeJ ?_
 have e:(fun(vs:List V) (H1:Hp)=>Γ.fs j (vs++ []) H1 Q Γ.E)=fun vs H1=>Γ.fs j vs H1 Q Γ.E:=by
  funext vs H1;rw[List.append_nil]
 rw[e];exact h
theorem lI{b:kE}{as:List RE}(h:bK Γ as σ H fun vs H1=>mO Γ.K b vs H1 Q):ag Γ (.blt b as) σ H Q:=h
theorem jq{as:List RE}(h:bK Γ as σ H fun xs H1=>xs.length≤sizeLine∧ ∀p,H1 p=none→Q (.ref p) (upd H1 p (.tup xs))):ag Γ (.tup as) σ H Q:=h
theorem gX{as:List RE}(h:bK Γ as σ H fun xs H1=>xs.length≤sizeLine∧ ∀p,H1 p=none→Q (.ref p) (upd H1 p (.lst xs))):ag Γ (.lst as) σ H Q:=h
theorem aeK{a c:RE}(h:ag Γ a σ H fun x H1=>ag Γ c σ H1 fun y H2=>jJ Γ.K [x,y] H2 Q):ag Γ (.di a c) σ H Q:=h
theorem NZ{a c:RE}(h:ag Γ a σ H fun x H1=>ag Γ c σ H1 fun y H2=>jJ Γ.K [x,y] H2 fun z H3=>kI Γ.K z H3 fun b=>QT b H3):bD Γ (.di a c) σ H QT:=h
theorem aV(q:QA [] H):bK Γ [] σ H QA:=q
theorem aC{a:RE}{as:List RE}(h:ag Γ a σ H fun x H1=>bK Γ as σ H1 fun xs H2=>QA (x::xs) H2):bK Γ (a::as) σ H QA:=h
theorem cx{i:Nat}{e:RE}(h:ag Γ e σ H fun x H1=>ar Γ r D (σ.set i (some x)) H1):ar Γ (.asg i e::r) D σ H:=h
theorem gC{e:RE}(h:ag Γ e σ H fun _ H1=>ar Γ r D σ H1):ar Γ (.drop e::r) D σ H:=h
theorem lJ{e:RE}(h:ag Γ e σ H D.rt):ar Γ (.ret e::r) D σ H:=h
end
section
variable {Γ:aG} {D:Ends} {σ:St} {H:Hp} {r:List RS} {Q:VK} {QA:List V→Hp→Prop} {QT:Bool→Hp→Prop}
theorem N0{K:PySem.W.Frag}{b:Bool}{QB:Bool→Prop}(h:QB b):kI K (.bl b) H QB:=h
theorem N1{a:RE}(h:bD Γ a σ H fun b H1=>QT (!b) H1):bD Γ (.not a) σ H QT:=h
theorem N2{j:Nat}{as:List RE}(sp:Sp)(hs:Γ.fs j=sp)(h:bK Γ as σ H fun vs H1=>sp vs H1 (fun x H2=>kI Γ.K x H2 fun b=>QT b H2) Γ.E):bD Γ (.call j as) σ H QT:=by
 subst hs
 show bK Γ as σ H fun vs H1=>Γ.fs j (vs++ []) H1 (fun x H2=>kI Γ.K x H2 fun b=>QT b H2) Γ.E
 have e:(fun(vs:List V) (H1:Hp)=>Γ.fs j (vs++ []) H1 (fun x H2=>kI Γ.K x H2 fun b=>QT b H2) Γ.E)=fun vs H1=>Γ.fs j vs H1 (fun x H2=>kI Γ.K x H2 fun b=>QT b H2) Γ.E:=by
  funext vs H1;rw[List.append_nil]
 rw[e];exact h
theorem N3{a b:RE}(h:bD Γ a σ H fun c H1=>if c=true then QT true H1 else bD Γ b σ H1 QT):bD Γ (.or [a,b]) σ H QT:=h
theorem aeL{a b:RE}(h:bD Γ a σ H fun c H1=>if c=true then bD Γ b σ H1 QT else QT false H1):bD Γ (.and [a,b]) σ H QT:=h
end
end L2
namespace L2.B
open PySem PySem.Spec PyProof.Rows
theorem aeM{K:PySem.W.Frag}{σ:St}{H:Hp}{QQ:List V→Hp→Addr→Prop}{te:TE}{fv:List (Str×Nat)}{a:Addr}{xs:List V}(ha:H a=some (.lst xs))(hl:xs.length≤1000000)(P:Nat→List V→Hp→Prop)(p0:P 0 [] H)
  (step: ∀i x ys H2,xs[i]?=some x→ax H H2→P i ys H2→ ∀Q':VK,(∀y H3,ax H2 H3→P (i+1) (ys++ [y]) H3→Q' y H3)→te (some x::dc σ fv) H2 Q')
  (fin: ∀ys H2 p,ax H H2→P xs.length ys H2→H2 p=none→QQ ys H2 p): ∃W:Nat→Nat→List V→Hp→Prop,(∃m,W 0 m [] H)∧ ∀i m ys H2,W i m ys H2→
   ((iE K a).stop i H2∧ ∀p,H2 p=none→QQ ys H2 p)∨
   ((iE K a).go i H2∧ ∀x H3,(iE K a).i7 i H2 x H3→nT K none x H3 fun zs=>nU none (zs.map some++dc σ fv) H3 fun b H5=>
    if b=true then te (zs.map some++dc σ fv) H5 fun y H6=>ys.length<sizeLine∧ ∃m',m'<m∧W (i+1) m' (ys++ [y]) H6 else ∃m',m'<m∧W (i+1) m' ys H5):=by
 refine⟨fun i m ys H2=>m=xs.length - i∧i≤xs.length∧ys.length=i∧ax H H2∧P i ys H2,⟨_,rfl,Nat.zero_le _,rfl,ax.refl _,p0⟩, ?_⟩
 rintro i m ys H2 ⟨rfl,hi,hy,s,p⟩
 by_cases aS:i<xs.length
 ·refine .inr ⟨⟨xs,xs[i],aj.of (s _ _ ha),by simp[aS]⟩, ?_⟩
  rintro x H3 ⟨rfl,hx⟩
  have jd:=hx xs (aj.of (s _ _ ha))
  exact step i x ys _ jd s p _ fun y H4 s4 p4=> ⟨cU (by omega),xs.length - (i+1),by omega,rfl,aS,by simp[hy],s.trans s4,p4⟩
 ·have eK:i=xs.length:=by omega
  subst eK
  exact .inl ⟨⟨xs,aj.of (s _ _ ha),Nat.le_refl _⟩,fun q hq=>fin ys _ q s p hq⟩
theorem N4{K:PySem.W.Frag}{σ:St}{H:Hp}{QQ:List V→Hp→Addr→Prop}{te:TE}{fv:List (Str×Nat)}{lo:Int}{n:Nat}(hl:n≤1000000)(P:Nat→List V→Hp→Prop)(p0:P 0 [] H)
  (step: ∀i ys H2,i<n→ax H H2→P i ys H2→ ∀Q':VK,(∀y H3,ax H2 H3→P (i+1) (ys++ [y]) H3→Q' y H3)→te (some (.int (lo+i))::dc σ fv) H2 Q')
  (fin: ∀ys H2 p,ax H H2→P n ys H2→H2 p=none→QQ ys H2 p): ∃W:Nat→Nat→List V→Hp→Prop,(∃m,W 0 m [] H)∧ ∀i m ys H2,W i m ys H2→
   ((jB lo n).stop i H2∧ ∀p,H2 p=none→QQ ys H2 p)∨
   ((jB lo n).go i H2∧ ∀x H3,(jB lo n).i7 i H2 x H3→nT K none x H3 fun zs=>nU none (zs.map some++dc σ fv) H3 fun b H5=>
    if b=true then te (zs.map some++dc σ fv) H5 fun y H6=>ys.length<sizeLine∧ ∃m',m'<m∧W (i+1) m' (ys++ [y]) H6 else ∃m',m'<m∧W (i+1) m' ys H5):=by
 refine⟨fun i m ys H2=>m=n - i∧i≤n∧ys.length=i∧ax H H2∧P i ys H2,⟨_,rfl,Nat.zero_le _,rfl,ax.refl _,p0⟩, ?_⟩
 rintro i m ys H2 ⟨rfl,hi,hy,s,p⟩
 by_cases aS:i<n
 ·refine .inr ⟨aS, ?_⟩
  rintro x H3 ⟨rfl,rfl⟩
  exact step i ys _ aS s p _ fun y H4 s4 p4=> ⟨cU (by omega),n - (i+1),by omega,rfl,aS,by simp[hy],s.trans s4,p4⟩
 ·have eK:i=n:=by omega
  subst eK
  exact .inl ⟨Nat.le_refl _,fun q hq=>fin ys _ q s p hq⟩
end L2.B
namespace L2.B
inductive At where | K | P (c:Nat) | C (c:Nat)
 deriving DecidableEq
abbrev Form:=List Nat×List Nat×List (List Nat×List Nat)
def nb:List At→Form
 | []=> ([],[],[])
 | .P c::xs=> (c::(nb xs).1,(nb xs).2.1,(nb xs).2.2)
 | .C c::xs=> ((nb xs).1,c::(nb xs).2.1,(nb xs).2.2)
 | .K::xs=> ([],[],((nb xs).1,(nb xs).2.1)::(nb xs).2.2)
def fit:List Nat→List At→Prop
 | l,[]=>l=[]
 | l, .P _::xs=>fit l xs
 | [], .K::_=>False
 | _::l, .K::xs=>fit l xs
 | [], .C _::_=>False
 | a::l, .C c::xs=>a=c∧fit l xs
abbrev Sg:=Sum Nat Nat
def res(i:Nat):List At→List Sg
 | []=> []
 | .P c::xs=> .inr c::res i xs
 | .K::xs=> .inl i::res (i+1) xs
 | .C _::xs=>res (i+1) xs
theorem ng: ∀(xs:List At) (i j:Nat),Sum.inl j∈res i xs→i≤j
 | [],i,j,h=>by cases h
 | .P c::xs,i,j,h=>by
  rcases List.mem_cons.mp h with z | z
  ·cases z
  ·exact ng xs i j z
 | .K::xs,i,j,h=>by
  rcases List.mem_cons.mp h with z | z
  ·cases z;exact Nat.le_refl _
  ·have:=ng xs (i+1) j z;omega
 | .C c::xs,i,j,h=>by have:=ng xs (i+1) j h;omega
def unres(i:Nat)(l:List Nat):List Sg→Form
 | []=> ([],l,[])
 | .inr c::r=> (c::(unres i l r).1,(unres i l r).2.1,(unres i l r).2.2)
 | .inl j::r=> ([],l.take (j - i),((unres (j+1) (l.drop (j+1 - i)) r).1,(unres (j+1) (l.drop (j+1 - i)) r).2.1)::(unres (j+1) (l.drop (j+1 - i)) r).2.2)
theorem N5(c:Nat)(l:List Nat)(i:Nat): ∀r:List Sg,(∀j,Sum.inl j∈r→i+1≤j)→unres i (c::l) r=((unres (i+1) l r).1,c::(unres (i+1) l r).2.1,(unres (i+1) l r).2.2)
 | [],_=>rfl
 | .inr d::r,h=>by
  have ih:=N5 c l i r fun j hj=>h j (.tail _ hj)
  simp only[unres,ih]
 | .inl j::r,h=>by
  have hj:i+1≤j:=h j (.head _)
  simp only[unres]
  rw[show j - i=(j - (i+1))+1 by omega,List.take_succ_cons,show j+1 - i=(j+1 - (i+1))+1 by omega,List.drop_succ_cons]
theorem uR: ∀(xs:List At) (i:Nat) (l:List Nat),fit l xs→nb xs=unres i l (res i xs)
 | [],i,l,h=>by cases h;rfl
 | .P c::xs,i,l,h=>by
  have ih:=uR xs i l h
  simp only[nb,res,unres,←ih]
 | .K::xs,i,[],h=>h.elim
 | .K::xs,i,a::l,h=>by
  have ih:=uR xs (i+1) l h
  simp only[nb,res,unres]
  rw[show i+1 - i=1 by omega,Nat.sub_self]
  simp only[List.drop_succ_cons,List.drop_zero,List.take_zero,←ih]
 | .C c::xs,i,[],h=>h.elim
 | .C c::xs,i,a::l,h=>by
  obtain⟨rfl,h⟩:=h
  have ih:=uR xs (i+1) l h
  simp only[nb,res]
  rw[N5 a l i _ fun j hj=>ng xs (i+1) j hj,←ih]
theorem aeN{xs ys:List At}{l:List Nat}(hx:fit l xs)(hy:fit l ys)(h:res 0 xs=res 0 ys):nb xs=nb ys:=by
 rw[uR xs 0 l hx,uR ys 0 l hy,h]
def out:List Nat→List At→List Nat
 | l,[]=> []
 | l, .P c::xs=>c::out l xs
 | [], .K::xs=>out [] xs
 | a::l, .K::xs=>a::out l xs
 | [], .C _::xs=>out [] xs
 | _::l, .C _::xs=>out l xs
inductive cb:List At→List At→List At→Prop
 | nil:cb [] [] []
 | p {c xs ys zs}:cb xs ys zs→cb xs (.P c::ys) (.P c::zs)
 | c {c xs ys zs}:cb xs ys zs→cb (.C c::xs) ys (.C c::zs)
 | kk {xs ys zs}:cb xs ys zs→cb (.K::xs) (.K::ys) (.K::zs)
 | kc {c xs ys zs}:cb xs ys zs→cb (.K::xs) (.C c::ys) (.C c::zs)
 | pk {c xs ys zs}:cb xs ys zs→cb (.P c::xs) (.K::ys) (.P c::zs)
 | pc {c xs ys zs}:cb xs ys zs→cb (.P c::xs) (.C c::ys) zs
def sb(r:List Sg)(k:Nat):Sg→Sg
 | .inr c=> .inr c
 | .inl j=>r.getD (j - k) (.inr 0)
def sub(r:List Sg)(k:Nat)(t:List Sg):List Sg:=t.map (sb r k)
theorem yi(x:Sg)(r:List Sg)(k:Nat)(t:List Sg)(h: ∀j,Sum.inl j∈t→k+1≤j):sub (x::r) k t=sub r (k+1) t:=by
 refine List.map_congr_left fun y hy=> ?_
 cases y with
 | inr c=>rfl
 | inl j=>
  have:=h j hy
  simp only[sb]
  rw[show j - k=(j - (k+1))+1 by omega,List.getD_cons_succ]
theorem aeO{xs ys zs:List At}(h:cb xs ys zs): ∀(l:List Nat) (i k:Nat),fit l xs→fit (out l xs) ys→fit l zs∧out l zs=out (out l xs) ys∧res i zs=sub (res i xs) k (res k ys):=by
 induction h with
 | nil=>intro l i k h1 h2;exact⟨h1,rfl,rfl⟩
 | @p c xs ys zs _ ih=>
  intro l i k h1 h2
  obtain⟨a,b,d⟩:=ih l i k h1 h2
  refine⟨a, ?_, ?_⟩
  ·show c::out l zs=c::out (out l xs) ys
   rw[b]
  ·show Sum.inr c::res i zs=_
   rw[d];rfl
 | @c c xs ys zs _ ih=>
  intro l i k h1 h2
  cases l with
  | nil=>exact h1.elim
  | cons a l=>
   obtain⟨rfl,h1⟩:=h1
   obtain⟨e1,e2,e3⟩:=ih l (i+1) k h1 h2
   exact⟨⟨rfl,e1⟩,e2,e3⟩
 | @kk xs ys zs _ ih=>
  intro l i k h1 h2
  cases l with
  | nil=>exact h1.elim
  | cons a l=>
   obtain⟨e1,e2,e3⟩:=ih l (i+1) (k+1) h1 h2
   refine⟨e1, ?_, ?_⟩
   ·show a::out l zs=a::out (out l xs) ys
    rw[e2]
   ·show Sum.inl i::res (i+1) zs=sub (Sum.inl i::res (i+1) xs) k (Sum.inl k::res (k+1) ys)
    rw[e3]
    show _=sb (Sum.inl i::res (i+1) xs) k (Sum.inl k)::sub (Sum.inl i::res (i+1) xs) k (res (k+1) ys)
    rw[yi _ _ _ _ fun j hj=>ng ys (k+1) j hj]
    simp only[sb]
    rw[Nat.sub_self,List.getD_cons_zero]
 | @kc c xs ys zs _ ih=>
  intro l i k h1 h2
  cases l with
  | nil=>exact h1.elim
  | cons a l=>
   obtain⟨rfl,h2⟩:=h2
   obtain⟨e1,e2,e3⟩:=ih l (i+1) (k+1) h1 h2
   refine⟨⟨rfl,e1⟩,e2, ?_⟩
   show res (i+1) zs=sub (Sum.inl i::res (i+1) xs) k (res (k+1) ys)
   rw[e3,yi _ _ _ _ fun j hj=>ng ys (k+1) j hj]
 | @pk c xs ys zs _ ih=>
  intro l i k h1 h2
  obtain⟨e1,e2,e3⟩:=ih l i (k+1) h1 h2
  refine⟨e1, ?_, ?_⟩
  ·show c::out l zs=c::out (out l xs) ys
   rw[e2]
  ·show Sum.inr c::res i zs=sub (Sum.inr c::res i xs) k (Sum.inl k::res (k+1) ys)
   rw[e3]
   show _=sb (Sum.inr c::res i xs) k (Sum.inl k)::sub (Sum.inr c::res i xs) k (res (k+1) ys)
   rw[yi _ _ _ _ fun j hj=>ng ys (k+1) j hj]
   simp only[sb]
   rw[Nat.sub_self,List.getD_cons_zero]
 | @pc c xs ys zs _ ih=>
  intro l i k h1 h2
  obtain⟨_,h2⟩:=h2
  obtain⟨e1,e2,e3⟩:=ih l i (k+1) h1 h2
  refine⟨e1,e2, ?_⟩
  show res i zs=sub (Sum.inr c::res i xs) k (res (k+1) ys)
  rw[e3,yi _ _ _ _ fun j hj=>ng ys (k+1) j hj]
def jX:Nat→List Nat→List Nat→List (List Nat×List Nat)→List Sg
 | i,p,q,[]=>p.map .inr
 | i,p,q,(p',q')::r=>p.map .inr++ .inl (i+q.length)::jX (i+q.length+1) p' q' r
theorem aeP(c:Nat): ∀(r:List (List Nat×List Nat)) (i:Nat) (p q:List Nat),jX (i+1) p q r=jX i p (c::q) r
 | [],i,p,q=>rfl
 | (p',q')::r,i,p,q=>by
  simp only[jX,List.length_cons]
  rw[show i+1+q.length=i+ (q.length+1) by omega]
theorem aeQ(c:Nat): ∀(r:List (List Nat×List Nat)) (i:Nat) (p q:List Nat),jX i (c::p) q r= .inr c::jX i p q r
 | [],i,p,q=>rfl
 | (p',q')::r,i,p,q=>rfl
theorem uS: ∀(xs:List At) (i:Nat),res i xs=jX i (nb xs).1 (nb xs).2.1 (nb xs).2.2
 | [],i=>rfl
 | .P c::xs,i=>by
  show Sum.inr c::res i xs=jX i (c::(nb xs).1) _ _
  rw[uS xs i,aeQ];rfl
 | .C c::xs,i=>by
  show res (i+1) xs=jX i (nb xs).1 (c::(nb xs).2.1) _
  rw[uS xs (i+1),aeP c];rfl
 | .K::xs,i=>by
  show Sum.inl i::res (i+1) xs=Sum.inl (i+0)::jX (i+0+1) _ _ _
  rw[uS xs (i+1)];rfl
theorem N6{xs ys:List At}(h:nb xs=nb ys)(i:Nat):res i xs=res i ys:=by rw[uS,uS,h]
def ij:List Nat→List Nat→List (List Nat×List Nat)→Form→Form
 | p,q,[],F=> (p++F.1,q++F.2.1,F.2.2)
 | p,q,(a,b)::r,F=> (p,q,((ij a b r F).1,(ij a b r F).2.1)::(ij a b r F).2.2)
theorem aeR(c:Nat)(p q:List Nat)(r:List (List Nat×List Nat))(F:Form):ij (c::p) q r F=(c::(ij p q r F).1,(ij p q r F).2.1,(ij p q r F).2.2):=by
 cases r<;>rfl
theorem aeS(c:Nat)(p q:List Nat)(r:List (List Nat×List Nat))(F:Form):ij p (c::q) r F=((ij p q r F).1,c::(ij p q r F).2.1,(ij p q r F).2.2):=by
 cases r<;>rfl
theorem lK: ∀(xs ys:List At),nb (xs++ys)=ij (nb xs).1 (nb xs).2.1 (nb xs).2.2 (nb ys)
 | [],ys=>rfl
 | .K::xs,ys=>by
  simp only[List.cons_append,nb,lK xs ys];rfl
 | .P c::xs,ys=>by
  simp only[List.cons_append,nb,lK xs ys,aeR]
 | .C c::xs,ys=>by
  simp only[List.cons_append,nb,lK xs ys,aeS]
theorem CV{xs bc ys fj:List At}(h:nb xs=nb bc)(h':nb ys=nb fj):nb (xs++ys)=nb (bc++fj):=by rw[lK,lK,h,h']
theorem CW: ∀(p:List Nat),nb (p.map .P)=(p,[],[])
 | []=>rfl
 | c::p=>by simp only[List.map_cons,nb,CW p]
theorem CY: ∀(p:List Nat),nb (p.map .C)=([],p,[])
 | []=>rfl
 | c::p=>by simp only[List.map_cons,nb,CY p]
theorem aeT(p q:List Nat):nb (q.map .C++p.map .P)=nb (p.map .P++q.map .C):=by
 rw[lK,lK,CW,CY]
 simp[ij]
def rK(n:Nat):List At:=List.replicate n .K
theorem aeU(n:Nat)(xs:List At):nb (rK (n+1)++xs)=([],[],List.replicate n ([],[])++ ((nb xs).1,(nb xs).2.1)::(nb xs).2.2):=by
 induction n with
 | zero=>rfl
 | succ n ih=>
  have e:rK (n+1+1)++xs= .K::(rK (n+1)++xs):=rfl
  rw[e]
  simp only[nb,ih]
  rfl
theorem yj: ∀(a l:List Nat) (xs:List At),fit (a++l) (rK a.length++xs)↔fit l xs
 | [],l,xs=>Iff.rfl
 | c::a,l,xs=>yj a l xs
theorem yk: ∀(a l:List Nat) (xs:List At),out (a++l) (rK a.length++xs)=a++out l xs
 | [],l,xs=>rfl
 | c::a,l,xs=>by
  show c::out (a++l) (rK a.length++xs)=_
  rw[yk a l xs];rfl
theorem uT: ∀(s l:List Nat) (xs:List At),fit l (s.map .P++xs)↔fit l xs
 | [],l,xs=>Iff.rfl
 | c::s,l,xs=>uT s l xs
theorem yl: ∀(s l:List Nat) (xs:List At),out l (s.map .P++xs)=s++out l xs
 | [],l,xs=>rfl
 | c::s,l,xs=>by
  show c::out l (s.map .P++xs)=_
  rw[yl s l xs];rfl
theorem CZ: ∀(s l:List Nat) (xs:List At),fit (s++l) (s.map .C++xs)↔fit l xs
 | [],l,xs=>Iff.rfl
 | c::s,l,xs=>by
  show c=c∧fit (s++l) (s.map .C++xs)↔_
  rw[CZ s l xs];simp
theorem ym: ∀(s l:List Nat) (xs:List At),out (s++l) (s.map .C++xs)=out l xs
 | [],l,xs=>rfl
 | c::s,l,xs=>ym s l xs
end L2.B
namespace L2.B
open PySem PySem.Spec PyProof.Rows
def ba:Pt→List At
 | .keep n=>rK n.toNat
 | .put s=>s.cps.toList.map .P
 | .cut s=>s.cps.toList.map .C
def ak(ps:List Pt):List At:=(ps.map ba).flatten
theorem dw(p:Pt)(ps:List Pt):ak (p::ps)=ba p++ak ps:=rfl
theorem gE(ps qs:List Pt):ak (ps++qs)=ak ps++ak qs:=by simp[ak]
theorem iO(p:Pt):ak [p]=ba p:=by simp[ak]
def e9:Pt→Prop | .keep n=>0≤n | _=>True
theorem aeV{p:Pt}(h:dO p):e9 p:=by cases p<;>first | exact h | trivial
theorem uU{p:Pt}(h:br p):e9 p:=by
 cases p with
 | keep n=>exact Int.le_trans (by decide) (show(1:Int)≤n from h)
 | _=>trivial
theorem Run.fits{l r:List Nat}{ps:List Pt}(h:Run l ps r):fit l (ak ps)∧out l (ak ps)=r:=by
 induction h with
 | nil=>exact⟨rfl,rfl⟩
 | @keep a l r n ps e _ ih=>
  rw[dw]
  have e1:ba (.keep n)=rK a.length:=by show rK n.toNat=_;rw[e];simp
  rw[e1]
  exact⟨(yj a l _).mpr ih.1,by rw[yk,ih.2]⟩
 | @put s l r ps _ ih=>
  rw[dw]
  exact⟨(uT _ l _).mpr ih.1,by show out l (s.cps.toList.map .P++_)=_;rw[yl,ih.2]⟩
 | @cut s l r ps _ ih=>
  rw[dw]
  exact⟨(CZ _ l _).mpr ih.1,by show out _ (s.cps.toList.map .C++_)=_;rw[ym,ih.2]⟩
theorem N7: ∀(n:Nat) (l:List Nat) (xs:List At),fit l (rK n++xs)→ ∃a b,l=a++b∧a.length=n
 | 0,l,xs,h=> ⟨[],l,rfl,rfl⟩
 | n+1,[],xs,h=> (show False from h).elim
 | n+1,c::l,xs,h=>by
  obtain⟨a,b,e,hl⟩:=N7 n l xs h
  exact⟨c::a,b,by rw[e];rfl,by simp[hl]⟩
theorem yn: ∀(s l:List Nat) (xs:List At),fit l (s.map .C++xs)→ ∃b,l=s++b
 | [],l,xs,h=> ⟨l,rfl⟩
 | c::s,[],xs,h=> (show False from h).elim
 | c::s,d::l,xs,h=>by
  obtain⟨e,h⟩:=(show d=c∧fit l (s.map .C++xs) from h)
  obtain⟨b,e2⟩:=yn s l xs h
  exact⟨b,by rw[e,e2];rfl⟩
theorem pR: ∀(ps:List Pt) (l:List Nat),(∀p∈ps,e9 p)→fit l (ak ps)→Run l ps (out l (ak ps))
 | [],l,_,h=>by
  have:l=[]:=h
  subst this;exact .nil
 | .keep n::ps,l,hn,h=>by
  rw[dw] at h⊢
  obtain⟨a,b,rfl,ha⟩:=N7 _ _ _ h
  have pJ:0≤n:=hn _ (.head _)
  have e1:ba (.keep n)=rK a.length:=by show rK n.toNat=_;rw[ha]
  rw[e1] at h⊢
  rw[yk]
  exact .keep (by omega) (pR ps b (fun p hp=>hn p (.tail _ hp)) ((yj a b _).mp h))
 | .put s::ps,l,hn,h=>by
  rw[dw] at h⊢
  show Run l _ (out l (s.cps.toList.map .P++_))
  rw[yl]
  exact .put (pR ps l (fun p hp=>hn p (.tail _ hp)) ((uT _ l _).mp h))
 | .cut s::ps,l,hn,h=>by
  rw[dw] at h⊢
  obtain⟨b,rfl⟩:=yn _ _ _ h
  show Run _ _ (out _ (s.cps.toList.map .C++_))
  rw[ym]
  exact .cut (pR ps b (fun p hp=>hn p (.tail _ hp)) ((CZ _ b _).mp h))
def jr(s:NS):List At:=ak s.1++ ((cat s.2.1).cps.toList.map .P++ (cat s.2.2).cps.toList.map .C)
theorem N8(mk:Str→Pt)(f:Nat→At)(h: ∀s,ba (mk s)=s.cps.toList.map f)(x:Str):ak (txt mk x)=x.cps.toList.map f:=by
 by_cases hx:x=""
 ·rw[hx,txt_nil];rfl
 ·rw[iN hx,iO,h]
theorem N9(ch:List Pt)(p c:List Str):ak (du ch p c)=jr (ch,p,c):=by
 unfold du jr
 rw[gE,gE,N8 .put .P (fun _=>rfl),N8 .cut .C (fun _=>rfl),List.append_assoc]
theorem N_(m n:Nat):rK m++rK n=rK (m+n):=by unfold rK;rw[List.replicate_append_replicate]
theorem aeW(ch:List Pt)(n:Int)(hn:0≤n)(h: ∀p∈ch,e9 p):ak (dI ch n)=ak ch++rK n.toNat:=by
 unfold dI
 split
 ·rename_i m e
  have hm:Pt.keep m∈ch:=List.mem_of_getLast? e
  have yg:0≤m:=h _ hm
  have ec:ch=ch.dropLast++ [.keep m]:=by
   have cK:ch≠ []:=by intro z;rw[z] at hm;cases hm
   rw[List.getLast?_eq_some_getLast cK] at e
   have e':=Option.some.inj e
   rw[←e',List.dropLast_concat_getLast]
  conv=>rhs;rw[ec]
  rw[gE,gE,iO,iO,List.append_assoc]
  show _++rK (n+m).toNat=_++ (rK m.toNat++rK n.toNat)
  rw[N_,show(n+m).toNat=m.toNat+n.toNat by omega]
 ·rw[gE,iO];rfl
theorem Oa{mk:Str→Pt}(h: ∀s,e9 (mk s))(x:Str): ∀p∈txt mk x,e9 p:=by
 intro p hp
 unfold txt at hp
 split at hp
 ·cases hp
 ·rw[List.mem_singleton.mp hp];exact h x
theorem Ob{ch:List Pt}(p c:List Str)(h: ∀p∈ch,e9 p): ∀q∈du ch p c,e9 q:=by
 intro q hq
 unfold du at hq
 rcases List.mem_append.mp hq with z | z
 ·rcases List.mem_append.mp z with z | z
  ·exact h q z
  ·exact Oa (mk:= .put) (fun _=>trivial) _ q z
 ·exact Oa (mk:= .cut) (fun _=>trivial) _ q z
theorem aeX{ch:List Pt}{n:Int}(hn:0≤n)(h: ∀p∈ch,e9 p): ∀q∈dI ch n,e9 q:=by
 intro q hq
 unfold dI at hq
 split at hq
 ·rename_i m e
  rcases List.mem_append.mp hq with z | z
  ·exact h q ((List.dropLast_sublist ch).subset z)
  ·rw[List.mem_singleton.mp z]
   have yg:0≤m:=h _ (List.mem_of_getLast? e)
   show 0≤n+m
   omega
 ·rcases List.mem_append.mp hq with z | z
  ·exact h q z
  ·rw[List.mem_singleton.mp z];exact hn
theorem aeY(s:NS)(p:Pt)(hp:e9 p)(h: ∀q∈s.1,e9 q):nb (jr (df s p))=nb (jr s++ba p)∧ ∀q∈ (df s p).1,e9 q:=by
 obtain⟨ch,pu,cu⟩:=s
 cases p with
 | put x=>
  refine⟨?_,h⟩
  show nb (ak ch++ ((cat (pu++ [x])).cps.toList.map .P++ (cat cu).cps.toList.map .C))=nb (ak ch++ ((cat pu).cps.toList.map .P++ (cat cu).cps.toList.map .C)++x.cps.toList.map .P)
  rw[m7,app_list,List.map_append,List.append_assoc,List.append_assoc,List.append_assoc]
  refine CV rfl (CV rfl ?_)
  exact(aeT _ _).symm
 | cut x=>
  refine⟨?_,h⟩
  show nb (ak ch++ ((cat pu).cps.toList.map .P++ (cat (cu++ [x])).cps.toList.map .C))=nb (ak ch++ ((cat pu).cps.toList.map .P++ (cat cu).cps.toList.map .C)++x.cps.toList.map .C)
  rw[m7,app_list,List.map_append,List.append_assoc,List.append_assoc]
 | keep n=>
  have pJ:0≤n:=hp
  by_cases hn:0<n
  ·have e:df (ch,pu,cu) (.keep n)=(dI (du ch pu cu) n,[],[]):=if_pos hn
   rw[e]
   refine⟨?_,aeX pJ (Ob _ _ h)⟩
   show nb (ak (dI (du ch pu cu) n)++ [])=nb (jr (ch,pu,cu)++rK n.toNat)
   rw[List.append_nil,aeW _ _ pJ (Ob _ _ h),N9]
  ·have e:df (ch,pu,cu) (.keep n)=(ch,pu,cu):=if_neg hn
   rw[e]
   refine⟨?_,h⟩
   show _=nb (jr (ch,pu,cu)++rK n.toNat)
   rw[show n.toNat=0 by omega]
   show _=nb (_++ [])
   rw[List.append_nil]
theorem Oc: ∀(ps:List Pt) (s:NS),(∀p∈ps,e9 p)→(∀q∈s.1,e9 q)→nb (jr (ps.foldl df s))=nb (jr s++ak ps)
 | [],s,_,_=>by show nb (jr s)=nb (jr s++ []);rw[List.append_nil]
 | p::ps,s,h,hs=>by
  obtain⟨a,b⟩:=aeY s p (h p (.head _)) hs
  show nb (jr (ps.foldl df (df s p)))=_
  rw[Oc ps _ (fun q hq=>h q (.tail _ hq)) b,dw,←List.append_assoc]
  exact CV a rfl
theorem Od(ps:List Pt)(h: ∀p∈ps,e9 p):nb (ak (pH ps))=nb (ak ps):=by
 unfold pH
 have e:=Oc ps ([],[],[]) h (fun q hq=>by cases hq)
 generalize ps.foldl df ([],[],[])=s at e⊢
 show nb (ak (du s.1 s.2.1 s.2.2))=_
 rw[N9]
 exact e
theorem ik{s:Str}(h:s≠""): ∃c r,s.cps.toList=c::r:=by
 cases e:s.cps.toList with
 | nil=>exact absurd (fU (by rw[e];rfl)) h
 | cons c r=>exact⟨c,r,rfl⟩
theorem rz(s:Str)(xs:List At):nb (s.cps.toList.map .P++xs)=(s.cps.toList++ (nb xs).1,(nb xs).2.1,(nb xs).2.2):=by
 rw[lK,CW];rfl
theorem pS(s:Str)(xs:List At):nb (s.cps.toList.map .C++xs)=((nb xs).1,s.cps.toList++ (nb xs).2.1,(nb xs).2.2):=by
 rw[lK,CY];rfl
theorem pT{n:Int}(h:1≤n)(xs:List At):nb (rK n.toNat++xs)=([],[],List.replicate (n.toNat - 1) ([],[])++ ((nb xs).1,(nb xs).2.1)::(nb xs).2.2):=by
 obtain⟨m,e⟩: ∃m,n.toNat=m+1:=⟨n.toNat - 1,by omega⟩
 rw[e,aeU];rfl
theorem Oe{w:Str}(h:iK "put" w=true):w≠"put"∧w≠"cut":=by
 refine⟨fun z=> ?_,fun z=> ?_⟩ <;>subst z<;>exact absurd h (by decide)
theorem aeZ{w:Str}(h:iK "cut" w=true):w≠"cut":=by
 intro z;subst z;exact absurd h (by decide)
theorem Of{w:Str}(h:iK "keep" w=true):w≠"keep":=by
 intro z;subst z;exact absurd h (by decide)
theorem nh{ps:List Pt}{w:Str}(hc:chainOk w ps=true)(ho: ∀p∈ps,br p)(hw:w="put"∨w="cut"):(nb (ak ps)).1=[]:=by
 cases ps with
 | nil=>rfl
 | cons p ps=>
  simp only[chainOk,Bool.and_eq_true] at hc
  have hp:=ho p (.head _)
  rw[dw]
  cases p with
  | keep n=>show(nb (rK n.toNat++_)).1=_;rw[pT hp]
  | put s=>
   obtain⟨a,b⟩:=Oe hc.1
   rcases hw with z | z
   ·exact absurd z a
   ·exact absurd z b
  | cut s=>
   show(nb (s.cps.toList.map .C++_)).1=_
   rw[pS]
   exact nh hc.2 (fun q hq=>ho q (.tail _ hq)) (.inr rfl)
theorem C0{ps:List Pt}(hc:chainOk "cut" ps=true)(ho: ∀p∈ps,br p):(nb (ak ps)).2.1=[]:=by
 cases ps with
 | nil=>rfl
 | cons p ps=>
  simp only[chainOk,Bool.and_eq_true] at hc
  have hp:=ho p (.head _)
  rw[dw]
  cases p with
  | keep n=>show(nb (rK n.toNat++_)).2.1=_;rw[pT hp]
  | put s=>exact absurd rfl (Oe hc.1).2
  | cut s=>exact absurd rfl (aeZ hc.1)
theorem Og{ps:List Pt}(hc:chainOk "keep" ps=true)(ho: ∀p∈ps,br p)(h1:(nb (ak ps)).1=[])(h2:(nb (ak ps)).2.1=[]):ps=[]:=by
 cases ps with
 | nil=>rfl
 | cons p ps=>
  exfalso
  simp only[chainOk,Bool.and_eq_true] at hc
  have hp:=ho p (.head _)
  rw[dw] at h1 h2
  cases p with
  | keep n=>exact absurd rfl (Of hc.1)
  | put s=>
   obtain⟨c,r,e⟩:=ik hp.2
   have Oh:(nb (s.cps.toList.map .P++ak ps)).1=[]:=h1
   rw[rz,e] at Oh
   cases Oh
  | cut s=>
   obtain⟨c,r,e⟩:=ik hp.2
   have Oi:(nb (s.cps.toList.map .C++ak ps)).2.1=[]:=h2
   rw[pS,e] at Oi
   cases Oi
theorem Oj{a b:List Nat×List Nat}{r s:List (List Nat×List Nat)}: ∀{m n:Nat},List.replicate m (([],[]):List Nat×List Nat)++a::r=List.replicate n ([],[])++b::s→(m=n∧a=b∧r=s)∨(m<n∧a=([],[])∧r≠ [])∨(n<m∧b=([],[])∧s≠ [])
 | 0,0,h=>by
  have h':a::r=b::s:=h
  injection h' with h1 h2
  exact .inl ⟨rfl,h1,h2⟩
 | 0,n+1,h=>by
  have h':a::r=([],[])::(List.replicate n ([],[])++b::s):=h
  injection h' with h1 h2
  exact .inr (.inl ⟨by omega,h1,by rw[h2];simp⟩)
 | m+1,0,h=>by
  have h':([],[])::(List.replicate m ([],[])++a::r)=b::s:=h
  injection h' with h1 h2
  exact .inr (.inr ⟨by omega,h1.symm,by rw[←h2];simp⟩)
 | m+1,n+1,h=>by
  have h':(([],[]):List Nat×List Nat)::(List.replicate m ([],[])++a::r)=([],[])::(List.replicate n ([],[])++b::s):=h
  injection h' with _ h2
  rcases Oj h2 with⟨x,y⟩ | ⟨x,y⟩ | ⟨x,y⟩
  ·exact .inl ⟨by omega,y⟩
  ·exact .inr (.inl ⟨by omega,y⟩)
  ·exact .inr (.inr ⟨by omega,y⟩)
theorem Ol(q:Pt)(qs:List Pt)(ho: ∀p∈q::qs,br p)(h:([],[],[])=nb (ak (q::qs))):False:=by
 have hq:=ho q (.head _)
 rw[dw] at h
 have h0:([],[],[])=nb (ba q++ak qs):=h
 cases q with
 | keep n=>
  have h1:([],[],[])=nb (rK n.toNat++ak qs):=h0
  rw[pT hq] at h1
  have:=congrArg (fun x=>x.2.2) h1
  simp at this
 | put s=>
  obtain⟨c,r,e⟩:=ik hq.2
  have h1:([],[],[])=nb (s.cps.toList.map .P++ak qs):=h0
  rw[rz,e] at h1
  have:=congrArg (fun x=>x.1) h1
  simp at this
 | cut s=>
  obtain⟨c,r,e⟩:=ik hq.2
  have h1:([],[],[])=nb (s.cps.toList.map .C++ak qs):=h0
  rw[pS,e] at h1
  have:=congrArg (fun x=>x.2.1) h1
  simp at this
theorem Om: ∀(ps qs:List Pt) (w v:Str),chainOk w ps=true→chainOk v qs=true→(∀p∈ps,br p)→(∀p∈qs,br p)→nb (ak ps)=nb (ak qs)→ps=qs
 | [],[],_,_,_,_,_,_,_=>rfl
 | [],q::qs,_,_,_,_,_,ho,h=> (Ol q qs ho h).elim
 | p::ps,[],_,_,_,_,ho,_,h=> (Ol p ps ho h.symm).elim
 | p::ps,q::qs,w,v,hw,hv,ho,dQ,h=>by
  simp only[chainOk,Bool.and_eq_true] at hw hv
  have hp:=ho p (.head _)
  have hq:=dQ q (.head _)
  have oT: ∀x∈ps,br x:=fun x hx=>ho x (.tail _ hx)
  have lL: ∀x∈qs,br x:=fun x hx=>dQ x (.tail _ hx)
  rw[dw,dw] at h
  have fin:p=q→nb (ak ps)=nb (ak qs)→p::ps=q::qs:=fun e1 e2=>by
   rw[e1,Om ps qs p.word q.word hw.2 hv.2 oT lL e2]
  cases p with
  | keep n=>
   have h':nb (rK n.toNat++ak ps)=nb (ba q++ak qs):=h
   rw[pT hp] at h'
   cases q with
   | keep m=>
    have h2:_=nb (rK m.toNat++ak qs):=h'
    rw[pT hq] at h2
    have h3:=congrArg (fun x=>x.2.2) h2
    have dA:(1:Int)≤n:=hp
    have CS:(1:Int)≤m:=hq
    rcases Oj h3 with⟨e1,e2,e3⟩ | ⟨e1,e2,e3⟩ | ⟨e1,e2,e3⟩
    ·refine fin (by congr 1;omega) ?_
     have rA:=congrArg Prod.fst e2
     have rB:=congrArg Prod.snd e2
     simp only at rA rB
     exact Prod.ext rA (Prod.ext rB e3)
    ·have rA:=congrArg Prod.fst e2
     have rB:=congrArg Prod.snd e2
     have:=Og hw.2 oT rA rB
     rw[this] at e3
     exact absurd rfl e3
    ·have rA:=congrArg Prod.fst e2
     have rB:=congrArg Prod.snd e2
     have:=Og hv.2 lL rA rB
     rw[this] at e3
     exact absurd rfl e3
   | put s=>
    exfalso
    obtain⟨c,r,e⟩:=ik hq.2
    have h2:_=nb (s.cps.toList.map .P++ak qs):=h'
    rw[rz,e] at h2
    have:=congrArg (fun x=>x.1) h2
    simp at this
   | cut s=>
    exfalso
    obtain⟨c,r,e⟩:=ik hq.2
    have h2:_=nb (s.cps.toList.map .C++ak qs):=h'
    rw[pS,e] at h2
    have:=congrArg (fun x=>x.2.1) h2
    simp at this
  | put x=>
   obtain⟨c0,r0,e0⟩:=ik hp.2
   have h':nb (x.cps.toList.map .P++ak ps)=nb (ba q++ak qs):=h
   rw[rz] at h'
   have k1:=nh hw.2 oT (.inl rfl)
   cases q with
   | keep m=>
    exfalso
    have h2:_=nb (rK m.toNat++ak qs):=h'
    rw[pT hq,e0] at h2
    have:=congrArg (fun x=>x.1) h2
    simp at this
   | put s=>
    have h2:_=nb (s.cps.toList.map .P++ak qs):=h'
    rw[rz,k1,nh hv.2 lL (.inl rfl),List.append_nil,List.append_nil] at h2
    have a1:=congrArg (fun x=>x.1) h2
    have a2:=congrArg (fun x=>x.2) h2
    simp only at a1 a2
    refine fin (by rw[fU a1]) ?_
    exact Prod.ext (by rw[k1,nh hv.2 lL (.inl rfl)]) a2
   | cut s=>
    exfalso
    have h2:_=nb (s.cps.toList.map .C++ak qs):=h'
    rw[pS,nh hv.2 lL (.inr rfl),e0] at h2
    have:=congrArg (fun x=>x.1) h2
    simp at this
  | cut x=>
   obtain⟨c0,r0,e0⟩:=ik hp.2
   have h':nb (x.cps.toList.map .C++ak ps)=nb (ba q++ak qs):=h
   have k1:=nh hw.2 oT (.inr rfl)
   have k2:=C0 hw.2 oT
   rw[pS] at h'
   cases q with
   | keep m=>
    exfalso
    have h2:_=nb (rK m.toNat++ak qs):=h'
    rw[pT hq,e0] at h2
    have:=congrArg (fun x=>x.2.1) h2
    simp at this
   | put s=>
    exfalso
    obtain⟨c,r,e⟩:=ik hq.2
    have h2:_=nb (s.cps.toList.map .P++ak qs):=h'
    rw[rz,k1,e] at h2
    have:=congrArg (fun x=>x.1) h2
    simp at this
   | cut s=>
    have h2:_=nb (s.cps.toList.map .C++ak qs):=h'
    rw[pS,k1,k2,nh hv.2 lL (.inr rfl),C0 hv.2 lL,List.append_nil,List.append_nil] at h2
    have a1:=congrArg (fun x=>x.2.1) h2
    have a2:=congrArg (fun x=>x.2.2) h2
    simp only at a1 a2
    refine fin (by rw[fU a1]) ?_
    exact Prod.ext (by rw[k1,nh hv.2 lL (.inr rfl)]) (Prod.ext (by rw[k2,C0 hv.2 lL]) a2)
termination_by ps qs=>ps.length+qs.length
theorem ae0{ps qs:List Pt}{l r r':List Nat}(hc:chainOk "" ps=true)(hd:chainOk "" qs=true)(ho: ∀p∈ps,br p)(hq: ∀p∈qs,br p)(h:Run l ps r)(h':Run l qs r')(e:res 0 (ak ps)=res 0 (ak qs)):ps=qs:=
 Om ps qs "" "" hc hd ho hq (aeN h.fits.1 h'.fits.1 e)
theorem ae1{T:Ty}{v:V}{H:Hp}{P Q:Bool→Prop}(h:cv T v H P)(i: ∀b,P b→Q b):cv T v H Q:=by
 cases v with
 | ref a=>
  unfold cv at h⊢
  simp only at h⊢
  split at h
  all_goals first | exact i _ h | exact h.elim
 | aq=>exact i _ h
 | bl b=>exact i _ h
 | int _=>exact i _ h
 | str _=>exact i _ h
 | _=>exact False.elim h
theorem ae2{T:Ty}{v:V}{H H':Hp}{P:Bool→Prop}(h:cv T v H P)(s:ax H H'):cv T v H' P:=by
 cases v with
 | ref a=>
  unfold cv at h⊢
  simp only at h⊢
  cases e:H a with
  | none=>rw[e] at h;exact h.elim
  | some o=>rw[e] at h;rw[s _ _ e];exact h
 | aq=>exact h
 | bl b=>exact h
 | int _=>exact h
 | str _=>exact h
 | _=>exact False.elim h
def gY(T:Ty)(v:V)(H:Hp):Prop:=cv T v H fun b=>b=false
theorem gY.same{T:Ty}{v:V}{H H':Hp}(h:gY T v H)(s:ax H H'):gY T v H':=ae2 h s
theorem gY.go{T:Ty}{v:V}{H:Hp}{Q:Bool→Prop}(h:gY T v H)(q:Q false):cv T v H Q:=ae1 h fun b e=>by rw[e];exact q
def ae3(x:Str):Bool:=x.cps.toList.all fun c=>SG.cps.contains c
theorem Oo{α:Type}(p:α→Bool): ∀l:List α,l.all p=false→(l.takeWhile p).length<l.length
 | [],h=>by cases h
 | c::l,h=>by
  rw[List.takeWhile_cons]
  cases hc:p c with
  | false=>simp
  | true=>
   rw[List.all_cons,hc,Bool.true_and] at h
   have:=Oo p l h
   simp;omega
theorem ae4(x y:Str)(h:(x.cps.toList.all fun c=>y.cps.contains c)=false):Txt.lstripChars x y≠"":=by
 have lt:=Oo _ _ h
 have e0:stripLo y.cps.contains true x=(x.cps.toList.takeWhile y.cps.contains).length:=by
  unfold stripLo
  rw[if_pos rfl]
 have e1: ∀n,stripHi y.cps.contains false x n=x.length:=fun n=>rfl
 intro z
 have z2:=congrArg Str.length z
 have l0:(Str.ofString "").length=0:=rfl
 rw[l0] at z2
 unfold Txt.lstripChars Txt.stripBy stripSame stripped at z2
 rw[e0,e1] at z2
 have hx:x.cps.size=x.cps.toList.length:=by simp
 split at z2
 ·have:x.cps.size=0:=z2
  omega
 ·have z3:(x.cps.extract (x.cps.toList.takeWhile y.cps.contains).length x.cps.size).size=0:=z2
  rw[Array.size_extract,Nat.min_self] at z3
  have z4:x.cps.size - (List.takeWhile (fun c=>y.cps.contains c) x.cps.toList).length=0:=z3
  omega
def pU(v:V)(H:Hp):Prop:=(∃x,v= .str x∧x.length≤1000000∧ae3 x=false)∨gY .str v H
theorem pU.same{v:V}{H H':Hp}(h:pU v H)(s:ax H H'):pU v H':=by
 rcases h with h | h
 ·exact .inl h
 ·exact .inr (h.same s)
def uV(v:V)(H:Hp):Prop:=(∃b,v= .bl b)∨gY .int v H
theorem uV.same{v:V}{H H':Hp}(h:uV v H)(s:ax H H'):uV v H':=by
 rcases h with h | h
 ·exact .inl h
 ·exact .inr (h.same s)
def yo:Sp:=fun vs H Q E=> ∃v,vs=[v]∧((∃i,v= .int i∧Q (.bl true) H)∨(uV v H∧Q (.bl false) H))
theorem ae5{K:PySem.W.Frag}(vs:List V)(H:Hp)(Q:VK)(E:XK)(h:yo vs H Q E):ar (aQ K [] [] (E:=E)) Bf (Dn Q) (start Be vs) H:=by
 obtain⟨v,rfl,⟨i,rfl,q⟩ | ⟨⟨b,rfl⟩ | hn,q⟩⟩:=h
 ·exact⟨_,rfl,rfl,_,rfl,dZ ⟨_,rfl,rfl,q⟩⟩
 ·exact⟨_,rfl,rfl,_,rfl,dZ ⟨_,rfl,rfl,q⟩⟩
 ·exact⟨_,rfl,rfl,hn.go ⟨_,rfl,fN q⟩⟩
def rC:Sp:=fun vs H Q E=> ∃v,vs=[v]∧((∃x,v= .str x∧good x∧Q (.bl true) H)∨(pU v H∧Q (.bl false) H))
theorem ae6{K:PySem.W.Frag}(vs:List V)(H:Hp)(Q:VK)(E:XK)(h:rC vs H Q E):ar (aQ K [] gS (E:=E)) xu (Dn Q) (start xt vs) H:=by
 obtain⟨v,rfl,⟨x,rfl,hx,q⟩ | ⟨⟨x,rfl,hl,hx⟩ | hn,q⟩⟩:=h
 ·exact adz _ _ _ _ ⟨x,rfl,hx,q⟩
 ·refine⟨_,rfl,rfl,_,rfl,dZ ⟨_,rfl,rfl,bL hl, ?_⟩⟩
  show Q (.bl (false ^^ decide (V.str (Txt.lstripChars x SG)=V.str ""))) H
  rw[decide_eq_false (fun z=>ae4 x SG hx (by injection z))]
  exact q
 ·exact⟨_,rfl,rfl,hn.go ⟨_,rfl,fN q⟩⟩
abbrev ae7:List (Str×Sp):=[("is_text",rC)]
def uW(C:Addr):Sp:=fun vs H Q E=> ∃v,vs=[v]∧((∃x,v= .str x∧good x∧Q .aq H)∨(pU v H∧E (.ref C) none H))
theorem ae8{K:PySem.W.Frag}{C:Addr}(vs:List V)(H:Hp)(Q:VK)(E:XK)(h:uW C vs H Q E):ar (aQ K ae7 [] (et:=[("BadText",C)]) (E:=E)) Bh (Dn Q) (start Bg vs) H:=by
 obtain⟨v,rfl,⟨x,rfl,hx,q⟩ | ⟨hn,q⟩⟩:=h
 ·exact⟨_,rfl,_,rfl, .inl ⟨x,rfl,hx,q⟩⟩
 ·exact⟨_,rfl,_,rfl, .inr ⟨hn,(by show 1≤sizeLine;decide),q⟩⟩
theorem ae9{C:Addr}{vs:List V}{H:Hp}{Q:VK}{E:XK}(h:CO vs H Q E):uW C vs H Q E:=by
 obtain⟨x,rfl,hx,q⟩:=h
 exact⟨_,rfl, .inl ⟨x,rfl,hx,q⟩⟩
def yp(K:PySem.W.Frag):Sp:=fun vs H Q E=> ∃v p xs,vs=[v, .ref p]∧aF K H p xs∧xs.all eE=true∧((∃w,v= .str w∧Q (.bl (gg (.str w) xs)) H)∨(gY .str v H∧Q (.bl false) H))
theorem ae_{K:PySem.W.Frag}(vs:List V)(H:Hp)(Q:VK)(E:XK)(h:yp K vs H Q E):ar (aQ K [] [] (E:=E)) xr (Dn Q) (start xq vs) H:=by
 obtain⟨v,p,xs,rfl,hp,hf,⟨w,rfl,q⟩ | ⟨hn,q⟩⟩:=h
 ·exact adB _ _ _ _ ⟨w,p,xs,rfl,hp,hf,q⟩
 ·exact⟨_,rfl,rfl,hn.go ⟨_,rfl,fN q⟩⟩
def uX(v:V)(H:Hp):Prop:=gY .tuple v H∨ ∃a xs,v= .ref a∧H a=some (.tup xs)∧xs.length≤1000000∧(xs.length≠2∨ ∃w t,xs=[w,t]∧
 (gY .str w H∨(∃s,w= .str s∧s≠"keep"∧s≠"cut"∧s≠"put")∨(w= .str "keep"∧(uV t H∨ ∃n,t= .int n∧n<1))∨((w= .str "cut"∨w= .str "put")∧(pU t H∨t= .str ""))))
theorem uX.same{v:V}{H H':Hp}(h:uX v H)(s:ax H H'):uX v H':=by
 rcases h with h | ⟨a,xs,rfl,ha,hl,h⟩
 ·exact .inl (h.same s)
 ·refine .inr ⟨a,xs,rfl,s _ _ ha,hl, ?_⟩
  rcases h with h | ⟨w,t,rfl,h⟩
  ·exact .inl h
  ·refine .inr ⟨w,t,rfl, ?_⟩
   rcases h with h | h | ⟨h,h2⟩ | ⟨h,h2⟩
   ·exact .inl (h.same s)
   ·exact .inr (.inl h)
   ·refine .inr (.inr (.inl ⟨h, ?_⟩))
    rcases h2 with h2 | h2
    ·exact .inl (h2.same s)
    ·exact .inr h2
   ·refine .inr (.inr (.inr ⟨h, ?_⟩))
    rcases h2 with h2 | h2
    ·exact .inl (h2.same s)
    ·exact .inr h2
abbrev yq(K:PySem.W.Frag):List (Str×Sp):=[("is_word",yp K),("is_whole",yo),("is_text",rC)]
def uY:Sp:=fun vs H Q E=> ∃v,vs=[v]∧((∃p,gA H v p∧br p∧ ∀H',ax H H'→Q (.bl true) H')∨(uX v H∧ ∀H',ax H H'→Q (.bl false) H'))
theorem Oq(s t:Str):gg (.str s) [.str t]=(t==s):=by
 unfold gg
 show(eT (.str t) (.str s) || false)=_
 rw[Bool.or_false];rfl
theorem afa{K:PySem.W.Frag}(vs:List V)(H:Hp)(Q:VK)(E:XK)(h:uY vs H Q E):ar (aQ K (yq K) [] (E:=E)) uj (Dn Q) (start ui vs) H:=by
 have two: ∀(a:Addr) (w t:V) (Q1:VK) (H1:Hp) (σ:St),σ[0]?=some (some (.ref a))→H1 a=some (.tup [w,t])→
   (∀(tt:Addr) H2,ax H1 H2→ ∀b:Bool,(b=true→w= .str "cut"∨w= .str "put")→(b=false→w≠ .str "cut"∧w≠ .str "put")→Q1 (.bl b) H2)→(gY .str w H1∨ ∃s,w= .str s)→
   ag (aQ K (yq K) [] (E:=E)) (.call 0 [(.ix (.v 0) (.c (.int 0))),(.tup [(.c (.str "cut")),(.c (.str "put"))])]) σ H1 Q1:=by
  intro a w t Q1 H1 σ h0 ha q hw
  refine⟨_,h0, .inr (.inl ⟨_,_,_,_,rfl,rfl,aF.of ha,rfl,(by show 2≤sizeLine;decide),fun t ht=> ?_⟩)⟩
  have s2:=sameNew (o:= .tup [V.str "cut",V.str "put"]) ht
  refine⟨w,t,_,rfl,aF.of ay,rfl, ?_⟩
  rcases hw with hw | ⟨s,rfl⟩
  ·refine .inr ⟨hw.same s2,q t _ s2 false (fun z=>by cases z) fun _=> ⟨?_, ?_⟩⟩
   ·rintro rfl;cases (show true=false from hw)
   ·rintro rfl;cases (show true=false from hw)
  ·refine .inl ⟨s,rfl,q t _ s2 _ (fun z=> ?_) fun z=> ?_⟩
   ·have z':((Str.ofString "cut"==s) || ((Str.ofString "put"==s) || false))=true:=z
    simp only[Bool.or_false,Bool.or_eq_true,beq_iff_eq] at z'
    rcases z' with z' | z'<;>subst z'
    ·exact .inl rfl
    ·exact .inr rfl
   ·have z':((Str.ofString "cut"==s) || ((Str.ofString "put"==s) || false))=false:=z
    simp only[Bool.or_false,Bool.or_eq_false_iff,beq_eq_false_iff_ne] at z'
    exact⟨fun y=>z'.1 (by injection y with y;exact y.symm),fun y=>z'.2 (by injection y with y;exact y.symm)⟩
 obtain⟨v,rfl,⟨p,⟨a,rfl,ha⟩,hp,q⟩ | ⟨hn | ⟨a,xs,rfl,ha,hl,hb⟩,q⟩⟩:=h
 ·refine⟨_,rfl,rfl,Cn ha ⟨_,rfl, .inr ⟨_,aF.of ha,_,rfl, ?_⟩⟩⟩
  refine⟨_,rfl, .inr (.inl ⟨_,_,_,_,rfl,rfl,aF.of ha,rfl,(by show 1≤sizeLine;decide),fun t1 fV=> ?_⟩)⟩
  have s1:=sameNew (o:= .tup [V.str "keep"]) fV
  refine⟨.str p.word,t1,[.str "keep"],rfl,aF.of ay,rfl, .inl ⟨p.word,rfl, ?_⟩⟩
  have iP:=s1 _ _ ha
  generalize upd H t1 (.tup [V.str "keep"])=H1 at s1 iP
  have fin: ∀(s:Str),good s→s≠""→H1 a=some (.tup [.str p.word, .str s])→p.word="put"∨p.word="cut"→ar (aQ K (yq K) [] (E:=E)) (uj.drop 2) (Dn Q) (start ui [.ref a]) H1:=by
   intro s gs ns hs hw
   refine two a (.str p.word) (.str s) _ H1 _ rfl hs (fun tt H2 s2 b rq yr=> ?_) (.inr ⟨_,rfl⟩)
   have eb:b=true:=by
    cases b with
    | true=>rfl
    | false=>
     obtain⟨z1,z2⟩:=yr rfl
     rcases hw with z | z
     ·exact absurd (congrArg V.str z) z2
     ·exact absurd (congrArg V.str z) z1
   subst eb
   have yt:=s2 _ _ hs
   refine⟨_,rfl,dZ ⟨_,rfl, .inr (.inl ⟨_,_,_,_,rfl,rfl,aF.of yt,rfl, .str s,rfl, .inl ⟨s,rfl,gs,_,rfl, ?_⟩⟩)⟩⟩
   refine dZ ⟨_,rfl, .inr (.inl ⟨_,_,_,_,rfl,rfl,aF.of yt,rfl, ?_⟩)⟩
   show Q (.bl (true ^^ decide (V.str s=V.str ""))) _
   rw[decide_eq_false (fun z=>ns (by injection z))]
   exact q _ (s1.trans s2)
  cases p with
  | keep n=>
   rw[show gg (.str (Pt.keep n).word) [.str "keep"]=true by show gg (.str "keep") [.str "keep"]=true;decide]
   refine⟨_,rfl, .inr (.inl ⟨_,_,_,_,rfl,rfl,aF.of iP,rfl, .int n,rfl, .inl ⟨n,rfl,_,rfl, ?_⟩⟩)⟩
   refine dZ ⟨_,rfl, .inr (.inl ⟨_,_,_,_,rfl,rfl,aF.of iP,rfl,trivial, ?_⟩)⟩
   show Q (.bl (decide (1≤n))) H1
   rw[decide_eq_true (show(1:Int)≤n from hp)]
   exact q _ s1
  | put s=>
   rw[show gg (.str (Pt.put s).word) [.str "keep"]=false by show gg (.str "put") [.str "keep"]=false;decide]
   exact fin s hp.1 hp.2 iP (.inl rfl)
  | cut s=>
   rw[show gg (.str (Pt.cut s).word) [.str "keep"]=false by show gg (.str "cut") [.str "keep"]=false;decide]
   exact fin s hp.1 hp.2 iP (.inr rfl)
 ·exact⟨_,rfl,rfl,hn.go (q _ (ax.refl _))⟩
 ·refine⟨_,rfl,rfl,Cn ha ⟨_,rfl, .inr ⟨_,aF.of ha,_,rfl, ?_⟩⟩⟩
  show if (true ^^ decide (V.int (xs.length:Int)=V.int 2))=true then _ else _
  rcases hb with hb | ⟨w,t,rfl,hb⟩
  ·rw[decide_eq_false (fun z=>hb (by injection z with z;omega))]
   exact q _ (ax.refl _)
  ·refine⟨_,rfl, .inr (.inl ⟨_,_,_,_,rfl,rfl,aF.of ha,rfl,(by show 1≤sizeLine;decide),fun t1 fV=> ?_⟩)⟩
   have s1:=sameNew (o:= .tup [V.str "keep"]) fV
   refine⟨w,t1,[.str "keep"],rfl,aF.of ay,rfl, ?_⟩
   have iP:=s1 _ _ ha
   generalize upd H t1 (.tup [V.str "keep"])=H1 at s1 iP
   have no:(gY .str w H1∨ ∃s,w= .str s)→w≠ .str "cut"→w≠ .str "put"→ar (aQ K (yq K) [] (E:=E)) (uj.drop 2) (Dn Q) (start ui [.ref a]) H1:=by
    intro hw n1 n2
    refine two a w t _ H1 _ rfl iP (fun tt H2 s2 b rq yr=> ?_) hw
    have eb:b=false:=by
     cases b with
     | false=>rfl
     | true=>rcases rq rfl with z | z;exact absurd z n1;exact absurd z n2
    subst eb
    exact⟨_,rfl,fN (q _ (s1.trans s2))⟩
   rcases hb with hb | ⟨s,rfl,n0,n1,n2⟩ | ⟨rfl,hb⟩ | ⟨hw,hb⟩
   ·refine .inr ⟨hb.same s1,no (.inl (hb.same s1)) ?_ ?_⟩
    ·rintro rfl;cases (show true=false from hb)
    ·rintro rfl;cases (show true=false from hb)
   ·refine .inl ⟨s,rfl, ?_⟩
    rw[Oq,beq_eq_false_iff_ne.mpr (Ne.symm n0)]
    exact no (.inr ⟨s,rfl⟩) (fun z=>n1 (by injection z)) (fun z=>n2 (by injection z))
   ·refine .inl ⟨_,rfl, ?_⟩
    rw[show gg (.str "keep") [.str "keep"]=true by decide]
    refine⟨_,rfl, .inr (.inl ⟨_,_,_,_,rfl,rfl,aF.of iP,rfl,t,rfl, ?_⟩)⟩
    rcases hb with hb | ⟨n,rfl,hn⟩
    ·exact .inr ⟨hb.same s1,_,rfl,fN (q _ s1)⟩
    ·refine .inl ⟨n,rfl,_,rfl,dZ ⟨_,rfl, .inr (.inl ⟨_,_,_,_,rfl,rfl,aF.of iP,rfl,trivial, ?_⟩)⟩⟩
     show Q (.bl (decide (1≤n))) H1
     rw[decide_eq_false (by omega)]
     exact q _ s1
   ·have hws: ∃s,w= .str s∧(Str.ofString "keep"==s)=false:=by
     rcases hw with rfl | rfl
     ·exact⟨_,rfl,by decide⟩
     ·exact⟨_,rfl,by decide⟩
    obtain⟨s,rfl,hk⟩:=hws
    refine .inl ⟨s,rfl, ?_⟩
    rw[Oq,hk]
    refine two a (.str s) t _ H1 _ rfl iP (fun tt H2 s2 b rq yr=> ?_) (.inr ⟨s,rfl⟩)
    have eb:b=true:=by
     cases b with
     | true=>rfl
     | false=>
      obtain⟨z1,z2⟩:=yr rfl
      rcases hw with z | z
      ·exact absurd z z1
      ·exact absurd z z2
    subst eb
    have yu:=s2 _ _ iP
    refine⟨_,rfl,dZ ⟨_,rfl, .inr (.inl ⟨_,_,_,_,rfl,rfl,aF.of yu,rfl,t,rfl, ?_⟩)⟩⟩
    rcases hb with hb | rfl
    ·exact .inr ⟨hb.same (s1.trans s2),_,rfl,fN (q _ (s1.trans s2))⟩
    ·refine .inl ⟨_,rfl,⟨by decide,fun c hc=>by cases hc⟩,_,rfl,dZ ⟨_,rfl, .inr (.inl ⟨_,_,_,_,rfl,rfl,aF.of yu,rfl, ?_⟩)⟩⟩
     exact q _ (s1.trans s2)
theorem afc{vs:List V}{H:Hp}{Q:VK}{E:XK}(h:Cp vs H Q E):uY vs H Q E:=by
 obtain⟨v,p,rfl,hp,ho,q⟩:=h
 exact⟨_,rfl, .inl ⟨p,hp,ho,q⟩⟩
def yv(H:Hp)(xs:List V):Prop:= ∃pre x post ps,xs=pre++x::post∧aM H pre ps∧(∀p∈ps,br p)∧chainOk "" ps=true∧
 (uX x H∨ ∃p,gA H x p∧br p∧iK p.word (ib "" ps ps.length)=false)
def jY(v:V)(H:Hp):Prop:=gY .list v H∨ ∃a xs,v= .ref a∧H a=some (.lst xs)∧yv H xs
theorem yv.same{H H':Hp}{xs:List V}(h:yv H xs)(s:ax H H'):yv H' xs:=by
 obtain⟨pre,x,post,ps,e,h1,h2,h3,h4⟩:=h
 refine⟨pre,x,post,ps,e,h1.mono (bf s),h2,h3, ?_⟩
 rcases h4 with h4 | ⟨p,a,b,c⟩
 ·exact .inl (h4.same s)
 ·exact .inr ⟨p,a.mono (bf s),b,c⟩
theorem jY.same{v:V}{H H':Hp}(h:jY v H)(s:ax H H'):jY v H':=by
 rcases h with h | ⟨a,xs,e,h1,h2⟩
 ·exact .inl (gY.same h s)
 ·exact .inr ⟨a,xs,e,s _ _ h1,h2.same s⟩
abbrev afd:List (Str×Sp):=[("is_part",uY),("may_follow",qS)]
def uZ(C:Addr):Sp:=fun vs H Q E=> ∃v,vs=[v]∧jY v H∧ ∀H',ax H H'→E (.ref C) none H'
theorem afe{K:PySem.W.Frag}{C:Addr}(vs:List V)(H:Hp)(Q:VK)(E:XK)(h:uZ C vs H Q E):ar (aQ K afd [] (et:=[("BadChange",C)]) (E:=E)) uk (Dn Q) (start xv vs) H:=by
 obtain⟨v,rfl,hn | ⟨a,xs,rfl,ha,pre,x,post,ps,rfl,bN,aw,dh,aff⟩,q⟩:=h
 ·exact⟨_,rfl,rfl,hn.go ⟨(by show 1≤sizeLine;decide),q _ (ax.refl _)⟩⟩
 ·have hlen:=Paired.length bN
  refine⟨_,rfl,rfl,Co ha ⟨_,rfl,a,rfl,⟨_,aj.of ha⟩,iG (K:=K) (a:=a) (xs:=pre++x::post) (fun i σ H2=>i≤pre.length∧ ∃v,σ=[some (.ref a),some (.str (ib "" ps i)),v]∧ax H H2) ⟨Nat.zero_le _,none,rfl,ax.refl _⟩
   (fun i σ H2 _ ⟨_,_,_,s2⟩=>aj.of (s2 _ _ ha)) ?_ ?_⟩⟩
  ·rintro i y σ H2 hi ⟨hle,v,rfl,s2⟩
   by_cases aS:i<pre.length
   ·have cR:pre[i]?=some y:=by rw[List.getElem?_append_left aS] at hi;exact hi
    obtain⟨p,hp,eJ⟩:=bN.get cR
    obtain⟨b,rfl,hb⟩:=eJ.mono (bf s2)
    refine⟨_,rfl,_,rfl, .inl ⟨p,⟨b,rfl,hb⟩,aw p (List.mem_of_getElem? hp),fun H3 s3=> ?_⟩⟩
    refine⟨_,rfl, .inr (.inl ⟨_,_,_,_,rfl,rfl,aF.of (s3 _ _ hb),rfl,_,rfl,p.word,_,rfl, ?_⟩)⟩
    have e:=Cq ps "" i p dh hp
    show(fun c H1=>if (!c)=true then _ else _) (iK p.word (ib "" ps i)) H3
    rw[e]
    refine⟨_,rfl, .inr (.inl ⟨_,_,_,_,rfl,rfl,aF.of (s3 _ _ hb),rfl,aS,some (.ref b), ?_,s2.trans s3⟩)⟩
    show[some (V.ref a),some (V.str p.word),some (V.ref b)]=_
    have e2:ib "" ps (i+1)=p.word:=by simp only[ib,hp]
    rw[e2]
   ·have eK:i=pre.length:=by omega
    subst eK
    have ey:y=x:=by
     rw[List.getElem?_append_right (Nat.le_refl _),Nat.sub_self] at hi
     simpa using hi.symm
    subst ey
    rcases aff with hb | ⟨p,⟨b,rfl,hb⟩,ho,hf⟩
    ·exact⟨_,rfl,_,rfl, .inr ⟨hb.same s2,fun H3 s3=> ⟨(by show 1≤sizeLine;decide),q _ (s2.trans s3)⟩⟩⟩
    ·refine⟨_,rfl,_,rfl, .inl ⟨p,⟨b,rfl,s2 _ _ hb⟩,ho,fun H3 s3=> ?_⟩⟩
     refine⟨_,rfl, .inr (.inl ⟨_,_,_,_,rfl,rfl,aF.of (s3 _ _ (s2 _ _ hb)),rfl,_,rfl,p.word,_,rfl, ?_⟩)⟩
     show(fun c H1=>if (!c)=true then _ else _) (iK p.word (ib "" ps pre.length)) H3
     rw[hlen,hf]
     exact⟨(by show 1≤sizeLine;decide),q _ (s2.trans s3)⟩
  ·rintro σ H2 ⟨hle,_⟩
   simp at hle
   omega
def jZ(C:Addr):Sp:=uZ C
theorem afg{K:PySem.W.Frag}{C:Addr}(vs:List V)(H:Hp)(Q:VK)(E:XK)(h:jZ C vs H Q E):ar (aQ K [("need_change",uZ C),("part_size",gB)] [] (E:=E)) um (Dn Q) (start xx vs) H:=by
 obtain⟨v,rfl,hn,q⟩:=h
 exact⟨_,rfl,v,rfl,hn,q⟩
theorem afh{x s:Str}{a b:List Nat}(h:x.cps.toList=a++b)(hn: ¬ ∃c,b=s.cps.toList++c):(decide (fromIndex x.length (a.length:Int)+s.length≤x.length) && Builtin.Str.subAt x s (fromIndex x.length (a.length:Int)))=false:=by
 have hl:x.length=a.length+b.length:=by rw[len_list x,h];simp
 have e:fromIndex x.length (a.length:Int)=a.length:=by unfold fromIndex;rw[if_neg (by omega)];omega
 rw[e]
 cases hq:(decide (a.length+s.length≤x.length) && Builtin.Str.subAt x s a.length) with
 | false=>rfl
 | true=>
  exfalso
  rw[Bool.and_eq_true,decide_eq_true_eq] at hq
  obtain⟨h1,h2⟩:=hq
  unfold Builtin.Str.subAt at h2
  rw[beq_iff_eq] at h2
  have h3:=congrArg Array.toList h2
  rw[Array.toList_extract,h,List.extract_eq_drop_take,Nat.add_sub_cancel_left,List.drop_left] at h3
  exact hn ⟨b.drop s.length,by rw[←h3,List.take_append_drop]⟩
theorem Ot: ∀(ps:List Pt),(∀p∈ps,br p)→0≤ (overOf ps).sum
 | [],_=>Int.le_refl _
 | p::ps,h=>by
  have ih:=Ot ps fun q hq=>h q (.tail _ hq)
  have hp:=h p (.head _)
  cases p with
  | keep n=>
   have e:overOf (.keep n::ps)=n::overOf ps:=rfl
   rw[e,List.sum_cons]
   have:(1:Int)≤n:=hp
   omega
  | put s=>exact ih
  | cut s=>
   have e:overOf (.cut s::ps)=(s.length:Int)::overOf ps:=rfl
   rw[e,List.sum_cons]
   omega
def Ou(CT CC CF:Addr):Sp:=fun vs H Q E=> ∃vt vc,vs=[vt,vc]∧((pU vt H∧ ∀H',ax H H'→E (.ref CT) none H')∨(∃x,vt= .str x∧good x∧jY vc H∧ ∀H',ax H H'→E (.ref CC) none H')∨
 ∃x a xs ps,vt= .str x∧vc= .ref a∧good x∧H a=some (.lst xs)∧aM H xs ps∧(∀p∈ps,br p)∧chainOk "" ps=true∧ps.length≤100000∧(¬ ∃r,Run x.cps.toList ps r)∧ ∀H',ax H H'→E (.ref CF) none H')
def dW(a b:Sp):Sp:=fun vs H Q E=>a vs H Q E∨b vs H Q E
theorem afi{K:PySem.W.Frag}{CT CC CF:Addr}(vs:List V)(H:Hp)(Q:VK)(E:XK)(h:Ou CT CC CF vs H Q E):
  ar (aQ K [("need_text",uW CT),("sizes",dW fF (jZ CC))] [] (et:=[("BadFit",CF)]) (E:=E)) uo (Dn Q) (start xy vs) H:=by
 obtain⟨vt,vc,rfl,⟨hb,q⟩ | ⟨x,rfl,hx,hn,q⟩ | ⟨x,a,xs,ps,rfl,rfl,hx,ha,bN,aw,dh,hl,mF,q⟩⟩:=h
 ·exact⟨_,rfl,_,rfl, .inr ⟨hb,q _ (ax.refl _)⟩⟩
 ·exact⟨_,rfl,_,rfl, .inl ⟨x,rfl,hx,_,rfl, .inr ⟨vc,rfl,hn,q⟩⟩⟩
 ·have hlen:=Paired.length bN
  refine⟨_,rfl,_,rfl, .inl ⟨x,rfl,hx,_,rfl, .inl ⟨a,xs,ps,rfl,ha,bN,aw,dh,by omega,fun t H1 s1 ht=> ?_⟩⟩⟩
  refine .inr (.inl ⟨_,_,_,_,rfl,rfl,aF.of ht,rfl,_,rfl,bL hx.1,_,rfl, ?_⟩)
  by_cases il:(overOf ps).sum=(x.length:Int)
  ·rw[il,Bool.true_xor,decide_eq_true rfl]
   refine⟨Nat.zero_le _,fun pc uM=> ?_⟩
   have s2:ax H (upd H1 pc (.lst [])):=s1.trans (sameNew uM)
   have uN:H pc=none:=s1.free uM
   refine⟨_,rfl,a,rfl,⟨_,aj.of (s2 _ _ ha)⟩,iG (K:=K) (a:=a) (xs:=xs) (fun i σ H2=> ∃l1 l2 ts w v,σ=[some (.str x),some (.ref a),some (.int ((l1.length:Nat):Int)),some (.ref pc),w,v]∧ax H H2∧
     H2 pc=some (.lst ts)∧x.cps.toList=l1++l2∧(overOf (ps.drop i)).sum=(l2.length:Int)∧(¬ ∃r,Run l2 (ps.drop i) r)∧ts.length≤i)
    ⟨[],x.cps.toList,[],none,none,rfl,s2,ay,rfl,(by rw[←len_list];exact il),mF,Nat.le_refl _⟩
    (fun i σ H2 _ ⟨_,_,_,_,_,_,s3,_⟩=>aj.of (s3 _ _ ha)) ?_ ?_⟩
   ·rintro i y σ H2 hi ⟨l1,l2,ts,w,v,rfl,s3,hp,e1,ni,pV,tl⟩
    obtain⟨pt,dE,eJ⟩:=bN.get hi
    obtain⟨b,rfl,hb⟩:=eJ.mono (bf s3)
    have cR:i<ps.length:=(List.getElem?_eq_some_iff.mp dE).1
    have ed:ps.drop i=pt::ps.drop (i+1):=by
     rw[List.drop_eq_getElem_cons cR]
     congr 1
     exact Option.some.inj ((List.getElem?_eq_getElem cR).symm.trans dE)
    rw[ed] at ni pV
    have lN:=aw pt (List.mem_of_getElem? dE)
    have anZ:=Ot (ps.drop (i+1)) fun p hp=>aw p (List.mem_of_mem_drop hp)
    refine⟨b,_,rfl, .inl (aF.of hb),rfl,_,_,rfl,_,_,rfl,rfl, ?_⟩
    have bt: ∀o,aW pc H2 (upd H2 pc o):=fun o=>aW.upd
    cases pt with
    | put s=>
     refine⟨_,rfl,_,rfl,_,rfl, .inl ⟨rfl,_,aj.of hp⟩,_,rfl,_,hp,cU (by omega), ?_⟩
     exact⟨l1,l2,ts++ [.str s],_,_,rfl,jj s3 uN (bt _),ay,e1,ni,fun⟨r,hr⟩=>pV ⟨_,hr.put⟩,by simp;omega⟩
    | keep n=>
     have e:overOf (.keep n::ps.drop (i+1))=n::overOf (ps.drop (i+1)):=rfl
     rw[e,List.sum_cons] at ni
     have dA:(1:Int)≤n:=lN
     obtain⟨la,lb,e2,rn⟩: ∃la lb,l2=la++lb∧n=(la.length:Int):=⟨l2.take n.toNat,l2.drop n.toNat,(List.take_append_drop _ _).symm,by rw[List.length_take];omega⟩
     subst e2
     refine⟨_,rfl,_,rfl,_,rfl,_,rfl,_,rfl, .inl ⟨rfl,_,aj.of hp⟩, ?_⟩
     refine⟨_,rfl,_,rfl,_,rfl,_,rfl,_,rfl,_,rfl,bL hx.1, ?_⟩
     refine⟨_,hp,cU (by omega), ?_⟩
     refine⟨_,rfl,_,rfl, ?_⟩
     rw[List.length_append] at ni
     refine⟨l1++la,lb,ts++ [V.str (jI x (some (l1.length:Int)) (some ((l1.length:Int)+n)))],some (.str "keep"),some (.int n), ?_,jj s3 uN (bt _),ay,by rw[e1];simp,by omega,fun⟨r,hr⟩=>pV ⟨_,hr.keep rn⟩,by simp;omega⟩
     show[_,_,some (V.int ((l1.length:Int)+n)),_,_,_]=_
     rw[List.length_append,rn,Int.natCast_add]
     rfl
    | cut s=>
     have e:overOf (.cut s::ps.drop (i+1))=(s.length:Int)::overOf (ps.drop (i+1)):=rfl
     rw[e,List.sum_cons] at ni
     refine⟨_,rfl,_,rfl,_,rfl,_,rfl,_,rfl,rfl,_,rfl,_,rfl, ?_⟩
     show(fun c H1=>if (!c)=true then _ else _) (decide (fromIndex x.length (l1.length:Int)+s.length≤x.length) && Builtin.Str.subAt x s (fromIndex x.length (l1.length:Int))) H2
     by_cases iI: ∃lb,l2=s.cps.toList++lb
     ·obtain⟨lb,rfl⟩:=iI
      rw[NU e1]
      refine⟨_,rfl,_,rfl,bL lN.1.1, ?_⟩
      rw[List.length_append,←len_list] at ni
      refine⟨l1++s.cps.toList,lb,ts,some (.str "cut"),some (.str s), ?_,s3,hp,by rw[e1];simp,by omega,fun⟨r,hr⟩=>pV ⟨_,hr.cut⟩,by omega⟩
      show[_,_,some (V.int ((l1.length:Int)+ (s.length:Int))),_,_,_]=_
      rw[List.length_append,←len_list,Int.natCast_add]
      rfl
     ·rw[afh e1 iI]
      exact⟨(by show 1≤sizeLine;decide),q _ s3⟩
   ·rintro σ H2 ⟨l1,l2,ts,w,v,rfl,s3,hp,e1,ni,pV,tl⟩
    exfalso
    rw[hlen,List.drop_length] at ni pV
    have:l2=[]:=List.length_eq_zero_iff.mp (by have e:(overOf ([]:List Pt)).sum=0:=rfl;omega)
    subst this
    exact pV ⟨[], .nil⟩
  ·rw[Bool.true_xor,decide_eq_false (fun z=>il (by injection z))]
   exact⟨(by show 1≤sizeLine;decide),q _ s1⟩
structure j3 (K:PySem.W.Frag) (cs:List Addr) (cN:Addr) (D:Addr) (j:Nat):Prop where
 cls:tq K D
 kit: ∀i c,cs[i]?=some c→kitOne K (.ref D) (.ref c)=some (decide (i=j))
 cN:kitOne K (.ref D) (.ref cN)=some true
 val:kitOne K (.ref D) (.type "ValueError")=some true
def iQ:List Str:=["text","change","fit","place","side","mark","node","cursor","deed","letter","gone","hand","note"]
abbrev gW(c0 c1 c2 c3 c4 c5 c6 c7 c8 c9 ip iq ir cN:Addr):List (Str×V):=
 [("BadText", .ref c0),("BadChange", .ref c1),("BadFit", .ref c2),("NoPlace", .ref c3),("BadSide", .ref c4),("NoMark", .ref c5),("NoNode", .ref c6),("NoCursor", .ref c7),("BadDeed", .ref c8),("BadLetter", .ref c9),("NoLetter", .ref ip),("NoHand", .ref iq),("NoNote", .ref ir),("InkError", .ref cN)]
def u0(K:PySem.W.Frag)(cs:List Addr)(cN:Addr):Sp:=fun vs H Q E=> ∃ea D j,vs=[.ref ea]∧ExcAt H ea D∧j3 K cs cN D j∧j<13∧ ∀H',ax H H'→Q (.str (iQ.getD j "")) H'
theorem _root_.L2.ExcAt.same{H H':Hp}{ea D:Addr}(h:ExcAt H ea D)(s:ax H H'):ExcAt H' ea D:=ExcAt.keeps h fun b o u e=>s b _ e
def js(H:Hp)(v:V)(p:Str×Bool):Prop:= ∃t,v= .ref t∧H t=some (.tup [.str p.1, .bl p.2])
theorem js.mono{H H':Hp}{v:V}{p:Str×Bool}(h:js H v p)(s:ax H H'):js H' v p:=by
 obtain⟨t,e,h⟩:=h
 exact⟨t,e,s _ _ h⟩
theorem pW.mono{H H':Hp}(s:ax H H'): ∀{vs:List V} {ps:List (Str×Bool)},Paired (js H) vs ps→Paired (js H') vs ps
 | _,_, .nil=> .nil
 | _,_, .cons h r=> .cons (h.mono s) (pW.mono s r)
theorem pW.get{H:Hp}: ∀{vs:List V} {ps:List (Str×Bool)} {i:Nat} {v:V},Paired (js H) vs ps→vs[i]?=some v→ ∃p,ps[i]?=some p∧js H v p
 | _,_,i,v, .nil,e=>by simp at e
 | _,_,0,v, .cons h r,e=>by simp at e;subst e;exact⟨_,rfl,h⟩
 | _,_,i+1,v, .cons h r,e=>by
  obtain⟨p,a,b⟩:=pW.get (i:=i) r (by simpa using e)
  exact⟨p,by simpa using a,b⟩
theorem Paired.app{α β:Type}{R:α→β→Prop}: ∀{xs bc:List α} {ys fj:List β},Paired R xs ys→Paired R bc fj→Paired R (xs++bc) (ys++fj)
 | _,_,_,_, .nil,s=>s
 | _,_,_,_, .cons r t,s=> .cons r (Paired.app t s)
section
variable {Γ:aG} {cs:List Addr} {cN ea D:Addr} {j:Nat}
theorem C1(hk:j3 Γ.K cs cN D j)(hg: ∀i c,cs[i]?=some c→Γ.gv i= .ref c): ∀(ws:List (Str×Nat)) (σ:St) (H:Hp) (Q:List V→Hp→Prop),(∀p∈ws,p.2<cs.length)→σ[0]?=some (some (.ref ea))→ExcAt H ea D→
  (∀vs H',ax H H'→Paired (js H') vs (ws.map fun p=> (p.1,decide (p.2=j)))→Q vs H')→bK Γ (ws.map fun p=> .tup [(.c (.str p.1)),(.di (.v 0) (.g p.2))]) σ H Q
 | [],σ,H,Q,_,_,_,q=>q [] H (ax.refl _) .nil
 | (w,i)::ws,σ,H,Q,hl,h0,he,q=>by
  have hi:i<cs.length:=hl (w,i) (.head _)
  have hc:cs[i]?=some cs[i]:=by simp[hi]
  have key: ∀k:VK,jJ Γ.K [.ref ea, .ref cs[i]] H k→jJ Γ.K [.ref ea,Γ.gv i] H k:=by
   intro k;rw[hg i _ hc];exact id
  refine aC (jq (aC (aX (aC (aeK (aA h0 (NY (key _ ⟨D,_,he,hk.cls, .inl ⟨_,rfl⟩,hk.kit i _ hc,aV ⟨(by show 2≤sizeLine;decide),fun t ht=> ?_⟩⟩))))))))
  have s1:=sameNew (o:= .tup [.str w, .bl (decide (i=j))]) ht
  refine C1 hk hg ws σ _ _ (fun p hp=>hl p (.tail _ hp)) h0 (he.same s1) fun vs H' s2 hp=> ?_
  exact q (.ref t::vs) H' (s1.trans s2) (.cons ⟨t,rfl,s2 _ _ ay⟩ hp)
theorem yw(hk:j3 Γ.K cs cN D j)(hg: ∀i c,cs[i]?=some c→Γ.gv i= .ref c)(ws:List (Str×Nat)){l:Addr}{xs:List V}{ps:List (Str×Bool)}{H:Hp}{r:List RS}{E:Ends}(hl: ∀p∈ws,p.2<cs.length)(he:ExcAt H ea D)(h1:H l=some (.lst xs))
  (hp:Paired (js H) xs ps) (hn:xs.length+ws.length≤1000) (q: ∀l' bc H',ax H H'→H' l'=some (.lst bc)→Paired (js H') bc (ps++ws.map fun p=> (p.1,decide (p.2=j)))→ar Γ r E [some (.ref ea),some (.ref l'),none] H'):
  ar Γ (.asg 1 (.bin .Add (.v 1) (.lst (ws.map fun p=> .tup [(.c (.str p.1)),(.di (.v 0) (.g p.2))])))::r) E [some (.ref ea),some (.ref l),none] H:=by
 refine⟨_,rfl,C1 hk hg ws _ H _ hl rfl he fun vs H1 s1 hv=> ⟨?_,fun d hd=> ?_⟩⟩
 ·have:=Paired.length hv
  rw[List.length_map] at this
  exact bL (by omega)
 ·have e1:upd H1 d (.lst vs) l=some (.lst xs):=by rw[aI (bz (s1 _ _ h1) hd)];exact s1 _ _ h1
  have rD:=Paired.length hv
  rw[List.length_map] at rD
  refine .inl ⟨l,d,xs,vs,rfl,rfl,e1,ay,bL (by omega),fun e he'=> ?_⟩
  have s2:=(sameNew (o:= .lst vs) hd).trans (sameNew (o:= .lst (xs++vs)) he')
  exact q e (xs++vs) _ (s1.trans s2) ay (Paired.app (pW.mono (s1.trans s2) hp) (pW.mono s2 hv))
end
theorem afl(j:Nat)(hj:j<13):(((iQ.zipIdx).map fun p=> (p.1,decide (p.2=j))).filter (·.2)).map (·.1)=[iQ.getD j ""]∧(iQ.getD j "").length≤10:=by
 match j,hj with
 | 0,_ | 1,_ | 2,_ | 3,_ | 4,_ | 5,_ | 6,_ | 7,_ | 8,_ | 9,_ | 10,_ | 11,_ | 12,_=>exact⟨rfl,by decide+kernel⟩
theorem afm{Γ:aG}{as:List RE}{σ:St}{H:Hp}{Q:VK}(h:bK Γ as σ H fun xs H1=>xs.length≤sizeLine∧ ∀p,H1 p=none→Q (.ref p) (upd H1 p (.lst xs))):ag Γ (.lst as) σ H Q:=h
theorem join_one(sep x:Str):Txt.join sep [x]=x:=fU rfl
theorem afn{α β:Type}(p:α→Bool)(f:α→β)(l:List α)(i:Nat)(v:α)(h:l[i]?=some v):((l.take (i+1)).filter p).map f=((l.take i).filter p).map f++ (if p v then [f v] else []):=by
 rw[Nj p l i v h,List.map_append]
 cases p v<;>rfl
theorem afo{Γ:aG}{i g:Nat}{ea D C:Addr}{b:Bool}{σ:St}{H:Hp}{Q:Bool→Hp→Prop}(h0:σ[i]?=some (some (.ref ea)))(he:ExcAt H ea D)(hc:tq Γ.K D)(hg:Γ.gv g= .ref C)(hk:kitOne Γ.K (.ref D) (.ref C)=some b)(q:Q b H):bD Γ (.di (.v i) (.g g)) σ H Q:=by
 have key: ∀k:VK,jJ Γ.K [.ref ea, .ref C] H k→jJ Γ.K [.ref ea,Γ.gv g] H k:=by
  intro k;rw[hg];exact id
 exact NZ (aA h0 (NY (key _ ⟨D,b,he,hc, .inl ⟨_,rfl⟩,hk,q⟩)))
theorem afp{Γ:aG}{i:Nat}{ea D:Addr}{n:String}{b:Bool}{σ:St}{H:Hp}{Q:Bool→Hp→Prop}(h0:σ[i]?=some (some (.ref ea)))(he:ExcAt H ea D)(hc:tq Γ.K D)(hk:kitOne Γ.K (.ref D) (.type n)=some b)(q:Q b H):bD Γ (.di (.v i) (.c (.ty n))) σ H Q:=
 NZ (aA h0 (aX ⟨D,b,he,hc, .inr ⟨_,rfl⟩,hk,q⟩))
theorem afq{Γ:aG}{cs:List Addr}{cN ea D:Addr}{j:Nat}{H:Hp}{Q:VK}(hl:cs.length=13)(hg: ∀i c,cs[i]?=some c→Γ.gv i= .ref c)(hi:Γ.gv 13= .ref cN)(he:ExcAt H ea D)(hk:j3 Γ.K cs cN D j)(hj:j<13)(q: ∀H',ax H H'→Q (.str (iQ.getD j "")) H'):
  ar Γ dU (Dn Q) [some (.ref ea),none,none] H:=by
 refine Bd (afm (C1 hk hg [("text",0),("change",1),("fit",2)] _ H _ (by rw[hl];decide) rfl he fun vs H1 s1 hv=> ⟨?_,fun d hd=> ?_⟩))
 ·have:=Paired.length hv
  exact bL (by rw[this];simp)
 have s2:=s1.trans (sameNew (o:= .lst vs) hd)
 have yx:=pW.mono (sameNew (o:= .lst vs) hd) hv
 have rD:=Paired.length hv
 refine yw hk hg [("place",3),("side",4),("mark",5)] (by rw[hl];decide) (he.same s2) ay yx (by rw[rD];simp) fun l3 e7 H3 s3 h3 C2=> ?_
 have Ov:=Paired.length C2
 refine yw hk hg [("node",6),("cursor",7)] (by rw[hl];decide) ((he.same s2).same s3) h3 C2 (by rw[Ov];simp) fun l4 xs4 H4 s4 h4 C3=> ?_
 have Ow:=Paired.length C3
 refine yw hk hg [("deed",8),("letter",9)] (by rw[hl];decide) (((he.same s2).same s3).same s4) h4 C3 (by rw[Ow];simp) fun l5 pX H5 s5 h5 C4=> ?_
 have Ox:=Paired.length C4
 refine yw hk hg [("gone",10),("hand",11),("note",12)] (by rw[hl];decide) ((((he.same s2).same s3).same s4).same s5) h5 C4 (by rw[Ox];simp) fun l6 ie H6 s6 h6 Oy=> ?_
 have C5:Paired (js H6) ie ((iQ.zipIdx).map fun p=> (p.1,decide (p.2=j))):=Oy
 obtain⟨pick,aoa⟩:=afl j hj
 have afr:((iQ.zipIdx).map fun p=> (p.1,decide (p.2=j))).length=13:=by rw[List.length_map];rfl
 generalize ((iQ.zipIdx).map fun p=> (p.1,decide (p.2=j)))=its at C5 pick afr
 have rm:=Paired.length C5
 have he6:=((((he.same s2).same s3).same s4).same s5).same s6
 have s06:=(((s2.trans s3).trans s4).trans s5).trans s6
 clear Oy C4 C3 C2 yx hv rD Ov Ow Ox
 refine LP ⟨_,rfl,l6,rfl,⟨_,aj.of h6⟩,fun i m ys H7=>m=ie.length - i∧i≤ie.length∧H7=H6∧ys=(((its.take i).filter (·.2)).map (·.1)).map V.str,⟨_,rfl,Nat.zero_le _,rfl,rfl⟩, ?_⟩
 rintro i m ys H7 ⟨rfl,cR,rfl,rfl⟩
 by_cases aS:i<ie.length
 ·refine .inr ⟨⟨ie,ie[i],aj.of h6,by simp[aS]⟩, ?_⟩
  rintro x H8 ⟨rfl,hx⟩
  obtain⟨⟨w,b⟩,hp,t,rfl,ht⟩:=pW.get C5 (hx ie (aj.of h6))
  have tf:=afn (·.2) (·.1) its i _ hp
  refine⟨t,_,rfl,aF.of ht,rfl,_,rfl, ?_⟩
  show if b=true then _ else _
  cases b with
  | true=>
   refine dZ ⟨_,rfl, ?_,ie.length - (i+1),by omega,rfl,aS,rfl, ?_⟩
   ·rw[List.length_map,List.length_map]
    have:=List.length_filter_le (·.2) (its.take i)
    have:=List.length_take_le i its
    exact cU (by omega)
   ·rw[tf];simp
  | false=>
   refine fN ⟨ie.length - (i+1),by omega,rfl,aS,rfl, ?_⟩
   rw[tf];simp
 ·have eK:i=ie.length:=by omega
  subst eK
  refine .inl ⟨⟨ie,aj.of h6,Nat.le_refl _⟩,fun p hp=> ?_⟩
  rw[rm,show its.take its.length=its from List.take_length ..,pick]
  have s7:=sameNew (o:= .lst (List.map V.str [iQ.getD j ""])) hp
  have Oz:=he6.same s7
  refine Yt (afo rfl Oz hk.cls hi hk.cN (afp rfl Oz hk.cls hk.val ?_))
  refine⟨rfl,_,rfl,[iQ.getD j ""],aj.of ay, ?_, ?_⟩
  ·unfold JoinOk
   show(!decide (0+ (iQ.getD j "").length+ (Str.ofString "/").length>sizeLine))=true
   rw[decide_eq_false];rfl
   have:(Str.ofString "/").length=1:=rfl
   have:(1000:Nat)≤sizeLine:=by decide
   omega
  ·rw[join_one]
   exact q _ (s06.trans s7)
theorem afu{K:PySem.W.Frag}{c0 c1 c2 c3 c4 c5 c6 c7 c8 c9 ip iq ir cN:Addr}(vs:List V)(H:Hp)(Q:VK)(h:u0 K [c0,c1,c2,c3,c4,c5,c6,c7,c8,c9,ip,iq,ir] cN vs H Q E0):
  ar (aQ K [] (gW c0 c1 c2 c3 c4 c5 c6 c7 c8 c9 ip iq ir cN)) dU (Dn Q) (start ji vs) H:=by
 obtain⟨ea,D,j,rfl,he,hk,hj,q⟩:=h
 refine afq (Γ:=aQ K [] (gW c0 c1 c2 c3 c4 c5 c6 c7 c8 c9 ip iq ir cN)) (cs:=[c0,c1,c2,c3,c4,c5,c6,c7,c8,c9,ip,iq,ir]) rfl (fun i c hi=> ?_) rfl he hk hj q
 have cR:i<13:=(List.getElem?_eq_some_iff.mp hi).1
 match i,cR with
 | 0,_ | 1,_ | 2,_ | 3,_ | 4,_ | 5,_ | 6,_ | 7,_ | 8,_ | 9,_ | 10,_ | 11,_ | 12,_=>exact congrArg V.ref (Option.some.inj hi)
theorem Run.good{l r:List Nat}{ps:List Pt}(h:Run l ps r)(hl: ∀c∈l,SG.cps.contains c=true)(hp: ∀p∈ps,rj p): ∀c∈r,SG.cps.contains c=true:=by
 induction h with
 | nil=>exact hl
 | keep e _ ih=>
  intro c hc
  rcases List.mem_append.mp hc with z | z
  ·exact hl c (List.mem_append.mpr (.inl z))
  ·exact ih (fun d hd=>hl d (List.mem_append.mpr (.inr hd))) (fun p h=>hp p (.tail _ h)) c z
 | put _ ih=>
  intro c hc
  rcases List.mem_append.mp hc with z | z
  ·exact(hp _ (.head _):sg _) c z
  ·exact ih hl (fun p h=>hp p (.tail _ h)) c z
 | cut _ ih=>exact ih (fun d hd=>hl d (List.mem_append.mpr (.inr hd))) (fun p h=>hp p (.tail _ h))
theorem Run.len{l r:List Nat}{ps:List Pt}(h:Run l ps r):r.length≤l.length+aJ ps:=by
 induction h with
 | nil=>simp
 | @keep a l r n ps e _ ih=>
  have:aJ (.keep n::ps)=0+aJ ps:=by simp[aJ,cZ]
  simp only[List.length_append];omega
 | @put s l r ps _ ih=>
  have:aJ (.put s::ps)=s.length+aJ ps:=by simp[aJ,cZ]
  have e:=len_list s
  simp only[List.length_append];omega
 | @cut s l r ps _ ih=>
  have:aJ (.cut s::ps)=s.length+aJ ps:=by simp[aJ,cZ]
  simp only[List.length_append];omega
theorem yy{x:Str}(k:Nat)(n:Int)(m:Nat)(hn:n=m):jI x (some (k:Int)) (some ((k:Int)+n))=⟨((x.cps.toList.drop k).take m).toArray⟩:=by
 have e1:(k:Int)+n=((k+m:Nat):Int):=by rw[hn];simp
 unfold jI kD
 rw[e1,HT.kq,HT.kq]
 congr 1
 by_cases h:k≤x.cps.toList.length
 ·rw[show min k x.cps.toList.length=k by omega]
  by_cases h2:k+m≤x.cps.toList.length
  ·rw[show min (k+m) x.cps.toList.length=k+m by omega,Nat.add_sub_cancel_left]
  ·rw[show min (k+m) x.cps.toList.length=x.cps.toList.length by omega,List.take_of_length_le (by rw[List.length_drop];omega),List.take_of_length_le (by rw[List.length_drop];omega)]
 ·rw[show min k x.cps.toList.length=x.cps.toList.length by omega,List.drop_length,List.drop_of_length_le (by omega),List.take_nil,List.take_nil]
theorem afv{x y:Str}(hx:good x)(hy:good y)(hl:x.length+y.length≤1000000):good (x++y):=by
 refine⟨by rw[ig];exact hl,fun c hc=> ?_⟩
 rw[app_list] at hc
 rcases List.mem_append.mp hc with z | z
 ·exact hx.2 c z
 ·exact hy.2 c z
def pY:Sp:=fun vs H Q E=> ∃x a xs ps r,vs=[.str x, .ref a]∧good x∧H a=some (.lst xs)∧aM H xs ps∧(∀p∈ps,Ck p)∧Run x.cps.toList ps r∧r.length≤1000000∧Q (.str ⟨r.toArray⟩) H
theorem afw{K:PySem.W.Frag}(vs:List V)(H:Hp)(Q:VK)(E:XK)(h:pY vs H Q E):ar (aQ K [] [] (E:=E)) BK (Dn Q) (start BJ vs) H:=by
 obtain⟨x,a,xs,ps,r,rfl,hx,ha,bN,aw,hr,m6,q⟩:=h
 have hlen:=Paired.length bN
 refine⟨_,rfl,a,rfl,⟨_,aj.of ha⟩,iG (K:=K) (a:=a) (xs:=xs) (fun i σ H2=> ∃l1 l2 q1 q2 w v,σ=[some (.str x),some (.ref a),some (.str ⟨q1.toArray⟩),some (.int ((l1.length:Nat):Int)),w,v]∧H2=H∧
   x.cps.toList=l1++l2∧r=q1++q2∧Run l2 (ps.drop i) q2)
  ⟨[],x.cps.toList,[],r,none,none,rfl,rfl,rfl,rfl,hr⟩ (fun i σ H2 _ ⟨_,_,_,_,_,_,_,e,_⟩=>e ▸ aj.of ha) ?_ ?_⟩
 ·rintro i y σ H2 hi ⟨l1,l2,q1,q2,w,v,rfl,rfl,e1,e2,dB⟩
  obtain⟨pt,dE,b,rfl,hb⟩:=bN.get hi
  have cR:i<ps.length:=(List.getElem?_eq_some_iff.mp dE).1
  have ed:ps.drop i=pt::ps.drop (i+1):=by
   rw[List.drop_eq_getElem_cons cR]
   congr 1
   exact Option.some.inj ((List.getElem?_eq_getElem cR).symm.trans dE)
  rw[ed] at dB
  obtain⟨la,lb,qa,qb,rfl,rfl,pP,one⟩:=uK dB
  have lN:=aw pt (List.mem_of_getElem? dE)
  have OA:q1.length+qa.length≤1000000:=by rw[e2] at m6;simp at m6;omega
  refine⟨b,_,rfl, .inl (aF.of hb),rfl,_,_,rfl,_,_,rfl,rfl, ?_⟩
  cases pt with
  | put s=>
   obtain⟨rfl,rfl⟩:=one
   refine⟨_,rfl,_,rfl,_,rfl,_,rfl,bL (by rw[len_list,len_list];exact OA), ?_⟩
   refine⟨l1,lb,q1++s.cps.toList,qb,some (.str "put"),some (.str s), ?_,rfl,e1,by rw[e2];simp,pP⟩
   show[_,_,some (V.str (⟨q1.toArray⟩++s)),_,_,_]=_
   rw[show(⟨q1.toArray⟩++s:Str)=⟨(q1++s.cps.toList).toArray⟩ from fU (by rw[app_list])]
   rfl
  | cut s=>
   obtain⟨rfl,rfl⟩:=one
   refine⟨_,rfl,_,rfl,_,rfl,_,rfl,_,rfl,_,rfl,bL lN, ?_⟩
   refine⟨l1++s.cps.toList,lb,q1,qb,some (.str "cut"),some (.str s), ?_,rfl,by rw[e1];simp,e2,pP⟩
   show[_,_,_,some (V.int ((l1.length:Int)+ (s.length:Int))),_,_]=_
   rw[List.length_append,←len_list,Int.natCast_add]
   rfl
  | keep n=>
   obtain⟨rfl,hn⟩:=one
   refine⟨_,rfl,_,rfl,_,rfl,_,rfl, ?_⟩
   refine⟨_,rfl,_,rfl,_,rfl,_,rfl,_,rfl,_,rfl,_,rfl,bL hx.1, ?_⟩
   rw[CP e1 n hn]
   refine⟨bL (by rw[len_list,len_list];exact OA), ?_⟩
   refine⟨_,rfl,_,rfl, ?_⟩
   refine⟨l1++la,lb,q1++la,qb,some (.str "keep"),some (.int n), ?_,rfl,by rw[e1];simp,by rw[e2];simp,pP⟩
   show[_,_,some (V.str (⟨q1.toArray⟩++ ⟨la.toArray⟩)),some (V.int ((l1.length:Int)+n)),_,_]=_
   rw[show(⟨q1.toArray⟩++ ⟨la.toArray⟩:Str)=⟨(q1++la).toArray⟩ from fU (by rw[app_list]),List.length_append,hn,Int.natCast_add]
   rfl
 ·rintro σ H2 ⟨l1,l2,q1,q2,w,v,rfl,rfl,e1,e2,dB⟩
  rw[hlen,List.drop_length] at dB
  cases dB
  rw[List.append_nil] at e2
  subst e2
  exact⟨_,rfl,q⟩
abbrev aE:=Str×Nat×Nat
def u_(H:Hp)(v:V)(r:aE):Prop:= ∃t n,v= .ref t∧H t=some (.tup [.ref n, .str ⟨#[r.2.2]⟩])∧H n=some (.tup [.str r.1, .int (r.2.1:Nat)])
abbrev bS(H:Hp):List V→List aE→Prop:=Paired (u_ H)
theorem u_.mono{H H':Hp}{v:V}{r:aE}(t:eY H H')(h:u_ H v r):u_ H' v r:=by
 obtain⟨a,n,e,h1,h2⟩:=h
 exact⟨a,n,e,t _ _ h1,t _ _ h2⟩
theorem bS.mono{H H':Hp}(t:eY H H'): ∀{vs:List V} {rs:List aE},bS H vs rs→bS H' vs rs
 | _,_, .nil=> .nil
 | _,_, .cons h r=> .cons (h.mono t) (bS.mono t r)
theorem bS.get{H:Hp}: ∀{vs:List V} {rs:List aE} {i:Nat} {v:V},bS H vs rs→vs[i]?=some v→ ∃r,rs[i]?=some r∧u_ H v r
 | _,_,i,v, .nil,e=>by simp at e
 | _,_,0,v, .cons h r,e=>by simp at e;subst e;exact⟨_,rfl,h⟩
 | _,_,i+1,v, .cons h r,e=>by
  obtain⟨p,a,b⟩:=bS.get (i:=i) r (by simpa using e)
  exact⟨p,by simpa using a,b⟩
theorem bS.drop{H:Hp}: ∀(k:Nat) {vs:List V} {rs:List aE},bS H vs rs→bS H (vs.drop k) (rs.drop k)
 | 0,_,_,h=>h
 | k+1,_,_, .nil=> .nil
 | k+1,_,_, .cons _ r=>bS.drop k r
theorem bS.take{H:Hp}: ∀(k:Nat) {vs:List V} {rs:List aE},bS H vs rs→bS H (vs.take k) (rs.take k)
 | 0,_,_,_=> .nil
 | k+1,_,_, .nil=> .nil
 | k+1,_,_, .cons h r=> .cons h (bS.take k r)
def eN(who:Str):Nat→List Nat→List aE
 | _,[]=> []
 | m,c::l=> (who,m,c)::eN who (m+1) l
theorem rE(who:Str): ∀(m:Nat) (l:List Nat),(eN who m l).length=l.length
 | _,[]=>rfl
 | m,c::l=>by simp[eN,rE who (m+1) l]
theorem OB(who:Str): ∀(m:Nat) (l:List Nat) (i c:Nat),l[i]?=some c→(eN who m l)[i]?=some (who,m+i,c)
 | m,[],i,c,h=>by simp at h
 | m,d::l,0,c,h=>by simp at h;subst h;rfl
 | m,d::l,i+1,c,h=>by
  have:=OB who (m+1) l i c (by simpa using h)
  show(eN who (m+1) l)[i]?=_
  rw[this,show m+1+i=m+ (i+1) by omega]
theorem OC(who:Str)(m:Nat)(l:List Nat)(i c:Nat)(h:l[i]?=some c):(eN who m l).take (i+1)=(eN who m l).take i++ [(who,m+i,c)]:=by
 rw[List.take_add_one,OB who m l i c h];rfl
def bP(who:Str):List aE→Nat→List At→List aE
 | _,_,[]=> []
 | rows,m, .P c::xs=> (who,m,c)::bP who rows (m+1) xs
 | r::rows,m, .K::xs=>r::bP who rows m xs
 | [],m, .K::xs=>bP who [] m xs
 | _::rows,m, .C _::xs=>bP who rows m xs
 | [],m, .C _::xs=>bP who [] m xs
theorem OD(who:Str)(rows:List aE)(xs:List At): ∀(s:List Nat) (m:Nat),bP who rows m (s.map .P++xs)=eN who m s++bP who rows (m+s.length) xs
 | [],m=>rfl
 | c::s,m=>by
  show(who,m,c)::bP who rows (m+1) (s.map .P++xs)=_
  rw[OD who rows xs s (m+1),List.length_cons,show m+1+s.length=m+ (s.length+1) by omega];rfl
theorem OE(who:Str)(rows:List aE)(m:Nat)(xs:List At): ∀(a:List aE),bP who (a++rows) m (rK a.length++xs)=a++bP who rows m xs
 | []=>rfl
 | r::a=>by
  show r::bP who (a++rows) m (rK a.length++xs)=_
  rw[OE who rows m xs a];rfl
theorem OF(who:Str)(rows:List aE)(m:Nat)(xs:List At): ∀(a:List aE) (s:List Nat),a.length=s.length→bP who (a++rows) m (s.map .C++xs)=bP who rows m xs
 | [],[],_=>rfl
 | r::a,c::s,h=>OF who rows m xs a s (by simpa using h)
 | [],c::s,h=>by simp at h
 | r::a,[],h=>by simp at h
theorem OG{x:Str}{i:Nat}(h:i<x.cps.toList.length):eS x.cps.toList ((i:Nat):Int)=some x.cps.toList[i]:=kr (by simp[h])
def vd:Sp:=fun vs H Q E=> ∃x:Str,vs=[.str x]∧x.length≤100000∧ ∀(b:Addr) (H':Hp) (ys:List V),ax H H'→H b=none→H' b=some (.lst ys)→bS H' ys (eN "old" 0 x.cps.toList)→Q (.ref b) H'
theorem afx{K:PySem.W.Frag}(vs:List V)(H:Hp)(Q:VK)(E:XK)(h:vd vs H Q E):ar (aQ K [] [] (E:=E)) BZ (Dn Q) (start BY vs) H:=by
 obtain⟨x,rfl,hl,q⟩:=h
 have lx:=len_list x
 refine⟨_,rfl,bL (by omega),(x.length:Int),rfl,by omega,by omega,N4 (n:=x.length) (by omega) (fun i ys H2=>bS H2 ys ((eN "old" 0 x.cps.toList).take i)) .nil ?_ ?_⟩
 ·intro i ys H2 hi s2 hy Q' hq
  have uF:i<x.cps.toList.length:=by omega
  have hc:x.cps.toList[i]?=some x.cps.toList[i]:=List.getElem?_eq_getElem uF
  refine⟨_,rfl,(by show 2≤sizeLine;decide),fun n hn=> ⟨_,rfl,_,rfl, .inr (.inr (.inl ⟨x,0+ (i:Int),x.cps.toList[i],rfl,rfl,bL (by omega), ?_,(by show 2≤sizeLine;decide),fun t ht=> ?_⟩))⟩⟩
  ·rw[show(0:Int)+ (i:Int)=((i:Nat):Int) by omega];exact OG (by omega)
  ·have s3:=sameNew (o:= .tup [V.str "old",V.int (0+ (i:Int))]) hn
   have s4:=sameNew (o:= .tup [V.ref n,V.str ⟨#[x.cps.toList[i]]⟩]) ht
   refine hq (.ref t) _ (s3.trans s4) ?_
   rw[OC "old" 0 _ i _ hc]
   refine Paired.snoc (hy.mono (bf (s3.trans s4))) ⟨t,n,rfl,ay, ?_⟩
   rw[s4 _ _ ay]
   show some (HO.tup [V.str "old",V.int (0+ (i:Int))])=some (HO.tup [V.str "old",V.int ((0+i:Nat):Int)])
   rw[show(0:Int)+ (i:Int)=((0+i:Nat):Int) by omega]
 ·intro ys H2 p s2 hy hp
  rw[List.take_of_length_le (by rw[rE];omega)] at hy
  exact q p _ ys (s2.trans (sameNew hp)) (s2.free hp) ay (hy.mono (bf (sameNew hp)))
theorem afy{xs a b c:List V}(h:xs=a++ (b++c))(n:Int)(hn:n=b.length):gO xs (some (a.length:Int)) (some ((a.length:Int)+n))=b:=by
 have e1:(a.length:Int)+n=((a.length+b.length:Nat):Int):=by rw[hn];simp
 unfold gO
 rw[e1,HT.kq,HT.kq,h]
 have l1:(a++ (b++c)).length=a.length+ (b.length+c.length):=by simp
 rw[l1]
 have m1:min a.length (a.length+ (b.length+c.length))=a.length:=by omega
 have m2:min (a.length+b.length) (a.length+ (b.length+c.length))=a.length+b.length:=by omega
 rw[m1,m2,List.drop_left,show a.length+b.length - a.length=b.length by omega,List.take_left]
def rF:Sp:=fun vs H Q E=> ∃(a b:Addr) (who:Str) (rv xs:List V) (rows:List aE) (ps:List Pt) (l r:List Nat),vs=[.ref a, .ref b, .str who]∧H a=some (.lst rv)∧bS H rv rows∧H b=some (.lst xs)∧aM H xs ps∧(∀p∈ps,br p)∧Run l ps r∧l.length=rows.length∧rows.length≤100000∧aJ ps≤100000∧
 ∀(d:Addr) (H':Hp) (ys:List V),ax H H'→H d=none→H' d=some (.lst ys)→bS H' ys (bP who rows 0 (ak ps))→Q (.ref d) H'
theorem afz{K:PySem.W.Frag}(vs:List V)(H:Hp)(Q:VK)(E:XK)(h:rF vs H Q E):ar (aQ K [] [] (E:=E)) Ca (Dn Q) (start B_ vs) H:=by
 obtain⟨a,b,who,rv,xs,rows,ps,l,r,rfl,ha,OH,hb,bN,aw,dB,hlr,m6,vf,q⟩:=h
 have lx:=Paired.length bN
 have lr:=Paired.length OH
 refine⟨Nat.zero_le _,fun d0 t6=> ?_⟩
 have s0:=sameNew (o:= .lst []) t6
 refine⟨_,rfl,b,rfl,⟨_,aj.of (s0 _ _ hb)⟩,iG (K:=K) (a:=b) (xs:=xs) (fun i σ H2=> ∃(d:Addr) (ys v1 v2:List V) (dn r1 r2:List aE) (m:Nat) (l2 q2:List Nat) (w v:Option V),σ=[some (.ref a),some (.ref b),some (.str who),some (.ref d),some (.int (v1.length:Int)),some (.int (m:Int)),w,v]∧ax H H2∧H d=none∧H2 d=some (.lst ys)∧
   bS H2 ys dn∧rv=v1++v2∧rows=r1++r2∧v1.length=r1.length∧bP who rows 0 (ak ps)=dn++bP who r2 m (ak (ps.drop i))∧Run l2 (ps.drop i) q2∧l2.length=r2.length∧dn.length≤r1.length+aJ (ps.take i))
  ⟨d0,[],[],rv,[],[],rows,0,l,r,none,none,rfl,s0,t6,ay, .nil,rfl,rfl,rfl,rfl,dB,hlr,Nat.zero_le _⟩
  (fun i σ H2 _ ⟨_,_,_,_,_,_,_,_,_,_,_,_,_,s2,_⟩=>aj.of (s2 _ _ hb)) ?_ ?_⟩
 ·rintro i y σ H2 hi ⟨d,ys,v1,v2,dn,r1,r2,m,l2,q2,w,v,rfl,s2,fd,vg,bB,ev,er,el,eg,gZ,jc,hdn⟩
  obtain⟨pt,dE,eJ⟩:=bN.get hi
  obtain⟨pa,rfl,fG⟩:=eJ.mono (bf s2)
  have cR:i<ps.length:=(List.getElem?_eq_some_iff.mp dE).1
  have ed:ps.drop i=pt::ps.drop (i+1):=by
   rw[List.drop_eq_getElem_cons cR]
   congr 1
   exact Option.some.inj ((List.getElem?_eq_getElem cR).symm.trans dE)
  rw[ed] at gZ eg
  rw[dw] at eg
  have lN:=aw pt (List.mem_of_getElem? dE)
  have lG:=Paired.length bB
  have ts:=Ct dE
  have tt:=xS ps (i+1)
  have hrr:rows.length=r1.length+r2.length:=by rw[er,List.length_append]
  refine⟨pa,_,rfl, .inl (aF.of fG),rfl,_,_,rfl,_,_,rfl,rfl, ?_⟩
  cases pt with
  | put s=>
   have ls:=len_list s
   have i5:s.length≤100000:=by have:cZ (.put s)=s.length:=rfl;omega
   refine⟨_,rfl,_,rfl, ?_⟩
   refine⟨_,rfl,_,rfl,bL lN.1.1,(s.length:Int),rfl,by omega,by omega,N4 (n:=s.length) (by omega) (fun j zs H3=>bS H3 zs ((eN who m s.cps.toList).take j)) .nil ?_ ?_⟩
   ·intro j zs H3 hj s3 hz Q' hq
    have uF:j<s.cps.toList.length:=by omega
    have hc:s.cps.toList[j]?=some s.cps.toList[j]:=List.getElem?_eq_getElem uF
    refine⟨_,rfl,_,rfl,_,rfl,(by show 2≤sizeLine;decide),fun n hn=> ⟨_,rfl,_,rfl, .inr (.inr (.inl ⟨s,0+ (j:Int),s.cps.toList[j],rfl,rfl,bL (by omega), ?_,(by show 2≤sizeLine;decide),fun t ht=> ?_⟩))⟩⟩
    ·rw[show(0:Int)+ (j:Int)=((j:Nat):Int) by omega];exact OG uF
    ·have s4:=sameNew (o:= .tup [V.str who,V.int ((m:Int)+ (0+ (j:Int)))]) hn
     have s5:=sameNew (o:= .tup [V.ref n,V.str ⟨#[s.cps.toList[j]]⟩]) ht
     refine hq (.ref t) _ (s4.trans s5) ?_
     rw[OC who m _ j _ hc]
     refine Paired.snoc (hz.mono (bf (s4.trans s5))) ⟨t,n,rfl,ay, ?_⟩
     rw[s5 _ _ ay]
     show some (HO.tup [V.str who,V.int ((m:Int)+ (0+ (j:Int)))])=some (HO.tup [V.str who,V.int ((m+j:Nat):Int)])
     rw[show(m:Int)+ (0+ (j:Int))=((m+j:Nat):Int) by omega]
   ·intro zs H3 p s3 hz hp
    rw[List.take_of_length_le (by rw[rE];omega)] at hz
    have x_:=Paired.length hz
    rw[rE] at x_
    have s4:=sameNew (o:= .lst zs) hp
    have h4d:=s4 _ _ (s3 _ _ vg)
    refine .inl ⟨d,p,ys,zs,rfl,rfl,h4d,ay,bL (by omega),fun e he=> ?_⟩
    have s5:=sameNew (o:= .lst (ys++zs)) he
    have nj:=s3.trans (s4.trans s5)
    refine⟨_,rfl,_,rfl,bL lN.1.1, ?_⟩
    have dX:Run l2 (ps.drop (i+1)) (q2.drop s.cps.toList.length):=by
     cases gZ with
     | put hr=>rw[List.drop_left];exact hr
    refine⟨e,ys++zs,v1,v2,dn++eN who m s.cps.toList,r1,r2,m+s.length,l2,_,some (.str "put"),some (.str s), ?_,s2.trans nj,(s2.trans (s3.trans s4)).free he,ay,Paired.app ((bB.mono (bf nj))) (hz.mono (bf (s4.trans s5))),ev,er,el, ?_,dX,jc, ?_⟩
    ·show[_,_,_,_,_,some (V.int ((m:Int)+ (s.length:Int))),_,_]=_
     rw[Int.natCast_add];rfl
    ·rw[eg]
     show dn++bP who r2 m (s.cps.toList.map At.P++_)=_
     rw[OD,List.append_assoc,ls]
    ·rw[List.length_append,rE,ts]
     have:cZ (.put s)=s.length:=rfl
     omega
  | cut s=>
   have ls:=len_list s
   obtain⟨la,lb,qa,qb,C6,eq1,C7,one⟩:=uK gZ
   obtain⟨o1,o2⟩:=one
   have OI:la.length=s.length:=by rw[o1,ls]
   rw[C6,List.length_append] at jc
   refine⟨_,rfl,_,rfl,_,rfl,_,rfl,_,rfl,_,rfl,bL lN.1.1, ?_⟩
   have h1:s.length≤r2.length:=by omega
   have rD:v1.length+v2.length=rows.length:=by rw[←lr,ev,List.length_append]
   refine⟨d,ys,v1++v2.take s.length,v2.drop s.length,dn,r1++r2.take s.length,r2.drop s.length,m,lb,qb,some (.str "cut"),some (.str s), ?_,s2,fd,vg,bB,by rw[List.append_assoc,List.take_append_drop];exact ev,by rw[List.append_assoc,List.take_append_drop];exact er,by simp only[List.length_append,List.length_take];omega, ?_,C7,by rw[List.length_drop];omega, ?_⟩
   ·show[_,_,_,_,some (V.int ((v1.length:Int)+ (s.length:Int))),_,_,_]=_
    rw[List.length_append,List.length_take,show min s.length v2.length=s.length by omega,Int.natCast_add];rfl
   ·rw[eg]
    congr 1
    show bP who r2 m (s.cps.toList.map At.C++_)=_
    have:=OF who (r2.drop s.length) m (ak (ps.drop (i+1))) (r2.take s.length) s.cps.toList (by rw[List.length_take,←ls];omega)
    rw[List.take_append_drop] at this
    exact this
   ·have:cZ (.cut s)=s.length:=rfl
    simp only[List.length_append,List.length_take];omega
  | keep n=>
   have dA:(1:Int)≤n:=lN
   obtain⟨la,lb,qa,qb,C6,eq1,C7,one⟩:=uK gZ
   obtain⟨o1,o2⟩:=one
   rw[C6,List.length_append] at jc
   have h1:n.toNat≤r2.length:=by omega
   have rD:v1.length+v2.length=rows.length:=by rw[←lr,ev,List.length_append]
   have yx:bS H2 (v2.take n.toNat) (r2.take n.toNat):=by
    have:=(OH.mono (bf s2)).drop v1.length
    rw[ev,er,List.drop_left,el,List.drop_left] at this
    exact this.take n.toNat
   refine⟨_,rfl,_,rfl,_,rfl,_,rfl, ?_⟩
   refine⟨_,rfl,_,rfl,_,rfl,_,rfl,_,rfl,_,rfl,_,rfl, .inl ⟨rv,aj.of (s2 _ _ ha),fun p hp=> ?_⟩⟩
   rw[afy (xs:=rv) (a:=v1) (b:=v2.take n.toNat) (c:=v2.drop n.toNat) (by rw[List.take_append_drop];exact ev) n (by rw[List.length_take];omega)]
   have s4:=sameNew (o:= .lst (v2.take n.toNat)) hp
   have aS:(v2.take n.toNat).length=n.toNat:=by rw[List.length_take];omega
   refine .inl ⟨d,p,ys,v2.take n.toNat,rfl,rfl,s4 _ _ vg,ay,bL (by omega),fun e he=> ?_⟩
   have s5:=sameNew (o:= .lst (ys++v2.take n.toNat)) he
   have nj:=s4.trans s5
   refine⟨_,rfl,_,rfl, ?_⟩
   refine⟨e,ys++v2.take n.toNat,v1++v2.take n.toNat,v2.drop n.toNat,dn++r2.take n.toNat,r1++r2.take n.toNat,r2.drop n.toNat,m,lb,qb,some (.str "keep"),some (.int n), ?_,s2.trans nj,(s2.trans s4).free he,ay,Paired.app (bB.mono (bf nj)) (yx.mono (bf nj)),by rw[List.append_assoc,List.take_append_drop];exact ev,by rw[List.append_assoc,List.take_append_drop];exact er,by simp only[List.length_append,List.length_take];omega, ?_,C7,by rw[List.length_drop];omega, ?_⟩
   ·show[_,_,_,_,some (V.int ((v1.length:Int)+n)),_,_,_]=_
    rw[List.length_append,aS,show(v1.length:Int)+n=((v1.length+n.toNat:Nat):Int) by omega];rfl
   ·rw[eg,List.append_assoc]
    congr 1
    show bP who r2 m (rK n.toNat++_)=_
    have:=OE who (r2.drop n.toNat) m (ak (ps.drop (i+1))) (r2.take n.toNat)
    rw[List.take_append_drop,List.length_take,show min n.toNat r2.length=n.toNat by omega] at this
    exact this
   ·have:cZ (.keep n)=0:=rfl
    simp only[List.length_append,List.length_take];omega
 ·rintro σ H2 ⟨d,ys,v1,v2,dn,r1,r2,m,l2,q2,w,v,rfl,s2,fd,vg,bB,ev,er,el,eg,gZ,jc,hdn⟩
  rw[lx,List.drop_length] at eg
  have e0:bP who r2 m (ak [])=[]:=by cases r2<;>rfl
  rw[e0,List.append_nil] at eg
  rw[←eg] at bB
  exact⟨_,rfl,q d H2 ys s2 fd vg bB⟩
theorem C8{k:Str}{v:V}{r:List (Str×V)}:((k,v)::r).lookup k=some v:=by simp[List.lookup]
theorem rG{k j:Str}{v:V}{r:List (Str×V)}(h: ¬k=j):((j,v)::r).lookup k=r.lookup k:=by
 have:(k==j)=false:=by simpa using h
 simp[List.lookup,this]
theorem OJ{k:Str}{v w:V}{r:List (Str×V)}:cQ k v ((k,w)::r)=(k,v)::r:=by simp[cQ]
theorem rH{k j:Str}{v w:V}{r:List (Str×V)}(h: ¬j=k):cQ k v ((j,w)::r)=(j,w)::cQ k v r:=by simp[cQ,h]
def aP:Pt→Nat | .keep n=>n.toNat | .put s=>s.length | .cut s=>s.length
def bE:Pt→Nat→Pt
 | .keep n,o=> .keep (n - o)
 | .put s,o=> .put ⟨(s.cps.toList.drop o).toArray⟩
 | .cut s,o=> .cut ⟨(s.cps.toList.drop o).toArray⟩
def cg:Pt→Nat→Pt
 | .keep _,o=> .keep o
 | .put s,o=> .put ⟨(s.cps.toList.take o).toArray⟩
 | .cut s,o=> .cut ⟨(s.cps.toList.take o).toArray⟩
theorem OK(p:Pt)(o:Nat):(bE p o).word=p.word:=by cases p<;>rfl
theorem afD(p:Pt)(o:Nat):(cg p o).word=p.word:=by cases p<;>rfl
theorem nk{p:Pt}(h:br p):qT p=(aP p:Int)∧1≤aP p:=by
 cases p with
 | keep n=>
  have h1:(1:Int)≤n:=h
  exact⟨by show n=(n.toNat:Int);omega,by show 1≤n.toNat;omega⟩
 | put s=>
  obtain⟨c,r,e⟩:=ik h.2
  exact⟨rfl,by show 1≤s.length;rw[len_list,e];simp⟩
 | cut s=>
  obtain⟨c,r,e⟩:=ik h.2
  exact⟨rfl,by show 1≤s.length;rw[len_list,e];simp⟩
theorem iR(l:List Nat):(⟨l.toArray⟩:Str).length=l.length:=by rw[len_list]
theorem iS(p:Pt)(o:Nat)(h:o≤aP p):aP (bE p o)=aP p - o:=by
 cases p with
 | keep n=>
  have h':o≤n.toNat:=h
  show(n - (o:Int)).toNat=n.toNat - o
  omega
 | put s=>show(⟨(s.cps.toList.drop o).toArray⟩:Str).length=s.length - o;rw[iR,List.length_drop,←len_list]
 | cut s=>show(⟨(s.cps.toList.drop o).toArray⟩:Str).length=s.length - o;rw[iR,List.length_drop,←len_list]
theorem C9(p:Pt)(o:Nat)(h:o≤aP p):aP (cg p o)=o:=by
 cases p with
 | keep n=>show((o:Int)).toNat=o;omega
 | put s=>
  have h':o≤s.length:=h
  rw[len_list] at h'
  show(⟨(s.cps.toList.take o).toArray⟩:Str).length=o;rw[iR,List.length_take];omega
 | cut s=>
  have h':o≤s.length:=h
  rw[len_list] at h'
  show(⟨(s.cps.toList.take o).toArray⟩:Str).length=o;rw[iR,List.length_take];omega
theorem drop_zero(p:Pt):bE p 0=p:=by
 cases p with
 | keep n=>show Pt.keep (n - ((0:Nat):Int))=_;rw[show n - ((0:Nat):Int)=n by omega]
 | put s=>show Pt.put ⟨(s.cps.toList.drop 0).toArray⟩=_;rw[List.drop_zero,ye]
 | cut s=>show Pt.cut ⟨(s.cps.toList.drop 0).toArray⟩=_;rw[List.drop_zero,ye]
theorem drop_drop(p:Pt)(a b:Nat):bE (bE p a) b=bE p (a+b):=by
 cases p with
 | keep n=>show Pt.keep (n - (a:Int) - (b:Int))=Pt.keep (n - ((a+b:Nat):Int));congr 1;omega
 | put s=>show Pt.put ⟨((s.cps.toList.drop a).drop b).toArray⟩=Pt.put ⟨(s.cps.toList.drop (a+b)).toArray⟩;rw[List.drop_drop]
 | cut s=>show Pt.cut ⟨((s.cps.toList.drop a).drop b).toArray⟩=Pt.cut ⟨(s.cps.toList.drop (a+b)).toArray⟩;rw[List.drop_drop]
theorem take_all(p:Pt)(h:e9 p):cg p (aP p)=p:=by
 cases p with
 | keep n=>
  have h':0≤n:=h
  show Pt.keep ((n.toNat:Nat):Int)=_;rw[show((n.toNat:Nat):Int)=n by omega]
 | put s=>show Pt.put ⟨(s.cps.toList.take s.length).toArray⟩=_;rw[len_list,List.take_length,ye]
 | cut s=>show Pt.cut ⟨(s.cps.toList.take s.length).toArray⟩=_;rw[len_list,List.take_length,ye]
theorem vh(p:Pt)(o:Nat)(h:o≤aP p):ba p=ba (cg p o)++ba (bE p o):=by
 cases p with
 | keep n=>
  have h':o≤n.toNat:=h
  show rK n.toNat=rK ((o:Nat):Int).toNat++rK (n - (o:Int)).toNat
  rw[N_];congr 1;omega
 | put s=>
  show s.cps.toList.map At.P=(s.cps.toList.take o).map At.P++ (s.cps.toList.drop o).map At.P
  rw[←List.map_append,List.take_append_drop]
 | cut s=>
  show s.cps.toList.map At.C=(s.cps.toList.take o).map At.C++ (s.cps.toList.drop o).map At.C
  rw[←List.map_append,List.take_append_drop]
theorem yz{s:Str}(h:good s)(l:List Nat)(hl:l.length≤s.length)(hm: ∀c∈l,c∈s.cps.toList):good ⟨l.toArray⟩:=
 ⟨by rw[iR];exact Nat.le_trans hl h.1,fun c hc=>h.2 c (hm c hc)⟩
theorem yA{l:List Nat}(h:l≠ []):(⟨l.toArray⟩:Str)≠"":=fun z=>h (by have:=congrArg (fun s=>s.cps.toList) z;exact this)
theorem yB{p:Pt}{o:Nat}(h:br p)(ho:o<aP p):br (bE p o):=by
 cases p with
 | keep n=>
  have h':o<n.toNat:=ho
  show(1:Int)≤n - (o:Int)
  omega
 | put s=>
  have h':o<s.cps.toList.length:=by rw[←len_list];exact ho
  exact⟨yz h.1 _ (by rw[List.length_drop,←len_list];omega) fun c hc=>List.mem_of_mem_drop hc,yA (by intro z;have:=congrArg List.length z;rw[List.length_drop] at this;have t2:s.cps.toList.length - o=0:=this;omega)⟩
 | cut s=>
  have h':o<s.cps.toList.length:=by rw[←len_list];exact ho
  exact⟨yz h.1 _ (by rw[List.length_drop,←len_list];omega) fun c hc=>List.mem_of_mem_drop hc,yA (by intro z;have:=congrArg List.length z;rw[List.length_drop] at this;have t2:s.cps.toList.length - o=0:=this;omega)⟩
theorem OL{p:Pt}{o:Nat}(h:br p)(ho:1≤o)(h1:o≤aP p):br (cg p o):=by
 cases p with
 | keep n=>show(1:Int)≤ (o:Int);omega
 | put s=>
  have h':o≤s.cps.toList.length:=by rw[←len_list];exact h1
  exact⟨yz h.1 _ (by rw[List.length_take,←len_list];omega) fun c hc=>List.mem_of_mem_take hc,yA (by intro z;have:=congrArg List.length z;rw[List.length_take] at this;have t2:min o s.cps.toList.length=0:=this;omega)⟩
 | cut s=>
  have h':o≤s.cps.toList.length:=by rw[←len_list];exact h1
  exact⟨yz h.1 _ (by rw[List.length_take,←len_list];omega) fun c hc=>List.mem_of_mem_take hc,yA (by intro z;have:=congrArg List.length z;rw[List.length_take] at this;have t2:min o s.cps.toList.length=0:=this;omega)⟩
def wf(L:Addr)(i o:Int):List (Str×V):=[("parts", .ref L),("passed_by", .int i),("offset", .int o)]
theorem yC{L:Addr}{i o:Int}:(wf L i o).lookup ("parts":Str)=some (.ref L):=C8
theorem vi{L:Addr}{i o:Int}:(wf L i o).lookup ("passed_by":Str)=some (.int i):=(rG (by decide+kernel)).trans C8
theorem OM{L:Addr}{i o:Int}:(wf L i o).lookup ("offset":Str)=some (.int o):=(rG (by decide+kernel)).trans ((rG (by decide+kernel)).trans C8)
theorem yD{L:Addr}{i o:Int}{m:Str}(h1: ¬m="parts")(h2: ¬m="passed_by")(h3: ¬m="offset"):(wf L i o).lookup m=none:=(rG h1).trans ((rG h2).trans ((rG h3).trans rfl))
theorem ON{L:Addr}{i o k:Int}:cQ "offset" (.int k) (wf L i o)=wf L i k:=by
 unfold wf
 rw[rH (by decide+kernel),rH (by decide+kernel),OJ]
theorem afE{L:Addr}{i o k:Int}:cQ "passed_by" (.int k) (wf L i o)=wf L k o:=by
 unfold wf
 rw[rH (by decide+kernel),OJ]
theorem afF{L:Addr}:cQ "offset" (.int 0) (cQ "passed_by" (.int 0) (cQ "parts" (.ref L) []))=wf L 0 0:=by
 have e1:cQ "parts" (V.ref L) []=[(("parts":Str),V.ref L)]:=rfl
 rw[e1,rH (by decide+kernel)]
 have e2:cQ "passed_by" (V.int 0) []=[(("passed_by":Str),V.int 0)]:=rfl
 rw[e2,rH (by decide+kernel),rH (by decide+kernel)]
 rfl
def cj(C:Addr)(H:Hp)(w L:Addr)(rs:List Pt):Prop:= ∃(dx:Addr) (xs:List V) (ps:List Pt) (i o:Nat),H w=some (.ins C dx (wf L i o))∧H L=some (.lst xs)∧aM H xs ps∧(∀p∈ps,br p)∧ps.length≤100000∧
 ((ps.drop i=[]∧rs=[])∨ ∃p t,ps.drop i=p::t∧o<aP p∧rs=bE p o::t)
theorem cj.keep{C:Addr}{H H':Hp}{w L:Addr}{rs:List Pt}(h:cj C H w L rs)(k: ∀b o,H b=some o→b=w∨b=L∨(∃xs,o= .tup xs)→H' b=some o):cj C H' w L rs:=by
 obtain⟨dx,xs,ps,i,o,h1,h2,h3,h4⟩:=h
 exact⟨dx,xs,ps,i,o,k _ _ h1 (.inl rfl),k _ _ h2 (.inr (.inl rfl)),h3.mono fun b ys e=>k _ _ e (.inr (.inr ⟨ys,rfl⟩)),h4⟩
theorem cj.same{C:Addr}{H H':Hp}{w L:Addr}{rs:List Pt}(h:cj C H w L rs)(s:ax H H'):cj C H' w L rs:=h.keep fun b o e _=>s b o e
theorem cj.but{C:Addr}{H H':Hp}{w L c:Addr}{rs:List Pt}{xs:List V}(h:cj C H w L rs)(b:aW c H H')(hc:H c=some (.lst xs))(hn:c≠L):cj C H' w L rs:=by
 refine h.keep fun d o e z=>b d o e ?_
 obtain⟨dx,_,_,_,_,h1,_⟩:=h
 rcases z with rfl | rfl | ⟨ys,rfl⟩
 ·exact gM h1 hc (by intro z;cases z)
 ·exact hn.symm
 ·exact gM e hc (by intro z;cases z)
theorem cj.ok{C:Addr}{H:Hp}{w L:Addr}{rs:List Pt}(h:cj C H w L rs): ∀p∈rs,br p:=by
 obtain⟨dx,xs,ps,i,o,h1,h2,h3,h4,h5,⟨_,rfl⟩ | ⟨p,t,e,ho,rfl⟩⟩:=h
 ·intro p hp;cases hp
 ·have hm: ∀q∈p::t,br q:=fun q hq=>h4 q (List.mem_of_mem_drop (by rw[e];exact hq))
  intro q hq
  rcases List.mem_cons.mp hq with rfl | hq
  ·exact yB (hm p (.head _)) ho
  ·exact hm q (.tail _ hq)
def C_:List Pt→Str
 | []=> ""
 | p::_=>p.word
def lP(C:Addr):Sp:=fun vs H Q E=> ∃(w dx a:Addr) (xs:List V) (ps:List Pt),vs=[.ref w, .ref a]∧H w=some (.ins C dx [])∧H a=some (.lst xs)∧aM H xs ps∧(∀p∈ps,br p)∧ps.length≤100000∧
 ∀L H',H L=none→L≠w→aW w H H'→cj C H' w L ps→Q .aq H'
theorem afG{K:PySem.W.Frag}{C:Addr}(T:oC K C)(vs:List V)(H:Hp)(Q:VK)(E:XK)(h:lP C vs H Q E):ar (aQ K [] [] (E:=E)) BO (Dn Q) (start BN vs) H:=by
 obtain⟨w,dx,a,xs,ps,rfl,hw,ha,bN,aw,hl,k⟩:=h
 refine⟨_,rfl,xs, .inl (aj.of ha),fun L hL=> ?_⟩
 have nw:w≠L:=bz hw hL
 refine⟨_,rfl,w,C,dx,[],rfl,(by rw[aI nw];exact hw),T.cl,T.uv,(by show 0<1000;decide), ?_⟩
 refine⟨_,rfl,w,C,dx,_,rfl,ay,T.cl,T.oE,(by show 1<1000;decide), ?_⟩
 refine⟨_,rfl,w,C,dx,_,rfl,ay,T.cl,T.uw,(by show 2<1000;decide), ?_⟩
 rw[vN,vN]
 have b:aW w H (upd (upd H L (.lst xs)) w (.ins C dx (cQ "offset" (.int 0) (cQ "passed_by" (.int 0) (cQ "parts" (.ref L) []))))):=fun c o e n=>by rw[aI n,aI (bz e hL)];exact e
 refine k L _ hL nw.symm b ⟨dx,xs,ps,0,0, ?_, ?_,bN.mono ?_,aw,hl, ?_⟩
 ·rw[ay,afF];rfl
 ·rw[aI nw.symm,ay]
 ·intro c ys e
  exact b c _ e (gM e hw (by intro z;cases z))
 ·cases ps with
  | nil=>exact .inl ⟨rfl,rfl⟩
  | cons p t=>exact .inr ⟨p,t,rfl,(nk (aw p (.head _))).2,by rw[drop_zero]⟩
theorem Dc{ps:List Pt}{i:Nat}{p:Pt}{t:List Pt}(h:ps.drop i=p::t):ps[i]?=some p∧ps.drop (i+1)=t∧i<ps.length:=by
 have hl:i<ps.length:=by
  rcases Nat.lt_or_ge i ps.length with z | z
  ·exact z
  ·rw[List.drop_of_length_le z] at h;cases h
 refine⟨?_, ?_,hl⟩
 ·have:=congrArg List.head? h
  rw[List.head?_drop] at this
  simpa using this
 ·rw[←List.drop_drop,h];rfl
theorem aM.at{H:Hp}{xs:List V}{ps:List Pt}{i:Nat}{p:Pt}(h:aM H xs ps)(e:ps[i]?=some p): ∃a,xs[i]?=some (.ref a)∧H a=some (.tup [.str p.word,p.val]):=by
 have hl:=Paired.length h
 have hi:i<xs.length:=by rw[hl];exact(List.getElem?_eq_some_iff.mp e).1
 obtain⟨q,hq,a,ea,ha⟩:=h.get (i:=i) (v:=xs[i]) (by simp[hi])
 rw[e] at hq;cases hq
 exact⟨a,by rw[←ea];simp[hi],ha⟩
def iu(C:Addr):Sp:=fun vs H Q E=> ∃(w L:Addr) (rs:List Pt),vs=[.ref w]∧cj C H w L rs∧Q (.str (C_ rs)) H
theorem afH{K:PySem.W.Frag}{C:Addr}(T:oC K C)(vs:List V)(H:Hp)(Q:VK)(E:XK)(h:iu C vs H Q E):ar (aQ K [] [] (E:=E)) BQ (Dn Q) (start BP vs) H:=by
 obtain⟨w,L,rs,rfl,⟨dx,xs,ps,i,o,h1,h2,h3,h4,h5,h6⟩,q⟩:=h
 have hl:=Paired.length h3
 refine⟨_,rfl,w,C,dx,_,_,rfl,h1,T.cl,T.oE,vi,_,rfl,w,C,dx,_,_,rfl,h1,T.cl,T.uv,yC, .inl ⟨_,aj.of h2,trivial,_,rfl, ?_⟩⟩
 rcases h6 with⟨e,rfl⟩ | ⟨p,t,e,ho,rfl⟩
 ·have:ps.length≤i:=by
   rcases Nat.lt_or_ge i ps.length with z | z
   ·rw[List.drop_eq_getElem_cons z] at e;cases e
   ·exact z
  exact iF q (decide_eq_false (by omega))
 ·obtain⟨e1,e2,e3⟩:=Dc e
  obtain⟨a,ea,ha⟩:=h3.at e1
  refine iT ?_ (decide_eq_true (by omega))
  refine⟨_,rfl,w,C,dx,_,_,rfl,h1,T.cl,T.uv,yC,_,rfl,w,C,dx,_,_,rfl,h1,T.cl,T.oE,vi, .inl ⟨_,_,_,_,rfl,rfl,aj.of h2,kr ea, ?_⟩⟩
  refine .inr (.inl ⟨_,_,_,_,rfl,rfl,aF.of ha,rfl, ?_⟩)
  rw[show C_ (bE p o::t)=p.word from OK p o] at q
  exact q
def rJ(C:Addr):Sp:=fun vs H Q E=> ∃(w L dx:Addr) (xs:List V) (ps:List Pt) (i o:Nat) (p:Pt),vs=[.ref w]∧H w=some (.ins C dx (wf L i o))∧H L=some (.lst xs)∧aM H xs ps∧ps[i]?=some p∧br p∧Q (.int ((aP p:Int) - (o:Int))) H
theorem afI{K:PySem.W.Frag}{C:Addr}(T:oC K C)(vs:List V)(H:Hp)(Q:VK)(E:XK)(h:rJ C vs H Q E):ar (aQ K [("part_size",gB)] [] (E:=E)) BS (Dn Q) (start BR vs) H:=by
 obtain⟨w,L,dx,xs,ps,i,o,p,rfl,h1,h2,h3,e1,hp,q⟩:=h
 obtain⟨a,ea,ha⟩:=h3.at e1
 refine⟨_,rfl,w,C,dx,_,_,rfl,h1,T.cl,T.uv,yC,_,rfl,w,C,dx,_,_,rfl,h1,T.cl,T.oE,vi, .inl ⟨_,_,_,_,rfl,rfl,aj.of h2,kr ea, ?_⟩⟩
 refine⟨_,p,rfl,⟨a,rfl,ha⟩,uz hp, ?_⟩
 refine⟨_,rfl,w,C,dx,_,_,rfl,h1,T.cl,T.uw,OM,trivial, ?_⟩
 rw[(nk hp).1]
 exact q
def iU(C:Addr):Sp:=fun vs H Q E=> ∃(w L:Addr) (p:Pt) (t:List Pt),vs=[.ref w]∧cj C H w L (p::t)∧Q (.int (aP p:Int)) H
theorem yE{C:Addr}{vs:List V}{H:Hp}{Q:VK}{E:XK}(h:iU C vs H Q E):rJ C vs H Q E:=by
 obtain⟨w,L,p,t,rfl,⟨dx,xs,ps,i,o,h1,h2,h3,h4,h5,⟨_,e⟩ | ⟨p',t',e,ho,e'⟩⟩,q⟩:=h
 ·cases e
 ·cases e'
  obtain⟨e1,_,_⟩:=Dc e
  refine⟨w,L,dx,xs,ps,i,o,p',rfl,h1,h2,h3,e1,h4 _ (List.mem_of_getElem? e1), ?_⟩
  rw[iS p' o (by omega)] at q
  rw[show((aP p':Int) - (o:Int))=((aP p' - o:Nat):Int) by omega]
  exact q
def dg(p:Pt)(t:List Pt)(k:Nat):List Pt:=if k=aP p then t else bE p k::t
def iw(C:Addr):Sp:=fun vs H Q E=> ∃(w L:Addr) (p:Pt) (t:List Pt) (k:Nat),vs=[.ref w, .int (k:Int)]∧cj C H w L (p::t)∧1≤k∧k≤aP p∧
 ∀r H',aW w H H'→H' r=some (.tup [.str (cg p k).word,(cg p k).val])→H r=none→cj C H' w L (dg p t k)→Q (.ref r) H'
theorem afJ{K:PySem.W.Frag}{C:Addr}(T:oC K C)(vs:List V)(H:Hp)(Q:VK)(E:XK)(h:iw C vs H Q E):ar (aQ K [] [] [] [("left",C,rJ C)] (E:=E)) xE (Dn Q) (start BU vs) H:=by
 obtain⟨w,L,p,t,k,rfl,⟨dx,xs,ps,i,o,h1,h2,h3,h4,h5,⟨_,e⟩ | ⟨p',t',e,ho,e'⟩⟩,hk1,hk2,q⟩:=h
 ·cases e
 cases e'
 obtain⟨e1,e2,e3⟩:=Dc e
 obtain⟨a,ea,ha⟩:=h3.at e1
 have hp:=h4 _ (List.mem_of_getElem? e1)
 rw[iS p' o (by omega)] at hk2
 have OO:w≠L:=gM h1 h2 (by intro z;cases z)
 have nwa:a≠w:=gM ha h1 (by intro z;cases z)
 refine⟨_,rfl,w,C,dx,_,_,rfl,h1,T.cl,T.uv,yC,_,rfl,w,C,dx,_,_,rfl,h1,T.cl,T.oE,vi, .inl ⟨_,_,_,_,rfl,rfl,aj.of h2,kr ea, ?_⟩⟩
 refine⟨_,rfl,w,C,dx,_,_,rfl,h1,T.cl,T.uw,OM, ?_⟩
 refine⟨_,rfl,_,rfl, ?_⟩
 refine⟨_,rfl,_,rfl,w,C,dx,_,rfl,h1,T.cl,T.uw,(by show 3<1000;decide), ?_⟩
 rw[ON,show(o:Int)+ (k:Int)=((o+k:Nat):Int) by omega]
 have tup: ∀(fs:List (Str×V)),eY H (upd H w (.ins C dx fs)):=fun fs b ys eb=>by rw[aI (gM eb h1 (by intro z;cases z))];exact eb
 refine⟨_,rfl,w,dx,_,rfl,ay,yD (by decide+kernel) (by decide+kernel) (by decide+kernel),w,L,dx,xs,ps,i,o+k,p',rfl,ay,(by rw[aI OO.symm];exact h2),h3.mono (tup _),e1,hp, ?_⟩
 have fin: ∀(i' o':Nat),((ps.drop i'=[]∧dg (bE p' o) t k=[])∨ ∃p t',ps.drop i'=p::t'∧o'<aP p∧dg (bE p' o) t k=bE p o'::t')→
   ar (aQ K [] [] [] [("left",C,rJ C)] (E:=E)) (xE.drop 5) (Dn Q) [some (.ref w),some (.int (k:Int)),some (.ref a),some (.int (o:Int)),some (.int ((o+k:Nat):Int))] (upd H w (.ins C dx (wf L (i':Int) (o':Int)))):=by
  intro i' o' hr
  have qY:upd H w (.ins C dx (wf L (i':Int) (o':Int))) a=some (.tup [.str p'.word,p'.val]):=by rw[aI nwa];exact ha
  have done: ∀v:V,v=(cg (bE p' o) k).val→ ∀r,upd H w (.ins C dx (wf L (i':Int) (o':Int))) r=none→Q (.ref r) (upd (upd H w (.ins C dx (wf L (i':Int) (o':Int)))) r (.tup [.str p'.word,v])):=by
   rintro v rfl r gZ
   have OP:r≠w:=fun z=>by rw[z,ay] at gZ;cases gZ
   have OQ:H r=none:=by rw[aI OP] at gZ;exact gZ
   have bt:aW w H (upd (upd H w (.ins C dx (wf L (i':Int) (o':Int)))) r (.tup [.str p'.word,(cg (bE p' o) k).val])):=fun b ob eb nb'=>by rw[aI (bz eb OQ),aI nb'];exact eb
   refine q r _ bt (by rw[ay,afD,OK]) OQ ⟨dx,xs,ps,i',o', ?_,bt _ _ h2 OO.symm,h3.mono fun b ys eb=>bt b _ eb (gM eb h1 (by intro z;cases z)),h4,h5,hr⟩
   rw[aI OP.symm,ay]
  refine⟨_,rfl, .inr (.inl ⟨_,_,_,_,rfl,rfl,aF.of qY,rfl, ?_⟩)⟩
  refine⟨_,rfl, .inr (.inl ⟨_,_,_,_,rfl,rfl,aF.of qY,rfl,_,rfl, ?_⟩)⟩
  rw[Bool.false_xor,fL]
  cases p' with
  | keep n=>exact dZ ⟨_,rfl,(by show 2≤sizeLine;decide),done _ rfl⟩
  | put s=>
   refine fN ⟨_,rfl, .inr (.inl ⟨_,_,_,_,rfl,rfl,aF.of qY,rfl,_,rfl,_,rfl,_,rfl,_,rfl,bL hp.1.1,(by show 2≤sizeLine;decide),done _ ?_⟩)⟩
   show V.str (jI s (some (o:Int)) (some ((o+k:Nat):Int)))=V.str ⟨((s.cps.toList.drop o).take k).toArray⟩
   rw[Int.natCast_add,yy o (k:Int) k rfl]
  | cut s=>
   refine fN ⟨_,rfl, .inr (.inl ⟨_,_,_,_,rfl,rfl,aF.of qY,rfl,_,rfl,_,rfl,_,rfl,_,rfl,bL hp.1.1,(by show 2≤sizeLine;decide),done _ ?_⟩)⟩
   show V.str (jI s (some (o:Int)) (some ((o+k:Nat):Int)))=V.str ⟨((s.cps.toList.drop o).take k).toArray⟩
   rw[Int.natCast_add,yy o (k:Int) k rfl]
 refine⟨_,rfl, ?_⟩
 rw[Bool.false_xor]
 by_cases hz:k=aP p' - o
 ·refine iT ?_ (decide_eq_true (by congr 1;omega))
  refine⟨_,rfl,w,C,dx,_,_,rfl,ay,T.cl,T.oE,vi,_,rfl,w,C,dx,_,rfl,ay,T.cl,T.oE,(by show 3<1000;decide), ?_⟩
  rw[vN,afE]
  refine⟨_,rfl,w,C,dx,_,rfl,ay,T.cl,T.uw,(by show 3<1000;decide), ?_⟩
  rw[vN,ON,show(i:Int)+1=((i+1:Nat):Int) by omega]
  refine fin (i+1) 0 ?_
  have er:dg (bE p' o) t k=t:=if_pos (by rw[iS p' o (by omega)];exact hz)
  rw[er,e2]
  cases t with
  | nil=>exact .inl ⟨rfl,rfl⟩
  | cons p2 t2=>
   have hm:br p2:=h4 p2 (List.mem_of_mem_drop (by rw[e];exact .tail _ (.head _)))
   exact .inr ⟨p2,t2,rfl,(nk hm).2,by rw[drop_zero]⟩
 ·refine iF ?_ (decide_eq_false (by intro z;have z':(aP p':Int) - ((o+k:Nat):Int)=0:=(by injection z);omega))
  refine fin i (o+k) (.inr ⟨p',t,e,by omega, ?_⟩)
  have er:dg (bE p' o) t k=bE (bE p' o) k::t:=if_neg (by rw[iS p' o (by omega)];exact hz)
  rw[er,drop_drop]
end L2.B
namespace L2.B
theorem cb.app{xs ys zs bc fj bZ:List At}(h:cb xs ys zs)(h':cb bc fj bZ):cb (xs++bc) (ys++fj) (zs++bZ):=by
 induction h with
 | nil=>exact h'
 | p _ ih=>exact .p ih
 | c _ ih=>exact .c ih
 | kk _ ih=>exact .kk ih
 | kc _ ih=>exact .kc ih
 | pk _ ih=>exact .pk ih
 | pc _ ih=>exact .pc ih
theorem OR: ∀s:List Nat,cb [] (s.map .P) (s.map .P)
 | []=> .nil
 | c::s=> .p (OR s)
theorem Dd: ∀s:List Nat,cb (s.map .C) [] (s.map .C)
 | []=> .nil
 | c::s=> .c (Dd s)
theorem OS: ∀n:Nat,cb (rK n) (rK n) (rK n)
 | 0=> .nil
 | n+1=> .kk (OS n)
theorem OT: ∀s:List Nat,cb (rK s.length) (s.map .C) (s.map .C)
 | []=> .nil
 | c::s=> .kc (OT s)
theorem OU: ∀s:List Nat,cb (s.map .P) (rK s.length) (s.map .P)
 | []=> .nil
 | c::s=> .pk (OU s)
theorem OV: ∀s:List Nat,cb (s.map .P) (s.map .C) []
 | []=> .nil
 | c::s=> .pc (OV s)
def cE:List At→Nat
 | []=>0
 | .P _::xs=>cE xs
 | .K::xs=>cE xs+1
 | .C _::xs=>cE xs+1
def cC:List At→Nat
 | []=>0
 | .P _::xs=>cC xs+1
 | .K::xs=>cC xs+1
 | .C _::xs=>cC xs
def cnt:List At→Nat
 | []=>0
 | .K::xs=>cnt xs
 | .P _::xs=>cnt xs+1
 | .C _::xs=>cnt xs+1
theorem j5: ∀(xs:List At) (l:List Nat),fit l xs→l.length=cE xs
 | [],l,h=>by cases h;rfl
 | .P c::xs,l,h=>j5 xs l h
 | .K::xs,[],h=>h.elim
 | .K::xs,a::l,h=>by simp[cE,j5 xs l h]
 | .C c::xs,[],h=>h.elim
 | .C c::xs,a::l,h=>by simp[cE,j5 xs l h.2]
theorem vj: ∀(xs:List At) (l:List Nat),fit l xs→(out l xs).length=cC xs
 | [],l,h=>rfl
 | .P c::xs,l,h=>by simp[out,cC,vj xs l h]
 | .K::xs,[],h=>h.elim
 | .K::xs,a::l,h=>by simp[out,cC,vj xs l h]
 | .C c::xs,[],h=>h.elim
 | .C c::xs,a::l,h=>vj xs l h.2
theorem yF: ∀(xs ys:List At),cE (xs++ys)=cE xs+cE ys
 | [],ys=>by simp[cE]
 | .P c::xs,ys=>yF xs ys
 | .K::xs,ys=>by simp only[List.cons_append,cE,yF xs ys];omega
 | .C c::xs,ys=>by simp only[List.cons_append,cE,yF xs ys];omega
theorem vk: ∀(xs ys:List At),cnt (xs++ys)=cnt xs+cnt ys
 | [],ys=>by simp[cnt]
 | .K::xs,ys=>vk xs ys
 | .P c::xs,ys=>by simp only[List.cons_append,cnt,vk xs ys];omega
 | .C c::xs,ys=>by simp only[List.cons_append,cnt,vk xs ys];omega
theorem cb.cnt{xs ys zs:List At}(h:cb xs ys zs):cnt zs≤B.cnt xs+B.cnt ys:=by
 induction h<;>simp only[B.cnt] <;>omega
theorem pZ{ys:List At}: ∀(xs:List At) (l:List Nat),fit l (xs++ys)→ ∃l1 l2,l=l1++l2∧fit l1 xs∧fit l2 ys∧out l (xs++ys)=out l1 xs++out l2 ys
 | [],l,h=> ⟨[],l,rfl,rfl,h,rfl⟩
 | .P c::xs,l,h=>by
  obtain⟨l1,l2,rfl,a,b,d⟩:=pZ xs l h
  exact⟨l1,l2,rfl,a,b,by show c::out _ (xs++ys)=c::(out l1 xs++out l2 ys);rw[d]⟩
 | .K::xs,[],h=> (show False from h).elim
 | .K::xs,e::l,h=>by
  obtain⟨l1,l2,rfl,a,b,d⟩:=pZ xs l h
  exact⟨e::l1,l2,rfl,a,b,by show e::out _ (xs++ys)=e::(out l1 xs++out l2 ys);rw[d]⟩
 | .C c::xs,[],h=> (show False from h).elim
 | .C c::xs,e::l,h=>by
  obtain⟨h0,h⟩:=(show e=c∧fit l (xs++ys) from h)
  obtain⟨l1,l2,rfl,a,b,d⟩:=pZ xs l h
  exact⟨e::l1,l2,rfl,⟨h0,a⟩,b,d⟩
theorem afN{a b:List Nat}{ys zs:List At}(h:fit (a++b) (ys++zs))(hl:a.length=cE ys):fit a ys∧fit b zs:=by
 obtain⟨l1,l2,e,h1,h2,_⟩:=pZ ys _ h
 have:=j5 _ _ h1
 obtain⟨rfl,rfl⟩:=List.append_inj e (by omega)
 exact⟨h1,h2⟩
theorem OW(n:Nat):cE (rK n)=n:=by
 induction n with
 | zero=>rfl
 | succ n ih=>show cE (rK n)+1=_;rw[ih]
theorem vm(s:List Nat):cE (s.map .C)=s.length:=by
 induction s with
 | nil=>rfl
 | cons c s ih=>show cE (s.map .C)+1=_;rw[ih];rfl
theorem afO(n:Nat):cC (rK n)=n:=by
 induction n with
 | zero=>rfl
 | succ n ih=>show cC (rK n)+1=_;rw[ih]
theorem afP(s:List Nat):cC (s.map .P)=s.length:=by
 induction s with
 | nil=>rfl
 | cons c s ih=>show cC (s.map .P)+1=_;rw[ih];rfl
theorem OX: ∀(xs:List At) (l:List Nat),fit l xs→out l xs=[]→ ∀x∈xs,∃c,x= .C c
 | [],l,_,_,x,hx=>by cases hx
 | .P c::xs,l,h,e,x,hx=>by cases e
 | .K::xs,[],h,_,_,_=>h.elim
 | .K::xs,a::l,h,e,x,hx=>by cases e
 | .C c::xs,[],h,_,_,_=>h.elim
 | .C c::xs,a::l,h,e,x,hx=>by
  rcases List.mem_cons.mp hx with rfl | hx
  ·exact⟨c,rfl⟩
  ·exact OX xs l h.2 e x hx
end L2.B
namespace L2
open PySem PySem.Spec PyProof.Rows
section
variable {Γ:aG} {D:Ends} {σ:St} {H:Hp} {r:List RS} {Q:VK} {QA:List V→Hp→Prop} {QT:Bool→Hp→Prop}
theorem OY{j:Nat}{m:Str}{o:RE}(C:Addr)(sp:Sp)(hm:Γ.ms j=(C,sp))(h:ag Γ o σ H fun x H1=> ∃a dx fs,x= .ref a∧H1 a=some (.ins C dx fs)∧fs.lookup m=none∧sp [x] H1 Q Γ.E):ag Γ (.eV j m o []) σ H Q:=by
 show qt (Γ.ms j).1 m (Γ.ms j).2 [] Γ.E (ag Γ o) (bK Γ []) σ H Q
 rw[hm];exact h
theorem afQ{j:Nat}{m:Str}{o a:RE}(C:Addr)(sp:Sp)(hm:Γ.ms j=(C,sp))(h:ag Γ o σ H fun x H1=> ∃p dx fs,x= .ref p∧H1 p=some (.ins C dx fs)∧fs.lookup m=none∧ag Γ a σ H1 fun y H2=>sp [x,y] H2 Q Γ.E):ag Γ (.eV j m o [a]) σ H Q:=by
 show qt (Γ.ms j).1 m (Γ.ms j).2 [] Γ.E (ag Γ o) (bK Γ [a]) σ H Q
 rw[hm];exact h
theorem OZ{j:Nat}{a:RE}(C:Addr)(sp:Sp)(hm:Γ.kt j=(C,sp))(h:ag Γ a σ H fun y H1=> ∀x dx,H1 x=none→H1 dx=none→dx≠x→sp [.ref x,y] (upd (upd H1 dx (.own x)) x (.ins C dx [])) (fun v H2=>v= .aq∧Q (.ref x) H2) Γ.E):ag Γ (.make j [a]) σ H Q:=by
 show zI (Γ.kt j).1 (Γ.kt j).2 [] Γ.E (bK Γ [a]) σ H Q
 rw[hm];exact h
theorem De{c:RE}{body:List RS}(W:Nat→St→Hp→Prop)(h0: ∃m,W m σ H)
  (h: ∀m σ H,W m σ H→bD Γ c σ H fun b H1=>if b=true then ∃N:St→Hp→Prop,(∀σ' H',N σ' H'→ ∃m',m'<m∧W m' σ' H')∧ar Γ body {{D with nx:=ar Γ r D} with nx:=N,ct:=N,bk:=ar Γ r D} σ H1 else ar Γ r D σ H1):ar Γ (.tG c body::r) D σ H:=⟨W,h0,h⟩
theorem d_{c:RE}{t e:List RS}(h:bD Γ c σ H fun b H1=>if b=true then ar Γ t {D with nx:=ar Γ r D} σ H1 else ar Γ e {D with nx:=ar Γ r D} σ H1):ar Γ (.ite c t e::r) D σ H:=h
theorem dP{op:CmpOp}{a b:RE}(h:ag Γ a σ H fun x H1=>ag Γ b σ H1 fun y H2=>dz Γ.K op x y H2 fun z H3=> ∃k,z= .bl k∧QT k H3):bD Γ (.cmp op a b) σ H QT:=h
theorem gF{m:gP}{o a:RE}(h:ag Γ o σ H fun x H1=>sN Γ.K (wV m) x H1∧ag Γ a σ H1 fun y H2=>tH Γ.K m x [y] H2 Q):ag Γ (.bJ m o [a]) σ H Q:=h
theorem iV{K:PySem.W.Frag}{x y:Str}{Q:VK}(q:Q (.bl (x==y)) H):dz K .Eq (.str x) (.str y) H Q:=by
 show Q (.bl (false ^^ decide (V.str x=V.str y))) H
 rw[Bool.false_xor,fL];exact q
theorem yG{K:PySem.W.Frag}{x y:Str}{Q:VK}(q:Q (.bl (x !=y)) H):dz K .NotEq (.str x) (.str y) H Q:=by
 show Q (.bl (true ^^ decide (V.str x=V.str y))) H
 rw[Bool.true_xor,fL];exact q
end
end L2
namespace L2.B
open PySem PySem.Spec PyProof.Rows
theorem cj.ob{C:Addr}{H:Hp}{w L:Addr}{rs:List Pt}(h:cj C H w L rs): ∃(dx:Addr) (i o:Int),H w=some (.ins C dx (wf L i o)):=by
 obtain⟨dx,xs,ps,i,o,h1,_⟩:=h
 exact⟨dx,i,o,h1⟩
theorem Df{L:Addr}{i o:Int}:(wf L i o).lookup ("word":Str)=none∧(wf L i o).lookup ("left":Str)=none∧(wf L i o).lookup ("take":Str)=none:=
 ⟨yD (by decide+kernel) (by decide+kernel) (by decide+kernel),yD (by decide+kernel) (by decide+kernel) (by decide+kernel),yD (by decide+kernel) (by decide+kernel) (by decide+kernel)⟩
def lQ:Sp:=fun vs H Q E=> ∃(v:V) (p:Pt) (u:Str),vs=[v, .str u]∧gA H v p∧((∃n,p= .keep n∧ ∀c t H',ax H H'→H c=none→H' c=some (.lst [.ref t])→H' t=some (.tup [.str "cut", .str u])→Q (.ref c) H')∨
 (p= .put u∧ ∀c H',ax H H'→H c=none→H' c=some (.lst [])→Q (.ref c) H'))
theorem afR{K:PySem.W.Frag}{et:List (Str×Addr)}(vs:List V)(H:Hp)(Q:VK)(E:XK)(h:lQ vs H Q E):ar (aQ K [] [] (et:=et) (E:=E)) uq (Dn Q) (start xG vs) H:=by
 obtain⟨v,p,u,rfl,⟨a,rfl,ha⟩,⟨n,rfl,q⟩ | ⟨rfl,q⟩⟩:=h
 ·refine⟨_,rfl, .inr (.inl ⟨_,_,_,_,rfl,rfl,aF.of ha,rfl,_,rfl, ?_⟩)⟩
  refine⟨_,rfl,(by show 2≤sizeLine;decide),fun t ht=> ⟨(by show 1≤sizeLine;decide),fun c hc=> ?_⟩⟩
  have s1:=sameNew (o:= .tup [V.str "cut",V.str u]) ht
  have s2:=sameNew (o:= .lst [V.ref t]) hc
  exact q c t _ (s1.trans s2) (s1.free hc) ay (s2 _ _ ay)
 ·refine⟨_,rfl, .inr (.inl ⟨_,_,_,_,rfl,rfl,aF.of ha,rfl,_,rfl, ?_⟩)⟩
  refine⟨_,rfl, .inr (.inl ⟨_,_,_,_,rfl,rfl,aF.of ha,rfl,_,rfl,_,rfl, ?_⟩)⟩
  rw[Bool.true_xor,decide_eq_true (show(Pt.put u).val=V.str u from rfl)]
  exact⟨Nat.zero_le _,fun c hc=>q c _ (sameNew hc) hc ay⟩
section
variable {Γ:aG} {σ:St} {H:Hp} {Q:VK} {QT:Bool→Hp→Prop} {K:PySem.W.Frag}
theorem rL{sd:Addr→List (Key×V)→Prop}{a:Addr}{xs:List V}{i:Int}{v:V}(h:H a=some (.tup xs))(e:eS xs i=some v)(q:Q v H):n_ K sd (.ref a) (.int i) H Q:=
 .inr (.inl ⟨_,_,_,_,rfl,rfl,aF.of h,e,q⟩)
theorem cnI{x y:Int}(q:Q (.bl (!decide (x=y))) H):dz K .NotEq (.int x) (.int y) H Q:=by
 show Q (.bl (true ^^ decide (V.int x=V.int y))) H
 rw[Bool.true_xor,show decide (V.int x=V.int y)=decide (x=y) from decide_eq_decide.mpr ⟨fun z=>by injection z,fun z=>by rw[z]⟩];exact q
theorem afT{i j:Int}(h:Q (.int (i+j)) H):qw K .Add (.int i) (.int j) H Q:=h
theorem pick{its:List V}{j:Int}(h0:0≤j)(h1:j<its.length): ∃v∈its,eS its j=some v:=by
 have q_:j.toNat<its.length:=by omega
 refine⟨its[j.toNat],List.getElem_mem q_, ?_⟩
 have e:=kr (xs:=its) (j:=j.toNat) (v:=its[j.toNat]) (by simp[q_])
 rw[show((j.toNat:Nat):Int)=j by omega] at e
 exact e
end
theorem O0(p:Pt)(t:List Pt)(k:Nat):(dg p t k).length≤t.length+1:=by
 unfold dg;split<;>simp
theorem Dg{p:Pt}(t:List Pt){k:Nat}(hk:k≤aP p):ak (p::t)=ba (cg p k)++ak (dg p t k):=by
 unfold dg
 rw[dw,vh p k hk]
 split
 ·rename_i e
  have:ba (bE p k)=[]:=by
   have hz:=iS p k hk
   rw[e,Nat.sub_self] at hz
   cases p with
   | keep n=>
    have ia:(n - (k:Int)).toNat=0:=by rw[e];exact hz
    show rK (n - (k:Int)).toNat=[]
    rw[ia];rfl
   | put s=>
    rw[←e] at hz
    have ia:(⟨(s.cps.toList.drop k).toArray⟩:Str).length=0:=hz
    rw[iR] at ia
    show(s.cps.toList.drop k).map At.P=[]
    rw[List.length_eq_zero_iff.mp ia];rfl
   | cut s=>
    rw[←e] at hz
    have ia:(⟨(s.cps.toList.drop k).toArray⟩:Str).length=0:=hz
    rw[iR] at ia
    show(s.cps.toList.drop k).map At.C=[]
    rw[List.length_eq_zero_iff.mp ia];rfl
  rw[this,List.append_nil]
 ·rw[dw,List.append_assoc]
theorem rM(p:Pt):(ba p).length=aP p:=by
 cases p with
 | keep n=>show(rK n.toNat).length=_;unfold rK;rw[List.length_replicate];rfl
 | put s=>show(s.cps.toList.map At.P).length=_;rw[List.length_map,←len_list];rfl
 | cut s=>show(s.cps.toList.map At.C).length=_;rw[List.length_map,←len_list];rfl
theorem O1{p:Pt}(t:List Pt){k:Nat}(h1:1≤k)(hk:k≤aP p):(ak (dg p t k)).length< (ak (p::t)).length:=by
 rw[Dg t hk,List.length_append,rM,C9 p k hk]
 omega
theorem Dh{Γ:aG}{σ:St}{H:Hp}{Q:VK}{C w L:Addr}{rs:List Pt}{j i:Nat}(hm:Γ.ms j=(C,iu C))(hi:σ[i]?=some (some (.ref w)))(W:cj C H w L rs)(q:Q (.str (C_ rs)) H):ag Γ (.eV j "word" (.v i) []) σ H Q:=by
 obtain⟨dx,a,b,h1⟩:=W.ob
 exact OY C (iu C) hm (aA hi ⟨w,dx,_,rfl,h1,Df.1,w,L,rs,rfl,W,q⟩)
theorem vn{Γ:aG}{σ:St}{H:Hp}{Q:VK}{C w L:Addr}{p:Pt}{t:List Pt}{j i:Nat}(hm:Γ.ms j=(C,iU C))(hi:σ[i]?=some (some (.ref w)))(W:cj C H w L (p::t))(q:Q (.int (aP p:Int)) H):ag Γ (.eV j "left" (.v i) []) σ H Q:=by
 obtain⟨dx,a,b,h1⟩:=W.ob
 exact OY C (iU C) hm (aA hi ⟨w,dx,_,rfl,h1,Df.2.1,w,L,p,t,rfl,W,q⟩)
theorem vo{Γ:aG}{σ:St}{H:Hp}{Q:VK}{C w L:Addr}{p:Pt}{t:List Pt}{j i k:Nat}{a:RE}(hm:Γ.ms j=(C,iw C))(hi:σ[i]?=some (some (.ref w)))(W:cj C H w L (p::t))(h1:1≤k)(hk:k≤aP p)
  (ha: ∀Q':VK,Q' (.int (k:Int)) H→ag Γ a σ H Q') (q: ∀r H',aW w H H'→H' r=some (.tup [.str (cg p k).word,(cg p k).val])→H r=none→cj C H' w L (dg p t k)→Q (.ref r) H'):ag Γ (.eV j "take" (.v i) [a]) σ H Q:=by
 obtain⟨dx,x,b,h0⟩:=W.ob
 refine afQ C (iw C) hm (aA hi ⟨w,dx,_,rfl,h0,Df.2.2,ha _ ?_⟩)
 exact⟨w,L,p,t,k,rfl,W,h1,hk,q⟩
def rN(C:Addr):Sp:=fun vs H Q E=> ∃(w L:Addr) (v:V) (rs:List Pt) (part:Pt) (l:List Nat) (ys:List At),vs=[.ref w,v]∧cj C H w L rs∧gA H v part∧br part∧(∀s,part≠ .put s)∧rs.length≤100000∧fit l (ak rs)∧fit (out l (ak rs)) (ba part++ys)∧
 ∀(c:Addr) (H':Hp) (bc:List V) (res bO:List Pt) (l':List Nat) (zs:List At),aW w H H'→H c=none→H' c=some (.lst bc)→aM H' bc res→(∀p∈res,br p)→cj C H' w L bO→ak rs=zs++ak bO→cb zs (ba part) (ak res)→
  fit l' (ak bO)→fit (out l' (ak bO)) ys→res.length+bO.length≤rs.length+1→Q (.ref c) H'
theorem aW.yH{w:Addr}{H H':Hp}{C dx:Addr}{fs:List (Str×V)}(b:aW w H H')(h:H w=some (.ins C dx fs)):eY H H':=fun c xs e=>b c _ e (gM e h (by intro z;cases z))
theorem afU{s:Str}{k m:Nat}:cg (bE (.cut s) k) m= .cut ⟨((s.cps.toList.drop k).take m).toArray⟩:=rfl
theorem afV{K:PySem.W.Frag}{C:Addr}(vs:List V)(H:Hp)(Q:VK)(E:XK)(h:rN C vs H Q E):
  ar (aQ K [("part_size",gB),("cut_behind",lQ)] [] [] [("word",C,iu C),("take",C,iw C),("left",C,iU C)] (E:=E)) ur (Dn Q) (start xH vs) H:=by
 obtain⟨w,L,v,rs,part,l,ys,rfl,W,⟨pa,rfl,fG⟩,aw,iW,m6,hf1,hf2,q⟩:=h
 obtain⟨Di,afY⟩:=nk aw
 refine cx (gX (aV ⟨Nat.zero_le _,fun c hc=> ?_⟩))
 refine cx (aX ?_)
 have b0:aW w H (upd H c (.lst [])):=fun b o e _=>by rw[aI (bz e hc)];exact e
 obtain⟨dx0,i0,o0,vp⟩:=W.ob
 have j6:c≠w:=fun z=>by rw[z,vp] at hc;cases hc
 have j7:c≠L:=by
  obtain⟨_,_,_,_,_,_,hL,_⟩:=W
  exact(bz hL hc).symm
 refine De (fun m σ H'=> ∃(k:Nat) (u4 u5:Option V) (bc:List V) (res bO:List Pt) (l':List Nat) (zs:List At),m=(ak bO).length∧σ=[some (.ref w),some (.ref pa),some (.ref c),some (.int (k:Int)),u4,u5]∧aW w H H'∧H' c=some (.lst bc)∧aM H' bc res∧
   (∀p∈res,br p)∧cj C H' w L bO∧ak rs=zs++ak bO∧cb zs (ba (cg part k)) (ak res)∧k≤aP part∧fit l' (ak bO)∧fit (out l' (ak bO)) (ba (bE part k)++ys)∧res.length+bO.length≤rs.length+ (if k=aP part then 1 else 0))
  ⟨_,0,none,none,[],[],rs,l,[],rfl,rfl,b0,ay, .nil,(fun p hp=>by cases hp),W.same (sameNew hc),rfl, ?_,Nat.zero_le _,hf1,by rw[drop_zero];exact hf2,by simp⟩ ?_
 ·have e:ba (cg part 0)=[]:=List.length_eq_zero_iff.mp (by rw[rM,C9 part 0 (Nat.zero_le _)])
  rw[e];exact .nil
 rintro m σ H1 ⟨k,u4,u5,bc,res,bO,l',zs,rfl,rfl,b1,lR,gG,eO,W1,ez,fW,hk,p3,j8,hlen⟩
 have p9:H1 pa=some (.tup [.str part.word,part.val]):=b1 _ _ fG (gM fG vp (by intro z;cases z))
 have rm:=Paired.length gG
 have sz: ∀{σ:St} {Q1:VK},σ[1]?=some (some (.ref pa))→Q1 (.int (aP part:Int)) H1→ag (aQ K [("part_size",gB),("cut_behind",lQ)] [] [] [("word",C,iu C),("take",C,iw C),("left",C,iU C)] (E:=E)) (.call 0 [(.v 1)]) σ H1 Q1:=by
  intro σ Q1 h1 hq
  refine cf gB rfl (aC (aA h1 (aV ⟨_,part,rfl,⟨pa,rfl,p9⟩,uz aw, ?_⟩)))
  rw[Di];exact hq
 refine dP (aA rfl (sz rfl ⟨trivial,_,rfl, ?_⟩))
 by_cases yI:k<aP part
 ·refine iT ⟨_,fun σ' H' z=>z, ?_⟩ (decide_eq_true (by omega))
  have hod:=yB aw yI
  have kz:(if k=aP part then 1 else 0)=0:=if_neg (by omega)
  rw[kz] at hlen
  cases bO with
  | nil=>
   exfalso
   have e1:out l' (ak [])=[]:=rfl
   rw[e1] at j8
   have:=j5 _ _ j8
   rw[yF] at this
   have il:cE (ba (bE part k))=aP part - k:=by
    rw[←iS part k hk]
    cases part with
    | keep n=>exact OW _
    | put s=>exact absurd rfl (iW s)
    | cut s=>show cE ((s.cps.toList.drop k).map At.C)=_;rw[vm];show _=(⟨(s.cps.toList.drop k).toArray⟩:Str).length;rw[iR]
   simp only[List.length_nil] at this
   omega
  | cons p t=>
   have hp:=W1.ok p (.head _)
   obtain⟨O2,vq⟩:=nk hp
   refine d_ (dP (Dh (C:=C) rfl rfl W1 (aX (iV ⟨_,rfl, ?_⟩))))
   show if ((p.word:Str)=="cut")=true then _ else _
   have app: ∀(H2:Hp) (eZ:List V) (a:Addr) (pt:Pt),aW w H H2→H2 c=some (.lst eZ)→aM H2 eZ res→H2 a=some (.tup [.str pt.word,pt.val])→
     aW w H (upd H2 c (.lst (eZ++ [V.ref a])))∧aM (upd H2 c (.lst (eZ++ [V.ref a]))) (eZ++ [V.ref a]) (res++ [pt]):=by
    intro H2 eZ a pt bb cB lA yu
    have tt:eY H2 (upd H2 c (.lst (eZ++ [V.ref a]))):=aW.upd.da cB
    exact⟨fun b o e n=>by rw[aI (bz e hc)];exact bb b o e n,aM.snoc (lA.mono tt) ⟨a,rfl,tt _ _ yu⟩⟩
   have lS: ∀(H2:Hp) (eZ vv:List V) (p_:List Pt),H2 c=some (.lst eZ)→cj C H2 w L p_→cj C (upd H2 c (.lst vv)) w L p_:=fun H2 eZ vv p_ cB W2=>W2.but aW.upd cB j7
   by_cases dX:p.word="cut"
   ·
    rw[dX]
    obtain⟨s,rfl⟩: ∃s,p= .cut s:=by
     cases p with
     | keep n=>exact absurd (show(Str.ofString "keep")="cut" from dX) (by decide)
     | put s=>exact absurd (show(Str.ofString "put")="cut" from dX) (by decide)
     | cut s=>exact⟨s,rfl⟩
    have ta:cg (.cut s) (aP (.cut s))= .cut s:=take_all _ trivial
    have re:dg (.cut s) t (aP (.cut s))=t:=if_pos rfl
    refine gC (gF (aA rfl ⟨.inl ⟨rfl,_,aj.of lR⟩,vo (C:=C) (k:=aP (.cut s)) rfl rfl W1 vq (Nat.le_refl _) (fun Q' hq=>vn (C:=C) rfl rfl W1 hq) fun a H2 b2 ha nG W2=> ?_⟩))
    rw[ta] at ha
    rw[re] at W2
    have cB:H2 c=some (.lst bc):=b2 _ _ lR j6
    obtain⟨O3,i1,o1,rO⟩:=W1.ob
    have lA:aM H2 bc res:=gG.mono (b2.yH rO)
    obtain⟨bb,pp⟩:=app H2 bc a (.cut s) (b1.trans b2) cB lA ha
    refine⟨bc,cB,cU (by omega), ?_⟩
    rw[dw] at p3 j8 ez
    obtain⟨la,lb,rfl,f1,f2,f3⟩:=pZ _ _ p3
    have f0:out la (ba (.cut s))=[]:=by
     obtain⟨b,rfl⟩:=yn s.cps.toList la [] (by rw[List.append_nil];exact f1)
     have:=j5 _ _ f1
     have e1:cE (ba (.cut s))=s.cps.toList.length:=vm _
     rw[e1,List.length_append] at this
     have:b=[]:=List.length_eq_zero_iff.mp (by omega)
     subst this
     have:=ym s.cps.toList [] []
     simp only[List.append_nil] at this
     rw[List.append_nil];exact this
    rw[f3,f0,List.nil_append] at j8
    refine⟨_, ?_,k,u4,u5,bc++ [V.ref a],res++ [.cut s],t,lb,zs++ba (.cut s),rfl,rfl,bb,ay,pp, ?_,lS H2 _ _ _ cB W2,by rw[ez,List.append_assoc], ?_,hk,f2,j8, ?_⟩
    ·rw[dw,List.length_append,rM];omega
    ·intro x hx
     rcases List.mem_append.mp hx with z | z
     ·exact eO x z
     ·rw[List.mem_singleton.mp z];exact hp
    ·have:=fW.app (Dd s.cps.toList)
     rw[List.append_nil] at this
     rw[gE,iO];exact this
    ·rw[kz];simp only[List.length_append,List.length_cons,List.length_nil] at hlen⊢;omega
   ·have cK:((p.word:Str)=="cut")=false:=beq_eq_false_iff_ne.mpr dX
    rw[cK]
    obtain⟨n,hn⟩: ∃n,n=min (aP p) (aP part - k):=⟨_,rfl⟩
    have dA:1≤n:=by omega
    have eR:n≤aP p:=by omega
    have O4:n≤aP part - k:=by omega
    have emin:(if ((aP part:Int) - (k:Int)) < (aP p:Int) then ((aP part:Int) - (k:Int)) else (aP p:Int))=(n:Int):=by
     split<;>omega
    refine cx (lI (aC (vn (C:=C) rfl rfl W1 (aC (e8 (sz rfl (aA rfl ⟨trivial,aV ?_⟩)))))))
    show ar _ _ _ ([some (.ref w),some (.ref pa),some (.ref c),some (.int (k:Int)),u4,u5].set 4 (some (V.int (if ((aP part:Int) - (k:Int)) < (aP p:Int) then ((aP part:Int) - (k:Int)) else (aP p:Int))))) H1
    rw[emin]
    refine cx (vo (C:=C) (k:=n) rfl rfl W1 dA eR (fun Q' hq=>aA rfl hq) fun a H2 b2 ha nG W2=> ?_)
    have cB:H2 c=some (.lst bc):=b2 _ _ lR j6
    obtain⟨O3,i1,o1,rO⟩:=W1.ob
    have lA:aM H2 bc res:=gG.mono (b2.yH rO)
    have vw:H2 pa=some (.tup [.str part.word,part.val]):=b2 _ _ p9 (gM p9 rO (by intro z;cases z))
    have iy:=b1.trans b2
    have af1:=OL hp dA eR
    have eA:=Dg t eR
    have eB:ba (bE part k)=ba (cg (bE part k) n)++ba (bE part (k+n)):=by
     rw[vh (bE part k) n (by rw[iS part k hk];omega),drop_drop]
    have eC:ba (cg part (k+n))=ba (cg part k)++ba (cg (bE part k) n):=by
     have h1:=vh part (k+n) (by omega)
     have h2:=vh part k hk
     rw[eB] at h2
     rw[h2,←List.append_assoc] at h1
     exact(List.append_inj_left' h1 rfl).symm
    rw[eA] at p3 j8 ez
    obtain⟨la,lb,rfl,f1,f2,f3⟩:=pZ _ _ p3
    rw[f3,eB,List.append_assoc] at j8
    have ogl:(out la (ba (cg p n))).length=n:=by
     rw[vj _ _ f1]
     cases p with
     | keep m=>exact afO n
     | put s=>show cC ((s.cps.toList.take n).map At.P)=n;rw[afP,List.length_take];have hh:n≤s.length:=eR;rw[len_list] at hh;omega
     | cut s=>exact absurd rfl dX
    have Dj:cE (ba (cg (bE part k) n))=n:=by
     have e:aP (cg (bE part k) n)=n:=C9 _ _ (by rw[iS part k hk];omega)
     cases part with
     | keep m=>exact OW n
     | put s=>exact absurd rfl (iW s)
     | cut s=>
      have e':(⟨((s.cps.toList.drop k).take n).toArray⟩:Str).length=n:=e
      rw[iR] at e'
      show cE (((s.cps.toList.drop k).take n).map At.C)=n
      rw[vm];exact e'
    obtain⟨g1,g2⟩:=afN j8 (by rw[ogl,Dj])
    have fin: ∀(H3:Hp) (e7:List V) (rP:List Pt),aW w H H3→H3 c=some (.lst e7)→aM H3 e7 rP→(∀x∈rP,br x)→cj C H3 w L (dg p t n)→cb (zs++ba (cg p n)) (ba (cg part (k+n))) (ak rP)→rP.length≤res.length+1→
      ∃m',m'< (ak (p::t)).length∧ ∃(k':Nat) (Dk Dl:Option V) (bc:List V) (res bO:List Pt) (l':List Nat) (zs:List At),m'=(ak bO).length∧[some (V.ref w),some (.ref pa),some (.ref c),some (.int ((k:Int)+ (n:Int))),some (.int (n:Int)),some (.ref a)]=[some (.ref w),some (.ref pa),some (.ref c),some (.int (k':Int)),Dk,Dl]∧aW w H H3∧H3 c=some (.lst bc)∧aM H3 bc res∧
      (∀p∈res,br p)∧cj C H3 w L bO∧ak rs=zs++ak bO∧cb zs (ba (cg part k')) (ak res)∧k'≤aP part∧fit l' (ak bO)∧fit (out l' (ak bO)) (ba (bE part k')++ys)∧res.length+bO.length≤rs.length+ (if k'=aP part then 1 else 0):=by
     intro H3 e7 rP b3 eL hp3 ho3 W3 pL hl3
     refine⟨_,O1 t dA eR,k+n,some (.int (n:Int)),some (.ref a),e7,rP,dg p t n,lb,zs++ba (cg p n),rfl,by rw[Int.natCast_add],b3,eL,hp3,ho3,W3,by rw[ez,List.append_assoc],pL,by omega,f2,g2, ?_⟩
     have r1:=O0 p t n
     simp only[List.length_cons] at hlen
     by_cases hz:n=aP p
     ·have r2:dg p t n=t:=if_pos hz
      rw[r2];split<;>omega
     ·rw[if_pos (show k+n=aP part by omega)];omega
    refine d_ (dP (dJ (aA rfl (aX (.inr (.inl ⟨_,_,_,_,rfl,rfl,aF.of vw,rfl,aX (iV ⟨_,rfl, ?_⟩)⟩))))))
    cases part with
    | put s=>exact absurd rfl (iW s)
    | keep m=>
     refine dZ ?_
     refine gC (gF (aA rfl ⟨.inl ⟨rfl,_,aj.of cB⟩,aA rfl ⟨bc,cB,cU (by omega), ?_⟩⟩))
     obtain⟨bb,pp⟩:=app H2 bc a (cg p n) iy cB lA ha
     refine cx (e8 (aA rfl (aA rfl ?_)))
     refine fin _ _ (res++ [cg p n]) bb ay pp ?_ (lS H2 _ _ _ cB W2) ?_ (by simp)
     ·intro x hx
      rcases List.mem_append.mp hx with z | z
      ·exact eO x z
      ·rw[List.mem_singleton.mp z];exact af1
     ·rw[eC,gE,iO]
      refine fW.app ?_
      show cb (ba (cg p n)) (rK ((n:Nat):Int).toNat) (ba (cg p n))
      rw[Int.toNat_natCast]
      cases p with
      | keep m'=>show cb (rK ((n:Nat):Int).toNat) (rK n) (rK ((n:Nat):Int).toNat);rw[Int.toNat_natCast];exact OS n
      | put s=>
       have:=OU (s.cps.toList.take n)
       rw[List.length_take] at this
       have hh:n≤s.length:=eR
       rw[len_list] at hh
       rw[show min n s.cps.toList.length=n by omega] at this
       exact this
      | cut s=>exact absurd rfl dX
    | cut s=>
     refine fN ?_
     have qq:H2 pa=some (.tup [.str "cut", .str s]):=vw
     refine gC (gF (aA rfl ⟨.inl ⟨rfl,_,aj.of cB⟩,cf lQ rfl (aC (aA rfl (aC ?_)))⟩))
     refine⟨_,rfl, .inr (.inl ⟨_,_,_,_,rfl,rfl,aF.of qq,rfl,_,rfl,_,rfl,_,rfl,_,rfl,_,rfl,bL aw.1.1, ?_⟩)⟩
     rw[yy k (n:Int) n rfl]
     generalize hu:((s.cps.toList.drop k).take n)=u at*
     have yJ:ba (cg (bE (.cut s) k) n)=u.map At.C:=by rw[←hu];rfl
     have rQ:u.length=n:=by rw[yJ,vm] at Dj;exact Dj
     rw[yJ] at g1
     refine⟨_,cg p n,⟨u.toArray⟩,rfl,⟨a,rfl,ha⟩, ?_⟩
     cases p with
     | cut s'=>exact absurd rfl dX
     | keep m=>
      refine .inl ⟨_,rfl,fun d tt H3 s3 hd qd yK=> ?_⟩
      have eL:=s3 _ _ cB
      refine⟨bc,[V.ref tt],eL,qd,bL (by simp;omega), ?_⟩
      obtain⟨bb,pp⟩:=app H3 bc tt (.cut ⟨u.toArray⟩) (fun b o e nn=>s3 b o (iy b o e nn)) eL (lA.mono (bf s3)) yK
      refine cx (e8 (aA rfl (aA rfl ?_)))
      refine fin _ _ (res++ [.cut ⟨u.toArray⟩]) bb ay pp ?_ (lS H3 _ _ _ eL (W2.same s3)) ?_ (by simp)
      ·intro x hx
       rcases List.mem_append.mp hx with z | z
       ·exact eO x z
       ·rw[List.mem_singleton.mp z]
        have:=OL (yB aw yI) dA (show n≤aP (bE (.cut s) k) by rw[iS _ k hk];omega)
        rw[afU,hu] at this
        exact this
      ·rw[eC,gE,iO,yJ]
       refine fW.app ?_
       show cb (rK ((n:Nat):Int).toNat) (u.map At.C) (u.map At.C)
       rw[Int.toNat_natCast,←rQ]
       exact OT u
     | put s'=>
      have eu:(s'.cps.toList.take n)=u:=by
       have f1':fit la ((s'.cps.toList.take n).map At.P++ []):=by rw[List.append_nil];exact f1
       have OI:la=[]:=(uT _ _ _).mp f1'
       subst OI
       have o1:out [] (ba (cg (.put s') n))=s'.cps.toList.take n:=by
        have:=yl (s'.cps.toList.take n) [] []
        rw[List.append_nil] at this
        exact this.trans (List.append_nil _)
       rw[o1] at g1
       obtain⟨b,e⟩:=yn u _ [] (by rw[List.append_nil];exact g1)
       have oh:=j5 _ _ g1
       rw[vm] at oh
       rw[e,List.length_append] at oh
       have:b=[]:=List.length_eq_zero_iff.mp (by omega)
       rw[this,List.append_nil] at e
       exact e
      refine .inr ⟨by show Pt.put ⟨(s'.cps.toList.take n).toArray⟩=_;rw[eu],fun d H3 s3 hd qd=> ?_⟩
      have eL:=s3 _ _ cB
      refine⟨bc,[],eL,qd,bL (by simp;omega), ?_⟩
      rw[List.append_nil]
      have tt:eY H3 (upd H3 c (.lst bc)):=aW.upd.da eL
      refine cx (e8 (aA rfl (aA rfl ?_)))
      refine fin _ _ res (fun b o e nn=>by rw[aI (bz e hc)];exact s3 b o (iy b o e nn)) ay ((lA.mono (bf s3)).mono tt) eO (lS H3 _ _ _ eL (W2.same s3)) ?_ (by omega)
      rw[eC,yJ]
      have:=fW.app (OV u)
      rw[List.append_nil] at this
      show cb (zs++ (s'.cps.toList.take n).map At.P) _ _
      rw[eu];exact this
 ·refine iF ?_ (decide_eq_false (by omega))
  have Dm:k=aP part:=by omega
  subst Dm
  rw[take_all part (uU aw)] at fW
  have e0:ba (bE part (aP part))=[]:=List.length_eq_zero_iff.mp (by rw[rM,iS part _ (Nat.le_refl _),Nat.sub_self])
  rw[e0,List.nil_append] at j8
  rw[if_pos rfl] at hlen
  exact lJ (aA rfl (q c H1 bc res bO l' zs b1 hc lR gG eO W1 ez fW p3 j8 hlen))
theorem af7(ps:List Pt):pF ps=overOf (yd ps):=by
 unfold pF overOf yd
 rw[List.filter_map,List.map_map]
 congr 1
 ·funext p;cases p<;>rfl
 ·congr 1
  funext p
  cases p with
  | keep n=>show(decide ((Str.ofString "keep")≠"cut"))=decide ((Str.ofString "keep")≠"put");decide
  | put n=>show(decide ((Str.ofString "put")≠"cut"))=decide ((Str.ofString "cut")≠"put");decide
  | cut n=>show(decide ((Str.ofString "cut")≠"cut"))=decide ((Str.ofString "put")≠"put");decide
theorem Run.gives{l r:List Nat}{ps:List Pt}(h:Run l ps r):(pF ps).sum=r.length:=by
 rw[af7];exact h.yc.over
theorem af8(p:Pt):cnt (ba p)=cZ p:=by
 cases p with
 | keep n=>
  show cnt (rK n.toNat)=0
  have: ∀m,cnt (rK m)=0:=fun m=>by
   induction m with
   | zero=>rfl
   | succ m ih=>exact ih
  exact this _
 | put s=>
  show cnt (s.cps.toList.map At.P)=s.length
  rw[len_list]
  induction s.cps.toList with
  | nil=>rfl
  | cons c t ih=>show cnt (t.map At.P)+1=_;rw[ih];rfl
 | cut s=>
  show cnt (s.cps.toList.map At.C)=s.length
  rw[len_list]
  induction s.cps.toList with
  | nil=>rfl
  | cons c t ih=>show cnt (t.map At.C)+1=_;rw[ih];rfl
theorem yL(ps:List Pt):cnt (ak ps)=aJ ps:=by
 induction ps with
 | nil=>rfl
 | cons p ps ih=>
  rw[dw,vk,af8,ih]
  simp[aJ]
theorem O5{ps:List Pt}{i:Nat}{p:Pt}(h:ps[i]?=some p):ak (ps.take (i+1))=ak (ps.take i)++ba p:=by
 rw[List.take_add_one,h,gE]
 simp[ak]
theorem drop_cons{ps:List Pt}{i:Nat}{p:Pt}(h:ps[i]?=some p):ps.drop i=p::ps.drop (i+1):=by
 have hi:i<ps.length:=(List.getElem?_eq_some_iff.mp h).1
 rw[List.drop_eq_getElem_cons hi]
 congr 1
 exact Option.some.inj ((List.getElem?_eq_getElem hi).symm.trans h)
structure nq (one other ps:List Pt) (l r:List Nat):Prop where
 ok: ∀p∈ps,br p
 ch:chainOk "" ps=true
 run:Run l ps r
 res:res 0 (ak ps)=sub (res 0 (ak one)) 0 (res 0 (ak other))
 len:ps.length≤3* (one.length+other.length)+2
 aJ:aJ ps≤aJ one+aJ other
 aN: ∃zs,cb (ak one) (ak other) zs∧nb (ak ps)=nb zs
def qe:Sp:=fun vs H Q E=> ∃(a b:Addr) (xs ys:List V) (one other:List Pt) (l m r:List Nat),vs=[.ref a, .ref b]∧H a=some (.lst xs)∧H b=some (.lst ys)∧aM H xs one∧aM H ys other∧(∀p∈one,br p)∧(∀p∈other,br p)∧chainOk "" one=true∧chainOk "" other=true∧
 one.length+other.length≤30000∧aJ one+aJ other≤100000∧Run l one m∧Run m other r∧
 ∀(c:Addr) (H':Hp) (zs:List V) (ps:List Pt),ax H H'→H c=none→H' c=some (.lst zs)→aM H' zs ps→nq one other ps l r→Q (.ref c) H'
theorem af9{one other res:List Pt}{l m r:List Nat}(h1:Run l one m)(h2:Run m other r)(ho: ∀p∈res,br p)(hl:res.length≤one.length+other.length)(ht:B.aJ one+B.aJ other≤100000)(h:cb (ak one) (ak other) (ak res)):nq one other (pH res) l r∧B.aJ res≤100000:=by
 have Dp:B.aJ res≤B.aJ one+B.aJ other:=by
  have:=h.cnt
  rw[yL,yL,yL] at this
  exact this
 have iX:=aem ho (by omega:B.aJ res≤100000)
 have heq:=CH res iX
 obtain⟨g1,g2,_⟩:=uI res iX (by omega)
 obtain⟨f1,f2⟩:=h1.fits
 obtain⟨f3,f4⟩:=h2.fits
 rw[←f2] at f3 f4
 obtain⟨e1,e2,e3⟩:=aeO h l 0 0 f1 f3
 have vx:=Od res fun p hp=>uU (ho p hp)
 have dB:Run l res r:=by
  have:=pR res l (fun p hp=>uU (ho p hp)) e1
  rw[e2,f4] at this
  exact this
 have hnl:=NP res
 refine⟨⟨by rw[heq];exact g2,by rw[heq];exact g1,by rw[heq];exact CN dB,by rw[N6 vx,e3],by omega,by rw[heq,yh res iX];exact Dp,_,h,vx⟩,by omega⟩
theorem aga{K:PySem.W.Frag}{C:Addr}{et:List (Str×Addr)}(T:oC K C)(vs:List V)(H:Hp)(Q:VK)(E:XK)(h:qe vs H Q E):
  ar (aQ K [("sizes",fF),("parts_behind",rN C),("neat",mZ)] [] [] [("word",C,iu C),("take",C,iw C),("left",C,iU C)] [("Walk",C,lP C)] (et:=et) (E:=E)) uu (Dn Q) (start xI vs) H:=by
 obtain⟨a,b,xs,ys,one,other,l,m,r,rfl,ha,hb,hX,bB,gQ,eo,gU,cB,hlen,vf,Dq,gZ,q⟩:=h
 have lx:=Paired.length hX
 have ly:=Paired.length bB
 obtain⟨f1,f2⟩:=Dq.fits
 obtain⟨f3,f4⟩:=gZ.fits
 rw[←f2] at f3
 refine d_ (dP (dJ (cf fF rfl (aC (aA rfl (aV ⟨a,xs,one,rfl,ha,hX,gQ,gU,by omega,fun t1 H1 s1 fV=> ?_⟩))))))
 refine aX (.inr (.inl ⟨_,_,_,_,rfl,rfl,aF.of fV,rfl, ?_⟩))
 refine dJ (cf fF rfl (aC (aA rfl (aV ⟨b,ys,other,rfl,s1 _ _ hb,bB.mono (bf s1),eo,cB,by omega,fun t2 H2 s2 jW=> ?_⟩))))
 refine aX (.inr (.inl ⟨_,_,_,_,rfl,rfl,aF.of jW,rfl, ?_⟩))
 show ∃k,V.bl (true ^^ decide (V.int (pF one).sum=V.int (overOf other).sum))=V.bl k∧_
 refine⟨_,rfl, ?_⟩
 rw[Dq.gives,gZ.over,decide_eq_true rfl]
 have g8:=s1.trans s2
 refine cx (OZ C (lP C) rfl (aA rfl fun w dx hw Dr cK=> ?_))
 have s3:ax H2 (upd (upd H2 dx (.own w)) w (.ins C dx [])):=fun b o e=>by rw[aI (bz e hw),aI (bz e Dr)];exact e
 have fX:=g8.trans s3
 refine⟨w,dx,a,xs,one,rfl,ay,fX _ _ ha,hX.mono (bf fX),gQ,by omega,fun L H3 hL hLw b3 W=> ⟨rfl, ?_⟩⟩
 have j9:ax H H3:=fun b o e=>b3 b o (fX b o e) (bz (g8 b o e) hw)
 have fw:H w=none:=g8.free hw
 refine cx (gX (aV ⟨Nat.zero_le _,fun c hc=> ?_⟩))
 have fc:H c=none:=j9.free hc
 have j7:c≠L:=by
  obtain⟨_,_,_,_,_,_,Ds,_⟩:=W
  exact(bz Ds hc).symm
 have j6:c≠w:=by
  obtain⟨_,_,_,hW⟩:=W.ob
  exact(bz hW hc).symm
 have vy: ∀{H4 H5:Hp},ax H H4→aW w H4 H5→ax H H5:=fun s b d o e=>b d o (s d o e) (bz e fw)
 have rR: ∀{H4:Hp} {o:HO},ax H H4→ax H (upd H4 c o):=fun s d o e=>by rw[aI (bz e fc)];exact s d o e
 refine⟨_,rfl,b,rfl,⟨_,aj.of ((sameNew (o:= .lst []) hc) _ _ (j9 _ _ hb))⟩,iG (K:=K) (a:=b) (xs:=ys) (fun i σ H4=> ∃(u:Option V) (bZ:List V) (res rs:List Pt) (l':List Nat) (zs:List At),σ=[some (.ref a),some (.ref b),some (.ref w),some (.ref c),u]∧ax H H4∧H4 c=some (.lst bZ)∧
   aM H4 bZ res∧(∀p∈res,br p)∧cj C H4 w L rs∧ak one=zs++ak rs∧cb zs (ak (other.take i)) (ak res)∧fit l' (ak rs)∧fit (out l' (ak rs)) (ak (other.drop i))∧res.length+rs.length≤one.length+i)
  ⟨none,[],[],one,l,[],rfl,j9.trans (sameNew hc),ay, .nil,(fun p hp=>by cases hp),W.same (sameNew hc),rfl, .nil,f1,f3,by simp⟩
  (fun i σ H4 _ ⟨_,_,_,_,_,_,_,s4,_⟩=>aj.of (s4 _ _ hb)) ?_ ?_⟩
 ·rintro i y σ H4 hi ⟨u,bZ,res,rs,l',zs,rfl,s4,eM,gG,eO,W4,ez,fW,fa,fb,yM⟩
  obtain⟨p,hp,eJ⟩:=bB.get hi
  obtain⟨pa,rfl,fG⟩:=eJ.mono (bf s4)
  have cR:i<other.length:=(List.getElem?_eq_some_iff.mp hp).1
  have lT:=eo p (List.mem_of_getElem? hp)
  have x_:=Paired.length gG
  rw[drop_cons hp,dw] at fb
  refine d_ (dP (dJ (aA rfl (aX (.inr (.inl ⟨_,_,_,_,rfl,rfl,aF.of fG,rfl,aX (iV ⟨_,rfl, ?_⟩)⟩))))))
  have rest:(∀s,p≠ .put s)→ar (aQ K [("sizes",fF),("parts_behind",rN C),("neat",mZ)] [] [] [("word",C,iu C),("take",C,iw C),("left",C,iU C)] [("Walk",C,lP C)] (et:=et) (E:=E)) [.drop (.bJ .extend (.v 3) [(.call 1 [(.v 2),(.v 4)])])]
    {nx:=fun σ H4=> ∃(u:Option V) (bZ:List V) (res rs:List Pt) (l':List Nat) (zs:List At),σ=[some (.ref a),some (.ref b),some (.ref w),some (.ref c),u]∧ax H H4∧H4 c=some (.lst bZ)∧
   aM H4 bZ res∧(∀p∈res,br p)∧cj C H4 w L rs∧ak one=zs++ak rs∧cb zs (ak (other.take (i+1))) (ak res)∧fit l' (ak rs)∧fit (out l' (ak rs)) (ak (other.drop (i+1)))∧res.length+rs.length≤one.length+ (i+1),rt:=Q} [some (.ref a),some (.ref b),some (.ref w),some (.ref c),some (.ref pa)] H4:=by
   intro iW
   refine gC (gF (aA rfl ⟨.inl ⟨rfl,_,aj.of eM⟩,cf (rN C) rfl (aC (aA rfl (aC (aA rfl (aV ?_)))))⟩))
   refine⟨w,L,_,rs,p,l',_,rfl,W4,⟨pa,rfl,fG⟩,lT,iW,by omega,fa,fb,fun d H5 pX agc Dt l5 zs5 b5 hd Du O6 age W5 ez5 ht5 fa5 fb5 vz=> ?_⟩
   have iL:H5 c=some (.lst bZ):=b5 _ _ eM j6
   obtain⟨_,_,_,hW4⟩:=W4.ob
   have aod:=Paired.length O6
   refine⟨bZ,pX,iL,Du,bL (by omega), ?_⟩
   have tt:eY H5 (upd H5 c (.lst (bZ++pX))):=aW.upd.da iL
   refine⟨some (.ref pa),bZ++pX,res++agc,Dt,l5,zs++zs5,rfl,rR (vy s4 b5),ay,Paired.app ((gG.mono (b5.yH hW4)).mono tt) (O6.mono tt), ?_,W5.but aW.upd iL j7,by rw[ez,ez5,List.append_assoc], ?_,fa5,fb5, ?_⟩
   ·intro x hx
    rcases List.mem_append.mp hx with z | z
    ·exact eO x z
    ·exact age x z
   ·rw[O5 hp,gE];exact fW.app ht5
   ·simp only[List.length_append];omega
  cases p with
  | put s=>
   refine dZ ?_
   refine gC (gF (aA rfl ⟨.inl ⟨rfl,_,aj.of eM⟩,aA rfl ⟨bZ,eM,cU (by omega), ?_⟩⟩))
   have tt:eY H4 (upd H4 c (.lst (bZ++ [V.ref pa]))):=aW.upd.da eM
   refine⟨some (.ref pa),bZ++ [V.ref pa],res++ [.put s],rs,l',zs,rfl,rR s4,ay,aM.snoc (gG.mono tt) ⟨pa,rfl,tt _ _ fG⟩, ?_,W4.but aW.upd eM j7,ez, ?_,fa,(uT _ _ _).mp fb,by simp;omega⟩
   ·intro x hx
    rcases List.mem_append.mp hx with z | z
    ·exact eO x z
    ·rw[List.mem_singleton.mp z];exact lT
   ·rw[O5 hp,gE,iO]
    have:=fW.app (OR s.cps.toList)
    rw[List.append_nil] at this
    exact this
  | keep n=>exact fN (rest fun s z=>by cases z)
  | cut s=>exact fN (rest fun s z=>by cases z)
 ·rintro σ H4 ⟨u,bZ,res,rs,l',zs,rfl,s4,eM,gG,eO,W4,ez,fW,fa,fb,yM⟩
  rw[ly,List.take_length] at fW
  rw[ly,List.drop_length] at fb
  have oe:out l' (ak rs)=[]:=fb
  refine De (fun mm σ H5=> ∃(bZ:List V) (res rs:List Pt) (l':List Nat) (zs:List At),mm=rs.length∧σ=[some (.ref a),some (.ref b),some (.ref w),some (.ref c),u]∧ax H H5∧H5 c=some (.lst bZ)∧
   aM H5 bZ res∧(∀p∈res,br p)∧cj C H5 w L rs∧ak one=zs++ak rs∧cb zs (ak other) (ak res)∧fit l' (ak rs)∧out l' (ak rs)=[]∧res.length+rs.length≤one.length+other.length)
   ⟨_,bZ,res,rs,l',zs,rfl,rfl,s4,eM,gG,eO,W4,ez,fW,fa,oe,by omega⟩ ?_
  clear fW fa oe fb ez W4 gG eO eM s4 yM res rs l' zs bZ H4
  rintro mm σ H5 ⟨bZ,res,rs,l',zs,rfl,rfl,s5,iL,gG,eO,W5,ez,fW,fa,oe,vz⟩
  have x_:=Paired.length gG
  refine dP (Dh (C:=C) rfl rfl W5 (aX (yG ⟨_,rfl, ?_⟩)))
  cases rs with
  | nil=>
   refine iF ?_ rfl
   rw[show ak []=[] from rfl,List.append_nil] at ez
   subst ez
   obtain⟨J,Dp⟩:=af9 Dq gZ eO (by simp at vz;omega) vf fW
   refine lJ (cf mZ rfl (aC (aA rfl (aV ⟨c,bZ,res,rfl,iL,gG,by simp at vz;omega,Dp,fun d H6 ws s6 hd h6 hw6=> ?_⟩))))
   exact q d H6 ws _ (s5.trans s6) (s5.free hd) h6 hw6 J
  | cons p t=>
   have lT:=W5.ok p (.head _)
   obtain⟨O2,vq⟩:=nk lT
   have dX: ∃s,p= .cut s:=by
    have mG:=OX _ _ fa oe
    cases p with
    | cut s=>exact⟨s,rfl⟩
    | keep n=>
     exfalso
     have dA:(1:Int)≤n:=lT
     obtain⟨c',e⟩:=mG .K (by rw[dw];refine List.mem_append_left _ ?_;show At.K∈rK n.toNat;unfold rK;rw[List.mem_replicate];exact⟨by omega,rfl⟩)
     cases e
    | put s=>
     exfalso
     obtain⟨c0,r0,e0⟩:=ik lT.2
     obtain⟨c',e⟩:=mG (.P c0) (by rw[dw];refine List.mem_append_left _ ?_;show At.P c0∈s.cps.toList.map At.P;rw[e0];exact .head _)
     cases e
   obtain⟨s,rfl⟩:=dX
   have ta:cg (.cut s) (aP (.cut s))= .cut s:=take_all _ trivial
   have re:dg (.cut s) t (aP (.cut s))=t:=if_pos rfl
   refine iT ⟨_,fun σ' H' z=>z, ?_⟩ rfl
   refine gC (gF (aA rfl ⟨.inl ⟨rfl,_,aj.of iL⟩,vo (C:=C) (k:=aP (.cut s)) rfl rfl W5 vq (Nat.le_refl _) (fun Q' hq=>vn (C:=C) rfl rfl W5 hq) fun pa H6 b6 fG nG W6=> ?_⟩))
   rw[ta] at fG
   rw[re] at W6
   have uD:H6 c=some (.lst bZ):=b6 _ _ iL j6
   obtain⟨_,_,_,hW5⟩:=W5.ob
   simp only[List.length_cons] at vz
   refine⟨bZ,uD,cU (by omega), ?_⟩
   have tt:eY H6 (upd H6 c (.lst (bZ++ [V.ref pa]))):=aW.upd.da uD
   rw[dw] at fa oe ez
   obtain⟨la,lb,rfl,g1,g2,g3⟩:=pZ _ _ fa
   rw[g3] at oe
   refine⟨t.length,by simp,bZ++ [V.ref pa],res++ [.cut s],t,lb,zs++ba (.cut s),rfl,rfl,rR (vy s5 b6),ay,aM.snoc ((gG.mono (b6.yH hW5)).mono tt) ⟨pa,rfl,tt _ _ fG⟩, ?_,W6.but aW.upd uD j7,by rw[ez,List.append_assoc], ?_,g2,(List.append_eq_nil_iff.mp oe).2,by simp;omega⟩
   ·intro x hx
    rcases List.mem_append.mp hx with z | z
    ·exact eO x z
    ·rw[List.mem_singleton.mp z];exact lT
   ·rw[gE,iO]
    have:=fW.app (Dd s.cps.toList)
    rw[List.append_nil] at this
    exact this
end L2.B
namespace L2
open PySem PySem.Spec PyProof.Rows
end L2
namespace L2.B
open PySem PySem.Spec PyProof.Rows
end L2.B
namespace L2.B
end L2.B
namespace L2.B
open PySem PySem.Spec PyProof.Rows
abbrev agm:List (Str×Sp):=[("_law_whole",xJ)]
def nr:Sp:=fun vs H Q E=> ∃a b xs ys ps,vs=[.ref a, .ref b]∧H a=some (.lst xs)∧H b=some (.lst ys)∧aM H xs ps∧aM H ys ps∧ ∀H',ax H H'→Q (.bl true) H'
theorem agn{K:PySem.W.Frag}{a b:Addr}{xs ys:List V}{g:TG}{tb:TS}{D:Ends}{σ:St}{H:Hp}(hl:xs.length=ys.length)(Pv:Nat→St→Hp→Prop)(h0:Pv 0 σ H)(ha: ∀i σ H,Pv i σ H→aj K H a xs∧aj K H b ys)
  (hs: ∀i x y σ H T,xs[i]?=some x→ys[i]?=some y→Pv i σ H→H T=none→g (.ref T) σ (upd H T (.tup [x,y])) fun σ2 H2=>tb {D with nx:=Pv (i+1),ct:=Pv (i+1),bk:=D.nx} σ2 H2) (hd: ∀σ H,Pv xs.length σ H→D.nx σ H):
  ∃W:Nat→Nat→St→Hp→Prop,(∃m,W 0 m σ H)∧ ∀i m σ H,W i m σ H→
   ((tI K a b).stop i H∧D.nx σ H)∨((tI K a b).go i H∧ ∃N:St→Hp→Prop,(∀σ' H',N σ' H'→ ∃m',m'<m∧W (i+1) m' σ' H')∧ ∀x H',(tI K a b).i7 i H x H'→g x σ H' fun σ2 H2=>tb {D with nx:=N,ct:=N,bk:=D.nx} σ2 H2):=by
 refine⟨fun i m σ H=>m=xs.length - i∧i≤xs.length∧Pv i σ H,⟨xs.length,by simp,Nat.zero_le _,h0⟩, ?_⟩
 rintro i m σ H ⟨rfl,hi,p⟩
 obtain⟨q1,q2⟩:=ha i σ H p
 by_cases aS:i<xs.length
 ·have Dv:i<ys.length:=by omega
  refine .inr ⟨⟨xs,ys,q1,q2,aS,Dv⟩,Pv (i+1),fun σ' H' p'=> ⟨xs.length - (i+1),by omega,rfl,aS,p'⟩,fun x H' y=> ?_⟩
  obtain⟨T,hT,rfl,y⟩:=y
  have e:=y xs ys xs[i] ys[i] q1 q2 (by simp[aS]) (by simp[Dv])
  subst e
  exact hs i xs[i] ys[i] σ H T (by simp[aS]) (by simp[Dv]) p hT
 ·have e:i=xs.length:=by omega
  subst e
  exact .inl ⟨⟨xs,ys,q1,q2,by omega⟩,hd σ H p⟩
theorem ago{K:PySem.W.Frag}(vs:List V)(H:Hp)(Q:VK)(E:XK)(h:nr vs H Q E):ar (aQ K agm [] (E:=E)) BI {nx:=fun _ H'=>Q .aq H',rt:=Q} (start xD vs) H:=by
 obtain⟨a,b,xs,ys,ps,rfl,ha,hb,hX,bB,q⟩:=h
 have l1:=Paired.length hX
 have l2:=Paired.length bB
 refine⟨_,rfl,rfl,Co ha ⟨_,rfl, .inl ⟨_,aj.of ha,_,rfl, .inl ⟨_,aj.of hb,_,rfl, ?_⟩⟩⟩⟩
 show if (true ^^ decide (V.int (xs.length:Int)=V.int (ys.length:Int)))=true then _ else _
 rw[show(xs.length:Int)=(ys.length:Int) by omega,decide_eq_true rfl]
 refine⟨_,rfl,_,rfl,a,b,rfl,⟨_,aj.of ha⟩,⟨_,aj.of hb⟩,agn (K:=K) (a:=a) (b:=b) (xs:=xs) (ys:=ys) (by omega) (fun i σ H2=> ∃v w,σ=[some (.ref a),some (.ref b),v,w]∧ax H H2) ⟨none,none,rfl,ax.refl _⟩
  (fun i σ H2 ⟨_,_,_,s2⟩=> ⟨aj.of (s2 _ _ ha),aj.of (s2 _ _ hb)⟩) ?_ ?_⟩
 ·rintro i x y σ H2 T hx hy ⟨v,w,rfl,s2⟩ hT
  have s3:ax H (upd H2 T (.tup [x,y])):=s2.trans (sameNew hT)
  obtain⟨p,hp,x1,rfl,h1⟩:=hX.get hx
  obtain⟨p',qv,y1,rfl,h2⟩:=bB.get hy
  rw[hp] at qv
  cases qv
  have k1:=s3 _ _ h1
  have k2:=s3 _ _ h2
  refine⟨T,_,rfl, .inl (aF.of ay),rfl,_,_,rfl,_,_,rfl,rfl, ?_⟩
  generalize upd H2 T (.tup [.ref x1, .ref y1])=H3 at s3 k1 k2
  refine⟨_,rfl,rfl,Cn k1 ⟨_,rfl, .inr ⟨_,aF.of k1,_,rfl, ?_⟩⟩⟩
  refine⟨_,rfl, .inr (.inl ⟨_,_,_,_,rfl,rfl,aF.of k1,rfl,rfl, ?_⟩)⟩
  refine⟨_,rfl, .inr (.inl ⟨_,_,_,_,rfl,rfl,aF.of k1,rfl,_,rfl, .inr (.inl ⟨_,_,_,_,rfl,rfl,aF.of k2,rfl,_,rfl, ?_⟩)⟩)⟩
  rw[decide_eq_true rfl]
  refine⟨_,rfl, .inr (.inl ⟨_,_,_,_,rfl,rfl,aF.of k2,rfl,rfl, ?_⟩)⟩
  cases p with
  | keep n=>
   refine⟨_,rfl, .inr (.inl ⟨_,_,_,_,rfl,rfl,aF.of k1,rfl,rfl,_,rfl, ?_⟩)⟩
   refine⟨_,rfl, .inr (.inl ⟨_,_,_,_,rfl,rfl,aF.of k1,rfl,_,rfl, .inr (.inl ⟨_,_,_,_,rfl,rfl,aF.of k2,rfl,_,rfl, ?_⟩)⟩)⟩
   rw[decide_eq_true rfl]
   refine⟨_,rfl, .inr (.inl ⟨_,_,_,_,rfl,rfl,aF.of k2,rfl,rfl, ?_⟩)⟩
   refine⟨_,rfl, .inr (.inl ⟨_,_,_,_,rfl,rfl,aF.of k1,rfl,n,rfl, ?_⟩)⟩
   exact⟨_,_,rfl,s3⟩
  | put s=>
   refine⟨_,rfl, .inr (.inl ⟨_,_,_,_,rfl,rfl,aF.of k1,rfl,rfl,_,rfl, ?_⟩)⟩
   refine⟨_,rfl, .inr (.inl ⟨_,_,_,_,rfl,rfl,aF.of k1,rfl,_,rfl, .inr (.inl ⟨_,_,_,_,rfl,rfl,aF.of k2,rfl,_,rfl, ?_⟩)⟩)⟩
   rw[decide_eq_true rfl]
   refine⟨_,rfl, .inr (.inl ⟨_,_,_,_,rfl,rfl,aF.of k2,rfl,rfl, ?_⟩)⟩
   exact⟨_,_,rfl,s3⟩
  | cut s=>
   refine⟨_,rfl, .inr (.inl ⟨_,_,_,_,rfl,rfl,aF.of k1,rfl,rfl,_,rfl, ?_⟩)⟩
   refine⟨_,rfl, .inr (.inl ⟨_,_,_,_,rfl,rfl,aF.of k1,rfl,_,rfl, .inr (.inl ⟨_,_,_,_,rfl,rfl,aF.of k2,rfl,_,rfl, ?_⟩)⟩)⟩
   rw[decide_eq_true rfl]
   refine⟨_,rfl, .inr (.inl ⟨_,_,_,_,rfl,rfl,aF.of k2,rfl,rfl, ?_⟩)⟩
   exact⟨_,_,rfl,s3⟩
 ·rintro σ H2 ⟨v,w,rfl,s2⟩
  exact q H2 s2
structure jt (ps:List Pt) (l r:List Nat):Prop where
 ok: ∀p∈ps,br p
 ch:chainOk "" ps=true
 run:Run l ps r
theorem nq.chg{one other ps:List Pt}{l r:List Nat}(h:nq one other ps l r):jt ps l r:=⟨h.ok,h.ch,h.run⟩
theorem O7{ps qs:List Pt}{l r r':List Nat}(h:jt ps l r)(h':jt qs l r')(e:res 0 (ak ps)=res 0 (ak qs)):ps=qs:=ae0 h.ch h'.ch h.ok h'.ok h.run h'.run e
theorem O8{n:Nat}:ak (dv [.keep (n:Int)])=rK n∧(∀p∈dv [.keep (n:Int)],br p)∧chainOk "" (dv [.keep (n:Int)])=true∧(dv [.keep (n:Int)]).length≤1∧aJ (dv [.keep (n:Int)])=0:=by
 have hr: ∀p∈ [Pt.keep (n:Int)],dO p:=fun p hp=>by rw[List.mem_singleton.mp hp];show(0:Int)≤ (n:Int);omega
 have e:dv [.keep (n:Int)]=if n=0 then [] else [.keep (n:Int)]:=by
  have e1:dv [.keep (n:Int)]=txt .put ""++txt .cut ""++ (if ((0:Int)+ (n:Int))=0 then [] else [.keep ((0:Int)+ (n:Int))]):=by
   show cH [("","",(0:Int)+ (n:Int))]=_
   simp[cH,dF]
  rw[e1,txt_nil,txt_nil,Int.zero_add]
  by_cases h:n=0
  ·rw[if_pos h,if_pos (by omega)];rfl
  ·rw[if_neg h,if_neg (by omega)];rfl
 rw[e]
 by_cases h:n=0
 ·rw[if_pos h,h];exact⟨rfl,(fun p hp=>by cases hp),rfl,Nat.zero_le _,rfl⟩
 ·rw[if_neg h]
  refine⟨by rw[iO];show rK ((n:Int)).toNat=_;rw[Int.toNat_natCast],(fun p hp=> ?_), ?_,Nat.le_refl _,rfl⟩
  ·rw[List.mem_singleton.mp hp]
   show(1:Int)≤ (n:Int)
   omega
  ·show(iK "keep" "" && true)=true;decide
theorem agp{l:List Nat}:jt (dv [.keep (l.length:Int)]) l l:=by
 obtain⟨e,o,c,_,_⟩:=O8 (n:=l.length)
 refine⟨o,c, ?_⟩
 have hf:fit l (ak (dv [.keep (l.length:Int)])):=by
  rw[e]
  have:=(yj l [] []).mpr rfl
  rw[List.append_nil,List.append_nil] at this
  exact this
 have:=pR _ l (fun p hp=>uU (o p hp)) hf
 rw[e] at this
 have h2:=yk l [] []
 rw[List.append_nil,List.append_nil] at h2
 have h3:out [] ([]:List At)=[]:=rfl
 rw[h2,h3,List.append_nil] at this
 exact this
def cy(H:Hp)(b:Addr)(ps:List Pt)(l r:List Nat):Prop:= ∃xs,H b=some (.lst xs)∧aM H xs ps∧jt ps l r
theorem cy.same{H H':Hp}{b:Addr}{ps:List Pt}{l r:List Nat}(h:cy H b ps l r)(s:ax H H'):cy H' b ps l r:=by
 obtain⟨xs,h1,h2,h3⟩:=h
 exact⟨xs,s _ _ h1,h2.mono (bf s),h3⟩
theorem cy.chg{H:Hp}{b:Addr}{ps:List Pt}{l r:List Nat}(h:cy H b ps l r):jt ps l r:=by
 obtain⟨_,_,_,h⟩:=h;exact h
section
variable {H:Hp} {Q:VK} {E:XK}
theorem agq{a b:Addr}{one other:List Pt}{l m r:List Nat}(h1:cy H a one l m)(h2:cy H b other m r)(hl:one.length+other.length≤30000)(ht:aJ one+aJ other≤100000)
  (q: ∀(c:Addr) (H':Hp) (ps:List Pt),ax H H'→H c=none→cy H' c ps l r→nq one other ps l r→Q (.ref c) H'):qe [.ref a, .ref b] H Q E:=by
 obtain⟨xs,a1,a2,a3⟩:=h1
 obtain⟨ys,b1,b2,b3⟩:=h2
 exact⟨a,b,xs,ys,one,other,l,m,r,rfl,a1,b1,a2,b2,a3.ok,b3.ok,a3.ch,b3.ch,hl,ht,a3.run,b3.run,fun c H' zs ps s hc h3 h4 J=>q c H' ps s hc ⟨zs,h3,h4,J.chg⟩ J⟩
theorem agr{x:Str}{a:Addr}{ps:List Pt}{r:List Nat}(hx:good x)(h:cy H a ps x.cps.toList r)(hl:ps.length≤30000)(hr:r.length≤1000000)(q: ∀H',ax H H'→Q (.str ⟨r.toArray⟩) H'):rk [.str x, .ref a] H Q E:=by
 obtain⟨xs,a1,a2,a3⟩:=h
 exact⟨x,a,xs,ps,r,rfl,hx,a1,a2,a3.ok,a3.ch,by omega,a3.run,hr,q⟩
theorem O9{x:Str}{a:Addr}{ps:List Pt}{r:List Nat}(hx:good x)(h:cy H a ps x.cps.toList r)(hr:r.length≤1000000)(q:Q (.str ⟨r.toArray⟩) H):pY [.str x, .ref a] H Q E:=by
 obtain⟨xs,a1,a2,a3⟩:=h
 exact⟨x,a,xs,ps,r,rfl,hx,a1,a2,fun p hp=>uz (a3.ok p hp),a3.run,hr,q⟩
theorem Dw{c m:Int}{x:Str}(hx:good x)(hl:x.length≤10000)(h0:0≤m)(h1:m≤100)
  (q: ∀(b:Addr) (H':Hp) (ps:List Pt) (r:List Nat),ax H H'→H b=none→cy H' b ps x.cps.toList r→ps.length≤305→aJ ps≤4000→good ⟨r.toArray⟩→r.length≤x.length+4000→Q (.ref b) H'):nc [.int c, .str x, .int m] H Q E:=by
 refine⟨c,x,m,rfl,hx,hl,h0,h1,fun b H' ys ps r s hb h2 h3 ho hc eF ht hr=> ?_⟩
 have m6:=hr.len
 have:=len_list x
 exact q b H' ps r s hb ⟨ys,h2,h3,ho,hc,hr⟩ eF ht ⟨by rw[iR];omega,hr.good hx.2 fun p hp=>CM (ho p hp)⟩ (by omega)
theorem ags{b t:Addr}{l:List Nat}(h:H b=some (.lst [.ref t]))(ht:H t=some (.tup [.str "keep", .int (l.length:Int)]))(hl:l.length≤100000)
  (q: ∀(c:Addr) (H':Hp),ax H H'→H c=none→cy H' c (dv [.keep (l.length:Int)]) l l→Q (.ref c) H'):jm [.ref b] H Q E:=by
 refine⟨b,[.ref t],[.keep (l.length:Int)],rfl,h, .cons ⟨t,rfl,ht⟩ .nil,(by show 1≤100000;decide),(by show 0+0≤100000;decide),fun c H' ys s hc h2 h3=>q c H' s hc ⟨ys,h2,h3,agp⟩⟩
end
theorem agt{K:PySem.W.Frag}(vs:List V)(H:Hp)(Q:VK)(E:XK)(h:xJ vs H Q E):ar (aQ K [] [] (E:=E)) BM (Dn Q) (start BL vs) H:=by
 obtain⟨i,rfl,q⟩:=h
 exact⟨_,rfl,rfl,_,rfl,dZ ⟨_,rfl,rfl,q⟩⟩
end L2.B
namespace L2
open PySem PySem.Spec PyProof.Rows
end L2
namespace L2.B
open PySem PySem.Spec PyProof.Rows
section
variable {H:Hp} {Q:VK} {E:XK}
end
def gH(r:aE):List Key:=[.inr r.1, .inl (r.2.1:Int)]
def aK(r:aE):Str×Nat:=(r.1,r.2.1)
theorem O_{r s:aE}:gH r=gH s↔aK r=aK s:=by
 constructor
 ·intro h
  have h1:(Sum.inr r.1:Key)=Sum.inr s.1:=by have:=congrArg (fun l=>l[0]?) h;simpa[gH] using this
  have h2:(Sum.inl (r.2.1:Int):Key)=Sum.inl (s.2.1:Int):=by have:=congrArg (fun l=>l[1]?) h;simpa[gH] using this
  injection h1 with h1
  injection h2 with h2
  unfold aK
  rw[h1,show r.2.1=s.2.1 by omega]
 ·intro h
  have h1:r.1=s.1:=congrArg (fun p:Str×Nat=>p.1) h
  have h2:r.2.1=s.2.1:=congrArg (fun p:Str×Nat=>p.2) h
  unfold gH
  rw[h1,h2]
def idx(O:List aE)(r:aE):Option Nat:=O.findIdx? fun o=>decide (aK o=aK r)
def fY:Nat→List aE→List (List Key×V)
 | _,[]=> []
 | n,r::R=> (gH r, .int (n:Nat))::fY (n+1) R
theorem Pa: ∀(A B:List aE) (n:Nat),fY n (A++B)=fY n A++fY (n+A.length) B
 | [],B,n=>rfl
 | r::A,B,n=>by
  show _::fY (n+1) (A++B)=_::(fY (n+1) A++_)
  rw[Pa A B (n+1),List.length_cons,show n+1+A.length=n+ (A.length+1) by omega]
theorem Pb: ∀(A:List aE) (n:Nat),(fY n A).length=A.length
 | [],_=>rfl
 | _::A,n=>by show(fY (n+1) A).length+1=_;rw[Pb A (n+1)];rfl
theorem vA(r:aE): ∀(O:List aE) (n:Nat),eU (fY n O) (gH r)=(idx O r).map fun j=>V.int ((n+j:Nat):Int)
 | [],n=>rfl
 | o::O,n=>by
  unfold eU idx
  show((((gH o,V.int (n:Nat))::fY (n+1) O).find? fun kv=>decide (kv.1=gH r)).map (·.2))=_
  rw[List.find?_cons,List.findIdx?_cons]
  by_cases h:aK o=aK r
  ·rw[decide_eq_true (O_.mpr h),decide_eq_true h]
   rfl
  ·rw[decide_eq_false (fun z=>h (O_.mp z)),decide_eq_false h]
   have ih:=vA r O (n+1)
   unfold eU idx at ih
   simp only[ih]
   rw[if_neg (by simp)]
   cases List.findIdx? (fun o=>decide (aK o=aK r)) O with
   | none=>rfl
   | some j=>simp;omega
theorem rS{O:List aE}{r:aE}(h:aK r∉O.map aK):idx O r=none:=by
 unfold idx
 rw[List.findIdx?_eq_none_iff]
 intro o ho
 exact decide_eq_false fun z=>h (by rw[←z];exact List.mem_map_of_mem ho)
def aR(R:List aE):List Nat:=R.map (·.2.2)
def e_(O:List aE)(s:List Pt×Nat)(r:aE):List Pt×Nat:=match idx O r with
 | some j=> (s.1++ [.cut ⟨(aR ((O.drop s.2).take (j - s.2))).toArray⟩, .keep 1],j+1)
 | none=> (s.1++ [.put ⟨#[r.2.2]⟩],s.2)
def g_(O N:List aE):List Pt×Nat:=N.foldl (e_ O) ([],0)
def gI(O N:List aE):List Pt:=(g_ O N).1++ [.cut ⟨(aR (O.drop (g_ O N).2)).toArray⟩]
theorem agu(xs:List V)(i j:Nat):gO xs (some (i:Int)) (some (j:Int))=(xs.drop i).take (j - i):=by
 unfold gO
 rw[HT.kq,HT.kq]
 by_cases h:i≤xs.length
 ·by_cases h2:j≤xs.length
  ·rw[show min i xs.length=i by omega,show min j xs.length=j by omega]
  ·rw[show min i xs.length=i by omega,show min j xs.length=xs.length by omega,List.take_of_length_le (by rw[List.length_drop];omega),List.take_of_length_le (by rw[List.length_drop];omega)]
 ·rw[List.drop_of_length_le (by omega),List.drop_of_length_le (by omega),List.take_nil,List.take_nil]
theorem agv(xs:List V)(i:Nat):gO xs (some (i:Int)) none=xs.drop i:=by
 unfold gO
 rw[HT.kq]
 show(xs.drop (min i xs.length)).take (xs.length - min i xs.length)=_
 by_cases h:i≤xs.length
 ·rw[show min i xs.length=i by omega,List.take_of_length_le (by rw[List.length_drop];omega)]
 ·rw[show min i xs.length=xs.length by omega,List.drop_length,List.take_nil,List.drop_of_length_le (by omega)]
def ones(R:List aE):List Str:=(aR R).map fun c=> ⟨#[c]⟩
theorem Pc(R:List aE):cat (ones R)=⟨(aR R).toArray⟩:=by
 refine fU ?_
 rw[pG]
 show _=aR R
 unfold ones
 rw[List.map_map]
 induction aR R with
 | nil=>rfl
 | cons c l ih=>rw[List.map_cons,List.flatten_cons,ih];rfl
theorem agw(R:List aE):sz (ones R)=R.length:=by
 have e:=xO (ones R)
 rw[←e,Pc,len_list]
 show(aR R).length=_
 unfold aR;rw[List.length_map]
theorem Pd{Γ:aG}{σ:St}{H1:Hp}{Q:VK}{p:Addr}{xs:List V}{R:List aE}(hp:H1 p=some (.lst xs))(hR:bS H1 xs R)(hl:R.length≤100000)(q: ∀H',ax H1 H'→Q (.str ⟨(aR R).toArray⟩) H'):
  ∃W:Nat→Nat→List V→Hp→Prop,(∃m,W 0 m [] H1)∧ ∀i m ys H2,W i m ys H2→
   ((iE Γ.K p).stop i H2∧ ∀r,H2 r=none→tH Γ.K .join (.str "") [.ref r] (upd H2 r (.lst ys)) Q)∨
   ((iE Γ.K p).go i H2∧ ∀x H3,(iE Γ.K p).i7 i H2 x H3→nT Γ.K none x H3 fun zs=>nU none (zs.map some++dc σ []) H3 fun b H5=>
    if b=true then ag Γ.calm (.ix (.v 0) (.c (.int 1))) (zs.map some++dc σ []) H5 fun y H6=>ys.length<sizeLine∧ ∃m',m'<m∧W (i+1) m' (ys++ [y]) H6 else ∃m',m'<m∧W (i+1) m' ys H5):=by
 have lx:=Paired.length hR
 refine aeM (K:=Γ.K) (σ:=σ) (fv:=[]) (te:=ag Γ.calm (.ix (.v 0) (.c (.int 1)))) (QQ:=fun ys H2 r=>tH Γ.K .join (.str "") [.ref r] (upd H2 r (.lst ys)) Q) hp (by omega) (fun i ys H2=>H2=H1∧ys=(ones (R.take i)).map V.str) ⟨rfl,rfl⟩ ?_ ?_
 ·rintro i x ys H2 hx s2 ⟨rfl,rfl⟩ Q' hq
  obtain⟨r,hr,t,n,rfl,ht,_⟩:=hR.get hx
  refine dJ (aA rfl (aX (rL ht rfl (hq _ _ (ax.refl _) ⟨rfl, ?_⟩))))
  have e:R.take (i+1)=R.take i++ [r]:=by rw[List.take_add_one,hr];rfl
  rw[e]
  unfold ones aR
  rw[List.map_append,List.map_append,List.map_append];rfl
 ·rintro ys H2 r s2 ⟨rfl,rfl⟩ hr
  rw[lx,List.take_length]
  refine⟨ones R,aj.of ay,joinOk_of (by rw[agw];omega), ?_⟩
  have e:Txt.join "" (ones R)=⟨(aR R).toArray⟩:=Pc R
  rw[e]
  exact q _ (sameNew hr)
theorem agx{Γ:aG}{σ:St}{H:Hp}{Q:VK}{a d n:Addr}{ov:List V}{O:List aE}{k j:Nat}(h0:σ[0]?=some (some (.ref a)))(h5:σ[5]?=some (some (.int (k:Nat))))(h2:σ[2]?=some (some (.ref d)))(h6:σ[6]?=some (some (.ref n)))(hg:fO H d (.ref n) (some (V.int ((j:Nat):Int))))(ha:H a=some (.lst ov))(il:bS H ov O)(hl:O.length≤10000)
  (q: ∀H',ax H H'→Q (.str ⟨(aR ((O.drop k).take (j - k))).toArray⟩) H'):
  ag Γ (.bJ .join (.c (.str "")) [(.comp none [] .list [(.sl (.v 0) (some (.v 5)) (some (.tE (.v 2) (.v 6))))] none (.ix (.v 0) (.c (.int 1))))]) σ H Q:=by
 refine⟨rfl, ?_⟩
 refine⟨_,h0,_,h5,_,rfl,_,h2,_,h6,d,_,rfl,hg,_,rfl, .inl ⟨ov,aj.of ha,fun p1 f1=> ?_⟩⟩
 rw[agu]
 have z1:=sameNew (o:= .lst ((ov.drop k).take (j - k))) f1
 have hR:bS (upd H p1 (.lst ((ov.drop k).take (j - k)))) ((ov.drop k).take (j - k)) ((O.drop k).take (j - k)):=((il.drop k).take (j - k)).mono (bf z1)
 exact⟨p1,rfl,⟨_,aj.of ay⟩,Pd (Γ:=Γ) (σ:=σ) (Q:=Q) ay hR (by rw[List.length_take,List.length_drop];omega) fun H5 s5=>q _ (z1.trans s5)⟩
theorem agy{Γ:aG}{σ:St}{H:Hp}{Q:VK}{a:Addr}{ov:List V}{O:List aE}{k:Nat}(h0:σ[0]?=some (some (.ref a)))(h5:σ[5]?=some (some (.int (k:Nat))))(ha:H a=some (.lst ov))(il:bS H ov O)(hl:O.length≤10000)
  (q: ∀H',ax H H'→Q (.str ⟨(aR (O.drop k)).toArray⟩) H'):
  ag Γ (.bJ .join (.c (.str "")) [(.comp none [] .list [(.sl (.v 0) (some (.v 5)) none)] none (.ix (.v 0) (.c (.int 1))))]) σ H Q:=by
 refine⟨rfl, ?_⟩
 refine⟨_,h0,_,h5,_,rfl, .inl ⟨ov,aj.of ha,fun p1 f1=> ?_⟩⟩
 rw[agv]
 have z1:=sameNew (o:= .lst (ov.drop k)) f1
 have hR:bS (upd H p1 (.lst (ov.drop k))) (ov.drop k) (O.drop k):=(il.drop k).mono (bf z1)
 exact⟨p1,rfl,⟨_,aj.of ay⟩,Pd (Γ:=Γ) (σ:=σ) (Q:=Q) ay hR (by rw[List.length_drop];omega) fun H5 s5=>q _ (z1.trans s5)⟩
abbrev Dx:List (Str×Sp):=[("_law_neat",jm)]
def lU:Sp:=fun vs H Q E=> ∃(a b:Addr) (ov nv:List V) (O N:List aE),vs=[.ref a, .ref b]∧H a=some (.lst ov)∧bS H ov O∧H b=some (.lst nv)∧bS H nv N∧(O.map aK).Nodup∧O.length≤10000∧N.length≤10000∧aJ (gI O N)≤100000∧
 ∀(d:Addr) (H':Hp) (ys:List V),ax H H'→H d=none→H' d=some (.lst ys)→aM H' ys (dv (gI O N))→Q (.ref d) H'
theorem Dy(O:List aE): ∀(N:List aE) (s:List Pt×Nat),(N.foldl (e_ O) s).1.length≤s.1.length+2*N.length
 | [],s=>by simp
 | r::N,s=>by
  have ih:=Dy O N (e_ O s r)
  have e:(e_ O s r).1.length≤s.1.length+2:=by
   unfold e_
   cases idx O r<;>simp
  rw[List.foldl_cons,List.length_cons];omega
theorem agz{K:PySem.W.Frag}(vs:List V)(H:Hp)(Q:VK)(E:XK)(h:lU vs H Q E):ar (aQ K Dx [] (E:=E)) Cc (Dn Q) (start Cb vs) H:=by
 obtain⟨a,b,ov,nv,O,N,rfl,ha,il,hb,Pe,jG,qC,hnl,vf,q⟩:=h
 have lo:=Paired.length il
 have ln:=Paired.length Pe
 have fresh: ∀{d:Addr} {H9:Hp} (o:HO),H d=none→ax H H9→ax H (upd H9 d o):=fun {d H9} o hd s b o' e=>by rw[aI (bz e hd)];exact s b o' e
 refine cx ?_
 intro d hd
 have s0:=sameNew (o:= .dT []) hd
 refine⟨_,rfl, .inl ⟨ov,aj.of (s0 _ _ ha),(ov.length:Int),rfl,by omega,by omega,zB (lo:=0) (n:=ov.length) (fun i σ H2=> ∃u3:Option V,σ=[some (.ref a),some (.ref b),some (.ref d),u3,none,none,none,none]∧ax H H2∧H2 d=some (.dT (fY 0 (O.take i)))) ⟨none,rfl,s0,ay⟩ ?_ ?_⟩⟩
 ·rintro i σ H2 hi ⟨u3,rfl,s2,hd2⟩
  have Pf:i<O.length:=by omega
  have Dz:ov[i]?=some ov[i]:=List.getElem?_eq_getElem hi
  obtain⟨r,hr,t,n,et,ht,hn⟩:=il.get Dz
  rw[et] at Dz
  have qf:eS ov (0+ (i:Int))=some (.ref t):=by rw[show(0:Int)+ (i:Int)=((i:Nat):Int) by omega];exact kr Dz
  have e:O.take (i+1)=O.take i++ [r]:=by rw[List.take_add_one,hr];rfl
  have agA:eU (fY 0 (O.take i)) (gH r)=none:=by
   rw[vA,rS];rfl
   intro hm
   have gf:O.map aK=(O.take i).map aK++aK r::(O.drop (i+1)).map aK:=by
    rw[←List.map_cons,←List.map_append]
    congr 1
    conv=>lhs;rw[←List.take_append_drop i O,List.drop_eq_getElem_cons Pf]
    rw[Option.some.inj ((List.getElem?_eq_getElem Pf).symm.trans hr)]
   rw[gf,List.nodup_append] at jG
   exact jG.2.2 _ hm _ List.mem_cons_self rfl
  refine⟨_,rfl,_,rfl, ?_⟩
  refine dJ (Γ:=aQ K Dx [] (E:=E)) (dJ (aA rfl (aA rfl (.inl ⟨a,ov,_,_,rfl,rfl,aj.of (s2 _ _ ha),qf,aX (rL (s2 _ _ ht) rfl ?_)⟩))))
  refine⟨d,_,rfl,sU.t (k:=gH r) hd2 (s2 _ _ hn) (cU (by rw[Pb,List.length_take];omega)), ?_⟩
  refine⟨_,rfl,fresh _ hd s2, ?_⟩
  rw[ay,UA _ agA,e,Pa,List.length_take,show min i O.length=i by omega]
  show some (HO.dT (_++ [(gH r,V.int (0+ (i:Int)))]))=some (HO.dT (_++ [(gH r,V.int ((0+i:Nat):Int))]))
  rw[show(0:Int)+ (i:Int)=((0+i:Nat):Int) by omega]
 rintro σ H2 ⟨u3,rfl,s2,hd2⟩
 rw[lo,List.take_length] at hd2
 refine cx (gX (aV ⟨Nat.zero_le _,fun c hc=> ?_⟩))
 have s3:=sameNew (o:= .lst []) hc
 have j9:=s2.trans s3
 have fc:=s2.free hc
 have yN:d≠c:=fun z=>by rw[z] at hd2;rw[hd2] at hc;cases hc
 refine cx (aX ?_)
 refine⟨_,rfl,b,rfl,⟨_,aj.of (j9 _ _ hb)⟩,iG (K:=K) (a:=b) (xs:=nv) (fun i σ H4=> ∃(ys:List V) (u6 u7:Option V),σ=[some (.ref a),some (.ref b),some (.ref d),u3,some (.ref c),some (.int ((g_ O (N.take i)).2:Nat)),u6,u7]∧ax H H4∧H4 d=some (.dT (fY 0 O))∧H4 c=some (.lst ys)∧aM H4 ys (g_ O (N.take i)).1)
  ⟨[],none,none,rfl,j9,s3 _ _ hd2,ay, .nil⟩ (fun i σ H4 _ ⟨_,_,_,_,s4,_⟩=>aj.of (s4 _ _ hb)) ?_ ?_⟩
 ·rintro i y σ H4 hi ⟨ys,u6,u7,rfl,s4,kR,ju,bB⟩
  obtain⟨r,hr,t,n,rfl,ht,hn⟩:=Pe.get hi
  have w9:i<N.length:=(List.getElem?_eq_some_iff.mp hr).1
  have e:g_ O (N.take (i+1))=e_ O (g_ O (N.take i)) r:=by
   unfold g_
   rw[List.take_add_one,hr,List.foldl_append];rfl
  have DA:=Paired.length bB
  have DB:=Dy O (N.take i) ([],0)
  rw[List.length_take] at DB
  have Pg:(g_ O (N.take i)).1.length≤20000:=by
   have:(g_ O (N.take i)).1.length≤0+2*min i N.length:=DB
   omega
  generalize g_ O (N.take i)=st at bB e DA Pg⊢
  obtain⟨ps,k⟩:=st
  simp only at bB DA Pg
  refine⟨t,_,rfl, .inl (aF.of (s4 _ _ ht)),rfl,_,_,rfl,_,_,rfl,rfl, ?_⟩
  have hg:fO H4 d (.ref n) ((idx O r).map fun j=>V.int ((0+j:Nat):Int)):=by rw[←vA];exact fO.t kR (s4 _ _ hn)
  have T: ∀(H9:Hp) (zs bZ:List V),H9 c=some (.lst zs)→eY H9 (upd H9 c (.lst bZ)):=fun H9 zs bZ e b xs e'=>by
   rw[aI (fun z=>by rw[z,e] at e';cases e')];exact e'
  cases hx:idx O r with
  | none=>
   rw[hx] at hg
   refine d_ ?_
   refine⟨_,rfl,_,rfl,d,_,rfl,hg,_,rfl,iF ?_ rfl⟩
   refine gC (gF (aA rfl ⟨.inl ⟨rfl,_,aj.of ju⟩, ?_⟩))
   refine jq (aC (aX (aC (aA rfl (aV ⟨(by show 2≤sizeLine;decide),fun t1 f1=> ?_⟩)))))
   have z1:=sameNew (o:= .tup [V.str "put",V.str ⟨#[r.2.2]⟩]) f1
   refine⟨ys,z1 _ _ ju,cU (by omega), ?_⟩
   refine⟨ys++ [.ref t1],some (.ref n),some (.str ⟨#[r.2.2]⟩), ?_,fresh _ fc (s4.trans z1), ?_,ay, ?_⟩
   ·rw[e];unfold e_;rw[hx];rfl
   ·rw[aI yN];exact z1 _ _ kR
   ·rw[e];unfold e_;rw[hx]
    exact aM.snoc (p:= .put ⟨#[r.2.2]⟩) ((bB.mono (bf z1)).mono (T _ _ _ (z1 _ _ ju))) ⟨t1,rfl,T _ _ _ (z1 _ _ ju) _ _ ay⟩
  | some j=>
   rw[hx] at hg
   have q_:j<O.length:=by
    have:=List.findIdx?_eq_some_iff_getElem.mp hx
    exact this.1
   have hg': ∀{H9:Hp},ax H4 H9→fO H9 d (.ref n) (some (V.int ((j:Nat):Int))):=fun {H9} s=>by
    have h1:eU (fY 0 O) (gH r)=some (V.int ((j:Nat):Int)):=by rw[vA,hx];show some (V.int ((0+j:Nat):Int))=_;rw[Nat.zero_add]
    rw[←h1]
    exact fO.t (s _ _ kR) (s _ _ (s4 _ _ hn))
   refine d_ ?_
   refine⟨_,rfl,_,rfl,d,_,rfl,hg,_,rfl,iT ?_ rfl⟩
   refine gC (gF (aA rfl ⟨.inl ⟨rfl,_,aj.of ju⟩, ?_⟩))
   refine jq (aC (aX (aC (agx rfl rfl rfl rfl (hg' (ax.refl _)) (s4 _ _ ha) (il.mono (bf s4)) qC fun H5 s5=>aV ⟨(by show 2≤sizeLine;decide),fun t1 ft=> ?_⟩))))
   have z3:=sameNew (o:= .tup [V.str "cut",V.str ⟨(aR ((O.drop k).take (j - k))).toArray⟩]) ft
   have nt:=s5.trans z3
   refine⟨ys,nt _ _ ju,cU (by omega), ?_⟩
   have y1:=fresh (.lst (ys++ [V.ref t1])) fc (s4.trans nt)
   have Ph:=(bB.mono (bf nt)).mono (T _ _ (ys++ [V.ref t1]) (nt _ _ ju))
   have fV:=T _ _ (ys++ [V.ref t1]) (nt _ _ ju) _ _ (ay (a:=t1) (o:= .tup [V.str "cut",V.str ⟨(aR ((O.drop k).take (j - k))).toArray⟩]))
   have DC:upd (upd H5 t1 (.tup [V.str "cut",V.str ⟨(aR ((O.drop k).take (j - k))).toArray⟩])) c (.lst (ys++ [V.ref t1])) d=some (.dT (fY 0 O)):=by rw[aI yN];exact nt _ _ kR
   have Pj:upd (upd H5 t1 (.tup [V.str "cut",V.str ⟨(aR ((O.drop k).take (j - k))).toArray⟩])) c (.lst (ys++ [V.ref t1])) n=some (.tup [.str r.1, .int (r.2.1:Nat)]):=T _ _ _ (nt _ _ ju) _ _ (nt _ _ (s4 _ _ hn))
   have yO:upd (upd H5 t1 (.tup [V.str "cut",V.str ⟨(aR ((O.drop k).take (j - k))).toArray⟩])) c (.lst (ys++ [V.ref t1])) c=some (.lst (ys++ [V.ref t1])):=ay
   generalize upd (upd H5 t1 (.tup [V.str "cut",V.str ⟨(aR ((O.drop k).take (j - k))).toArray⟩])) c (.lst (ys++ [V.ref t1]))=H6 at y1 Ph fV DC Pj yO⊢
   refine gC (gF (aA rfl ⟨.inl ⟨rfl,_,aj.of yO⟩, ?_⟩))
   refine jq (aC (aX (aC (aX (aV ⟨(by show 2≤sizeLine;decide),fun t2 f2=> ?_⟩)))))
   have z4:=sameNew (o:= .tup [V.str "keep",V.int 1]) f2
   refine⟨_,z4 _ _ yO,cU (by rw[List.length_append];show ys.length+1≤1000000;omega), ?_⟩
   have T2:=T _ _ (ys++ [V.ref t1]++ [V.ref t2]) (z4 _ _ yO)
   have h1:eU (fY 0 O) (gH r)=some (V.int ((j:Nat):Int)):=by rw[vA,hx];show some (V.int ((0+j:Nat):Int))=_;rw[Nat.zero_add]
   have hg6:fO (upd (upd H6 t2 (.tup [V.str "keep",V.int 1])) c (.lst (ys++ [V.ref t1]++ [V.ref t2]))) d (.ref n) (some (V.int ((j:Nat):Int))):=by
    rw[←h1]
    exact fO.t (by rw[aI yN];exact z4 _ _ DC) (T2 _ _ (z4 _ _ Pj))
   refine cx (e8 ?_)
   refine⟨_,rfl,_,rfl,d,_,rfl,hg6,aX (Γ:=aQ K Dx [] (E:=E)) (afT ?_)⟩
   refine⟨ys++ [V.ref t1]++ [V.ref t2],some (.ref n),some (.str ⟨#[r.2.2]⟩), ?_,fresh _ fc (y1.trans z4), ?_,ay, ?_⟩
   ·rw[e];unfold e_;rw[hx];rfl
   ·rw[aI yN];exact z4 _ _ DC
   ·rw[e];unfold e_;rw[hx]
    have:=aM.snoc (p:= .keep 1) (aM.snoc (p:= .cut ⟨(aR ((O.drop k).take (j - k))).toArray⟩) ((Ph.mono (bf z4)).mono T2) ⟨t1,rfl,T2 _ _ (z4 _ _ fV)⟩) ⟨t2,rfl,T2 _ _ ay⟩
    rw[List.append_assoc] at this
    rw[List.append_assoc] at this
    rw[List.append_assoc]
    exact this
 ·rintro σ H4 ⟨ys,u6,u7,rfl,s4,kR,ju,bB⟩
  rw[ln,List.take_length] at bB
  rw[ln,List.take_length]
  have DA:=Paired.length bB
  have DB:(g_ O N).1.length≤0+2*N.length:=Dy O N ([],0)
  refine lJ (cf jm rfl (aC (e8 (aA rfl (gX (aC (jq (aC (aX (aC (agy rfl rfl (s4 _ _ ha) (il.mono (bf s4)) qC fun H5 s5=>aV ⟨(by show 2≤sizeLine;decide),fun t1 ft=>aV ⟨(by show 1≤sizeLine;decide),fun t2 f2=> ?_⟩⟩)))))))))))
  have z3:=sameNew (o:= .tup [V.str "cut",V.str ⟨(aR (O.drop (g_ O N).2)).toArray⟩]) ft
  have z4:=sameNew (o:= .lst [V.ref t1]) f2
  have DD:=(s5.trans z3).trans z4
  refine .inl ⟨c,t2,ys,[V.ref t1],rfl,rfl,DD _ _ ju,ay,bL (by show ys.length+1≤1000000;omega),fun p2 f3=> ?_⟩
  have z5:=sameNew (o:= .lst (ys++ [V.ref t1])) f3
  have s:=s4.trans (DD.trans z5)
  refine aV ?_
  refine⟨p2,_,gI O N,rfl,ay,aM.snoc (p:= .cut ⟨(aR (O.drop (g_ O N).2)).toArray⟩) (bB.mono (bf (DD.trans z5))) ⟨t1,rfl,z5 _ _ (z4 _ _ ay)⟩, ?_,vf,fun b' H' zs s' f' mI hz=> ?_⟩
  ·unfold gI;rw[List.length_append];show _+1≤100000;omega
  ·exact q b' H' zs (s.trans s') (s.free f') mI hz
end L2.B
namespace L2.B
inductive bx:List At→List At→Prop
 | here {c d xs ys}:c≠d→bx (.P c::xs) (.C d::ys)
 | p {c xs ys}:bx xs ys→bx xs (.P c::ys)
 | c {c xs ys}:bx xs ys→bx (.C c::xs) ys
 | kk {xs ys}:bx xs ys→bx (.K::xs) (.K::ys)
 | kc {c xs ys}:bx xs ys→bx (.K::xs) (.C c::ys)
 | pk {c xs ys}:bx xs ys→bx (.P c::xs) (.K::ys)
 | pc {c xs ys}:bx xs ys→bx (.P c::xs) (.C c::ys)
theorem agD{xs fj:List At}(h:bx xs fj): ∀{c:Nat} {ys:List At},fj= .P c::ys→bx xs ys:=by
 induction h with
 | here _=>intro c ys e;cases e
 | p h _=>intro c ys e;cases e;exact h
 | c _ ih=>intro c ys e;exact .c (ih e)
 | kk _ _=>intro c ys e;cases e
 | kc _ _=>intro c ys e;cases e
 | pk _ _=>intro c ys e;cases e
 | pc _ _=>intro c ys e;cases e
theorem agE{xs ys:List At}{c:Nat}(h:bx xs (.P c::ys)):bx xs ys:=agD h rfl
theorem agF{bc ys:List At}(h:bx bc ys): ∀{c:Nat} {xs:List At},bc= .C c::xs→bx xs ys:=by
 induction h with
 | here _=>intro c xs e;cases e
 | p _ ih=>intro c xs e;exact .p (ih e)
 | c h _=>intro c xs e;cases e;exact h
 | kk _ _=>intro c xs e;cases e
 | kc _ _=>intro c xs e;cases e
 | pk _ _=>intro c xs e;cases e
 | pc _ _=>intro c xs e;cases e
theorem agG{xs ys:List At}{c:Nat}(h:bx (.C c::xs) ys):bx xs ys:=agF h rfl
theorem Pk: ∀{ys:List At},¬bx [] ys
 | _, .p h=>Pk h
theorem Pl: ∀{xs:List At},¬bx xs []
 | _, .c h=>Pl h
theorem Pm{xs ys:List At}: ∀{s:List Nat},bx xs (s.map .P++ys)→bx xs ys
 | [],h=>h
 | _::s,h=>Pm (s:=s) (agE h)
theorem Pn{xs ys:List At}: ∀{s:List Nat},bx (s.map .C++xs) ys→bx xs ys
 | [],h=>h
 | _::s,h=>Pn (s:=s) (agG h)
theorem Po{xs ys:List At}: ∀{n:Nat},bx (rK n++xs) (rK n++ys)→bx xs ys
 | 0,h=>h
 | n+1,h=>by
  have h':bx (.K::(rK n++xs)) (.K::(rK n++ys)):=h
  cases h' with
  | kk h'=>exact Po h'
theorem Pp{xs ys:List At}: ∀{u:List Nat},bx (rK u.length++xs) (u.map .C++ys)→bx xs ys
 | [],h=>h
 | c::u,h=>by
  have h':bx (.K::(rK u.length++xs)) (.C c::(u.map .C++ys)):=h
  cases h' with
  | kc h'=>exact Pp h'
theorem Pq{xs ys:List At}: ∀{s:List Nat},bx (s.map .P++xs) (rK s.length++ys)→bx xs ys
 | [],h=>h
 | c::s,h=>by
  have h':bx (.P c::(s.map .P++xs)) (.K::(rK s.length++ys)):=h
  cases h' with
  | pk h'=>exact Pq h'
theorem Pr{xs ys:List At}: ∀{s u:List Nat},s.length=u.length→bx (s.map .P++xs) (u.map .C++ys)→s≠u∨bx xs ys
 | [],[],_,h=> .inr h
 | c::s,d::u,hl,h=>by
  have h':bx (.P c::(s.map .P++xs)) (.C d::(u.map .C++ys)):=h
  cases h' with
  | here ne=>exact .inl fun z=>ne (by injection z)
  | pc h'=>
   rcases Pr (by simpa using hl) h' with z | z
   ·exact .inl fun y=>z (by injection y)
   ·exact .inr z
end L2.B
namespace L2.B
open PySem PySem.Spec PyProof.Rows
def eP(O:List aE):Nat→List aE→List At
 | k,[]=> (aR (O.drop k)).map .C
 | k,r::N=>match idx O r with
  | some j=> (aR ((O.drop k).take (j - k))).map .C++ .K::eP O (j+1) N
  | none=> .P r.2.2::eP O k N
theorem Pu{O N:List aE}{r:aE}{k j:Nat}(h:idx O r=some j):eP O k (r::N)=(aR ((O.drop k).take (j - k))).map .C++ .K::eP O (j+1) N:=by
 conv=>lhs;unfold eP;rw[h]
theorem Pw{O N:List aE}{r:aE}{k:Nat}(h:idx O r=none):eP O k (r::N)= .P r.2.2::eP O k N:=by
 conv=>lhs;unfold eP;rw[h]
theorem DE(O:List aE): ∀(N:List aE) (ps:List Pt) (k:Nat),ak ((N.foldl (e_ O) (ps,k)).1++ [.cut ⟨(aR (O.drop (N.foldl (e_ O) (ps,k)).2)).toArray⟩])=ak ps++eP O k N
 | [],ps,k=>by
  show ak (ps++ [_])=_
  rw[gE,iO];rfl
 | r::N,ps,k=>by
  rw[List.foldl_cons]
  cases hx:idx O r with
  | none=>
   have e:e_ O (ps,k) r=(ps++ [.put ⟨#[r.2.2]⟩],k):=by unfold e_;rw[hx]
   rw[e,DE O N]
   show _=ak ps++eP O k (r::N)
   rw[Pw hx,gE,iO,List.append_assoc]
   rfl
  | some j=>
   have e:e_ O (ps,k) r=(ps++ [.cut ⟨(aR ((O.drop k).take (j - k))).toArray⟩, .keep 1],j+1):=by unfold e_;rw[hx]
   rw[e,DE O N]
   show _=ak ps++eP O k (r::N)
   rw[Pu hx]
   rw[gE,List.append_assoc]
   congr 1
   show(ba (.cut ⟨(aR ((O.drop k).take (j - k))).toArray⟩)++ (ba (.keep 1)++ []))++_=_
   rw[List.append_assoc]
   rfl
theorem DF(O N:List aE):ak (gI O N)=eP O 0 N:=by
 have:=DE O N [] 0
 exact this
def dm(O:List aE):Nat→List aE→Prop
 | k,[]=>k≤O.length
 | k,r::N=>match idx O r with
  | some j=>k≤j∧dm O (j+1) N
  | none=>dm O k N
theorem j_{O N:List aE}{r:aE}{k j:Nat}(h:idx O r=some j):dm O k (r::N)↔k≤j∧dm O (j+1) N:=by
 show(match idx O r with | some j=>k≤j∧dm O (j+1) N | none=>dm O k N)↔_
 rw[h]
theorem kb{O N:List aE}{r:aE}{k:Nat}(h:idx O r=none):dm O k (r::N)↔dm O k N:=by
 show(match idx O r with | some j=>k≤j∧dm O (j+1) N | none=>dm O k N)↔_
 rw[h]
theorem Px{O:List aE}{r:aE}{j:Nat}(h:idx O r=some j): ∃hj:j<O.length,aK O[j]=aK r:=by
 obtain⟨hj,h2,_⟩:=List.findIdx?_eq_some_iff_getElem.mp h
 exact⟨hj,of_decide_eq_true h2⟩
theorem DG{O:List aE}: ∀{N:List aE} {k:Nat},dm O k N→k≤O.length
 | [],k,h=>h
 | r::N,k,h=>by
  cases hx:idx O r with
  | none=>exact DG ((kb hx).mp h)
  | some j=>
   obtain⟨h1,h2⟩:=(j_ hx).mp h
   have:=DG h2
   omega
theorem Py{O:List aE}: ∀{N:List aE} {k k':Nat},k≤k'→dm O k' N→dm O k N
 | [],k,k',hk,h=>Nat.le_trans hk h
 | r::N,k,k',hk,h=>by
  cases hx:idx O r with
  | none=>exact(kb hx).mpr (Py hk ((kb hx).mp h))
  | some j=>
   obtain⟨h1,h2⟩:=(j_ hx).mp h
   exact(j_ hx).mpr ⟨by omega,h2⟩
theorem agH{O N:List aE}{r:aE}{k:Nat}(h:dm O k (r::N)):dm O k N:=by
 cases hx:idx O r with
 | none=>exact(kb hx).mp h
 | some j=>
  obtain⟨h1,h2⟩:=(j_ hx).mp h
  exact Py (by omega) h2
theorem DH(xs:List At): ∀(s l:List Nat),fit l xs→fit (s++l) (s.map .C++xs)
 | [],l,h=>h
 | c::s,l,h=> ⟨rfl,DH xs s l h⟩
theorem DI(xs:List At): ∀(s:List Nat) (i:Nat),res i (s.map .C++xs)=res (i+s.length) xs
 | [],i=>rfl
 | c::s,i=>by
  show res (i+1) (s.map .C++xs)=_
  rw[DI xs s (i+1),List.length_cons,show i+1+s.length=i+ (s.length+1) by omega]
theorem Pz(s:List Nat):cnt (s.map .C)=s.length:=by
 induction s with
 | nil=>rfl
 | cons c s ih=>show cnt (s.map .C)+1=_;rw[ih];rfl
def dq(O:List aE)(r:aE):Sg:=match idx O r with | some j=> .inl j | none=> .inr r.2.2
theorem yP{O:List aE}{r:aE}{j:Nat}(h:idx O r=some j):dq O r= .inl j:=by unfold dq;rw[h]
theorem rT{O:List aE}{r:aE}(h:idx O r=none):dq O r= .inr r.2.2:=by unfold dq;rw[h]
theorem agI{O:List aE}{k j:Nat}(hk:k≤j)(hj:j<O.length):O.drop k=(O.drop k).take (j - k)++O[j]::O.drop (j+1):=by
 conv=>lhs;rw[←List.take_append_drop (j - k) (O.drop k)]
 rw[List.drop_drop,show k+ (j - k)=j by omega,List.drop_eq_getElem_cons hj]
theorem yQ{O:List aE}: ∀{N:List aE} {k:Nat},dm O k N→fit (aR (O.drop k)) (eP O k N)∧res k (eP O k N)=N.map (dq O)∧cnt (eP O k N)+k≤O.length+N.length
 | [],k,h=>by
  have h':k≤O.length:=h
  refine⟨?_, ?_, ?_⟩
  ·show fit _ ((aR (O.drop k)).map .C)
   have:=DH [] (aR (O.drop k)) [] rfl
   rw[List.append_nil,List.append_nil] at this
   exact this
  ·show res k ((aR (O.drop k)).map .C)=[]
   have:=DI [] (aR (O.drop k)) k
   rw[List.append_nil] at this
   rw[this];rfl
  ·show cnt ((aR (O.drop k)).map .C)+k≤_
   rw[Pz];unfold aR
   rw[List.length_map,List.length_drop]
   show O.length - k+k≤O.length+0
   omega
 | r::N,k,h=>by
  cases hx:idx O r with
  | none=>
   obtain⟨h1,h2,h3⟩:=yQ ((kb hx).mp h)
   rw[Pw hx]
   refine⟨h1, ?_, ?_⟩
   ·show .inr r.2.2::res k (eP O k N)=_
    rw[h2,List.map_cons,rT hx]
   ·show cnt (eP O k N)+1+k≤O.length+ (N.length+1)
    omega
  | some j=>
   obtain⟨hk,hm⟩:=(j_ hx).mp h
   obtain⟨hj,_⟩:=Px hx
   obtain⟨h1,h2,h3⟩:=yQ hm
   rw[Pu hx]
   have hl:((O.drop k).take (j - k)).length=j - k:=by rw[List.length_take,List.length_drop];omega
   have eF:(aR ((O.drop k).take (j - k))).length=j - k:=by unfold aR;rw[List.length_map,hl]
   refine⟨?_, ?_, ?_⟩
   ·have e:aR (O.drop k)=aR ((O.drop k).take (j - k))++ (O[j].2.2::aR (O.drop (j+1))):=by
     conv=>lhs;rw[agI hk hj]
     unfold aR;rw[List.map_append,List.map_cons]
    rw[e]
    exact DH _ _ _ h1
   ·rw[DI,eF,show k+ (j - k)=j by omega,List.map_cons,yP hx]
    show .inl j::res (j+1) (eP O (j+1) N)=_
    rw[h2]
   ·rw[vk,Pz,eF]
    show(j - k)+cnt (eP O (j+1) N)+k≤O.length+ (N.length+1)
    omega
def iz(R:List aE):Prop:= ∀r∈R,SG.cps.contains r.2.2=true
theorem DJ{R:List aE}(h:iz R)(hl:R.length≤10000):good ⟨(aR R).toArray⟩:=by
 refine⟨?_,fun c hc=> ?_⟩
 ·rw[len_list]
  show(aR R).length≤_
  unfold aR;rw[List.length_map];omega
 ·have fK:c∈aR R:=hc
  obtain⟨r,hr,rfl⟩:=List.mem_map.mp fK
  exact h r hr
theorem PB(R:List aE):(⟨(aR R).toArray⟩:Str).length=R.length:=by
 rw[len_list];show(aR R).length=_;unfold aR;rw[List.length_map]
theorem PD{O:List aE}(hO:iz O)(vB:O.length≤10000): ∀(N:List aE) (s:List Pt×Nat),iz N→(∀p∈s.1,dO p)→ ∀p∈ (N.foldl (e_ O) s).1,dO p
 | [],s,_,h=>h
 | r::N,s,hN,h=>by
  rw[List.foldl_cons]
  refine PD hO vB N _ (fun x hx=>hN x (List.mem_cons_of_mem _ hx)) ?_
  unfold e_
  cases idx O r with
  | none=>
   intro p hp
   rcases List.mem_append.mp hp with z | z
   ·exact h p z
   ·rw[List.mem_singleton.mp z]
    have:=DJ (R:=[r]) (fun x hx=>by rw[List.mem_singleton.mp hx];exact hN r List.mem_cons_self) (by show 1≤10000;decide)
    exact⟨this,by show(1:Nat)≤100000;decide⟩
  | some j=>
   intro p hp
   rcases List.mem_append.mp hp with z | z
   ·exact h p z
   ·simp only[List.mem_cons,List.not_mem_nil,or_false] at z
    have aS:((O.drop s.2).take (j - s.2)).length≤10000:=by rw[List.length_take,List.length_drop];omega
    rcases z with rfl | rfl
    ·exact⟨DJ (fun x hx=>hO x (List.mem_of_mem_drop (List.mem_of_mem_take hx))) aS,by rw[PB];omega⟩
    ·exact(by decide:(0:Int)≤1)
theorem PF{O N:List aE}(hO:iz O)(hN:iz N)(vB:O.length≤10000): ∀p∈gI O N,dO p:=by
 intro p hp
 rcases List.mem_append.mp hp with z | z
 ·exact PD hO vB N ([],0) hN (fun p hp=>by cases hp) p z
 ·rw[List.mem_singleton.mp z]
  have aS:(O.drop (g_ O N).2).length≤10000:=by rw[List.length_drop];omega
  exact⟨DJ (fun x hx=>hO x (List.mem_of_mem_drop hx)) aS,by rw[PB];omega⟩
theorem vC{O N:List aE}(h:dm O 0 N):aJ (gI O N)≤O.length+N.length:=by
 rw[←yL,DF]
 have:=(yQ h).2.2
 omega
theorem DK{O N:List aE}(h:dm O 0 N)(hO:iz O)(hN:iz N)(vB:O.length≤10000)(hNl:N.length≤10000): ∃r,jt (dv (gI O N)) (aR O) r∧res 0 (ak (dv (gI O N)))=N.map (dq O):=by
 obtain⟨h1,h2,_⟩:=yQ h
 have iX:=PF hO hN vB
 have vf:=vC h
 obtain⟨g1,g2,_⟩:=uI _ iX (by omega)
 have uH: ∀p∈gI O N,e9 p:=fun p hp=>aeV (iX p hp)
 have dB:=pR (gI O N) (aR O) uH (by rw[DF];exact h1)
 have vx:=Od (gI O N) uH
 rw[CH _ iX] at vx
 refine⟨_,⟨g2,g1,CN dB⟩, ?_⟩
 rw[N6 vx,DF,h2]
theorem lV{O:List aE}{who:Str}(hw: ∀r∈O,r.1≠who): ∀(xs:List At) (R:List aE) (k m:Nat),dm O k R→dm O k (bP who R m xs)
 | [],R,k,m,h=>DG h
 | .P c::xs,R,k,m,h=>by
  show dm O k ((who,m,c)::bP who R (m+1) xs)
  refine(kb (rS fun hm=> ?_)).mpr (lV hw xs R k (m+1) h)
  obtain⟨r,hr,e⟩:=List.mem_map.mp hm
  exact hw r hr (congrArg (fun p:Str×Nat=>p.1) e)
 | .K::xs,[],k,m,h=>lV hw xs [] k m h
 | .K::xs,r::R,k,m,h=>by
  show dm O k (r::bP who R m xs)
  cases hx:idx O r with
  | none=>exact(kb hx).mpr (lV hw xs R k m ((kb hx).mp h))
  | some j=>
   obtain⟨h1,h2⟩:=(j_ hx).mp h
   exact(j_ hx).mpr ⟨h1,lV hw xs R (j+1) m h2⟩
 | .C c::xs,[],k,m,h=>lV hw xs [] k m h
 | .C c::xs,r::R,k,m,h=>lV hw xs R k m (agH h)
theorem DL{O:List aE}(h:(O.map aK).Nodup){i:Nat}{r:aE}(hr:O[i]?=some r):idx O r=some i:=by
 unfold idx
 obtain⟨hi,e⟩:=List.getElem?_eq_some_iff.mp hr
 rw[List.findIdx?_eq_some_iff_getElem]
 refine⟨hi,by rw[e];exact decide_eq_true rfl,fun j hj=> ?_⟩
 rw[decide_eq_true_eq]
 intro z
 have bV:j<O.length:=by omega
 have e1:(O.map aK)[j]'(by rw[List.length_map];exact bV)=(O.map aK)[i]'(by rw[List.length_map];exact hi):=by
  rw[List.getElem_map,List.getElem_map,z,e]
 exact List.pairwise_iff_getElem.mp h j i _ _ hj e1
theorem agJ{O:List aE}(h:(O.map aK).Nodup){r:aE}(hr:r∈O): ∃i,idx O r=some i∧O[i]?=some r:=by
 obtain⟨i,hi,e⟩:=List.getElem_of_mem hr
 have:O[i]?=some r:=by rw[←e];exact List.getElem?_eq_getElem hi
 exact⟨i,DL h this,this⟩
theorem DM{O:List aE}(h:(O.map aK).Nodup): ∀(n k:Nat),O.length - k=n→k≤O.length→dm O k (O.drop k)
 | 0,k,hn,hk=>by rw[List.drop_of_length_le (by omega)];exact hk
 | n+1,k,hn,hk=>by
  have aS:k<O.length:=by omega
  rw[List.drop_eq_getElem_cons aS]
  exact(j_ (DL h (List.getElem?_eq_getElem aS))).mpr ⟨Nat.le_refl _,DM h n (k+1) (by omega) (by omega)⟩
theorem jv{who:Str}: ∀(xs:List At) (R:List aE) (m:Nat) (r:aE),r∈bP who R m xs→r∈R∨(r.1=who∧m≤r.2.1)
 | [],R,m,r,h=>by cases h
 | .P c::xs,R,m,r,h=>by
  rcases List.mem_cons.mp h with rfl | h
  ·exact .inr ⟨rfl,Nat.le_refl _⟩
  ·rcases jv xs R (m+1) r h with z | z
   ·exact .inl z
   ·exact .inr ⟨z.1,by omega⟩
 | .K::xs,[],m,r,h=>jv xs [] m r h
 | .K::xs,q::R,m,r,h=>by
  rcases List.mem_cons.mp h with rfl | h
  ·exact .inl List.mem_cons_self
  ·exact(jv xs R m r h).imp (List.mem_cons_of_mem _) id
 | .C c::xs,[],m,r,h=>jv xs [] m r h
 | .C c::xs,q::R,m,r,h=> (jv xs R m r h).imp (List.mem_cons_of_mem _) id
theorem rV{who:Str}: ∀(xs:List At) (R:List aE) (m:Nat),(R.map aK).Nodup→(∀r∈R,r.1≠who)→((bP who R m xs).map aK).Nodup
 | [],R,m,h,hw=>List.nodup_nil
 | .P c::xs,R,m,h,hw=>by
  show(aK (who,m,c)::(bP who R (m+1) xs).map aK).Nodup
  refine List.nodup_cons.mpr ⟨fun hm=> ?_,rV xs R (m+1) h hw⟩
  obtain⟨r,hr,e⟩:=List.mem_map.mp hm
  have e1:r.1=who:=congrArg (fun p:Str×Nat=>p.1) e
  have e2:r.2.1=m:=congrArg (fun p:Str×Nat=>p.2) e
  rcases jv xs R (m+1) r hr with z | z
  ·exact hw r z e1
  ·omega
 | .K::xs,[],m,h,hw=>rV xs [] m h hw
 | .K::xs,q::R,m,h,hw=>by
  obtain⟨h1,h2⟩:=List.nodup_cons.mp (show(aK q::R.map aK).Nodup from h)
  show(aK q::(bP who R m xs).map aK).Nodup
  refine List.nodup_cons.mpr ⟨fun hm=> ?_,rV xs R m h2 fun r hr=>hw r (List.mem_cons_of_mem _ hr)⟩
  obtain⟨r,hr,e⟩:=List.mem_map.mp hm
  rcases jv xs R m r hr with z | z
  ·exact h1 (by rw[←e];exact List.mem_map_of_mem z)
  ·have e1:r.1=q.1:=congrArg (fun p:Str×Nat=>p.1) e
   exact hw q List.mem_cons_self (by rw[←e1];exact z.1)
 | .C c::xs,[],m,h,hw=>rV xs [] m h hw
 | .C c::xs,q::R,m,h,hw=>rV xs R m (List.nodup_cons.mp (show(aK q::R.map aK).Nodup from h)).2 fun r hr=>hw r (List.mem_cons_of_mem _ hr)
theorem vD{O:List aE}{who:Str}(hn:(O.map aK).Nodup)(hw: ∀r∈O,r.1≠who): ∀(xs:List At) (i m:Nat),(O.length - i=cE xs)→(bP who (O.drop i) m xs).map (dq O)=res i xs
 | [],i,m,h=>rfl
 | .P c::xs,i,m,h=>by
  show dq O (who,m,c)::(bP who (O.drop i) (m+1) xs).map (dq O)= .inr c::res i xs
  rw[vD hn hw xs i (m+1) h,rT (rS fun hm=> ?_)]
  obtain⟨r,hr,e⟩:=List.mem_map.mp hm
  exact hw r hr (congrArg (fun p:Str×Nat=>p.1) e)
 | .K::xs,i,m,h=>by
  have h':O.length - i=cE xs+1:=h
  have aS:i<O.length:=by omega
  rw[List.drop_eq_getElem_cons aS]
  show dq O O[i]::(bP who (O.drop (i+1)) m xs).map (dq O)= .inl i::res (i+1) xs
  rw[vD hn hw xs (i+1) m (by omega),yP (DL hn (List.getElem?_eq_getElem aS))]
 | .C c::xs,i,m,h=>by
  have h':O.length - i=cE xs+1:=h
  have aS:i<O.length:=by omega
  rw[List.drop_eq_getElem_cons aS]
  show(bP who (O.drop (i+1)) m xs).map (dq O)=res (i+1) xs
  exact vD hn hw xs (i+1) m (by omega)
theorem nu{who:Str}: ∀(xs:List At) (R:List aE) (m:Nat),out (aR R) xs=aR (bP who R m xs)
 | [],R,m=>rfl
 | .P c::xs,R,m=>by show c::out (aR R) xs=c::aR (bP who R (m+1) xs);rw[nu xs R (m+1)]
 | .K::xs,[],m=>nu xs [] m
 | .K::xs,q::R,m=>by show q.2.2::out (aR R) xs=q.2.2::aR (bP who R m xs);rw[nu xs R m]
 | .C c::xs,[],m=>nu xs [] m
 | .C c::xs,q::R,m=>nu xs R m
theorem agK{O M N:List aE}(hM:(M.map aK).Nodup)(hN: ∀r∈N,r∈M∨idx O r=none∧idx M r=none):sub (M.map (dq O)) 0 (N.map (dq M))=N.map (dq O):=by
 unfold sub
 rw[List.map_map]
 refine List.map_congr_left fun r hr=> ?_
 rcases hN r hr with h | ⟨h1,h2⟩
 ·obtain⟨i,hi,e⟩:=agJ hM h
  show sb _ 0 (dq M r)=_
  rw[yP hi]
  show(M.map (dq O)).getD (i - 0) (.inr 0)=_
  rw[List.getD_eq_getElem?_getD,List.getElem?_map,Nat.sub_zero,e];rfl
 ·show sb _ 0 (dq M r)=_
  rw[rT h2,rT h1];rfl
def flip(c:Nat):Nat:=if c=97 then 98 else 97
theorem agL(c:Nat):flip c≠c:=by unfold flip;split<;>omega
def tell(nm:Str×Nat)(r:aE):aE:=if aK r=nm then (r.1,r.2.1,flip r.2.2) else r
def told(nm:Str×Nat)(R:List aE):List aE:=R.map (tell nm)
theorem DN(nm:Str×Nat)(r:aE):aK (tell nm r)=aK r:=by unfold tell;split<;>rfl
theorem agM(nm:Str×Nat)(r:aE):(tell nm r).1=r.1:=by unfold tell;split<;>rfl
theorem PH(nm:Str×Nat)(R:List aE):(told nm R).map aK=R.map aK:=by
 unfold told;rw[List.map_map];exact List.map_congr_left fun r _=>DN nm r
theorem lW(nm:Str×Nat)(R:List aE):(told nm R).length=R.length:=by unfold told;rw[List.length_map]
theorem DO(nm:Str×Nat)(O:List aE)(r:aE):idx (told nm O) r=idx O r:=by
 unfold idx told
 rw[List.findIdx?_map]
 congr 1
 funext o
 show decide (aK (tell nm o)=aK r)=_
 rw[DN]
theorem qg{nm:Str×Nat}{O:List aE}: ∀{N:List aE} {k:Nat},dm O k N→dm (told nm O) k N
 | [],k,h=>by show k≤ (told nm O).length;rw[lW];exact h
 | r::N,k,h=>by
  cases hx:idx O r with
  | none=>exact(kb (by rw[DO];exact hx)).mpr (qg ((kb hx).mp h))
  | some j=>
   obtain⟨h1,h2⟩:=(j_ hx).mp h
   exact(j_ (by rw[DO];exact hx)).mpr ⟨h1,qg h2⟩
theorem PJ(nm:Str×Nat)(O:List aE)(r:aE):dq (told nm O) r=dq O r:=by unfold dq;rw[DO]
theorem agN{c:Nat}:SG.cps.contains (flip c)=true:=by
 unfold flip
 split
 ·decide+kernel
 ·decide+kernel
theorem DP{nm:Str×Nat}{R:List aE}(h:iz R):iz (told nm R):=by
 intro r hr
 obtain⟨q,hq,rfl⟩:=List.mem_map.mp hr
 unfold tell
 split
 ·exact agN
 ·exact h q hq
theorem yR{nm:Str×Nat}{who:Str}(cK:nm.1≠who): ∀(xs:List At) (R:List aE) (m:Nat),(R.map aK).Nodup→fit (aR R) xs→nm∈ (bP who R m xs).map aK→fit (aR (told nm R)) xs
 | [],R,m,hn,h,hm=>by cases hm
 | .P c::xs,R,m,hn,h,hm=>by
  have h':fit (aR R) xs:=h
  rcases List.mem_cons.mp (show nm∈aK (who,m,c)::(bP who R (m+1) xs).map aK from hm) with e | jM
  ·exact absurd (congrArg (fun p:Str×Nat=>p.1) e) cK
  ·exact yR cK xs R (m+1) hn h' jM
 | .K::xs,[],m,hn,h,hm=>h.elim
 | .K::xs,q::R,m,hn,h,hm=>by
  obtain⟨n1,n2⟩:=List.nodup_cons.mp (show(aK q::R.map aK).Nodup from hn)
  have h':fit (aR R) xs:=h
  show fit ((tell nm q).2.2::aR (told nm R)) (.K::xs)
  show fit (aR (told nm R)) xs
  rcases List.mem_cons.mp (show nm∈aK q::(bP who R m xs).map aK from hm) with e | jM
  ·have:told nm R=R:=by
    unfold told
    conv=>rhs;rw[←List.map_id R]
    refine List.map_congr_left fun r hr=> ?_
    unfold tell
    rw[if_neg (fun z=>n1 (by rw[←e,←z];exact List.mem_map_of_mem hr))];rfl
   rw[this];exact h'
  ·exact yR cK xs R m n2 h' jM
 | .C c::xs,[],m,hn,h,hm=>h.elim
 | .C c::xs,q::R,m,hn,h,hm=>by
  obtain⟨n1,n2⟩:=List.nodup_cons.mp (show(aK q::R.map aK).Nodup from hn)
  have h':q.2.2=c∧fit (aR R) xs:=h
  have jM:nm∈ (bP who R m xs).map aK:=hm
  show(tell nm q).2.2=c∧fit (aR (told nm R)) xs
  refine⟨?_,yR cK xs R m n2 h'.2 jM⟩
  have:aK q≠nm:=fun z=>by
   obtain⟨r,hr,e⟩:=List.mem_map.mp jM
   rcases jv xs R m r hr with y | y
   ·exact n1 (by rw[z,←e];exact List.mem_map_of_mem y)
   ·exact cK (by rw[←e];exact y.1)
  unfold tell
  rw[if_neg this];exact h'.1
theorem rW{nm:Str×Nat}{who:Str}(cK:nm.1≠who): ∀(xs:List At) (R:List aE) (m:Nat),bP who (told nm R) m xs=told nm (bP who R m xs)
 | [],R,m=>rfl
 | .P c::xs,R,m=>by
  show(who,m,c)::bP who (told nm R) (m+1) xs=tell nm (who,m,c)::told nm (bP who R (m+1) xs)
  rw[rW cK xs R (m+1)]
  congr 1
  unfold tell
  rw[if_neg (fun z=>cK (by rw[←z];rfl))]
 | .K::xs,[],m=>rW cK xs [] m
 | .K::xs,q::R,m=>by
  show tell nm q::bP who (told nm R) m xs=tell nm q::told nm (bP who R m xs)
  rw[rW cK xs R m]
 | .C c::xs,[],m=>rW cK xs [] m
 | .C c::xs,q::R,m=>rW cK xs R m
def cutAt:List At→Nat→Option Nat
 | [],_=>none
 | .P _::ys,p=>cutAt ys p
 | .K::_,0=>none
 | .K::ys,p+1=>cutAt ys p
 | .C d::_,0=>some d
 | .C _::ys,p+1=>cutAt ys p
theorem yS: ∀(ys:List At) (l:List Nat) (i p:Nat),fit l ys→p<l.length→Sum.inl (i+p)∉res i ys→cutAt ys p=l[p]?
 | [],l,i,p,h,hp,hn=>by cases h;cases hp
 | .P c::ys,l,i,p,h,hp,hn=>yS ys l i p h hp fun z=>hn (List.mem_cons_of_mem _ z)
 | .K::ys,[],i,p,h,hp,hn=>h.elim
 | .K::ys,a::l,i,0,h,hp,hn=>absurd (List.mem_cons_self) (show Sum.inl (i+0)∉Sum.inl i::res (i+1) ys from hn)
 | .K::ys,a::l,i,p+1,h,hp,hn=>by
  have:=yS ys l (i+1) p h (by simpa using hp) fun z=>hn (List.mem_cons_of_mem _ (by rw[show i+ (p+1)=i+1+p by omega];exact z))
  rw[List.getElem?_cons_succ,←this];rfl
 | .C c::ys,[],i,p,h,hp,hn=>h.elim
 | .C c::ys,a::l,i,0,h,hp,hn=>by rw[←h.1];rfl
 | .C c::ys,a::l,i,p+1,h,hp,hn=>by
  have:=yS ys l (i+1) p h.2 (by simpa using hp) fun z=>hn (by rw[show i+ (p+1)=i+1+p by omega];exact z)
  rw[List.getElem?_cons_succ,←this];rfl
theorem agO{xs ys zs:List At}(h:cb xs ys zs): ∀(i p c d:Nat),(res i xs)[p]?=some (.inr c)→cutAt ys p=some d→c=d:=by
 induction h with
 | nil=>intro i p c d h1 h2;cases h2
 | p _ ih=>intro i p c d h1 h2;exact ih i p c d h1 h2
 | c _ ih=>intro i p c d h1 h2;exact ih (i+1) p c d h1 h2
 | kk _ ih=>
  intro i p c d h1 h2
  cases p with
  | zero=>cases h2
  | succ p=>exact ih (i+1) p c d (by simpa[res] using h1) h2
 | kc _ ih=>
  intro i p c d h1 h2
  cases p with
  | zero=>simp[res] at h1
  | succ p=>exact ih (i+1) p c d (by simpa[res] using h1) h2
 | pk _ ih=>
  intro i p c d h1 h2
  cases p with
  | zero=>cases h2
  | succ p=>exact ih i p c d (by simpa[res] using h1) h2
 | pc _ ih=>
  intro i p c d h1 h2
  cases p with
  | zero=>
   simp[res] at h1
   simp[cutAt] at h2
   omega
  | succ p=>exact ih i p c d (by simpa[res] using h1) h2
theorem lX: ∀(n:Nat) (xs ys:List At),xs.length+ys.length≤n→cC xs=cE ys→bx xs ys∨ ∃zs,cb xs ys zs
 | _,[],[],_,_=> .inr ⟨[], .nil⟩
 | 0,_::_,_,h,_=>by simp at h
 | 0,[],_::_,h,_=>by simp at h
 | n+1,xs, .P c::ys,h,hg=>by
  rcases lX n xs ys (by simp at h;omega) hg with z | ⟨zs,z⟩
  ·exact .inl (.p z)
  ·exact .inr ⟨_, .p z⟩
 | n+1, .C c::xs,[],h,hg=>by
  rcases lX n xs [] (by simp at h⊢;omega) hg with z | ⟨zs,z⟩
  ·exact .inl (.c z)
  ·exact .inr ⟨_, .c z⟩
 | n+1, .C c::xs, .K::ys,h,hg=>by
  rcases lX n xs (.K::ys) (by simp at h⊢;omega) hg with z | ⟨zs,z⟩
  ·exact .inl (.c z)
  ·exact .inr ⟨_, .c z⟩
 | n+1, .C c::xs, .C d::ys,h,hg=>by
  rcases lX n xs (.C d::ys) (by simp at h⊢;omega) hg with z | ⟨zs,z⟩
  ·exact .inl (.c z)
  ·exact .inr ⟨_, .c z⟩
 | n+1,[], .K::ys,h,hg=>by simp[cC,cE] at hg
 | n+1,[], .C d::ys,h,hg=>by simp[cC,cE] at hg
 | n+1, .K::xs,[],h,hg=>by simp[cC,cE] at hg
 | n+1, .P c::xs,[],h,hg=>by simp[cC,cE] at hg
 | n+1, .K::xs, .K::ys,h,hg=>by
  rcases lX n xs ys (by simp at h;omega) (by simpa[cC,cE] using hg) with z | ⟨zs,z⟩
  ·exact .inl (.kk z)
  ·exact .inr ⟨_, .kk z⟩
 | n+1, .K::xs, .C d::ys,h,hg=>by
  rcases lX n xs ys (by simp at h;omega) (by simpa[cC,cE] using hg) with z | ⟨zs,z⟩
  ·exact .inl (.kc z)
  ·exact .inr ⟨_, .kc z⟩
 | n+1, .P c::xs, .K::ys,h,hg=>by
  rcases lX n xs ys (by simp at h;omega) (by simpa[cC,cE] using hg) with z | ⟨zs,z⟩
  ·exact .inl (.pk z)
  ·exact .inr ⟨_, .pk z⟩
 | n+1, .P c::xs, .C d::ys,h,hg=>by
  by_cases e:c=d
  ·subst e
   rcases lX n xs ys (by simp at h;omega) (by simpa[cC,cE] using hg) with z | ⟨zs,z⟩
   ·exact .inl (.pc z)
   ·exact .inr ⟨_, .pc z⟩
  ·exact .inl (.here e)
def vE(CF:Addr):Sp:=fun vs H Q E=> ∃(v:V) (s u:Str),vs=[v, .str u]∧gA H v (.put s)∧s≠u∧E (.ref CF) none H
theorem agP{K:PySem.W.Frag}{CF:Addr}(vs:List V)(H:Hp)(Q:VK)(E:XK)(h:vE CF vs H Q E):ar (aQ K [] [] (et:=[("BadFit",CF)]) (E:=E)) uq (Dn Q) (start xG vs) H:=by
 obtain⟨v,s,u,rfl,⟨a,rfl,ha⟩,cK,q⟩:=h
 have hs:H a=some (.tup [.str "put", .str s]):=ha
 refine d_ (dP (dJ (aA rfl (aX (rL hs rfl (aX (iV ⟨_,rfl,iF ?_ (by decide+kernel)⟩)))))))
 refine d_ (dP (dJ (aA rfl (aX (rL hs rfl (aA rfl (yG ⟨_,rfl,iT ?_ (by simpa using cK)⟩)))))))
 exact⟨(by show 1≤sizeLine;decide),q⟩
abbrev PK(CF:Addr):List (Str×Sp):=[("part_size",gB),("cut_behind",dW lQ (vE CF))]
abbrev DQ(C:Addr):List (Str×Addr×Sp):=[("word",C,iu C),("take",C,iw C),("left",C,iU C)]
def vF(C CF:Addr):Sp:=fun vs H Q E=> ∃(w L:Addr) (v:V) (rs:List Pt) (part:Pt) (ys:List At),vs=[.ref w,v]∧cj C H w L rs∧gA H v part∧br part∧(∀s,part≠ .put s)∧rs.length≤100000∧bx (ak rs) (ba part++ys)∧(∀H',aW w H H'→E (.ref CF) none H')∧
 ∀(c:Addr) (H':Hp) (bc:List V) (bO:List Pt),aW w H H'→H c=none→H' c=some (.lst bc)→cj C H' w L bO→bx (ak bO) ys→bc.length+bO.length≤rs.length+1→Q (.ref c) H'
theorem agQ{K:PySem.W.Frag}{C CF:Addr}(vs:List V)(H:Hp)(Q:VK)(E:XK)(h:vF C CF vs H Q E):
  ar (aQ K (PK CF) [] [] (DQ C) (E:=E)) ur (Dn Q) (start xH vs) H:=by
 obtain⟨w,L,v,rs,part,ys,rfl,W,⟨pa,rfl,fG⟩,aw,iW,m6,mJ,hE,q⟩:=h
 obtain⟨Di,afY⟩:=nk aw
 refine cx (gX (aV ⟨Nat.zero_le _,fun c hc=> ?_⟩))
 refine cx (aX ?_)
 have b0:aW w H (upd H c (.lst [])):=fun b o e _=>by rw[aI (bz e hc)];exact e
 obtain⟨dx0,i0,o0,vp⟩:=W.ob
 have j6:c≠w:=fun z=>by rw[z,vp] at hc;cases hc
 have j7:c≠L:=by
  obtain⟨_,_,_,_,_,_,hL,_⟩:=W
  exact(bz hL hc).symm
 refine De (fun m σ H'=> ∃(k:Nat) (u4 u5:Option V) (bc:List V) (bO:List Pt),m=(ak bO).length∧σ=[some (.ref w),some (.ref pa),some (.ref c),some (.int (k:Int)),u4,u5]∧aW w H H'∧H' c=some (.lst bc)∧
   cj C H' w L bO∧k≤aP part∧bx (ak bO) (ba (bE part k)++ys)∧bc.length+bO.length≤rs.length+ (if k=aP part then 1 else 0))
  ⟨_,0,none,none,[],rs,rfl,rfl,b0,ay,W.same (sameNew hc),Nat.zero_le _,by rw[drop_zero];exact mJ,by simp⟩ ?_
 rintro m σ H1 ⟨k,u4,u5,bc,bO,rfl,rfl,b1,lR,W1,hk,ny,hlen⟩
 have p9:H1 pa=some (.tup [.str part.word,part.val]):=b1 _ _ fG (gM fG vp (by intro z;cases z))
 have sz: ∀{σ:St} {Q1:VK},σ[1]?=some (some (.ref pa))→Q1 (.int (aP part:Int)) H1→ag (aQ K (PK CF) [] [] (DQ C) (E:=E)) (.call 0 [(.v 1)]) σ H1 Q1:=by
  intro σ Q1 h1 hq
  refine cf gB rfl (aC (aA h1 (aV ⟨_,part,rfl,⟨pa,rfl,p9⟩,uz aw, ?_⟩)))
  rw[Di];exact hq
 refine dP (aA rfl (sz rfl ⟨trivial,_,rfl, ?_⟩))
 by_cases yI:k<aP part
 ·refine iT ⟨_,fun σ' H' z=>z, ?_⟩ (decide_eq_true (by omega))
  have hod:=yB aw yI
  have kz:(if k=aP part then 1 else 0)=0:=if_neg (by omega)
  rw[kz] at hlen
  cases bO with
  | nil=>exact absurd ny Pk
  | cons p t=>
   have hp:=W1.ok p (.head _)
   obtain⟨O2,vq⟩:=nk hp
   refine d_ (dP (Dh (C:=C) rfl rfl W1 (aX (iV ⟨_,rfl, ?_⟩))))
   show if ((p.word:Str)=="cut")=true then _ else _
   have lS: ∀(H2:Hp) (eZ vv:List V) (p_:List Pt),H2 c=some (.lst eZ)→cj C H2 w L p_→cj C (upd H2 c (.lst vv)) w L p_:=fun H2 eZ vv p_ cB W2=>W2.but aW.upd cB j7
   have bl: ∀(H2:Hp) (o:HO),aW w H H2→aW w H (upd H2 c o):=fun H2 o bb b o' e n=>by rw[aI (bz e hc)];exact bb b o' e n
   by_cases dX:p.word="cut"
   ·rw[dX]
    obtain⟨s,rfl⟩: ∃s,p= .cut s:=by
     cases p with
     | keep n=>exact absurd (show(Str.ofString "keep")="cut" from dX) (by decide)
     | put s=>exact absurd (show(Str.ofString "put")="cut" from dX) (by decide)
     | cut s=>exact⟨s,rfl⟩
    have re:dg (.cut s) t (aP (.cut s))=t:=if_pos rfl
    refine gC (gF (aA rfl ⟨.inl ⟨rfl,_,aj.of lR⟩,vo (C:=C) (k:=aP (.cut s)) rfl rfl W1 vq (Nat.le_refl _) (fun Q' hq=>vn (C:=C) rfl rfl W1 hq) fun a H2 b2 ha nG W2=> ?_⟩))
    rw[re] at W2
    have cB:H2 c=some (.lst bc):=b2 _ _ lR j6
    simp only[List.length_cons] at hlen
    refine⟨bc,cB,cU (by omega), ?_⟩
    rw[dw] at ny
    refine⟨_, ?_,k,u4,u5,bc++ [V.ref a],t,rfl,rfl,bl _ _ (b1.trans b2),ay,lS H2 _ _ _ cB W2,hk,Pn ny, ?_⟩
    ·rw[dw,List.length_append,rM];omega
    ·rw[kz,List.length_append];show bc.length+1+t.length≤_;omega
   ·have cK:((p.word:Str)=="cut")=false:=beq_eq_false_iff_ne.mpr dX
    rw[cK]
    obtain⟨n,hn⟩: ∃n,n=min (aP p) (aP part - k):=⟨_,rfl⟩
    have dA:1≤n:=by omega
    have eR:n≤aP p:=by omega
    have O4:n≤aP part - k:=by omega
    have emin:(if ((aP part:Int) - (k:Int)) < (aP p:Int) then ((aP part:Int) - (k:Int)) else (aP p:Int))=(n:Int):=by
     split<;>omega
    refine cx (lI (aC (vn (C:=C) rfl rfl W1 (aC (e8 (sz rfl (aA rfl ⟨trivial,aV ?_⟩)))))))
    show ar _ _ _ ([some (.ref w),some (.ref pa),some (.ref c),some (.int (k:Int)),u4,u5].set 4 (some (V.int (if ((aP part:Int) - (k:Int)) < (aP p:Int) then ((aP part:Int) - (k:Int)) else (aP p:Int))))) H1
    rw[emin]
    refine cx (vo (C:=C) (k:=n) rfl rfl W1 dA eR (fun Q' hq=>aA rfl hq) fun a H2 b2 ha nG W2=> ?_)
    have cB:H2 c=some (.lst bc):=b2 _ _ lR j6
    obtain⟨O3,i1,o1,rO⟩:=W1.ob
    have vw:H2 pa=some (.tup [.str part.word,part.val]):=b2 _ _ p9 (gM p9 rO (by intro z;cases z))
    have iy:=b1.trans b2
    have eA:=Dg t eR
    have eB:ba (bE part k)=ba (cg (bE part k) n)++ba (bE part (k+n)):=by
     rw[vh (bE part k) n (by rw[iS part k hk];omega),drop_drop]
    rw[eA,eB,List.append_assoc] at ny
    have r1:=O0 p t n
    simp only[List.length_cons] at hlen
    have fin: ∀(H3:Hp) (e7:List V),aW w H H3→H3 c=some (.lst e7)→cj C H3 w L (dg p t n)→bx (ak (dg p t n)) (ba (bE part (k+n))++ys)→e7.length≤bc.length+1→
      ∃m',m'< (ak (p::t)).length∧ ∃(k':Nat) (Dk Dl:Option V) (bc:List V) (bO:List Pt),m'=(ak bO).length∧[some (V.ref w),some (.ref pa),some (.ref c),some (.int ((k:Int)+ (n:Int))),some (.int (n:Int)),some (.ref a)]=[some (.ref w),some (.ref pa),some (.ref c),some (.int (k':Int)),Dk,Dl]∧aW w H H3∧H3 c=some (.lst bc)∧
      cj C H3 w L bO∧k'≤aP part∧bx (ak bO) (ba (bE part k')++ys)∧bc.length+bO.length≤rs.length+ (if k'=aP part then 1 else 0):=by
     intro H3 e7 b3 eL W3 agR hl3
     refine⟨_,O1 t dA eR,k+n,some (.int (n:Int)),some (.ref a),e7,dg p t n,rfl,by rw[Int.natCast_add],b3,eL,W3,by omega,agR, ?_⟩
     by_cases hz:n=aP p
     ·have r2:dg p t n=t:=if_pos hz
      rw[r2];split<;>omega
     ·rw[if_pos (show k+n=aP part by omega)];omega
    refine d_ (dP (dJ (aA rfl (aX (.inr (.inl ⟨_,_,_,_,rfl,rfl,aF.of vw,rfl,aX (iV ⟨_,rfl, ?_⟩)⟩))))))
    cases part with
    | put s=>exact absurd rfl (iW s)
    | keep m=>
     refine dZ ?_
     refine gC (gF (aA rfl ⟨.inl ⟨rfl,_,aj.of cB⟩,aA rfl ⟨bc,cB,cU (by omega), ?_⟩⟩))
     refine cx (e8 (aA rfl (aA rfl ?_)))
     refine fin _ _ (bl _ _ iy) ay (lS H2 _ _ _ cB W2) ?_ (by simp)
     have qh:bx (ba (cg p n)++ak (dg p t n)) (rK ((n:Nat):Int).toNat++ (ba (bE (.keep m) (k+n))++ys)):=ny
     rw[Int.toNat_natCast] at qh
     cases p with
     | keep m'=>
      have h3:bx (rK ((n:Nat):Int).toNat++ak (dg (.keep m') t n)) (rK n++ (ba (bE (.keep m) (k+n))++ys)):=qh
      rw[Int.toNat_natCast] at h3
      exact Po h3
     | put s=>
      have hh:n≤s.length:=eR
      rw[len_list] at hh
      have DR:(s.cps.toList.take n).length=n:=by rw[List.length_take];omega
      have h3:bx ((s.cps.toList.take n).map .P++ak (dg (.put s) t n)) (rK n++ (ba (bE (.keep m) (k+n))++ys)):=qh
      exact Pq (s:=s.cps.toList.take n) (by rw[DR];exact h3)
     | cut s=>exact absurd rfl dX
    | cut s=>
     refine fN ?_
     have qq:H2 pa=some (.tup [.str "cut", .str s]):=vw
     refine gC (gF (aA rfl ⟨.inl ⟨rfl,_,aj.of cB⟩,cf (dW lQ (vE CF)) rfl (aC (aA rfl (aC ?_)))⟩))
     refine⟨_,rfl, .inr (.inl ⟨_,_,_,_,rfl,rfl,aF.of qq,rfl,_,rfl,_,rfl,_,rfl,_,rfl,_,rfl,bL aw.1.1, ?_⟩)⟩
     rw[yy k (n:Int) n rfl]
     have rQ:((s.cps.toList.drop k).take n).length=n:=by
      rw[List.length_take,List.length_drop]
      have h1:aP (.cut s)=s.length:=rfl
      rw[h1,len_list] at O4
      omega
     have qh:bx (ba (cg p n)++ak (dg p t n)) (((s.cps.toList.drop k).take n).map .C++ (ba (bE (.cut s) (k+n))++ys)):=ny
     generalize hu:((s.cps.toList.drop k).take n)=u at rQ qh⊢
     cases p with
     | cut s'=>exact absurd rfl dX
     | keep m=>
      have h3:bx (rK ((n:Nat):Int).toNat++ak (dg (.keep m) t n)) (u.map .C++ (ba (bE (.cut s) (k+n))++ys)):=qh
      rw[Int.toNat_natCast,←rQ] at h3
      have h4:=Pp h3
      rw[rQ] at h4
      refine .inl ⟨_,cg (.keep m) n,⟨u.toArray⟩,rfl,⟨a,rfl,ha⟩, .inl ⟨_,rfl,fun d tt H3 s3 hd qd yK=> ?_⟩⟩
      have eL:=s3 _ _ cB
      refine⟨bc,[V.ref tt],eL,qd,bL (by simp;omega), ?_⟩
      refine cx (e8 (aA rfl (aA rfl ?_)))
      exact fin _ _ (bl _ _ (iy.same s3)) ay (lS H3 _ _ _ eL (W2.same s3)) h4 (by simp)
     | put s'=>
      have hh:n≤s'.length:=eR
      rw[len_list] at hh
      have DR:(s'.cps.toList.take n).length=n:=by rw[List.length_take];omega
      have h3:bx ((s'.cps.toList.take n).map .P++ak (dg (.put s') t n)) (u.map .C++ (ba (bE (.cut s) (k+n))++ys)):=qh
      by_cases heq:s'.cps.toList.take n=u
      ·have h4:bx (ak (dg (.put s') t n)) (ba (bE (.cut s) (k+n))++ys):=by
        rcases Pr (by rw[DR,rQ]) h3 with z | z
        ·exact absurd heq z
        ·exact z
       refine .inl ⟨_,cg (.put s') n,⟨u.toArray⟩,rfl,⟨a,rfl,ha⟩, .inr ⟨by show Pt.put ⟨(s'.cps.toList.take n).toArray⟩=_;rw[heq],fun d H3 s3 hd qd=> ?_⟩⟩
       have eL:=s3 _ _ cB
       refine⟨bc,[],eL,qd,bL (by simp;omega), ?_⟩
       refine cx (e8 (aA rfl (aA rfl ?_)))
       exact fin _ _ (bl _ _ (iy.same s3)) ay (lS H3 _ _ _ eL (W2.same s3)) h4 (by simp)
      ·exact .inr ⟨_,⟨(s'.cps.toList.take n).toArray⟩,⟨u.toArray⟩,rfl,⟨a,rfl,ha⟩,fun z=>heq (by have:=congrArg (fun y:Str=>y.cps.toList) z;simpa using this),hE _ iy⟩
 ·refine iF ?_ (decide_eq_false (by omega))
  have Dm:k=aP part:=by omega
  subst Dm
  have e0:ba (bE part (aP part))=[]:=List.length_eq_zero_iff.mp (by rw[rM,iS part _ (Nat.le_refl _),Nat.sub_self])
  rw[e0,List.nil_append] at ny
  rw[if_pos rfl] at hlen
  exact lJ (aA rfl (q c H1 bc bO b1 hc lR W1 ny hlen))
def nz(CC CF:Addr):Sp:=fun vs H Q E=> ∃(va vb:V),vs=[va,vb]∧((jY va H∧ ∀H',ax H H'→E (.ref CC) none H')∨
 ∃(a:Addr) (xs:List V) (one:List Pt),va= .ref a∧H a=some (.lst xs)∧aM H xs one∧(∀p∈one,br p)∧chainOk "" one=true∧one.length≤30000∧((jY vb H∧ ∀H',ax H H'→E (.ref CC) none H')∨
  ∃(b:Addr) (ys:List V) (other:List Pt),vb= .ref b∧H b=some (.lst ys)∧aM H ys other∧(∀p∈other,br p)∧chainOk "" other=true∧other.length≤30000∧(∀H',ax H H'→E (.ref CF) none H')∧
   ((pF one).sum≠ (overOf other).sum∨((pF one).sum=(overOf other).sum∧bx (ak one) (ak other)))))
abbrev agS(C CC CF:Addr):List (Str×Sp):=[("sizes",dW fF (jZ CC)),("parts_behind",vF C CF),("neat",mZ)]
theorem agT{K:PySem.W.Frag}{C CC CF:Addr}(T:oC K C)(vs:List V)(H:Hp)(Q:VK)(E:XK)(h:nz CC CF vs H Q E):
  ar (aQ K (agS C CC CF) [] [] (DQ C) [("Walk",C,lP C)] (et:=[("BadFit",CF)]) (E:=E)) uu (Dn Q) (start xI vs) H:=by
 obtain⟨va,vb,rfl,⟨hn,q⟩ | ⟨a,xs,one,rfl,ha,hX,gQ,gU,oh,h⟩⟩:=h
 ·exact d_ (dP (dJ (cf (dW fF (jZ CC)) rfl (aC (aA rfl (aV (.inr ⟨va,rfl,hn,q⟩)))))))
 refine d_ (dP (dJ (cf (dW fF (jZ CC)) rfl (aC (aA rfl (aV (.inl ⟨a,xs,one,rfl,ha,hX,gQ,gU,by omega,fun t1 H1 s1 fV=> ?_⟩)))))))
 refine aX (.inr (.inl ⟨_,_,_,_,rfl,rfl,aF.of fV,rfl, ?_⟩))
 rcases h with⟨hn,q⟩ | ⟨b,ys,other,rfl,hb,bB,eo,cB,jc,qF,agU⟩
 ·exact dJ (cf (dW fF (jZ CC)) rfl (aC (aA rfl (aV (.inr ⟨vb,rfl,hn.same s1,fun H' s'=>q _ (s1.trans s')⟩)))))
 refine dJ (cf (dW fF (jZ CC)) rfl (aC (aA rfl (aV (.inl ⟨b,ys,other,rfl,s1 _ _ hb,bB.mono (bf s1),eo,cB,by omega,fun t2 H2 s2 jW=> ?_⟩)))))
 refine aX (.inr (.inl ⟨_,_,_,_,rfl,rfl,aF.of jW,rfl, ?_⟩))
 have g8:=s1.trans s2
 refine cnI ⟨_,rfl, ?_⟩
 rcases agU with cK | ⟨heq,mJ⟩
 ·refine iT ?_ (by rw[decide_eq_false cK];rfl)
  exact⟨(by show 1≤sizeLine;decide),qF _ g8⟩
 refine iF ?_ (by rw[decide_eq_true heq];rfl)
 have lx:=Paired.length hX
 have ly:=Paired.length bB
 refine cx (OZ C (lP C) rfl (aA rfl fun w dx hw Dr cK=> ?_))
 have s3:ax H2 (upd (upd H2 dx (.own w)) w (.ins C dx [])):=fun b o e=>by rw[aI (bz e hw),aI (bz e Dr)];exact e
 have fX:=g8.trans s3
 refine⟨w,dx,a,xs,one,rfl,ay,fX _ _ ha,hX.mono (bf fX),gQ,by omega,fun L H3 hL hLw b3 W=> ⟨rfl, ?_⟩⟩
 have j9:ax H H3:=fun b o e=>b3 b o (fX b o e) (bz (g8 b o e) hw)
 have fw:H w=none:=g8.free hw
 refine cx (gX (aV ⟨Nat.zero_le _,fun c hc=> ?_⟩))
 have fc:H c=none:=j9.free hc
 have j7:c≠L:=by
  obtain⟨_,_,_,_,_,_,Ds,_⟩:=W
  exact(bz Ds hc).symm
 have j6:c≠w:=by
  obtain⟨_,_,_,hW⟩:=W.ob
  exact(bz hW hc).symm
 have vy: ∀{H4 H5:Hp},ax H H4→aW w H4 H5→ax H H5:=fun s b d o e=>b d o (s d o e) (bz e fw)
 have rR: ∀{H4:Hp} {o:HO},ax H H4→ax H (upd H4 c o):=fun s d o e=>by rw[aI (bz e fc)];exact s d o e
 refine⟨_,rfl,b,rfl,⟨_,aj.of ((sameNew (o:= .lst []) hc) _ _ (j9 _ _ hb))⟩,iG (K:=K) (a:=b) (xs:=ys) (fun i σ H4=> ∃(u:Option V) (bZ:List V) (rs:List Pt),σ=[some (.ref a),some (.ref b),some (.ref w),some (.ref c),u]∧ax H H4∧H4 c=some (.lst bZ)∧
   cj C H4 w L rs∧bx (ak rs) (ak (other.drop i))∧bZ.length+rs.length≤one.length+i)
  ⟨none,[],one,rfl,j9.trans (sameNew hc),ay,W.same (sameNew hc),mJ,by simp⟩
  (fun i σ H4 _ ⟨_,_,_,_,s4,_⟩=>aj.of (s4 _ _ hb)) ?_ ?_⟩
 ·rintro i y σ H4 hi ⟨u,bZ,rs,rfl,s4,eM,W4,rX,yM⟩
  obtain⟨p,hp,eJ⟩:=bB.get hi
  obtain⟨pa,rfl,fG⟩:=eJ.mono (bf s4)
  have cR:i<other.length:=(List.getElem?_eq_some_iff.mp hp).1
  have lT:=eo p (List.mem_of_getElem? hp)
  rw[drop_cons hp,dw] at rX
  refine d_ (dP (dJ (aA rfl (aX (.inr (.inl ⟨_,_,_,_,rfl,rfl,aF.of fG,rfl,aX (iV ⟨_,rfl, ?_⟩)⟩))))))
  by_cases iW: ∀s,p≠ .put s
  ·refine iF ?_ (by cases p with | put s=>exact absurd rfl (iW s) | keep n=>exact(by decide+kernel:(Str.ofString "keep"==Str.ofString "put")=false) | cut s=>exact(by decide+kernel:(Str.ofString "cut"==Str.ofString "put")=false))
   refine gC (gF (aA rfl ⟨.inl ⟨rfl,_,aj.of eM⟩,cf (vF C CF) rfl (aC (aA rfl (aC (aA rfl (aV ?_)))))⟩))
   refine⟨w,L,_,rs,p,_,rfl,W4,⟨pa,rfl,fG⟩,lT,iW,by omega,rX,fun H' b'=>qF _ (vy s4 b'),fun d H5 pX Dt b5 hd Du W5 agV vz=> ?_⟩
   have iL:H5 c=some (.lst bZ):=b5 _ _ eM j6
   refine⟨bZ,pX,iL,Du,bL (by omega), ?_⟩
   exact⟨some (.ref pa),bZ++pX,Dt,rfl,rR (vy s4 b5),ay,W5.but aW.upd iL j7,agV,by rw[List.length_append];omega⟩
  ·obtain⟨s,rfl⟩: ∃s,p= .put s:=by
    cases p with
    | put s=>exact⟨s,rfl⟩
    | keep n=>exact absurd (fun s z=>by cases z) iW
    | cut s=>exact absurd (fun s z=>by cases z) iW
   refine iT ?_ (by decide+kernel:(Str.ofString "put"==Str.ofString "put")=true)
   refine gC (gF (aA rfl ⟨.inl ⟨rfl,_,aj.of eM⟩,aA rfl ⟨bZ,eM,cU (by omega), ?_⟩⟩))
   exact⟨some (.ref pa),bZ++ [V.ref pa],rs,rfl,rR s4,ay,W4.but aW.upd eM j7,Pm rX,by rw[List.length_append];show bZ.length+1+_≤_;omega⟩
 ·rintro σ H4 ⟨u,bZ,rs,rfl,s4,eM,W4,rX,yM⟩
  rw[ly,List.drop_length] at rX
  exact absurd rX Pl
end L2.B
namespace L2
open PySem PySem.Spec PyProof.Rows
theorem ae{α:Type _}{p:α→Prop}: ∀x∈ ([]:List α),p x:=fun _ h=>nomatch h
theorem av{α:Type _}{p:α→Prop}{a:α}{l:List α}(h:p a)(t: ∀x∈l,p x): ∀x∈a::l,p x:=List.forall_mem_cons.2 ⟨h,t⟩
section
variable {P:Program} {w:World} {K:PySem.W.Frag}
end
section
variable {P:Program} {w:World} {K:PySem.W.Frag} {mg:Str→Option Value} {base:Heap} {k:Nat}
theorem cA.or{CX:aL}{f:Addr}{fd:FuncData}{ps:List Str}{a b:Sp}(A:cA P w K mg base CX k f fd ps a)(C:cA P w K mg base CX k f fd ps b):cA P w K mg base CX k f fd ps (B.dW a b):=
 ⟨fun vs H Q E h=>h.elim (A.len vs H Q E) (C.len vs H Q E),fun A' outer s H args us vs Q E hr e0 hb hv hs=>hs.elim (A.run A' outer s H args us vs Q E hr e0 hb hv) (C.run A' outer s H args us vs Q E hr e0 hb hv)⟩
theorem cA.weak{CX:aL}{f:Addr}{fd:FuncData}{ps:List Str}{a b:Sp}(A:cA P w K mg base CX k f fd ps b)(h: ∀vs H Q E,a vs H Q E→b vs H Q E):cA P w K mg base CX k f fd ps a:=
 ⟨fun vs H Q E q=>A.len vs H Q E (h _ _ _ _ q),fun A' outer s H args us vs Q E hr e0 hb hv hs=>A.run A' outer s H args us vs Q E hr e0 hb hv (h _ _ _ _ hs)⟩
theorem ck.weak{x:Str}{a b:Sp}(T:ck P w K mg base k x b)(h: ∀vs H Q E,a vs H Q E→b vs H Q E):ck P w K mg base k x a:=by
 obtain⟨f,fd,ps,F,r⟩:=T
 exact⟨f,fd,ps,F.weak h,r⟩
theorem jU.weak{x:Str}{C:Addr}{a b:Sp}(T:jU P w K mg base k (x,C,b))(h: ∀vs H Q E,a vs H Q E→b vs H Q E):jU P w K mg base k (x,C,a):=by
 obtain⟨c,f,fd,ps,m,F,r⟩:=T
 exact⟨c,f,fd,ps,m,F.weak h,r⟩
open PySem.W in
theorem DS{x:Str}{C:Addr}(X:K.In base)(G:base.Ns mainGlobals mg)(e:nsIn K mainGlobals x=some (some (.ref C)))(q:excIn K C [.type "ValueError", .type "Exception", .type "BaseException", .type "object"] "ValueError.__new__"=true):uh mg base (x,C):=by
 refine⟨_,_,_,_,⟨mg_of X G e, ?_⟩,PySem.F.excBase_ValueError⟩
 unfold excIn at q
 split at q
 ·rename_i dd cd sl ho
  split at q
  ·rename_i C' bm k0 k1 k2 k3 n k5 hm hs
   simp only[Bool.and_eq_true,beq_iff_eq,Bool.not_eq_true'] at q
   obtain⟨⟨⟨⟨⟨rfl,rfl⟩,PL⟩,ht⟩,aw⟩,w_⟩:=q
   obtain⟨nm,bs,mro,ns,qn,hd,sn,sub,ab,col,del⟩:=cd
   dsimp only at hm PL aw w_
   subst hm PL
   obtain⟨sl⟩:=sl
   have yt:sl=_:=hs
   subst yt
   exact⟨bm,ns,nm,qn,bs,hd,sn,sub,ab,col,dd,k0,k1,k2,k3,k5,_,X _ _ ho, .of_isNs (isNs_of_in X aw),nsMap_none_of_in X aw w_,tail_of_in X ht⟩
  ·cases q
 ·cases q
end
namespace B
theorem PM{K:PySem.W.Frag}{D cN c0 c1 c2 c3 c4 c5 c6 c7 c8 c9 ip iq ir:Addr}{b0 b1 b2 b3 b4 b5 b6 b7 b8 b9 DT DU iy:Bool}{j:Nat}(h:tq K D)(hi:kitOne K (.ref D) (.ref cN)=some true)(hv:kitOne K (.ref D) (.type "ValueError")=some true)
  (k0:kitOne K (.ref D) (.ref c0)=some b0) (k1:kitOne K (.ref D) (.ref c1)=some b1) (k2:kitOne K (.ref D) (.ref c2)=some b2) (k3:kitOne K (.ref D) (.ref c3)=some b3) (k4:kitOne K (.ref D) (.ref c4)=some b4)
  (k5:kitOne K (.ref D) (.ref c5)=some b5) (k6:kitOne K (.ref D) (.ref c6)=some b6) (k7:kitOne K (.ref D) (.ref c7)=some b7) (k8:kitOne K (.ref D) (.ref c8)=some b8) (k9:kitOne K (.ref D) (.ref c9)=some b9)
  (rY:kitOne K (.ref D) (.ref ip)=some DT) (rZ:kitOne K (.ref D) (.ref iq)=some DU) (r6:kitOne K (.ref D) (.ref ir)=some iy)
  (e:[b0,b1,b2,b3,b4,b5,b6,b7,b8,b9,DT,DU,iy]=(List.range 13).map fun i=>decide (i=j):=by decide):j3 K [c0,c1,c2,c3,c4,c5,c6,c7,c8,c9,ip,iq,ir] cN D j:=by
 refine⟨h,fun i c hc=> ?_,hi,hv⟩
 have cR:i<13:=(List.getElem?_eq_some_iff.mp hc).1
 have eb:=congrArg (fun l=>l[i]?) e
 match i,cR with
 | 0,_=>cases hc;have eb:some b0=some (decide (0=j)):=eb;rw[k0,eb]
 | 1,_=>cases hc;have eb:some b1=some (decide (1=j)):=eb;rw[k1,eb]
 | 2,_=>cases hc;have eb:some b2=some (decide (2=j)):=eb;rw[k2,eb]
 | 3,_=>cases hc;have eb:some b3=some (decide (3=j)):=eb;rw[k3,eb]
 | 4,_=>cases hc;have eb:some b4=some (decide (4=j)):=eb;rw[k4,eb]
 | 5,_=>cases hc;have eb:some b5=some (decide (5=j)):=eb;rw[k5,eb]
 | 6,_=>cases hc;have eb:some b6=some (decide (6=j)):=eb;rw[k6,eb]
 | 7,_=>cases hc;have eb:some b7=some (decide (7=j)):=eb;rw[k7,eb]
 | 8,_=>cases hc;have eb:some b8=some (decide (8=j)):=eb;rw[k8,eb]
 | 9,_=>cases hc;have eb:some b9=some (decide (9=j)):=eb;rw[k9,eb]
 | 10,_=>cases hc;have eb:some DT=some (decide (10=j)):=eb;rw[rY,eb]
 | 11,_=>cases hc;have eb:some DU=some (decide (11=j)):=eb;rw[rZ,eb]
 | 12,_=>cases hc;have eb:some iy=some (decide (12=j)):=eb;rw[r6,eb]
end B
end L2
namespace L2.dH
open PySem PySem.Spec L2.B
def jw(H:Hp)(v:V)(nm:Str×Nat):Prop:= ∃n,v= .ref n∧H n=some (.tup [.str nm.1, .int (nm.2:Nat)])
abbrev gJ(H:Hp):List V→List (Str×Nat)→Prop:=Paired (jw H)
theorem jw.mono{H H':Hp}{v:V}{nm:Str×Nat}(t:eY H H')(h:jw H v nm):jw H' v nm:=by
 obtain⟨n,e,h⟩:=h
 exact⟨n,e,t _ _ h⟩
theorem gJ.mono{H H':Hp}(t:eY H H'): ∀{vs:List V} {ns:List (Str×Nat)},gJ H vs ns→gJ H' vs ns
 | _,_, .nil=> .nil
 | _,_, .cons h r=> .cons (h.mono t) (gJ.mono t r)
def c_(nm:Str×Nat):PyData:= .tuple [.str nm.1, .int (nm.2:Nat)]
def gK(nm:Str×Nat):Prop:=PyData.strOk nm.1=true
theorem vG{nm:Str×Nat}(h:gK nm):SeqAt.shaped (c_ nm)=true:=by
 unfold SeqAt.shaped
 have e:(c_ nm).canLay0=true:=by
  show(PyData.strOk nm.1 && (true && true))=true
  rw[show PyData.strOk nm.1=true from h];rfl
 rw[e];rfl
theorem yT{H:Hp}{v:V}{nm:Str×Nat}(h:jw H v nm):Is H (c_ nm) v:=by
 obtain⟨n,e,h⟩:=h
 exact⟨n,_,e,h, .str nm.1,_,rfl,rfl, .int (nm.2:Nat),[],rfl,rfl,rfl⟩
theorem DV{H:Hp}: ∀{vs:List V} {ns:List (Str×Nat)},gJ H vs ns→IsL H (ns.map c_) vs
 | _,_, .nil=>rfl
 | _,_, .cons (a:=v) h r=> ⟨v,_,rfl,yT h,DV r⟩
theorem PN(a b:Str×Nat):PyData.eqv (c_ a) (c_ b)=decide (a=b):=by
 obtain⟨s,i⟩:=a
 obtain⟨t,j⟩:=b
 unfold c_
 simp only[PyData.eqv,PyData.eqvAll]
 by_cases h:s=t
 ·subst h
  by_cases h2:i=j
  ·subst h2;simp
  ·have: ¬((i:Int)=(j:Int)):=by omega
   simp[h2,this]
 ·simp[h]
theorem agW{K:PySem.W.Frag}{H:Hp}{v w:V}{a b:Str×Nat}{Q:VK}(ha:jw H v a)(hb:jw H w b)(oa:gK a)(ob:gK b)(q:Q (.bl (decide (a=b))) H):dz K .Eq v w H Q:=by
 have h1:=yT ha
 have h2:=yT hb
 obtain⟨n,rfl,_⟩:=ha
 obtain⟨m,rfl,_⟩:=hb
 refine⟨c_ a,c_ b,h1,h2,vG oa,vG ob, ?_⟩
 rw[PN,Bool.false_xor]
 exact q
theorem agX(ns:List (Str×Nat))(a:Str×Nat):((ns.map c_).any fun e=>PyData.eqv e (c_ a))=decide (a∈ns):=by
 rw[List.any_map]
 induction ns with
 | nil=>rfl
 | cons b ns ih=>
  rw[List.any_cons,ih]
  show(PyData.eqv (c_ b) (c_ a) || _)=_
  rw[PN]
  by_cases h:b=a
  ·subst h;simp
  ·have h':a≠b:=fun z=>h z.symm
   simp[h,h']
theorem agY{ns:List (Str×Nat)}(h: ∀nm∈ns,gK nm):SeqAt.shaped (.list (ns.map c_))=true:=by
 have go: ∀(l:List (Str×Nat)),(∀nm∈l,gK nm)→PyData.canLayAll0 (l.map c_)=true∧PyData.depthAll (l.map c_)≤1:=by
  intro l
  induction l with
  | nil=>intro _;exact⟨rfl,Nat.zero_le _⟩
  | cons b l ih=>
   intro hl
   obtain⟨c,d⟩:=ih fun x hx=>hl x (List.mem_cons_of_mem _ hx)
   have e:(c_ b).canLay0=true:=SeqAt.canLay_of_shaped (vG (hl b List.mem_cons_self))
   refine⟨?_, ?_⟩
   ·show((c_ b).canLay0 && PyData.canLayAll0 (l.map c_))=true
    rw[e,c];rfl
   ·show max (c_ b).depth (PyData.depthAll (l.map c_))≤1
    have:(c_ b).depth=1:=rfl
    omega
 obtain⟨c,d⟩:=go ns h
 unfold SeqAt.shaped
 have e:(PyData.list (ns.map c_)).canLay0=true:=c
 have e2:(PyData.list (ns.map c_)).depth≤64:=by show PyData.depthAll (ns.map c_)+1≤64;omega
 rw[e,decide_eq_true e2];rfl
theorem agZ{K:PySem.W.Frag}{H:Hp}{a b:Addr}{xs:List V}{ns:List (Str×Nat)}{Q:VK}(ha:H a=some (.lst xs))(hb:H b=some (.lst []))(hx:gJ H xs ns)(ho: ∀nm∈ns,gK nm)(q:Q (.bl (decide (ns=[]))) H):dz K .Eq (.ref a) (.ref b) H Q:=by
 refine⟨.list (ns.map c_), .list [],⟨a,xs,rfl,ha,DV hx⟩,⟨b,[],rfl,hb,rfl⟩,agY ho,(by decide), ?_⟩
 have e:(false ^^ PyData.eqv (.list (ns.map c_)) (.list []))=decide (ns=[]):=by
  cases ns with
  | nil=>rfl
  | cons p r=>rfl
 rw[e];exact q
theorem ag0(c:Nat):((⟨#[c]⟩:Str)==Str.ofString "a")=decide (c=97):=by
 by_cases h:c=97
 ·subst h;decide
 ·rw[decide_eq_false h]
  exact beq_eq_false_iff_ne.mpr fun z=>h (by have e:[c]=[97]:=congrArg (fun s:Str=>s.cps.toList) z;injection e)
def r9:Sp:=fun vs H Q E=> ∃(a:Addr) (v:V) (xs:List V) (R:List aE) (nm:Str×Nat),vs=[.ref a,v]∧H a=some (.lst xs)∧bS H xs R∧jw H v nm∧R.length≤10000∧(∀r∈R,gK (aK r))∧gK nm∧
 ∀(d:Addr) (H':Hp) (ys:List V),ax H H'→H d=none→H' d=some (.lst ys)→bS H' ys (told nm R)→Q (.ref d) H'
theorem ag1{K:PySem.W.Frag}(vs:List V)(H:Hp)(Q:VK)(E:XK)(h:r9 vs H Q E):ar (aQ K [] [] (E:=E)) Ce (Dn Q) (start Cd vs) H:=by
 obtain⟨a,v,xs,R,nm,rfl,ha,hR,hv,hl,ho,mF,q⟩:=h
 have lx:=Paired.length hR
 refine lJ ?_
 refine⟨_,rfl,a,rfl,⟨_,aj.of ha⟩,fun i m ys H2=>m=xs.length - i∧i≤xs.length∧ys.length=i∧ax H H2∧bS H2 ys (told nm (R.take i)),⟨_,rfl,Nat.zero_le _,rfl,ax.refl _, .nil⟩, ?_⟩
 rintro i m ys H2 ⟨rfl,hi,lG,s2,bB⟩
 by_cases aS:i<xs.length
 ·refine .inr ⟨⟨xs,xs[i],aj.of (s2 _ _ ha),by simp[aS]⟩, ?_⟩
  rintro x H3 ⟨rfl,hx⟩
  obtain⟨r,hr,t,n,rfl,ht,hn⟩:=hR.get (hx xs (aj.of (s2 _ _ ha)))
  have eO:=ho r (List.mem_of_getElem? hr)
  refine⟨t,_,rfl,aF.of (s2 _ _ ht),rfl, ?_⟩
  have e:told nm (R.take (i+1))=told nm (R.take i)++ [tell nm r]:=by
   unfold told
   rw[List.take_add_one,hr,List.map_append];rfl
  show ag (aQ K [] [] (E:=E)).calm (.tup [(.v 0),(.ix (.lst [(.v 1),(.ix (.c (.str "ab")) (.blt .int [(.cmp .Eq (.v 1) (.c (.str "a")))]))]) (.blt .int [(.cmp .Eq (.v 0) (.v 2))]))]) [some (.ref n),some (.str ⟨#[r.2.2]⟩),some v] H3 fun y H6=>ys.length<sizeLine∧ ∃m',m'<xs.length - i∧(m'=xs.length - (i+1)∧i+1≤xs.length∧(ys++ [y]).length=i+1∧ax H H6∧bS H6 (ys++ [y]) (told nm (R.take (i+1))))
  refine jq (Γ:=(aQ K [] [] (E:=E)).calm) (aC (aA rfl (aC (dJ (gX (aC (aA rfl (aC (dJ (aX (lI (aC (uQ (aA rfl (aX (iV (aV ?_)))))))))))))))))
  rw[ag0]
  refine .inr (.inr (.inl ⟨Str.ofString "ab",_,L2.B.flip r.2.2,rfl,rfl,(by decide), ?_, ?_⟩))
  ·unfold L2.B.flip
   by_cases h9:r.2.2=97
   ·rw[decide_eq_true h9,if_pos h9];rfl
   ·rw[decide_eq_false h9,if_neg h9];rfl
  refine aV (Γ:=(aQ K [] [] (E:=E)).calm) (σ:=[some (.ref n),some (.str ⟨#[r.2.2]⟩),some v]) ⟨(by show 2≤sizeLine;decide),fun l fl=> ?_⟩
  have z1:=sameNew (o:= .lst [V.str ⟨#[r.2.2]⟩,V.str ⟨#[L2.B.flip r.2.2]⟩]) fl
  refine lI (Γ:=(aQ K [] [] (E:=E)).calm) (aC (uQ (aA rfl (aA rfl (agW (a:=aK r) (b:=nm) ⟨n,rfl,z1 _ _ (s2 _ _ hn)⟩ (hv.mono (bf (s2.trans z1))) eO mF (aV ?_))))))
  have qf:eS [V.str ⟨#[r.2.2]⟩,V.str ⟨#[L2.B.flip r.2.2]⟩] (if decide (aK r=nm)=true then 1 else 0)=some (.str ⟨#[(tell nm r).2.2]⟩):=by
   unfold tell
   by_cases h9:aK r=nm
   ·rw[if_pos h9,if_pos (decide_eq_true h9)];rfl
   ·rw[if_neg h9,if_neg (by simpa using h9)];rfl
  refine .inl ⟨l,_,_,_,rfl,rfl,aj.of ay,qf, ?_⟩
  refine aV (Γ:=(aQ K [] [] (E:=E)).calm) (σ:=[some (.ref n),some (.str ⟨#[r.2.2]⟩),some v]) ⟨(by show 2≤sizeLine;decide),fun t1 ft=> ?_⟩
  have z2:=sameNew (o:= .tup [V.ref n,V.str ⟨#[(tell nm r).2.2]⟩]) ft
  have DW:=z1.trans z2
  refine⟨cU (by omega),xs.length - (i+1),by omega,rfl,aS,by simp[lG],s2.trans DW, ?_⟩
  rw[e]
  refine Paired.snoc (bB.mono (bf DW)) ⟨t1,n,rfl,ay, ?_⟩
  have sy:=DW _ _ (s2 _ _ hn)
  rw[sy,agM]
  congr 3
  have:=congrArg (fun p:Str×Nat=>p.2) (DN nm r)
  have e2:(tell nm r).2.1=r.2.1:=this
  rw[e2]
 ·have eK:i=xs.length:=by omega
  subst eK
  refine .inl ⟨⟨xs,aj.of (s2 _ _ ha),Nat.le_refl _⟩,fun p hp=> ?_⟩
  rw[lx,List.take_length] at bB
  have z:=sameNew (o:= .lst ys) hp
  exact q p _ ys (s2.trans z) (s2.free hp) ay (bB.mono (bf z))
def PQ(CC CF:Addr)(Q:VK):XK:=fun e o H1=>o=none∧((e= .ref CC∧ ∀H',ax H1 H'→Q (.str "change") H')∨(e= .ref CF∧ ∀H',ax H1 H'→Q (.str "fit") H'))
theorem ag2{CC CF:Addr}{vs:List V}{H:Hp}{Q:VK}{E E':XK}(hE: ∀e o H',ax H H'→E e o H'→E' e o H')(h:nz CC CF vs H Q E):nz CC CF vs H Q E':=by
 obtain⟨va,vb,e,⟨hn,q⟩ | ⟨a,xs,one,h1,h2,h3,h4,h5,h6,⟨hn,q⟩ | ⟨b,ys,other,g1,g2,g3,g4,g5,g6,qF,g7⟩⟩⟩:=h
 ·exact⟨va,vb,e, .inl ⟨hn,fun H' s=>hE _ _ _ s (q H' s)⟩⟩
 ·exact⟨va,vb,e, .inr ⟨a,xs,one,h1,h2,h3,h4,h5,h6, .inl ⟨hn,fun H' s=>hE _ _ _ s (q H' s)⟩⟩⟩
 ·exact⟨va,vb,e, .inr ⟨a,xs,one,h1,h2,h3,h4,h5,h6, .inr ⟨b,ys,other,g1,g2,g3,g4,g5,g6,fun H' s=>hE _ _ _ s (qF H' s),g7⟩⟩⟩
def fZ(CC CF:Addr):Sp:=fun vs H Q E=> ∃va vb,vs=[va,vb]∧(qe [va,vb] H Q E0∨nz CC CF [va,vb] H Q (PQ CC CF Q))
theorem ag3{K:PySem.W.Frag}{cs:List Addr}{cN CC CF:Addr}(kC:j3 K cs cN CC 1)(kF:j3 K cs cN CF 2)(xC:exmOne K (.ref CC) (.ref cN)=some true)(xF:exmOne K (.ref CF) (.ref cN)=some true)
  (vs:List V) (H:Hp) (Q:VK) (E:XK) (h:fZ CC CF vs H Q E):
  ar (aQ K [("then",dW qe (nz CC CF))] [("InkError", .ref cN)] (ht:=[("_law_word",u0 K cs cN)]) (E:=E)) Cg (Dn Q) (start Cf vs) H:=by
 obtain⟨va,vb,rfl,h⟩:=h
 have su: ∀(D:Addr) (j:Nat) (w:Str) (H1:Hp),j3 K cs cN D j→j<13→iQ.getD j ""=w→exmOne K (.ref D) (.ref cN)=some true→(∀H',ax H1 H'→Q (.str w) H')→
   Ar K cN 2 3 (fun ea=>ar {aQ K [("then",dW qe (nz CC CF))] [("InkError", .ref cN)] (ht:=[("_law_word",u0 K cs cN)]) (E:=E) with E:=E0,hv:=some ea} [.ret (.wQ 0 (.v 2))]) (Dn Q) (.ref D) none H1:=by
  intro D j w H1 hk hj hw hx q
  refine⟨hx,fun ea ob vs σ' kQ hl nV=> ?_⟩
  have s1:=sameNew (o:= .bQ ob mL) kQ
  have he:ExcAt (upd H1 ea (.bQ ob mL)) ea D:=⟨ob,vs,ay,nV⟩
  refine⟨_,(by rw[List.getElem?_set_self (by omega)]),⟨ea,D,rfl,he⟩,ea,D,j,rfl,he,hk,hj,fun H2 s2=> ?_⟩
  rw[hw]
  exact q _ (s1.trans s2)
 refine⟨cN,rfl,_,rfl,_,rfl, ?_⟩
 rcases h with h | h
 ·exact .inl h
 ·refine .inr (ag2 (E:=PQ CC CF Q) ?_ h)
  rintro e o H1 s1 ⟨rfl,⟨rfl,q⟩ | ⟨rfl,q⟩⟩
  ·exact su CC 1 "change" H1 kC (by decide) rfl xC q
  ·exact su CF 2 "fit" H1 kF (by decide) rfl xF q
theorem ag4{Γ:aG}{σ:St}{H:Hp}{Q:VK}{k:Nat}{a:Addr}{xs:List V}{R:List aE}(h0:σ[k]?=some (some (.ref a)))(ha:H a=some (.lst xs))(hR:bS H xs R)(hl:R.length≤10000)(q: ∀(d:Addr) (H':Hp) (ys:List V),ax H H'→H d=none→H' d=some (.lst ys)→gJ H' ys (R.map aK)→Q (.ref d) H'):
  ag Γ (.comp (some 2) [] .list [(.v k)] none (.v 0)) σ H Q:=by
 have lx:=Paired.length hR
 refine⟨_,h0,a,rfl,⟨_,aj.of ha⟩,fun i m ys H2=>m=xs.length - i∧i≤xs.length∧ys.length=i∧H2=H∧gJ H ys ((R.take i).map aK),⟨_,rfl,Nat.zero_le _,rfl,rfl, .nil⟩, ?_⟩
 rintro i m ys H2 ⟨rfl,hi,lG,rfl,bB⟩
 by_cases aS:i<xs.length
 ·refine .inr ⟨⟨xs,xs[i],aj.of ha,by simp[aS]⟩, ?_⟩
  rintro x H3 ⟨rfl,hx⟩
  obtain⟨r,hr,t,n,rfl,ht,hn⟩:=hR.get (hx xs (aj.of ha))
  refine⟨t,_,rfl,aF.of ht,rfl, ?_⟩
  refine⟨_,rfl,cU (by omega),xs.length - (i+1),by omega,rfl,aS,by simp[lG],rfl, ?_⟩
  rw[List.take_add_one,hr,List.map_append]
  exact Paired.snoc bB ⟨n,rfl,hn⟩
 ·have eK:i=xs.length:=by omega
  subst eK
  refine .inl ⟨⟨xs,aj.of ha,Nat.le_refl _⟩,fun p hp=> ?_⟩
  rw[lx,List.take_length] at bB
  have z:=sameNew (o:= .lst ys) hp
  exact q p _ ys z hp ay (bB.mono (bf z))
theorem ag5{Γ:aG}{σ:St}{H:Hp}{Q:VK}{a p5:Addr}{xs x5:List V}{R:List aE}{ns:List (Str×Nat)}(h1:σ[1]?=some (some (.ref a)))(h5:dc σ [("_law_there",5)]=[some (.ref p5)])(ha:H a=some (.lst xs))(hR:bS H xs R)(hl:R.length≤10000)(g5:H p5=some (.lst x5))(qu:gJ H x5 ns)(ho: ∀r∈R,gK (aK r))(ho5: ∀nm∈ns,gK nm)
  (q: ∀(d:Addr) (H':Hp) (ys:List V),ax H H'→H d=none→H' d=some (.lst ys)→gJ H' ys ((R.map aK).filter fun nm=> !decide (nm∈ns))→Q (.ref d) H'):
  ag Γ (.comp (some 2) [("_law_there",5)] .list [(.v 1)] (some (.tF (.v 0) (.v 2))) (.v 0)) σ H Q:=by
 have lx:=Paired.length hR
 refine⟨_,h1,a,rfl,⟨_,aj.of ha⟩,fun i m ys H2=>m=xs.length - i∧i≤xs.length∧ys.length≤i∧H2=H∧gJ H ys (((R.take i).map aK).filter fun nm=> !decide (nm∈ns)),⟨_,rfl,Nat.zero_le _,Nat.le_refl _,rfl, .nil⟩, ?_⟩
 rintro i m ys H2 ⟨rfl,hi,lG,rfl,bB⟩
 by_cases aS:i<xs.length
 ·refine .inr ⟨⟨xs,xs[i],aj.of ha,by simp[aS]⟩, ?_⟩
  rintro x H3 ⟨rfl,hx⟩
  obtain⟨r,hr,t,n,rfl,ht,hn⟩:=hR.get (hx xs (aj.of ha))
  have eO:=ho r (List.mem_of_getElem? hr)
  refine⟨t,_,rfl,aF.of ht,rfl, ?_⟩
  rw[h5]
  have e:((R.take (i+1)).map aK).filter (fun nm=> !decide (nm∈ns))=(((R.take i).map aK).filter fun nm=> !decide (nm∈ns))++ (if aK r∈ns then [] else [aK r]):=by
   rw[List.take_add_one,hr,List.map_append,List.filter_append]
   congr 1
   show List.filter _ [aK r]=_
   by_cases h9:aK r∈ns
   ·simp[h9]
   ·simp[h9]
  have nv:jw H3 (.ref n) (aK r):=⟨n,rfl,hn⟩
  refine⟨_,rfl,_,rfl,p5,x5,c_ (aK r),ns.map c_,rfl,aj.of g5,yT nv,DV qu,vG eO,(by show 1≤60;decide),(fun d hd=>by obtain⟨b,hb,rfl⟩:=List.mem_map.mp hd;exact vG (ho5 b hb)),_,rfl, ?_⟩
  rw[agX,Bool.true_xor]
  by_cases h9:aK r∈ns
  ·rw[decide_eq_true h9]
   refine⟨xs.length - (i+1),by omega,rfl,aS,by omega,rfl, ?_⟩
   rw[e,if_pos h9,List.append_nil];exact bB
  ·rw[decide_eq_false h9]
   refine⟨_,rfl,cU (by omega),xs.length - (i+1),by omega,rfl,aS,by simp;omega,rfl, ?_⟩
   rw[e,if_neg h9]
   exact Paired.snoc bB nv
 ·have eK:i=xs.length:=by omega
  subst eK
  refine .inl ⟨⟨xs,aj.of ha,Nat.le_refl _⟩,fun p hp=> ?_⟩
  rw[lx,List.take_length] at bB
  have z:=sameNew (o:= .lst ys) hp
  exact q p _ ys z hp ay (bB.mono (bf z))
theorem PR(who:Str): ∀(l:List Nat) (m:Nat),aR (eN who m l)=l
 | [],m=>rfl
 | c::l,m=>by show c::aR (eN who (m+1) l)=_;rw[PR who l (m+1)]
theorem DX(who:Str): ∀(l:List Nat) (m:Nat) (r:aE),r∈eN who m l→r.1=who∧m≤r.2.1
 | [],m,r,h=>by cases h
 | c::l,m,r,h=>by
  rcases List.mem_cons.mp (show r∈ (who,m,c)::eN who (m+1) l from h) with rfl | h
  ·exact⟨rfl,Nat.le_refl _⟩
  ·obtain⟨a,b⟩:=DX who l (m+1) r h
   exact⟨a,by omega⟩
theorem names_nodup(who:Str): ∀(l:List Nat) (m:Nat),((eN who m l).map aK).Nodup
 | [],m=>List.nodup_nil
 | c::l,m=>by
  show(aK (who,m,c)::(eN who (m+1) l).map aK).Nodup
  refine List.nodup_cons.mpr ⟨fun hm=> ?_,names_nodup who l (m+1)⟩
  obtain⟨r,hr,e⟩:=List.mem_map.mp hm
  have:=(DX who l (m+1) r hr).2
  have e2:r.2.1=m:=congrArg (fun p:Str×Nat=>p.2) e
  omega
theorem DY{R:List aE}{l:List Nat}(h:aR R=l)(hl: ∀c∈l,SG.cps.contains c=true):iz R:=fun r hr=>hl _ (by rw[←h];exact List.mem_map_of_mem hr)
theorem PU{s:Str}(h:s≠""):1≤s.length:=by
 obtain⟨c,r,e⟩:=ik h
 rw[len_list,e];simp
theorem PV: ∀(ps:List Pt) (w:Str),chainOk w ps=true→(∀p∈ps,br p)→ps.length≤2*aJ ps+1∧(w="keep"→ps.length≤2*aJ ps)
 | [],w,_,_=> ⟨Nat.zero_le _,fun _=>Nat.zero_le _⟩
 | p::ps,w,hc,ho=>by
  simp only[chainOk,Bool.and_eq_true] at hc
  have hp:=ho p (.head _)
  obtain⟨i1,i2⟩:=PV ps p.word hc.2 fun q hq=>ho q (.tail _ hq)
  have et:aJ (p::ps)=cZ p+aJ ps:=by simp[aJ]
  rw[et,List.length_cons]
  cases p with
  | keep n=>
   have:=i2 rfl
   have ek:cZ (.keep n)=0:=rfl
   exact⟨by omega,fun z=>absurd z (Of hc.1)⟩
  | put s=>have h1:1≤cZ (.put s):=PU hp.2;exact⟨by omega,fun _=>by omega⟩
  | cut s=>have h1:1≤cZ (.cut s):=PU hp.2;exact⟨by omega,fun _=>by omega⟩
structure bI (l m r:List Nat) (one other:List Pt):Prop where
 c1:jt one l m
 c2:jt other m r
 gl: ∀c∈l,SG.cps.contains c=true
 gm: ∀c∈m,SG.cps.contains c=true
 gr: ∀c∈r,SG.cps.contains c=true
 ll:l.length≤5000
 lm:m.length≤5000
 lr:r.length≤9000
 n1:one.length≤305
 n2:other.length≤305
 t1:aJ one≤4000
 t2:aJ other≤4000
def cP(l:List Nat):List aE:=eN "old" 0 l
def bW(l:List Nat)(one:List Pt):List aE:=bP "one" (cP l) 0 (ak one)
def dG(l:List Nat)(one other:List Pt):List aE:=bP "other" (bW l one) 0 (ak other)
section
variable {l m r:List Nat} {one other:List Pt}
theorem yU: ∀q∈cP l,q.1="old":=fun q hq=> (DX _ _ _ q hq).1
theorem DZ: ∀q∈bW l one,q.1="old"∨q.1="one":=fun q hq=>by
 rcases jv _ _ _ q hq with z | z
 ·exact .inl (yU q z)
 ·exact .inr z.1
theorem ag7: ∀q∈dG l one other,q.1="old"∨q.1="one"∨q.1="other":=fun q hq=>by
 rcases jv _ _ _ q hq with z | z
 ·rcases DZ q z with y | y
  ·exact .inl y
  ·exact .inr (.inl y)
 ·exact .inr (.inr z.1)
theorem D0{q:aE}(h:q.1="old"∨q.1="one"∨q.1="other"):gK (aK q):=by
 show PyData.strOk q.1=true
 rcases h with h | h | h<;>rw[h] <;>decide+kernel
theorem bI.nO(S:bI l m r one other):((cP l).map aK).Nodup:=names_nodup _ _ _
theorem bI.sO(S:bI l m r one other):aR (cP l)=l:=PR _ _ _
theorem r_:(cP l).length=l.length:=rE _ _ _
theorem yV: ∀q∈cP l,q.1≠"one":=fun q hq z=>by rw[yU q hq] at z;exact absurd z (by decide)
theorem D1: ∀q∈bW l one,q.1≠"other":=fun q hq z=>by
 rcases DZ q hq with y | y<;> (rw[y] at z;exact absurd z (by decide))
theorem PX: ∀q∈cP l,q.1≠"other":=fun q hq z=>by rw[yU q hq] at z;exact absurd z (by decide)
theorem bI.nM(S:bI l m r one other):((bW l one).map aK).Nodup:=rV _ _ _ S.nO yV
theorem bI.sM(S:bI l m r one other):aR (bW l one)=m:=by
 have h:=(S.c1.run.fits).2
 have:=nu (who:="one") (ak one) (cP l) 0
 rw[S.sO,h] at this
 exact this.symm
theorem bI.sB(S:bI l m r one other):aR (dG l one other)=r:=by
 have h:=(S.c2.run.fits).2
 have:=nu (who:="other") (ak other) (bW l one) 0
 rw[S.sM,h] at this
 exact this.symm
theorem yW(R:List aE):(aR R).length=R.length:=by unfold aR;rw[List.length_map]
theorem bI.sf(S:bI l m r one other):(bW l one).length=m.length:=by rw[←yW,S.sM]
theorem bI.si(S:bI l m r one other):(dG l one other).length=r.length:=by rw[←yW,S.sB]
theorem bI.D2(S:bI l m r one other):dm (bW l one) 0 (dG l one other):=lV D1 _ _ _ _ (by have:=DM S.nM _ 0 rfl (Nat.zero_le _);rw[List.drop_zero] at this;exact this)
theorem bI.yX(S:bI l m r one other):dm (cP l) 0 (dG l one other):=lV PX _ _ _ _ (lV yV _ _ _ _ (by have:=DM S.nO _ 0 rfl (Nat.zero_le _);rw[List.drop_zero] at this;exact this))
theorem bI.r1(S:bI l m r one other):(bW l one).map (dq (cP l))=res 0 (ak one):=by
 have h:=j5 _ _ (S.c1.run.fits).1
 have:=vD S.nO yV (ak one) 0 0 (by rw[r_];omega)
 rw[List.drop_zero] at this
 exact this
theorem bI.r2(S:bI l m r one other):(dG l one other).map (dq (bW l one))=res 0 (ak other):=by
 have h:=j5 _ _ (S.c2.run.fits).1
 have:=vD S.nM D1 (ak other) 0 0 (by rw[S.sf];omega)
 rw[List.drop_zero] at this
 exact this
theorem bI.sub(S:bI l m r one other):B.sub ((bW l one).map (dq (cP l))) 0 ((dG l one other).map (dq (bW l one)))=(dG l one other).map (dq (cP l)):=by
 refine agK S.nM fun q hq=> ?_
 rcases jv _ _ _ q hq with z | z
 ·exact .inl z
 ·refine .inr ⟨rS fun hm=> ?_,rS fun hm=> ?_⟩
  ·obtain⟨q',hJ,e⟩:=List.mem_map.mp hm
   exact PX q' hJ ((congrArg (fun p:Str×Nat=>p.1) e).trans z.1)
  ·obtain⟨q',hJ,e⟩:=List.mem_map.mp hm
   exact D1 q' hJ ((congrArg (fun p:Str×Nat=>p.1) e).trans z.1)
theorem bI.yY(S:bI l m r one other):iz (cP l):=DY S.sO S.gl
theorem bI.sj(S:bI l m r one other):iz (bW l one):=DY S.sM S.gm
theorem bI.sk(S:bI l m r one other):iz (dG l one other):=DY S.sB S.gr
theorem bI.due(S:bI l m r one other){ps:List Pt}{r':List Nat}(J:nq one other ps l r'):ps=dv (gI (cP l) (dG l one other)):=by
 have h1:=S.si
 have h2:=S.lr
 have h3:=S.ll
 obtain⟨r'',hc,hr⟩:=DK S.yX S.yY S.sk (by rw[r_];omega) (by omega)
 rw[S.sO] at hc
 refine O7 J.chg hc ?_
 rw[J.res,hr,←S.sub,S.r1,S.r2]
def ee(l:List Nat)(one other:List Pt)(nm:Str×Nat):List Pt:=dv (gI (told nm (bW l one)) (dG l one other))
theorem bI.ee(S:bI l m r one other)(nm:Str×Nat): ∃r',jt (dH.ee l one other nm) (aR (told nm (bW l one))) r'∧res 0 (ak (dH.ee l one other nm))=res 0 (ak other):=by
 have h1:=S.si
 have h2:=S.lr
 have h3:=S.sf
 have h4:=S.lm
 obtain⟨r',hc,hr⟩:=DK (qg (nm:=nm) S.D2) (DP S.sj) S.sk (by rw[lW];omega) (by omega)
 refine⟨r',hc, ?_⟩
 unfold dH.ee
 rw[hr,←S.r2]
 exact List.map_congr_left fun q _=>PJ nm _ q
theorem bI.ag_(S:bI l m r one other)(nm:Str×Nat):(dH.ee l one other nm).length≤28001∧B.aJ (dH.ee l one other nm)≤14000:=by
 have h1:=S.si
 have h2:=S.lr
 have h3:=S.sf
 have h4:=S.lm
 have iX:=PF (O:=told nm (bW l one)) (N:=dG l one other) (DP S.sj) S.sk (by rw[lW];omega)
 have ht:=vC (qg (nm:=nm) S.D2)
 rw[lW] at ht
 refine⟨?_, ?_⟩
 ·have aw:=(uI _ iX (by omega)).2.1
  have hc:=(uI _ iX (by omega)).1
  have yK:B.aJ (dH.ee l one other nm)≤14000:=by unfold dH.ee;rw[yh _ iX];omega
  have:=(PV _ _ hc aw).1
  unfold dH.ee at yK⊢
  omega
 ·unfold dH.ee;rw[yh _ iX];omega
theorem aha{R:List aE}{nm:Str×Nat}(h:nm∈R.map aK): ∃(p:Nat) (q:aE),R[p]?=some q∧aK q=nm:=by
 obtain⟨q,hq,e⟩:=List.mem_map.mp h
 obtain⟨p,hp,e2⟩:=List.getElem_of_mem hq
 exact⟨p,q,by rw[←e2];exact List.getElem?_eq_getElem hp,e⟩
theorem bI.cC(S:bI l m r one other):B.cC (ak one)=m.length:=by
 rw[←vj _ _ S.c1.run.fits.1,S.c1.run.fits.2]
theorem bI.ahb(S:bI l m r one other){nm:Str×Nat}(h1:nm.1="one")(hm:nm∈ (bW l one).map aK)(hb:nm∉ (dG l one other).map aK):B.cC (ak one)=cE (ak (dH.ee l one other nm))∧bx (ak one) (ak (dH.ee l one other nm)):=by
 obtain⟨r',hc,hr⟩:=S.ee nm
 have hf:=hc.run.fits.1
 have hg:B.cC (ak one)=cE (ak (dH.ee l one other nm)):=by
  rw[←j5 _ _ hf,yW,lW,S.sf,S.cC]
 refine⟨hg, ?_⟩
 rcases lX _ (ak one) (ak (dH.ee l one other nm)) (Nat.le_refl _) hg with z | ⟨zs,z⟩
 ·exact z
 exfalso
 obtain⟨p,q,hp,hq⟩:=aha hm
 have aS:p< (bW l one).length:=(List.getElem?_eq_some_iff.mp hp).1
 have e1:(res 0 (ak one))[p]?=some (.inr q.2.2):=by
  rw[←S.r1,List.getElem?_map,hp]
  show some (dq (cP l) q)=_
  rw[rT (rS fun hz=> ?_)]
  obtain⟨q',hJ,e⟩:=List.mem_map.mp hz
  refine yV q' hJ ?_
  have:(aK q').1=(aK q).1:=congrArg (fun p:Str×Nat=>p.1) e
  exact this.trans (by rw[hq];exact h1)
 have e2:cutAt (ak (dH.ee l one other nm)) p=some (B.flip q.2.2):=by
  rw[yS _ _ 0 p hf (by rw[yW,lW];exact aS) ?_]
  ·unfold aR told
   rw[List.map_map,List.getElem?_map,hp]
   show some (tell nm q).2.2=_
   unfold tell
   rw[if_pos hq]
  ·rw[hr,←S.r2,Nat.zero_add]
   intro hz
   obtain⟨q',hJ,e⟩:=List.mem_map.mp hz
   cases hx:idx (bW l one) q' with
   | none=>rw[rT hx] at e;cases e
   | some j=>
    rw[yP hx] at e
    injection e with e
    subst e
    obtain⟨hj,e3⟩:=Px hx
    have e4:(bW l one)[j]=q:=by
     have:=List.getElem?_eq_getElem hj
     rw[hp] at this
     exact(Option.some.inj this).symm
    rw[e4,hq] at e3
    exact hb (by rw[e3];exact List.mem_map_of_mem hJ)
 exact agL _ (agO z 0 p _ _ e1 e2).symm
theorem bI.old(S:bI l m r one other){nm:Str×Nat}(h1:nm.1≠"one")(hm:nm∈ (bW l one).map aK):jt one (aR (told nm (cP l))) (aR (told nm (bW l one))):=by
 refine⟨S.c1.ok,S.c1.ch, ?_⟩
 have hf:=yR h1 (ak one) (cP l) 0 S.nO (by rw[S.sO];exact S.c1.run.fits.1) hm
 have h:=pR one _ (fun p hp=>uU (S.c1.ok p hp)) hf
 rw[nu (who:="one") (ak one) _ 0,rW h1] at h
 exact h
theorem bI.ahc(S:bI l m r one other){nm:Str×Nat}{ps:List Pt}{r':List Nat}(J:nq one (dH.ee l one other nm) ps (aR (told nm (cP l))) r'):ps=dv (gI (told nm (cP l)) (dG l one other)):=by
 have h1:=S.si
 have h2:=S.lr
 have h3:=S.ll
 obtain⟨r'',hc,hr⟩:=DK (qg (nm:=nm) S.yX) (DP S.yY) S.sk (by rw[lW,r_];omega) (by omega)
 obtain⟨_,_,ho⟩:=S.ee nm
 refine O7 J.chg hc ?_
 rw[J.res,hr,ho,←S.r1,←S.r2,S.sub]
 exact List.map_congr_left fun q _=> (PJ nm _ q).symm
end
section
variable {CC CF:Addr} {H:Hp} {Q:VK} {E:XK}
theorem PY{a b:Addr}{one other:List Pt}{l m r:List Nat}(h1:cy H a one l m)(h2:cy H b other m r)(hl:one.length+other.length≤30000)(ht:aJ one+aJ other≤100000)
  (q: ∀(c:Addr) (H':Hp) (ps:List Pt),ax H H'→H c=none→cy H' c ps l r→nq one other ps l r→Q (.ref c) H'):fZ CC CF [.ref a, .ref b] H Q E:=
 ⟨_,_,rfl, .inl (agq h1 h2 hl ht q)⟩
theorem D3{a b:Addr}{one other:List Pt}{l m m' r:List Nat}(h1:cy H a one l m)(h2:cy H b other m' r)(l1:one.length≤30000)(l2:other.length≤30000)(hz:m.length≠m'.length∨bx (ak one) (ak other))(q: ∀H',ax H H'→Q (.str "fit") H'):fZ CC CF [.ref a, .ref b] H Q E:=by
 obtain⟨xs,a1,a2,a3⟩:=h1
 obtain⟨ys,b1,b2,b3⟩:=h2
 refine⟨_,_,rfl, .inr ⟨_,_,rfl, .inr ⟨a,xs,one,rfl,a1,a2,a3.ok,a3.ch,l1, .inr ⟨b,ys,other,rfl,b1,b2,b3.ok,b3.ch,l2,fun H1 s1=> ⟨rfl, .inr ⟨rfl,fun H2 s2=>q _ (s1.trans s2)⟩⟩, ?_⟩⟩⟩⟩
 rw[a3.run.gives,b3.run.over]
 by_cases e:m.length=m'.length
 ·rcases hz with z | z
  ·exact absurd e z
  ·exact .inr ⟨by rw[e],z⟩
 ·exact .inl (by omega)
theorem ahd{va vb:V}(h:jY va H)(q: ∀H',ax H H'→Q (.str "change") H'):fZ CC CF [va,vb] H Q E:=
 ⟨_,_,rfl, .inr ⟨_,_,rfl, .inl ⟨h,fun H1 s1=> ⟨rfl, .inl ⟨rfl,fun H2 s2=>q _ (s1.trans s2)⟩⟩⟩⟩⟩
theorem ahe{a:Addr}{vb:V}{one:List Pt}{l m:List Nat}(h1:cy H a one l m)(l1:one.length≤30000)(h:jY vb H)(q: ∀H',ax H H'→Q (.str "change") H'):fZ CC CF [.ref a,vb] H Q E:=by
 obtain⟨xs,a1,a2,a3⟩:=h1
 exact⟨_,_,rfl, .inr ⟨_,_,rfl, .inr ⟨a,xs,one,rfl,a1,a2,a3.ok,a3.ch,l1, .inl ⟨h,fun H1 s1=> ⟨rfl, .inl ⟨rfl,fun H2 s2=>q _ (s1.trans s2)⟩⟩⟩⟩⟩⟩
end
abbrev ahf(CC CF:Addr):List (Str×Sp):=[("_law_found",fZ CC CF),("_law_between",lU),("_law_told_otherwise",r9),("_law_same",nr)]
def vH:Sp:=fun vs H Q E=> ∃(a0 a1 a2 a3:Addr) (c:Int) (x0 x1 x2:List V) (l m r:List Nat) (one other:List Pt),vs=[.ref a0, .ref a1, .ref a2, .ref a3, .int c]∧bI l m r one other∧H a0=some (.lst x0)∧bS H x0 (cP l)∧H a1=some (.lst x1)∧bS H x1 (bW l one)∧H a2=some (.lst x2)∧bS H x2 (dG l one other)∧cy H a3 one l m∧
 ∀H',ax H H'→Q (.bl true) H'
theorem gJ.get{H:Hp}: ∀{vs:List V} {rs:List (Str×Nat)} {i:Nat} {v:V},gJ H vs rs→vs[i]?=some v→ ∃r,rs[i]?=some r∧jw H v r
 | _,_,i,v, .nil,e=>by simp at e
 | _,_,0,v, .cons h r,e=>by simp at e;subst e;exact⟨_,rfl,h⟩
 | _,_,i+1,v, .cons h r,e=>by
  obtain⟨p,a,b⟩:=gJ.get (i:=i) r (by simpa using e)
  exact⟨p,by simpa using a,b⟩
theorem ahg{K:PySem.W.Frag}{CC CF:Addr}(vs:List V)(H:Hp)(Q:VK)(E:XK)(h:vH vs H Q E):ar (aQ K (ahf CC CF) [] (E:=E)) Cj (Dn Q) (start Ci vs) H:=by
 obtain⟨a0,a1,a2,a3,c,x0,x1,x2,l,m,r,one,other,rfl,S,g0,v0,g1,v1,g2,v2,ch,q⟩:=h
 have lM:=S.sf
 have lB:=S.si
 have lO:(cP l).length=l.length:=r_
 have b1:=S.ll
 have b2:=S.lm
 have b3:=S.lr
 have sj: ∀r∈bW l one,gK (aK r):=fun q hq=>D0 ((DZ q hq).imp_right .inl)
 have yY: ∀r∈cP l,gK (aK r):=fun q hq=>D0 (.inl (yU q hq))
 have sk: ∀nm∈ (dG l one other).map aK,gK nm:=fun nm hn=>by
  obtain⟨q,hq,rfl⟩:=List.mem_map.mp hn
  exact D0 (ag7 q hq)
 refine cx (ag4 (a:=a2) (R:=dG l one other) rfl g2 v2 (by omega) fun d5 H1 y5 s1 f5 h5 n5=> ?_)
 refine LP (ag5 (a:=a1) (R:=bW l one) (p5:=d5) rfl rfl (s1 _ _ g1) (v1.mono (bf s1)) (by omega) h5 n5 sj sk fun d6 H2 y6 s2 f6 h6 n6=> ?_)
 have g8:=s1.trans s2
 generalize dX:(((bW l one).map aK).filter fun nm=> !decide (nm∈ (dG l one other).map aK))=cut at n6
 have PZ: ∀nm∈cut,nm∈ (bW l one).map aK∧nm∉ (dG l one other).map aK:=by
  intro nm hn
  rw[←dX] at hn
  obtain⟨i,j⟩:=List.mem_filter.mp hn
  exact⟨i,by simpa using j⟩
 have P0: ∀nm∈cut,gK nm:=fun nm hn=>by
  obtain⟨q,hq,rfl⟩:=List.mem_map.mp (PZ nm hn).1
  exact sj q hq
 refine d_ (dP (aA rfl (gX (aV ⟨Nat.zero_le _,fun e fe=> ?_⟩))))
 have s3:=sameNew (o:= .lst []) fe
 refine agZ (s3 _ _ h6) ay (n6.mono (bf s3)) P0 ⟨_,rfl, ?_⟩
 have fX:=g8.trans s3
 by_cases hc:cut=[]
 ·rw[decide_eq_true hc]
  exact lJ (aX (q _ fX))
 rw[decide_eq_false hc]
 have hlc:=Paired.length n6
 have tU:0<cut.length:=List.length_pos_iff.mpr hc
 have D4:=s3 _ _ h6
 have P2:=n6.mono (bf s3)
 have hle:y6.length≤100000:=by
  rw[hlc,←dX]
  have:=List.length_filter_le (fun nm=> !decide (nm∈ (dG l one other).map aK)) ((bW l one).map aK)
  rw[List.length_map] at this
  omega
 generalize upd H2 e (.lst [])=H3 at s3 fX D4 P2⊢
 have j0:0≤c % (y6.length:Int):=Int.emod_nonneg _ (by omega)
 have j1:c % (y6.length:Int) <y6.length:=Int.emod_lt_of_pos _ (by omega)
 obtain⟨v,hv,qf⟩:=pick j0 j1
 obtain⟨k,hk⟩:=List.getElem?_of_mem hv
 obtain⟨nm,hnm,nv⟩:=gJ.get P2 hk
 have P4:nm∈cut:=List.mem_of_getElem? hnm
 obtain⟨hM,hB⟩:=PZ nm P4
 have mF:=P0 nm P4
 refine cx (dJ (aA rfl (e8 (aA rfl (lI (aC (aA rfl (aV (.inl ⟨y6,aj.of D4,⟨(by show(0:Int) < (y6.length:Int);omega), ?_⟩⟩)))))))))
 refine .inl ⟨d6,y6,_,v,rfl,rfl,aj.of D4,qf, ?_⟩
 obtain⟨n,rfl,hn⟩:=nv
 have nv:jw H3 (.ref n) nm:=⟨n,rfl,hn⟩
 refine cx (cf (fZ CC CF) rfl (aC (aA rfl (aC (cf lU rfl (aC (cf r9 rfl (aC (aA rfl (aC (aA rfl (aV ⟨a1,_,x1,bW l one,nm,rfl,fX _ _ g1,v1.mono (bf fX),nv,by omega,sj,mF,fun d7 H4 y7 s4 f7 h7 v7=> ?_⟩))))))))))))
 have jx:=fX.trans s4
 have ht:=vC (qg (nm:=nm) S.D2)
 have tl:=lW nm (bW l one)
 have nn:=S.nM
 rw[←PH nm] at nn
 refine aC (aA rfl (aV ⟨d7,a2,y7,x2,told nm (bW l one),dG l one other,rfl,h7,v7,jx _ _ g2,v2.mono (bf jx),nn,by omega,by omega,by omega,fun d8 H5 y8 s5 f8 h8 p8=>aV ?_⟩))
 have yZ:=jx.trans s5
 obtain⟨r',hco,eO⟩:=S.ee nm
 obtain⟨ol,ot⟩:=S.ag_ nm
 have co:cy H5 d8 (dH.ee l one other nm) (aR (told nm (bW l one))) r':=⟨y8,h8,p8,hco⟩
 have n1:=S.n1
 have t1:=S.t1
 by_cases h1:nm.1="one"
 ·refine D3 (ch.same yZ) co (by omega) (by omega) (.inr (S.ahb h1 hM hB).2) fun H6 s6=> ?_
  have qJ:=(s5.trans s6) _ _ (s4 _ _ hn)
  refine d_ (dP (dJ (aA rfl (aX (rL qJ rfl (aX (iV ⟨_,rfl,iT ?_ (by rw[h1];exact beq_self_eq_true _)⟩)))))))
  refine lJ (uQ (aA rfl (aX (iV ?_))))
  rw[beq_self_eq_true]
  exact q _ (yZ.trans s6)
 ·have c1:cy H5 a3 one (aR (told nm (cP l))) (aR (told nm (bW l one))):=by
   obtain⟨xs,e1,e2,_⟩:=ch.same yZ
   exact⟨xs,e1,e2,S.old h1 hM⟩
  refine PY c1 co (by omega) (by omega) fun d9 H6 ps s6 f9 ch9 J=> ?_
  have qJ:=(s5.trans s6) _ _ (s4 _ _ hn)
  refine d_ (dP (dJ (aA rfl (aX (rL qJ rfl (aX (iV ⟨_,rfl,iF ?_ (beq_eq_false_iff_ne.mpr h1)⟩)))))))
  have qi:=yZ.trans s6
  have e:=S.ahc J
  have jW:=vC (qg (nm:=nm) S.yX)
  have tl2:=lW nm (cP l)
  have P5:=S.nO
  rw[←PH nm] at P5
  refine lJ (cf nr rfl (aC (aA rfl (aC (cf lU rfl (aC (cf r9 rfl (aC (aA rfl (aC (aA rfl (aV ⟨a0,_,x0,cP l,nm,rfl,qi _ _ g0,v0.mono (bf qi),⟨n,rfl,qJ⟩,by omega,yY,mF,fun d10 H7 y10 s7 vI h10 v10=> ?_⟩))))))))))))
  have D5:=qi.trans s7
  refine aC (aA rfl (aV ⟨d10,a2,y10,x2,told nm (cP l),dG l one other,rfl,h10,v10,D5 _ _ g2,v2.mono (bf D5),P5,by omega,by omega,by omega,fun d11 H8 y11 s8 vJ h11 p11=>aV ?_⟩))
  obtain⟨zs,z1,z2,_⟩:=ch9.same (s7.trans s8)
  rw[e] at z2
  exact⟨d9,d11,zs,y11,_,rfl,z1,h11,z2,p11,fun H9 s9=>q _ ((D5.trans s8).trans s9)⟩
abbrev sm(K:PySem.W.Frag)(CC CF:Addr):List (Str×Sp):=[("_law_text",pI),("_law_cell_at",ux K),("_law_size",uL),("_law_change",nc),("_law_done",pY),("_law_named",vd),("_law_gone",rF),("_law_found",fZ CC CF),("_law_same",nr),("_law_between",lU),("done",rk),("_law_mixed",lq),("_law_cut_otherwise",vH),("_law_neat",jm)]
def y0(K:PySem.W.Frag):Sp:=fun vs H Q E=> ∃(a:Addr) (ns:List Int),vs=[.ref a]∧aj K H a (ns.map V.int)∧ ∀H',Q (.bl true) H'
theorem ahs{Γ:aG}{σ:St}{H:Hp}{Q:VK}{a b:RE}(h:ag Γ a σ H fun x H1=> ∃c,x= .bl c∧if c=true then ag Γ b σ H1 Q else Q (.bl false) H1):ag Γ (.and [a,b]) σ H Q:=h
theorem D6{K:PySem.W.Frag}{H:Hp}{Q:VK}{x:Str}(q:Q (.bl false) H):dz K .NotEq (.str x) (.str x) H Q:=by
 refine yG ?_
 rw[show(x !=x)=false by simp];exact q
theorem P6{K:PySem.W.Frag}{H:Hp}{Q:VK}{x:Str}(q:Q (.bl true) H):dz K .Eq (.str x) (.str x) H Q:=by
 refine iV ?_
 rw[show(x==x)=true by simp];exact q
theorem aht{K:PySem.W.Frag}{H:Hp}{Q:VK}{i j m:Int}(e:(if j>i then j else i)=m)(q:Q (.int m) H):mO K .max [.int i, .int j] H Q:=by subst e;exact q
theorem so(i:Int):0≤i % 9∧i % 9≤100:=⟨Int.emod_nonneg _ (by decide),by have:=Int.emod_lt_of_pos i (show(0:Int) <9 by decide);omega⟩
theorem D7:br (.put "a")∧br (.put "b"):=by
 refine⟨⟨⟨by decide, ?_⟩,by decide⟩,⟨by decide, ?_⟩,by decide⟩
 ·intro c hc
  have:c∈ [97]:=hc
  rw[List.mem_singleton.mp this];decide+kernel
 ·intro c hc
  have:c∈ [98]:=hc
  rw[List.mem_singleton.mp this];decide+kernel
theorem ahu{K:PySem.W.Frag}{H:Hp}{a b a1 a2 b1 b2:Addr}{p q:List Pt}{l m r l' m' r' s s':List Nat}{Q:VK}(ha:H a=some (.lst [.ref a1, .ref a2]))(hb:H b=some (.lst [.ref b1, .ref b2]))(h1:cy H a1 p l m)(h2:cy H a2 q m' r)(h3:cy H b1 p l' s)(h4:cy H b2 q s' r')(k:Q (.bl false) H):
  dz K .NotEq (.ref a) (.ref b) H Q:=by
 obtain⟨x1,x2,x3,x4⟩:=h1
 obtain⟨y1,y2,y3,y4⟩:=h2
 obtain⟨z1,z2,z3,z4⟩:=h3
 obtain⟨w1,w2,w3,w4⟩:=h4
 have o1: ∀t∈p,rj t:=fun t ht=>CM (x4.ok t ht)
 have o2: ∀t∈q,rj t:=fun t ht=>CM (y4.ok t ht)
 have sh:SeqAt.shaped (.list [.list (p.map toD), .list (q.map toD)])=true:=by
  obtain⟨c1,d1⟩:=CL p o1
  obtain⟨c2,d2⟩:=CL q o2
  unfold SeqAt.shaped
  have e:(PyData.list [.list (p.map toD), .list (q.map toD)]).canLay0=true:=by
   show((PyData.canLayAll0 (p.map toD)) && ((PyData.canLayAll0 (q.map toD)) && true))=true
   rw[c1,c2];rfl
  have e2:(PyData.list [.list (p.map toD), .list (q.map toD)]).depth≤64:=by
   show max (PyData.depthAll (p.map toD)+1) (max (PyData.depthAll (q.map toD)+1) 0)+1≤64
   omega
  rw[e,decide_eq_true e2];rfl
 refine⟨.list [.list (p.map toD), .list (q.map toD)], .list [.list (p.map toD), .list (q.map toD)],⟨a,_,rfl,ha,_,_,rfl,⟨a1,x1,rfl,x2,uJ x3⟩,_,_,rfl,⟨a2,y1,rfl,y2,uJ y3⟩,rfl⟩,⟨b,_,rfl,hb,_,_,rfl,⟨b1,z1,rfl,z2,uJ z3⟩,_,_,rfl,⟨b2,w1,rfl,w2,uJ w3⟩,rfl⟩,sh,sh, ?_⟩
 rw[SeqAt.eqv_refl _ (SeqAt.canLay_of_shaped sh)]
 exact k
section
variable {K:PySem.W.Frag} {CC CF a:Addr} {ns:List Int} {Q:VK} {E:XK}
theorem lY{H:Hp}{σ:St}{Q':VK}(ha:aj K H a (ns.map V.int))(i:Int)(e0:σ[0]?=some (some (.ref a)))(hi:0≤i)(q:Q' (.int (cell ns i.toNat)) H):ag (aQ K (sm K CC CF) [] (E:=E)) (.call 1 [(.v 0),(.c (.int i))]) σ H Q':=
 cf (ux K) rfl (aC (aA e0 (aC (aX (aV ⟨a,ns,i,rfl,ha,hi,q⟩)))))
variable (k: ∀H',Q (.bl true) H')
include k
theorem P7(b2 b4:Addr)(one other:List Pt)(l m r:List Nat)(c:Int)(H:Hp)(u1 u3 u5 u6 u7 u8 u9 lZ u12 u13:Option V)(c2:cy H b2 one l m)(c4:cy H b4 other m r)(n1:one.length≤305):
  ar (aQ K (sm K CC CF) [] (E:=E)) (cc.drop 14) (Dn Q) [some (.ref a),u1,some (.ref b2),u3,some (.ref b4),u5,u6,u7,u8,u9,lZ,some (.int c),u12,u13,none] H:=by
 refine cx (dJ (gX (aC (gX (aC (jq (aC (aX (aC (aX (aV ⟨(by show 2≤sizeLine;decide),fun t1 f1=>aV ⟨(by show 1≤sizeLine;decide),fun l1 g1=> ?_⟩⟩)))))))))))
 refine aC (aX (aC (aX (aC (gX (aC (jq (aC (aX (aC (aX (aV ⟨(by show 2≤sizeLine;decide),fun t2 f2=> ?_⟩))))))))))))
 refine aC (jq (aC (aX (aC (aX (aV ⟨(by show 2≤sizeLine;decide),fun t3 f3=>aV ⟨(by show 2≤sizeLine;decide),fun l2 g2=>aV ⟨(by show 4≤sizeLine;decide),fun l3 g3=> ?_⟩⟩⟩))))))
 have s1:=sameNew (o:= .tup [V.str "keep",V.int 0]) f1
 have s2:=sameNew (o:= .lst [V.ref t1]) g1
 have s3:=sameNew (o:= .tup [V.str "put",V.str "a"]) f2
 have s4:=sameNew (o:= .tup [V.str "put",V.str "b"]) f3
 have s5:=sameNew (o:= .lst [V.ref t2,V.ref t3]) g2
 have s6:=sameNew (o:= .lst [V.ref l1,V.aq,V.str "keep",V.ref l2]) g3
 have e1:=s6 _ _ (s5 _ _ (s4 _ _ (s3 _ _ (s2 _ _ (ay (H:=H) (a:=t1) (o:= .tup [V.str "keep",V.int 0]))))))
 have e2:=s6 _ _ (s5 _ _ (s4 _ _ (s3 _ _ (ay (a:=l1) (o:= .lst [V.ref t1])))))
 have e3:=s6 _ _ (s5 _ _ (s4 _ _ (ay (a:=t2) (o:= .tup [V.str "put",V.str "a"]))))
 have e4:=s6 _ _ (s5 _ _ (ay (a:=t3) (o:= .tup [V.str "put",V.str "b"])))
 have e5:=s6 _ _ (ay (a:=l2) (o:= .lst [V.ref t2,V.ref t3]))
 have qi:=((((s1.trans s2).trans s3).trans s4).trans s5).trans s6
 generalize hits:[V.ref l1,V.aq,V.str "keep",V.ref l2]=its at e1 e2 e3 e4 e5 qi⊢
 have e6:=ay (H:=upd (upd (upd (upd (upd H t1 (.tup [V.str "keep",V.int 0])) l1 (.lst [V.ref t1])) t2 (.tup [V.str "put",V.str "a"])) t3 (.tup [V.str "put",V.str "b"])) l2 (.lst [V.ref t2,V.ref t3])) (a:=l3) (o:= .lst its)
 generalize upd (upd (upd (upd (upd (upd H t1 (.tup [V.str "keep",V.int 0])) l1 (.lst [V.ref t1])) t2 (.tup [V.str "put",V.str "a"])) t3 (.tup [V.str "put",V.str "b"])) l2 (.lst [V.ref t2,V.ref t3])) l3 (.lst its)=H6 at e1 e2 e3 e4 e5 e6 qi⊢
 have hit:its.length=4:=by rw[←hits];rfl
 have ahx: ∀v∈its,jY v H6:=by
  intro v hv
  rw[←hits] at hv
  simp only[List.mem_cons,List.not_mem_nil,or_false] at hv
  rcases hv with rfl | rfl | rfl | rfl
  ·exact .inr ⟨l1,_,rfl,e2,[], .ref t1,[],[],rfl, .nil,(fun p hp=>by cases hp),rfl, .inl (.inr ⟨t1,_,rfl,e1,(by show 2≤1000000;decide), .inr ⟨_,_,rfl, .inr (.inr (.inl ⟨rfl, .inr ⟨0,rfl,by decide⟩⟩))⟩⟩)⟩
  ·exact .inl rfl
  ·exact .inl rfl
  ·refine .inr ⟨l2,_,rfl,e5,[.ref t2], .ref t3,[],[.put "a"],rfl, .cons ⟨t2,rfl,e3⟩ .nil,(fun p hp=>by rw[List.mem_singleton.mp hp];exact D7.1),(by decide), .inr ⟨.put "b",⟨t3,rfl,e4⟩,D7.2,(by decide)⟩⟩
 obtain⟨v,hv,qf⟩:=pick (its:=its) (j:=c % 4) (Int.emod_nonneg _ (by decide)) (by rw[hit];exact Int.emod_lt_of_pos _ (by decide))
 refine e8 (aA rfl (aX ⟨(by show(0:Int) <4;decide), .inl ⟨l3,its,_,v,rfl,rfl,aj.of e6,qf, ?_⟩⟩))
 have hb:=ahx v hv
 refine lJ (ahs (uQ (cf (fZ CC CF) rfl (aC (aA rfl (aC (aA rfl (aV (ahd hb fun H7 s7=>aX (P6 ⟨_,rfl,dZ ?_⟩))))))))))
 refine uQ (cf (fZ CC CF) rfl (aC (aA rfl (aC (aA rfl (aV (ahe (c2.same (qi.trans s7)) (by omega) ?_ fun H8 s8=>aX (P6 (k _)))))))))
 rcases hb with h | ⟨a',xs,e,h1,h2⟩
 ·exact .inl (h.same s7)
 ·exact .inr ⟨a',xs,e,s7 _ _ h1,h2.same s7⟩
theorem ahy(b2 b4:Addr)(one other:List Pt)(l m r:List Nat)(c:Int)(H:Hp)(u1 u5 u6 u7 u8 u9 lZ:Option V)(ha:aj K H a (ns.map V.int))(gm:good ⟨m.toArray⟩)(lm:m.length≤5000)(c2:cy H b2 one l m)(c4:cy H b4 other m r)(n1:one.length≤305):
  ar (aQ K (sm K CC CF) [] (E:=E)) (cc.drop 11) (Dn Q) [some (.ref a),u1,some (.ref b2),some (.str ⟨m.toArray⟩),some (.ref b4),u5,u6,u7,u8,u9,lZ,some (.int c),none,none,none] H:=by
 have P8:(⟨m.toArray⟩:Str).length=m.length:=iR m
 have la:(Str.ofString "a").length=1:=rfl
 have ga:good (⟨m.toArray⟩++Str.ofString "a"):=afv gm D7.1.1 (by omega)
 refine cx (cf nc rfl (aC (lY ha 5 rfl (by decide) (aC (e8 (aA rfl (aX ⟨bL (by omega), ?_⟩)))))))
 refine aC (e8 (lY ha 4 rfl (by decide) (aX ⟨(by show(0:Int) <9;decide),aV ?_⟩)))
 refine Dw ga (by rw[ig];omega) (so _).1 (so _).2 fun iy H1 lon r1 s1 f1 D8 l1 t1 g1 lr1=> ?_
 rw[app_list] at D8
 have ahz:(⟨m.toArray⟩:Str).cps.toList=m:=rfl
 rw[ahz] at D8
 refine cx (cf jm rfl (aC (gX (aC (jq (aC (aX (aC (lI (aC (aX (aC (e8 (lI (aC (aA rfl (aV ⟨bL (by omega:(⟨m.toArray⟩:Str).length≤1000000),aX ?_⟩)))))))))))))))))
 have em:(if (((⟨m.toArray⟩:Str).length:Int) - 1) >0 then (((⟨m.toArray⟩:Str).length:Int) - 1) else 0)=(m.dropLast.length:Int):=by
  rw[List.length_dropLast,P8];split<;>omega
 refine⟨trivial,aV (aht em (aV ⟨(by show 2≤sizeLine;decide),fun t ht=>aV ⟨(by show 1≤sizeLine;decide),fun d hd=>aV ?_⟩⟩))⟩
 have s2:ax H1 (upd (upd H1 t (.tup [V.str "keep",V.int (m.dropLast.length:Int)])) d (.lst [V.ref t])):=(sameNew ht).trans (sameNew hd)
 have jW:=sameNew (o:= .lst [V.ref t]) hd _ _ (ay (H:=H1) (a:=t) (o:= .tup [V.str "keep",V.int (m.dropLast.length:Int)]))
 refine ags (l:=m.dropLast) ay jW (by rw[List.length_dropLast];omega) fun b13 H3 s3 f3 D9=> ?_
 have fX:=(s1.trans s2).trans s3
 obtain⟨_,_,_,ka,kt⟩:=O8 (n:=m.dropLast.length)
 refine d_ (N3 (dP (cf (fZ CC CF) rfl (aC (aA rfl (aC (aA rfl (aV ?_))))))))
 refine D3 (c2.same fX) (D8.same (s2.trans s3)) (by omega) (by omega) (.inl (by rw[List.length_append];show m.length≠m.length+1;omega)) fun H4 s4=>aX (D6 ⟨_,rfl,iF ?_ rfl⟩)
 have jx:=fX.trans s4
 refine aeL (dP (aA rfl (aX (yG ⟨_,rfl, ?_⟩))))
 by_cases he:m=[]
 ·subst he
  refine iF (iF ?_ rfl) (by decide)
  exact P7 k b2 b4 one other l [] r c H4 _ _ _ _ _ _ _ _ _ _ (c2.same jx) (c4.same jx) n1
 ·refine iT ?_ ?_
  ·refine dP (cf (fZ CC CF) rfl (aC (aA rfl (aC (aA rfl (aV ?_))))))
   have hp:0<m.length:=List.length_pos_iff.mpr he
   refine D3 (c2.same jx) (D9.same s4) (by omega) (by omega) (.inl (by rw[List.length_dropLast];omega)) fun H5 s5=>aX (D6 ⟨_,rfl,iF ?_ rfl⟩)
   exact P7 k b2 b4 one other l m r c H5 _ _ _ _ _ _ _ _ _ _ (c2.same (jx.trans s5)) (c4.same (jx.trans s5)) n1
  ·have:(⟨m.toArray⟩:Str)≠"":=fun z=>he (congrArg (fun s:Str=>s.cps.toList) z)
   simpa using this
theorem ahA(b2 b4 b5 b6 b7:Addr)(x5 x6 x7:List V)(one other:List Pt)(l m r:List Nat)(H:Hp)(u1 u8 u9 lZ:Option V)(ha:aj K H a (ns.map V.int))(gm:good ⟨m.toArray⟩)(S:bI l m r one other)(c2:cy H b2 one l m)(c4:cy H b4 other m r)
  (h5:H b5=some (.lst x5)) (v5:bS H x5 (cP l)) (h6:H b6=some (.lst x6)) (v6:bS H x6 (bW l one)) (h7:H b7=some (.lst x7)) (v7:bS H x7 (dG l one other)):
  ar (aQ K (sm K CC CF) [] (E:=E)) (cc.drop 9) (Dn Q) [some (.ref a),u1,some (.ref b2),some (.str ⟨m.toArray⟩),some (.ref b4),some (.ref b5),some (.ref b6),some (.ref b7),u8,u9,lZ,none,none,none,none] H:=by
 refine cx (cf lq rfl (aC (lY ha 6 rfl (by decide) (aC (aX (aV ⟨_,_,rfl, ?_⟩))))))
 refine d_ (N1 (N2 vH rfl (aC (aA rfl (aC (aA rfl (aC (aA rfl (aC (aA rfl (aC (e8 (aA rfl (aX ⟨⟨by decide,by decide⟩,aV ?_⟩))))))))))))))
 refine⟨b5,b6,b7,b2,_,x5,x6,x7,l,m,r,one,other,rfl,S,h5,v5,h6,v6,h7,v7,c2,fun H1 s1=>N0 (iF ?_ rfl)⟩
 exact ahy k b2 b4 one other l m r _ H1 _ _ _ _ _ _ _ (s1.seq ha) gm S.lm (c2.same s1) (c4.same s1) S.n1
theorem ahB(x:Str)(b2 b4 b5 b6 b7 b8 p8 q8:Addr)(x5 x6 x7:List V)(one other:List Pt)(m r:List Nat)(H:Hp)(ha:aj K H a (ns.map V.int))(hx:good x)(gm:good ⟨m.toArray⟩)(S:bI x.cps.toList m r one other)(c2:cy H b2 one x.cps.toList m)(c4:cy H b4 other m r)
  (h5:H b5=some (.lst x5)) (v5:bS H x5 (cP x.cps.toList)) (h6:H b6=some (.lst x6)) (v6:bS H x6 (bW x.cps.toList one)) (h7:H b7=some (.lst x7)) (v7:bS H x7 (dG x.cps.toList one other))
  (h8:H b8=some (.lst [.ref p8, .ref q8])) (cp:cy H p8 one x.cps.toList m) (cq:cy H q8 other m r):
  ar (aQ K (sm K CC CF) [] (E:=E)) (cc.drop 8) (Dn Q) [some (.ref a),some (.str x),some (.ref b2),some (.str ⟨m.toArray⟩),some (.ref b4),some (.ref b5),some (.ref b6),some (.ref b7),some (.ref b8),none,none,none,none,none,none] H:=by
 have n1:=S.n1
 have n2:=S.n2
 have t1:=S.t1
 have t2:=S.t2
 have lB:=S.si
 have lO:(cP x.cps.toList).length=x.cps.toList.length:=r_
 have lr:=S.lr
 have ll:=S.ll
 have uP:=vC S.yX
 refine⟨2,rfl,by decide,by decide,zB (lo:=0) (n:=2) (fun i σ H2=> ∃u9 lZ:Option V,σ=[some (.ref a),some (.str x),some (.ref b2),some (.str ⟨m.toArray⟩),some (.ref b4),some (.ref b5),some (.ref b6),some (.ref b7),some (.ref b8),u9,lZ,none,none,none,none]∧ax H H2) ⟨_,_,rfl,ax.refl _⟩ ?_ ?_⟩
 ·rintro i σ H2 hi ⟨u9,lZ,rfl,s2⟩
  refine cx (cf (fZ CC CF) rfl (aC (dJ (aA rfl (aX (.inl ⟨b8,_,_, .ref p8,rfl,rfl,aj.of (s2 _ _ h8),rfl, ?_⟩))))))
  refine aC (dJ (aA rfl (aX (.inl ⟨b8,_,_, .ref q8,rfl,rfl,aj.of (s2 _ _ h8),rfl,aV ?_⟩))))
  refine PY (cp.same s2) (cq.same s2) (by omega) (by omega) fun c3 H3 ps s3 f3 D9 J=> ?_
  have vK:=s2.trans s3
  have e:=S.due J
  have jl:=J.len
  refine d_ (N3 (N1 (N2 nr rfl (aC (aA rfl (aC (cf lU rfl (aC (aA rfl (aC (aA rfl (aV ?_))))))))))))
  refine⟨b5,b7,x5,x7,cP x.cps.toList,_,rfl,vK _ _ h5,v5.mono (bf vK),vK _ _ h7,v7.mono (bf vK),S.nO,by omega,by omega,by omega,fun d H4 ys s4 f4 h4 p4=>aV ?_⟩
  obtain⟨zs,z1,z2,z3⟩:=D9
  refine⟨c3,d,zs,ys,ps,rfl,s4 _ _ z1,h4,z2.mono (bf s4),by rw[e];exact p4,fun H5 s5=>N0 (iF ?_ rfl)⟩
  have P9:=s4.trans s5
  have nj:=vK.trans P9
  refine dP (aA rfl (gX (aC (aA rfl (aC (aA rfl (aV ⟨(by show 2≤sizeLine;decide),fun g fg=> ?_⟩)))))))
  have s6:=sameNew (o:= .lst [V.ref b2,V.ref b4]) fg
  have nA:=nj.trans s6
  refine ahu (nA _ _ h8) ay (cp.same nA) (cq.same nA) (c2.same nA) (c4.same nA) ⟨_,rfl,iF ?_ rfl⟩
  generalize upd H5 g (.lst [V.ref b2,V.ref b4])=H6 at s6 nA⊢
  have D_:=P9.trans s6
  have ch6:cy H6 c3 ps x.cps.toList r:=⟨zs,D_ _ _ z1,z2.mono (bf D_),z3⟩
  refine d_ (dP (cf rk rfl (aC (aA rfl (aC (aA rfl (aV (agr hx ch6 (by omega) (by omega) fun H7 s7=> ?_))))))))
  refine cf pY rfl (aC (aA rfl (aC (aA rfl (aV ?_)))))
  refine O9 gm (c4.same (nA.trans s7)) (by omega) (D6 ⟨_,rfl,iF ?_ rfl⟩)
  have z7:=s7 _ _ (D_ _ _ z1)
  have f7:H c3=none:=s2.free f3
  have lz:=Paired.length z2
  refine gC (gF (aA rfl ⟨.inl ⟨rfl,_,aj.of z7⟩, ?_⟩))
  refine jq (aC (aX (aC (aX (aV ⟨(by show 2≤sizeLine;decide),fun t ft=> ?_⟩)))))
  have s8:=sameNew (o:= .tup [V.str "keep",V.int 1]) ft
  refine⟨zs,s8 _ _ z7,cU (by omega), ?_⟩
  have s28:=(nA.trans s7).trans s8
  refine⟨_,_,rfl,fun b o hb=> ?_⟩
  rw[aI (bz hb f7)]
  exact s28 _ _ hb
 ·rintro σ H2 ⟨u9,lZ,rfl,s2⟩
  exact ahA k b2 b4 b5 b6 b7 x5 x6 x7 one other x.cps.toList m r H2 _ _ _ _ (s2.seq ha) gm S (c2.same s2) (c4.same s2) (s2 _ _ h5) (v5.mono (bf s2)) (s2 _ _ h6) (v6.mono (bf s2)) (s2 _ _ h7) (v7.mono (bf s2))
end
theorem ahE{K:PySem.W.Frag}{CC CF:Addr}(vs:List V)(H:Hp)(Q:VK)(E:XK)(h:y0 K vs H Q E):ar (aQ K (sm K CC CF) [] (E:=E)) cc (Dn Q) (start eI vs) H:=by
 obtain⟨a,ns,rfl,ha,k⟩:=h
 refine cx (cf pI rfl (aC (lY ha 1 rfl (by decide) (aC (cf uL rfl (aC (lY ha 0 rfl (by decide) (aV ⟨_,rfl,fun n pJ dA=>aV ?_⟩))))))))
 refine⟨_,n,rfl,pJ,by omega,fun x H1 hx rm s1=> ?_⟩
 have lx:=len_list x
 have hx4:x.length≤400:=by omega
 refine cx (cf nc rfl (aC (lY (s1.seq ha) 3 rfl (by decide) (aC (aA rfl (aC (e8 (lY (s1.seq ha) 2 rfl (by decide) (aX ⟨(by show(0:Int) <9;decide),aV ?_⟩)))))))))
 refine Dw hx (by omega) (so _).1 (so _).2 fun b2 H2 one m s2 f2 y9 l2 t2 gm lm=> ?_
 have g8:=s1.trans s2
 have P8:(⟨m.toArray⟩:Str).length=m.length:=iR m
 refine cx (cf pY rfl (aC (aA rfl (aC (aA rfl (aV (O9 hx y9 (by omega) ?_)))))))
 refine cx (cf nc rfl (aC (lY (g8.seq ha) 5 rfl (by decide) (aC (aA rfl (aC (e8 (lY (g8.seq ha) 4 rfl (by decide) (aX ⟨(by show(0:Int) <9;decide),aV ?_⟩)))))))))
 refine Dw gm (by omega) (so _).1 (so _).2 fun b4 H4 other r s4 f4 Ea l4 t4 gr lr=> ?_
 have jx:=g8.trans s4
 have S:bI x.cps.toList m r one other:=⟨y9.chg,Ea.chg,hx.2,gm.2,gr.2,by omega,by omega,by omega,l2,l4,t2,t4⟩
 have lM:=S.sf
 have lO:(cP x.cps.toList).length=x.cps.toList.length:=r_
 refine cx (cf vd rfl (aC (aA rfl (aV ⟨x,rfl,by omega,fun b5 H5 x5 s5 f5 h5 v5=> ?_⟩))))
 obtain⟨y2,g2,p2,_⟩:=y9.same (s4.trans s5)
 refine cx (cf rF rfl (aC (aA rfl (aC (aA rfl (aC (aX (aV ?_))))))))
 refine⟨b5,b2,"one",x5,y2,_,one,x.cps.toList,m,rfl,h5,v5,g2,p2,S.c1.ok,S.c1.run,lO.symm,by show(cP x.cps.toList).length≤_;omega,by omega,fun b6 H6 x6 s6 f6 h6 v6=> ?_⟩
 obtain⟨y4,g4,p4,_⟩:=Ea.same (s5.trans s6)
 refine cx (cf rF rfl (aC (aA rfl (aC (aA rfl (aC (aX (aV ?_))))))))
 refine⟨b6,b4,"other",x6,y4,_,other,m,r,rfl,h6,v6,g4,p4,S.c2.ok,S.c2.run,lM.symm,by show(bW x.cps.toList one).length≤_;omega,by omega,fun b7 H7 x7 s7 f7 h7 v7=> ?_⟩
 have Eb:=s6.trans s7
 have c2:=y9.same ((s4.trans s5).trans Eb)
 have c4:=Ea.same (s5.trans Eb)
 have c2':=c2
 have c4':=c4
 obtain⟨w2,i2,j2,k2⟩:=c2'
 obtain⟨w4,i4,j4,k4⟩:=c4'
 refine cx (gX (aC (lI (aC (aA rfl (aV ⟨w2, .inl (aj.of i2),fun p8 fp=> ?_⟩))))))
 have s8:=sameNew (o:= .lst w2) fp
 refine aC (lI (aC (aA rfl (aV ⟨w4, .inl (aj.of (s8 _ _ i4)),fun q8 fq=>aV ⟨(by show 2≤sizeLine;decide),fun b8 fb=> ?_⟩⟩))))
 have s9:=sameNew (o:= .lst w4) fq
 have tY:=sameNew (o:= .lst [V.ref p8,V.ref q8]) fb
 have l_:=s8.trans (s9.trans tY)
 have cp:cy (upd (upd (upd H7 p8 (.lst w2)) q8 (.lst w4)) b8 (.lst [V.ref p8,V.ref q8])) p8 one x.cps.toList m:=⟨w2,tY _ _ (s9 _ _ ay),j2.mono (bf l_),k2⟩
 have cq:cy (upd (upd (upd H7 p8 (.lst w2)) q8 (.lst w4)) b8 (.lst [V.ref p8,V.ref q8])) q8 other m r:=⟨w4,tY _ _ ay,j4.mono (bf l_),k4⟩
 have Ec:=Eb.trans l_
 exact ahB k x b2 b4 b5 b6 b7 b8 p8 q8 x5 x6 x7 one other m r _ (((jx.trans s5).trans Ec).seq ha) hx gm S (c2.same l_) (c4.same l_) (Ec _ _ h5) (v5.mono (bf Ec)) ((s7.trans l_) _ _ h6) (v6.mono (bf (s7.trans l_))) (l_ _ _ h7) (v7.mono (bf l_)) ay cp cq
end L2.dH
namespace L2.dH
open PySem PySem.Spec PyProof.Rows L2.B
theorem all_mk{l:PySem.W.OpenLaw}{w:World}{K:PySem.W.Frag}{h:Heap}{mg:Str→Option Value}{fa f0 f1 f2 f3 f4 f5 f6 f7 f8 f9 vI vJ y_ Ed Ee Ef Eg Eh Ei Ej Ek El Em En Eo Ep Er Es Et Eu Ew Ex Ey Ez EA EB EC ED:Addr}{bu:Addr}{iY:Addr}{gL:Addr}{bM:Addr}{bF:Addr}{ma:Addr}{me:Addr}{mf:Addr}{mh:Addr}{mi:Addr}{mj:Addr}{mq:Addr}{mr:Addr}{mv:Addr}{mw:Addr}(X:K.In h)(G:h.Ns mainGlobals mg)(p3:mg "law"=some (.ref fa))
  {od0 an0:Option Addr} {sl0:Array (Option Value)} {oc0 kV0 dc0 pm0 P_ ct0:Value}
  {od1 an1:Option Addr} {sl1:Array (Option Value)} {oc1 kV1 dc1 pm1 Qa ct1:Value}
  {od2 an2:Option Addr} {nQ:Array (Option Value)} {oc2 kV2 dc2 pm2 Qc ct2:Value}
  {od3 an3:Option Addr} {tR:Array (Option Value)} {oc3 kV3 dc3 pm3 Qd ct3:Value}
  {od4 an4:Option Addr} {sl4:Array (Option Value)} {oc4 kV4 dc4 pm4 Qe ct4:Value}
  {od5 an5:Option Addr} {sl5:Array (Option Value)} {oc5 kV5 dc5 pm5 Qg ct5:Value}
  {od6 an6:Option Addr} {sl6:Array (Option Value)} {oc6 kV6 dc6 pm6 Qh ct6:Value}
  {od7 an7:Option Addr} {sl7:Array (Option Value)} {oc7 kV7 dc7 pm7 Qi ct7:Value}
  {od8 an8:Option Addr} {sl8:Array (Option Value)} {oc8 kV8 dc8 pm8 Qj ct8:Value}
  {od9 an9:Option Addr} {sl9:Array (Option Value)} {oc9 kV9 dc9 pm9 Qk ct9:Value}
  {aiX aiY:Option Addr} {aiZ:Array (Option Value)} {ai0 ai1 ai2 ai3 Ql ai4:Value}
  {ai5 ai6:Option Addr} {ai7:Array (Option Value)} {ai8 ai9 ai_ aja Qm ajb:Value}
  {ajc ajd:Option Addr} {aje:Array (Option Value)} {ajf ajg ajh aji Qn ajj:Value}
  {ajk ajl:Option Addr} {ajm:Array (Option Value)} {ajn ajo ajp ajq Qo ajr:Value}
  {ajs ajt:Option Addr} {aju:Array (Option Value)} {ajv ajw ajx ajy Qp ajz:Value}
  {ajA ajB:Option Addr} {ajC:Array (Option Value)} {ajD ajE ajF ajG Qq ajH:Value}
  {ajI ajJ:Option Addr} {ajK:Array (Option Value)} {ajL ajM ajN ajO Qr ajP:Value}
  {ajQ ajR:Option Addr} {ajS:Array (Option Value)} {ajT ajU ajV ajW Qs ajX:Value}
  {ajY ajZ:Option Addr} {aj0:Array (Option Value)} {aj1 aj2 aj3 aj4 Qt aj5:Value}
  {aj6 aj7:Option Addr} {aj8:Array (Option Value)} {aj9 aj_ aka akb Qu akc:Value}
  {akd ake:Option Addr} {akf:Array (Option Value)} {akg akh aki akj Qw akk:Value}
  {akl akm:Option Addr} {akn:Array (Option Value)} {ako akp akq akr Qx aks:Value}
  {akt aku:Option Addr} {akv:Array (Option Value)} {akw akx aky akz Qy akA:Value}
  {akB akC:Option Addr} {akD:Array (Option Value)} {akE akF akG akH Qz akI:Value}
  {akJ akK:Option Addr} {akL:Array (Option Value)} {akM akN akO akP QC akQ:Value}
  {akR akS:Option Addr} {akT:Array (Option Value)} {akU akV akW akX QD akY:Value}
  {akZ ak0:Option Addr} {ak1:Array (Option Value)} {ak2 ak3 ak4 ak5 QE ak6:Value}
  {ak7 ak8:Option Addr} {ak9:Array (Option Value)} {ak_ ala alb alc QF ald:Value}
  {ale alf:Option Addr} {alg:Array (Option Value)} {alh ali alj alk QG alm:Value}
  {aln alo:Option Addr} {alp:Array (Option Value)} {alq alr als alu QH alv:Value}
  {alw alx:Option Addr} {aly:Array (Option Value)} {alz alA alB alC QI alD:Value}
  {alE alF:Option Addr} {alG:Array (Option Value)} {alH alI alJ alK QJ alL:Value}
  {alM alN:Option Addr} {alO:Array (Option Value)} {alP alQ alR alS QK alT:Value}
  {alU alV:Option Addr} {alW:Array (Option Value)} {alX alY alZ al0 QL al1:Value}
  {al2 al4:Option Addr} {al5:Array (Option Value)} {al6 al7 al8 al9 QM al_:Value}
  {ama amb:Option Addr} {amc:Array (Option Value)} {amd ame amf amg QN amh:Value}
  {ami amj:Option Addr} {amk:Array (Option Value)} {aml amm amn amo QO amq:Value}
  {amr QP:Option Addr} {ams:Array (Option Value)} {amt QR QS QU EE QV:Value}
  {amu:Tok}
  (EF:PySem.W.nsIn K mainGlobals "Walk"=some (some (.ref bu)))
  (EG:plainGet K bu Str.empty=true)
  (EH:hasDictIn K bu=true)
  (EI:plainOver K bu=true)
  (EJ:PySem.W.findIn K (.ref bu) "__setattr__"=some (some (.builtin "object.__setattr__")))
  (EK:makesIn K bu=true)
  (EL:keepIn K (.ref bu)=true)
  (EM:PySem.W.findIn K (.ref bu) "parts"=some none)
  (EN:PySem.W.findIn K (.ref bu) "passed_by"=some none)
  (EO:PySem.W.findIn K (.ref bu) "offset"=some none)
  (ER:PySem.W.nsIn K mainGlobals "InkError"=some (some (.ref iY)))
  (za:PySem.W.nsIn K mainGlobals "BadText"=some (some (.ref gL)))
  (zb:PySem.W.nsIn K mainGlobals "BadChange"=some (some (.ref bM)))
  (zc:PySem.W.nsIn K mainGlobals "BadFit"=some (some (.ref bF)))
  (ES:PySem.W.nsIn K mainGlobals "NoPlace"=some (some (.ref ma)))
  (ET:PySem.W.nsIn K mainGlobals "BadSide"=some (some (.ref me)))
  (EU:PySem.W.nsIn K mainGlobals "NoMark"=some (some (.ref mf)))
  (EV:PySem.W.nsIn K mainGlobals "NoNode"=some (some (.ref mh)))
  (EW:PySem.W.nsIn K mainGlobals "NoCursor"=some (some (.ref mi)))
  (EX:PySem.W.nsIn K mainGlobals "BadDeed"=some (some (.ref mj)))
  (EY:PySem.W.nsIn K mainGlobals "BadLetter"=some (some (.ref mq)))
  (EZ:PySem.W.nsIn K mainGlobals "NoLetter"=some (some (.ref mr)))
  (E1:PySem.W.nsIn K mainGlobals "NoHand"=some (some (.ref mv)))
  (E2:PySem.W.nsIn K mainGlobals "NoNote"=some (some (.ref mw)))
  (E3:PySem.W.excIn K gL [.type "ValueError", .type "Exception", .type "BaseException", .type "object"] "ValueError.__new__"=true)
  (E4:PySem.W.excIn K bM [.type "ValueError", .type "Exception", .type "BaseException", .type "object"] "ValueError.__new__"=true)
  (E5:PySem.W.excIn K bF [.type "ValueError", .type "Exception", .type "BaseException", .type "object"] "ValueError.__new__"=true)
  (E6:PySem.W.findIn K (.ref bM) "__getattribute__"=some (some (.builtin "BaseException.__getattribute__")))
  (E7:PySem.W.findIn K (.ref bM) "__getattr__"=some none)
  (E8:(PySem.W.clsIn K bM).isSome=true)
  (E9:PySem.W.findIn K (.ref bM) "__class__"=some (some (.builtin "object.__class__")))
  (E_:PySem.W.mroIn K bM (.type "object")=some true)
  (Fb:PySem.W.mroIn K bM (.type "BaseException")=some true)
  (Fc:kitOne K (.ref bM) (.ref gL)=some false)
  (Fd:kitOne K (.ref bM) (.ref bM)=some true)
  (Fe:kitOne K (.ref bM) (.ref bF)=some false)
  (Ff:kitOne K (.ref bM) (.ref ma)=some false)
  (Fg:kitOne K (.ref bM) (.ref me)=some false)
  (Fh:kitOne K (.ref bM) (.ref mf)=some false)
  (Fi:kitOne K (.ref bM) (.ref mh)=some false)
  (Fj:kitOne K (.ref bM) (.ref mi)=some false)
  (Fl:kitOne K (.ref bM) (.ref mj)=some false)
  (Fm:kitOne K (.ref bM) (.ref mq)=some false)
  (Fn:kitOne K (.ref bM) (.ref mr)=some false)
  (Fo:kitOne K (.ref bM) (.ref mv)=some false)
  (Fp:kitOne K (.ref bM) (.ref mw)=some false)
  (Fq:kitOne K (.ref bM) (.ref iY)=some true)
  (Fs:kitOne K (.ref bM) (.type "ValueError")=some true)
  (Ft:exmOne K (.ref bM) (.ref iY)=some true)
  (Fu:PySem.W.findIn K (.ref bF) "__getattribute__"=some (some (.builtin "BaseException.__getattribute__")))
  (Fv:PySem.W.findIn K (.ref bF) "__getattr__"=some none)
  (Fw:(PySem.W.clsIn K bF).isSome=true)
  (Fx:PySem.W.findIn K (.ref bF) "__class__"=some (some (.builtin "object.__class__")))
  (Fy:PySem.W.mroIn K bF (.type "object")=some true)
  (Fz:PySem.W.mroIn K bF (.type "BaseException")=some true)
  (FA:kitOne K (.ref bF) (.ref gL)=some false)
  (FC:kitOne K (.ref bF) (.ref bM)=some false)
  (FD:kitOne K (.ref bF) (.ref bF)=some true)
  (FE:kitOne K (.ref bF) (.ref ma)=some false)
  (FF:kitOne K (.ref bF) (.ref me)=some false)
  (FG:kitOne K (.ref bF) (.ref mf)=some false)
  (FH:kitOne K (.ref bF) (.ref mh)=some false)
  (FI:kitOne K (.ref bF) (.ref mi)=some false)
  (FJ:kitOne K (.ref bF) (.ref mj)=some false)
  (FK:kitOne K (.ref bF) (.ref mq)=some false)
  (FL:kitOne K (.ref bF) (.ref mr)=some false)
  (FN:kitOne K (.ref bF) (.ref mv)=some false)
  (FO:kitOne K (.ref bF) (.ref mw)=some false)
  (FP:kitOne K (.ref bF) (.ref iY)=some true)
  (FQ:kitOne K (.ref bF) (.type "ValueError")=some true)
  (FR:exmOne K (.ref bF) (.ref iY)=some true)
  (e5:PySem.W.specialIn K (.builtin "object.__class__") "__get__"=some (some (.builtin "getset_descriptor.__get__")))
  (e6:PySem.W.takesIn K (.builtin "object.__class__")=some true)
  (a0:PySem.W.nsIn K mainGlobals "is_whole"=some (some (.ref f0)))
  (l0:K.lookup f0=some ⟨oc0,od0, .func (fnOf "is_whole" "is_whole" (bT oF) (aB oF) (az oF) .none kV0 dc0 pm0 an0 P_ ct0),sl0⟩)
  (c0:codeIn K P_ "is_whole"=true)
  (k0:keepIn K (.ref f0)=true)
  (a1:PySem.W.nsIn K mainGlobals "is_word"=some (some (.ref f1)))
  (l1:K.lookup f1=some ⟨oc1,od1, .func (fnOf "is_word" "is_word" (bT oG) (aB oG) (az oG) .none kV1 dc1 pm1 an1 Qa ct1),sl1⟩)
  (c1:codeIn K Qa "is_word"=true)
  (k1:keepIn K (.ref f1)=true)
  (a2:PySem.W.nsIn K mainGlobals "is_text"=some (some (.ref f2)))
  (l2:K.lookup f2=some ⟨oc2,od2, .func (fnOf "is_text" "is_text" (bT oH) (aB oH) (az oH) .none kV2 dc2 pm2 an2 Qc ct2),nQ⟩)
  (c2:codeIn K Qc "is_text"=true)
  (k2:keepIn K (.ref f2)=true)
  (a3:PySem.W.nsIn K mainGlobals "need_text"=some (some (.ref f3)))
  (l3:K.lookup f3=some ⟨oc3,od3, .func (fnOf "need_text" "need_text" (bT oI) (aB oI) (az oI) .none kV3 dc3 pm3 an3 Qd ct3),tR⟩)
  (c3:codeIn K Qd "need_text"=true)
  (k3:keepIn K (.ref f3)=true)
  (a4:PySem.W.nsIn K mainGlobals "is_part"=some (some (.ref f4)))
  (l4:K.lookup f4=some ⟨oc4,od4, .func (fnOf "is_part" "is_part" (bT oJ) (aB oJ) (az oJ) .none kV4 dc4 pm4 an4 Qe ct4),sl4⟩)
  (c4:codeIn K Qe "is_part"=true)
  (k4:keepIn K (.ref f4)=true)
  (a5:PySem.W.nsIn K mainGlobals "may_follow"=some (some (.ref f5)))
  (l5:K.lookup f5=some ⟨oc5,od5, .func (fnOf "may_follow" "may_follow" (bT oK) (aB oK) (az oK) .none kV5 dc5 pm5 an5 Qg ct5),sl5⟩)
  (c5:codeIn K Qg "may_follow"=true)
  (k5:keepIn K (.ref f5)=true)
  (a6:PySem.W.nsIn K mainGlobals "need_change"=some (some (.ref f6)))
  (l6:K.lookup f6=some ⟨oc6,od6, .func (fnOf "need_change" "need_change" (bT oM) (aB oM) (az oM) .none kV6 dc6 pm6 an6 Qh ct6),sl6⟩)
  (c6:codeIn K Qh "need_change"=true)
  (k6:keepIn K (.ref f6)=true)
  (a7:PySem.W.nsIn K mainGlobals "part_size"=some (some (.ref f7)))
  (l7:K.lookup f7=some ⟨oc7,od7, .func (fnOf "part_size" "part_size" (bT oN) (aB oN) (az oN) .none kV7 dc7 pm7 an7 Qi ct7),sl7⟩)
  (c7:codeIn K Qi "part_size"=true)
  (k7:keepIn K (.ref f7)=true)
  (a8:PySem.W.nsIn K mainGlobals "sizes"=some (some (.ref f8)))
  (l8:K.lookup f8=some ⟨oc8,od8, .func (fnOf "sizes" "sizes" (bT oO) (aB oO) (az oO) .none kV8 dc8 pm8 an8 Qj ct8),sl8⟩)
  (c8:codeIn K Qj "sizes"=true)
  (k8:keepIn K (.ref f8)=true)
  (a9:PySem.W.findIn K (.ref bu) "__init__"=some (some (.ref f9)))
  (i9:isFn K (.ref f9)=true)
  (l9:K.lookup f9=some ⟨oc9,od9, .func (fnOf "__init__" "Walk.__init__" (bT oP) (aB oP) (az oP) .none kV9 dc9 pm9 an9 Qk ct9),sl9⟩)
  (c9:codeIn K Qk "Walk.__init__"=true)
  (k9:keepIn K (.ref f9)=true)
  (FT:PySem.W.findIn K (.ref bu) "word"=some (some (.ref vI)))
  (FU:isFn K (.ref vI)=true)
  (FV:K.lookup vI=some ⟨ai0,aiX, .func (fnOf "word" "Walk.word" (bT oQ) (aB oQ) (az oQ) .none ai1 ai2 ai3 aiY Ql ai4),aiZ⟩)
  (ip:codeIn K Ql "Walk.word"=true)
  (rY:keepIn K (.ref vI)=true)
  (FW:PySem.W.findIn K (.ref bu) "left"=some (some (.ref vJ)))
  (FX:isFn K (.ref vJ)=true)
  (FY:K.lookup vJ=some ⟨ai8,ai5, .func (fnOf "left" "Walk.left" (bT oR) (aB oR) (az oR) .none ai9 ai_ aja ai6 Qm ajb),ai7⟩)
  (iq:codeIn K Qm "Walk.left"=true)
  (rZ:keepIn K (.ref vJ)=true)
  (FZ:PySem.W.findIn K (.ref bu) "take"=some (some (.ref y_)))
  (i12:isFn K (.ref y_)=true)
  (F_:K.lookup y_=some ⟨ajf,ajc, .func (fnOf "take" "Walk.take" (bT oS) (aB oS) (az oS) .none ajg ajh aji ajd Qn ajj),aje⟩)
  (ir:codeIn K Qn "Walk.take"=true)
  (r6:keepIn K (.ref y_)=true)
  (Ga:PySem.W.nsIn K mainGlobals "add_keep"=some (some (.ref Ed)))
  (Gb:K.lookup Ed=some ⟨ajn,ajk, .func (fnOf "add_keep" "add_keep" (bT oU) (aB oU) (az oU) .none ajo ajp ajq ajl Qo ajr),ajm⟩)
  (rf:codeIn K Qo "add_keep"=true)
  (Gd:keepIn K (.ref Ed)=true)
  (Ge:PySem.W.nsIn K mainGlobals "add_texts"=some (some (.ref Ee)))
  (Gf:K.lookup Ee=some ⟨ajv,ajs, .func (fnOf "add_texts" "add_texts" (bT oV) (aB oV) (az oV) .none ajw ajx ajy ajt Qp ajz),aju⟩)
  (Gg:codeIn K Qp "add_texts"=true)
  (Gh:keepIn K (.ref Ee)=true)
  (Gi:PySem.W.nsIn K mainGlobals "neat"=some (some (.ref Ef)))
  (Gj:K.lookup Ef=some ⟨ajD,ajA, .func (fnOf "neat" "neat" (bT oW) (aB oW) (az oW) .none ajE ajF ajG ajB Qq ajH),ajC⟩)
  (tV:codeIn K Qq "neat"=true)
  (Gk:keepIn K (.ref Ef)=true)
  (Gm:PySem.W.nsIn K mainGlobals "done"=some (some (.ref Eg)))
  (Gn:K.lookup Eg=some ⟨ajL,ajI, .func (fnOf "done" "done" (bT oX) (aB oX) (az oX) .none ajM ajN ajO ajJ Qr ajP),ajK⟩)
  (xa:codeIn K Qr "done"=true)
  (Gp:keepIn K (.ref Eg)=true)
  (Gq:PySem.W.nsIn K mainGlobals "cut_behind"=some (some (.ref Eh)))
  (Gr:K.lookup Eh=some ⟨ajT,ajQ, .func (fnOf "cut_behind" "cut_behind" (bT oY) (aB oY) (az oY) .none ajU ajV ajW ajR Qs ajX),ajS⟩)
  (Gs:codeIn K Qs "cut_behind"=true)
  (Gu:keepIn K (.ref Eh)=true)
  (Gv:PySem.W.nsIn K mainGlobals "parts_behind"=some (some (.ref Ei)))
  (Gw:K.lookup Ei=some ⟨aj1,ajY, .func (fnOf "parts_behind" "parts_behind" (bT oZ) (aB oZ) (az oZ) .none aj2 aj3 aj4 ajZ Qt aj5),aj0⟩)
  (Gx:codeIn K Qt "parts_behind"=true)
  (Gy:keepIn K (.ref Ei)=true)
  (Gz:PySem.W.nsIn K mainGlobals "then"=some (some (.ref Ej)))
  (GA:K.lookup Ej=some ⟨aj9,aj6, .func (fnOf "then" "then" (bT o5) (aB o5) (az o5) .none aj_ aka akb aj7 Qu akc),aj8⟩)
  (GB:codeIn K Qu "then"=true)
  (GC:keepIn K (.ref Ej)=true)
  (GD:PySem.W.nsIn K mainGlobals "_law_cell_at"=some (some (.ref Ek)))
  (GF:K.lookup Ek=some ⟨akg,akd, .func (fnOf "_law_cell_at" "_law_cell_at" (bT o6) (aB o6) (az o6) .none akh aki akj ake Qw akk),akf⟩)
  (GG:codeIn K Qw "_law_cell_at"=true)
  (GH:keepIn K (.ref Ek)=true)
  (GI:PySem.W.nsIn K mainGlobals "_law_whole"=some (some (.ref El)))
  (GJ:K.lookup El=some ⟨ako,akl, .func (fnOf "_law_whole" "_law_whole" (bT o7) (aB o7) (az o7) .none akp akq akr akm Qx aks),akn⟩)
  (GK:codeIn K Qx "_law_whole"=true)
  (GL:keepIn K (.ref El)=true)
  (GN:PySem.W.nsIn K mainGlobals "_law_mixed"=some (some (.ref Em)))
  (GO:K.lookup Em=some ⟨akw,akt, .func (fnOf "_law_mixed" "_law_mixed" (bT o8) (aB o8) (az o8) .none akx aky akz aku Qy akA),akv⟩)
  (GP:codeIn K Qy "_law_mixed"=true)
  (GQ:keepIn K (.ref Em)=true)
  (GR:PySem.W.nsIn K mainGlobals "_law_text"=some (some (.ref En)))
  (GS:K.lookup En=some ⟨akE,akB, .func (fnOf "_law_text" "_law_text" (bT o9) (aB o9) (az o9) .none akF akG akH akC Qz akI),akD⟩)
  (rg:codeIn K Qz "_law_text"=true)
  (GU:keepIn K (.ref En)=true)
  (GV:PySem.W.nsIn K mainGlobals "_law_size"=some (some (.ref Eo)))
  (GW:K.lookup Eo=some ⟨akM,akJ, .func (fnOf "_law_size" "_law_size" (bT o_) (aB o_) (az o_) .none akN akO akP akK QC akQ),akL⟩)
  (GX:codeIn K QC "_law_size"=true)
  (GY:keepIn K (.ref Eo)=true)
  (GZ:PySem.W.nsIn K mainGlobals "_law_parts"=some (some (.ref Ep)))
  (G0:K.lookup Ep=some ⟨akU,akR, .func (fnOf "_law_parts" "_law_parts" (bT pb) (aB pb) (az pb) .none akV akW akX akS QD akY),akT⟩)
  (tW:codeIn K QD "_law_parts"=true)
  (G1:keepIn K (.ref Ep)=true)
  (G3:PySem.W.nsIn K mainGlobals "_law_neat"=some (some (.ref Er)))
  (G4:K.lookup Er=some ⟨ak2,akZ, .func (fnOf "_law_neat" "_law_neat" (bT pd) (aB pd) (az pd) .none ak3 ak4 ak5 ak0 QE ak6),ak1⟩)
  (tX:codeIn K QE "_law_neat"=true)
  (G5:keepIn K (.ref Er)=true)
  (G6:PySem.W.nsIn K mainGlobals "_law_change"=some (some (.ref Es)))
  (G7:K.lookup Es=some ⟨ak_,ak7, .func (fnOf "_law_change" "_law_change" (bT pe) (aB pe) (az pe) .none ala alb alc ak8 QF ald),ak9⟩)
  (G8:codeIn K QF "_law_change"=true)
  (G9:keepIn K (.ref Es)=true)
  (G_:PySem.W.nsIn K mainGlobals "_law_done"=some (some (.ref Et)))
  (Ha:K.lookup Et=some ⟨alh,ale, .func (fnOf "_law_done" "_law_done" (bT pf) (aB pf) (az pf) .none ali alj alk alf QG alm),alg⟩)
  (Hb:codeIn K QG "_law_done"=true)
  (Hc:keepIn K (.ref Et)=true)
  (He:PySem.W.nsIn K mainGlobals "_law_same"=some (some (.ref Eu)))
  (Hf:K.lookup Eu=some ⟨alq,aln, .func (fnOf "_law_same" "_law_same" (bT ph) (aB ph) (az ph) .none alr als alu alo QH alv),alp⟩)
  (Hg:codeIn K QH "_law_same"=true)
  (Hh:keepIn K (.ref Eu)=true)
  (Hi:PySem.W.nsIn K mainGlobals "_law_word"=some (some (.ref Ew)))
  (Hj:K.lookup Ew=some ⟨alz,alw, .func (fnOf "_law_word" "_law_word" (bT cO) (aB cO) (az cO) .none alA alB alC alx QI alD),aly⟩)
  (Hk:codeIn K QI "_law_word"=true)
  (Hl:keepIn K (.ref Ew)=true)
  (Hn:PySem.W.nsIn K mainGlobals "_law_named"=some (some (.ref Ex)))
  (Ho:K.lookup Ex=some ⟨alH,alE, .func (fnOf "_law_named" "_law_named" (bT pj) (aB pj) (az pj) .none alI alJ alK alF QJ alL),alG⟩)
  (Hq:codeIn K QJ "_law_named"=true)
  (Hr:keepIn K (.ref Ex)=true)
  (Hs:PySem.W.nsIn K mainGlobals "_law_gone"=some (some (.ref Ey)))
  (Ht:K.lookup Ey=some ⟨alP,alM, .func (fnOf "_law_gone" "_law_gone" (bT pw) (aB pw) (az pw) .none alQ alR alS alN QK alT),alO⟩)
  (Hu:codeIn K QK "_law_gone"=true)
  (Hv:keepIn K (.ref Ey)=true)
  (Hw:PySem.W.nsIn K mainGlobals "_law_between"=some (some (.ref Ez)))
  (Hx:K.lookup Ez=some ⟨alX,alU, .func (fnOf "_law_between" "_law_between" (bT pz) (aB pz) (az pz) .none alY alZ al0 alV QL al1),alW⟩)
  (Hy:codeIn K QL "_law_between"=true)
  (Hz:keepIn K (.ref Ez)=true)
  (HA:PySem.W.nsIn K mainGlobals "_law_found"=some (some (.ref EA)))
  (HB:K.lookup EA=some ⟨al6,al2, .func (fnOf "_law_found" "_law_found" (bT pA) (aB pA) (az pA) .none al7 al8 al9 al4 QM al_),al5⟩)
  (HC:codeIn K QM "_law_found"=true)
  (HD:keepIn K (.ref EA)=true)
  (HE:PySem.W.nsIn K mainGlobals "_law_told_otherwise"=some (some (.ref EB)))
  (HF:K.lookup EB=some ⟨amd,ama, .func (fnOf "_law_told_otherwise" "_law_told_otherwise" (bT pB) (aB pB) (az pB) .none ame amf amg amb QN amh),amc⟩)
  (HG:codeIn K QN "_law_told_otherwise"=true)
  (HH:keepIn K (.ref EB)=true)
  (HI:PySem.W.nsIn K mainGlobals "_law_cut_otherwise"=some (some (.ref EC)))
  (HJ:K.lookup EC=some ⟨aml,ami, .func (fnOf "_law_cut_otherwise" "_law_cut_otherwise" (bT pE) (aB pE) (az pE) .none amm amn amo amj QO amq),amk⟩)
  (HK:codeIn K QO "_law_cut_otherwise"=true)
  (HL:keepIn K (.ref EC)=true)
  (HM:PySem.W.nsIn K mainGlobals "law"=some (some (.ref ED)))
  (HN:K.lookup ED=some ⟨amt,amr, .func (fnOf "law" "law" (bT bq) (aB bq) (az bq) .none QR QS QU QP EE QV),ams⟩)
  (HP:codeIn K EE "law"=true)
  (HQ:keepIn K (.ref ED)=true)
  (HR:PySem.W.nsIn K mainGlobals "SIGNS"=some (some (Value.str SG amu)))
  (HS:PySem.W.nsIn K mainGlobals "ValueError"=some none)
  (HU:PySem.W.nsIn K mainGlobals "bool"=some none)
  (HV:PySem.W.nsIn K mainGlobals "int"=some none)
  (HW:PySem.W.nsIn K mainGlobals "isinstance"=some none)
  (HX:PySem.W.nsIn K mainGlobals "len"=some none)
  (HY:PySem.W.nsIn K mainGlobals "list"=some none)
  (HZ:PySem.W.nsIn K mainGlobals "max"=some none)
  (H0:PySem.W.nsIn K mainGlobals "min"=some none)
  (H_:PySem.W.nsIn K mainGlobals "range"=some none)
  (Ia:PySem.W.nsIn K mainGlobals "str"=some none)
  (Ib:PySem.W.nsIn K mainGlobals "sum"=some none)
  (Ic:PySem.W.nsIn K mainGlobals "tuple"=some none)
  (Ie:PySem.W.nsIn K mainGlobals "zip"=some none)
  : ∃fd:FuncData,(∀(s:Shared) (v:Value),BindsTo s fd ⟨[v],[]⟩ [("_law_script",v)])∧ ∀base:Heap,K.In base→base.Ns mainGlobals mg→cA l.prog w K mg base wy 8 fa fd ["_law_script"] (fun vs H Q _=> (y0 K) vs H Q E0):=by
 have e:=p3.symm.trans (PySem.W.mg_of X G HM)
 cases e
 have amv:mg "ValueError"=none:=mg_none_of X G HS
 have y_bool:mg "bool"=none:=mg_none_of X G HU
 have zd:mg "int"=none:=mg_none_of X G HV
 have mx:mg "isinstance"=none:=mg_none_of X G HW
 have f_:mg "len"=none:=mg_none_of X G HX
 have vL:mg "list"=none:=mg_none_of X G HY
 have amw:mg "max"=none:=mg_none_of X G HZ
 have Ig:mg "min"=none:=mg_none_of X G H0
 have sq:mg "range"=none:=mg_none_of X G H_
 have Ih:mg "str"=none:=mg_none_of X G Ia
 have QW:mg "sum"=none:=mg_none_of X G Ib
 have QX:mg "tuple"=none:=mg_none_of X G Ic
 have amx:mg "zip"=none:=mg_none_of X G Ie
 have amy:fm mg ("SIGNS", .str SG):=⟨_,PySem.W.mg_of X G HR,⟨_,rfl⟩⟩
 have QY:fm mg ("InkError", .ref iY):=⟨_,PySem.W.mg_of X G ER,rfl⟩
 have amz:fm mg ("BadText", .ref gL):=⟨_,PySem.W.mg_of X G za,rfl⟩
 have amA:fm mg ("BadChange", .ref bM):=⟨_,PySem.W.mg_of X G zb,rfl⟩
 have amB:fm mg ("BadFit", .ref bF):=⟨_,PySem.W.mg_of X G zc,rfl⟩
 have amC:fm mg ("NoPlace", .ref ma):=⟨_,PySem.W.mg_of X G ES,rfl⟩
 have amD:fm mg ("BadSide", .ref me):=⟨_,PySem.W.mg_of X G ET,rfl⟩
 have amE:fm mg ("NoMark", .ref mf):=⟨_,PySem.W.mg_of X G EU,rfl⟩
 have amF:fm mg ("NoNode", .ref mh):=⟨_,PySem.W.mg_of X G EV,rfl⟩
 have amG:fm mg ("NoCursor", .ref mi):=⟨_,PySem.W.mg_of X G EW,rfl⟩
 have amH:fm mg ("BadDeed", .ref mj):=⟨_,PySem.W.mg_of X G EX,rfl⟩
 have amI:fm mg ("BadLetter", .ref mq):=⟨_,PySem.W.mg_of X G EY,rfl⟩
 have amJ:fm mg ("NoLetter", .ref mr):=⟨_,PySem.W.mg_of X G EZ,rfl⟩
 have amK:fm mg ("NoHand", .ref mv):=⟨_,PySem.W.mg_of X G E1,rfl⟩
 have amL:fm mg ("NoNote", .ref mw):=⟨_,PySem.W.mg_of X G E2,rfl⟩
 have amM:j3 K [gL,bM,bF,ma,me,mf,mh,mi,mj,mq,mr,mv,mw] iY bM 1:=PM ⟨E6,E7,E8,E9,e5,e6,E_,Fb⟩ Fq Fs Fc Fd Fe Ff Fg Fh Fi Fj Fl Fm Fn Fo Fp
 have amN:j3 K [gL,bM,bF,ma,me,mf,mh,mi,mj,mq,mr,mv,mw] iY bF 2:=PM ⟨Fu,Fv,Fw,Fx,e5,e6,Fy,Fz⟩ FP FQ FA FC FD FE FF FG FH FI FJ FK FL FN FO
 have my:oC K bu:=⟨⟨EG,EH,EI,EJ⟩,EM,EN,EO⟩
 refine⟨fnOf "law" "law" (bT bq) (aB bq) (az bq) .none QR QS QU QP EE QV,fun s v=> .of_eq rfl,fun base X2 G2=> ?_⟩
 have amO:uh mg base ("BadText",gL):=DS X2 G2 za E3
 have QZ:uh mg base ("BadChange",bM):=DS X2 G2 zb E4
 have sr:uh mg base ("BadFit",bF):=DS X2 G2 zc E5
 have F0:=cn (st:=oF) l0 c0 k0
 have B0:=F0.binds (ps:=LS) fun _ _ _ _ _ _ us hl=>match us,hl with | [_],_=>rfl
 have T0:ck l.prog w K mg base 1 "is_whole" (yo):=⟨_,_,_,(bU (k:=0) F0 abM [] [] LU [] [] [] [] Bf abN ae ae (av mx (av zd (av y_bool ae))) [] ae ae ae ae ae (by rintro vs H Q E ⟨_,rfl,_⟩;rfl) ae5),PySem.W.mg_of X G a0,F0.kp,B0⟩
 have F1:=cn (st:=oG) l1 c1 k1
 have B1:=F1.binds (ps:=LV) fun _ _ _ _ _ _ us hl=>match us,hl with | [_,_],_=>rfl
 have T1:ck l.prog w K mg base 1 "is_word" (yp K):=⟨_,_,_,(bU (k:=0) F1 abO [] [] LW [] [] [] [] xr abP ae ae (av mx (av Ih ae)) [] ae ae ae ae ae (by rintro vs H Q E ⟨_,_,_,rfl,_⟩;rfl) ae_),PySem.W.mg_of X G a1,F1.kp,B1⟩
 have F2:=cn (st:=oH) l2 c2 k2
 have B2:=F2.binds (ps:=LX) fun _ _ _ _ _ _ us hl=>match us,hl with | [_],_=>rfl
 have T2:ck l.prog w K mg base 1 "is_text" (rC):=⟨_,_,_,(bU (k:=0) F2 abQ [] [("SIGNS", .str SG)] LY [] [] [] [] xu abR ae (av amy ae) (av mx (av Ih ae)) [] ae ae ae ae ae (by rintro vs H Q E ⟨_,rfl,_⟩;rfl) ae6),PySem.W.mg_of X G a2,F2.kp,B2⟩
 have F3:=cn (st:=oI) l3 c3 k3
 have B3:=F3.binds (ps:=LZ) fun _ _ _ _ _ _ us hl=>match us,hl with | [_],_=>rfl
 have T3:ck l.prog w K mg base 2 "need_text" (uW gL):=⟨_,_,_,(bU (k:=1) F3 abS [("is_text",rC)] [] L6 [] [] [("BadText",gL)] [] Bh abT (av (T2.mono (by omega)) ae) ae ae [] ae ae ae (av amO ae) ae (by rintro vs H Q E ⟨_,rfl,_⟩;rfl) ae8),PySem.W.mg_of X G a3,F3.kp,B3⟩
 have F4:=cn (st:=oJ) l4 c4 k4
 have B4:=F4.binds (ps:=L7) fun _ _ _ _ _ _ us hl=>match us,hl with | [_],_=>rfl
 have T4:ck l.prog w K mg base 2 "is_part" (uY):=⟨_,_,_,(bU (k:=1) F4 abU [("is_word",yp K),("is_whole",yo),("is_text",rC)] [] L8 [] [] [] [] uj abV (av (T1.mono (by omega)) (av (T0.mono (by omega)) (av (T2.mono (by omega)) ae))) ae (av mx (av QX (av f_ ae))) [] ae ae ae ae ae (by rintro vs H Q E ⟨_,rfl,_⟩;rfl) afa),PySem.W.mg_of X G a4,F4.kp,B4⟩
 have F5:=cn (st:=oK) l5 c5 k5
 have B5:=F5.binds (ps:=L9) fun _ _ _ _ _ _ us hl=>match us,hl with | [_,_],_=>rfl
 have T5:ck l.prog w K mg base 1 "may_follow" (qS):=⟨_,_,_,(bU (k:=0) F5 abW [] [] L_ [] [] [] [] Bj abX ae ae ae [] ae ae ae ae ae (by rintro vs H Q E ⟨_,_,rfl,_⟩;rfl) ads),PySem.W.mg_of X G a5,F5.kp,B5⟩
 have F6:=cn (st:=oM) l6 c6 k6
 have B6:=F6.binds (ps:=Ma) fun _ _ _ _ _ _ us hl=>match us,hl with | [_],_=>rfl
 have T6:ck l.prog w K mg base 3 "need_change" (dW (xM) (uZ bM)):=⟨_,_,_,(cA.or (bU (k:=2) F6 MZ [("is_part",Cp),("may_follow",qS)] [] Bk [] [] [("BadChange",bM)] [] uk M0 (av ((T4.weak fun _ _ _ _ h=>afc h).mono (by omega)) (av (T5.mono (by omega)) ae)) ae (av mx (av vL ae)) [] ae ae ae (av QZ ae) ae (by rintro vs H Q E ⟨_,_,_,rfl,_⟩;rfl) adD) (bU (k:=2) F6 MZ [("is_part",uY),("may_follow",qS)] [] Bk [] [] [("BadChange",bM)] [] uk M0 (av (T4.mono (by omega)) (av (T5.mono (by omega)) ae)) ae (av mx (av vL ae)) [] ae ae ae (av QZ ae) ae (by rintro vs H Q E ⟨_,rfl,_⟩;rfl) afe)),PySem.W.mg_of X G a6,F6.kp,B6⟩
 have F7:=cn (st:=oN) l7 c7 k7
 have B7:=F7.binds (ps:=Mb) fun _ _ _ _ _ _ us hl=>match us,hl with | [_],_=>rfl
 have T7:ck l.prog w K mg base 1 "part_size" (gB):=⟨_,_,_,(bU (k:=0) F7 abY [] [] Mc [] [] [] [] Bm abZ ae ae (av f_ ae) [] ae ae ae ae ae (by rintro vs H Q E ⟨_,_,rfl,_⟩;rfl) adt),PySem.W.mg_of X G a7,F7.kp,B7⟩
 have F8:=cn (st:=oO) l8 c8 k8
 have B8:=F8.binds (ps:=Md) fun _ _ _ _ _ _ us hl=>match us,hl with | [_],_=>rfl
 have T8:ck l.prog w K mg base 4 "sizes" (dW (fF) (jZ bM)):=⟨_,_,_,(cA.or (bU (k:=3) F8 M1 [("need_change",xM),("part_size",gB)] [] Bn [] [] [] [] um M3 (av ((T6.weak fun _ _ _ _ h=> (.inl h)).mono (by omega)) (av (T7.mono (by omega)) ae)) ae (av QW ae) [] ae ae ae ae ae (by rintro vs H Q E ⟨_,_,_,rfl,_⟩;rfl) adE) (bU (k:=3) F8 M1 [("need_change",uZ bM),("part_size",gB)] [] Bn [] [] [] [] um M3 (av ((T6.weak fun _ _ _ _ h=> (.inr h)).mono (by omega)) (av (T7.mono (by omega)) ae)) ae (av QW ae) [] ae ae ae ae ae (by rintro vs H Q E ⟨_,rfl,_⟩;rfl) afg)),PySem.W.mg_of X G a8,F8.kp,B8⟩
 have F9:=cn (st:=oP) l9 c9 k9
 have B9:=F9.binds (ps:=MG) fun _ _ _ _ _ _ us hl=>match us,hl with | [_,_],_=>rfl
 have T9:ug l.prog w K mg base 2 ("Walk",bu,lP bu):=⟨0+1,_,_,_,Nat.le_refl _,⟨EK,a9,i9,EL⟩,(bU (k:=0) F9 ab0 [] [] MH [] [] [] [] BO ab1 ae ae (av vL ae) [] ae ae ae ae ae (by rintro vs H Q E ⟨_,_,_,_,_,rfl,_⟩;rfl) (afG my)),PySem.W.mg_of X G EF,B9⟩
 have Q0:=cn (st:=oQ) FV ip rY
 have B10:=Q0.binds (ps:=MI) fun _ _ _ _ _ _ us hl=>match us,hl with | [_],_=>rfl
 have ze:jU l.prog w K mg base 1 ("word",bu,iu bu):=⟨my.cl,_,_,_,⟨FT,FU,rY⟩,(bU (k:=0) Q0 ab2 [] [] MJ [] [] [] [] BQ ab3 ae ae (av f_ ae) [] ae ae ae ae ae (by rintro vs H Q E ⟨_,_,_,rfl,_⟩;rfl) (afH my)),B10⟩
 have Q2:=cn (st:=oR) FY iq rZ
 have B11:=Q2.binds (ps:=MK) fun _ _ _ _ _ _ us hl=>match us,hl with | [_],_=>rfl
 have vM:jU l.prog w K mg base 2 ("left",bu,rJ bu):=⟨my.cl,_,_,_,⟨FW,FX,rZ⟩,(bU (k:=1) Q2 ab4 [("part_size",gB)] [] ML [] [] [] [] BS ab5 (av (T7.mono (by omega)) ae) ae ae [] ae ae ae ae ae (by rintro vs H Q E ⟨_,_,_,_,_,_,_,_,rfl,_⟩;rfl) (afI my)),B11⟩
 have Q3:=cn (st:=oS) F_ ir r6
 have B12:=Q3.binds (ps:=MM) fun _ _ _ _ _ _ us hl=>match us,hl with | [_,_],_=>rfl
 have zf:jU l.prog w K mg base 3 ("take",bu,iw bu):=⟨my.cl,_,_,_,⟨FZ,i12,r6⟩,(bU (k:=2) Q3 ab6 [] [] MN [("left",bu,rJ bu)] [] [] [] xE ab7 ae ae ae [] ae (av (vM.mono (by omega)) ae) ae ae ae (by rintro vs H Q E ⟨_,_,_,_,_,rfl,_⟩;rfl) (afJ my)),B12⟩
 have Ii:=cn (st:=oU) Gb rf Gd
 have B13:=Ii.binds (ps:=Me) fun _ _ _ _ _ _ us hl=>match us,hl with | [_,_],_=>rfl
 have T13:ck l.prog w K mg base 1 "add_keep" (xR):=⟨_,_,_,(bU (k:=0) Ii ab8 [] [] Mf [] [] [] [] Bp ab9 ae ae (av f_ ae) [] ae ae ae ae ae (by rintro vs H Q E ⟨_,_,_,_,rfl,_⟩;rfl) adJ),PySem.W.mg_of X G Ga,Ii.kp,B13⟩
 have Ij:=cn (st:=oV) Gf Gg Gh
 have B14:=Ij.binds (ps:=Mg) fun _ _ _ _ _ _ us hl=>match us,hl with | [_,_,_],_=>rfl
 have T14:ck l.prog w K mg base 1 "add_texts" (xQ):=⟨_,_,_,(bU (k:=0) Ij ab_ [] [] Mh [] [] [] [] Br aca ae ae ae [] ae ae ae ae ae (by rintro vs H Q E ⟨_,_,_,_,_,_,_,rfl,_⟩;rfl) adF),PySem.W.mg_of X G Ge,Ij.kp,B14⟩
 have Ik:=cn (st:=oW) Gj tV Gk
 have B15:=Ik.binds (ps:=Mi) fun _ _ _ _ _ _ us hl=>match us,hl with | [_],_=>rfl
 have Q4:ck l.prog w K mg base 2 "neat" (mZ):=⟨_,_,_,(bU (k:=1) Ik acb [("add_texts",xQ),("add_keep",xR)] [] Mj [] [] [] [] Bt acd (av (T14.mono (by omega)) (av (T13.mono (by omega)) ae)) ae ae [] ae ae ae ae ae (by rintro vs H Q E ⟨_,_,_,rfl,_⟩;rfl) adL),PySem.W.mg_of X G Gi,Ik.kp,B15⟩
 have zg:=cn (st:=oX) Gn xa Gp
 have B16:=zg.binds (ps:=Ml) fun _ _ _ _ _ _ us hl=>match us,hl with | [_,_],_=>rfl
 have T16:ck l.prog w K mg base 5 "done" (dW (rk) (Ou gL bM bF)):=⟨_,_,_,(cA.or (bU (k:=4) zg M4 [("need_text",CO),("sizes",fF)] [] Bu [] [] [("BadFit",bF)] [] uo M5 (av ((T3.weak fun _ _ _ _ h=>ae9 h).mono (by omega)) (av ((T8.weak fun _ _ _ _ h=> (.inl h)).mono (by omega)) ae)) ae (av f_ ae) [] ae ae ae (av sr ae) ae (by rintro vs H Q E ⟨_,_,_,_,_,rfl,_⟩;rfl) aev) (bU (k:=4) zg M4 [("need_text",uW gL),("sizes",dW (fF) (jZ bM))] [] Bu [] [] [("BadFit",bF)] [] uo M5 (av (T3.mono (by omega)) (av (T8.mono (by omega)) ae)) ae (av f_ ae) [] ae ae ae (av sr ae) ae (by rintro vs H Q E ⟨_,_,rfl,_⟩;rfl) afi)),PySem.W.mg_of X G Gm,zg.kp,B16⟩
 have zh:=cn (st:=oY) Gr Gs Gu
 have B17:=zh.binds (ps:=MO) fun _ _ _ _ _ _ us hl=>match us,hl with | [_,_],_=>rfl
 have Q5:ck l.prog w K mg base 1 "cut_behind" (dW (lQ) (vE bF)):=⟨_,_,_,(cA.or (bU (k:=0) zh M6 [] [] BV [] [] [("BadFit",bF)] [] uq M7 ae ae ae [] ae ae ae (av sr ae) ae (by rintro vs H Q E ⟨_,_,_,rfl,_⟩;rfl) afR) (bU (k:=0) zh M6 [] [] BV [] [] [("BadFit",bF)] [] uq M7 ae ae ae [] ae ae ae (av sr ae) ae (by rintro vs H Q E ⟨_,_,_,rfl,_⟩;rfl) agP)),PySem.W.mg_of X G Gq,zh.kp,B17⟩
 have zi:=cn (st:=oZ) Gw Gx Gy
 have B18:=zi.binds (ps:=MP) fun _ _ _ _ _ _ us hl=>match us,hl with | [_,_],_=>rfl
 have Q6:ck l.prog w K mg base 4 "parts_behind" (dW (rN bu) (vF bu bF)):=⟨_,_,_,(cA.or (bU (k:=3) zi M8 [("part_size",gB),("cut_behind",lQ)] [] BW [("word",bu,iu bu),("take",bu,iw bu),("left",bu,iU bu)] [] [] [] ur M9 (av (T7.mono (by omega)) (av ((Q5.weak fun _ _ _ _ h=> (.inl h)).mono (by omega)) ae)) ae (av Ig ae) [] ae (av (ze.mono (by omega)) (av (zf.mono (by omega)) (av ((vM.weak fun _ _ _ _ h=>yE h).mono (by omega)) ae))) ae ae ae (by rintro vs H Q E ⟨_,_,_,_,_,_,_,rfl,_⟩;rfl) afV) (bU (k:=3) zi M8 [("part_size",gB),("cut_behind",dW (lQ) (vE bF))] [] BW [("word",bu,iu bu),("take",bu,iw bu),("left",bu,iU bu)] [] [] [] ur M9 (av (T7.mono (by omega)) (av (Q5.mono (by omega)) ae)) ae (av Ig ae) [] ae (av (ze.mono (by omega)) (av (zf.mono (by omega)) (av ((vM.weak fun _ _ _ _ h=>yE h).mono (by omega)) ae))) ae ae ae (by rintro vs H Q E ⟨_,_,_,_,_,_,rfl,_⟩;rfl) agQ)),PySem.W.mg_of X G Gv,zi.kp,B18⟩
 have zj:=cn (st:=o5) GA GB GC
 have B19:=zj.binds (ps:=MQ) fun _ _ _ _ _ _ us hl=>match us,hl with | [_,_],_=>rfl
 have T19:ck l.prog w K mg base 5 "then" (dW (qe) (nz bM bF)):=⟨_,_,_,(cA.or (bU (k:=4) zj M_ [("sizes",fF),("parts_behind",rN bu),("neat",mZ)] [] BX [("word",bu,iu bu),("take",bu,iw bu),("left",bu,iU bu)] [("Walk",bu,lP bu)] [("BadFit",bF)] [] uu Na (av ((T8.weak fun _ _ _ _ h=> (.inl h)).mono (by omega)) (av ((Q6.weak fun _ _ _ _ h=> (.inl h)).mono (by omega)) (av (Q4.mono (by omega)) ae))) ae ae [] ae (av (ze.mono (by omega)) (av (zf.mono (by omega)) (av ((vM.weak fun _ _ _ _ h=>yE h).mono (by omega)) ae))) (av (T9.mono (by omega)) ae) (av sr ae) ae (by rintro vs H Q E ⟨_,_,_,_,_,_,_,_,_,rfl,_⟩;rfl) (aga my)) (bU (k:=4) zj M_ [("sizes",dW (fF) (jZ bM)),("parts_behind",vF bu bF),("neat",mZ)] [] BX [("word",bu,iu bu),("take",bu,iw bu),("left",bu,iU bu)] [("Walk",bu,lP bu)] [("BadFit",bF)] [] uu Na (av (T8.mono (by omega)) (av ((Q6.weak fun _ _ _ _ h=> (.inr h)).mono (by omega)) (av (Q4.mono (by omega)) ae))) ae ae [] ae (av (ze.mono (by omega)) (av (zf.mono (by omega)) (av ((vM.weak fun _ _ _ _ h=>yE h).mono (by omega)) ae))) (av (T9.mono (by omega)) ae) (av sr ae) ae (by rintro vs H Q E ⟨_,_,rfl,_⟩;rfl) (agT my))),PySem.W.mg_of X G Gz,zj.kp,B19⟩
 have Il:=cn (st:=o6) GF GG GH
 have B20:=Il.binds (ps:=Mm) fun _ _ _ _ _ _ us hl=>match us,hl with | [_,_],_=>rfl
 have T20:ck l.prog w K mg base 1 "_law_cell_at" (ux K):=⟨_,_,_,(bU (k:=0) Il ace [] [] Mn [] [] [] [] Bw acf ae ae (av f_ ae) [] ae ae ae ae ae (by rintro vs H Q E ⟨_,_,_,rfl,_⟩;rfl) adu),PySem.W.mg_of X G GD,Il.kp,B20⟩
 have Im:=cn (st:=o7) GJ GK GL
 have B21:=Im.binds (ps:=ME) fun _ _ _ _ _ _ us hl=>match us,hl with | [_],_=>rfl
 have T21:ck l.prog w K mg base 1 "_law_whole" (xJ):=⟨_,_,_,(bU (k:=0) Im acg [] [] MF [] [] [] [] BM ach ae ae (av mx (av zd (av y_bool ae))) [] ae ae ae ae ae (by rintro vs H Q E ⟨_,rfl,_⟩;rfl) agt),PySem.W.mg_of X G GI,Im.kp,B21⟩
 have Io:=cn (st:=o8) GO GP GQ
 have B22:=Io.binds (ps:=Mo) fun _ _ _ _ _ _ us hl=>match us,hl with | [_,_],_=>rfl
 have Ip:ck l.prog w K mg base 1 "_law_mixed" (lq):=⟨_,_,_,(bU (k:=0) Io aci [] [] Mp [] [] [] [] By acj ae ae ae [] ae ae ae ae ae (by rintro vs H Q E ⟨_,_,rfl,_⟩;rfl) adv),PySem.W.mg_of X G GN,Io.kp,B22⟩
 have Iq:=cn (st:=o9) GS rg GU
 have B23:=Iq.binds (ps:=Mq) fun _ _ _ _ _ _ us hl=>match us,hl with | [_,_],_=>rfl
 have Q7:ck l.prog w K mg base 2 "_law_text" (pI):=⟨_,_,_,(bU (k:=1) Iq ack [("_law_mixed",lq)] [] Mr [] [] [] [] BA acm (av (Ip.mono (by omega)) ae) ae (av sq (av f_ ae)) [] ae ae ae ae ae (by rintro vs H Q E ⟨_,_,rfl,_⟩;rfl) adT),PySem.W.mg_of X G GR,Iq.kp,B23⟩
 have Ir:=cn (st:=o_) GW GX GY
 have B24:=Ir.binds (ps:=Ms) fun _ _ _ _ _ _ us hl=>match us,hl with | [_],_=>rfl
 have T24:ck l.prog w K mg base 1 "_law_size" (uL):=⟨_,_,_,(bU (k:=0) Ir acn [] [] Mt [] [] [] [] BC aco ae ae ae [] ae ae ae ae ae (by rintro vs H Q E ⟨_,rfl,_⟩;rfl) aet),PySem.W.mg_of X G GV,Ir.kp,B24⟩
 have Iu:=cn (st:=pb) G0 tW G1
 have B25:=Iu.binds (ps:=Mu) fun _ _ _ _ _ _ us hl=>match us,hl with | [_,_,_],_=>rfl
 have T25:ck l.prog w K mg base 3 "_law_parts" (yf):=⟨_,_,_,(bU (k:=2) Iu acp [("_law_mixed",lq),("_law_text",pI)] [] Mv [] [] [] [] BE acq (av (Ip.mono (by omega)) (av (Q7.mono (by omega)) ae)) ae (av sq (av Ig (av f_ ae))) [] ae ae ae ae ae (by rintro vs H Q E ⟨_,_,_,rfl,_⟩;rfl) aey),PySem.W.mg_of X G GZ,Iu.kp,B25⟩
 have Iv:=cn (st:=pd) G4 tX G5
 have B26:=Iv.binds (ps:=Mw) fun _ _ _ _ _ _ us hl=>match us,hl with | [_],_=>rfl
 have Iw:ck l.prog w K mg base 1 "_law_neat" (jm):=⟨_,_,_,(bU (k:=0) Iv acr [] [] Mx [] [] [] [] BF acs ae ae (av zd ae) [] ae ae ae ae ae (by rintro vs H Q E ⟨_,_,_,rfl,_⟩;rfl) ad1),PySem.W.mg_of X G G3,Iv.kp,B26⟩
 have Iy:=cn (st:=pe) G7 G8 G9
 have B27:=Iy.binds (ps:=My) fun _ _ _ _ _ _ us hl=>match us,hl with | [_,_,_],_=>rfl
 have T27:ck l.prog w K mg base 4 "_law_change" (nc):=⟨_,_,_,(bU (k:=3) Iy acu [("_law_neat",jm),("_law_parts",yf)] [] Mz [] [] [] [] BH acv (av (Iw.mono (by omega)) (av (T25.mono (by omega)) ae)) ae ae [] ae ae ae ae ae (by rintro vs H Q E ⟨_,_,_,rfl,_⟩;rfl) aeI),PySem.W.mg_of X G G6,Iy.kp,B27⟩
 have Iz:=cn (st:=pf) Ha Hb Hc
 have B28:=Iz.binds (ps:=MB) fun _ _ _ _ _ _ us hl=>match us,hl with | [_,_],_=>rfl
 have T28:ck l.prog w K mg base 1 "_law_done" (pY):=⟨_,_,_,(bU (k:=0) Iz acw [] [] MC [] [] [] [] BK acx ae ae (av f_ ae) [] ae ae ae ae ae (by rintro vs H Q E ⟨_,_,_,_,_,rfl,_⟩;rfl) afw),PySem.W.mg_of X G G_,Iz.kp,B28⟩
 have IA:=cn (st:=ph) Hf Hg Hh
 have B29:=IA.binds (ps:=Nb) fun _ _ _ _ _ _ us hl=>match us,hl with | [_,_],_=>rfl
 have Q8:ck l.prog w K mg base 2 "_law_same" (nr):=⟨_,_,_,(bU (k:=1) IA acy [("_law_whole",xJ)] [] MA [] [] [] [] BI acz (av (T21.mono (by omega)) ae) ae (av mx (av vL (av f_ (av amx (av QX (av Ih ae)))))) [] ae ae ae ae ae (by rintro vs H Q E ⟨_,_,_,_,_,rfl,_⟩;rfl) ago),PySem.W.mg_of X G He,IA.kp,B29⟩
 have Q9:=cn (st:=cO) Hj Hk Hl
 have B30:=Q9.binds (ps:=MD) fun _ _ _ _ _ _ us hl=>match us,hl with | [_],_=>rfl
 have T30:qR l.prog w K mg base 1 "_law_word" (u0 K [gL,bM,bF,ma,me,mf,mh,mi,mj,mq,mr,mv,mw] iY):=Ys (k:=0) Q9 acA (PySem.W.mg_of X G Hi) B30 [("BadText", .ref gL),("BadChange", .ref bM),("BadFit", .ref bF),("NoPlace", .ref ma),("BadSide", .ref me),("NoMark", .ref mf),("NoNode", .ref mh),("NoCursor", .ref mi),("BadDeed", .ref mj),("BadLetter", .ref mq),("NoLetter", .ref mr),("NoHand", .ref mv),("NoNote", .ref mw),("InkError", .ref iY)] jV dU acJ (av amz (av amA (av amB (av amC (av amD (av amE (av amF (av amG (av amH (av amI (av amJ (av amK (av amL (av QY ae)))))))))))))) (av mx (av amv ae)) (by rintro vs H Q E ⟨_,_,_,rfl,_⟩;rfl) afu
 have IB:=cn (st:=pj) Ho Hq Hr
 have B31:=IB.binds (ps:=MR) fun _ _ _ _ _ _ us hl=>match us,hl with | [_],_=>rfl
 have T31:ck l.prog w K mg base 1 "_law_named" (vd):=⟨_,_,_,(bU (k:=0) IB acK [] [] MS [] [] [] [] BZ acL ae ae (av sq (av f_ ae)) [] ae ae ae ae ae (by rintro vs H Q E ⟨_,rfl,_⟩;rfl) afx),PySem.W.mg_of X G Hn,IB.kp,B31⟩
 have IC:=cn (st:=pw) Ht Hu Hv
 have B32:=IC.binds (ps:=MT) fun _ _ _ _ _ _ us hl=>match us,hl with | [_,_,_],_=>rfl
 have T32:ck l.prog w K mg base 1 "_law_gone" (rF):=⟨_,_,_,(bU (k:=0) IC acM [] [] MU [] [] [] [] Ca acN ae ae (av sq (av f_ ae)) [] ae ae ae ae ae (by rintro vs H Q E ⟨_,_,_,_,_,_,_,_,_,rfl,_⟩;rfl) afz),PySem.W.mg_of X G Hs,IC.kp,B32⟩
 have ID:=cn (st:=pz) Hx Hy Hz
 have B33:=ID.binds (ps:=MV) fun _ _ _ _ _ _ us hl=>match us,hl with | [_,_],_=>rfl
 have Q_:ck l.prog w K mg base 2 "_law_between" (lU):=⟨_,_,_,(bU (k:=1) ID acO [("_law_neat",jm)] [] MW [] [] [] [] Cc acP (av (Iw.mono (by omega)) ae) ae (av sq (av f_ ae)) [] ae ae ae ae ae (by rintro vs H Q E ⟨_,_,_,_,_,_,rfl,_⟩;rfl) agz),PySem.W.mg_of X G Hw,ID.kp,B33⟩
 have IE:=cn (st:=pA) HB HC HD
 have B34:=IE.binds (ps:=Nc) fun _ _ _ _ _ _ us hl=>match us,hl with | [_,_],_=>rfl
 have Ra:ck l.prog w K mg base 6 "_law_found" (fZ bM bF):=⟨_,_,_,(bU (k:=5) IE acW [("then",dW (qe) (nz bM bF))] [("InkError", .ref iY)] Nd [] [] [] [("_law_word",u0 K [gL,bM,bF,ma,me,mf,mh,mi,mj,mq,mr,mv,mw] iY)] Cg acX (av (T19.mono (by omega)) ae) (av QY ae) ae [] ae ae ae ae (av (T30.mono (by omega)) ae) (by rintro vs H Q E ⟨_,_,rfl,_⟩;rfl) (ag3 amM amN Ft FR)),PySem.W.mg_of X G HA,IE.kp,B34⟩
 have IF:=cn (st:=pB) HF HG HH
 have B35:=IF.binds (ps:=MX) fun _ _ _ _ _ _ us hl=>match us,hl with | [_,_],_=>rfl
 have T35:ck l.prog w K mg base 1 "_law_told_otherwise" (r9):=⟨_,_,_,(bU (k:=0) IF acY [] [] MY [] [] [] [] Ce acZ ae ae (av zd ae) [] ae ae ae ae ae (by rintro vs H Q E ⟨_,_,_,_,_,rfl,_⟩;rfl) ag1),PySem.W.mg_of X G HE,IF.kp,B35⟩
 have IG:=cn (st:=pE) HJ HK HL
 have B36:=IG.binds (ps:=Nf) fun _ _ _ _ _ _ us hl=>match us,hl with | [_,_,_,_,_],_=>rfl
 have T36:ck l.prog w K mg base 7 "_law_cut_otherwise" (vH):=⟨_,_,_,(bU (k:=6) IG ac6 [("_law_found",fZ bM bF),("_law_between",lU),("_law_told_otherwise",r9),("_law_same",nr)] [] Ng [] [] [] [] Cj ac7 (av (Ra.mono (by omega)) (av (Q_.mono (by omega)) (av (T35.mono (by omega)) (av (Q8.mono (by omega)) ae)))) ae (av f_ ae) [] ae ae ae ae ae (by rintro vs H Q E ⟨_,_,_,_,_,_,_,_,_,_,_,_,_,rfl,_⟩;rfl) ahg),PySem.W.mg_of X G HI,IG.kp,B36⟩
 have Rb:=cn (st:=bq) HN HP HQ
 have B37:=Rb.binds (ps:=Nh) fun _ _ _ _ _ _ us hl=>match us,hl with | [_],_=>rfl
 exact cA.top (bU (k:=7) Rb ac8 [("_law_text",pI),("_law_cell_at",ux K),("_law_size",uL),("_law_change",nc),("_law_done",pY),("_law_named",vd),("_law_gone",rF),("_law_found",fZ bM bF),("_law_same",nr),("_law_between",lU),("done",rk),("_law_mixed",lq),("_law_cut_otherwise",vH),("_law_neat",jm)] [] eW [] [] [] [] cc adq (av (Q7.mono (by omega)) (av (T20.mono (by omega)) (av (T24.mono (by omega)) (av (T27.mono (by omega)) (av (T28.mono (by omega)) (av (T31.mono (by omega)) (av (T32.mono (by omega)) (av (Ra.mono (by omega)) (av (Q8.mono (by omega)) (av (Q_.mono (by omega)) (av ((T16.weak fun _ _ _ _ h=> (.inl h)).mono (by omega)) (av (Ip.mono (by omega)) (av (T36.mono (by omega)) (av (Iw.mono (by omega)) ae)))))))))))))) ae (av vL (av sq (av amw (av f_ ae)))) [] ae ae ae ae ae (by rintro vs H Q E ⟨_,_,rfl,_⟩;rfl) ahE)
theorem walk{l:PySem.W.OpenLaw}{q:Program}{loose:List Str}{XP:(Str→Option Value)→Heap→Prop}{YP:World→Heap→Prop}{d:DefRec}{K:Params→PySem.W.Frag}(hn:l.most=some 63)(sS:d.params.defaults=[])
  (hY: ∀(w:World) (h:Heap),YP w h→(K w.params).In h)
  (F: ∀(w:World) (mg:Str→Option Value) (fa:Addr) (h:Heap),(K w.params).In h→h.Ns mainGlobals mg→mg d.name=some (.ref fa)→
   ∃fd:FuncData,(∀(s:Shared) (u:Value),BindsTo s fd ⟨[u],[]⟩ [("_law_script",u)])∧ ∀base:Heap,(K w.params).In base→base.Ns mainGlobals mg→cA l.prog w (K w.params) mg base wy 8 fa fd ["_law_script"] ((fun K=> (fun vs H Q _=> (y0 K) vs H Q E0)) (K w.params))):
  PySem.W.WalkO q loose XP YP l.row.toRowW d [] (fun f vs=>PySem.call f vs):=
 L2.Uz (n:=63) (k:=8) (x:="_law_script") (CX:=fun _=>wy) (sp:=fun w=> (fun K=> (fun vs H Q _=> (y0 K) vs H Q E0)) (K w.params)) hn (by decide) sS ⟨rfl,by decide,by decide⟩ hY F (fun _ _ a ns hl _ hS=> ⟨a,ns,rfl,hS,fun _=>rfl⟩) fun _ _ _ _ _ z=>z
end L2.dH
namespace PySem.W.Fast
def tw13992872121349520167:Unit:=()
def tw10049001107389315499:Unit:=()
def tw5300560637883961318:Unit:=()
def tw16578236036951477074:Unit:=()
def tw16371765192020187798:Unit:=()
def tw13580258651825841259:Unit:=()
def tw11362878019361428785:Unit:=()
def tw12061624176018799283:Unit:=()
def tw1933935608457586308:Unit:=()
def tw17763255516587044141:Unit:=()
def tw9706694983197962545:Unit:=()
def tw14638821235416834388:Unit:=()
def tw5900992300046881910:Unit:=()
def tw8711399966011835256:Unit:=()
def tw7645639794750559500:Unit:=()
def tw12175978011195277429:Unit:=()
def tw11081557520934909244:Unit:=()
def tw10079867434479408584:Unit:=()
def tw820832984181836814:Unit:=()
def tw1576387398713661653:Unit:=()
def tw9419114535238241996:Unit:=()
def tw1884720967537916952:Unit:=()
def tw6084833439853190383:Unit:=()
def tw2327635625352960595:Unit:=()
def tw654520873396161155:Unit:=()
def tw16654671029038943352:Unit:=()
def tw7385563678638850394:Unit:=()
def tw10321894757923133454:Unit:=()
def tw3304719220229833229:Unit:=()
def tw11364420801262316872:Unit:=()
def tw1829047519064103131:Unit:=()
def tw2472035417374587708:Unit:=()
def tw5519928352093593304:Unit:=()
def tw5973630251046628170:Unit:=()
def tw13867258477094672818:Unit:=()
def tw3826690463720644581:Unit:=()
def tw439423269822844782:Unit:=()
def tw5227518799025463430:Unit:=()
def tw10074024279164882296:Unit:=()
def tw13615759519012822381:Unit:=()
def tw9648223179760171486:Unit:=()
def tw1971062768955732204:Unit:=()
def tw11197416339526456970:Unit:=()
def tw663730918501125735:Unit:=()
def tw5601110701449240902:Unit:=()
def tw7470530533704680123:Unit:=()
def tw14275663073312862710:Unit:=()
def tw3094983854013173435:Unit:=()
def tw13178169944491185443:Unit:=()
def tw7104504374657183658:Unit:=()
def tw18097151845177603751:Unit:=()
def tw138778775687820790:Unit:=()
def tw7323404918167877755:Unit:=()
def tw4485894860184856172:Unit:=()
def tw13625165533897713501:Unit:=()
def tw16959922262790478860:Unit:=()
def tw12927844858559223710:Unit:=()
def tw18328315781977694943:Unit:=()
def tw11807718507423707590:Unit:=()
def tw595739910561770749:Unit:=()
def tw953442377238704103:Unit:=()
def tw8142235078853391191:Unit:=()
def tw3132413307523707513:Unit:=()
def tw18319670891478004751:Unit:=()
def tw17452624633862792091:Unit:=()
def tw15925126265255163666:Unit:=()
def tw17346703403180186068:Unit:=()
def tw16661863772839907050:Unit:=()
def tw3801635786340133978:Unit:=()
def tw16927213712455459323:Unit:=()
def tw15417867598162855531:Unit:=()
def tw16238483432938660229:Unit:=()
def tw12430135477399420276:Unit:=()
def tw3442045465046559194:Unit:=()
def tw14708358738755842010:Unit:=()
def tw6338419660764552483:Unit:=()
def tw180505094656142461:Unit:=()
def tw1014569568080056884:Unit:=()
def tw10962181155022803449:Unit:=()
def tw1447140809476751986:Unit:=()
def tw2636845942745109946:Unit:=()
def tw13680932048734344781:Unit:=()
end PySem.W.Fast
open PySem PySem.W PyProof.Rows
set_option maxRecDepth 100000 in
set_option maxHeartbeats 0 in
theorem PySem.Challenge.cw_inkloom_k06_one_then_the_other_holds : PySem.Challenge.rw_inkloom_k06_one_then_the_other.Holds := by
 w_on;o_law;k_head;(case hw=>w_witness2)
 k_fill
 refine L2.dH.walk (l:=PySem.Challenge.rw_inkloom_k06_one_then_the_other) rfl rfl (fun w h Y=>PySem.W.kIn_of Y) ?F
 case F=>
  intro w mg fa h KX G ky
  refine' L2.dH.all_mk KX G ky ?EF ?EG ?EH ?EI ?EJ ?EK ?EL ?EM ?EN ?EO ?ER ?za ?zb ?zc ?ES ?ET ?EU ?EV ?EW ?EX ?EY ?EZ ?E1 ?E2 ?E3 ?E4 ?E5 ?E6 ?E7 ?E8 ?E9 ?E_ ?Fb ?Fc ?Fd ?Fe ?Ff ?Fg ?Fh ?Fi ?Fj ?Fl ?Fm ?Fn ?Fo ?Fp ?Fq ?Fs ?Ft ?Fu ?Fv ?Fw ?Fx ?Fy ?Fz ?FA ?FC ?FD ?FE ?FF ?FG ?FH ?FI ?FJ ?FK ?FL ?FN ?FO ?FP ?FQ ?FR ?e5 ?e6 ?a0 ?l0 ?c0 ?k0 ?a1 ?l1 ?c1 ?k1 ?a2 ?l2 ?c2 ?k2 ?a3 ?l3 ?c3 ?k3 ?a4 ?l4 ?c4 ?k4 ?a5 ?l5 ?c5 ?k5 ?a6 ?l6 ?c6 ?k6 ?a7 ?l7 ?c7 ?k7 ?a8 ?l8 ?c8 ?k8 ?a9 ?i9 ?l9 ?c9 ?k9 ?FT ?FU ?FV ?ip ?rY ?FW ?FX ?FY ?iq ?rZ ?FZ ?i12 ?F_ ?ir ?r6 ?Ga ?Gb ?rf ?Gd ?Ge ?Gf ?Gg ?Gh ?Gi ?Gj ?tV ?Gk ?Gm ?Gn ?xa ?Gp ?Gq ?Gr ?Gs ?Gu ?Gv ?Gw ?Gx ?Gy ?Gz ?GA ?GB ?GC ?GD ?GF ?GG ?GH ?GI ?GJ ?GK ?GL ?GN ?GO ?GP ?GQ ?GR ?GS ?rg ?GU ?GV ?GW ?GX ?GY ?GZ ?G0 ?tW ?G1 ?G3 ?G4 ?tX ?G5 ?G6 ?G7 ?G8 ?G9 ?G_ ?Ha ?Hb ?Hc ?He ?Hf ?Hg ?Hh ?Hi ?Hj ?Hk ?Hl ?Hn ?Ho ?Hq ?Hr ?Hs ?Ht ?Hu ?Hv ?Hw ?Hx ?Hy ?Hz ?HA ?HB ?HC ?HD ?HE ?HF ?HG ?HH ?HI ?HJ ?HK ?HL ?HM ?HN ?HP ?HQ ?HR ?HS ?HU ?HV ?HW ?HX ?HY ?HZ ?H0 ?H_ ?Ia ?Ib ?Ic ?Ie
  (case EF=>k_is)
  (case EG=>k_is)
  (case EH=>k_is)
  (case EI=>k_is)
  (case EJ=>k_is)
  (case EK=>k_is)
  (case EL=>k_is)
  (case EM=>k_is)
  (case EN=>k_is)
  (case EO=>k_is)
  (case ER=>k_is)
  (case za=>k_is)
  (case zb=>k_is)
  (case zc=>k_is)
  (case ES=>k_is)
  (case ET=>k_is)
  (case EU=>k_is)
  (case EV=>k_is)
  (case EW=>k_is)
  (case EX=>k_is)
  (case EY=>k_is)
  (case EZ=>k_is)
  (case E1=>k_is)
  (case E2=>k_is)
  (case E3=>k_exc)
  (case E4=>k_exc)
  (case E5=>k_exc)
  (case E6=>k_is)
  (case E7=>k_is)
  (case E8=>kernel_rfl)
  (case E9=>k_is)
  (case E_=>k_is)
  (case Fb=>k_is)
  (case Fc=>kernel_rfl)
  (case Fd=>kernel_rfl)
  (case Fe=>kernel_rfl)
  (case Ff=>kernel_rfl)
  (case Fg=>kernel_rfl)
  (case Fh=>kernel_rfl)
  (case Fi=>kernel_rfl)
  (case Fj=>kernel_rfl)
  (case Fl=>kernel_rfl)
  (case Fm=>kernel_rfl)
  (case Fn=>kernel_rfl)
  (case Fo=>kernel_rfl)
  (case Fp=>kernel_rfl)
  (case Fq=>kernel_rfl)
  (case Fs=>kernel_rfl)
  (case Ft=>kernel_rfl)
  (case Fu=>k_is)
  (case Fv=>k_is)
  (case Fw=>kernel_rfl)
  (case Fx=>k_is)
  (case Fy=>k_is)
  (case Fz=>k_is)
  (case FA=>kernel_rfl)
  (case FC=>kernel_rfl)
  (case FD=>kernel_rfl)
  (case FE=>kernel_rfl)
  (case FF=>kernel_rfl)
  (case FG=>kernel_rfl)
  (case FH=>kernel_rfl)
  (case FI=>kernel_rfl)
  (case FJ=>kernel_rfl)
  (case FK=>kernel_rfl)
  (case FL=>kernel_rfl)
  (case FN=>kernel_rfl)
  (case FO=>kernel_rfl)
  (case FP=>kernel_rfl)
  (case FQ=>kernel_rfl)
  (case FR=>kernel_rfl)
  (case e5=>k_is)
  (case e6=>k_is)
  (case a0=>k_is)
  (case l0=>k_is)
  (case c0=>k_is)
  (case k0=>k_is)
  (case a1=>k_is)
  (case l1=>k_is)
  (case c1=>k_is)
  (case k1=>k_is)
  (case a2=>k_is)
  (case l2=>k_is)
  (case c2=>k_is)
  (case k2=>k_is)
  (case a3=>k_is)
  (case l3=>k_is)
  (case c3=>k_is)
  (case k3=>k_is)
  (case a4=>k_is)
  (case l4=>k_is)
  (case c4=>k_is)
  (case k4=>k_is)
  (case a5=>k_is)
  (case l5=>k_is)
  (case c5=>k_is)
  (case k5=>k_is)
  (case a6=>k_is)
  (case l6=>k_is)
  (case c6=>k_is)
  (case k6=>k_is)
  (case a7=>k_is)
  (case l7=>k_is)
  (case c7=>k_is)
  (case k7=>k_is)
  (case a8=>k_is)
  (case l8=>k_is)
  (case c8=>k_is)
  (case k8=>k_is)
  (case a9=>k_is)
  (case i9=>k_is)
  (case l9=>k_is)
  (case c9=>k_is)
  (case k9=>k_is)
  (case FT=>k_is)
  (case FU=>k_is)
  (case FV=>k_is)
  (case ip=>k_is)
  (case rY=>k_is)
  (case FW=>k_is)
  (case FX=>k_is)
  (case FY=>k_is)
  (case iq=>k_is)
  (case rZ=>k_is)
  (case FZ=>k_is)
  (case i12=>k_is)
  (case F_=>k_is)
  (case ir=>k_is)
  (case r6=>k_is)
  (case Ga=>k_is)
  (case Gb=>k_is)
  (case rf=>k_is)
  (case Gd=>k_is)
  (case Ge=>k_is)
  (case Gf=>k_is)
  (case Gg=>k_is)
  (case Gh=>k_is)
  (case Gi=>k_is)
  (case Gj=>k_is)
  (case tV=>k_is)
  (case Gk=>k_is)
  (case Gm=>k_is)
  (case Gn=>k_is)
  (case xa=>k_is)
  (case Gp=>k_is)
  (case Gq=>k_is)
  (case Gr=>k_is)
  (case Gs=>k_is)
  (case Gu=>k_is)
  (case Gv=>k_is)
  (case Gw=>k_is)
  (case Gx=>k_is)
  (case Gy=>k_is)
  (case Gz=>k_is)
  (case GA=>k_is)
  (case GB=>k_is)
  (case GC=>k_is)
  (case GD=>k_is)
  (case GF=>k_is)
  (case GG=>k_is)
  (case GH=>k_is)
  (case GI=>k_is)
  (case GJ=>k_is)
  (case GK=>k_is)
  (case GL=>k_is)
  (case GN=>k_is)
  (case GO=>k_is)
  (case GP=>k_is)
  (case GQ=>k_is)
  (case GR=>k_is)
  (case GS=>k_is)
  (case rg=>k_is)
  (case GU=>k_is)
  (case GV=>k_is)
  (case GW=>k_is)
  (case GX=>k_is)
  (case GY=>k_is)
  (case GZ=>k_is)
  (case G0=>k_is)
  (case tW=>k_is)
  (case G1=>k_is)
  (case G3=>k_is)
  (case G4=>k_is)
  (case tX=>k_is)
  (case G5=>k_is)
  (case G6=>k_is)
  (case G7=>k_is)
  (case G8=>k_is)
  (case G9=>k_is)
  (case G_=>k_is)
  (case Ha=>k_is)
  (case Hb=>k_is)
  (case Hc=>k_is)
  (case He=>k_is)
  (case Hf=>k_is)
  (case Hg=>k_is)
  (case Hh=>k_is)
  (case Hi=>k_is)
  (case Hj=>k_is)
  (case Hk=>k_is)
  (case Hl=>k_is)
  (case Hn=>k_is)
  (case Ho=>k_is)
  (case Hq=>k_is)
  (case Hr=>k_is)
  (case Hs=>k_is)
  (case Ht=>k_is)
  (case Hu=>k_is)
  (case Hv=>k_is)
  (case Hw=>k_is)
  (case Hx=>k_is)
  (case Hy=>k_is)
  (case Hz=>k_is)
  (case HA=>k_is)
  (case HB=>k_is)
  (case HC=>k_is)
  (case HD=>k_is)
  (case HE=>k_is)
  (case HF=>k_is)
  (case HG=>k_is)
  (case HH=>k_is)
  (case HI=>k_is)
  (case HJ=>k_is)
  (case HK=>k_is)
  (case HL=>k_is)
  (case HM=>k_is)
  (case HN=>k_is)
  (case HP=>k_is)
  (case HQ=>k_is)
  (case HR=>k_is)
  (case HS=>k_is)
  (case HU=>k_is)
  (case HV=>k_is)
  (case HW=>k_is)
  (case HX=>k_is)
  (case HY=>k_is)
  (case HZ=>k_is)
  (case H0=>k_is)
  (case H_=>k_is)
  (case Ia=>k_is)
  (case Ib=>k_is)
  (case Ic=>k_is)
  (case Ie=>k_is)
