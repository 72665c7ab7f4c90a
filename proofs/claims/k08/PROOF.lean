import PyProof.Rows.All
import Wide.All
import OpenK.AllK
import Wide.FinOn
import Lean
import PyProof.EqAt
import PyProof.EqKinds
import PyProof.TupleCall
import PyProof.Rows.EqDataRows
import PyProof.DictList
import PyProof.FactsAll.dict_1
import PyProof.FactsAll.subtypes_4
import KE.KTryMore
import PyProof.WalksEnum
import PyProof.EnumMake
import PyProof.ListStr
import PyProof.TupleOfStr
import PyProof.Dict
import PySem.Challenge.RW_inkloom_k08_past_one_another
set_option Elab.async false
set_option linter.all false
set_option maxRecDepth 100000
set_option compiler.extract_closed false
noncomputable section
open PySem.W (InstAt callWith_K cellsFrom_some codeIn codeRec_of emptyDict exmOne fnOf handedIn hasDictIn hideAll hideAll_get instObj isFn keepIn kia_one kitOne kitx_dict kitx_list lookIn makesIn methodObj mg_none_of of_hideAll plainGet plainGet_of plainOver takerIn)
namespace L2
open PySem PySem.Spec PyProof.Rows
abbrev Key:=Sum Int Str
def rJ:Key→Value→Bool
 | .inl k,v=>Value.isInt k v
 | .inr x,v=>Value.isStrOf x v
def S2(w:World):Key→Int
 | .inl k=>hashInt k
 | .inr x=>hashStr w x
theorem km: ∀{k:Key} {v:Value},rJ k v=true→(∃i t,k=Sum.inl i∧v=Value.int i t)∨(∃x t,k=Sum.inr x∧v=Value.str x t)
 | .inl i,v,h=>by
  obtain⟨t,e⟩:=Value.isInt_shape (k:=i) (v:=v) h
  exact .inl ⟨i,t,rfl,e⟩
 | .inr x,v,h=>by
  obtain⟨t,e⟩:=Value.isStrOf_shape (x:=x) (v:=v) h
  exact .inr ⟨x,t,rfl,e⟩
theorem S4(i:Int)(t:Tok):rJ (.inl i) (.int i t)=true:=by simp[rJ,Value.isInt]
theorem S5(x:Str)(t:Tok):rJ (.inr x) (.str x t)=true:=by simp[rJ,Value.isStrOf]
theorem S6(a b:Int):decide ((Sum.inl a:Key)=Sum.inl b)=(a==b):=by
 by_cases e:a=b
 ·subst e;simp
 ·have h: ¬(Sum.inl a:Key)=Sum.inl b:=fun q=>e (Sum.inl.inj q)
  rw[decide_eq_false h]
  exact(beq_eq_false_iff_ne.mpr e).symm
theorem S7(a b:Str):decide ((Sum.inr a:Key)=Sum.inr b)=decide (a=b):=by
 by_cases e:a=b
 ·subst e;simp
 ·have h: ¬(Sum.inr a:Key)=Sum.inr b:=fun q=>e (Sum.inr.inj q)
  rw[decide_eq_false h,decide_eq_false e]
theorem S8(a:Int)(b:Str):decide ((Sum.inl a:Key)=Sum.inr b)=false:=decide_eq_false (fun q=>nomatch q)
theorem S9(a:Str)(b:Int):decide ((Sum.inr a:Key)=Sum.inl b)=false:=decide_eq_false (fun q=>nomatch q)
def dQ(prog:Program)(w:World):PySem.KeyKind prog w Key where
 is:=rJ
 hash:=S2 w
 inj:=fun v a b ha hb=>by
  rcases km ha with⟨i,t,rfl,rfl⟩ | ⟨x,t,rfl,rfl⟩
  ·rcases km hb with⟨j,u,rfl,e⟩ | ⟨y,u,rfl,e⟩
   ·injection e with e1 _;rw[e1]
   ·exact nomatch e
  ·rcases km hb with⟨j,u,rfl,e⟩ | ⟨y,u,rfl,e⟩
   ·exact nomatch e
   ·injection e with e1 _;rw[e1]
 byValue:=fun k v h=>by
  rcases km h with⟨i,t,rfl,rfl⟩ | ⟨x,t,rfl,rfl⟩ <;>rfl
 pyHash:=fun hv h=>by
  rcases km hv with⟨i,t,rfl,rfl⟩ | ⟨x,t,rfl,rfl⟩
  ·exact wpAny_pyHash_int h
  ·exact wpAny_pyHash_str h
 eqBool:=fun hu hv h=>by
  rcases km hu with⟨i,t,rfl,rfl⟩ | ⟨x,t,rfl,rfl⟩
  ·rcases km hv with⟨j,u,rfl,rfl⟩ | ⟨y,u,rfl,rfl⟩
   ·rw[S6] at h;exact wpAny_eqBool_int h
   ·rw[S8] at h;exact SeqAt.EqAt.int_str i t y u _ _ _ _ h
  ·rcases km hv with⟨j,u,rfl,rfl⟩ | ⟨y,u,rfl,rfl⟩
   ·rw[S9] at h;exact SeqAt.EqAt.str_int x t j u _ _ _ _ h
   ·rw[S7] at h;exact wpAny_eqBool_str h
 «strs»:=fun k x t v h=>by
  rcases km h with⟨i,u,rfl,e⟩ | ⟨y,u,rfl,e⟩
  ·exact nomatch e
  ·injection e with e1 _
   subst e1
   cases v<;>rfl
theorem J8(prog:Program)(w:World)(i:Int)(t:Tok):(dQ prog w).is (.inl i) (.int i t)=true:=S4 i t
theorem J9(prog:Program)(w:World)(x:Str)(t:Tok):(dQ prog w).is (.inr x) (.str x t)=true:=S5 x t
inductive V where
 | aw | bl (b:Bool) | int (i:Int) | str (x:Str) | fh (b:Array UInt8) | mK (b:UInt64) | ref (a:Addr) | ty (n:String)
 deriving DecidableEq
def RelV:V→Value→Prop
 | .aw,u=>u=Value.none
 | .bl b,u=>u=Value.bool b
 | .int i,u=> ∃t,u=Value.int i t
 | .str x,u=> ∃t,u=Value.str x t
 | .fh b,u=> ∃t,u=Value.bytes b t
 | .mK b,u=> ∃t,u=Value.float b t
 | .ref a,u=>u=Value.ref a
 | .ty n,u=>u=Value.type n
abbrev Vals:List V→List Value→Prop:=Paired RelV
theorem Vals.length{xs:List V}{us:List Value}(r:Vals xs us):xs.length=us.length:=Paired.length r
theorem Vals.get: ∀{xs:List V} {us:List Value} {i:Nat} {x:V},Vals xs us→xs[i]?=some x→ ∃u,us[i]?=some u∧RelV x u
 | _,_,_,_, .nil,e=>by simp at e
 | _,_,0,_, .cons r _,e=>by simp at e;subst e;exact⟨_,rfl,r⟩
 | _,_,i+1,x, .cons _ t,e=>by
  obtain⟨u,h1,h2⟩:=Vals.get (i:=i) (x:=x) t (by simpa using e)
  exact⟨u,by simpa using h1,h2⟩
theorem Vals.set{x:V}{u:Value}(r:RelV x u): ∀{xs:List V} {us:List Value} (i:Nat),Vals xs us→Vals (xs.set i x) (us.set i u)
 | _,_,_, .nil=> .nil
 | _,_,0, .cons _ t=> .cons r t
 | _,_,i+1, .cons q t=> .cons q (Vals.set r i t)
theorem Vals.append: ∀{xs ys:List V} {us ws:List Value},Vals xs us→Vals ys ws→Vals (xs++ys) (us++ws)
 | _,_,_,_, .nil,s=>s
 | _,_,_,_, .cons r t,s=> .cons r (Vals.append t s)
theorem Vals.take: ∀{xs:List V} {us:List Value} (n:Nat),Vals xs us→Vals (xs.take n) (us.take n)
 | _,_,0,_=> .nil
 | _,_,_+1, .nil=> .nil
 | _,_,n+1, .cons r t=> .cons r (Vals.take n t)
theorem Vals.drop: ∀{xs:List V} {us:List Value} (n:Nat),Vals xs us→Vals (xs.drop n) (us.drop n)
 | _,_,0,r=>r
 | _,_,_+1, .nil=> .nil
 | _,_,n+1, .cons _ t=>Vals.drop n t
def eN:Option V→Option Value→Prop
 | some v,some u=>RelV v u
 | none,none=>True
 | _,_=>False
def KV{κ:Type}:List (κ×V)→List (κ×Value)→Prop:=Paired fun(p:κ×V) (q:κ×Value)=>p.1=q.1∧RelV p.2 q.2
def kV:Key→V
 | .inl i=> .int i
 | .inr x=> .str x
inductive HO where
 | lst (xs:List V)
 | tup (xs:List V)
 | dK (ah:List (Key×V)) | dT (ah:List (List Key×V))
 | set (S:Int→Bool) (n:Nat)
 | ins (C dx:Addr) (fs:List (Str×V))
 | own (x:Addr)
 | xd (fs:List (Str×V))
 | met (f x:Addr)
 | eO (lo hi:Int)
 | bL (o:Obj) (u:HO)
 | jG (ps:Array Value)
 | ext (φ:Heap→Prop)
abbrev Hp:=Addr→Option HO
def upd(H:Hp)(a:Addr)(o:HO):Hp:=fun b=>if b=a then some o else H b
theorem av{H:Hp}{a:Addr}{o:HO}:upd H a o a=some o:=by unfold upd;rw[if_pos rfl]
theorem aD{H:Hp}{a b:Addr}{o:HO}(h:b≠a):upd H a o b=H b:=by unfold upd;rw[if_neg h]
theorem xp{H:Hp}{a:Addr}{o u:HO}:upd (upd H a o) a u=upd H a u:=by
 funext b;unfold upd;split<;>rfl
theorem bC{H:Hp}{a b:Addr}{o u:HO}(h:H a=some o)(h':H b=some u)(d:o≠u):a≠b:=by
 intro e;subst e;rw[h] at h';exact d (Option.some.inj h')
theorem aW{H:Hp}{a b:Addr}{o:HO}(h:H a=some o)(h':H b=none):a≠b:=by
 intro e;subst e;rw[h] at h';cases h'
section
variable (P:Program) (w:World)
def cx(H:Hp)(h:Heap)(a:Addr):HO→Prop
 | .lst xs=>xs.length≤sizeLine∧ ∃(its:List Value) (n:Nat),Vals xs its∧h.get? a=some {cls:= .type "list",data:= .seq its.toArray n}
 | .tup xs=>xs.length≤sizeLine∧ ∃its:List Value,Vals xs its∧IsTup h a its.toArray
 | .dK ah=>ah.length≤sizeLine∧(a==sysModules)=false∧ ∃vs,KV ah vs∧h.DictOf (dQ P w) a vs
 | .dT ah=>ah.length≤sizeLine∧(a==sysModules)=false∧ ∃xs:List (List Key×Addr×Value),
   Paired (fun(p:List Key×V) (q:List Key×Addr×Value)=>p.1=q.1∧H q.2.1=some (.tup (p.1.map kV))∧RelV p.2 q.2.2) ah xs∧
   ∃o es ep,h.get? a=some o∧o.ExactDict∧o.data= .dict es ep∧es.toList=xs.map (entryOfKey (tupleKind (dQ P w)))∧(xs.map (·.1)).Nodup
 | .set S n=>h.SetOf (intKind P w) a S n
 | .ins C dx fs=>H dx=some (.own a)∧fs.length≤1000∧dx≠a∧h.get? a=some (instObj C dx)∧
   ∃mA,h.Ns1 dx mA∧(∀f,eN (fs.lookup f) (mA f))∧PySem.Within mA (fs.map (·.1))
 | .own _=> ∃o,h.get? a=some o
 | .xd fs=> ∃mA,h.Ns1 a mA∧ ∀f,eN (fs.lookup f) (mA f)
 | .eO lo hi=> ∃t u v,h.get? a=some {cls:= .type "range",data:= .fields #[.int lo t, .int hi u, .int 1 v]}
 | .bL o u=>h.get? a=some o∧cx H h a u
 | .jG ps=>h.get? a=some {cls:= .none,data:= .fields ps}
 | .met f x=>h.get? a=some (methodObj (.ref f) (.ref x))
 | .ext φ=>φ h∧(∃o,h.get? a=some o)∧ ∀h1 h2:Heap,φ h1→(∀o,h1.get? a=some o→h2.get? a=some o)→φ h2
def bW(H:Hp)(h:Heap):Prop:= ∀a o,H a=some o→cx P w H h a o
end
section
variable {P:Program} {w:World} {H H':Hp} {h h':Heap} {a:Addr} {o:HO}
theorem cx.lt(x:cx P w H h a o):a<h.objs.size:=by
 cases o with
 | lst xs=>obtain⟨_,_,_,_,e⟩:=x;exact Heap.lt_size e
 | tup xs=>obtain⟨_,_,_,p⟩:=x;exact p.lt
 | dK ah=>obtain⟨_,_,_,_,o,_,_,e,_⟩:=x;exact Heap.lt_size e
 | dT ah=>obtain⟨_,_,_,_,o,_,_,e,_⟩:=x;exact Heap.lt_size e
 | set S n=>obtain⟨o,_,_,_,e,_⟩:=x;exact Heap.lt_size e
 | ins C dx fs=>obtain⟨_,_,_,e,_⟩:=x;exact Heap.lt_size e
 | own y=>obtain⟨_,e⟩:=x;exact Heap.lt_size e
 | xd fs=>obtain⟨_,⟨_,_,_,e,_⟩,_⟩:=x;exact Heap.lt_size e
 | eO lo hi=>obtain⟨_,_,_,e⟩:=x;exact Heap.lt_size e
 | bL ob u=>obtain⟨e,_⟩:=x;exact Heap.lt_size e
 | jG ps=>exact Heap.lt_size (show h.get? a=some _ from x)
 | met f y=>exact Heap.lt_size (show h.get? a=some _ from x)
 | ext φ=>obtain⟨_,⟨_,e⟩,_⟩:=x;exact Heap.lt_size e
theorem Paired.AE{α β:Type}{F G:α→β→Prop}: ∀{l₁:List α} {l₂:List β},Paired F l₁ l₂→(∀a b,F a b→G a b)→Paired G l₁ l₂
 | _,_, .nil,_=> .nil
 | _,_, .cons r t,f=> .cons (f _ _ r) (Paired.AE t f)
theorem cx.jH(x:cx P w H h a o)(k: ∀b u,(b=a∨H b=some (.own a))→h.get? b=some u→h'.get? b=some u)
  (ho: ∀b,H b=some (.own a)→H' b=some (.own a)) (ht: ∀b xs,H b=some (.tup xs)→H' b=some (.tup xs)):cx P w H' h' a o:=by
 induction o with
 | lst xs=>obtain⟨z,its,n,r,e⟩:=x;exact⟨z,its,n,r,k _ _ (.inl rfl) e⟩
 | tup xs=>obtain⟨z,its,r,ob,e,c⟩:=x;exact⟨z,its,r,ob,k _ _ (.inl rfl) e,c⟩
 | dK ah=>obtain⟨z,y,vs,r,ob,es,ep,e,c⟩:=x;exact⟨z,y,vs,r,ob,es,ep,k _ _ (.inl rfl) e,c⟩
 | dT ah=>
  obtain⟨z,y,xs,r,ob,es,ep,e,c⟩:=x
  exact⟨z,y,xs,Paired.AE r fun p q z=> ⟨z.1,ht _ _ z.2.1,z.2.2⟩,ob,es,ep,k _ _ (.inl rfl) e,c⟩
 | set S n=>obtain⟨ob,es,ep,t,e,c⟩:=x;exact⟨ob,es,ep,t,k _ _ (.inl rfl) e,c⟩
 | ins C dx fs=>
  obtain⟨d,z,ne,e,mA,⟨od,es,ep,e2,c⟩,r⟩:=x
  exact⟨ho _ d,z,ne,k _ _ (.inl rfl) e,mA,⟨od,es,ep,k _ _ (.inr d) e2,c⟩,r⟩
 | own y=>obtain⟨ob,e⟩:=x;exact⟨ob,k _ _ (.inl rfl) e⟩
 | xd fs=>obtain⟨mA,⟨od,es,ep,e,c⟩,r⟩:=x;exact⟨mA,⟨od,es,ep,k _ _ (.inl rfl) e,c⟩,r⟩
 | eO lo hi=>obtain⟨t,u,v,e⟩:=x;exact⟨t,u,v,k _ _ (.inl rfl) e⟩
 | bL ob u ih=>obtain⟨e,q⟩:=x;exact⟨k _ _ (.inl rfl) e,ih q⟩
 | jG ps=>
  have e:h.get? a=some {cls:= .none,data:= .fields ps}:=x
  show h'.get? a=some {cls:= .none,data:= .fields ps}
  exact k a _ (.inl rfl) e
 | met f y=>
  have e:h.get? a=some (methodObj (.ref f) (.ref y)):=x
  show h'.get? a=some (methodObj (.ref f) (.ref y))
  exact k a _ (.inl rfl) e
 | ext φ=>obtain⟨p,⟨o,e⟩,st⟩:=x;exact⟨st _ _ p fun o q=>k _ _ (.inl rfl) q,⟨o,k _ _ (.inl rfl) e⟩,st⟩
theorem bW.lt(x:bW P w H h)(e:H a=some o):a<h.objs.size:=(x a o e).lt
theorem bW.fresh(x:bW P w H h)(e:h.objs.size≤a):H a=none:=by
 cases q:H a with
 | none=>rfl
 | some u=>exact absurd (Nat.lt_of_lt_of_le (x.lt q) e) (Nat.lt_irrefl _)
theorem bW.kept(x:bW P w H h)(k: ∀b u,h.get? b=some u→h'.get? b=some u):bW P w H h':=fun a o e=>
 (x a o e).jH (fun b u _ q=>k b u q) (fun _ q=>q) fun _ _ q=>q
theorem bW.laid(x:bW P w H h)(k: ∀b u,h.get? b=some u→h'.get? b=some u)(hp:h.objs.size≤a)(new:cx P w (upd H a o) h' a o):bW P w (upd H a o) h':=fun b u e=>by
 have hn:=x.fresh hp
 by_cases hb:b=a
 ·subst hb;rw[av] at e;cases e;exact new
 ·rw[aD hb] at e
  exact(x b u e).jH (fun c v _ q=>k c v q) (fun c q=>by rw[aD (aW q hn)];exact q) fun c xs q=>by rw[aD (aW q hn)];exact q
end
def Rd(H:Hp)(a:Addr)(u:HO):Prop:=H a=some u∨ ∃o,H a=some (.bL o u)
theorem Rd.ok{P:Program}{w:World}{H:Hp}{h:Heap}{a:Addr}{u:HO}(r:Rd H a u)(x:bW P w H h):cx P w H h a u:=by
 rcases r with r | ⟨o,r⟩
 ·exact x a u r
 ·obtain⟨_,q⟩:=x a _ r
  exact q
def ug:Option HO→Prop
 | some (.lst _)=>True
 | some (.dK _)=>True
 | some (.dT _)=>True
 | some (.set _ _)=>True
 | some (.ins _ _ _)=>True
 | some (.ext _)=>True
 | _=>False
section
variable {P:Program} {w:World} {H:Hp} {h h':Heap} {x e:Addr} {o':HO}
theorem bW.write(ok:bW P w H h)(mu:ug (H x))(he:e=x∨H e=some (.own x))(k: ∀b u,b≠e→h.get? b=some u→h'.get? b=some u)(rL: ∃u,h'.get? e=some u)
  (new:cx P w (upd H x o') h' x o'):bW P w (upd H x o') h':=fun b u q=>by
 have J_: ∀c y,H c=some (.own y)→c≠x:=fun c y r z=>by subst z;rw[r] at mu;exact mu
 have S_: ∀c xs,H c=some (.tup xs)→c≠x:=fun c xs r z=>by subst z;rw[r] at mu;exact mu
 by_cases hb:b=x
 ·subst hb;rw[av] at q;cases q;exact new
 ·rw[aD hb] at q
  by_cases oq:b=e
  ·have q':H b=some (.own x):=by
    rcases he with z | z
    ·exact absurd (oq.trans z) hb
    ·rw[oq];exact z
   rw[q] at q';cases q'
   obtain⟨v,hv⟩:=rL
   exact⟨v,by rw[oq];exact hv⟩
  ·refine(ok b u q).jH (fun c v hc r=>k c v ?_ r) (fun c r=>by rw[aD (J_ c b r)];exact r) fun c xs r=>by rw[aD (S_ c xs r)];exact r
   rcases hc with rfl | hc
   ·exact oq
   ·rintro rfl
    rcases he with z | z
    ·exact J_ c b hc z
    ·rw[hc] at z;cases z;exact hb rfl
end
structure Un (fs ex:List Addr) (H H':Hp) (h h':Heap):Prop where
 keep: ∀b o,h.get? b=some o→H b=none→b∉fs→b∉ex→h'.get? b=some o
 slot: ∀b o,h.get? b=some o→H b=none→b∈fs→b∉ex→ ∃sl,h'.get? b=some {o with slots:=sl}
 free: ∀b o,h.get? b=some o→H b=none→b∉ex→H' b=none
 there: ∀b o,h.get? b=some o→b∉ex→ ∃o',h'.get? b=some o'
 dw: ∀b xs,H b=some (.tup xs)→H' b=some (.tup xs)
 eP: ∀b o u,H b=some (.bL o u)→H' b=some (.bL o u)
 fG: ∀b ps,H b=some (.jG ps)→ ∃more,H' b=some (.jG (ps++more))
section
variable {fs uh ex ex':List Addr} {H H1 H2:Hp} {h h1 h2 h':Heap} {a x e:Addr} {o:HO}
theorem Un.any(u:Un fs ex H H1 h h1){b:Addr}{ob:Obj}(q:h.get? b=some ob)(n:H b=none)(hx:b∉ex): ∃sl,h1.get? b=some {ob with slots:=sl}:=by
 by_cases hb:b∈fs
 ·exact u.slot b ob q n hb hx
 ·exact⟨ob.slots,u.keep b ob q n hb hx⟩
theorem Un.kept(k: ∀b u,h.get? b=some u→h'.get? b=some u):Un fs ex H H h h':=
 ⟨fun b ob q _ _ _=>k b ob q,fun b ob q _ _ _=> ⟨ob.slots,k b ob q⟩,fun _ _ _ n _=>n,fun b ob q _=> ⟨ob,k b ob q⟩,fun _ _ q=>q,fun _ _ _ q=>q,fun _ ps q=> ⟨#[],by rw[q];simp⟩⟩
theorem Un.refl:Un fs ex H H h h:=Un.kept fun _ _ q=>q
theorem Un.laid(k: ∀b u,h.get? b=some u→h'.get? b=some u)(hp:h.objs.size≤a)(hn:H a=none):Un fs ex H (upd H a o) h h' where
 keep:=fun b u q _ _ _=>k b u q
 slot:=fun b u q _ _ _=> ⟨u.slots,k b u q⟩
 free:=fun b u q n _=>by rw[aD (Nat.ne_of_lt (Nat.lt_of_lt_of_le (Heap.lt_size q) hp))];exact n
 there:=fun b u q _=> ⟨u,k b u q⟩
 dw:=fun b xs q=>by rw[aD (aW q hn)];exact q
 eP:=fun b u xs q=>by rw[aD (aW q hn)];exact q
 fG:=fun b ps q=> ⟨#[],by rw[aD (aW q hn),q];simp⟩
theorem Un.write(mu:ug (H x))(he:e=x∨H e=some (.own x))(k: ∀b u,b≠e→h.get? b=some u→h'.get? b=some u)(rL: ∃u,h'.get? e=some u):Un fs ex H (upd H x o) h h':=by
 have hx: ∀b,H b=none→b≠x:=fun b n z=>by subst z;rw[n] at mu;exact mu
 have hb: ∀b,H b=none→b≠e:=fun b n z=>by
  subst z
  rcases he with r | r
  ·exact hx b n r
  ·rw[n] at r;cases r
 have hm: ∀b u,H b=some u→ ¬ug (some u)→b≠x:=fun b u q nm z=>by subst z;rw[q] at mu;exact nm mu
 refine⟨fun b u q n _ _=>k b u (hb b n) q,fun b u q n _ _=> ⟨u.slots,k b u (hb b n) q⟩,fun b u q n _=>by rw[aD (hx b n)];exact n,fun b u q _=> ?_,
  fun b xs q=>by rw[aD (hm b _ q fun z=>z)];exact q,fun b u xs q=>by rw[aD (hm b _ q fun z=>z)];exact q,fun b ps q=> ⟨#[],by rw[aD (hm b _ q fun z=>z),q];simp⟩⟩
 by_cases oq:b=e
 ·subst oq;exact rL
 ·exact⟨u,k b u oq q⟩
end
def jI(h:Heap)(H:Hp):List Addr:=(List.range h.objs.size).filter fun a=> (H a).isSome
def ko(h:Heap)(H:Hp):Heap:=hideAll h (jI h H)
theorem Ta(h:Heap)(H:Hp):(ko h H).objs.size=h.objs.size:=PySem.W.hideAll_size _ _
theorem Tb{h:Heap}{H:Hp}{b:Addr}{o:Obj}(e:h.get? b=some o)(n:H b=none):(ko h H).get? b=some o:=
 hideAll_get _ e fun hm=>by
  have q:(H b).isSome=true:=(List.mem_filter.mp hm).2
  rw[n] at q;simp at q
theorem Tc{h:Heap}{H:Hp}{b:Addr}{o:Obj}(e:(ko h H).get? b=some o):h.get? b=some o∧H b=none:=by
 have e':h.get? b=some o:=of_hideAll (jI h H) e
 refine⟨e', ?_⟩
 cases q:H b with
 | none=>rfl
 | some x=>
  have hm:b∈jI h H:=List.mem_filter.mpr ⟨List.mem_range.mpr (Heap.lt_size e'),by simp[q]⟩
  have z:(ko h H).get? b=none:=PySem.W.hideAll_none (jI h H) hm
  rw[z] at e;cases e
structure Mod (K:PySem.W.Frag) (mg:Str→Option Value) (base:Heap):Prop where
 ou:K.In base
 glob:base.Ns mainGlobals mg
 blt: ∃mb,base.Ns builtinsNs mb∧ ∀x:Str,x≠"__name__"→mb x=bootBuiltins x
 nolimit:base.NoLimit
structure Cx where
 prog:Program
 w:World
 K:PySem.W.Frag
 mg:Str→Option Value
 base:Heap
 A:Around
 N:List Str
 s₀:Shared
 H₀:Hp
 env:Env
 outer:List Env
 stack:List Env
 ex:List Addr
 fn:Str→Bool
 calm:Bool
 pn:List (Addr×Obj)
 xe:Value→Shared→Prop
def bD(l:List Env):List Addr:=l.filterMap (·.frame)
abbrev Cx.fs(X:Cx):List Addr:=bD X.outer
def xq(sc:Scope)(x:Str):Prop:=sc.names.lookup x=some .local∨sc.names.lookup x=some .cell∨sc.names.lookup x=some .free
def Loc(sc:Scope)(x:Str):Prop:=sc.names.lookup x=some .local∨sc.names.lookup x=some .cell
def Look(env:Env)(h:Heap)(m:Str→Option Value)(x:Str)(u:Value):Prop:=
 (env.kindOf x=some .local∧m x=some u)∨((env.kindOf x=some .cell∨env.kindOf x=some .free)∧ ∃c,env.cells.lookup x=some c∧h.IsCell c (some u))
structure Cx.Ok (X:Cx):Prop where
 mod:Mod X.K X.mg X.base
 kind:X.env.scope.kind= .function
 glob:X.env.globals=mainGlobals
 blt:X.env.builtins=builtinsNs
 above:X.s₀.heap.objs.size≤X.env.locals
 inj: ∀x y c,X.env.cells.lookup x=some c→X.env.cells.lookup y=some c→x=y
 has: ∀x,(X.env.kindOf x=some .cell∨X.env.kindOf x=some .free)→ ∃c,X.env.cells.lookup x=some c
 xr: ∀x c,X.fn x=true→X.env.cells.lookup x=some c→X.s₀.heap.objs.size≤c
 hd:X.calm=true→X.A.handled=none
 frames:X.A.frames=some X.stack
 iG:X.stack=X.outer∨(X.stack=X.env::X.outer∧X.env.frame=some X.env.locals)
 Td: ∀b∈X.ex,b≠X.env.locals∧ ∀x c,X.env.cells.lookup x=some c→c≠b
 bs: ∀b o,X.base.get? b=some o→X.s₀.heap.get? b=some o∧X.H₀ b=none
 mL:X.base.objs.size≤X.s₀.heap.objs.size
 xt: ∀b o,X.base.get? b=some o→b∉X.ex
 xu: ∀b∈X.ex,b∉X.fs
 iH:X.s₀.heap.FunFrames X.base X.outer
 oy: ∀b∈X.fs,X.H₀ b=none
structure Inv (X:Cx) (pins:List (Addr×Obj)) (σ:List (Option V)) (H:Hp) (s:Shared):Prop where
 ok:X.Ok
 os:s.os=X.s₀.os
 bare:AllBare s.gens
 base:Un X.fs X.ex X.H₀ H X.s₀.heap s.heap
 loc: ∃m,s.heap.Ns X.env.locals m∧ ∀(i:Nat) (x:Str) (v:V),X.N[i]?=some x→σ[i]?=some (some v)→xq X.env.scope x→ ∃u,RelV v u∧Look X.env s.heap m x u
 cell: ∀x c,X.env.cells.lookup x=some c→ ∃v,s.heap.IsCell c v
 free:H X.env.locals=none
 fY: ∀x c,X.env.cells.lookup x=some c→H c=none
 pin: ∀p∈X.pn++pins,s.heap.get? p.1=some p.2∧H p.1=none∧p.1≠X.env.locals∧p.1∉X.fs∧ ∀v,p.2.data≠ .cell v
 aB:bW X.prog X.w H s.heap
 len:σ.length=X.N.length
section
variable {X:Cx} {pins:List (Addr×Obj)} {σ:List (Option V)} {H H':Hp} {s:Shared} {h':Heap}
theorem Cx.Ok.Te(ok:X.Ok){b:Addr}{o:Obj}(e:X.base.get? b=some o):b∉X.fs:=fun hb=>by
 have:=(ok.iH.mem hb).1
 rw[e] at this;cases this
theorem Inv.bs(I:Inv X pins σ H s): ∀b o,X.base.get? b=some o→s.heap.get? b=some o∧H b=none:=fun b o e=>
 ⟨I.base.keep b o (I.ok.bs b o e).1 (I.ok.bs b o e).2 (I.ok.Te e) (I.ok.xt b o e),I.base.free b o (I.ok.bs b o e).1 (I.ok.bs b o e).2 (I.ok.xt b o e)⟩
theorem Inv.bk(I:Inv X pins σ H s): ∀b o,X.base.get? b=some o→s.heap.get? b=some o:=fun b o e=> (I.bs b o e).1
theorem Inv.mod(I:Inv X pins σ H s):Mod X.K X.mg X.base:=I.ok.mod
theorem Inv.cT(I:Inv X pins σ H s):X.K.In s.heap:=I.ok.mod.ou.keeps I.bk
theorem Inv.lt(I:Inv X pins σ H s):X.env.locals<s.heap.objs.size:=let ⟨_,hn,_⟩:=I.loc;hn.lt
theorem Inv.sz(I:Inv X pins σ H s):X.s₀.heap.objs.size≤s.heap.objs.size:=Nat.le_trans I.ok.above (Nat.le_of_lt I.lt)
theorem Inv.Ka(I:Inv X pins σ H s){a:Addr}(h:s.heap.objs.size≤a):a∉X.fs:=fun hb=>by
 obtain⟨_,o,ho,_⟩:=I.ok.iH.mem hb
 exact absurd (Nat.lt_of_lt_of_le (Heap.lt_size ho) (Nat.le_trans I.sz h)) (Nat.lt_irrefl _)
theorem Inv.oz(I:Inv X pins σ H s): ∀x c,X.env.cells.lookup x=some c→c≠X.env.locals:=fun x c e z=>by
 obtain⟨v,o,ho,hd⟩:=I.cell x c e
 obtain⟨m,⟨o',es,ep,dR,oA,_⟩,_⟩:=I.loc
 rw[z,dR] at ho;cases ho;rw[oA] at hd;cases hd
theorem Inv.iH(I:Inv X pins σ H s):s.heap.FunFrames X.base X.outer:=by
 have all: ∀(l:List Env),(∀b∈bD l,b∈X.fs)→X.s₀.heap.FunFrames X.base l→s.heap.FunFrames X.base l:=by
  intro l
  induction l with
  | nil=>intro _ _;trivial
  | cons env r ih=>
   intro hs hl
   obtain⟨hk,⟨L,o,hf,hn,ho,hd⟩,hr⟩:=hl
   have hL:L∈X.fs:=hs L (by unfold bD;rw[List.filterMap_cons,hf];exact List.mem_cons_self)
   obtain⟨sl,e⟩:=I.base.slot L o ho (I.ok.oy L hL) hL fun z=>I.ok.xu L z hL
   exact⟨hk,⟨L,_,hf,hn,e,hd⟩,ih (fun b hb=>hs b (by unfold bD;rw[List.filterMap_cons,hf];exact List.mem_cons_of_mem _ hb)) hr⟩
 exact all X.outer (fun _ hb=>hb) I.ok.iH
theorem Inv.stack(I:Inv X pins σ H s):s.heap.FunFrames X.base X.stack:=by
 rcases I.ok.iG with e | ⟨e,hf⟩
 ·rw[e];exact I.iH
 ·rw[e]
  obtain⟨m,hn,_⟩:=I.loc
  refine .cons (by rw[I.ok.kind];decide) hf hn ?_ I.iH
  exact Heap.get?_none_of_le (Nat.le_trans I.ok.mL I.ok.above)
theorem Inv.xv(I:Inv X pins σ H s): ∀b∈bD X.stack,b∈X.env.locals::X.fs:=fun b hb=>by
 rcases I.ok.iG with e | ⟨e,hf⟩
 ·rw[e] at hb;exact List.mem_cons_of_mem _ hb
 ·rw[e] at hb
  unfold bD at hb
  rw[List.filterMap_cons,hf] at hb
  exact hb
theorem Inv.xx(I:Inv X pins σ H s): ∀b∈bD X.stack,H b=none:=fun b hb=>by
 rcases List.mem_cons.mp (I.xv b hb) with e | hb
 ·rw[e];exact I.free
 ·obtain⟨_,o,ho,_⟩:=I.ok.iH.mem hb
  exact I.base.free b o ho (I.ok.oy b hb) fun z=>I.ok.xu b z hb
theorem Inv.step{g':Array GenState}{t':Nat}{d':Drawn}{ch:List Addr}(I:Inv X pins σ H s)
  (dq: ∀b∈ch,(b∈X.ex∨X.s₀.heap.objs.size≤b)∧b≠X.env.locals∧(∀x c,X.env.cells.lookup x=some c→c≠b)∧ ∀p∈X.pn++pins,p.1≠b)
  (keep: ∀b o,b≠X.env.locals→b∉X.fs→b∉ch→s.heap.get? b=some o→H b=none→h'.get? b=some o)
  (slot: ∀b o,b≠X.env.locals→b∈X.fs→b∉ch→s.heap.get? b=some o→H b=none→ ∃sl,h'.get? b=some {o with slots:=sl}) (free: ∀b o,b∉ch→s.heap.get? b=some o→H b=none→H' b=none)
  (there: ∀b o,b∉ch→s.heap.get? b=some o→ ∃o',h'.get? b=some o')
  (dw: ∀b xs,H b=some (.tup xs)→H' b=some (.tup xs)) (eP: ∀b o u,H b=some (.bL o u)→H' b=some (.bL o u)) (fG: ∀b ps,H b=some (.jG ps)→ ∃more,H' b=some (.jG (ps++more)))
  (ns: ∀m,s.heap.Ns X.env.locals m→h'.Ns X.env.locals m) (aB:bW X.prog X.w H' h') (hg:AllBare g'):
  Inv X pins σ H' {s with heap:=h',gens:=g',drawn:=d',toks:=t'}:=by
 have Kb: ∀b o,X.s₀.heap.get? b=some o→b≠X.env.locals:=fun b o e=>Nat.ne_of_lt (Nat.lt_of_lt_of_le (Heap.lt_size e) I.ok.above)
 have xy: ∀b o,X.s₀.heap.get? b=some o→b∉X.ex→b∉ch:=fun b o e hx hb=>by
  rcases (dq b hb).1 with z | z
  ·exact hx z
  ·exact absurd (Nat.lt_of_lt_of_le (Heap.lt_size e) z) (Nat.lt_irrefl _)
 have cellK: ∀x c,X.env.cells.lookup x=some c→ ∀v,s.heap.IsCell c v→h'.IsCell c v:=fun x c e v ⟨o,ho,hd⟩=>by
  have ui:c∉ch:=fun z=> (dq c z).2.2.1 x c e rfl
  by_cases hc:c∈X.fs
  ·obtain⟨sl,q⟩:=slot c o (I.oz x c e) hc ui ho (I.fY x c e)
   exact⟨_,q,hd⟩
  ·exact⟨o,keep c o (I.oz x c e) hc ui ho (I.fY x c e),hd⟩
 refine⟨I.ok,I.os,hg,⟨fun b o e n hb hx=> ?_,fun b o e n hb hx=> ?_,fun b o e n hx=> ?_,fun b o e hx=> ?_,fun b xs e=>dw b xs (I.base.dw b xs e),fun b o xs e=>eP b o xs (I.base.eP b o xs e),fun b ps e=> ?_⟩, ?_,fun x c e=> ?_, ?_,fun x c e=> ?_,fun p hp=> ?_,aB,I.len⟩
 ·exact keep b o (Kb b o e) hb (xy b o e hx) (I.base.keep b o e n hb hx) (I.base.free b o e n hx)
 ·obtain⟨sl,e1⟩:=I.base.slot b o e n hb hx
  obtain⟨AF,e2⟩:=slot b _ (Kb b o e) hb (xy b o e hx) e1 (I.base.free b o e n hx)
  exact⟨AF,e2⟩
 ·obtain⟨o',e1⟩:=I.base.there b o e hx
  exact free b o' (xy b o e hx) e1 (I.base.free b o e n hx)
 ·obtain⟨o',e1⟩:=I.base.there b o e hx
  exact there b o' (xy b o e hx) e1
 ·obtain⟨m1,e1⟩:=I.base.fG b ps e
  obtain⟨m2,e2⟩:=fG b _ e1
  exact⟨m1++m2,by rw[e2,Array.append_assoc]⟩
 ·obtain⟨m,hn,hl⟩:=I.loc
  refine⟨m,ns m hn,fun i x v e1 e2 e3=> ?_⟩
  obtain⟨u,r,l⟩:=hl i x v e1 e2 e3
  refine⟨u,r, ?_⟩
  rcases l with l | ⟨k,c,e,z⟩
  ·exact .inl l
  ·exact .inr ⟨k,c,e,cellK x c e _ z⟩
 ·obtain⟨v,z⟩:=I.cell x c e
  exact⟨v,cellK x c e v z⟩
 ·obtain⟨m,⟨o,_,_,ho,_⟩,_⟩:=I.loc
  exact free _ o (fun z=> (dq _ z).2.1 rfl) ho I.free
 ·obtain⟨v,o,ho,hd⟩:=I.cell x c e
  exact free c o (fun z=> (dq c z).2.2.1 x c e rfl) ho (I.fY x c e)
 ·obtain⟨e,n,ne,nf,d⟩:=I.pin p hp
  have ui:p.1∉ch:=fun z=> (dq p.1 z).2.2.2 p hp rfl
  exact⟨keep p.1 p.2 ne nf ui e n,free p.1 p.2 ui e n,ne,nf,d⟩
theorem Inv.un{t':Nat}(I:Inv X pins σ H s)(u:Un X.fs [] H H' s.heap h')(aB:bW X.prog X.w H' h'):Inv X pins σ H' {s with heap:=h',toks:=t'}:=by
 obtain⟨m,⟨o,es,ep,ho,r⟩,_⟩:=id I.loc
 obtain⟨sl,hL⟩:=u.any ho I.free (by simp)
 exact I.step (g':=s.gens) (d':=s.drawn) (ch:=[]) (fun _ z=>nomatch z) (fun b o _ hb _ e n=>u.keep b o e n hb (by simp)) (fun b o _ hb _ e n=>u.slot b o e n hb (by simp)) (fun b o _ e n=>u.free b o e n (by simp)) (fun b o _ e=>u.there b o e (by simp)) u.dw u.eP u.fG (fun m' hm=>by
  obtain⟨o',AG,AH,dR,r'⟩:=hm
  rw[ho] at dR;cases dR
  exact⟨_,AG,AH,hL,r'⟩) aB I.bare
theorem Inv.call{g':Array GenState}{t':Nat}{d':Drawn}{ch:List Addr}(I:Inv X pins σ H s)(u:Un (bD X.stack) ch H H' s.heap h')(aB:bW X.prog X.w H' h')(hg:AllBare g')
  (dq: ∀b∈ch,(b∈X.ex∨X.s₀.heap.objs.size≤b)∧b≠X.env.locals∧(∀x c,X.env.cells.lookup x=some c→c≠b)∧ ∀p∈X.pn++pins,p.1≠b):
  Inv X pins σ H' {s with heap:=h',gens:=g',drawn:=d',toks:=t'}:=by
 obtain⟨m,⟨o,es,ep,ho,r⟩,_⟩:=id I.loc
 obtain⟨sl,hL⟩:=u.any ho I.free fun z=> (dq _ z).2.1 rfl
 exact I.step (ch:=ch) dq (fun b o hL hb hc e n=>u.keep b o e n (fun z=> (List.mem_cons.mp (I.xv b z)).elim hL hb) hc) (fun b o _ _ hc e n=>u.any e n hc) (fun b o hc e n=>u.free b o e n hc) (fun b o hc e=>u.there b o e hc) u.dw u.eP u.fG (fun m' hm=>by
  obtain⟨o',AG,AH,dR,r'⟩:=hm
  rw[ho] at dR;cases dR
  exact⟨_,AG,AH,hL,r'⟩) aB hg
theorem Inv.turned{t':Nat}{it:Addr}(I:Inv X pins σ H s)(k: ∀b o,b≠it→s.heap.get? b=some o→h'.get? b=some o)(hn:H it=none)(hL:it≠X.env.locals)
  (h1:it∈X.ex∨X.s₀.heap.objs.size≤it) (h2: ∀x c,X.env.cells.lookup x=some c→c≠it) (h3: ∀p∈X.pn++pins,p.1≠it):Inv X pins σ H {s with heap:=h',toks:=t'}:=by
 have Kc: ∀b u,H b=some u→b≠it:=fun b u e z=>by rw[z,hn] at e;cases e
 refine I.step (g':=s.gens) (d':=s.drawn) (ch:=[it]) (fun b hb=> ?_) (fun b o _ _ hc e _=>k b o (fun z=>hc (by simp[z])) e) (fun b o _ _ hc e _=> ⟨o.slots,k b o (fun z=>hc (by simp[z])) e⟩) (fun _ _ _ _ n=>n)
  (fun b o hc e=> ⟨o,k b o (fun z=>hc (by simp[z])) e⟩) (fun _ _ e=>e) (fun _ _ _ e=>e) (fun b ps e=> ⟨#[],by rw[e];simp⟩) (fun m hm=> ?_) (fun b u e=> ?_) I.bare
 ·have e:b=it:=by simpa using hb
  subst e
  exact⟨h1,hL,h2,h3⟩
 ·obtain⟨o,es,ep,ho,r⟩:=hm
  exact⟨o,es,ep,k _ o (Ne.symm hL) ho,r⟩
 ·refine(I.aB b u e).jH (fun c v hc q=>k c v ?_ q) (fun _ q=>q) fun _ _ q=>q
  rcases hc with z | z
  ·rw[z];exact Kc b u e
  ·exact Kc c _ z
theorem Inv.tok(I:Inv X pins σ H s)(t:Nat):Inv X pins σ H {s with toks:=t}:=I.un (h':=s.heap) (t':=t) Un.refl I.aB
theorem Inv.kept{t':Nat}(I:Inv X pins σ H s)(k: ∀b u,s.heap.get? b=some u→h'.get? b=some u):Inv X pins σ H {s with heap:=h',toks:=t'}:=I.un (Un.kept k) (I.aB.kept k)
theorem Inv.laid{a:Addr}{o:HO}{t':Nat}(I:Inv X pins σ H s)(k: ∀b u,s.heap.get? b=some u→h'.get? b=some u)(hp:s.heap.objs.size≤a)(new:cx X.prog X.w (upd H a o) h' a o):
  Inv X pins σ (upd H a o) {s with heap:=h',toks:=t'}:=I.un (Un.laid k hp (I.aB.fresh hp)) (I.aB.laid k hp new)
theorem Inv.write{x e:Addr}{o:HO}{t':Nat}(I:Inv X pins σ H s)(mu:ug (H x))(he:e=x∨H e=some (.own x))(k: ∀b u,b≠e→s.heap.get? b=some u→h'.get? b=some u)(rL: ∃u,h'.get? e=some u)
  (new:cx X.prog X.w (upd H x o) h' x o):Inv X pins σ (upd H x o) {s with heap:=h',toks:=t'}:=I.un (Un.write mu he k rL) (I.aB.write mu he k rL new)
theorem Inv.rN{iI:List (Addr×Obj)}(I:Inv X pins σ H s)(h: ∀p∈iI,s.heap.get? p.1=some p.2∧H p.1=none∧p.1≠X.env.locals∧p.1∉X.fs∧ ∀v,p.2.data≠ .cell v):Inv X iI σ H s:=
 ⟨I.ok,I.os,I.bare,I.base,I.loc,I.cell,I.free,I.fY,fun p hp=> (List.mem_append.mp hp).elim (fun z=>I.pin p (List.mem_append_left _ z)) (h p),I.aB,I.len⟩
theorem Kd{N:List Str}(hN:N.Nodup){i j:Nat}{x:Str}(a:N[i]?=some x)(b:N[j]?=some x):i=j:=by
 obtain⟨h1,e1⟩:=List.getElem?_eq_some_iff.mp a
 obtain⟨h2,e2⟩:=List.getElem?_eq_some_iff.mp b
 exact(List.getElem_inj hN).mp (e1.trans e2.symm)
theorem Ke{M:Model}{A:Around}{E:Value→Shared→Prop}{i:Nat}{x:Str}{v:V}{u:Value}{Q:Unit→Shared→Prop}(I:Inv X pins σ H s)(hN:X.N.Nodup)(hi:X.N[i]?=some x)(hx:Loc X.env.scope x)(r:RelV v u)
  (h: ∀s',Inv X pins (σ.set i (some v)) H s'→(∃a,Heap.SameBut a s.heap s'.heap∧(a=X.env.locals∨X.env.cells.lookup x=some a))→Q () s') (hf:X.fn x=true∨X.env.scope.names.lookup x=some .local:=by first | exact .inl rfl | exact .inr rfl | assumption):wpAny M A (storeName X.env x u) Q E s:=by
 obtain⟨m,hn,hl⟩:=id I.loc
 have Tf:(X.env.scope.kind== .class || (X.env.scope.kind== .module && X.env.locals !=X.env.globals))=false:=by rw[I.ok.kind];rfl
 have Kf:i<σ.length:=by rw[I.len];exact(List.getElem?_eq_some_iff.mp hi).1
 have oz:=I.oz
 have tracked: ∀{a:Addr} {h':Heap},(∃o,s.heap.get? a=some o∧H a=none)→Heap.SameBut a s.heap h'→bW X.prog X.w H h':=fun {a h'} ha hs b ob e=>by
  obtain⟨_,_,AI⟩:=ha
  refine(I.aB b ob e).jH (fun c w' hc q=> (hs.2 c ?_).trans q) (fun _ q=>q) fun _ _ q=>q
  rintro rfl
  rcases hc with rfl | hc
  ·rw[AI] at e;cases e
  ·rw[AI] at hc;cases hc
 rcases hx with hk | hk
 ·refine wpAny_storeName_local hk hn (fun h' uj hs=> ?_) Tf
  obtain⟨oL,_,_,Tg,_⟩:=id hn
  refine h _ ⟨I.ok,I.os,I.bare,⟨fun b o e n hb hx=> ?_,fun b o e n hb hx=> ?_,I.base.free,fun b o e hx=> ?_,I.base.dw,I.base.eP,I.base.fG⟩,⟨_,uj,fun j y v' e1 e2 e3=> ?_⟩,fun y c e=> ?_,I.free,I.fY,fun p hp=> ?_,tracked ⟨oL,Tg,I.free⟩ hs,by simpa using I.len⟩ ⟨_,hs, .inl rfl⟩
  ·exact(hs.2 b (Nat.ne_of_lt (Nat.lt_of_lt_of_le (Heap.lt_size e) I.ok.above))).trans (I.base.keep b o e n hb hx)
  ·obtain⟨sl,e1⟩:=I.base.slot b o e n hb hx
   exact⟨sl,(hs.2 b (Nat.ne_of_lt (Nat.lt_of_lt_of_le (Heap.lt_size e) I.ok.above))).trans e1⟩
  ·obtain⟨o',e1⟩:=I.base.there b o e hx
   exact⟨o',(hs.2 b (Nat.ne_of_lt (Nat.lt_of_lt_of_le (Heap.lt_size e) I.ok.above))).trans e1⟩
  ·by_cases hj:j=i
   ·subst hj
    rw[hi] at e1;cases e1
    rw[List.getElem?_set_self Kf] at e2
    cases e2
    exact⟨u,r, .inl ⟨hk,by simp⟩⟩
   ·rw[List.getElem?_set_ne (Ne.symm hj)] at e2
    obtain⟨u',r',q⟩:=hl j y v' e1 e2 e3
    refine⟨u',r', ?_⟩
    rcases q with⟨k,e⟩ | ⟨k,c,e,z⟩
    ·refine .inl ⟨k, ?_⟩
     have:y≠x:=fun e=>hj (Kd hN e1 (e ▸ hi))
     simp[this,e]
    ·exact .inr ⟨k,c,e,z.sameBut hs (oz y c e)⟩
  ·obtain⟨w',z⟩:=I.cell y c e
   exact⟨w',z.sameBut hs (oz y c e)⟩
  ·obtain⟨e,n,ne,nf,d⟩:=I.pin p hp
   exact⟨(hs.2 p.1 ne).trans e,n,ne,nf,d⟩
 ·have AJ:X.fn x=true:=by
   rcases hf with z | z
   ·exact z
   ·rw[z] at hk;cases hk
  obtain⟨c,hc⟩:=I.ok.has x (.inl hk)
  obtain⟨w',z⟩:=I.cell x c hc
  refine wpAny_storeName_cell I.ok.kind hk hc z (fun h' eh hs=> ?_)
  obtain⟨oc,Kg,Th⟩:=id z
  refine h {s with heap:=h'} ⟨I.ok,I.os,I.bare,⟨fun b o e n hb hx=> ?_,fun b o e n hb hx=> ?_,I.base.free,fun b o e hx=> ?_,I.base.dw,I.base.eP,I.base.fG⟩,⟨m,hn.sameBut hs (Ne.symm (oz x c hc)),fun j y v' e1 e2 e3=> ?_⟩,fun y c' e=> ?_,I.free,I.fY,fun p hp=> ?_,tracked ⟨oc,Kg,I.fY x c hc⟩ hs,by simpa using I.len⟩ ⟨c,hs, .inr hc⟩
  ·exact(hs.2 b (Nat.ne_of_lt (Nat.lt_of_lt_of_le (Heap.lt_size e) (I.ok.xr x c AJ hc)))).trans (I.base.keep b o e n hb hx)
  ·obtain⟨sl,e1⟩:=I.base.slot b o e n hb hx
   exact⟨sl,(hs.2 b (Nat.ne_of_lt (Nat.lt_of_lt_of_le (Heap.lt_size e) (I.ok.xr x c AJ hc)))).trans e1⟩
  ·obtain⟨o',e1⟩:=I.base.there b o e hx
   exact⟨o',(hs.2 b (Nat.ne_of_lt (Nat.lt_of_lt_of_le (Heap.lt_size e) (I.ok.xr x c AJ hc)))).trans e1⟩
  ·by_cases hj:j=i
   ·subst hj
    rw[hi] at e1;cases e1
    rw[List.getElem?_set_self Kf] at e2
    cases e2
    exact⟨u,r, .inr ⟨.inl hk,c,hc,eh⟩⟩
   ·rw[List.getElem?_set_ne (Ne.symm hj)] at e2
    obtain⟨u',r',q⟩:=hl j y v' e1 e2 e3
    refine⟨u',r', ?_⟩
    rcases q with q | ⟨k,c',e,z'⟩
    ·exact .inl q
    ·refine .inr ⟨k,c',e,z'.sameBut hs ?_⟩
     rintro rfl
     exact hj (Kd hN e1 (I.ok.inj _ _ _ e hc ▸ hi))
  ·by_cases Kh:c'=c
   ·subst Kh;exact⟨_,eh⟩
   ·obtain⟨w2,z2⟩:=I.cell y c' e
    exact⟨w2,z2.sameBut hs Kh⟩
  ·obtain⟨e,n,ne,nf,d⟩:=I.pin p hp
   refine⟨(hs.2 p.1 ?_).trans e,n,ne,nf,d⟩
   intro q
   rw[q,Kg] at e
   have q':oc=p.2:=Option.some.inj e
   exact d w' (by rw[←q'];exact Th)
theorem AK{M:Model}{A:Around}{E:Value→Shared→Prop}{i:Nat}{x:Str}{v:V}{u:Value}{Q:Unit→Shared→Prop}(I:Inv X pins σ H s)(hN:X.N.Nodup)(hi:X.N[i]?=some x)(hx:Loc X.env.scope x)(r:RelV v u)
  (h: ∀s',Inv X pins (σ.set i (some v)) H s'→Q () s') (hf:X.fn x=true∨X.env.scope.names.lookup x=some .local:=by first | exact .inl rfl | exact .inr rfl | assumption):wpAny M A (storeName X.env x u) Q E s:=
 Ke I hN hi hx r (fun s' I' _=>h s' I') hf
theorem Inv.AL{s':Shared}{ch:List Addr}(I:Inv X pins σ H s)(ho:s'.os=s.os)(u:Un (bD X.stack) ch H H' s.heap s'.heap)(aB:bW X.prog X.w H' s'.heap)(hg:AllBare s'.gens)
  (dq: ∀b∈ch,(b∈X.ex∨X.s₀.heap.objs.size≤b)∧b≠X.env.locals∧(∀x c,X.env.cells.lookup x=some c→c≠b)∧ ∀p∈X.pn++pins,p.1≠b):Inv X pins σ H' s':=by
 obtain⟨h',g',d',t',o'⟩:=s'
 have e:o'=s.os:=ho
 subst e
 exact I.call (g':=g') (t':=t') (d':=d') u aB hg dq
end
abbrev XK:=Value→Option Addr→Hp→Prop
abbrev St:=List (Option V)
abbrev VK:=V→Hp→Prop
abbrev TE:=St→Hp→VK→Prop
abbrev TT:=St→Hp→(Bool→Hp→Prop)→Prop
abbrev TA:=St→Hp→(List V→Hp→Prop)→Prop
structure Ends where
 nx:St→Hp→Prop
 rt:VK
 bk:St→Hp→Prop:=fun _ _=>False
 ct:St→Hp→Prop:=fun _ _=>False
abbrev TS:=Ends→St→Hp→Prop
def EP(X:Cx)(pins:List (Addr×Obj))(σ:St)(Q:VK)(u:Value)(s':Shared):Prop:= ∃v H',Inv X pins σ H' s'∧RelV v u∧Q v H'
def TP(X:Cx)(pins:List (Addr×Obj))(σ:St)(Q:Bool→Hp→Prop)(b:Bool)(s':Shared):Prop:= ∃H',Inv X pins σ H' s'∧Q b H'
def AP(X:Cx)(pins:List (Addr×Obj))(σ:St)(Q:List V→Hp→Prop)(us:List Value)(s':Shared):Prop:= ∃vs H',Inv X pins σ H' s'∧Vals vs us∧Q vs H'
def SP(X:Cx)(pins:List (Addr×Obj))(D:Ends)(f:Flow)(s':Shared):Prop:=
 match f with
 | .next=> ∃σ' H',Inv X pins σ' H' s'∧D.nx σ' H'
 | .brk=> ∃σ' H',Inv X pins σ' H' s'∧D.bk σ' H'
 | .cont=> ∃σ' H',Inv X pins σ' H' s'∧D.ct σ' H'
 | .ret u=> ∃v σ' H',Inv X pins σ' H' s'∧RelV v u∧D.rt v H'
def PE(X:Cx)(e:Expr)(t:TE):Prop:=
 ∀(pins:List (Addr×Obj)) (s:Shared) (σ:St) (H:Hp) (Q:VK),Inv X pins σ H s→t σ H Q→wpAny (model X.prog X.w) X.A (eval e X.env) (EP X pins σ Q) X.xe s
def PT(X:Cx)(e:Expr)(t:TT):Prop:=
 ∀(pins:List (Addr×Obj)) (s:Shared) (σ:St) (H:Hp) (Q:Bool→Hp→Prop),Inv X pins σ H s→t σ H Q→wpAny (model X.prog X.w) X.A (isTrue e X.env (eval e X.env)) (TP X pins σ Q) X.xe s
def PW(X:Cx)(e:Expr)(t:TT):Prop:=
 ∀(whole:Sem Value) (pins:List (Addr×Obj)) (s:Shared) (σ:St) (H:Hp) (Q:Bool→Hp→Prop),Inv X pins σ H s→t σ H Q→wpAny (model X.prog X.w) X.A (isTrue e X.env whole) (TP X pins σ Q) X.xe s
theorem PW.pt{X:Cx}{e:Expr}{t:TT}(h:PW X e t):PT X e t:=h _
def PA(X:Cx)(es:List Expr)(t:TA):Prop:=
 ∀(pos:Pos) (pins:List (Addr×Obj)) (s:Shared) (σ:St) (H:Hp) (Q:List V→Hp→Prop),Inv X pins σ H s→t σ H Q→wpAny (model X.prog X.w) X.A (spliced (backTo pos (starEach es X.env))) (AP X pins σ Q) X.xe s
def PS(X:Cx)(st:Stmt)(t:TS):Prop:=
 ∀(pins:List (Addr×Obj)) (s:Shared) (σ:St) (H:Hp) (D:Ends),Inv X pins σ H s→t D σ H→wpAny (model X.prog X.w) X.A (exec st X.env) (SP X pins D) X.xe s
def bo(X:Cx)(st:List Stmt)(t:TS):Prop:=
 ∀(pins:List (Addr×Obj)) (s:Shared) (σ:St) (H:Hp) (D:Ends),Inv X pins σ H s→t D σ H→wpAny (model X.prog X.w) X.A (execs st X.env) (SP X pins D) X.xe s
theorem aN{α:Type}{t:Sem α}{Q Q':α→Shared→Prop}{M:Model}{A:Around}{E:Value→Shared→Prop}{s:Shared}(h:wpAny M A t Q E s)(hQ: ∀a s,Q a s→Q' a s):wpAny M A t Q' E s:=wpAny_mono h hQ fun _ _ x=>x
section
variable {X:Cx}
def AM(i:Nat):TE:=fun σ H Q=> ∃v,σ[i]?=some (some v)∧Q v H
def tC(v:V):TE:=fun _ H Q=>Q v H
theorem Ti{i:Nat}{x:Str}{pos:Pos}(hN:X.N[i]?=some x)(hv:xq X.env.scope x)(hd:(x==("__debug__":Str))=false:=by decide)(fH:(x==("__classdict__":Str))=false:=by decide):PE X (.Name x pos) (AM i):=by
 intro pins s σ H Q I h
 obtain⟨v,e,h⟩:=h
 obtain⟨m,hn,hl⟩:=I.loc
 obtain⟨u,r,l⟩:=hl i x v hN e hv
 have fin:EP X pins σ Q u s:=⟨v,H,I,r,h⟩
 rcases l with⟨hk,hm⟩ | ⟨hk,c,hc,Ki⟩
 ·exact wpAny_Name (wpAny_loadName_local I.ok.kind hk hn hm fin) hd
 ·rcases hk with hk | hk
  ·exact wpAny_Name (wpAny_loadName_cell I.ok.kind hk hc Ki fin) hd
  ·exact wpAny_Name (wpAny_loadName_free I.ok.kind hk hc Ki fin fH) hd
theorem Tj{i j pos}:PE X (.Constant (.int i) j pos) (tC (.int i)):=fun _ _ _ H _ I h=>wpAny_Constant_int ⟨.int i,H,I.tok _,⟨_,rfl⟩,h⟩
theorem Tn{b j pos}:PE X (.Constant (.bool b) j pos) (tC (.bl b)):=fun _ _ _ H _ I h=>Constant_bool ⟨.bl b,H,I,rfl,h⟩
theorem To{j pos}:PE X (.Constant .none j pos) (tC .aw):=fun _ _ _ H _ I h=>Constant_none ⟨.aw,H,I,rfl,h⟩
theorem Tp{x j pos}:PE X (.Constant (.str x) j pos) (tC (.str x)):=fun _ _ _ H _ I h=>Calls.Constant_str ⟨.str x,H,I.tok _,⟨_,rfl⟩,h⟩
def Gl(X:Cx)(x:Str):Prop:=X.env.kindOf x=some .globalImplicit
theorem uk{E:Value→Shared→Prop}{pins:List (Addr×Obj)}{s:Shared}{σ:St}{H:Hp}{x:Str}{u:Value}{pos:Pos}{Q:Value→Shared→Prop}(I:Inv X pins σ H s)(hg:Gl X x)(hm:X.mg x=some u)(h:Q u s)
  (hd:(x==("__debug__":Str))=false:=by decide):wpAny (model X.prog X.w) X.A (eval (.Name x pos) X.env) Q E s:=
 Calls.Name_function_global I.ok.kind hg (Calls.loadGlobal_global (by rw[I.ok.glob];exact I.mod.glob.keeps I.bk) hm h) hd
theorem um{E:Value→Shared→Prop}{pins:List (Addr×Obj)}{s:Shared}{σ:St}{H:Hp}{x:Str}{u:Value}{pos:Pos}{Q:Value→Shared→Prop}(I:Inv X pins σ H s)(hg:Gl X x)(hm:X.mg x=none)(hv:bootBuiltins x=some u)(h:Q u s)
  (hn:x≠"__name__":=by decide) (hd:(x==("__debug__":Str))=false:=by decide):wpAny (model X.prog X.w) X.A (eval (.Name x pos) X.env) Q E s:=by
 obtain⟨mb,h1,h2⟩:=I.mod.blt
 exact Calls.Name_function_global I.ok.kind hg (Calls.loadGlobal_builtin (by rw[I.ok.glob];exact I.mod.glob.keeps I.bk) hm (by rw[I.ok.blt];exact h1.keeps I.bk) ((h2 x hn).trans hv) h) hd
theorem Kj{x:Str}{v:V}{u:Value}{pos:Pos}(hg:Gl X x)(hm:X.mg x=some u)(r:RelV v u)(hd:(x==("__debug__":Str))=false:=by decide):PE X (.Name x pos) (tC v):=
 fun _ _ _ H _ I h=>uk I hg hm ⟨v,H,I,r,h⟩ hd
theorem Kk{x:Str}{v:V}{u:Value}{pos:Pos}(hg:Gl X x)(hm:X.mg x=none)(hv:bootBuiltins x=some u)(r:RelV v u)(hn:x≠"__name__":=by decide)(hd:(x==("__debug__":Str))=false:=by decide):PE X (.Name x pos) (tC v):=
 fun _ _ _ H _ I h=>um I hg hm hv ⟨v,H,I,r,h⟩ hn hd
variable {a b:Expr} {ta tb:TE} {pos:Pos}
def PC(X:Cx)(op:CmpOp)(a b:Expr)(t:TE):Prop:=
 ∀(pins:List (Addr×Obj)) (s:Shared) (σ:St) (H:Hp) (Q:VK),Inv X pins σ H s→t σ H Q→
  wpAny (model X.prog X.w) X.A (eval a X.env) (fun v s₁=>wpAny (model X.prog X.w) X.A (eval b X.env) (fun u s₂=>wpAny (model X.prog X.w) X.A (compareOp op v u) (EP X pins σ Q) X.xe s₂) X.xe s₁) X.xe s
def tB(t:TE):TT:=fun σ H Q=>t σ H fun x H1=> ∃c,x= .bl c∧Q c H1
theorem Tq{op:CmpOp}{t:TE}(h:PC X op a b t)(h1:behindInMarks op b=false:=by first | exact apG _ (by decide) (by decide) | rfl):PT X (.Compare a [op] [b] pos) (tB t):=by
 intro pins s σ H Q I hw
 refine wpAny_isTrue_Compare1 (aN (h pins s σ H _ I hw) fun v s1 h1=>aN h1 fun u s2 h2=>aN h2 fun c s3 ⟨x,H1,I1,r1,q1⟩=> ?_) h1
 obtain⟨d,rfl,q⟩:=q1
 cases r1
 exact wpAny_truthy_bool ⟨H1,I1,q⟩
variable {tA xB:TT} {rest:List Expr}
def Kl(t u:TT):TT:=fun σ H Q=>t σ H fun c H1=>if c=true then u σ H1 Q else Q false H1
def Km(t u:TT):TT:=fun σ H Q=>t σ H fun c H1=>if c=true then Q true H1 else u σ H1 Q
def Kn(t:TT):TT:=fun σ H Q=>t σ H fun c H1=>Q (!c) H1
theorem pw_and1(ha:PT X a tA):PW X (.BoolOp .And [a] pos) tA:=by
 intro wh pins s σ H Q I h
 refine isTrue_and (aN (ha pins s σ H Q I h) fun c s1 e=> ?_)
 cases c with
 | true=>exact isTrue_and_nil e
 | false=>exact e
theorem pw_or1(ha:PT X a tA):PW X (.BoolOp .Or [a] pos) tA:=by
 intro wh pins s σ H Q I h
 refine isTrue_or (aN (ha pins s σ H Q I h) fun c s1 e=> ?_)
 cases c with
 | false=>exact isTrue_or_nil e
 | true=>exact e
theorem pw_and(ha:PT X a tA)(hb:PW X (.BoolOp .And (b::rest) pos) xB):PW X (.BoolOp .And (a::b::rest) pos) (Kl tA xB):=by
 intro wh pins s σ H Q I h
 refine isTrue_and (aN (ha pins s σ H _ I h) fun c s1 ⟨H1,I1,q1⟩=> ?_)
 cases c with
 | true=>exact hb wh pins s1 σ H1 Q I1 q1
 | false=>exact⟨H1,I1,q1⟩
theorem pw_or(ha:PT X a tA)(hb:PW X (.BoolOp .Or (b::rest) pos) xB):PW X (.BoolOp .Or (a::b::rest) pos) (Km tA xB):=by
 intro wh pins s σ H Q I h
 refine isTrue_or (aN (ha pins s σ H _ I h) fun c s1 ⟨H1,I1,q1⟩=> ?_)
 cases c with
 | true=>exact⟨H1,I1,q1⟩
 | false=>exact hb wh pins s1 σ H1 Q I1 q1
theorem Tr(ha:PT X a tA):PT X (.UnaryOp .Not a pos) (Kn tA):=by
 intro pins s σ H Q I h
 exact isTrue_not (ha pins s σ H (fun c H1=>Q (!c) H1) I h)
def Ko(ta tb:TE):TE:=fun σ H Q=>ta σ H fun x H1=> ∃c,x= .bl c∧if c=true then tb σ H1 Q else Q (.bl false) H1
def Ts(ta tb:TE):TE:=fun σ H Q=>ta σ H fun x H1=> ∃c,x= .bl c∧if c=true then Q (.bl true) H1 else tb σ H1 Q
theorem Tt{op}{t:TE}(h:PE X a t):PE X (.BoolOp op [a] pos) t:=fun pins s σ H Q I hw=>BoolOp_one (h pins s σ H Q I hw)
theorem Tu(ha:PE X a ta)(hb:PE X (.BoolOp .And (b::rest) pos) tb):PE X (.BoolOp .And (a::b::rest) pos) (Ko ta tb):=by
 intro pins s σ H Q I h
 refine BoolOp_and (aN (ha pins s σ H _ I h) fun v s1 ⟨x,H1,I1,r1,q1⟩=> ?_)
 obtain⟨c,rfl,q1⟩:=q1
 cases r1
 refine wpAny_truthy_bool ?_
 cases c with
 | true=>exact hb pins s1 σ H1 Q I1 q1
 | false=>exact⟨.bl false,H1,I1,rfl,q1⟩
def Kp(t:TT)(ta tb:TE):TE:=fun σ H Q=>t σ H fun c H1=>if c=true then ta σ H1 Q else tb σ H1 Q
theorem Tv{c:Expr}(hc:PT X c tA)(ha:PE X a ta)(hb:PE X b tb):PE X (.IfExp c a b pos) (Kp tA ta tb):=by
 intro pins s σ H Q I h
 refine wpAny_IfExp (aN (hc pins s σ H _ I h) fun d s1 ⟨H1,I1,q1⟩=> ?_)
 cases d with
 | true=>exact ha pins s1 σ H1 Q I1 q1
 | false=>exact hb pins s1 σ H1 Q I1 q1
end
def ao(K:PySem.W.Frag)(H:Hp)(a:Addr)(xs:List V):Prop:=
 Rd H a (.lst xs)∨
  ∃(o:Obj) (its:Array Value) (n:Nat),K.lookup a=some o∧o.cls= .type "list"∧o.dict=none∧o.data= .seq its n∧its.size≤sizeLine∧Vals xs its.toList
def aI(K:PySem.W.Frag)(H:Hp)(a:Addr)(xs:List V):Prop:=
 Rd H a (.tup xs)∨
  ∃(o:Obj) (its:Array Value) (n:Nat),K.lookup a=some o∧o.cls= .type "tuple"∧o.data= .seq its n∧its.size≤sizeLine∧Vals xs its.toList
def Tw:Value→Option V
 | .none=>some .aw
 | .bool b=>some (.bl b)
 | .int i _=>some (.int i)
 | .str x _=>some (.str x)
 | .bytes b _=>some (.fh b)
 | .float b _=>some (.mK b)
 | .ref a=>some (.ref a)
 | .type n=>some (.ty n)
 | _=>none
theorem RelV.abs{x:V}{u:Value}(r:RelV x u):Tw u=some x:=by
 cases x with
 | aw=>cases r;rfl
 | bl _=>cases r;rfl
 | int _=>obtain⟨t,rfl⟩:=r;rfl
 | str _=>obtain⟨t,rfl⟩:=r;rfl
 | fh _=>obtain⟨t,rfl⟩:=r;rfl
 | mK _=>obtain⟨t,rfl⟩:=r;rfl
 | ref _=>cases r;rfl
 | ty _=>cases r;rfl
theorem RelV.inj{x y:V}{u:Value}(r:RelV x u)(q:RelV y u):x=y:=Option.some.inj (r.abs.symm.trans q.abs)
theorem Vals.inj: ∀{xs ys:List V} {us:List Value},Vals xs us→Vals ys us→xs=ys
 | _,_,_, .nil, .nil=>rfl
 | _,_,_, .cons r t, .cons r' t'=>by rw[r.inj r',Vals.inj t t']
section
variable {X:Cx} {pins:List (Addr×Obj)} {σ:St} {H:Hp} {s:Shared} {a:Addr} {xs ys:List V}
theorem ao.of{K:PySem.W.Frag}(h:H a=some (.lst xs)):ao K H a xs:= .inl (.inl h)
theorem aI.of{K:PySem.W.Frag}(h:H a=some (.tup xs)):aI K H a xs:= .inl (.inl h)
theorem Inv.list(I:Inv X pins σ H s)(h:ao X.K H a xs): ∃its:List Value,Vals xs its∧PlainL s.heap a its.toArray∧xs.length≤sizeLine:=by
 rcases h with h | ⟨o,its,n,hk,hc,hd,hs,hz,r⟩
 ·obtain⟨z,its,n,r,e⟩:=h.ok I.aB
  exact⟨its,r,⟨_,n,e,rfl,rfl,rfl⟩,z⟩
 ·refine⟨its.toList,r,⟨o,n,I.cT a o hk,hc,hd,by simpa using hs⟩, ?_⟩
  have e:=r.length
  simp only[Array.length_toList] at e
  omega
theorem Inv.tuple(I:Inv X pins σ H s)(h:aI X.K H a xs): ∃its:List Value,Vals xs its∧IsTup s.heap a its.toArray∧xs.length≤sizeLine:=by
 rcases h with h | ⟨o,its,n,hk,hc,hs,hz,r⟩
 ·obtain⟨z,its,r,p⟩:=h.ok I.aB
  exact⟨its,r,p,z⟩
 ·refine⟨its.toList,r,⟨o,I.cT a o hk,hc,n,by simpa using hs⟩, ?_⟩
  have e:=r.length
  simp only[Array.length_toList] at e
  omega
theorem Inv.xD(I:Inv X pins σ H s)(h:ao X.K H a xs)(h':ao X.K H a ys):xs=ys:=by
 obtain⟨its,r,⟨o,n,e,_,_,d⟩,_⟩:=I.list h
 obtain⟨fZ,r',⟨o',n',e',_,_,d'⟩,_⟩:=I.list h'
 rw[e] at e';cases e'
 rw[d] at d'
 injection d' with d1 _
 have:its=fZ:=by simpa using congrArg Array.toList d1
 subst this
 exact r.inj r'
end
section
variable {X:Cx} {pins:List (Addr×Obj)} {σ:St} {H:Hp} {s:Shared} {E:Value→Shared→Prop}
end
section
variable {X:Cx} {st:Stmt} {rest:List Stmt} {t u:TS} {e:Expr} {te:TE} {pos:Pos}
def AN:TS:=fun D σ H=>D.nx σ H
def Kq(t u:TS):TS:=fun D σ H=>t {D with nx:=u D} σ H
theorem Kr:bo X [] AN:=fun _ _ σ H _ I h=>wpAny_execs_nil ⟨σ,H,I,h⟩
theorem Tx(h1:PS X st t)(h2:bo X rest u):bo X (st::rest) (Kq t u):=by
 intro pins s σ H D I h
 refine wpAny_execs_cons (aN (h1 pins s σ H {D with nx:=u D} I h) fun f s1 q=> ?_)
 cases f with
 | next=>
  obtain⟨σ',H',I',q⟩:=q
  exact h2 pins s1 σ' H' D I' q
 | ret v=>exact q
 | brk=>exact q
 | cont=>exact q
def Tz:TS:=fun D σ H=>D.bk σ H
def TB:TS:=fun D σ H=>D.ct σ H
theorem Inv.quiet{pins:List (Addr×Obj)}{σ:St}{H:Hp}{s:Shared}(I:Inv X pins σ H s):interactive X.env=false:=by simp[interactive,I.ok.kind]
def Ks(te:TE):TS:=fun D σ H=>te σ H fun _ H1=>D.nx σ H1
theorem TC(he:PE X e te)(hs:swapsWith e none pos.line X.env=pure false:=by rfl):PS X (.Expr e pos) (Ks te):=by
 intro pins s σ H D I h
 exact wpAny_Expr_any (aN (he pins s σ H _ I h) fun v s1 ⟨x,H1,I1,r1,q1⟩=> ⟨σ,H1,I1,q1⟩) I.quiet hs
def Kt(te:TE):TS:=fun D σ H=>te σ H D.rt
theorem TF(he:PE X e te):PS X (.Return (some e) pos) (Kt te):=by
 intro pins s σ H D I h
 exact wpAny_Return_some (aN (he pins s σ H _ I h) fun v s1 ⟨x,H1,I1,r1,q1⟩=> ⟨x,σ,H1,I1,r1,q1⟩)
def TH:TS:=fun D _ H=>D.rt .aw H
def Ku(c:TT)(t u:TS):TS:=fun D σ H=>c σ H fun b H1=>if b=true then t D σ H1 else u D σ H1
theorem TJ{c:Expr}{a b:List Stmt}{tc:TT}(hc:PT X c tc)(ha:bo X a t)(hb:bo X b u):PS X (.If c a b pos) (Ku tc t u):=by
 intro pins s σ H D I h
 refine wpAny_If (aN (hc pins s σ H _ I h) fun d s1 ⟨H1,I1,q1⟩=> ?_)
 cases d with
 | true=>exact ha pins s1 σ H1 D I1 q1
 | false=>exact hb pins s1 σ H1 D I1 q1
def TK:TS:=fun _ _ _=>False
end
abbrev TG:=V→St→Hp→(St→Hp→Prop)→Prop
abbrev i4:=List V→St→Hp→(St→Hp→Prop)→Prop
def PG(X:Cx)(target:Expr)(t:TG):Prop:=
 ∀(pins:List (Addr×Obj)) (s:Shared) (σ:St) (H:Hp) (v:V) (u:Value) (Q:St→Hp→Prop),Inv X pins σ H s→RelV v u→t v σ H Q→
  wpAny (model X.prog X.w) X.A (assign target X.env u) (fun _ s'=> ∃σ' H',Inv X pins σ' H' s'∧Q σ' H') X.xe s
def oB(X:Cx)(ts:List Expr)(t:i4):Prop:=
 ∀(pins:List (Addr×Obj)) (s:Shared) (σ:St) (H:Hp) (vs:List V) (us:List Value) (Q:St→Hp→Prop),Inv X pins σ H s→Vals vs us→t vs σ H Q→
  wpAny (model X.prog X.w) X.A (assignInOrder ((assignEach ts X.env).map (·.2)) us) (fun _ s'=> ∃σ' H',Inv X pins σ' H' s'∧Q σ' H') X.xe s
abbrev AO:=V→V→V→Hp→(Hp→Prop)→Prop
def Kv(X:Cx)(t:AO):Prop:=
 ∀(pins:List (Addr×Obj)) (s:Shared) (σ:St) (H:Hp) (o i v:V) (ov iv u:Value) (Q:Hp→Prop),Inv X pins σ H s→RelV o ov→RelV i iv→RelV v u→t o i v H Q→
  wpAny (model X.prog X.w) X.A (setItem ov iv u) (fun _ s'=> ∃H',Inv X pins σ H' s'∧Q H') X.xe s
section
variable {X:Cx} {pos:Pos}
def dS(i:Nat):TG:=fun v σ H Q=>Q (σ.set i (some v)) H
theorem rO{i:Nat}{x:Str}(hN:X.N.Nodup)(hi:X.N[i]?=some x)(hx:Loc X.env.scope x)(hf:X.fn x=true∨X.env.scope.names.lookup x=some .local:=by first | exact .inl rfl | exact .inr rfl | assumption):PG X (.Name x pos) (dS i):=by
 intro pins s σ H v u Q I r h
 exact wpAny_assign_Name (AK I hN hi hx r (fun s' I'=> ⟨_,H,I',h⟩) hf)
def xE:i4:=fun vs σ H Q=>vs=[]∧Q σ H
def rP(t:TG)(u:i4):i4:=fun vs σ H Q=> ∃v r,vs=v::r∧t v σ H fun σ' H'=>u r σ' H' Q
theorem AQ:oB X [] xE:=by
 intro pins s σ H vs us Q I r h
 obtain⟨e,h⟩:=h
 subst e
 cases r
 exact assignInOrder_nil ⟨σ,H,I,h⟩
theorem uo{e:Expr}{es:List Expr}{t:TG}{u:i4}(h1:PG X e t)(h2:oB X es u)
  (hs:(assignEach (e::es) X.env).map (·.2)=assign e X.env::(assignEach es X.env).map (·.2):=by rfl):oB X (e::es) (rP t u):=by
 intro pins s σ H vs us Q I r h
 obtain⟨v,vr,e1,h⟩:=h
 subst e1
 cases r with
 | cons r rr=>
  rw[hs]
  refine assignInOrder_cons (aN (h1 pins s σ H _ _ _ I r h) fun _ s1 ⟨σ1,H1,I1,q1⟩=> ?_)
  exact h2 pins s1 σ1 H1 _ _ Q I1 rr q1
def xG(K:PySem.W.Frag)(n:Nat)(t:i4):TG:=fun v σ H Q=> ∃a xs,v= .ref a∧aI K H a xs∧xs.length=n∧t xs σ H Q
theorem Kw{es:List Expr}{k:Nat}{t:i4}{n:Nat}(hc:X.calm=true)(h:oB X es t)
  (hn:(assignEach es X.env).length=n:=by rfl) (iJ:(assignEach es X.env).findIdx? (·.1)=none:=by rfl):PG X (.Tuple es k pos) (xG X.K n t):=by
 intro pins s σ H v u Q I r hw
 obtain⟨a,xs,e1,hq,hl,hw⟩:=hw
 subst e1
 cases r
 obtain⟨its,rv,ht,hz⟩:=I.tuple hq
 refine assign_Tuple_tuple (I.ok.hd hc) ht (by simp[hn,←hl,rv.length]) iJ fun h' hx=> ?_
 have I1:Inv X pins σ H {s with heap:=h'}:=I.kept (t':=s.toks) fun b o e=>hx b o (Nat.ne_of_lt (Heap.lt_size e)) e
 exact h pins _ σ H xs _ Q I1 (by simpa using rv) hw
def Kx(to ti:TE)(t:AO):TG:=fun v σ H Q=>to σ H fun o H1=>ti σ H1 fun i H2=>t o i v H2 fun H3=>Q σ H3
theorem TL{o i:Expr}{to ti:TE}{t:AO}(ho:PE X o to)(hi:PE X i ti)(hs:Kv X t)
  (ha: ∀v,assign (.Subscript o i pos) X.env v=(do
   let ov ←holding [v] (eval o X.env)
   let iv ←holding [v,ov] (eval i X.env)
   standAt pos
   holding [v,ov,iv] (setItem ov iv v)
   release [v,ov,iv] []):=by intro _;rfl):PG X (.Subscript o i pos) (Kx to ti t):=by
 intro pins s σ H v u Q I r h
 rw[ha]
 refine wpAny_bind (wpAny_holding (aN (ho pins s σ H _ I h) fun ov s1 ⟨x,H1,I1,r1,q1⟩=> ?_))
 refine wpAny_bind (wpAny_holding (aN (hi pins s1 σ H1 _ I1 q1) fun iv s2 ⟨y,H2,I2,r2,q2⟩=> ?_))
 refine wpAny_bind (wpAny_standAt (wpAny_bind (wpAny_holding (aN (hs pins s2 σ H2 x y v ov iv u _ I2 r1 r2 r q2) fun _ s3 ⟨H3,I3,q3⟩=> ?_))))
 exact wpAny_release ⟨σ,H3,I3,q3⟩
def i5(te:TE)(g:TG):TS:=fun D σ H=>te σ H fun x H1=>g x σ H1 D.nx
theorem TM{tg e:Expr}{te:TE}{g:TG}(he:PE X e te)(hg:PG X tg g)(hs:swapsWithSole [tg] e pos.line X.env=pure false:=by rfl)(hw:swappedStores [tg] e X.env=pure none:=by rfl)
  (h1:(assignEach [tg] X.env).map (·.2)=[assign tg X.env]:=by rfl):PS X (.Assign [tg] e pos) (i5 te g):=by
 intro pins s σ H D I h
 refine wpAny_Assign_stores (aN (he pins s σ H _ I h) fun v s1 ⟨x,H1,I1,r1,q1⟩=> ?_) hs hw
 rw[h1]
 exact aN (hg pins s1 σ H1 x v _ I1 r1 q1) fun _ s2 q=>q
theorem TN{i:Nat}{x:Str}{e:Expr}{te:TE}{pos':Pos}(hN:X.N.Nodup)(hi:X.N[i]?=some x)(hx:Loc X.env.scope x)(he:PE X e te)(hs:swapsWith e (some (.Name x pos')) pos.line X.env=pure false:=by rfl)(hf:X.fn x=true∨X.env.scope.names.lookup x=some .local:=by first | exact .inl rfl | exact .inr rfl | assumption):
  PS X (.Assign [.Name x pos'] e pos) (i5 te (dS i)):=by
 intro pins s σ H D I h
 refine wpAny_Assign_Name (aN (he pins s σ H _ I h) fun v s1 ⟨y,H1,I1,r1,q1⟩=> ?_) hs
 exact AK I1 hN hi hx r1 (fun s2 I2=> ⟨_,H1,I2,q1⟩) hf
end
section
variable {X:Cx} {pos:Pos}
def Ky(c:TT)(tb:TS):TS:=fun D σ H=> ∃W:Nat→St→Hp→Prop,(∃m,W m σ H)∧ ∀m σ H,W m σ H→
 c σ H fun b H1=>if b=true then ∃N:St→Hp→Prop,(∀σ' H',N σ' H'→ ∃m',m'<m∧W m' σ' H')∧tb {D with nx:=N,ct:=N,bk:=D.nx} σ H1 else D.nx σ H1
theorem TQ{c:Expr}{body:List Stmt}{tc:TT}{tb:TS}(hp:PassesOwn (model X.prog X.w) X.A X.env X.xe)(hc:PT X c tc)(hb:bo X body tb):PS X (.While c body [] pos) (Ky tc tb):=by
 intro pins s σ H D I h
 obtain⟨W,⟨m0,w0⟩,turn⟩:=h
 refine wpAny_While (codeAny_whileLoop (fun n s'=> ∃σ' H',Inv X pins σ' H' s'∧W n σ' H') ?_ m0 ⟨σ,H,I,w0⟩)
 rintro n s1 ⟨σ1,H1,I1,w1⟩
 refine wpAny_passesOwn hp (aN (hc pins s1 σ1 H1 _ I1 (turn n σ1 H1 w1)) fun b s2 ⟨H2,I2,q2⟩=> ?_)
 cases b with
 | true=>
  obtain⟨N,hN,q2⟩:=q2
  rw[if_pos rfl]
  refine wpAny_passesOwn hp (aN (hb pins s2 σ1 H2 _ I2 q2) fun f s3 q3=> ?_)
  cases f with
  | next=>
   obtain⟨σ3,H3,I3,n3⟩:=q3
   obtain⟨m',hm,w3⟩:=hN σ3 H3 n3
   exact⟨m',hm,σ3,H3,I3,w3⟩
  | cont=>
   obtain⟨σ3,H3,I3,n3⟩:=q3
   obtain⟨m',hm,w3⟩:=hN σ3 H3 n3
   exact⟨m',hm,σ3,H3,I3,w3⟩
  | brk=>exact q3
  | ret v=>exact q3
 | false=>
  rw[if_neg Bool.false_ne_true]
  exact wpAny_execs_nil ⟨σ1,H2,I2,q2⟩
end
structure It where
 go:Nat→Hp→Prop
 i6:Nat→Hp→V→Hp→Prop
 stop:Nat→Hp→Prop
def iK(X:Cx)(pins:List (Addr×Obj))(H:Hp)(b:Addr):Prop:=
 H b=none∧b≠X.env.locals∧b∉X.fs∧(b∈X.ex∨X.s₀.heap.objs.size≤b)∧(∀x c,X.env.cells.lookup x=some c→c≠b)∧ ∀p∈X.pn++pins,p.1≠b
theorem Inv.xH{X:Cx}{pins:List (Addr×Obj)}{σ:St}{H H':Hp}{s:Shared}{b:Addr}(I:Inv X pins σ H s)(hb:s.heap.objs.size≤b)(hn:H' b=none):iK X pins H' b:=by
 refine⟨hn,Nat.ne_of_gt (Nat.lt_of_lt_of_le I.lt hb),I.Ka hb, .inr (Nat.le_trans I.sz hb),fun x c e z=> ?_,fun p hp z=> ?_⟩
 ·obtain⟨v,q⟩:=I.cell x c e
  exact absurd (Nat.lt_of_lt_of_le q.lt (by rw[z];exact hb)) (Nat.lt_irrefl _)
 ·exact absurd (Nat.lt_of_lt_of_le (Heap.lt_size (I.pin p hp).1) (by rw[z];exact hb)) (Nat.lt_irrefl _)
structure Turn (P:Program) (w:World) (K:PySem.W.Frag) (tg:Expr) (J:It) (fp:List Addr) (it:Addr) (tn:Nat→Heap→Prop):Prop where
 mem:it∈fp
 obj: ∀i h,tn i h→ ∀b∈fp,∃o,h.get? b=some o∧ ∀v,o.data≠ .cell v
 keep: ∀i h h',tn i h→(∀b∈fp,∀o,h.get? b=some o→h'.get? b=some o)→tn i h'
 item: ∀(X:Cx),X.prog=P→X.w=w→X.K=K→X.calm=true→ ∀(i:Nat) (pins:List (Addr×Obj)) (s:Shared) (σ:St) (H:Hp) (E:Value→Shared→Prop),Inv X pins σ H s→(∀b∈fp,iK X pins H b)→tn i s.heap→J.go i H→
  wpAny (model P w) X.A (pyNext (.ref it)) (fun r s1=> ∃u,r=some u∧
   wpAny (model P w) X.A (letOwnedTupleGo tg (.ref it) u) (fun _ s2=> ∃x H',Inv X pins σ H' s2∧RelV x u∧J.i6 i H x H'∧tn (i+1) s2.heap∧ ∀b∈fp,H' b=none) E s1) E s
 done: ∀(X:Cx),X.prog=P→X.w=w→X.K=K→X.calm=true→ ∀(i:Nat) (pins:List (Addr×Obj)) (s:Shared) (σ:St) (H:Hp) (E:Value→Shared→Prop),Inv X pins σ H s→(∀b∈fp,iK X pins H b)→tn i s.heap→J.stop i H→
  wpAny (model P w) X.A (pyNext (.ref it)) (fun r s1=>r=none∧Inv X pins σ H s1) E s
 self: ∀(A:Around) (i:Nat) (s:Shared) (Q:Value→Shared→Prop) (E:Value→Shared→Prop),tn i s.heap→Q (.ref it) s→wpAny (model P w) A (pyIter (.ref it)) Q E s
abbrev TI:=St→Hp→(It→Hp→Prop)→Prop
def Kz(X:Cx)(pins:List (Addr×Obj))(σ:St)(tg:Expr)(R:It→Hp→Prop)(oC:Value)(s2:Shared):Prop:=
 ∃(it:Addr) (fp:List Addr) (tn:Nat→Heap→Prop) (J:It) (H':Hp),oC= .ref it∧Inv X pins σ H' s2∧Turn X.prog X.w X.K tg J fp it tn∧tn 0 s2.heap∧(∀b∈fp,iK X pins H' b)∧R J H'
def PI(X:Cx)(tg iter:Expr)(wi:TI):Prop:=
 ∀(pins:List (Addr×Obj)) (s:Shared) (σ:St) (H:Hp) (R:It→Hp→Prop),Inv X pins σ H s→wi σ H R→
  wpAny (model X.prog X.w) X.A (eval iter X.env) (fun v s1=>wpAny (model X.prog X.w) X.A (pyIter v) (Kz X pins σ tg R) X.xe s1) X.xe s
theorem AR{M:Model}{A:Around}{E:Value→Shared→Prop}{s:Shared}{tg:Expr}{it:Addr}{u:Value}{o:Obj}{n:String}{vs:Array Value}{Q:Unit→Shared→Prop}(ho:s.heap.get? it=some o)(hc:o.cls= .type n)(hd:o.data= .fields vs)
    (hn:["enumerate","zip","dict_itemiterator","dict_reverseitemiterator","odict_iterator","itertools.zip_longest","itertools.pairwise"].contains n=false) (hQ:Q () s):wpAny M A (letOwnedTupleGo tg (.ref it) u) Q E s:=by
  unfold letOwnedTupleGo
  cases tg<;>first
    | exact wpAny_pure hQ
    | (cases u<;>first
        | exact wpAny_pure hQ
        | (refine wpAny_bind (wpAny_load ho ?_)
           rw[hc,hd]
           show wpAny M A (if (["enumerate","zip","dict_itemiterator","dict_reverseitemiterator","odict_iterator","itertools.zip_longest","itertools.pairwise"].contains n && vs[0]?==some (rawInt _))=true then _ else _) Q E s
           rw[if_neg (by intro h;rw[hn,Bool.false_and] at h;cases h)]
           exact wpAny_pure hQ))
def iL(K:PySem.W.Frag)(a:Addr):It:=
 ⟨fun i H=> ∃xs x,ao K H a xs∧xs[i]?=some x,fun i H x H'=>H'=H∧ ∀xs,ao K H a xs→xs[i]?=some x,fun i H=> ∃xs,ao K H a xs∧xs.length≤i⟩
def TR(K:PySem.W.Frag)(a:Addr):It:=
 ⟨fun i H=> ∃xs x,aI K H a xs∧xs[i]?=some x,fun i H x H'=>H'=H∧ ∀xs,aI K H a xs→xs[i]?=some x,fun i H=> ∃xs,aI K H a xs∧xs.length≤i⟩
def jJ(lo:Int)(n:Nat):It:=⟨fun i _=>i<n,fun i H x H'=>H'=H∧x= .int (lo+i),fun i _=>n≤i⟩
theorem xI{P:Program}{w:World}{K:PySem.W.Frag}{tg:Expr}(a it:Addr):Turn P w K tg (iL K a) [it] it (fun i h=>h.IsListIter it a i) where
 mem:=by simp
 obj:=fun i h st b hb=>by
  have e:b=it:=by simpa using hb
  subst e
  obtain⟨o,e,c,d⟩:=st
  exact⟨o,e,fun v z=>by rw[d] at z;cases z⟩
 keep:=fun i h h' st k=>st.at fun o e=>k it (by simp) o e
 item:=by
  intro X hP hw hK hc i pins s σ H E I hf st hg
  subst hP hw hK
  obtain⟨xs,x,hq,hx⟩:=hg
  obtain⟨its,rv,p,hz⟩:=I.list hq
  obtain⟨u,hu,ru⟩:=rv.get hx
  obtain⟨f0,f1,f2,f3,f4,f5⟩:=hf it (by simp)
  refine wpAny_pyNext_list_item st p.isList (x:=u) (by simpa using hu) fun h' i7 sb=> ?_
  have I1:Inv X pins σ H {s with heap:=h'}:=I.turned (t':=s.toks) (fun b o hb e=> (sb.2 b hb).trans e) f0 f1 f3 f4 f5
  obtain⟨o,e,c,d⟩:=id i7
  exact⟨u,rfl,AR (s:={s with heap:=h'}) e c d (by decide) ⟨x,H,I1,ru,⟨rfl,fun ys hy=>by rw[I.xD hy hq];exact hx⟩,i7,fun b hb=> (hf b hb).1⟩⟩
 done:=by
  intro X hP hw hK hc i pins s σ H E I hf st hg
  subst hP hw hK
  obtain⟨xs,hq,hx⟩:=hg
  obtain⟨its,rv,p,hz⟩:=I.list hq
  obtain⟨f0,f1,f2,f3,f4,f5⟩:=hf it (by simp)
  have hl:=rv.length
  exact wpAny_pyNext_list_end (I.ok.hd hc) st p.isList (by simp;omega) fun h' eb=> ⟨rfl,I.turned (t':=s.toks) (fun b o hb e=>eb b o hb e) f0 f1 f3 f4 f5⟩
 self:=fun _ _ _ _ _ st h=>wpAny_pyIter_listiter st h
theorem TU{P:Program}{w:World}{K:PySem.W.Frag}{tg:Expr}(it:Addr)(lo:Int)(n:Nat):Turn P w K tg (jJ lo n) [it] it (fun i h=>IsRangeIter h it (lo+ (i:Nat)*1) ((n:Int) - (i:Nat)) 1) where
 mem:=by simp
 obj:=fun i h st b hb=>by
  have e:b=it:=by simpa using hb
  subst e
  exact⟨_,st,fun v z=>by
   have z':Data.fields _=Data.cell v:=z
   cases z'⟩
 keep:=fun i h h' st k=>k it (by simp) _ st
 item:=by
  intro X hP hw hK hc i pins s σ H E I hf st hg
  subst hP hw hK
  obtain⟨f0,f1,f2,f3,f4,f5⟩:=hf it (by simp)
  have W:=Walks.range (prog:=X.prog) (w:=X.w) (I.ok.hd hc) it lo 1 n
  refine W.item i s _ _ hg st fun v h' tk hv i7 kk=> ?_
  obtain⟨t,rfl⟩:=hv
  have I1:Inv X pins σ H {s with heap:=h',toks:=tk}:=I.turned (fun b o hb e=>kk b o (by simpa using hb) e) f0 f1 f3 f4 f5
  refine⟨_,rfl,AR (s:={s with heap:=h',toks:=tk}) (n:="range_iterator") i7 rfl rfl (by decide) ⟨.int (lo+i),H,I1,⟨t, ?_⟩,⟨rfl,rfl⟩,i7,fun b hb=> (hf b hb).1⟩⟩
  rw[Int.mul_one]
 done:=by
  intro X hP hw hK hc i pins s σ H E I hf st hg
  subst hP hw hK
  obtain⟨f0,f1,f2,f3,f4,f5⟩:=hf it (by simp)
  exact wpAny_pyNext_range_end (I.ok.hd hc) st (by have:n≤i:=hg;omega) fun h' eb=> ⟨rfl,I.turned (t':=s.toks) (fun b o hb e=>eb b o hb e) f0 f1 f3 f4 f5⟩
 self:=fun _ _ _ _ _ st h=>wpAny_pyIter_rangeiter st h
section
variable {X:Cx} {tg:Expr}
def uq(K:PySem.W.Frag)(tl:TE):TI:=fun σ H R=>tl σ H fun x H1=> ∃a,x= .ref a∧(∃xs,ao K H1 a xs)∧R (iL K a) H1
def TV(K:PySem.W.Frag)(tl:TE):TI:=fun σ H R=>tl σ H fun x H1=> ∃a,x= .ref a∧(∃xs,aI K H1 a xs)∧R (TR K a) H1
theorem TX{l:Expr}{tl:TE}(hl:PE X l tl):PI X tg l (uq X.K tl):=by
 intro pins s σ H R I h
 refine aN (hl pins s σ H _ I h) fun v s1 ⟨x,H1,I1,r1,q1⟩=> ?_
 obtain⟨a,e,⟨xs,hq⟩,q⟩:=q1
 subst e
 cases r1
 obtain⟨its,rv,p,hz⟩:=I1.list hq
 refine wpAny_pyIter_list p.isList ?_
 refine⟨s1.heap.objs.size,[s1.heap.objs.size],_,_,H1,rfl,I1.kept (t':=s1.toks) fun b o e=>Heap.get?_push_of_some _ e,xI a _,⟨_,Heap.get?_push_size _ rfl,rfl,rfl⟩,fun b hb=> ?_,q⟩
 have e:b=s1.heap.objs.size:=by simpa using hb
 subst e
 exact I1.xH (Nat.le_refl _) (I1.aB.fresh (Nat.le_refl _))
theorem TY{pins:List (Addr×Obj)}{σ:St}{H:Hp}{s:Shared}{R:It→Hp→Prop}{E:Value→Shared→Prop}{lo hi:Int}{t u v:Tok}{tk:Nat}(I:Inv X pins σ H s)(h1: -(2 ^ 62)≤lo)(h2:lo<2 ^ 62)(h3: -(2 ^ 62)≤hi)(h4:hi<2 ^ 62)
  (q:R (jJ lo (hi - lo).toNat) H):wpAny (model X.prog X.w) X.A (pyIter (.ref s.heap.objs.size)) (Kz X pins σ tg R) E {s with heap:=s.heap.push {cls:= .type "range",data:= .fields #[.int lo t, .int hi u, .int 1 v]},toks:=tk}:=by
 refine wpAny_pyIter_range (IsRange.new ..) (small_one h1 h2 h3 h4) ?_
 have I1:Inv X pins σ H {s with heap:=s.heap.push {cls:= .type "range",data:= .fields #[.int lo t, .int hi u, .int 1 v]},toks:=tk}:=I.kept fun b o e=>Heap.get?_push_of_some _ e
 refine⟨(s.heap.push {cls:= .type "range",data:= .fields #[.int lo t, .int hi u, .int 1 v]}).objs.size,[(s.heap.push {cls:= .type "range",data:= .fields #[.int lo t, .int hi u, .int 1 v]}).objs.size],_,_,H,rfl,
  I1.kept (t':=tk) fun b o e=>Heap.get?_push_of_some _ e,TU _ lo (hi - lo).toNat, ?_,fun b hb=> ?_,q⟩
 ·have e1:lo+ ((0:Nat):Int)*1=lo:=by simp
  have e2:(((hi - lo).toNat:Nat):Int) - ((0:Nat):Int)=Builtin.Range.rangeSize lo hi 1:=by rw[rangeSize_one];split<;>omega
  show IsRangeIter _ _ (lo+ ((0:Nat):Int)*1) ((((hi - lo).toNat:Nat):Int) - ((0:Nat):Int)) 1
  rw[e1,e2]
  exact Heap.get?_push_size _ rfl
 ·have e:b=(s.heap.push {cls:= .type "range",data:= .fields #[.int lo t, .int hi u, .int 1 v]}).objs.size:=by simpa using hb
  subst e
  exact I1.xH (Nat.le_refl _) (I1.aB.fresh (Nat.le_refl _))
def KA(ta:TA):TI:=fun σ H R=>ta σ H fun vs H1=> ∃j:Int,vs=[.int j]∧ -(2 ^ 62)≤j∧j<2 ^ 62∧R (jJ 0 j.toNat) H1
def TZ(ta:TA):TI:=fun σ H R=>ta σ H fun vs H1=> ∃i j:Int,vs=[.int i, .int j]∧(-(2 ^ 62)≤i∧i<2 ^ 62∧ -(2 ^ 62)≤j∧j<2 ^ 62)∧R (jJ i (j - i).toNat) H1
theorem T_{a:Expr}{ta:TA}{p pos:Pos}(hg:Gl X "range")(hm:X.mg "range"=none)(ha:PA X [a] ta)(hs:starEach [a] X.env=[(false,eval a X.env)]:=by rfl):PI X tg (.Call (.Name "range" p) [a] [] pos) (KA ta):=by
 intro pins s σ H R I h
 refine Call_ (um I hg hm boot_range (PyProof.Rows.callWith_type1 (aN (ha pos pins s σ H _ I h) fun us s1 ⟨vs,H1,I1,r1,q1⟩=> ?_) hs rfl))
 obtain⟨j,e,q1,q2,q⟩:=q1
 subst e
 cases r1 with
 | cons r rr=>
  cases rr
  obtain⟨t,rfl⟩:=r
  exact call_range_1 (TY I1 (by omega) (by omega) q1 q2 (by simpa using q))
def xJ(wi:TI)(g:TG)(tb:TS):TS:=fun D σ H=>wi σ H fun J H1=> ∃W:Nat→Nat→St→Hp→Prop,(∃m,W 0 m σ H1)∧ ∀i m σ H,W i m σ H→
 (J.stop i H∧D.nx σ H)∨(J.go i H∧ ∃N:St→Hp→Prop,(∀σ' H',N σ' H'→ ∃m',m'<m∧W (i+1) m' σ' H')∧ ∀x H',J.i6 i H x H'→g x σ H' fun σ2 H2=>tb {D with nx:=N,ct:=N,bk:=D.nx} σ2 H2)
def rQ(fp:List Addr)(h:Heap):List (Addr×Obj):=fp.filterMap fun b=> (h.get? b).map fun o=> (b,o)
theorem xM{fp:List Addr}{h:Heap}{b:Addr}{o:Obj}(hb:b∈fp)(e:h.get? b=some o):(b,o)∈rQ fp h:=List.mem_filterMap.mpr ⟨b,hb,by rw[e];rfl⟩
theorem Ua{fp:List Addr}{h:Heap}{p:Addr×Obj}(hp:p∈rQ fp h):p.1∈fp∧h.get? p.1=some p.2:=by
 obtain⟨b,hb,e⟩:=List.mem_filterMap.mp hp
 cases q:h.get? b with
 | none=>rw[q] at e;cases e
 | some o=>
  rw[q] at e
  have e':(b,o)=p:=Option.some.inj e
  subst e'
  exact⟨hb,q⟩
theorem Inv.pinned{pins:List (Addr×Obj)}{σ:St}{H:Hp}{s:Shared}{fp:List Addr}(I:Inv X pins σ H s)(hf: ∀b∈fp,iK X pins H b)(ho: ∀b∈fp,∃o,s.heap.get? b=some o∧ ∀v,o.data≠ .cell v):Inv X (pins++rQ fp s.heap) σ H s:=
 I.rN fun p hp=> (List.mem_append.mp hp).elim (fun z=>I.pin p (List.mem_append_right _ z)) fun z=>by
  obtain⟨hb,e⟩:=Ua z
  obtain⟨f0,f1,f2,_⟩:=hf p.1 hb
  obtain⟨o,e',d⟩:=ho p.1 hb
  rw[e] at e';cases e'
  exact⟨e,f0,f1,f2,d⟩
theorem Inv.AS{pins pl:List (Addr×Obj)}{σ:St}{H:Hp}{s:Shared}(I:Inv X (pins++pl) σ H s):Inv X pins σ H s:=I.rN fun p hp=>I.pin p (List.mem_append_right _ (List.mem_append_left _ hp))
theorem KC{iter:Expr}{body:List Stmt}{wi:TI}{g:TG}{tb:TS}{pos:Pos}(hp:PassesOwn (model X.prog X.w) X.A X.env X.xe)(hc:X.calm=true)(hi:PI X tg iter wi)(hg:PG X tg g)(hb:bo X body tb)
  (hs: ∀x,foldedSetIterable iter X.env x=pure x:=by intro _;rfl):PS X (.For tg iter body [] pos) (xJ wi g tb):=by
 intro pins s σ H D I h
 refine wpAny_For (aN (hi pins s σ H _ I h) fun v s1 h1=>aN h1 fun oC s2 h2=> ?_) hs
 obtain⟨it,fp,tn,J,H2,e,I2,T,ur,f2,W,⟨m0,w0⟩,turn⟩:=h2
 subst e
 have oE: ∀{H':Hp},(∀b∈fp,H' b=none)→ ∀b∈fp,iK X pins H' b:=fun hn b hb=> ⟨hn b hb,(f2 b hb).2⟩
 refine codeAny_forLoop_any (fun n s'=> ∃i σ' H',Inv X pins σ' H' s'∧tn i s'.heap∧(∀b∈fp,H' b=none)∧W i n σ' H') ?_ m0 ⟨0,σ,H2,I2,ur,fun b hb=> (f2 b hb).1,w0⟩
 rintro n s3 ⟨i,σ3,H3,I3,KD,KG,w3⟩
 rcases turn i n σ3 H3 w3 with⟨stop,qn⟩ | ⟨go,N,hN,step⟩
 ·refine wpAny_passesOwn hp (aN (T.done X rfl rfl rfl hc i pins s3 σ3 H3 X.xe I3 (oE KG) KD stop) fun r s4 ⟨hr,I4⟩=> ?_)
  subst hr
  exact wpAny_execs_nil ⟨σ3,H3,I4,qn⟩
 ·refine wpAny_passesOwn hp (aN (T.item X rfl rfl rfl hc i pins s3 σ3 H3 X.xe I3 (oE KG) KD go) fun r s4 ⟨u,hr,h4⟩=> ?_)
  subst hr
  refine wpAny_passesOwn hp (aN h4 fun _ s5 ⟨x,H5,I5,r5,y5,oF,AU⟩=> ?_)
  have uu:=I5.pinned (oE AU) (T.obj _ _ oF)
  refine wpAny_passesOwn hp (aN (hg _ s5 σ3 H5 x u _ uu r5 (step x H5 y5)) fun _ s6 ⟨σ6,H6,I6,q6⟩=> ?_)
  refine wpAny_passesOwn hp (aN (hb _ s6 σ6 H6 _ I6 q6) fun f s7 q7=> ?_)
  have again: ∀{σ7:St} {H7:Hp},Inv X (pins++rQ fp s5.heap) σ7 H7 s7→N σ7 H7→ ∃m,m<n∧ ∃i σ' H',Inv X pins σ' H' s7∧tn i s7.heap∧(∀b∈fp,H' b=none)∧W i m σ' H':=fun {σ7 H7} I7 n7=>by
   obtain⟨m',hm,w7⟩:=hN σ7 H7 n7
   refine⟨m',hm,i+1,σ7,H7,I7.AS,T.keep _ _ _ oF fun b hb o e=> (I7.pin (b,o) (List.mem_append_right _ (List.mem_append_right _ (xM hb e)))).1,fun b hb=> ?_,w7⟩
   obtain⟨o,e,d⟩:=T.obj _ _ oF b hb
   exact(I7.pin (b,o) (List.mem_append_right _ (List.mem_append_right _ (xM hb e)))).2.1
  cases f with
  | next=>obtain⟨σ7,H7,I7,n7⟩:=q7;exact again I7 n7
  | cont=>obtain⟨σ7,H7,I7,n7⟩:=q7;exact again I7 n7
  | brk=>obtain⟨σ7,H7,I7,q7⟩:=q7;exact⟨σ7,H7,I7.AS,q7⟩
  | ret v=>obtain⟨x7,σ7,H7,I7,r7,q7⟩:=q7;exact⟨x7,σ7,H7,I7.AS,r7,q7⟩
end
theorem mM{K:PySem.W.Frag}{a:Addr}{xs:List V}{g:TG}{tb:TS}{D:Ends}{σ:St}{H:Hp}(Pv:Nat→St→Hp→Prop)(h0:Pv 0 σ H)(hl: ∀i σ H,i≤xs.length→Pv i σ H→ao K H a xs)
  (hs: ∀i x σ H,xs[i]?=some x→Pv i σ H→g x σ H fun σ2 H2=>tb {D with nx:=Pv (i+1),ct:=Pv (i+1),bk:=D.nx} σ2 H2) (hd: ∀σ H,Pv xs.length σ H→D.nx σ H):
  ∃W:Nat→Nat→St→Hp→Prop,(∃m,W 0 m σ H)∧ ∀i m σ H,W i m σ H→
   ((iL K a).stop i H∧D.nx σ H)∨((iL K a).go i H∧ ∃N:St→Hp→Prop,(∀σ' H',N σ' H'→ ∃m',m'<m∧W (i+1) m' σ' H')∧ ∀x H',(iL K a).i6 i H x H'→g x σ H' fun σ2 H2=>tb {D with nx:=N,ct:=N,bk:=D.nx} σ2 H2):=by
 refine⟨fun i m σ H=>m=xs.length - i∧i≤xs.length∧Pv i σ H,⟨xs.length,by simp,Nat.zero_le _,h0⟩, ?_⟩
 rintro i m σ H ⟨rfl,hi,p⟩
 have q:=hl i σ H hi p
 by_cases aP:i<xs.length
 ·refine .inr ⟨⟨xs,xs[i],q,by simp[aP]⟩,Pv (i+1),fun σ' H' p'=> ⟨xs.length - (i+1),by omega,rfl,aP,p'⟩,fun x H' y=> ?_⟩
  obtain⟨e,y⟩:=y
  subst e
  exact hs i x σ _ (y xs q) p
 ·have e:i=xs.length:=by omega
  subst e
  exact .inl ⟨⟨xs,q,Nat.le_refl _⟩,hd σ H p⟩
theorem xO{lo:Int}{n:Nat}{g:TG}{tb:TS}{D:Ends}{σ:St}{H:Hp}(Pv:Nat→St→Hp→Prop)(h0:Pv 0 σ H)
  (hs: ∀i σ H,i<n→Pv i σ H→g (.int (lo+i)) σ H fun σ2 H2=>tb {D with nx:=Pv (i+1),ct:=Pv (i+1),bk:=D.nx} σ2 H2) (hd: ∀σ H,Pv n σ H→D.nx σ H):
  ∃W:Nat→Nat→St→Hp→Prop,(∃m,W 0 m σ H)∧ ∀i m σ H,W i m σ H→
   ((jJ lo n).stop i H∧D.nx σ H)∨((jJ lo n).go i H∧ ∃N:St→Hp→Prop,(∀σ' H',N σ' H'→ ∃m',m'<m∧W (i+1) m' σ' H')∧ ∀x H',(jJ lo n).i6 i H x H'→g x σ H' fun σ2 H2=>tb {D with nx:=N,ct:=N,bk:=D.nx} σ2 H2):=by
 refine⟨fun i m σ H=>m=n - i∧i≤n∧Pv i σ H,⟨n,by simp,Nat.zero_le _,h0⟩, ?_⟩
 rintro i m σ H ⟨rfl,hi,p⟩
 by_cases aP:i<n
 ·refine .inr ⟨aP,Pv (i+1),fun σ' H' p'=> ⟨n - (i+1),by omega,rfl,aP,p'⟩,fun x H' y=> ?_⟩
  obtain⟨e,y⟩:=y
  subst e y
  exact hs i σ _ aP p
 ·have e:i=n:=by omega
  subst e
  exact .inl ⟨Nat.le_refl _,hd σ H p⟩
abbrev R2:=V→V→Hp→VK→Prop
def bA(X:Cx)(f:Value→Value→Sem Value)(r:R2):Prop:=
 ∀(pins:List (Addr×Obj)) (s:Shared) (σ:St) (H:Hp) (x y:V) (v u:Value) (Q:VK),Inv X pins σ H s→RelV x v→RelV y u→r x y H Q→
  wpAny (model X.prog X.w) X.A (f v u) (EP X pins σ Q) X.xe s
def xQ(X:Cx)(f:Value→Sem Value)(r:V→Hp→VK→Prop):Prop:=
 ∀(pins:List (Addr×Obj)) (s:Shared) (σ:St) (H:Hp) (x:V) (v:Value) (Q:VK),Inv X pins σ H s→RelV x v→r x H Q→
  wpAny (model X.prog X.w) X.A (f v) (EP X pins σ Q) X.xe s
def cE(X:Cx)(f:Value)(r:List V→Hp→VK→Prop):Prop:=
 ∀(pins:List (Addr×Obj)) (s:Shared) (σ:St) (H:Hp) (xs:List V) (us:List Value) (Q:VK),Inv X pins σ H s→Vals xs us→r xs H Q→
  wpAny (model X.prog X.w) X.A (call f us) (EP X pins σ Q) X.xe s
def Ub(X:Cx)(r:V→Hp→(Bool→Hp→Prop)→Prop):Prop:=
 ∀(pins:List (Addr×Obj)) (s:Shared) (σ:St) (H:Hp) (x:V) (v:Value) (Q:Bool→Hp→Prop),Inv X pins σ H s→RelV x v→r x H Q→
  wpAny (model X.prog X.w) X.A (truthy v) (TP X pins σ Q) X.xe s
def dU(r:R2)(ta tb:TE):TE:=fun σ H Q=>ta σ H fun x H1=>tb σ H1 fun y H2=>r x y H2 Q
def KH(r:V→Hp→VK→Prop)(ta:TE):TE:=fun σ H Q=>ta σ H fun x H1=>r x H1 Q
def rI(C:Int→Int→Prop)(g:Int→Int→V):R2:=fun x y H Q=> ∃i j,x= .int i∧y= .int j∧C i j∧Q (g i j) H
def kr(g:Int→Int→V):R2:=fun x y H Q=> ∃i j,x= .int i∧y= .int j∧Q (g i j) H
def rU(g:Int→V):V→Hp→VK→Prop:=fun x H Q=> ∃i,x= .int i∧Q (g i) H
section
variable {X:Cx} {a b c:Expr} {ta tb tc:TE} {pos:Pos}
theorem AV(ha:PE X a ta)(hb:PE X b tb){pins:List (Addr×Obj)}{s:Shared}{σ:St}{H:Hp}{R:V→V→Hp→Prop}(I:Inv X pins σ H s)
  (h:ta σ H fun x H1=>tb σ H1 fun y H2=>R x y H2) {Q:Value→Shared→Prop} {f:Value→Value→Sem Value}
  (hf: ∀v u s2 x y H2,Inv X pins σ H2 s2→RelV x v→RelV y u→R x y H2→wpAny (model X.prog X.w) X.A (f v u) Q X.xe s2):
  wpAny (model X.prog X.w) X.A (eval a X.env) (fun v s₁=>wpAny (model X.prog X.w) X.A (eval b X.env) (fun u s₂=>wpAny (model X.prog X.w) X.A (f v u) Q X.xe s₂) X.xe s₁) X.xe s:=by
 refine aN (ha pins s σ H _ I h) fun v s1 ⟨x,H1,I1,r1,q1⟩=> ?_
 refine aN (hb pins s1 σ H1 _ I1 q1) fun u s2 ⟨y,H2,I2,r2,q2⟩=> ?_
 exact hf v u s2 x y H2 I2 r1 r2 q2
theorem Uc{op:Operator}{r:R2}(ho:bA X (binaryOp op) r)(ha:PE X a ta)(hb:PE X b tb):PE X (.BinOp a op b pos) (dU r ta tb):=by
 intro pins s σ H Q I h
 exact wpAny_BinOp (AV ha hb I h fun v u s2 x y H2 I2 rx ry q=>ho pins s2 σ H2 x y v u Q I2 rx ry q)
theorem Ud{op:UnaryOp}{r:V→Hp→VK→Prop}(ho:xQ X (unaryOp op) r)(ha:PE X a ta):PE X (.UnaryOp op a pos) (KH r ta):=by
 intro pins s σ H Q I h
 exact UnaryOp_ (aN (ha pins s σ H _ I h) fun v s1 ⟨x,H1,I1,r1,q1⟩=>ho pins s1 σ H1 x v Q I1 r1 q1)
theorem xR{f:Value→Value→Sem Value}{C:Int→Int→Prop}{g:Int→Int→Int}
  (rule: ∀(i j:Int) (t u:Tok) (s:Shared) (Q:Value→Shared→Prop) (E:Value→Shared→Prop),C i j→Q (.int (g i j) s.toks) {s with toks:=s.toks+1}→wpAny (model X.prog X.w) X.A (f (.int i t) (.int j u)) Q E s):
  bA X f (rI C fun i j=> .int (g i j)):=by
 intro pins s σ H x y v u Q I rx ry h
 obtain⟨i,j,rfl,rfl,hc,q⟩:=h
 obtain⟨t,rfl⟩:=rx
 obtain⟨t',rfl⟩:=ry
 exact rule i j t t' s _ _ hc ⟨.int (g i j),H,I.tok _,⟨_,rfl⟩,q⟩
theorem KI{f:Value→Value→Sem Value}{g:Int→Int→Int}
  (rule: ∀(i j:Int) (t u:Tok) (s:Shared) (Q:Value→Shared→Prop) (E:Value→Shared→Prop),Q (.int (g i j) s.toks) {s with toks:=s.toks+1}→wpAny (model X.prog X.w) X.A (f (.int i t) (.int j u)) Q E s):
  bA X f (kr fun i j=> .int (g i j)):=by
 intro pins s σ H x y v u Q I rx ry h
 obtain⟨i,j,rfl,rfl,q⟩:=h
 obtain⟨t,rfl⟩:=rx
 obtain⟨t',rfl⟩:=ry
 exact rule i j t t' s _ _ ⟨.int (g i j),H,I.tok _,⟨_,rfl⟩,q⟩
theorem xS{f:Value→Value→Sem Value}{g:Int→Int→Bool}
  (rule: ∀(i j:Int) (t u:Tok) (s:Shared) (Q:Value→Shared→Prop) (E:Value→Shared→Prop),Q (.bool (g i j)) s→wpAny (model X.prog X.w) X.A (f (.int i t) (.int j u)) Q E s):
  bA X f (kr fun i j=> .bl (g i j)):=by
 intro pins s σ H x y v u Q I rx ry h
 obtain⟨i,j,rfl,rfl,q⟩:=h
 obtain⟨t,rfl⟩:=rx
 obtain⟨t',rfl⟩:=ry
 exact rule i j t t' s _ _ ⟨.bl (g i j),H,I,rfl,q⟩
def KJ(i j:Int):Prop:=0<j∧j<1073741824
def KL(i j:Int):Prop:=0≤j∧j≤1000000∧i.natAbs<2 ^ 64
def xT(i j:Int):Prop:=(-(2 ^ 64) <i∧i<2 ^ 64)∨(-(2 ^ 64) <j∧j<2 ^ 64)
theorem xT.ok{i j:Int}(h:xT i j):IntMulOk i j:=by
 rcases h with⟨h1,h2⟩ | ⟨h1,h2⟩
 ·exact .of_left (intBits_le_64 h1 h2)
 ·exact .of_right (intBits_le_64 h1 h2)
theorem Ue:bA X (binaryOp .Add) (kr fun i j=> .int (i+j)):=KI fun _ _ _ _ _ _ _ q=>add_int q
theorem Ug:bA X (binaryOp .Sub) (kr fun i j=> .int (i - j)):=KI fun _ _ _ _ _ _ _ q=>sub_int q
theorem Uh:bA X (binaryOp .Mult) (rI xT fun i j=> .int (i*j)):=xR fun _ _ _ _ _ _ _ hc q=>mul_int q hc.ok
theorem Ui:bA X (binaryOp .FloorDiv) (rI KJ fun i j=> .int (i / j)):=xR fun i j _ _ _ _ _ hc q=>by
 have h1:(0:Int) <j:=hc.1
 have h2:j<1073741824:=hc.2
 exact floordiv_int (by omega) (by rw[Int.fdiv_eq_ediv_of_nonneg i (by omega)];exact q) (.inl (PyProof.noPylong_small (by omega)))
theorem Uj:bA X (binaryOp .Mod) (rI (fun _ j=>0<j) fun i j=> .int (i % j)):=xR fun i j _ _ _ _ _ hc q=>by
 have h1:(0:Int) <j:=hc
 exact mod_int' (by omega) (by rw[Int.fmod_eq_emod_of_nonneg i (by omega)];exact q)
theorem Uk:bA X (binaryOp .Pow) (rI KL fun i j=> .int (i ^ j.toNat)):=xR fun _ _ _ _ _ _ _ hc q=>pow_int_small hc.1 hc.2.1 hc.2.2 q
theorem Ul{f:Value→Sem Value}{g:Int→Int}
  (rule: ∀(i:Int) (t:Tok) (s:Shared) (Q:Value→Shared→Prop) (E:Value→Shared→Prop),Q (.int (g i) s.toks) {s with toks:=s.toks+1}→wpAny (model X.prog X.w) X.A (f (.int i t)) Q E s):
  xQ X f (rU fun i=> .int (g i)):=by
 intro pins s σ H x v Q I rx h
 obtain⟨i,rfl,q⟩:=h
 obtain⟨t,rfl⟩:=rx
 exact rule i t s _ _ ⟨.int (g i),H,I.tok _,⟨_,rfl⟩,q⟩
theorem Um:xQ X (unaryOp .USub) (rU fun i=> .int (-i)):=Ul fun _ _ _ _ _ q=>neg_int q
end
def jK:V→V→Bool
 | .aw, .aw=>true | .aw, .int _=>true | .int _, .aw=>true | .aw, .bl _=>true | .bl _, .aw=>true | .aw, .str _=>true | .str _, .aw=>true
 | .int _, .int _=>true | .bl _, .bl _=>true | .str _, .str _=>true | .fh _, .fh _=>true
 | .int _, .str _=>true | .str _, .int _=>true | .bl _, .str _=>true | .str _, .bl _=>true
 | _,_=>false
def Uo:R2:=fun x y H Q=>jK x y=true∧Q (.bl (decide (x=y))) H
def Up:R2:=fun x y H Q=>jK x y=true∧Q (.bl (!decide (x=y))) H
theorem KN{i j:Int}:decide (V.int i=V.int j)=(i==j):=by
 rw[Bool.eq_iff_iff]
 simp
theorem KO{i j:Bool}:decide (V.bl i=V.bl j)=(i==j):=by
 rw[Bool.eq_iff_iff]
 simp
theorem fI{i j:Str}:decide (V.str i=V.str j)=(i==j):=by
 rw[Bool.eq_iff_iff]
 simp
theorem KP{i j:Array UInt8}:decide (V.fh i=V.fh j)=(i.toList==j.toList):=by
 rw[Bool.eq_iff_iff]
 cases i
 cases j
 simp
section
variable {X:Cx} {a b c:Expr} {ta tb tc:TE} {pos:Pos}
theorem cy{pins:List (Addr×Obj)}{σ:St}{H:Hp}{s:Shared}{Q:VK}{k k':Bool}(I:Inv X pins σ H s)(q:Q (.bl k) H)(e:k=k'):EP X pins σ Q (.bool k') s:=by
 subst e
 exact⟨.bl k,H,I,rfl,q⟩
theorem Uq:bA X (compareOp .Eq) Uo:=by
 intro pins s σ H x y v u Q I rx ry h
 obtain⟨hs,q⟩:=h
 cases x with
 | aw=>
  cases rx
  cases y with
  | aw=>cases ry;exact PySem.EqNone.eq_none_none (cy I q (by simp))
  | bl j=>cases ry;exact PySem.EqNone.eq_none_bool (cy I q (by simp))
  | int j=>obtain⟨t',rfl⟩:=ry;exact PySem.EqNone.eq_none_int (cy I q (by simp))
  | str j=>obtain⟨t',rfl⟩:=ry;exact PySem.EqNone.eq_none_str (cy I q (by simp))
  | _=>exact absurd (show false=true from hs) Bool.false_ne_true
 | bl i=>
  cases rx
  cases y with
  | aw=>cases ry;exact PySem.EqNone.eq_bool_none (cy I q (by simp))
  | bl j=>cases ry;exact eq_bool (cy I q KO)
  | str j=>obtain⟨t',rfl⟩:=ry;exact PySem.EqMixed.eq_bool_str (cy I q (by simp))
  | _=>exact absurd (show false=true from hs) Bool.false_ne_true
 | int i=>
  obtain⟨t,rfl⟩:=rx
  cases y with
  | aw=>cases ry;exact PySem.EqNone.eq_int_none (cy I q (by simp))
  | int j=>obtain⟨t',rfl⟩:=ry;exact eq_int (cy I q KN)
  | str j=>obtain⟨t',rfl⟩:=ry;exact PySem.EqMixed.eq_int_str (cy I q (by simp))
  | _=>exact absurd (show false=true from hs) Bool.false_ne_true
 | str i=>
  obtain⟨t,rfl⟩:=rx
  cases y with
  | aw=>cases ry;exact PySem.EqNone.eq_str_none (cy I q (by simp))
  | bl j=>cases ry;exact PySem.EqMixed.eq_str_bool (cy I q (by simp))
  | int j=>obtain⟨t',rfl⟩:=ry;exact PySem.EqMixed.eq_str_int (cy I q (by simp))
  | str j=>obtain⟨t',rfl⟩:=ry;exact eq_str (cy I q fI)
  | _=>exact absurd (show false=true from hs) Bool.false_ne_true
 | fh i=>
  obtain⟨t,rfl⟩:=rx
  cases y with
  | fh j=>obtain⟨t',rfl⟩:=ry;exact PySem.W.eq_bytes (cy I q KP)
  | _=>exact absurd (show false=true from hs) Bool.false_ne_true
 | _=>cases y<;>exact absurd (show false=true from hs) Bool.false_ne_true
theorem Ur:bA X (compareOp .NotEq) Up:=by
 intro pins s σ H x y v u Q I rx ry h
 obtain⟨hs,q⟩:=h
 cases x with
 | aw=>
  cases rx
  cases y with
  | aw=>cases ry;exact PySem.EqNone.ne_none_none (cy I q (by simp))
  | bl j=>cases ry;exact PySem.EqNone.ne_none_bool (cy I q (by simp))
  | int j=>obtain⟨t',rfl⟩:=ry;exact PySem.EqNone.ne_none_int (cy I q (by simp))
  | str j=>obtain⟨t',rfl⟩:=ry;exact PySem.EqNone.ne_none_str (cy I q (by simp))
  | _=>exact absurd (show false=true from hs) Bool.false_ne_true
 | bl i=>
  cases rx
  cases y with
  | aw=>cases ry;exact PySem.EqNone.ne_bool_none (cy I q (by simp))
  | bl j=>cases ry;exact ne_bool (cy I q (congrArg not KO))
  | str j=>obtain⟨t',rfl⟩:=ry;exact PySem.EqMixed.ne_bool_str (cy I q (by simp))
  | _=>exact absurd (show false=true from hs) Bool.false_ne_true
 | int i=>
  obtain⟨t,rfl⟩:=rx
  cases y with
  | aw=>cases ry;exact PySem.EqNone.ne_int_none (cy I q (by simp))
  | int j=>obtain⟨t',rfl⟩:=ry;exact ne_int (cy I q (congrArg not KN))
  | str j=>obtain⟨t',rfl⟩:=ry;exact PySem.EqMixed.ne_int_str (cy I q (by simp))
  | _=>exact absurd (show false=true from hs) Bool.false_ne_true
 | str i=>
  obtain⟨t,rfl⟩:=rx
  cases y with
  | aw=>cases ry;exact PySem.EqNone.ne_str_none (cy I q (by simp))
  | bl j=>cases ry;exact PySem.EqMixed.ne_str_bool (cy I q (by simp))
  | int j=>obtain⟨t',rfl⟩:=ry;exact PySem.EqMixed.ne_str_int (cy I q (by simp))
  | str j=>obtain⟨t',rfl⟩:=ry;exact ne_str (cy I q (congrArg not fI))
  | _=>exact absurd (show false=true from hs) Bool.false_ne_true
 | fh i=>
  obtain⟨t,rfl⟩:=rx
  cases y with
  | fh j=>obtain⟨t',rfl⟩:=ry;exact PySem.W.ne_bytes (cy I q (congrArg not KP))
  | _=>exact absurd (show false=true from hs) Bool.false_ne_true
 | _=>cases y<;>exact absurd (show false=true from hs) Bool.false_ne_true
theorem Us:bA X (compareOp .Lt) (kr fun i j=> .bl (decide (i<j))):=xS fun _ _ _ _ _ _ _ q=>lt_int q
theorem Ut:bA X (compareOp .LtE) (kr fun i j=> .bl (decide (i≤j))):=xS fun _ _ _ _ _ _ _ q=>le_int q
theorem Uu:bA X (compareOp .Gt) (kr fun i j=> .bl (decide (j<i))):=xS fun _ _ _ _ _ _ _ q=>gt_int q
theorem Uv:bA X (compareOp .GtE) (kr fun i j=> .bl (decide (j≤i))):=xS fun _ _ _ _ _ _ _ q=>ge_int q
theorem Uw:bA X (compareOp .In) (fun x y H Q=> ∃i j,x= .str i∧y= .str j∧Q (.bl (!(Builtin.Str.occurrences j i 0 j.length 1).isEmpty)) H):=by
 intro pins s σ H x y v u Q I rx ry h
 obtain⟨i,j,rfl,rfl,q⟩:=h
 obtain⟨t,rfl⟩:=rx
 obtain⟨t',rfl⟩:=ry
 exact in_str (cy I q rfl)
theorem Ux:bA X (compareOp .Is) (fun x y H Q=>y= .aw∧Q (.bl (decide (x= .aw))) H):=by
 intro pins s σ H x y v u Q I rx ry h
 obtain⟨rfl,q⟩:=h
 cases ry
 refine is_none_gen (cy I q ?_)
 cases x<;>first
  | (cases rx;rfl)
  | (obtain⟨t,rfl⟩:=rx;rfl)
theorem Uy:bA X (compareOp .IsNot) (fun x y H Q=>y= .aw∧Q (.bl (!decide (x= .aw))) H):=by
 intro pins s σ H x y v u Q I rx ry h
 obtain⟨rfl,q⟩:=h
 cases ry
 refine isnot_none_gen (cy I q ?_)
 cases x<;>first
  | (cases rx;rfl)
  | (obtain⟨t,rfl⟩:=rx;rfl)
theorem Uz:bA X (compareOp .NotIn) (fun x y H Q=> ∃i j,x= .str i∧y= .str j∧Q (.bl (!(!(Builtin.Str.occurrences j i 0 j.length 1).isEmpty))) H):=by
 intro pins s σ H x y v u Q I rx ry h
 obtain⟨i,j,rfl,rfl,q⟩:=h
 obtain⟨t,rfl⟩:=rx
 obtain⟨t',rfl⟩:=ry
 exact notIn_str (cy I q rfl)
theorem bA.or{f:Value→Value→Sem Value}{r r':R2}(h:bA X f r)(h':bA X f r'):bA X f (fun x y H Q=>r x y H Q∨r' x y H Q):=by
 intro pins s σ H x y v u Q I rx ry q
 rcases q with q | q
 ·exact h pins s σ H x y v u Q I rx ry q
 ·exact h' pins s σ H x y v u Q I rx ry q
theorem UA{op:CmpOp}{r:R2}(ho:bA X (compareOp op) r)(ha:PE X a ta)(hb:PE X b tb)(hm:behindInMarks op b=false):PE X (.Compare a [op] [b] pos) (dU r ta tb):=by
 intro pins s σ H Q I h
 exact wpAny_Compare1 (AV ha hb I h fun v u s2 x y H2 I2 rx ry q=>ho pins s2 σ H2 x y v u Q I2 rx ry q) hm
def mO(t:TE):TT:=fun σ H Q=>t σ H fun x H'=> ∃k,x= .bl k∧Q k H'
theorem AW{op:CmpOp}{r:R2}(ho:bA X (compareOp op) r)(ha:PE X a ta)(hb:PE X b tb)(hm:behindInMarks op b=false):PT X (.Compare a [op] [b] pos) (mO (dU r ta tb)):=by
 intro pins s σ H Q I h
 refine wpAny_isTrue_Compare1 (aN (ha pins s σ H _ I h) fun v s1 ⟨x,H1,I1,r1,q1⟩=>aN (hb pins s1 σ H1 _ I1 q1) fun u s2 ⟨y,H2,I2,r2,q2⟩=>
  aN (ho pins s2 σ H2 x y v u _ I2 r1 r2 q2) fun c s3 ⟨z,H3,I3,r3,k,e,q3⟩=> ?_) hm
 subst e
 cases r3
 exact wpAny_truthy_bool ⟨H3,I3,q3⟩
def KQ(r r':R2)(ta tb tc:TE):TE:=fun σ H Q=>ta σ H fun x H1=>tb σ H1 fun y H2=>r x y H2 fun z H3=> ∃k,z= .bl k∧
 (if k=true then tc σ H3 fun w' H4=>r' y w' H4 Q else Q (.bl false) H3)
def KR(K:PySem.W.Frag)(x:V)(H:Hp)(k:Bool):Prop:=
 match x with
 | .aw=>k=false
 | .bl b=>k=b
 | .int i=>k=(i !=0)
 | .str y=>y.length≤sizeLine∧k=((y.length:Int) !=0)
 | .fh y=>y.size≤sizeLine∧k=((y.size:Int) !=0)
 | .ref p=> (∃xs,ao K H p xs∧k= !xs.isEmpty)∨(∃xs,aI K H p xs∧k= !xs.isEmpty)∨ ∃ah,H p=some (.dK ah)∧k= !ah.isEmpty
 | _=>False
theorem UB{κ:Type}{ah:List (κ×V)}{vs:List (κ×Value)}(r:KV ah vs):(!vs.isEmpty)= !ah.isEmpty:=by
 cases r<;>rfl
theorem KS{xs:List V}{its:List Value}(r:Vals xs its):(!its.toArray.isEmpty)= !xs.isEmpty:=by
 cases r<;>simp
theorem mP:(sizeLine:Nat) <2 ^ 63:=by rw[sizeLine_eq];decide
theorem KU:Ub X (fun x H Q=> ∃k,KR X.K x H k∧Q k H):=by
 intro pins s σ H x v Q I rx h
 obtain⟨k,e,q⟩:=h
 have hl:=mP
 have hs:sizeLine=16777216:=sizeLine_eq
 cases x with
 | aw=>
  cases rx
  have e':k=false:=e
  subst e'
  exact truthy_none ⟨H,I,q⟩
 | bl b=>
  cases rx
  have e':k=b:=e
  subst e'
  exact wpAny_truthy_bool ⟨H,I,q⟩
 | int i=>
  obtain⟨t,rfl⟩:=rx
  have e':k=(i !=0):=e
  subst e'
  exact PySem.P.truthy_int ⟨H,I,q⟩
 | str y=>
  obtain⟨t,rfl⟩:=rx
  obtain⟨hy,e'⟩:y.length≤sizeLine∧k=((y.length:Int) !=0):=e
  subst e'
  exact PySem.P.truthy_str (by omega) ⟨H,I.tok _,q⟩
 | fh y=>
  obtain⟨t,rfl⟩:=rx
  obtain⟨hy,e'⟩:y.size≤sizeLine∧k=((y.size:Int) !=0):=e
  subst e'
  exact PySem.W.truthy_bytes (by omega) ⟨H,I.tok _,q⟩
 | ref p=>
  cases rx
  have e':(∃xs,ao X.K H p xs∧k= !xs.isEmpty)∨(∃xs,aI X.K H p xs∧k= !xs.isEmpty)∨ ∃ah,H p=some (.dK ah)∧k= !ah.isEmpty:=e
  rcases e' with⟨xs,hx,e'⟩ | ⟨xs,hx,e'⟩ | ⟨ah,hx,e'⟩
  ·subst e'
   obtain⟨its,r,pl,hz⟩:=I.list hx
   have hlen:=r.length
   exact wpAny_truthy_list pl.isList (by simp only[List.size_toArray];omega) ⟨H,I.tok _,by rw[KS r];exact q⟩
  ·subst e'
   obtain⟨its,r,pl,hz⟩:=I.tuple hx
   have hlen:=r.length
   exact truthy_tuple pl (by simp only[List.size_toArray];omega) ⟨H,I.tok _,by rw[KS r];exact q⟩
  ·subst e'
   obtain⟨hz,hS,vs,r,m⟩:ah.length≤sizeLine∧(p==sysModules)=false∧ ∃vs,KV ah vs∧s.heap.DictOf (dQ X.prog X.w) p vs:=I.aB p _ hx
   have hlen:ah.length=vs.length:=Paired.length r
   exact wpAny_truthy_dict hS m (by omega) ⟨H,I.tok _,by rw[UB r];exact q⟩
 | _=>exact(show False from e).elim
theorem UC:bA X (binaryOp .Add) (fun x y H Q=> ∃i j,x= .str i∧y= .str j∧i.length+j.length≤sizeLine∧Q (.str (i++j)) H):=by
 intro pins s σ H x y v u Q I rx ry h
 obtain⟨i,j,rfl,rfl,hz,q⟩:=h
 obtain⟨t,rfl⟩:=rx
 obtain⟨t',rfl⟩:=ry
 exact add_str (fun t' tk=> ⟨.str (i++j),H,I.tok _,⟨_,rfl⟩,q⟩) hz
theorem vals1{x:V}{us:List Value}(r:Vals [x] us): ∃u,us=[u]∧RelV x u:=by
 cases r with
 | cons r1 r2=>cases r2;exact⟨_,rfl,r1⟩
theorem vals2{x y:V}{us:List Value}(r:Vals [x,y] us): ∃u w',us=[u,w']∧RelV x u∧RelV y w':=by
 cases r with
 | cons r1 r2=>
  cases r2 with
  | cons r3 r4=>cases r4;exact⟨_,_,rfl,r1,r3⟩
theorem UD:cE X (.builtin "abs") (fun xs H Q=> ∃i,xs=[.int i]∧Q (.int (if i<0 then -i else i)) H):=by
 intro pins s σ H xs us Q I r h
 obtain⟨i,rfl,q⟩:=h
 obtain⟨u,rfl,t,rfl⟩:=vals1 r
 exact call_abs_int fun u tk=> ⟨.int (if i<0 then -i else i),H,I.tok _,⟨_,rfl⟩,q⟩
theorem UE(hc:X.calm=true):cE X (.builtin "max") (fun xs H Q=> ∃i j,xs=[.int i, .int j]∧Q (.int (if j>i then j else i)) H):=by
 intro pins s σ H xs us Q I r h
 obtain⟨i,j,rfl,q⟩:=h
 obtain⟨u,w',rfl,⟨t,rfl⟩,⟨t',rfl⟩⟩:=vals2 r
 refine max_two_ints (I.ok.hd hc) fun h' tk k=> ⟨_,H,I.kept k, ?_,q⟩
 by_cases hj:j>i
 ·rw[if_pos hj,if_pos hj];exact⟨_,rfl⟩
 ·rw[if_neg hj,if_neg hj];exact⟨_,rfl⟩
theorem UG(hc:X.calm=true):cE X (.builtin "min") (fun xs H Q=> ∃i j,xs=[.int i, .int j]∧Q (.int (if j<i then j else i)) H):=by
 intro pins s σ H xs us Q I r h
 obtain⟨i,j,rfl,q⟩:=h
 obtain⟨u,w',rfl,⟨t,rfl⟩,⟨t',rfl⟩⟩:=vals2 r
 refine min_two_ints (I.ok.hd hc) fun h' tk k=> ⟨_,H,I.kept k, ?_,q⟩
 by_cases hj:j<i
 ·rw[if_pos hj,if_pos hj];exact⟨_,rfl⟩
 ·rw[if_neg hj,if_neg hj];exact⟨_,rfl⟩
theorem UH:cE X (.type "int") (fun xs H Q=> (∃i,xs=[.int i]∧Q (.int i) H)∨ ∃k,xs=[.bl k]∧Q (.int (if k then 1 else 0)) H):=by
 intro pins s σ H xs us Q I r h
 rcases h with⟨i,rfl,q⟩ | ⟨k,rfl,q⟩
 ·obtain⟨u,rfl,t,rfl⟩:=vals1 r
  exact call_int_int ⟨.int i,H,I,⟨_,rfl⟩,q⟩
 ·obtain⟨u,rfl,r1⟩:=vals1 r
  cases r1
  exact call_int_bool ⟨.int (if k then 1 else 0),H,I.tok _,⟨_,rfl⟩,q⟩
def KW(K:PySem.W.Frag)(x:V)(H:Hp)(n:Nat):Prop:=
 match x with
 | .str y=>y.length≤sizeLine∧n=y.length
 | .fh y=>y.size≤sizeLine∧n=y.size
 | .ref p=> (∃xs,ao K H p xs∧n=xs.length)∨ ∃xs,aI K H p xs∧n=xs.length
 | _=>False
theorem UI:cE X (.builtin "len") (fun xs H Q=> ∃x n,xs=[x]∧KW X.K x H n∧Q (.int n) H):=by
 intro pins s σ H xs us Q I r h
 obtain⟨x,n,rfl,e,q⟩:=h
 obtain⟨u,rfl,rx⟩:=vals1 r
 have hl:=mP
 have hs:sizeLine=16777216:=sizeLine_eq
 cases x with
 | str y=>
  obtain⟨t,rfl⟩:=rx
  obtain⟨hy,e'⟩:y.length≤sizeLine∧n=y.length:=e
  subst e'
  exact len_str (by omega) ⟨.int _,H,I.tok _,⟨_,rfl⟩,q⟩
 | fh y=>
  obtain⟨t,rfl⟩:=rx
  obtain⟨hy,e'⟩:y.size≤sizeLine∧n=y.size:=e
  subst e'
  exact PySem.W.len_bytes (by omega) ⟨.int _,H,I.tok _,⟨_,rfl⟩,q⟩
 | ref p=>
  cases rx
  have e':(∃xs,ao X.K H p xs∧n=xs.length)∨ ∃xs,aI X.K H p xs∧n=xs.length:=e
  rcases e' with⟨xs,hx,e'⟩ | ⟨xs,hx,e'⟩
  ·subst e'
   obtain⟨its,r',pl,hz⟩:=I.list hx
   have hlen:=r'.length
   exact Calls.call_len_list pl.isList (by simp only[List.size_toArray];omega) ⟨.int xs.length,H,I.tok _,⟨_,by simp only[List.size_toArray];rw[hlen]⟩,q⟩
  ·subst e'
   obtain⟨its,r',pl,hz⟩:=I.tuple hx
   have hlen:=r'.length
   exact len_tuple pl (by simp only[List.size_toArray];omega) ⟨.int xs.length,H,I.tok _,⟨_,by simp only[List.size_toArray];rw[hlen]⟩,q⟩
 | _=>exact(show False from e).elim
end
structure oG (h:Heap) (x dx C:Addr) (mA:Str→Option Value):Prop where
 obj:h.get? x=some (instObj C dx)
 ns:h.Ns1 dx mA
 ne:dx≠x
theorem UJ{h:Heap}{dx:Addr}{mA:Str→Option Value}(n:h.Ns1 dx mA): ∃od,h.get? dx=some od∧ ∀name,lookIn name od=some (mA name):=by
 obtain⟨o,es,ep,ho,hd,hk,_,hm⟩:=n
 refine⟨o,ho,fun name=> ?_⟩
 have e:=hm name
 unfold nsFind findBy at e
 rw[←Array.find?_toList] at e
 unfold lookIn
 rw[hd]
 dsimp only
 split
 ·rename_i y q
  rw[q] at e
  exact congrArg some e
 ·rename_i q
  rw[q] at e
  have a:es.toList.any (·.refKey)=false:=by
   rw[List.any_eq_false]
   intro y hy
   obtain⟨z,t,UK⟩:=hk y (Array.mem_toList_iff.mp hy)
   simp[DictEntry.refKey,UK]
  have a': ¬es.toList.any (·.refKey)=true:=by rw[a];exact Bool.false_ne_true
  rw[if_neg a']
  exact congrArg some e
theorem oG.look{h:Heap}{x dx C:Addr}{mA:Str→Option Value}(I:oG h x dx C mA): ∃od,InstAt h x (instObj C dx) C (some od)∧ ∀name,lookIn name od=some (mA name):=
 let ⟨od,ho,hl⟩:=UJ I.ns
 ⟨od,⟨I.obj,rfl,rfl,ho⟩,hl⟩
section
variable {prog:Program} {w:World} {A:Around} {E:Value→Shared→Prop} {s:Shared} {K:PySem.W.Frag} {x dx C f:Addr} {mA:Str→Option Value} {name:Str} {v:Value}
theorem get_map{expr:Bool}{Q:Value→Shared→Prop}(X:K.In s.heap)(I:oG s.heap x dx C mA)(hg:plainGet K C name=true)(hh:hasDictIn K C=true)
  (ha:PySem.W.findIn K (.ref C) name=some none) (hv:mA name=some v) (xU:handedIn v=true) (h:Q v {s with toks:=s.toks+1}):
  wpAny (model prog w) A (getAttr (.ref x) name expr) Q E s:=by
 obtain⟨od,J,hl⟩:=I.look
 exact PySem.W.get_value X J (plainGet_of hg).1 (PySem.W.findObj_own hh ha rfl (by rw[hl,hv])) xU h
theorem UL{pl:Sem Bool}{Q:Value×List Value→Shared→Prop}(X:K.In s.heap)(I:oG s.heap x dx C mA)(hg:plainGet K C name=true)
  (hf:PySem.W.findIn K (.ref C) name=some (some (.ref f))) (ht:isFn K (.ref f)=true) (hv:mA name=none) (h:Q (.ref f,[.ref x]) s):
  wpAny (model prog w) A (getMethod (.ref x) name pl) Q E s:=by
 obtain⟨od,J,hl⟩:=I.look
 exact PySem.W.method_fn X J (plainGet_of hg).1 (plainGet_of hg).2 hf (beq_iff_eq.mp ht) (by show(lookIn name od).map (·.isSome)=some false;rw[hl,hv];rfl) h
theorem UM{ns:List Str}{Q:Unit→Shared→Prop}(X:K.In s.heap)(I:oG s.heap x dx C mA)
  (hs:PySem.W.findIn K (.ref C) "__setattr__"=some (some (.builtin "object.__setattr__"))) (hp:plainOver K C=true) (ht:takerIn K C name=some none) (hh:hasDictIn K C=true)
  (hw:PySem.Within mA ns) (hsz:ns.length≤sizeLine)
  (h: ∀h',oG h' x dx C (fun y=>if y=name then some v else mA y)→Heap.SameBut dx s.heap h'→Q () {s with heap:=h',toks:=s.toks+2}):
  wpAny (model prog w) A (setAttr (.ref x) name v) Q E s:=by
 obtain⟨od,J,hl⟩:=I.look
 refine PySem.W.set_plain X J hs (PySem.W.osa_open (s:={s with toks:=s.toks+1}) (r:=none) X J hp ht fun b=> ?_)
 obtain⟨cd,hc,oA⟩:=PySem.W.any_some hh
 have hx:s.heap.get? x=some ⟨.ref C,some dx, .plain,#[]⟩:=I.obj
 refine wpAny_bind (wpAny_pure (wpAny_bind (wpAny_bind (wpAny_loadPart hx (wpAny_bind (PySem.W.Looks.here (s:={s with toks:=s.toks+1}) (PySem.W.looks_clsIn X hc) ?_))))))
 rw[oA]
 refine wpAny_pure (a:=some dx) (wpAny_bind (wpAny_pure (wpAny_bind ?_)))
 refine wpAny_nsSet1 (s:={s with toks:=s.toks+1}) I.ns fun h' uv KY=> ?_
 obtain⟨oD,esD,epD,UN,UO,ku⟩:=uv.count (PySem.Within.cons name v hw)
 refine wpAny_bind (wpAny_lookBehind UN (by rw[UO];exact pastItsLine_dict (Nat.le_trans ku (by rw[List.length_cons];omega))) ?_)
 exact wpAny_pure (h _ ⟨(KY.2 _ (Ne.symm I.ne)).trans I.obj,uv,I.ne⟩ KY)
theorem UP{R:Result→Shared→Prop}{vs:List Value}{kw:List (Str×Value)}(X:K.In s.heap)(hm:makesIn K C=true)
  (hi:PySem.W.findIn K (.ref C) "__init__"=some (some (.ref f))) (hf:PySem.W.typeIn K (.ref f)=some (.type "function"))
  (h:codeAny (model prog w) (A.under (.builtin "type.__call__" ⟨.ref C::vs,kw⟩)) (.call (.ref f) ⟨.ref (s.heap.objs.size+1)::vs,kw⟩) (PySem.W.InitBack (s.heap.objs.size+1) R)
   {s with heap:=(s.heap.push emptyDict).push (instObj C s.heap.objs.size)}):
  codeAny (model prog w) A (.call (.ref C) ⟨vs,kw⟩) R s:=by
 obtain⟨hh,g,d,t,os⟩:=s
 exact PySem.W.make_core (PySem.W.makes_of X hm) (PySem.W.looks_findIn X hi) (fun self=>PySem.W.bind_fn X self hf) (.inl rfl) h
end
def cO(f:Str)(v:V):List (Str×V)→List (Str×V)
 | []=> [(f,v)]
 | (g,x)::r=>if g=f then (g,v)::r else (g,x)::cO f v r
theorem KZ(f g:Str)(v:V): ∀fs:List (Str×V),(cO f v fs).lookup g=if g=f then some v else fs.lookup g
 | []=>by
  show List.lookup g [(f,v)]=_
  by_cases h:g=f
  ·have hb:(g==f)=true:=beq_iff_eq.mpr h
   simp only[List.lookup,hb,if_pos h]
  ·have hb:(g==f)=false:=beq_eq_false_iff_ne.mpr h
   simp only[List.lookup,hb,if_neg h]
 | (k,x)::r=>by
  have ih:=KZ f g v r
  rw[show cO f v ((k,x)::r)=(if k=f then (k,v)::r else (k,x)::cO f v r) from rfl]
  by_cases hk:k=f
  ·rw[if_pos hk]
   by_cases h:g=k
   ·have hb:(g==k)=true:=beq_iff_eq.mpr h
    simp only[List.lookup,hb,if_pos (h.trans hk)]
   ·have hb:(g==k)=false:=beq_eq_false_iff_ne.mpr h
    simp only[List.lookup,hb,if_neg (fun e:g=f=>h (e.trans hk.symm))]
  ·rw[if_neg hk]
   by_cases h:g=k
   ·have hb:(g==k)=true:=beq_iff_eq.mpr h
    simp only[List.lookup,hb,if_neg (fun e:g=f=>hk (h.symm.trans e))]
   ·have hb:(g==k)=false:=beq_eq_false_iff_ne.mpr h
    simp only[List.lookup,hb]
    exact ih
theorem AX(f:Str)(v:V): ∀fs:List (Str×V),f∈ (cO f v fs).map (·.1)∧ ∀g,g∈fs.map (·.1)→g∈ (cO f v fs).map (·.1)
 | []=> ⟨by simp[cO],fun g h=>by simp at h⟩
 | (k,x)::r=>by
  obtain⟨i1,i2⟩:=AX f v r
  rw[show cO f v ((k,x)::r)=(if k=f then (k,v)::r else (k,x)::cO f v r) from rfl]
  by_cases hk:k=f
  ·rw[if_pos hk]
   subst hk
   exact⟨by simp,fun g h=>by simpa using h⟩
  ·rw[if_neg hk]
   refine⟨?_,fun g h=> ?_⟩
   ·rw[List.map_cons]
    exact List.mem_cons_of_mem _ i1
   ·rw[List.map_cons] at h⊢
    rcases List.mem_cons.mp h with e | e
    ·exact List.mem_cons.mpr (.inl e)
    ·exact List.mem_cons_of_mem _ (i2 g e)
theorem K0(f:Str)(v:V): ∀fs:List (Str×V),(cO f v fs).length≤fs.length+1
 | []=>by simp[cO]
 | (k,x)::r=>by
  have ih:=K0 f v r
  rw[show cO f v ((k,x)::r)=(if k=f then (k,v)::r else (k,x)::cO f v r) from rfl]
  by_cases hk:k=f
  ·rw[if_pos hk,List.length_cons,List.length_cons];omega
  ·rw[if_neg hk,List.length_cons,List.length_cons];omega
theorem eN.some_of{v:V}{o:Option Value}(r:eN (some v) o): ∃u,o=some u∧RelV v u:=by
 cases o with
 | none=>exact(show False from r).elim
 | some u=>exact⟨u,rfl,r⟩
theorem eN.none_of{o:Option Value}(r:eN none o):o=none:=by
 cases o with
 | none=>rfl
 | some u=>exact(show False from r).elim
theorem UQ{v:V}{u:Value}(r:RelV v u):handedIn u=true:=by
 cases v with
 | aw=>cases (show u=Value.none from r);rfl
 | bl b=>cases (show u=Value.bool b from r);rfl
 | int i=>obtain⟨t,e⟩:=(show ∃t,u=Value.int i t from r);cases e;rfl
 | str x=>obtain⟨t,e⟩:=(show ∃t,u=Value.str x t from r);cases e;rfl
 | fh b=>obtain⟨t,e⟩:=(show ∃t,u=Value.bytes b t from r);cases e;rfl
 | mK b=>obtain⟨t,e⟩:=(show ∃t,u=Value.float b t from r);cases e;rfl
 | ref a=>cases (show u=Value.ref a from r);rfl
 | ty n=>cases (show u=Value.type n from r);rfl
section
variable {P:Program} {w:World} {H H':Hp} {h h':Heap} {a C dx:Addr} {fs uh:List (Str×V)}
theorem xV(aB:bW P w H h)(e:H a=some (.ins C dx fs)): ∃mA,oG h a dx C mA∧(∀f,eN (fs.lookup f) (mA f))∧PySem.Within mA (fs.map (·.1))∧fs.length≤1000∧H dx=some (.own a):=by
 obtain⟨d,z,ne,ob,mA,n,r,q⟩:=(show cx P w H h a (.ins C dx fs) from aB a _ e)
 exact⟨mA,⟨ob,n,ne⟩,r,q,z,d⟩
end
structure i_ (K:PySem.W.Frag) (C:Addr):Prop where
 pg:plainGet K C Str.empty=true
 hd:hasDictIn K C=true
 po:plainOver K C=true
 sa:PySem.W.findIn K (.ref C) "__setattr__"=some (some (.builtin "object.__setattr__"))
theorem i_.get{K:PySem.W.Frag}{C:Addr}(c:i_ K C)(f:Str):plainGet K C f=true:=c.pg
def kx(K:PySem.W.Frag)(C:Addr)(f:Str):Prop:=PySem.W.findIn K (.ref C) f=some none
theorem kx.UR{K:PySem.W.Frag}{C:Addr}{f:Str}(n:kx K C f):takerIn K C f=some none:=by
 unfold takerIn
 rw[show PySem.W.findIn K (.ref C) f=some none from n]
 rfl
structure Meth (K:PySem.W.Frag) (C:Addr) (m:Str) (f:Addr):Prop where
 at_:PySem.W.findIn K (.ref C) m=some (some (.ref f))
 fn:isFn K (.ref f)=true
 kp:keepIn K (.ref f)=true
section
variable {X:Cx} {pins:List (Addr×Obj)} {σ:St} {H:Hp} {s:Shared} {a C dx:Addr} {fs:List (Str×V)} {f:Str} {v:V} {A:Around} {E:Value→Shared→Prop}
theorem US{b:Bool}{Q:Value→Shared→Prop}(I:Inv X pins σ H s)(e:H a=some (.ins C dx fs))(c:i_ X.K C)(n:kx X.K C f)(l:fs.lookup f=some v)
  (h: ∀u s',Inv X pins σ H s'→RelV v u→Q u s'):wpAny (model X.prog X.w) A (getAttr (.ref a) f b) Q E s:=by
 obtain⟨mA,O,r,_,_,_⟩:=xV I.aB e
 obtain⟨u,hu,ru⟩:=eN.some_of (v:=v) (o:=mA f) (by rw[←l];exact r f)
 exact get_map I.cT O (c.get f) c.hd n hu (UQ ru) (h u _ (I.tok _) ru)
theorem K1{m:Str}{g:Addr}{pl:Sem Bool}{Q:Value×List Value→Shared→Prop}(I:Inv X pins σ H s)(e:H a=some (.ins C dx fs))(c:i_ X.K C)(k:Meth X.K C m g)(l:fs.lookup m=none)
  (h:Q (.ref g,[.ref a]) s):wpAny (model X.prog X.w) A (getMethod (.ref a) m pl) Q E s:=by
 obtain⟨mA,O,r,_,_,_⟩:=xV I.aB e
 have hn:mA m=none:=eN.none_of (by rw[←l];exact r m)
 exact UL I.cT O (c.get m) k.at_ k.fn hn h
theorem UT{y:V}{u:Value}{Q:Unit→Shared→Prop}(I:Inv X pins σ H s)(e:H a=some (.ins C dx fs))(c:i_ X.K C)(n:kx X.K C f)(hl:fs.length<1000)(ry:RelV y u)
  (h: ∀s',Inv X pins σ (upd H a (.ins C dx (cO f y fs))) s'→Q () s'):wpAny (model X.prog X.w) A (setAttr (.ref a) f u) Q E s:=by
 obtain⟨mA,O,r,wi,_,ho⟩:=xV I.aB e
 have hz:(fs.map (·.1)).length≤sizeLine:=by rw[List.length_map,sizeLine_eq];omega
 refine UM I.cT O c.sa c.po n.UR c.hd wi hz fun h' O' sb=>h _ ?_
 have hd: ∃o,h'.get? dx=some o:=let ⟨o,_,_,e',_⟩:=O'.ns;⟨o,e'⟩
 refine I.write (x:=a) (e:=dx) (by rw[e];exact True.intro) (.inr ho) (fun b q hb z=> (sb.2 b hb).trans z) hd ?_
 refine⟨by rw[aD O.ne];exact ho, ?_,O.ne,O'.obj,_,O'.ns,fun g=> ?_,fun g hg=> ?_⟩
 ·have:=K0 f y fs;omega
 ·show eN ((cO f y fs).lookup g) (if g=f then some u else mA g)
  rw[KZ]
  by_cases q:g=f
  ·rw[if_pos q,if_pos q];exact ry
  ·rw[if_neg q,if_neg q];exact r g
 ·by_cases q:g=f
  ·rw[q];exact(AX f y fs).1
  ·refine(AX f y fs).2 g (wi g fun z=>hg ?_)
   show(if g=f then some u else mA g)=none
   rw[if_neg q];exact z
theorem Inv.made(I:Inv X pins σ H s):Inv X pins σ (upd (upd H s.heap.objs.size (.own (s.heap.objs.size+1))) (s.heap.objs.size+1) (.ins C s.heap.objs.size []))
  {s with heap:=(s.heap.push emptyDict).push (instObj C s.heap.objs.size)}:=by
 have e1:(s.heap.push emptyDict).get? s.heap.objs.size=some emptyDict:=Heap.get?_push_size s.heap rfl
 have e2:((s.heap.push emptyDict).push (instObj C s.heap.objs.size)).get? (s.heap.objs.size+1)=some (instObj C s.heap.objs.size):=by
  have:=Heap.get?_push_size (s.heap.push emptyDict) (o:=instObj C s.heap.objs.size) rfl
  rwa [Heap.size_push] at this
 have e3:(s.heap.push emptyDict).Ns s.heap.objs.size (fun _=>none):=⟨emptyDict,#[],_,e1,rfl,(fun e he=>absurd he (by simp)),fun _=>rfl⟩
 have I1:=I.laid (a:=s.heap.objs.size) (o:= .own (s.heap.objs.size+1)) (h':=s.heap.push emptyDict) (t':=s.toks) (fun b u q=>Heap.get?_push_of_some _ q) (Nat.le_refl _) ⟨_,e1⟩
 refine I1.laid (a:=s.heap.objs.size+1) (o:= .ins C s.heap.objs.size []) (t':=s.toks) (fun b u q=>Heap.get?_push_of_some _ q) (Nat.le_of_eq (Heap.size_push _ _)) ?_
 have ne:s.heap.objs.size≠s.heap.objs.size+1:=Nat.ne_of_lt (Nat.lt_succ_self _)
 refine⟨by rw[aD ne,av],Nat.zero_le _,ne,e2,fun _=>none,(Heap.Ns1.of_empty e3).at fun o q=>Heap.get?_push_of_some _ q,fun _=>True.intro,fun y hy=>absurd rfl hy⟩
theorem UU{prog:Program}{w:World}{env:Env}{e:Expr}{f:Str}{pos:Pos}{s:Shared}{Q:Value→Shared→Prop}(hb:attributeBase e f env (eval e env)=eval e env)
  (h:wpAny (model prog w) A (eval e env) (fun o s₁=>wpAny (model prog w) A (getAttr o f true) Q E s₁) E s):wpAny (model prog w) A (eval (.Attribute e f pos) env) Q E s:=
 Attribute_any_ h (by rw[arm_eval_Attribute,hb])
end
def xW(K:PySem.W.Frag)(ta:TE)(f:Str):TE:=fun σ H Q=>ta σ H fun x H1=> ∃a C dx fs v,x= .ref a∧H1 a=some (.ins C dx fs)∧i_ K C∧kx K C f∧fs.lookup f=some v∧Q v H1
def AY(K:PySem.W.Frag)(ta tv:TE)(f:Str):TS:=fun D σ H=>tv σ H fun y H1=>ta σ H1 fun x H2=> ∃a C dx fs,x= .ref a∧H2 a=some (.ins C dx fs)∧i_ K C∧kx K C f∧fs.length<1000∧
 D.nx σ (upd H2 a (.ins C dx (cO f y fs)))
section
variable {X:Cx} {o e value:Expr} {f:Str} {pos pos' AZ:Pos} {ta tv:TE}
theorem UW(he:PE X e ta)(hb:attributeBase e f X.env (eval e X.env)=eval e X.env):PE X (.Attribute e f pos) (xW X.K ta f):=by
 intro pins s σ H Q I h
 refine UU hb (aN (he pins s σ H _ I h) fun u s1 ⟨x,H1,I1,rx,a,C,dx,fs,v,ex,ea,c,n,l,q⟩=> ?_)
 subst ex
 obtain rfl:u=Value.ref a:=rx
 exact US I1 ea c n l fun u' s2 I2 ru=> ⟨v,H1,I2,ru,q⟩
theorem UX(ha:PE X o ta)(hv:PE X value tv)(hs:swapsWith value (some (.Attribute o f pos')) pos.line X.env=pure false):PS X (.Assign [.Attribute o f pos'] value pos) (AY X.K ta tv f):=by
 intro pins s σ H D I h
 refine plainObj_wpAny_Assign_Attribute (aN (hv pins s σ H _ I h) fun u s1 ⟨y,H1,I1,ry,q⟩=>aN (ha pins s1 σ H1 _ I1 q) fun ov s2 ⟨x,H2,I2,rx,a,C,dx,fs,ex,ea,c,n,l,q2⟩=> ?_) hs
 subst ex
 obtain rfl:ov=Value.ref a:=rx
 exact UT I2 ea c n l ry fun s3 I3=> ⟨σ,_,I3,q2⟩
end
section
variable {X:Cx} {pins:List (Addr×Obj)} {σ:St} {H:Hp} {s:Shared} {A:Around} {E:Value→Shared→Prop} {Q:Value→Shared→Prop} {c:Value} {b:Bool}
inductive iM (K:PySem.W.Frag) (H:Hp):V→Value→Prop where
 | aw:iM K H .aw (.type "NoneType")
 | bl (x:Bool):iM K H (.bl x) (.type "bool")
 | int (i:Int):iM K H (.int i) (.type "int")
 | str (x:Str):iM K H (.str x) (.type "str")
 | mK (x:UInt64):iM K H (.mK x) (.type "float")
 | lst {a:Addr} {xs:List V} (e:H a=some (.lst xs)):iM K H (.ref a) (.type "list")
 | bL {a:Addr} {o:Obj} {xs:List V} (e:H a=some (.bL o (.lst xs))):iM K H (.ref a) (.type "list")
 | tup {a:Addr} {xs:List V} (e:H a=some (.tup xs)):iM K H (.ref a) (.type "tuple")
 | dK {a:Addr} {ah:List (Key×V)} (e:H a=some (.dK ah)):iM K H (.ref a) (.type "dict")
 | dT {a:Addr} {ah:List (List Key×V)} (e:H a=some (.dT ah)):iM K H (.ref a) (.type "dict")
 | ins {a C dx:Addr} {fs:List (Str×V)} (e:H a=some (.ins C dx fs)) (cl:i_ K C) (ha:PySem.W.findIn K (.ref C) "__class__"=some (some (.builtin "object.__class__")))
   (hn:PySem.W.specialIn K (.builtin "object.__class__") "__get__"=some (some (.builtin "getset_descriptor.__get__"))) (mQ:PySem.W.takesIn K (.builtin "object.__class__")=some true)
   (hm:PySem.W.mroIn K C (.type "object")=some true):iM K H (.ref a) (.ref C)
theorem ky{x:V}{u t:Value}(I:Inv X pins σ H s)(rx:RelV x u)(ty:iM X.K H x t)(e:kitOne X.K t c=some b)(h: ∀tk,Q (.bool b) {s with toks:=tk}):
  wpAny (model X.prog X.w) A (call (.builtin "isinstance") [u,c]) Q E s:=by
 cases ty with
 | aw=>cases (show u=Value.none from rx);exact kia_one PySem.W.kitx_none I.cT True.intro e (fun z=>nomatch z) h
 | bl y=>cases (show u=Value.bool y from rx);exact kia_one PySem.W.kitx_bool I.cT True.intro e (fun z=>nomatch z) h
 | int i=>obtain⟨t,q⟩:=(show ∃t,u=Value.int i t from rx);cases q;exact kia_one PySem.W.kitx_int I.cT True.intro e (fun z=>nomatch z) h
 | str y=>obtain⟨t,q⟩:=(show ∃t,u=Value.str y t from rx);cases q;exact kia_one PySem.W.kitx_str I.cT True.intro e (fun z=>nomatch z) h
 | mK y=>obtain⟨t,q⟩:=(show ∃t,u=Value.float y t from rx);cases q;exact kia_one PySem.W.kitx_float I.cT True.intro e (fun z=>nomatch z) h
 | @lst a xs ea=>
  cases (show u=Value.ref a from rx)
  obtain⟨_,_,n,_,h1⟩:=(show cx X.prog X.w H s.heap a (.lst xs) from I.aB a _ ea)
  exact kia_one kitx_list I.cT ⟨_,h1,rfl⟩ e (fun z=>nomatch z) h
 | @bL a ob xs ea=>
  cases (show u=Value.ref a from rx)
  obtain⟨_,_,_,n,_,h1⟩:=(show cx X.prog X.w H s.heap a (.bL ob (.lst xs)) from I.aB a _ ea)
  exact kia_one kitx_list I.cT ⟨_,h1,rfl⟩ e (fun z=>nomatch z) h
 | @tup a xs ea=>
  cases (show u=Value.ref a from rx)
  obtain⟨_,_,_,p⟩:=(show cx X.prog X.w H s.heap a (.tup xs) from I.aB a _ ea)
  obtain⟨o,h1,h2,_⟩:=p
  exact kia_one PySem.W.kitx_tuple I.cT ⟨o,h1,h2⟩ e (fun z=>nomatch z) h
 | @dK a ah ea=>
  cases (show u=Value.ref a from rx)
  obtain⟨_,_,vs,_,p⟩:=(show cx X.prog X.w H s.heap a (.dK ah) from I.aB a _ ea)
  obtain⟨o,es,ep,h1,h2,_⟩:=p
  exact kia_one kitx_dict I.cT ⟨o,h1,h2.1⟩ e (fun z=>nomatch z) h
 | @dT a ah ea=>
  cases (show u=Value.ref a from rx)
  obtain⟨_,_,xs,_,o,es,ep,h1,h2,_⟩:=(show cx X.prog X.w H s.heap a (.dT ah) from I.aB a _ ea)
  exact kia_one kitx_dict I.cT ⟨o,h1,h2.1⟩ e (fun z=>nomatch z) h
 | @ins a C dx fs ea cl ha hn mQ hm=>
  cases (show u=Value.ref a from rx)
  obtain⟨mA,O,_⟩:=xV I.aB ea
  obtain⟨od,J,_⟩:=O.look
  exact kia_one (PySem.W.kitx_own (cl.get _) cl.hd ha hn mQ hm) I.cT J e (fun z=>nomatch z) h
end
structure dh (k:Nat) (A:Around):Prop where
 hd:A.handled=none
 dp:A.depth+3*k+5<recursionLimit
 un:A.units+16*k+200<cLine
theorem dh.mono{j k:Nat}{A:Around}(r:dh k A)(h:j≤k):dh j A:=⟨r.hd,by have:=r.dp;omega,by have:=r.un;omega⟩
theorem dh.deeper{k:Nat}{A:Around}(r:dh (k+1) A)(env:Env):dh k (A.deeper env):=
 ⟨r.hd,by have:=r.dp;show A.depth+1+3*k+5<_;omega,by have:=r.un;show A.units+3+16*k+200<_;omega⟩
theorem UY{A:Around}{C:Addr}{us:List Value}{kw:List (Str×Value)}:(A.under (.builtin "type.__call__" ⟨.ref C::us,kw⟩)).depth=A.depth+1:=by
 first | rfl | simp[Around.under,Code.weight,Code.isCreation,Code.isGuard,Code.isCaller,Code.frames,Code.isFrame,guardIds]
theorem UZ{A:Around}{C:Addr}{us:List Value}{kw:List (Str×Value)}:(A.under (.builtin "type.__call__" ⟨.ref C::us,kw⟩)).units=A.units+1:=by
 first | rfl | simp[Around.under,Code.cUnits,Code.frames,Code.isFrame]
theorem dh.make{k:Nat}{A:Around}(r:dh (k+1) A)(C:Addr)(us:List Value)(kw:List (Str×Value)):dh k (A.under (.builtin "type.__call__" ⟨.ref C::us,kw⟩)):=
 ⟨r.hd,by have:=r.dp;rw[UY];omega,by have:=r.un;rw[UZ];omega⟩
theorem dh.depth{k:Nat}{A:Around}(r:dh k A):A.depth<recursionLimit:=by have:=r.dp;omega
theorem dh.units{k:Nat}{A:Around}(r:dh k A):A.units+64<cLine:=by have:=r.un;omega
def f_:TA:=fun _ H Q=>Q [] H
def dt(ta:TE)(tr:TA):TA:=fun σ H Q=>ta σ H fun x H1=>tr σ H1 fun xs H2=>Q (x::xs) H2
section
variable {X:Cx} {e:Expr} {es:List Expr} {te:TE} {t:TA} {pos:Pos}
theorem rS:PA X [] f_:=fun _ _ _ _ H Q I h=>Calls.spliced_nil ⟨[],H,I, .nil,h⟩
theorem kz(ha:PE X e te)(hr:PA X es t)(hs:starEach (e::es) X.env=(false,eval e X.env)::starEach es X.env:=by rfl):PA X (e::es) (dt te t):=by
 intro pos pins s σ H Q I h
 rw[hs]
 show wpAny _ _ (spliced ((false,eval e X.env)::backTo pos (starEach es X.env))) _ _ s
 refine Calls.spliced_cons (aN (ha pins s σ H _ I h) fun u s1 ⟨x,H1,I1,r1,q1⟩=> ?_)
 exact aN (hr pos pins s1 σ H1 _ I1 q1) fun us s2 ⟨xs,H2,I2,r2,q2⟩=> ⟨x::xs,H2,I2, .cons r1 r2,q2⟩
def K2(t:TA):TE:=fun σ H Q=>t σ H fun xs H1=>xs.length≤sizeLine∧ ∀p,H1 p=none→Q (.ref p) (upd H1 p (.tup xs))
def K3(t:TA):TE:=fun σ H Q=>t σ H fun xs H1=>xs.length≤sizeLine∧ ∀p,H1 p=none→Q (.ref p) (upd H1 p (.lst xs))
theorem U0{x1}(h:PA X es t):PE X (.Tuple es x1 pos) (K2 t):=by
 intro pins s σ H Q I hq
 refine wpAny_Tuple_spliced (aN (h pos pins s σ H _ I hq) fun us s1 ⟨xs,H1,I1,r,z,q⟩=> ⟨by rw[←r.length];exact z, ?_⟩)
 have hf:H1 s1.heap.objs.size=none:=I1.aB.fresh (Nat.le_refl _)
 refine⟨.ref s1.heap.objs.size,upd H1 s1.heap.objs.size (.tup xs),I1.laid (t':=s1.toks) (fun b u e=>Heap.get?_push_of_some _ e) (Nat.le_refl _) ?_,rfl,q _ hf⟩
 exact⟨z,us,r,⟨_,Heap.get?_push_size _ rfl,rfl,_,rfl⟩⟩
theorem U1(h:PA X es t):PE X (.List es pos) (K3 t):=by
 intro pins s σ H Q I hq
 refine wpAny_List_spliced (aN (h pos pins s σ H _ I hq) fun us s1 ⟨xs,H1,I1,r,z,q⟩=> ⟨by rw[←r.length];exact z, ?_⟩)
 have hf:H1 s1.heap.objs.size=none:=I1.aB.fresh (Nat.le_refl _)
 refine⟨.ref s1.heap.objs.size,upd H1 s1.heap.objs.size (.lst xs),I1.laid (t':=s1.toks) (fun b u e=>Heap.get?_push_of_some _ e) (Nat.le_refl _) ?_,rfl,q _ hf⟩
 exact⟨z,us,0,r,Heap.get?_push_size _ rfl⟩
end
abbrev Sp:=List V→Hp→VK→XK→Prop
abbrev aO:=List Env→Hp→Shared→XK→Value→Shared→Prop
structure kD (P:Program) (w:World) (K:PySem.W.Frag) (mg:Str→Option Value) (base:Heap) (A:Around) (outer:List Env) (s:Shared) (H:Hp):Prop where
 frames:A.frames=some outer
 mod:Mod K mg base
 bs: ∀b o,base.get? b=some o→s.heap.get? b=some o∧H b=none
 mL:base.objs.size≤s.heap.objs.size
 iH:s.heap.FunFrames base outer
 oy: ∀b∈bD outer,H b=none
 aB:bW P w H s.heap
 bare:AllBare s.gens
def CE(outer:List Env)(P:Program)(w:World)(H:Hp)(s:Shared)(Q:VK)(u:Value)(s':Shared):Prop:=
 ∃v H',s'.os=s.os∧AllBare s'.gens∧Un (bD outer) [] H H' s.heap s'.heap∧bW P w H' s'.heap∧RelV v u∧Q v H'
def CR(CX:aO)(outer:List Env)(P:Program)(w:World)(H:Hp)(s:Shared)(Q:VK)(E:XK)(r:Result)(s':Shared):Prop:=
 match r with
 | .ok (.ret u)=>CE outer P w H s Q u s'
 | .ok _=>False
 | .error e=>CX outer H s E e s'
structure cB (P:Program) (w:World) (K:PySem.W.Frag) (mg:Str→Option Value) (base:Heap) (CX:aO) (k:Nat) (f:Addr) (fd:FuncData) (ps:List Str) (sp:Sp):Prop where
 len: ∀vs H Q E,sp vs H Q E→vs.length=ps.length
 run: ∀(A:Around) (outer:List Env) (s:Shared) (H:Hp) (args:Args) (us:List Value) (vs:List V) (Q:VK) (E:XK),dh k A→kD P w K mg base A outer s H→BindsTo s fd args (ps.zip us)→Vals vs us→sp vs H Q E→
  codeAny (model P w) A (.call (.ref f) args) (CR CX outer P w H s Q E) s
theorem cB.mono{P:Program}{w:World}{K:PySem.W.Frag}{mg:Str→Option Value}{base:Heap}{CX:aO}{j k:Nat}{f:Addr}{fd:FuncData}{ps:List Str}{sp:Sp}(F:cB P w K mg base CX j f fd ps sp)(h:j≤k):
  cB P w K mg base CX k f fd ps sp:=⟨F.len,fun A outer s H args us vs Q E hr=>F.run A outer s H args us vs Q E (hr.mono h)⟩
theorem kD.make{P:Program}{w:World}{K:PySem.W.Frag}{mg:Str→Option Value}{base:Heap}{A:Around}{outer:List Env}{s:Shared}{H:Hp}(e:kD P w K mg base A outer s H)(C:Addr)(us:List Value)(kw:List (Str×Value)):
  kD P w K mg base (A.under (.builtin "type.__call__" ⟨.ref C::us,kw⟩)) outer s H:=⟨by first | exact e.frames | (simpa[Around.under,Code.envs,Code.isFrame,pushEnvs] using e.frames),e.mod,e.bs,e.mL,e.iH,e.oy,e.aB,e.bare⟩
section
variable {X:Cx} {pins:List (Addr×Obj)} {σ:St} {H:Hp} {s s':Shared}
theorem Inv.A0(I:Inv X pins σ H s):kD X.prog X.w X.K X.mg X.base X.A X.stack s H:=
 ⟨I.ok.frames,I.ok.mod,I.bs,Nat.le_trans I.ok.mL I.sz,I.stack,I.xx,I.aB,I.bare⟩
theorem Inv.after{Q:VK}{u:Value}(I:Inv X pins σ H s)(h:CE X.stack X.prog X.w H s Q u s'):EP X pins σ Q u s':=by
 obtain⟨v,H',os,bare,un,aB,r,q⟩:=h
 obtain⟨hh,g,d,t,xX⟩:=s'
 obtain rfl:xX=s.os:=os
 exact⟨v,H',I.call (h':=hh) (g':=g) (d':=d) (t':=t) (ch:=[]) un aB bare (fun b z=>absurd z (by simp)),r,q⟩
end
def A4(sp:Sp)(fi:List V)(E:XK)(t:TA):TE:=fun σ H Q=>t σ H fun vs H1=>sp (vs++fi) H1 Q E
def rV(C:Addr)(m:Str)(sp:Sp)(fi:List V)(E:XK)(ta:TE)(t:TA):TE:=fun σ H Q=>ta σ H fun x H1=> ∃a dx fs,x= .ref a∧H1 a=some (.ins C dx fs)∧fs.lookup m=none∧
 t σ H1 fun vs H2=>sp (x::(vs++fi)) H2 Q E
def A5(C:Addr)(sp:Sp)(fi:List V)(E:XK)(t:TA):TE:=fun σ H Q=>t σ H fun vs H1=> ∀x dx,H1 x=none→H1 dx=none→dx≠x→
 sp (.ref x::(vs++fi)) (upd (upd H1 dx (.own x)) x (.ins C dx [])) (fun v H2=>v= .aw∧Q (.ref x) H2) E
def Binds(K:PySem.W.Frag)(fd:FuncData)(ps:List Str)(ds:List Value):Prop:=
 ∀(s:Shared) (us:List Value),K.In s.heap→(us++ds).length=ps.length→BindsTo s fd ⟨us,[]⟩ (ps.zip (us++ds))
theorem Binds.all{K:PySem.W.Frag}{fd:FuncData}{ps:List Str}(h: ∀us:List Value,us.length=ps.length→bindArgs fd ⟨us,[]⟩=pure (ps.zip us)):Binds K fd ps []:=fun s us _ hl=>by
 rw[List.append_nil] at hl⊢
 exact .of_eq (h us hl)
def Passes(CX:aO)(X:Cx)(E:XK):Prop:= ∀(pins:List (Addr×Obj)) (σ:St) (H:Hp) (s:Shared) (e:Value) (s':Shared),Inv X pins σ H s→CX X.stack H s E e s'→X.xe e s'
section
variable {X:Cx} {CX:aO} {k:Nat} {f C:Addr} {fd:FuncData} {ps:List Str} {sp:Sp} {fi:List V} {ds:List Value} {E:XK} {x m:Str} {p pos apos:Pos} {e o:Expr} {es:List Expr} {ta:TE} {t:TA}
theorem A6{pins:List (Addr×Obj)}{σ:St}{H:Hp}{s:Shared}{Q:VK}{us:List Value}{vs:List V}(F:cB X.prog X.w X.K X.mg X.base CX k f fd ps sp)(hr:dh k X.A)(hb:Binds X.K fd ps ds)(hd:Vals fi ds)(hx:Passes CX X E)
  (I:Inv X pins σ H s) (r:Vals vs us) (h:sp (vs++fi) H Q E):wpAny (model X.prog X.w) X.A (call (.ref f) us) (EP X pins σ Q) X.xe s:=by
 have r2:Vals (vs++fi) (us++ds):=r.append hd
 have hl:(us++ds).length=ps.length:=by rw[←r2.length];exact F.len _ _ _ _ h
 refine wpAny_call (codeAny_mono (F.run X.A X.stack s H ⟨us,[]⟩ (us++ds) (vs++fi) Q E hr I.A0 (hb s us I.cT hl) r2 h) fun r s' hq=> ?_)
 cases r with
 | error e=>exact hx pins σ H s e s' I hq
 | ok fl=>
  cases fl with
  | ret u=>exact I.after hq
  | next=>exact False.elim hq
  | brk=>exact False.elim hq
  | cont=>exact False.elim hq
theorem U2(F:cB X.prog X.w X.K X.mg X.base CX k f fd ps sp)(hr:dh k X.A)(hg:Gl X x)(hm:X.mg x=some (.ref f))(hk:keepIn X.K (.ref f)=true)(hb:Binds X.K fd ps ds)(hd:Vals fi ds)(hx:Passes CX X E)
  (ha:PA X (e::es) t) (kE:(x==("__debug__":Str))=false:=by decide) (he:starEach (e::es) X.env=(false,eval e X.env)::starEach es X.env:=by rfl) (fj:(backTo pos (starEach es X.env)).any (·.1)=false:=by rfl):
  PE X (.Call (.Name x p) (e::es) [] pos) (A4 sp fi E t):=by
 intro pins s σ H Q I h
 refine wpAny_Call_Name_kw (uk I hg hm ?_ kE)
 refine callWith_K (h₀:=X.base) I.ok.mod.ou hk (aN (ha pos pins s σ H _ I h) fun us s1 ⟨vs,H1,I1,r,q⟩=> ⟨I1.cT, ?_⟩) he fj
 exact A6 F hr hb hd hx I1 r q
structure Mk (K:PySem.W.Frag) (C f:Addr):Prop where
 makes:makesIn K C=true
 init:PySem.W.findIn K (.ref C) "__init__"=some (some (.ref f))
 fn:isFn K (.ref f)=true
 kp:keepIn K (.ref C)=true
theorem U3{pins:List (Addr×Obj)}{σ:St}{H:Hp}{s:Shared}{Q:VK}{us:List Value}{vs:List V}(M:Mk X.K C f)(F:cB X.prog X.w X.K X.mg X.base CX k f fd ps sp)(hr:dh (k+1) X.A)(hb:Binds X.K fd ps ds)(hd:Vals fi ds)
  (hx:Passes CX X E) (I:Inv X pins σ H s) (r:Vals vs us)
  (h: ∀x dx,H x=none→H dx=none→dx≠x→sp (.ref x::(vs++fi)) (upd (upd H dx (.own x)) x (.ins C dx [])) (fun v H2=>v= .aw∧Q (.ref x) H2) E):
  wpAny (model X.prog X.w) X.A (call (.ref C) us) (EP X pins σ Q) X.xe s:=by
 have hq:=h (s.heap.objs.size+1) s.heap.objs.size (I.aB.fresh (Nat.le_succ _)) (I.aB.fresh (Nat.le_refl _)) (Nat.ne_of_lt (Nat.lt_succ_self _))
 have I2:=Inv.made (C:=C) I
 have r2:Vals (V.ref (s.heap.objs.size+1)::(vs++fi)) (Value.ref (s.heap.objs.size+1)::(us++ds)):= .cons rfl (r.append hd)
 have hl:(Value.ref (s.heap.objs.size+1)::us++ds).length=ps.length:=by
  have e:=r2.length
  rw[F.len _ _ _ _ hq] at e
  exact e.symm
 refine wpAny_call (UP (f:=f) I.cT M.makes M.init (beq_iff_eq.mp M.fn) (codeAny_mono (F.run _ X.stack _ _ ⟨Value.ref (s.heap.objs.size+1)::us,[]⟩ (Value.ref (s.heap.objs.size+1)::(us++ds)) _ _ E (hr.make C us [])
  (I2.A0.make C us []) (hb _ (Value.ref (s.heap.objs.size+1)::us) I2.cT hl) r2 hq) fun r s' oH=> ?_))
 cases r with
 | error e=>exact hx pins σ _ _ e s' I2 oH
 | ok fl=>
  cases fl with
  | ret u=>
   obtain⟨v,H',I3,rv,ev,q3⟩:=I2.after oH
   subst ev
   exact⟨rv,⟨V.ref (s.heap.objs.size+1),H',I3,rfl,q3⟩⟩
  | next=>exact False.elim oH
  | brk=>exact False.elim oH
  | cont=>exact False.elim oH
theorem U4(M:Mk X.K C f)(F:cB X.prog X.w X.K X.mg X.base CX k f fd ps sp)(hr:dh (k+1) X.A)(hg:Gl X x)(hm:X.mg x=some (.ref C))(hb:Binds X.K fd ps ds)(hd:Vals fi ds)(hx:Passes CX X E)
  (ha:PA X (e::es) t) (kE:(x==("__debug__":Str))=false:=by decide) (he:starEach (e::es) X.env=(false,eval e X.env)::starEach es X.env:=by rfl) (fj:(backTo pos (starEach es X.env)).any (·.1)=false:=by rfl):
  PE X (.Call (.Name x p) (e::es) [] pos) (A5 C sp fi E t):=by
 intro pins s σ H Q I h
 refine wpAny_Call_Name_kw (uk I hg hm ?_ kE)
 refine callWith_K (h₀:=X.base) I.ok.mod.ou M.kp (aN (ha pos pins s σ H _ I h) fun us s1 ⟨vs,H1,I1,r,q⟩=> ⟨I1.cT, ?_⟩) he fj
 exact U3 M F hr hb hd hx I1 r q
end
section
variable {X:Cx} {CX:aO} {k:Nat} {f C:Addr} {fd:FuncData} {ps ks:List Str} {sp:Sp} {E:XK} {x m:Str} {p pos apos apJ:Pos} {e o:Expr} {es:List Expr} {kws:List Keyword} {te ta:TE} {t tk:TA} {nm:Option Str}
variable {g:List Value→List Value→List Value} {gV:List V→List V→List V}
end
structure bQ (N P:List Str) (sc:Scope):Prop where
 kind:sc.kind= .function
 co:sc.isCoroutine=false
 gen:sc.isGenerator=false
 nd:N.Nodup
 pre:N.take P.length=P
 par: ∀x∈P,sc.names.lookup x=some .local∨sc.names.lookup x=some .cell
 U5: ∀y∈sc.names,y.2≠ .free
theorem cg{N P:List Str}{sc:Scope}(a:sc.kind= .function:=by kernel_rfl)(b:sc.isCoroutine=false:=by kernel_rfl)(c:sc.isGenerator=false:=by kernel_rfl)(d:N.Nodup:=by decide+kernel)(e:N.take P.length=P:=by kernel_rfl)(f: ∀x∈P,sc.names.lookup x=some .local∨sc.names.lookup x=some .cell:=by decide+kernel)(g: ∀y∈sc.names,y.2≠ .free:=by decide+kernel):bQ N P sc:=⟨a,b,c,d,e,f,g⟩
theorem K4{kindOf:Str→Option NameKind}{x:Str}: ∀{binds:List (Str×Value)} {m:Str→Option Value},(∀v,(x,v)∉binds)→bindL kindOf binds m x=m x
 | [],_,_=>rfl
 | (n,v)::r,m,h=>by
  unfold bindL
  rw[K4 fun w hw=>h w (List.mem_cons_of_mem _ hw)]
  split
  ·have:x≠n:=by rintro rfl;exact h v List.mem_cons_self
   simp[this]
  ·rfl
theorem K5{kindOf:Str→Option NameKind}{x:Str}: ∀{binds:List (Str×Value)} {m:Str→Option Value},(∀v,(x,v)∉binds)→bindC kindOf binds m x=m x
 | [],_,_=>rfl
 | (n,v)::r,m,h=>by
  unfold bindC
  rw[K5 fun w hw=>h w (List.mem_cons_of_mem _ hw)]
  split
  ·rfl
  ·have:x≠n:=by rintro rfl;exact h v List.mem_cons_self
   simp[this]
theorem K6{kindOf:Str→Option NameKind}{x:Str}{v:Value}: ∀{P:List Str} {vs:List Value} {i:Nat} {m:Str→Option Value},P.Nodup→P[i]?=some x→vs[i]?=some v→kindOf x=some .local→
  bindL kindOf (P.zip vs) m x=some v
 | [],_,_,_,_,h,_,_=>by simp at h
 | _::_,[],_,_,_,_,h,_=>by simp at h
 | p::P,w::vs,0,m,nd,h1,h2,hk=>by
  simp at h1 h2;subst h1;subst h2
  show bindL kindOf ((p,w)::P.zip vs) m p=_
  unfold bindL
  rw[K4 fun v hv=> (List.nodup_cons.mp nd).1 (List.of_mem_zip hv).1,if_pos hk]
  simp
 | p::P,w::vs,i+1,m,nd,h1,h2,hk=>by
  show bindL kindOf ((p,w)::P.zip vs) m x=_
  unfold bindL
  exact K6 (i:=i) (List.nodup_cons.mp nd).2 (by simpa using h1) (by simpa using h2) hk
theorem K7{kindOf:Str→Option NameKind}{x:Str}{v:Value}: ∀{P:List Str} {vs:List Value} {i:Nat} {m:Str→Option Value},P.Nodup→P[i]?=some x→vs[i]?=some v→kindOf x≠some .local→
  bindC kindOf (P.zip vs) m x=some v
 | [],_,_,_,_,h,_,_=>by simp at h
 | _::_,[],_,_,_,_,h,_=>by simp at h
 | p::P,w::vs,0,m,nd,h1,h2,hk=>by
  simp at h1 h2;subst h1;subst h2
  show bindC kindOf ((p,w)::P.zip vs) m p=_
  unfold bindC
  rw[K5 fun v hv=> (List.nodup_cons.mp nd).1 (List.of_mem_zip hv).1,if_neg hk]
  simp
 | p::P,w::vs,i+1,m,nd,h1,h2,hk=>by
  show bindC kindOf ((p,w)::P.zip vs) m x=_
  unfold bindC
  exact K7 (i:=i) (List.nodup_cons.mp nd).2 (by simpa using h1) (by simpa using h2) hk
def start(N:List Str)(vs:List V):St:=vs.map some++List.replicate (N.length - vs.length) none
def kI(CX:aO)(P:Program)(w:World)(K:PySem.W.Frag)(mg:Str→Option Value)(base:Heap)(N:List Str)(qual:Str)(scope:Scope)(f:Addr)(cd:Value)(A:Around)(outer:List Env)(s:Shared)(H:Hp)(E:XK):Cx where
 prog:=P
 w:=w
 K:=K
 mg:=mg
 base:=base
 A:=A.deeper (envOfC qual scope s.heap.objs.size f cd)
 N:=N
 s₀:=s
 H₀:=H
 env:=envOfC qual scope s.heap.objs.size f cd
 outer:=outer
 stack:=envOfC qual scope s.heap.objs.size f cd::outer
 ex:=[]
 calm:=true
 fn:=fun _=>true
 pn:=[]
 xe:=fun e s'=>wpAny (model P w) (A.deeper (envOfC qual scope s.heap.objs.size f cd)) (leaving (envOfC qual scope s.heap.objs.size f cd) e) (fun _ gb=>CX outer H s E e gb) (fun e' gb=>CX outer H s E e' gb) s'
theorem K8{sc:Scope}{n:Nat}{x:Str}(h:sc.names.lookup x=some .cell): ∃c,(cellsFrom n sc.names []).lookup x=some c:=by
 have q:=cellsFrom_some sc.names n [] (.inl h)
 exact Option.isSome_iff_exists.mp q
theorem K9{CX:aO}{P:Program}{w:World}{K:PySem.W.Frag}{mg:Str→Option Value}{base:Heap}{N ps:List Str}{qual:Str}{scope:Scope}{f:Addr}{cd:Value}{A:Around}{outer:List Env}{s s1:Shared}{H:Hp}{E:XK}{us:List Value}{vs:List V}
  (S:bQ N ps scope) (hd:A.handled=none) (e0:kD P w K mg base A outer s H) (hl:vs.length=ps.length) (r:Vals vs us)
  (x:InCallC s s.heap.objs.size (bindL (envOfC qual scope s.heap.objs.size f cd).kindOf (ps.zip us) fun _=>none) (cellsFrom (s.heap.objs.size+1) scope.names []) (bindC (envOfC qual scope s.heap.objs.size f cd).kindOf (ps.zip us) fun _=>none) s1):
  Inv (kI CX P w K mg base N qual scope f cd A outer s H E) [] (start N vs) H s1:=by
 have fj:ps.length≤N.length:=by have:=congrArg List.length S.pre;rw[List.length_take] at this;omega
 obtain⟨h1,tk,rfl,hk⟩:=x.done
 have uw: ∀b:Addr,b∉ (kI CX P w K mg base N qual scope f cd A outer s H E).ex:=fun b z=>absurd (show b∈ ([]:List Addr) from z) (by simp)
 refine⟨⟨e0.mod,S.kind,rfl,rfl,Nat.le_refl _,fun y z c h1 h2=> ?_,fun y hy=> ?_,fun y c _ h=> ?_,fun _=>hd,Around.frames_deeper e0.frames, .inr ⟨rfl,rfl⟩,fun b z=>absurd z (uw b),e0.bs,e0.mL,fun b _ _=>uw b,fun b z=>absurd z (uw b),e0.iH,e0.oy⟩,
  rfl,e0.bare,Un.kept hk,⟨_,x.toInCall.ns,fun i y v h1 h2 h3=> ?_⟩,fun y c h=> ⟨_,x.cell y c h⟩,e0.aB.fresh (Nat.le_refl _),fun y c h=> ?_,fun p hp=>absurd (show p∈ ([]:List (Addr×Obj)) from hp) (by simp),e0.aB.kept hk, ?_⟩
 ·exact name_of_addr x.apart (PySem.mem_of_lookup h1) (PySem.mem_of_lookup h2)
 ·have hy:scope.names.lookup y=some .cell∨scope.names.lookup y=some .free:=hy
  rcases hy with hy | hy
  ·exact K8 hy
  ·exact absurd rfl (S.U5 _ (PySem.mem_of_lookup hy))
 ·exact Nat.le_of_lt (x.above y c (PySem.mem_of_lookup h))
 ·have hi:i<vs.length:=by
   unfold start at h2
   by_cases hi:i<vs.length
   ·exact hi
   ·rw[List.getElem?_append_right (by simpa using hi)] at h2
    rw[List.getElem?_replicate] at h2
    split at h2<;>cases h2
  have ha:vs[i]?=some v:=by
   unfold start at h2
   rw[List.getElem?_append_left (by simpa using hi),List.getElem?_map] at h2
   cases e:vs[i]? with
   | none=>rw[e] at h2;cases h2
   | some a=>rw[e] at h2;cases h2;rfl
  obtain⟨u,hu,rv⟩:=r.get ha
  have hp:ps[i]?=some y:=by
   rw[←S.pre,List.getElem?_take_of_lt (by omega)];exact h1
  have K_:ps.Nodup:=by rw[←S.pre];exact S.nd.sublist (List.take_sublist _ _)
  refine⟨u,rv, ?_⟩
  rcases S.par y (List.mem_of_getElem? hp) with k | k
  ·exact .inl ⟨k,K6 K_ hp hu k⟩
  ·obtain⟨c,e⟩:=K8 (n:=s.heap.objs.size+1) k
   refine .inr ⟨.inl k,c,e, ?_⟩
   have q:=x.cell y c e
   rw[K7 K_ hp hu (by show scope.names.lookup y≠_;rw[k];decide)] at q
   exact q
 ·exact e0.aB.fresh (Nat.le_of_lt (x.above y c (PySem.mem_of_lookup h)))
 ·unfold start
  show _=N.length
  rw[List.length_append,List.length_map,List.length_replicate]
  omega
theorem U6{CX:aO}{P:Program}{w:World}{K:PySem.W.Frag}{mg:Str→Option Value}{base:Heap}{k:Nat}{f:Addr}{name qual:Str}{params:Arguments}{body:List Stmt}{scope:Scope}{dV kV doc pm cU ct oc:Value}{an od:Option Addr}
  {ja:Array (Option Value)} {N ps:List Str} {sp:Sp} (lk:K.lookup f=some ⟨oc,od, .func (fnOf name qual params body scope dV kV doc pm an cU ct),ja⟩) (fH:codeIn K cU qual=true) (S:bQ N ps scope)
  (len: ∀vs H Q E,sp vs H Q E→vs.length=ps.length)
  (A7: ∀(A:Around) (outer:List Env) (s:Shared) (H:Hp) (vs:List V) (Q:VK) (E:XK),dh k (A.deeper (envOfC qual scope s.heap.objs.size f cU))→sp vs H Q E→
   ∃t,bo (kI CX P w K mg base N qual scope f cU A outer s H E) body t∧t {nx:=fun _ H'=>Q .aw H',rt:=Q} (start N vs) H):
  cB P w K mg base CX (k+1) f (fnOf name qual params body scope dV kV doc pm an cU ct) ps sp:=by
 refine⟨len,fun A outer s H args us vs Q E hr e0 hb r gc=> ?_⟩
 have hl:=len _ _ _ _ gc
 have KX:K.In s.heap:=e0.mod.ou.keeps fun b o e=> (e0.bs b o e).1
 have lim:s.heap.NoLimit:=e0.mod.nolimit.keeps fun b o e=> (e0.bs b o e).1
 have A8: ∀y∈ps.zip us,scope.names.lookup y.1=some .local∨(scope.names.lookup y.1=some .cell∧((cellsFrom (s.heap.objs.size+1) scope.names []).lookup y.1).isSome=true):=fun⟨n,v⟩ hy=>by
  rcases S.par n (List.of_mem_zip hy).1 with q | q
  ·exact .inl q
  ·exact .inr ⟨q,cellsFrom_some _ _ _ (.inl q)⟩
 refine codeAny_call_function hr.depth (KX _ _ lk) rfl S.co S.gen rfl (codeRec_of KX fH) (hb _ _ _ _ ?_)
 refine wpAny_newFunctionEnv_cells S.kind A8 fun env he s1 x=> ?_
 subst he
 refine⟨lim.keeps x.toInCall.keep,codeAny_func ?_⟩
 obtain⟨t,ht,hq⟩:=A7 A outer s H vs Q E (hr.deeper _) gc
 have I:Inv (kI CX P w K mg base N qual scope f cU A outer s H E) [] (start N vs) H s1:=K9 S hr.hd e0 hl r x
 refine wpAny_mono (ht [] s1 (start N vs) H _ I hq) (fun fl s' hs=> ?_) fun e s' hs=>hs
 have fin: ∀{σ':St} {H':Hp} {v:V} {u:Value},Inv (kI CX P w K mg base N qual scope f cU A outer s H E) [] σ' H' s'→RelV v u→Q v H'→CE outer P w H s Q u s':=
  fun {σ' H' v u} J rv q=> ⟨v,H',J.os,J.bare,J.base,J.aB,rv,q⟩
 cases fl with
 | ret u=>
  obtain⟨v,σ',H',J,rv,q⟩:=hs
  exact fin J rv q
 | next=>
  obtain⟨σ',H',J,q⟩:=hs
  exact fin (v:=V.aw) (u:=Value.none) J rfl q
 | brk=>
  obtain⟨_,_,_,q⟩:=hs
  exact False.elim q
 | cont=>
  obtain⟨_,_,_,q⟩:=hs
  exact False.elim q
section
variable {X:Cx} {x:Str} {p pos:Pos} {e:Expr} {es:List Expr} {t:TA} {id T:String} {r:List V→Hp→VK→Prop}
def jb(r:List V→Hp→VK→Prop)(t:TA):TE:=fun σ H Q=>t σ H fun vs H1=>r vs H1 Q
theorem A9(hc:cE X (.builtin id) r)(hg:Gl X x)(hm:X.mg x=none)(hv:bootBuiltins x=some (.builtin id))(ha:PA X (e::es) t)(hn:x≠"__name__":=by decide)(kE:(x==("__debug__":Str))=false:=by decide)
  (he:starEach (e::es) X.env=(false,eval e X.env)::starEach es X.env:=by rfl) (fj:(backTo pos (starEach es X.env)).any (·.1)=false:=by rfl):PE X (.Call (.Name x p) (e::es) [] pos) (jb r t):=by
 intro pins s σ H Q I h
 refine wpAny_Call_Name_kw (um I hg hm hv ?_ hn kE)
 exact PyProof.Rows.callWith_builtin1 (aN (ha pos pins s σ H _ I h) fun us s1 ⟨vs,H1,I1,r1,q1⟩=>hc pins s1 σ H1 vs us Q I1 r1 q1) he fj
theorem U7(hc:cE X (.type T) r)(hg:Gl X x)(hm:X.mg x=none)(hv:bootBuiltins x=some (.type T))(ha:PA X (e::es) t)(hn:x≠"__name__":=by decide)(kE:(x==("__debug__":Str))=false:=by decide)
  (he:starEach (e::es) X.env=(false,eval e X.env)::starEach es X.env:=by rfl) (fj:(backTo pos (starEach es X.env)).any (·.1)=false:=by rfl):PE X (.Call (.Name x p) (e::es) [] pos) (jb r t):=by
 intro pins s σ H Q I h
 refine wpAny_Call_Name_kw (um I hg hm hv ?_ hn kE)
 exact PyProof.Rows.callWith_type1 (aN (ha pos pins s σ H _ I h) fun us s1 ⟨vs,H1,I1,r1,q1⟩=>hc pins s1 σ H1 vs us Q I1 r1 q1) he fj
end
end L2
namespace HT
open PySem PyProof.Rows
section
open PySem.SeqAt
open PySem.AutoSeq1 (wpAny_loadPart')
open PySem.MeetsSeq PySem.MeetsSeq2 PySem.MeetsSeq3
end
section
variable {prog:Program} {w:World} {A:Around} {E:Value→Shared→Prop} {s:Shared}
theorem U8{t b:Addr}{vs ws:List Value}{Q:Value→Shared→Prop}(ht:IsTup s.heap t vs.toArray)(hb:IsTup s.heap b ws.toArray)(hv:vs≠ [])
  (h1:ws=[]→Q (.ref t) s) (h2:ws≠ []→Q (.ref s.heap.objs.size) {s with heap:=s.heap.push {cls:= .type "tuple",data:= .seq (vs++ws).toArray}})
  (hsz:vs.length+ws.length≤sizeLine):wpAny (model prog w) A (binaryOp .Add (.ref t) (.ref b)) Q E s:=by
 obtain⟨⟨cls,dd,data,sl⟩,ho,hc,n,hd⟩:=id ht
 obtain⟨⟨apL,La,data2,oI⟩,eF,mR,n2,hd2⟩:=id hb
 simp only at hc hd mR hd2
 subst hc hd mR hd2
 have e:vs.toArray++ws.toArray=(vs++ws).toArray:=by simp
 by_cases hw:ws=[]
 ·exact concat_meets ⟨_,ho,rfl⟩ ⟨_,eF,rfl⟩ noFill_tuple_add seq_tuple_add PySem.F.slot_tuple_add PySem.F.entry_tuple_add (PySem.F.args_tuple_add_2 _ _)
   (tuple_addW1 t b vs.toArray ws.toArray n n2 dd La sl oI (by simpa using hv) (by simp[hw])) ⟨ho,eF,h1 hw⟩
 ·refine concat_meets ⟨_,ho,rfl⟩ ⟨_,eF,rfl⟩ noFill_tuple_add seq_tuple_add PySem.F.slot_tuple_add PySem.F.entry_tuple_add (PySem.F.args_tuple_add_2 _ _)
   (tuple_addW2 t b vs.toArray ws.toArray n n2 dd La sl oI (by simpa using hv) (by simpa using hw) (by rw[List.size_toArray,List.size_toArray];exact hsz)) ⟨ho,eF, ?_⟩
  rw[e]
  exact h2 hw
def bh(n d:Nat):Option Int→Nat
 | none=>d
 | some v=>if v<0 then (v+ (n:Int)).toNat else min v.toNat n
theorem jc(n d k:Nat):bh n d (some (k:Int))=min k n:=by
 show(if (k:Int) <0 then ((k:Int)+ (n:Int)).toNat else min (k:Int).toNat n)=min k n
 rw[if_neg (by omega),Int.toNat_natCast]
theorem A_(n d:Nat)(hd:d≤n)(o:Option Int):bh n d o≤n:=by
 cases o with
 | none=>exact hd
 | some v=>
  show(if v<0 then (v+ (n:Int)).toNat else min v.toNat n)≤n
  by_cases hv:v<0
  ·rw[if_pos hv];omega
  ·rw[if_neg hv];exact Nat.min_le_right _ _
theorem Lb(v:Int)(n d:Nat):(if v<0 then max (v+ (n:Int)) 0 else min v (n:Int))=((bh n d (some v):Nat):Int):=by
 show(if v<0 then max (v+ (n:Int)) 0 else min v (n:Int))=(((if v<0 then (v+ (n:Int)).toNat else min v.toNat n):Nat):Int)
 by_cases hv:v<0
 ·simp only[if_pos hv];omega
 ·simp only[if_neg hv];omega
theorem U9(lo hi:Option Int)(n:Nat):Builtin.Slice.sliceAdjust lo hi 1 (n:Int)=(((bh n 0 lo:Nat):Int),((bh n n hi:Nat):Int)):=by
 have h1: ¬((1:Int) <0):=by omega
 unfold Builtin.Slice.sliceAdjust
 simp only[h1,if_false]
 refine Prod.ext ?_ ?_
 ·cases lo with
  | none=>rfl
  | some v=>exact Lb v n 0
 ·cases hi with
  | none=>rfl
  | some v=>exact Lb v n n
theorem U_(i j:Nat):Builtin.Slice.slicePlaces (i:Int) (j:Int) 1=j - i:=by
 unfold Builtin.Slice.slicePlaces
 have h1:(1:Int) >0:=by omega
 simp only[h1,if_true,Int.ediv_one]
 split<;>omega
theorem Lc{v:Value}{o:Option Int}{Q:Option Int→Shared→Prop}(p:IsPart v o)(h:Q o s):wpAny (model prog w) A (Builtin.Slice.slicePartIndex v) Q E s:=by
 cases p with
 | none=>exact slicePart_none h
 | int i t=>exact slicePart_int h
theorem Va{sl:Addr}{vl vu:Value}{lo hi:Option Int}{n:Nat}{Q:Int×Int×Nat→Shared→Prop}(hs:s.heap.IsSliceOf sl vl vu .none)(pl:IsPart vl lo)(pu:IsPart vu hi)
  (h:Q (((bh n 0 lo:Nat):Int),1,bh n n hi - bh n 0 lo) s):wpAny (model prog w) A (Builtin.Slice.sliceApplied (.ref sl) (pure (n:Int))) Q E s:=by
 obtain⟨os,ux,Ld,xY⟩:=id hs
 unfold Builtin.Slice.sliceApplied Builtin.Slice.sliceFields
 refine wpAny_bind (wpAny_bind (wpAny_field ux xY (x:=vl) rfl (wpAny_bind (wpAny_field ux xY (x:=vu) rfl (wpAny_bind (wpAny_field ux xY (x:= .none) rfl (wpAny_pure ?_)))))))
 refine wpAny_bind (slicePart_none ?_)
 show wpAny _ _ (if ((1:Int)==0)=true then _ else _) _ _ s
 rw[if_neg (by decide)]
 refine wpAny_bind (Lc pl (wpAny_bind (Lc pu (wpAny_bind (wpAny_pure ?_)))))
 show wpAny _ _ (match Builtin.Slice.sliceAdjust lo hi 1 (n:Int) with | (lo,hi)=>pure (lo,(1:Int),Builtin.Slice.slicePlaces lo hi 1)) _ _ s
 rw[U9 lo hi n]
 show wpAny _ _ (pure (((bh n 0 lo:Nat):Int),(1:Int),Builtin.Slice.slicePlaces ((bh n 0 lo:Nat):Int) ((bh n n hi:Nat):Int) 1)) _ _ s
 rw[U_]
 exact wpAny_pure h
theorem Vb(xs:Array Value)(i k:Nat):((List.range k).filterMap fun(m:Nat)=>xs[((i:Int)+ (m:Int)*1).toNat]?).toArray=((xs.toList.drop i).take k).toArray:=by
 have e:(fun(m:Nat)=>xs[((i:Int)+ (m:Int)*1).toNat]?)=fun m=>xs[i+m]?:=by
  funext m
  have:((i:Int)+ (m:Int)*1).toNat=i+m:=by omega
  rw[this]
 rw[e]
 have:=pick_run xs i k
 rw[List.filterMap_map] at this
 have e2:((fun x=>xs[x]?)∘fun x=>i+x)=fun m=>xs[i+m]?:=rfl
 rw[e2] at this
 rw[this]
theorem Vc{t sl:Addr}{items:Array Value}{vl vu:Value}{lo hi:Option Int}{Q:Value→Shared→Prop}(ht:IsTup s.heap t items)(hs:s.heap.IsSliceOf sl vl vu .none)(pl:IsPart vl lo)(pu:IsPart vu hi)
  (hw: ¬(bh items.size 0 lo=0∧bh items.size items.size hi=items.size))
  (h:Q (.ref s.heap.objs.size) {s with heap:=s.heap.push {cls:= .type "tuple",data:= .seq ((items.toList.drop (bh items.size 0 lo)).take (bh items.size items.size hi - bh items.size 0 lo)).toArray}})
  (hsz:items.size≤sizeLine):wpAny (model prog w) A (getItem (.ref t) (.ref sl)) Q E s:=by
 have xZ:sizeOk (.seq ((items.toList.drop (bh items.size 0 lo)).take (bh items.size items.size hi - bh items.size 0 lo)).toArray):=by
  show((items.toList.drop (bh items.size 0 lo)).take (bh items.size items.size hi - bh items.size 0 lo)).toArray.size≤sizeLine
  rw[List.size_toArray,List.length_take,List.length_drop,Array.length_toList]
  omega
 have hj:bh items.size items.size hi≤items.size:=A_ _ _ (Nat.le_refl _) hi
 obtain⟨os,ux,Ld,xY⟩:=id hs
 have Vd:s.TypeIs (.ref sl) "slice":=⟨os,ux,Ld⟩
 unfold getItem
 try with_reducible refine wpAny_holding ?_
 first | refine wpAny_bind (wpAny_pure ?_) | skip
 refine wpAny_bind (wpAny_sequenceKey ht.typeIs (by decide) ?_)
 refine wpAny_bind (wpAny_callSpecial?_slot (name:=Str.ofString "__getitem__") ht.typeIs PyProof.Rows.slot_tuple_getitem
  (wpAny_call_entry PyProof.Rows.slot_tuple_getitem ht.typeIs entry_tuple_getitem ?_ (args_tuple_getitem _ _)))
 show wpAny _ _ (Builtin.Tuple.tupleItemsOf (.ref t) >>=_) _ _ s
 refine wpAny_bind (tupleItemsOf_ ht ?_)
 refine wpAny_bind (wpAny_typeOf Vd ?_)
 rw[if_pos (by decide)]
 refine wpAny_bind (Va hs pl pu ?_)
 have kJ: ¬((((bh items.size 0 lo:Nat):Int)==0 && (1:Int)==1 && (bh items.size items.size hi - bh items.size 0 lo)==items.size)=true):=by
  intro q
  rw[Bool.and_eq_true,Bool.and_eq_true] at q
  have q1:((bh items.size 0 lo:Nat):Int)=0:=eq_of_beq q.1.1
  have q2:bh items.size items.size hi - bh items.size 0 lo=items.size:=eq_of_beq q.2
  exact hw ⟨by omega,by omega⟩
 show wpAny _ _ (if (((bh items.size 0 lo:Nat):Int)==0 && (1:Int)==1 && (bh items.size items.size hi - bh items.size 0 lo)==items.size)=true then _ else _) _ _ s
 rw[if_neg kJ,Vb]
 first
  | exact wpAny_bind (m:=Builtin.Tuple.tupleExact _) (wpAny_newObj_type (wpAny_pure ⟨_,rfl,wpAny_pure h⟩) xZ)
  | exact wpAny_bind (m:=Builtin.Tuple.tupleExact _) (wpAny_newObj_type (wpAny_bind (wpAny_pure (wpAny_pure ⟨_,rfl,wpAny_pure h⟩))) xZ)
  | exact wpAny_bind (wpAny_bind (m:=Builtin.Tuple.tupleExact _) (wpAny_newObj_type (wpAny_pure (wpAny_pure ⟨_,rfl,wpAny_pure h⟩)) xZ))
  | exact wpAny_bind (wpAny_bind (m:=Builtin.Tuple.tupleExact _) (wpAny_newObj_type (wpAny_pure ⟨_,rfl,wpAny_pure h⟩) xZ))
end
end HT
namespace L2
open PySem PySem.Spec PyProof.Rows
abbrev TO:=St→Hp→(Option Int→Hp→Prop)→Prop
def PO(X:Cx)(e:Option Expr)(t:TO):Prop:=
 ∀(pins:List (Addr×Obj)) (s:Shared) (σ:St) (H:Hp) (Q:Option Int→Hp→Prop),Inv X pins σ H s→t σ H Q→
  wpAny (model X.prog X.w) X.A (evalPart e X.env) (fun u s'=> ∃o H',Inv X pins σ H' s'∧IsPart u o∧Q o H') X.xe s
def Le:TO:=fun _ H Q=>Q none H
def x9(t:TE):TO:=fun σ H Q=>t σ H fun x H1=> ∃i,x= .int i∧Q (some i) H1
theorem intsAre_of{ns:List Int}: ∀{us:List Value},Vals (ns.map V.int) us→IntsAre us ns:=by
 induction ns with
 | nil=>intro us r;rw[List.map_nil] at r;cases r;exact .nil
 | cons n ns ih=>
  intro us r
  rw[List.map_cons] at r
  cases r with
  | cons r1 r2=>
   obtain⟨t,e⟩:=r1
   subst e
   exact .cons n t (ih r2)
section
variable {X:Cx} {e:Expr} {te:TE} {lo hi:Option Expr} {tl th:TO} {pos p2:Pos}
theorem Ve:PO X none Le:=by
 intro pins s σ H Q I h
 rw[evalPart_none]
 exact wpAny_pure ⟨none,H,I, .none,h⟩
theorem Vf(h:PE X e te):PO X (some e) (x9 te):=by
 intro pins s σ H Q I hw
 rw[evalPart_some]
 refine aN (h pins s σ H _ I hw) fun u s1 ⟨x,H1,I1,r1,q1⟩=> ?_
 obtain⟨i,rfl,q⟩:=q1
 obtain⟨t,rfl⟩:=r1
 exact⟨some i,H1,I1, .int i t,q⟩
def x_(X:Cx)(r:V→Option Int→Option Int→Hp→VK→Prop):Prop:=
 ∀(pins:List (Addr×Obj)) (s:Shared) (σ:St) (H:Hp) (x:V) (v vl vu:Value) (lo hi:Option Int) (sl:Addr) (Q:VK),Inv X pins σ H s→RelV x v→s.heap.IsSliceOf sl vl vu .none→IsPart vl lo→IsPart vu hi→r x lo hi H Q→
  ∃T id,typeLookup (.type T) "__getitem__"=pure (some (.builtin id))∧s.TypeIs v T∧wpAny (model X.prog X.w) X.A (getItem v (.ref sl)) (EP X pins σ Q) X.xe s
def Ba(r:V→Option Int→Option Int→Hp→VK→Prop)(te:TE)(tl th:TO):TE:=fun σ H Q=>te σ H fun x H1=>tl σ H1 fun l H2=>th σ H2 fun u H3=>r x l u H3 Q
theorem Vg{r:V→Option Int→Option Int→Hp→VK→Prop}(hr:x_ X r)(he:PE X e te)(hl:PO X lo tl)(hu:PO X hi th):PE X (.Subscript e (.Slice lo hi none p2) pos) (Ba r te tl th):=by
 intro pins s σ H Q I h
 refine Subscript_ (aN (he pins s σ H _ I h) fun v s1 ⟨x,H1,I1,r1,q1⟩=> ?_)
 refine wpAny_Slice (aN (hl pins s1 σ H1 _ I1 q1) fun vl s2 ⟨l,H2,I2,pl,q2⟩=>aN (hu pins s2 σ H2 _ I2 q2) fun vu s3 ⟨u,H3,I3,pu,q3⟩=> ?_)
 rw[evalPart_none]
 refine wpAny_pure ?_
 have I4:Inv X pins σ H3 {s3 with heap:=s3.heap.push {cls:= .type "slice",data:= .fields #[vl,vu, .none]}}:=I3.kept (t':=s3.toks) fun b ob q=>Heap.get?_push_of_some _ q
 obtain⟨T,id,hT,ht,hg⟩:=hr pins {s3 with heap:=s3.heap.push {cls:= .type "slice",data:= .fields #[vl,vu, .none]}} σ H3 x v vl vu l u s3.heap.objs.size Q I4 r1 (Heap.IsSliceOf.new ..) pl pu q3
 show wpAny (model X.prog X.w) X.A (subscriptTail e (.Slice lo hi none p2) v (.ref s3.heap.objs.size)) (EP X pins σ Q) X.xe {s3 with heap:=s3.heap.push {cls:= .type "slice",data:= .fields #[vl,vu, .none]}}
 exact tail_any (ops:=[.ref s3.heap.objs.size,v]) ht hT hg (by with_unfolding_all rfl)
def fJ(xs:List V)(lo hi:Option Int):List V:=(xs.drop (HT.bh xs.length 0 lo)).take (HT.bh xs.length xs.length hi - HT.bh xs.length 0 lo)
theorem Lf(xs:List V)(lo hi:Option Int):(fJ xs lo hi).length≤xs.length:=by
 unfold fJ
 rw[List.length_take,List.length_drop]
 omega
def Vh(K:PySem.W.Frag):V→Option Int→Option Int→Hp→VK→Prop:=fun x lo hi H Q=> ∃a xs,x= .ref a∧aI K H a xs∧
 ¬(HT.bh xs.length 0 lo=0∧HT.bh xs.length xs.length hi=xs.length)∧ ∀p,H p=none→Q (.ref p) (upd H p (.tup (fJ xs lo hi)))
theorem Vi:x_ X (Vh X.K):=by
 intro pins s σ H x v vl vu lo hi sl Q I rx hs pl pu h
 obtain⟨a,xs,rfl,hx,hw,q⟩:=h
 cases rx
 obtain⟨its,r,ht,hz⟩:=I.tuple hx
 have hlen:its.toArray.size=xs.length:=by rw[List.size_toArray];exact r.length.symm
 refine⟨"tuple",_,PyProof.Rows.slot_tuple_getitem.lookup,ht.typeIs, ?_⟩
 refine HT.Vc ht hs pl pu (by rw[hlen];exact hw) ?_ (by rw[hlen];exact hz)
 rw[hlen]
 refine⟨.ref s.heap.objs.size,_,I.laid (t':=s.toks) (o:= .tup (fJ xs lo hi)) (fun b ob q=>Heap.get?_push_of_some _ q) (Nat.le_refl _) ?_,rfl,q _ (I.aB.fresh (Nat.le_refl _))⟩
 exact⟨Nat.le_trans (Lf xs lo hi) hz,_,(r.drop (HT.bh xs.length 0 lo)).take (HT.bh xs.length xs.length hi - HT.bh xs.length 0 lo),IsTup.new _ _⟩
def Lg(K:PySem.W.Frag):R2:=fun x y H Q=> ∃a b xs ys,x= .ref a∧y= .ref b∧aI K H a xs∧aI K H b ys∧xs≠ []∧xs.length+ys.length≤sizeLine∧
 (ys=[]→Q (.ref a) H)∧(ys≠ []→ ∀p,H p=none→Q (.ref p) (upd H p (.tup (xs++ys))))
theorem Vals.Bb{xs:List V}{us:List Value}(r:Vals xs us):us=[]↔xs=[]:=by
 cases r with
 | nil=>simp
 | cons _ _=>simp
theorem Vj:bA X (binaryOp .Add) (Lg X.K):=by
 intro pins s σ H x y v u Q I rx ry h
 obtain⟨a,b,xs,ys,rfl,rfl,ha,hb,hx,hz,q1,q2⟩:=h
 cases rx
 cases ry
 obtain⟨its,r1,p1,_⟩:=I.tuple ha
 obtain⟨fK,r2,p2,_⟩:=I.tuple hb
 refine HT.U8 p1 p2 (fun z=>hx (r1.Bb.mp z)) (fun z=> ⟨.ref a,H,I,rfl,q1 (r2.Bb.mp z)⟩) (fun z=> ?_) (by rw[←r1.length,←r2.length];exact hz)
 refine⟨.ref s.heap.objs.size,_,I.laid (t':=s.toks) (o:= .tup (xs++ys)) (fun b ob q=>Heap.get?_push_of_some _ q) (Nat.le_refl _) ?_,rfl,q2 (fun w=>z (r2.Bb.mpr w)) _ (I.aB.fresh (Nat.le_refl _))⟩
 exact⟨by rw[List.length_append];exact hz,_,r1.append r2,IsTup.new _ _⟩
end
def jd(n:Nat)(i:Int):Option Nat:=if 0≤i then (if i<n then some i.toNat else none) else if -(n:Int)≤i then some (i+n).toNat else none
def eQ{α:Type}(xs:List α)(i:Int):Option α:=(jd xs.length i).bind fun j=>xs[j]?
theorem Lh{n:Nat}{i:Int}{j:Nat}(h:jd n i=some j):seqIndex? i n=some j∧j<n∧ -(n:Int)≤i∧i<n:=by
 unfold jd at h
 by_cases h0:0≤i
 ·rw[if_pos h0] at h
  by_cases h1:i<n
  ·rw[if_pos h1] at h
   have e:i.toNat=j:=Option.some.inj h
   exact⟨by rw[seqIndex_of h0 h1,e],by omega,by omega,h1⟩
  ·rw[if_neg h1] at h;cases h
 ·rw[if_neg h0] at h
  by_cases h1: -(n:Int)≤i
  ·rw[if_pos h1] at h
   have e:(i+n).toNat=j:=Option.some.inj h
   exact⟨by rw[seqIndex_neg (by omega) h1,e],by omega,h1,by omega⟩
  ·rw[if_neg h1] at h;cases h
theorem Bc{α:Type}{xs:List α}{i:Int}{v:α}(h:eQ xs i=some v): ∃j,seqIndex? i xs.length=some j∧xs[j]?=some v∧j<xs.length∧ -(xs.length:Int)≤i∧i<xs.length:=by
 unfold eQ at h
 cases e:jd xs.length i with
 | none=>rw[e] at h;cases h
 | some j=>
  rw[e] at h
  obtain⟨h1,h2,h3,h4⟩:=Lh e
  exact⟨j,h1,h,h2,h3,h4⟩
theorem kN{α:Type}{xs:List α}{j:Nat}{v:α}(h:xs[j]?=some v):eQ xs (j:Int)=some v:=by
 have hj:j<xs.length:=(List.getElem?_eq_some_iff.mp h).1
 have e:jd xs.length (j:Int)=some j:=by
  unfold jd
  rw[if_pos (by omega),if_pos (by omega)];simp
 unfold eQ;rw[e];exact h
theorem Vk{α:Type}(xs:List α)(v:α):eQ (xs++ [v]) (-1)=some v:=by
 have hl:(xs++ [v]).length=xs.length+1:=by simp
 have e:jd (xs++ [v]).length (-1)=some xs.length:=by
  unfold jd
  rw[hl,if_neg (by decide),if_pos (by omega)]
  congr 1
  omega
 unfold eQ
 rw[e]
 show(xs++ [v])[xs.length]?=some v
 simp
def Li(b:Expr):Prop:= ∀o i,subscripted b false o i=operate [o,i] (getItem o i)
def jL(X:Cx)(r:R2):Prop:=
 ∀(value slice:Expr) (pins:List (Addr×Obj)) (s:Shared) (σ:St) (H:Hp) (x y:V) (v u:Value) (Q:VK),Inv X pins σ H s→RelV x v→RelV y u→r x y H Q→
  subscripted slice false v u=operate [v,u] (getItem v u)→wpAny (model X.prog X.w) X.A (subscriptTail value slice v u) (EP X pins σ Q) X.xe s
def kO(X:Cx)(id:String)(r:V→List V→Hp→VK→Prop):Prop:=
 ∀(pins:List (Addr×Obj)) (s:Shared) (σ:St) (H:Hp) (x:V) (xs:List V) (v:Value) (us:List Value) (Q:VK),Inv X pins σ H s→RelV x v→Vals xs us→r x xs H Q→
  wpAny (model X.prog X.w) X.A (call (.builtin id) (v::us)) (EP X pins σ Q) X.xe s
section
variable {X:Cx} {a b:Expr} {ta tb:TE} {pos:Pos}
theorem jL.or{r r':R2}(h:jL X r)(h':jL X r'):jL X (fun x y H Q=>r x y H Q∨r' x y H Q):=by
 intro value slice pins s σ H x y v u Q I rx ry q hs
 rcases q with q | q
 ·exact h value slice pins s σ H x y v u Q I rx ry q hs
 ·exact h' value slice pins s σ H x y v u Q I rx ry q hs
theorem Vl{r:R2}(hr:jL X r)(ha:PE X a ta)(hb:PE X b tb)(hs:Li b):PE X (.Subscript a b pos) (dU r ta tb):=by
 intro pins s σ H Q I h
 exact Subscript_ (AV ha hb I h fun v u s2 x y H2 I2 rx ry q=>hr a b pins s2 σ H2 x y v u Q I2 rx ry q (hs _ _))
def Lj(K:PySem.W.Frag):R2:=fun x y H Q=> ∃p xs i v,x= .ref p∧y= .int i∧ao K H p xs∧eQ xs i=some v∧Q v H
def Lk(K:PySem.W.Frag):R2:=fun x y H Q=> ∃p xs i v,x= .ref p∧y= .int i∧aI K H p xs∧eQ xs i=some v∧Q v H
def Ll:R2:=fun x y H Q=> ∃z i c,x= .str z∧y= .int i∧z.length≤sizeLine∧eQ z.cps.toList i=some c∧Q (.str ⟨#[c]⟩) H
theorem Vm:jL X (Lj X.K):=by
 intro value slice pins s σ H x y v u Q I rx ry h hs
 obtain⟨p,xs,i,z,rfl,rfl,hq,he,q⟩:=h
 cases rx
 obtain⟨t,rfl⟩:=ry
 obtain⟨its,r,pl,hz⟩:=I.list hq
 obtain⟨j,h1,h2,h3,h4,h5⟩:=Bc he
 obtain⟨w,ew,gd⟩:=r.get h2
 have hl:=r.length
 have hn:=mP
 have fin:EP X pins σ Q w s:=⟨z,H,I,gd,q⟩
 by_cases h0:0≤i
 ·have hj:i.toNat=j:=by
   rw[seqIndex_of h0 h5] at h1
   exact Option.some.inj h1
  exact item_listR pl.isList h0 (by omega) (by rw[hj];simpa using ew) fin hs
 ·have hj:(i+ (its.toArray.size:Int)).toNat=j:=by
   rw[seqIndex_neg (by omega) h4] at h1
   rw[List.size_toArray,←hl]
   exact Option.some.inj h1
  exact subscriptTail_builtinR (x:=w) pl.isList.typeIs slot_list_getitem.lookup
   (wpAny_getItem_list_neg (Q:=fun r s'=>r=w∧EP X pins σ Q r s') pl.isList (by omega) (by rw[List.size_toArray] <;>omega) (by omega) (by rw[hj];simpa using ew) ⟨rfl,fin⟩) hs
theorem Vn:jL X (Lk X.K):=by
 intro value slice pins s σ H x y v u Q I rx ry h hs
 obtain⟨p,xs,i,z,rfl,rfl,hq,he,q⟩:=h
 cases rx
 obtain⟨t,rfl⟩:=ry
 obtain⟨its,r,pl,hz⟩:=I.tuple hq
 obtain⟨j,h1,h2,h3,h4,h5⟩:=Bc he
 obtain⟨w,ew,gd⟩:=r.get h2
 have hl:=r.length
 have hn:=mP
 have fin:EP X pins σ Q w s:=⟨z,H,I,gd,q⟩
 exact subscriptTail_builtinR (x:=w) pl.typeIs slot_tuple_getitem.lookup
  (getItem_tuple (j:=j) (Q:=fun r s'=>r=w∧EP X pins σ Q r s') pl (by omega) (by omega) (by rw[List.size_toArray,←hl];exact h1) (by simpa using ew) ⟨rfl,fin⟩) hs
theorem Vo:jL X Ll:=by
 intro value slice pins s σ H x y v u Q I rx ry h hs
 obtain⟨z,i,c,rfl,rfl,hz,he,q⟩:=h
 obtain⟨t,rfl⟩:=rx
 obtain⟨t',rfl⟩:=ry
 obtain⟨j,h1,h2,h3,h4,h5⟩:=Bc he
 have hl:z.cps.toList.length=z.length:=by simp[Str.length]
 rw[hl] at h1 h4 h5
 have hn:=mP
 exact tail_any (typeIs_str s z t) slot_str_getitem.lookup (getItem_str (c:=c) (by
  have e1:decide (i< -(2 ^ 63:Int))=false:=decide_eq_false (by omega)
  have e2:decide (i≥2 ^ 63)=false:=decide_eq_false (by omega)
  rw[e1,e2,Bool.or_false]) (by rw[h1];simpa using h2) ⟨.str ⟨#[c]⟩,H,I.tok _,⟨_,rfl⟩,q⟩) hs
theorem Vp(its:List Value)(n j:Nat)(u:Value):Obj.mapSeq (·.setIfInBounds j u) {cls:= .type "list",data:= .seq its.toArray n}={cls:= .type "list",data:= .seq (its.set j u).toArray n}:=by
 simp[Obj.mapSeq]
theorem Inv.lst{pins:List (Addr×Obj)}{σ:St}{H:Hp}{s:Shared}{p:Addr}{xs:List V}(I:Inv X pins σ H s)(h:H p=some (.lst xs)):
  ∃(its:List Value) (n:Nat),Vals xs its∧s.heap.get? p=some {cls:= .type "list",data:= .seq its.toArray n}∧xs.length≤sizeLine:=by
 obtain⟨z,its,n,r,e⟩:=I.aB p _ h
 exact⟨its,n,r,e,z⟩
theorem Inv.Vq{pins:List (Addr×Obj)}{σ:St}{H:Hp}{s:Shared}{p:Addr}{xs ys:List V}{its fZ:List Value}{n n':Nat}{f:Obj→Obj}(I:Inv X pins σ H s)(h:H p=some (.lst xs))
  (ho:s.heap.get? p=some {cls:= .type "list",data:= .seq its.toArray n}) (hf:f {cls:= .type "list",data:= .seq its.toArray n}={cls:= .type "list",data:= .seq fZ.toArray n'}) (r:Vals ys fZ) (hz:ys.length≤sizeLine) (t:Nat):
  Inv X pins σ (upd H p (.lst ys)) {s with heap:=s.heap.update p f,toks:=t}:=by
 have e:(s.heap.update p f).get? p=some {cls:= .type "list",data:= .seq fZ.toArray n'}:=by
  rw[Heap.get?_update_self f ho (by rw[hf] <;>rfl),hf]
 refine I.write (x:=p) (e:=p) (by rw[h];trivial) (.inl rfl) (fun b u hb q=> (Heap.get?_update_other _ _ (Ne.symm hb)).trans q) ⟨_,e⟩ ?_
 exact⟨hz,fZ,n',r,e⟩
def Bd:V→V→V→Hp→(Hp→Prop)→Prop:=fun o i v H Q=> ∃p xs k j,o= .ref p∧i= .int k∧H p=some (.lst xs)∧jd xs.length k=some j∧Q (upd H p (.lst (xs.set j v)))
theorem set_list:Kv X Bd:=by
 intro pins s σ H o i v ov iv u Q I ro ri rv h
 obtain⟨p,xs,k,j,rfl,rfl,hp,hj,q⟩:=h
 cases ro
 obtain⟨t,rfl⟩:=ri
 obtain⟨its,n,r,ho,hz⟩:=I.lst hp
 obtain⟨h1,h2,h3,h4⟩:=Lh hj
 have hl:=r.length
 have hn:=mP
 have I':Inv X pins σ (upd H p (.lst (xs.set j v))) {s with heap:=s.heap.update p (Obj.mapSeq (·.setIfInBounds j u))}:=
  I.Vq hp ho (Vp its n j u) (r.set rv j) (by rw[List.length_set];exact hz) s.toks
 by_cases h0:0≤k
 ·have hk:k.toNat=j:=by
   rw[seqIndex_of h0 h4] at h1
   exact Option.some.inj h1
  exact PySem.W.ki_setAt ho h0 (by omega) (by rw[List.size_toArray,←hl];exact h4) (by rw[hk];exact⟨_,I',q⟩)
 ·have hk:(k+ (its.toArray.size:Int)).toNat=j:=by
   rw[seqIndex_neg (by omega) h3] at h1
   rw[List.size_toArray,←hl]
   exact Option.some.inj h1
  exact PySem.W.ki_setBack ho (by omega) (by rw[List.size_toArray,←hl];exact h3) (by omega) (by rw[hk];exact⟨_,I',q⟩)
theorem Be(lo hi:Option Int)(n:Nat):(sliceBounds lo hi none n).1=((HT.bh n 0 lo:Nat):Int)∧(sliceBounds lo hi none n).2.1=((HT.bh n n hi:Nat):Int)∧(sliceBounds lo hi none n).2.2=1:=by
 refine⟨?_, ?_,rfl⟩
 ·cases lo with
  | none=>simp[sliceBounds,HT.bh]
  | some i=>
   simp only[sliceBounds,HT.bh,Option.getD_none,show(1:Int) >0 by decide,if_true]
   by_cases h:i<0
   ·simp only[h,if_true] <;>omega
   ·simp only[h,if_false] <;>omega
 ·cases hi with
  | none=>simp[sliceBounds,HT.bh]
  | some i=>
   simp only[sliceBounds,HT.bh,Option.getD_none,show(1:Int) >0 by decide,if_true]
   by_cases h:i<0
   ·simp only[h,if_true] <;>omega
   ·simp only[h,if_false] <;>omega
theorem Vr(its:List Value)(lo hi:Option Int):slicePick its.toArray lo hi none=((its.drop (HT.bh its.length 0 lo)).take (HT.bh its.length its.length hi - HT.bh its.length 0 lo)).toArray:=by
 obtain⟨h1,h2,h3⟩:=Be lo hi its.toArray.size
 unfold slicePick
 rw[h1,h2,h3]
 simp only[sliceRange_one,pick_run,List.size_toArray] <;>rfl
def Vs(K:PySem.W.Frag):V→Option Int→Option Int→Hp→VK→Prop:=fun x lo hi H Q=> ∃a xs,x= .ref a∧ao K H a xs∧ ∀p,H p=none→Q (.ref p) (upd H p (.lst (fJ xs lo hi)))
theorem Vt:x_ X (Vs X.K):=by
 intro pins s σ H x v vl vu lo hi sl Q I rx hs pl pu h
 obtain⟨a,xs,rfl,hx,q⟩:=h
 cases rx
 obtain⟨its,r,ht,hz⟩:=I.list hx
 have hlen:=r.length
 refine⟨"list",_,slot_list_getitem.lookup,ht.isList.typeIs, ?_⟩
 refine wpAny_getItem_list_slice ht.isList hs pl pu .none (by simp) ?_ (by rw[List.size_toArray] <;>omega)
 rw[Vr,←hlen]
 refine⟨.ref s.heap.objs.size,_,I.laid (t':=s.toks) (o:= .lst (fJ xs lo hi)) (fun b ob q=>Heap.get?_push_of_some _ q) (Nat.le_refl _) ?_,rfl,q _ (I.aB.fresh (Nat.le_refl _))⟩
 exact⟨Nat.le_trans (Lf xs lo hi) hz,_,0,(r.drop (HT.bh xs.length 0 lo)).take (HT.bh xs.length xs.length hi - HT.bh xs.length 0 lo),Heap.get?_push_size _ rfl⟩
def eG:V→Bool
 | .aw=>true
 | .bl _=>true
 | .int _=>true
 | .str _=>true
 | _=>false
def eS:V→V→Bool
 | .aw, .aw=>true
 | .bl a, .bl b=>a==b
 | .bl a, .int b=> (if a then 1 else 0)==b
 | .int a, .bl b=>a==(if b then 1 else 0)
 | .int a, .int b=>a==b
 | .str a, .str b=>a==b
 | _,_=>false
theorem Vu{A:Around}{s:Shared}{y x:V}{u v:Value}(ry:RelV y u)(rx:RelV x v)(fy:eG y=true)(fx:eG x=true):SeqAt.EqAt A s u v (eS y x):=by
 cases y with
 | aw=>
  cases ry
  cases x with
  | aw=>cases rx;exact SeqAt.EqAt.same _
  | bl b=>cases rx;exact SeqAt.EqAt.none_bool b
  | int b=>obtain⟨t,rfl⟩:=rx;exact SeqAt.EqAt.none_int b t
  | str b=>obtain⟨t,rfl⟩:=rx;exact SeqAt.EqAt.none_str b t
  | _=>exact absurd (show false=true from fx) Bool.false_ne_true
 | bl a=>
  cases ry
  cases x with
  | aw=>cases rx;exact SeqAt.EqAt.bool_none a
  | bl b=>cases rx;exact SeqAt.EqAt.bool_bool a b
  | int b=>obtain⟨t,rfl⟩:=rx;exact SeqAt.EqAt.bool_int a b t
  | str b=>obtain⟨t,rfl⟩:=rx;exact SeqAt.EqAt.bool_str a b t
  | _=>exact absurd (show false=true from fx) Bool.false_ne_true
 | int a=>
  obtain⟨t',rfl⟩:=ry
  cases x with
  | aw=>cases rx;exact SeqAt.EqAt.int_none a t'
  | bl b=>cases rx;exact SeqAt.EqAt.int_bool a t' b
  | int b=>obtain⟨t,rfl⟩:=rx;exact SeqAt.EqAt.int_int a t' b t
  | str b=>obtain⟨t,rfl⟩:=rx;exact SeqAt.EqAt.int_str a t' b t
  | _=>exact absurd (show false=true from fx) Bool.false_ne_true
 | str a=>
  obtain⟨t',rfl⟩:=ry
  cases x with
  | aw=>cases rx;exact SeqAt.EqAt.str_none a t'
  | bl b=>cases rx;exact SeqAt.EqAt.str_bool a t' b
  | int b=>obtain⟨t,rfl⟩:=rx;exact SeqAt.EqAt.str_int a t' b t
  | str b=>obtain⟨t,rfl⟩:=rx;exact SeqAt.EqAt.str_str a t' b t
  | _=>exact absurd (show false=true from fx) Bool.false_ne_true
 | _=>exact absurd (show false=true from fy) Bool.false_ne_true
def dW(x:V)(u:Value):Bool:=match u with
 | .none=>eS .aw x
 | .bool b=>eS (.bl b) x
 | .int i _=>eS (.int i) x
 | .str z _=>eS (.str z) x
 | _=>false
theorem ya{x y:V}{u:Value}(r:RelV y u)(f:eG y=true):dW x u=eS y x:=by
 cases y with
 | aw=>cases r;rfl
 | bl b=>cases r;rfl
 | int i=>obtain⟨t,rfl⟩:=r;rfl
 | str z=>obtain⟨t,rfl⟩:=r;rfl
 | _=>exact absurd (show false=true from f) Bool.false_ne_true
theorem uz{x:V}: ∀{xs:List V} {us:List Value},Vals xs us→xs.all eG=true→us.any (dW x)=xs.any fun y=>eS y x
 | _,_, .nil,_=>rfl
 | y::xs,u::us, .cons r t,f=>by
  rw[List.all_cons,Bool.and_eq_true] at f
  rw[List.any_cons,List.any_cons,ya r f.1,uz t f.2]
theorem oJ{A:Around}{s:Shared}{x:V}{v:Value}(rx:RelV x v)(fx:eG x=true): ∀{xs:List V} {us:List Value},Vals xs us→xs.all eG=true→ ∀u∈us,SeqAt.EqAt A s u v (dW x u)
 | _,_, .nil,_=>fun u hu=>by cases hu
 | y::xs,u::us, .cons r t,f=>fun u' hu=>by
  rw[List.all_cons,Bool.and_eq_true] at f
  rcases List.mem_cons.mp hu with rfl | hu
  ·rw[ya r f.1];exact Vu r rx f.1 fx
  ·exact oJ rx fx t f.2 u' hu
def gf(x:V)(xs:List V):Bool:=xs.any fun y=>eS y x
def Bf(K:PySem.W.Frag)(neg:Bool):R2:=fun x y H Q=> ∃p xs,y= .ref p∧(ao K H p xs∨aI K H p xs)∧eG x=true∧xs.all eG=true∧Q (.bl (if neg then !gf x xs else gf x xs)) H
theorem Vv:bA X (compareOp .In) (Bf X.K false):=by
 intro pins s σ H x y v u Q I rx ry h
 obtain⟨p,xs,rfl,hq,fx,fs,q⟩:=h
 cases ry
 rcases hq with hq | hq
 ·obtain⟨its,r,pl,hz⟩:=I.list hq
  refine SeqAt.in_listAt (dW x) pl.isList (fun w hw=>oJ rx fx r fs w (by simpa using hw)) ⟨.bl _,H,I,rfl, ?_⟩
  rw[show its.toArray.any (dW x)=its.any (dW x) by simp,uz r fs]
  exact q
 ·obtain⟨its,r,pl,hz⟩:=I.tuple hq
  refine SeqAt.in_tupleAt (dW x) pl (fun w hw=>oJ rx fx r fs w (by simpa using hw)) ⟨.bl _,H,I,rfl, ?_⟩
  rw[show its.toArray.any (dW x)=its.any (dW x) by simp,uz r fs]
  exact q
theorem Vw:bA X (compareOp .NotIn) (Bf X.K true):=by
 intro pins s σ H x y v u Q I rx ry h
 obtain⟨p,xs,rfl,hq,fx,fs,q⟩:=h
 cases ry
 rcases hq with hq | hq
 ·obtain⟨its,r,pl,hz⟩:=I.list hq
  refine SeqAt.notIn_listAt (dW x) pl.isList (fun w hw=>oJ rx fx r fs w (by simpa using hw)) ⟨.bl _,H,I,rfl, ?_⟩
  rw[show its.toArray.any (dW x)=its.any (dW x) by simp,uz r fs]
  exact q
 ·obtain⟨its,r,pl,hz⟩:=I.tuple hq
  refine SeqAt.notIn_tupleAt (dW x) pl (fun w hw=>oJ rx fx r fs w (by simpa using hw)) ⟨.bl _,H,I,rfl, ?_⟩
  rw[show its.toArray.any (dW x)=its.any (dW x) by simp,uz r fs]
  exact q
theorem cE.or{f:Value}{r r':List V→Hp→VK→Prop}(h:cE X f r)(h':cE X f r'):cE X f (fun xs H Q=>r xs H Q∨r' xs H Q):=by
 intro pins s σ H xs us Q I rs q
 rcases q with q | q
 ·exact h pins s σ H xs us Q I rs q
 ·exact h' pins s σ H xs us Q I rs q
theorem Vx:cE X (.type "list") (fun xs H Q=> ∃p ys,xs=[.ref p]∧(ao X.K H p ys∨aI X.K H p ys)∧ ∀l,H l=none→Q (.ref l) (upd H l (.lst ys))):=by
 intro pins s σ H xs us Q I r h
 obtain⟨p,ys,rfl,hq,q⟩:=h
 obtain⟨u,rfl,rx⟩:=vals1 r
 cases rx
 have fin: ∀(its:List Value),Vals ys its→ys.length≤sizeLine→ ∀(h':Heap) (c':Nat),(∀b o',s.heap.get? b=some o'→h'.get? b=some o')→
   h'.get? s.heap.objs.size=some {cls:= .type "list",dict:=none,data:= .seq its.toArray c',slots:= #[]}→EP X pins σ Q (.ref s.heap.objs.size) {s with heap:=h'}:=fun its r' hz h' c' kp e=>
  ⟨.ref s.heap.objs.size,_,I.laid (t':=s.toks) kp (Nat.le_refl _) (show cx X.prog X.w _ h' _ (.lst ys) from⟨hz,its,c',r',e⟩),rfl,q _ (I.aB.fresh (Nat.le_refl _))⟩
 rcases hq with hq | hq
 ·obtain⟨its,r',pl,hz⟩:=I.list hq
  have hlen:=r'.length
  obtain⟨o,ho,hc,n,hd⟩:=pl.isList
  exact call_list_seq p (.inl rfl) ho hc hd (fun h' c' kp e=>fin its r' hz h' c' kp e) (by simp only[List.size_toArray] <;>omega)
 ·obtain⟨its,r',pl,hz⟩:=I.tuple hq
  have hlen:=r'.length
  obtain⟨o,ho,hc,n,hd⟩:=pl
  exact call_list_seq p (.inr rfl) ho hc hd (fun h' c' kp e=>fin its r' hz h' c' kp e) (by simp only[List.size_toArray] <;>omega)
theorem Vy:cE X (.type "tuple") (fun xs H Q=> ∃p ys,xs=[.ref p]∧((ao X.K H p ys∧ ∀l,H l=none→Q (.ref l) (upd H l (.tup ys)))∨(aI X.K H p ys∧Q (.ref p) H))):=by
 intro pins s σ H xs us Q I r h
 obtain⟨p,ys,rfl,h⟩:=h
 obtain⟨u,rfl,rx⟩:=vals1 r
 cases rx
 rcases h with⟨hq,q⟩ | ⟨hq,q⟩
 ·obtain⟨its,r',pl,hz⟩:=I.list hq
  have hlen:=r'.length
  refine call_tuple_list pl.isList (fun h' kp=> ?_) (by simp only[List.size_toArray] <;>omega)
  have I1:Inv X pins σ H {s with heap:=h'}:=I.kept (t':=s.toks) kp
  have I2:Inv X pins σ (upd H h'.objs.size (.tup ys)) {s with heap:=h'.push {cls:= .type "tuple",data:= .seq its.toArray}}:=
   I1.laid (t':=s.toks) (fun b o e=>Heap.get?_push_of_some _ e) (Nat.le_refl _) (show cx X.prog X.w _ _ _ (.tup ys) from⟨hz,its,r',IsTup.new _ _⟩)
  exact⟨.ref h'.objs.size,_,I2,rfl,q _ (I1.aB.fresh (Nat.le_refl _))⟩
 ·obtain⟨its,r',pl,hz⟩:=I.tuple hq
  exact call_tuple_same pl ⟨.ref p,H,I,rfl,q⟩
def uA(K:PySem.W.Frag)(T:String)(x:V)(H:Hp):Prop:=match x with
 | .str _=>T="str"
 | .int _=>T="int"
 | .ref p=> (T="list"∧ ∃xs,ao K H p xs)∨(T="tuple"∧ ∃o,K.lookup p=some o∧o.cls= .type "tuple"∧o.dict=none)∨
   (T="dict"∧((∃ah,H p=some (.dK ah))∨ ∃ah,H p=some (.dT ah)))∨(T="set"∧ ∃S n,H p=some (.set S n))
 | _=>False
theorem Lm{pins:List (Addr×Obj)}{σ:St}{H:Hp}{s:Shared}{T:String}{x:V}{v:Value}(I:Inv X pins σ H s)(r:RelV x v)(ty:uA X.K T x H):
  s.TypeIs v T∧ ∀a,v= .ref a→ ∃ob,s.heap.get? a=some ob∧ob.dict=none:=by
 cases x with
 | str z=>
  obtain⟨t,rfl⟩:=r
  cases (show T="str" from ty)
  exact⟨typeIs_str s z t,fun _ e=>nomatch e⟩
 | int i=>
  obtain⟨t,rfl⟩:=r
  cases (show T="int" from ty)
  exact⟨typeIs_int s i t,fun _ e=>nomatch e⟩
 | ref p=>
  cases r
  rcases ty with⟨rfl,xs,hq⟩ | ⟨rfl,o,hk,hc,hd⟩ | ⟨rfl,hk⟩ | ⟨rfl,S,n,hk⟩
  ·obtain⟨its,_,pl,_⟩:=I.list hq
   refine⟨pl.isList.typeIs,fun a e=> ?_⟩
   cases e
   obtain⟨o,n,e,c,hd,_⟩:=pl
   exact⟨o,e,hd⟩
  ·refine⟨⟨o,I.cT p o hk,hc⟩,fun a e=> ?_⟩
   cases e
   exact⟨o,I.cT _ o hk,hd⟩
  ·have z: ∃o,s.heap.get? p=some o∧o.ExactDict:=by
    rcases hk with⟨ah,hk⟩ | ⟨ah,hk⟩
    ·obtain⟨_,_,_,_,o,_,_,e,ex,_⟩:=I.aB p _ hk
     exact⟨o,e,ex⟩
    ·obtain⟨_,_,_,_,o,_,_,e,ex,_⟩:=I.aB p _ hk
     exact⟨o,e,ex⟩
   obtain⟨o,e,ex⟩:=z
   refine⟨⟨o,e,ex.1⟩,fun a e2=> ?_⟩
   cases e2
   exact⟨o,e,ex.2.1⟩
  ·obtain⟨o,_,_,_,e,ex,_⟩:=I.aB p _ hk
   refine⟨⟨o,e,ex.1⟩,fun a e2=> ?_⟩
   cases e2
   exact⟨o,e,ex.2.1⟩
 | _=>exact False.elim ty
def Vz(K:PySem.W.Frag)(T:String)(r:V→List V→Hp→VK→Prop)(to:TE):TE:=fun σ H Q=>to σ H fun x H1=>uA K T x H1∧r x [] H1 Q
def VA(K:PySem.W.Frag)(T:String)(r:V→List V→Hp→VK→Prop)(to:TE)(t:TA):TE:=fun σ H Q=>to σ H fun x H1=>uA K T x H1∧t σ H1 fun xs H2=>r x xs H2 Q
variable {o e:Expr} {es:List Expr} {to:TE} {t:TA} {name:Str} {apos cL:Pos} {T id:String} {r:V→List V→Hp→VK→Prop}
theorem VB(pa:PlainAttrs T)(slot:Slot T name id)(Bg:typeOf (.builtin id)=pure (.type "method_descriptor"))(hm:kO X id r)(ho:PE X o to)
  (Bh:attributeBase o name X.env (eval o X.env)=eval o X.env:=by rfl) (Bi:(apos.endLine==cL.line)=true:=by rfl):PE X (.Call (.Attribute o name apos) [] [] cL) (Vz X.K T r to):=by
 intro pins s σ H Q I h
 refine wpAny_Call_method0_late Bh Bi (aN (ho pins s σ H _ I h) fun v s1 ⟨x,H1,I1,r1,ty,q1⟩=> ?_)
 obtain⟨h1,h2⟩:=Lm I1 r1 ty
 exact⟨T,id,pa,slot,Bg,h1,h2,Calls.callWith_builtin rfl (PySem.evalArgs_none (hm pins s1 σ H1 x [] v [] Q I1 r1 .nil q1))⟩
theorem VC(pa:PlainAttrs T)(slot:Slot T name id)(Bg:typeOf (.builtin id)=pure (.type "method_descriptor"))(hm:kO X id r)(ho:PE X o to)(ha:PA X (e::es) t)
  (Bh:attributeBase o name X.env (eval o X.env)=eval o X.env:=by rfl)
  (VD:((backTo cL (starEach (e::es) X.env)).all (fun x=> !x.1) && (backToKw cL (keywordEach [] X.env)).all (fun x=>x.1.isSome)
   && decide ((e::es).length+ ([]:List Keyword).length+ (if ([]:List Keyword).isEmpty then 0 else 1) <30))=true:=by rfl)
  (Bi:(apos.endLine==cL.line)=true:=by rfl) (hs:starEach (e::es) X.env=(false,eval e X.env)::starEach es X.env:=by rfl) (VE:(backTo cL (starEach es X.env)).any (·.1)=false:=by rfl):
  PE X (.Call (.Attribute o name apos) (e::es) [] cL) (VA X.K T r to t):=by
 intro pins s σ H Q I h
 refine wpAny_Call_method_late Bh VD Bi rfl (aN (ho pins s σ H _ I h) fun v s1 ⟨x,H1,I1,r1,ty,q1⟩=> ?_)
 obtain⟨h1,h2⟩:=Lm I1 r1 ty
 refine⟨T,id,pa,slot,Bg,h1,h2, ?_⟩
 have hA:=ha cL pins s1 σ H1 _ I1 q1
 rw[hs] at hA⊢
 refine Calls.callWith_builtin (by show(false || (backTo cL (starEach es X.env)).any (·.1))=false;rw[VE] <;>rfl) (Calls.evalArgs_plain ?_)
 exact aN hA fun us s2 ⟨vs,H2,I2,r2,q2⟩=>hm pins s2 σ H2 x vs v us Q I2 r1 r2 q2
end
def uB(X:Cx)(id:String)(r:V→List V→Hp→VK→Prop):Prop:=
 ∀(pins:List (Addr×Obj)) (s:Shared) (σ:St) (H:Hp) (x:V) (xs:List V) (v:Value) (us:List Value) (Q:VK),Inv X pins σ H s→RelV x v→Vals xs us→r x xs H Q→
  wpAny (model X.prog X.w) X.A (call (.builtin id) (v::us)) (EP X pins σ Q) X.xe s
theorem Vals.one: ∀{x:V} {us:List Value},Vals [x] us→ ∃u,us=[u]∧RelV x u
 | _,_, .cons r .nil=> ⟨_,rfl,r⟩
theorem Vals.zero: ∀{us:List Value},Vals [] us→us=[]
 | _, .nil=>rfl
theorem Vals.dropLast{xs:List V}{us:List Value}(h:Vals xs us):Vals xs.dropLast us.dropLast:=by
 induction h with
 | nil=>exact .nil
 | cons r t ih=>
  cases t with
  | nil=>exact .nil
  | cons q t'=>exact .cons r ih
theorem Vals.reverse{xs:List V}{us:List Value}(h:Vals xs us):Vals xs.reverse us.reverse:=by
 induction h with
 | nil=>exact .nil
 | cons r t ih=>rw[List.reverse_cons,List.reverse_cons];exact Vals.append ih (.cons r .nil)
theorem Vals.rep{xs:List V}{us:List Value}(h:Vals xs us): ∀k:Nat,Vals (List.replicate k xs).flatten (List.replicate k us).flatten
 | 0=> .nil
 | k+1=>by
  rw[List.replicate_succ,List.replicate_succ,List.flatten_cons,List.flatten_cons]
  exact Vals.append h (Vals.rep h k)
theorem VF{α:Type}(l:List α):l.eraseIdx (l.length - 1)=l.dropLast:=by
 induction l with
 | nil=>rfl
 | cons a r ih=>
  cases r with
  | nil=>rfl
  | cons b r=>
   have e:(a::b::r).length - 1=((b::r).length - 1)+1:=by
    have h1:(a::b::r).length=r.length+2:=rfl
    have h2:(b::r).length=r.length+1:=rfl
    omega
   rw[e,List.eraseIdx_cons_succ,ih]
   all_goals rfl
theorem foldl_rep(its:List Value): ∀(k:Nat) (acc:List Value),
  List.foldl (fun x1 x2=>x1++x2) acc.toArray (List.replicate k its.toArray)=(acc++ (List.replicate k its).flatten).toArray
 | 0,acc=>by simp
 | k+1,acc=>by
  have e:acc.toArray++its.toArray=(acc++its).toArray:=by simp
  have e2:(acc++its)++ (List.replicate k its).flatten=acc++ (List.replicate (k+1) its).flatten:=by
   rw[List.replicate_succ,List.flatten_cons,List.append_assoc]
  rw[←e2,←foldl_rep its k (acc++its),←e,List.replicate_succ,List.foldl_cons]
section
variable {X:Cx} {pins:List (Addr×Obj)} {σ:St} {H:Hp} {s:Shared} {l b:Addr} {xs ys zs:List V}
theorem Inv.uC{its fZ:List Value}{n:Nat}{f:Array Value→Array Value}{t':Nat}(I:Inv X pins σ H s)(hH:H l=some (.lst xs))
  (e:s.heap.get? l=some {cls:= .type "list",data:= .seq its.toArray n}) (hf:f its.toArray=fZ.toArray) (hv:Vals ys fZ) (hz:ys.length≤sizeLine):
  Inv X pins σ (upd H l (.lst ys)) {s with heap:=s.heap.update l (Obj.mapSeq f),toks:=t'}:=by
 have q:=PySem.IsL.update e f
 rw[hf] at q
 refine I.write (x:=l) (e:=l) (by rw[hH];exact trivial) (.inl rfl) (fun b' u hb hu=> (Heap.get?_update_other s.heap (Obj.mapSeq f) (Ne.symm hb)).trans hu) ⟨_,q⟩ ?_
 exact⟨hz,fZ,_,hv,q⟩
theorem Inv.Ln{its:List Value}{t':Nat}(I:Inv X pins σ H s)(hv:Vals ys its)(hz:ys.length≤sizeLine):
  Inv X pins σ (upd H s.heap.objs.size (.lst ys)) {s with heap:=s.heap.push {cls:= .type "list",data:= .seq its.toArray},toks:=t'}:=
 I.laid (fun _ _ q=>Heap.get?_push_of_some _ q) (Nat.le_refl _) ⟨hz,its,0,hv,Heap.get?_push_size _ rfl⟩
theorem Inv.fresh(I:Inv X pins σ H s):H s.heap.objs.size=none:=I.aB.fresh (Nat.le_refl _)
theorem Inv.kP(I:Inv X pins σ H s)(hH:H l=some (.lst xs)):xs.length≤sizeLine∧ ∃(its:List Value) (n:Nat),Vals xs its∧xs.length=its.length∧s.heap.get? l=some {cls:= .type "list",data:= .seq its.toArray n}:=by
 obtain⟨z,its,n,r,e⟩:=I.aB l _ hH
 exact⟨z,its,n,r,r.length,e⟩
theorem Lo{n:Nat}(h:n≤sizeLine):Builtin.List.listTooLong n=false:=by
 unfold Builtin.List.listTooLong
 exact decide_eq_false (by omega)
end
section
variable {X:Cx}
def VG:V→List V→Hp→VK→Prop:=fun x vs H Q=> ∃l xs y,x= .ref l∧vs=[y]∧H l=some (.lst xs)∧xs.length<sizeLine∧Q .aw (upd H l (.lst (xs++ [y])))
theorem VH:uB X "list.append" VG:=by
 intro pins s σ H x vs v us Q I rx rv h
 obtain⟨l,xs,y,rfl,rfl,hH,hz,q⟩:=h
 cases rx
 obtain⟨u,rfl,ru⟩:=rv.one
 obtain⟨z,its,n,r,hl,e⟩:=I.kP hH
 refine call_meets F.slot_list_append ⟨_,e,rfl⟩ F.entry_list_append (F.args_list_append_2 _ _) (PySem.list_append l its.toArray n u (by rw[List.size_toArray];omega)) ⟨e, ?_⟩
 refine⟨.aw,_,I.uC (fZ:=its++ [u]) hH e (by simp) (r.append (.cons ru .nil)) ?_,rfl,q⟩
 rw[List.length_append,List.length_singleton]
 omega
def VI:V→List V→Hp→VK→Prop:=fun x vs H Q=> ∃l b xs zs,x= .ref l∧vs=[.ref b]∧H l=some (.lst xs)∧H b=some (.lst zs)∧xs.length+zs.length≤sizeLine∧Q .aw (upd H l (.lst (xs++zs)))
theorem VJ:uB X "list.extend" VI:=by
 intro pins s σ H x vs v us Q I rx rv h
 obtain⟨l,b,xs,zs,rfl,rfl,hH,hB,hz,q⟩:=h
 cases rx
 obtain⟨u,rfl,ru⟩:=rv.one
 cases ru
 obtain⟨z,its,n,r,hl,e⟩:=I.kP hH
 obtain⟨z2,fK,n2,r2,je,e2⟩:=I.kP hB
 have hsz:its.toArray.size+fK.toArray.size≤sizeLine:=by rw[List.size_toArray,List.size_toArray];omega
 have Bj: ¬(!its.toArray.isEmpty && Builtin.List.listTooLong (its.toArray.size+fK.toArray.size))=true:=by
  rw[Lo hsz,Bool.and_false]
  exact Bool.false_ne_true
 refine call_meets F.slot_list_extend ⟨_,e,rfl⟩ F.entry_list_extend (F.args_list_extend_2 _ _)
  (AutoSeq1.list_extend_list_list_0 l its.toArray n b fK.toArray n2 Bj (by rw[List.size_toArray];omega) (by omega)) ⟨e,e2, ?_⟩
 refine⟨.aw,_,I.uC (fZ:=its++fK) hH e (by simp) (r.append r2) ?_,rfl,q⟩
 rw[List.length_append]
 omega
def VL:V→List V→Hp→VK→Prop:=fun x vs H Q=> ∃l xs y,x= .ref l∧vs=[]∧H l=some (.lst xs)∧xs[xs.length - 1]?=some y∧Q y (upd H l (.lst xs.dropLast))
theorem VM:uB X "list.pop" VL:=by
 intro pins s σ H x vs v us Q I rx rv h
 obtain⟨l,xs,y,rfl,rfl,hH,hy,q⟩:=h
 cases rx
 have uD:=rv.zero
 subst uD
 obtain⟨z,its,n,r,hl,e⟩:=I.kP hH
 obtain⟨u,hu,ru⟩:=r.get hy
 have Bk:its.toArray[its.toArray.size - 1]?=some u:=by
  show its.toArray[its.length - 1]?=some u
  rw[←Array.getElem?_toList,←hl]
  exact hu
 refine call_meets F.slot_list_pop ⟨_,e,rfl⟩ F.entry_list_pop (F.args_list_pop_1 _) (MeetsSeq.list_pop_last l its.toArray n u Bk (by rw[List.size_toArray];omega)) ⟨e, ?_⟩
 refine⟨y,_,I.uC (fZ:=its.dropLast) hH e ?_ r.dropLast ?_,ru,q⟩
 ·show its.toArray.eraseIdxIfInBounds (its.toArray.size - 1)=its.dropLast.toArray
  rw[List.size_toArray,List.eraseIdxIfInBounds_toArray,VF]
 ·rw[List.length_dropLast]
  omega
def VN:V→List V→Hp→VK→Prop:=fun x vs H Q=> ∃l xs,x= .ref l∧vs=[]∧H l=some (.lst xs)∧Q .aw (upd H l (.lst xs.reverse))
theorem VO:uB X "list.reverse" VN:=by
 intro pins s σ H x vs v us Q I rx rv h
 obtain⟨l,xs,rfl,rfl,hH,q⟩:=h
 cases rx
 have uD:=rv.zero
 subst uD
 obtain⟨z,its,n,r,hl,e⟩:=I.kP hH
 refine call_meets F.slot_list_reverse ⟨_,e,rfl⟩ F.entry_list_reverse (F.args_list_reverse_1 _) (AutoSeq1.list_reverse_list_0 l its.toArray n (by rw[List.size_toArray];omega)) ⟨e, ?_⟩
 refine⟨.aw,_,I.uC (fZ:=its.reverse) hH e (by simp) r.reverse ?_,rfl,q⟩
 rw[List.length_reverse]
 omega
def VP:V→List V→Hp→VK→Prop:=fun x vs H Q=> ∃l xs,x= .ref l∧vs=[]∧H l=some (.lst xs)∧Q .aw (upd H l (.lst []))
theorem VQ:uB X "list.clear" VP:=by
 intro pins s σ H x vs v us Q I rx rv h
 obtain⟨l,xs,rfl,rfl,hH,q⟩:=h
 cases rx
 have uD:=rv.zero
 subst uD
 obtain⟨z,its,n,r,hl,e⟩:=I.kP hH
 refine call_meets F.slot_list_clear ⟨_,e,rfl⟩ F.entry_list_clear (F.args_list_clear_1 _) (AutoSeq1.list_clear_list_0 l its.toArray n (by rw[List.size_toArray];omega)) ⟨e, ?_⟩
 exact⟨.aw,_,I.uC (fZ:=[]) (ys:=[]) hH e rfl .nil (Nat.zero_le _),rfl,q⟩
def Lp:R2:=fun x y H Q=> ∃l b xs zs,x= .ref l∧y= .ref b∧H l=some (.lst xs)∧H b=some (.lst zs)∧xs.length+zs.length≤sizeLine∧ ∀p,H p=none→Q (.ref p) (upd H p (.lst (xs++zs)))
theorem VR:bA X (binaryOp .Add) Lp:=by
 intro pins s σ H x y v u Q I rx ry h
 obtain⟨l,b,xs,zs,rfl,rfl,hH,hB,hz,q⟩:=h
 cases rx
 cases ry
 obtain⟨z,its,n,r,hl,e⟩:=I.kP hH
 obtain⟨z2,fK,n2,r2,je,e2⟩:=I.kP hB
 refine PySem.P.add_list e e2 ?_ (by rw[List.size_toArray,List.size_toArray];omega)
 have ea:its.toArray++fK.toArray=(its++fK).toArray:=by simp
 rw[ea]
 exact⟨.ref _,_,I.Ln (t':=s.toks) (r.append r2) (by rw[List.length_append];omega),rfl,q _ I.fresh⟩
def Lq:R2:=fun x y H Q=> ∃l k xs,x= .ref l∧y= .int k∧H l=some (.lst xs)∧ -(2 ^ 63)≤k∧k<2 ^ 63∧xs.length*k.toNat≤sizeLine∧
 ∀p,H p=none→Q (.ref p) (upd H p (.lst (List.replicate k.toNat xs).flatten))
theorem len_rep{α:Type}(xs:List α)(k:Nat):(List.replicate k xs).flatten.length=k*xs.length:=by
 induction k with
 | zero=>simp
 | succ k ih=>rw[List.replicate_succ,List.flatten_cons,List.length_append,ih,Nat.succ_mul,Nat.add_comm]
theorem VS:bA X (binaryOp .Mult) Lq:=by
 intro pins s σ H x y v u Q I rx ry h
 obtain⟨l,k,xs,rfl,rfl,hH,h1,h2,hz,q⟩:=h
 cases rx
 obtain⟨t,rfl⟩:=ry
 obtain⟨z,its,n,r,hl,e⟩:=I.kP hH
 have hlen:its.toArray.size*k.toNat≤sizeLine:=by rw[List.size_toArray,←hl];exact hz
 have VT: ¬its.toArray.size*k.toNat> (2 ^ 63 - 1) / 8:=by
  have:(sizeLine:Nat)≤ (2 ^ 63 - 1) / 8:=by decide
  omega
 have VU: ¬(!Builtin.List.listFitsIndex k)=true:=by
  rw[fitsIndex_both h1 h2]
  exact Bool.false_ne_true
 have Bj: ¬Builtin.List.listTooLong (its.toArray.size*k.toNat)=true:=by
  rw[Lo hlen]
  exact Bool.false_ne_true
 have VV:List.foldl (fun x1 x2=>x1++x2) #[] (List.replicate (if its.toArray.isEmpty=true then 0 else k.toNat) its.toArray)=(List.replicate k.toNat its).flatten.toArray:=by
  have f0: ∀m:Nat,List.foldl (fun x1 x2=>x1++x2) #[] (List.replicate m its.toArray)=(List.replicate m its).flatten.toArray:=fun m=>by
   have:=foldl_rep its m []
   rw[List.nil_append] at this
   exact this
  rw[f0]
  cases its with
  | nil=>simp
  | cons a r'=>rw[if_neg (by simp)]
 refine wpAny_binaryOp_repeat_ref (T:="list") (U:="int") (by decide) ⟨_,e,rfl⟩ (fun s'=>typeIs_int s' k t) noFill_list_mul F.fills_int_mul F.slot_int_rmul repeat_list F.slot_int_index.lookup
  (call_meets F.slot_int_rmul (typeIs_int s k t) F.entry_int_rmul (F.args_int_rmul_2 _ _) (int___rmul___int_list k t l its.toArray n)
   ⟨e,rfl,⟨_,e,rfl⟩,call_meets F.slot_list_mul ⟨_,e,rfl⟩ F.entry_list_mul (F.args_list_mul_2 _ _) (AutoListH.list___mul___list_int_3 l its.toArray n k t VU VT Bj) ⟨e, ?_⟩⟩)
 rw[VV]
 exact⟨.ref _,_,I.Ln (t':=s.toks) (r.rep k.toNat) (by rw[len_rep,Nat.mul_comm];exact hz),rfl,q _ I.fresh⟩
end
section
variable {prog:Program} {w:World} {A:Around} {E:Value→Shared→Prop} {s:Shared}
end
section
variable {X:Cx}
end
end L2
namespace Lr
open PySem PySem.W PySem.Calls PyProof.Rows
theorem VW{P:Params}{h:Heap}: ∀(ns:List Int) (vs:List Value),WellAll P h vs (ns.map WData.int)→IntsAre vs ns:=by
 intro ns
 induction ns with
 | nil=>
  intro vs w
  rw[List.map_nil] at w
  cases w
  exact .nil
 | cons n ns ih=>
  intro vs w
  rw[List.map_cons] at w
  cases w with
  | cons a b=>
   cases a
   exact .cons _ _ (ih _ b)
theorem VX{l:OpenLaw}{n:Nat}(hn:l.most=some n){P:Params}{h:Heap}{args:List WData}{vals:List Value}
  (kQ:l.row.toRowW.claim.pre args=true) (yb:WellAll P h vals args):
  ∃a vs ns,vals=[Value.ref a]∧args=[WData.list (ns.map WData.int)]∧h.get? a=some {cls:= .type "list",data:= .seq vs.toArray}∧IntsAre vs ns∧ns.length≤n:=by
 have VY:WShape.hasAll [] args [.list .int]=true:=(pre_splitW kQ).1
 have hc:l.pre.holds [] {args:=args}=true:=(pre_splitW kQ).2
 obtain⟨d,r,rfl,h1,h2⟩:=hasAllW_cons VY
 obtain rfl:=hasAllW_nil h2
 obtain⟨xs,rfl,h3⟩:=hasW_list h1
 obtain⟨ns,rfl⟩:=items_int h3
 have hlen:ns.length≤n:=by
  unfold OpenLaw.pre at hc
  have h4:(WTm.not (.lt (.lit (.int (n:Int))) (.len (.arg 0)))).holds [] {args:=[.list (ns.map .int)]}=true:=by
   have h4:=(holds_andW hc).1
   rw[hn] at h4
   exact h4
  have h5:=condW_of h4 (w_not (w_lt w_lit (w_len_list (w_arg rfl))))
  rw[List.length_map] at h5
  refine Nat.le_of_not_lt fun q=> ?_
  have q':(n:Int) < ((ns.length:Nat):Int):=by omega
  first
   | (rw[decide_eq_true q'] at h5;exact absurd h5 (by decide))
   | (simp at h5;omega)
 cases yb with
 | cons w1 w2=>
  cases w2
  cases w1 with
  | list ho uE=>exact⟨_,_,ns,rfl,rfl,ho,VW ns _ uE,hlen⟩
theorem VZ(l:OpenLaw)(args:List WData):l.row.toRowW.claim.post args (.bool true) args=true:=
 postW_of (r:=l.row.toRowW) (X:=(true==true))
  (show WShape.has [] (.bool true) .bool=true by first | rfl | decide | simp[WShape.has,WShape.arms,WShape.armsAll])
  (show(WTm.eq .res (.lit (.bool true))).value [] {args:=args,res:=some (.bool true),after:=args}=some (.bool (true==true)) from w_eq_bool (w_res rfl) w_lit) rfl
theorem V0{l:OpenLaw}{n:Nat}{q:Program}{loose:List Str}{XP:(Str→Option Value)→Heap→Prop}{YP:World→Heap→Prop}{d:DefRec}
  (hn:l.most=some n) (uF:d.params.defaults=[])
  (call: ∀(w:World) (s₀ s₁:Shared) (mg mb:Str→Option Value) (fa:Addr) (o:Obj) (pm cd doc:Value) (a:Addr) (vs:List Value) (ns:List Int),
   Ground q loose [] XP w s₀ mg mb s₁.heap→YP w s₁.heap→
   s₁.heap.get? fa=some o→o.data= .func (docDef d.name d.params d.body d.scope pm cd doc)→s₁.heap.CodeRec cd d.name→mg d.name=some (.ref fa)→
   s₁.heap.get? a=some {cls:= .type "list",data:= .seq vs.toArray}→IntsAre vs ns→ns.length≤n→s₁.gens= #[]→
   codeAny (model l.prog w) callerA (.call (.ref fa) ⟨[.ref a],[]⟩) (fun r s'=>r= .ok (.ret (.bool true))∧OldK s₁.heap s'.heap∧s'.os=s₁.os∧AllBare s'.gens) s₁):
  WalkO q loose XP YP l.row.toRowW d [] (fun f vs=>PySem.call f vs):=by
 intro w s₀ s₁ mg mb G Y fa o pm cd doc dV kV ho hd fH hD kR hg args vals as kQ apM hrd yb yc
 obtain rfl:dV= .none:=Dflts.none hD uF
 obtain rfl:kV= .none:=Dflts.noKw hD
 obtain⟨a,vs,ns,rfl,rfl,Bl,hints,hlen⟩:=VX hn kQ yb
 refine enter_call (codeAny_mono (call w s₀ s₁ mg mb fa o pm cd doc a vs ns G Y ho (fd_plain hd) fH kR Bl hints hlen hg) fun r s' hq=> ?_)
 obtain⟨rfl,h2,h3,h4⟩:=hq
 exact⟨.inl ⟨.bool true, .bool true,[],rfl,fun _=>rfl, .bool true,VZ l _,fun _=> ⟨List.Pairwise.nil,fun _ hm=> (nomatch hm)⟩⟩,h2,h3,h4⟩
section
variable {prog:Program} {w:World} {A:Around} {E:Value→Shared→Prop} {s:Shared} {K:Frag}
end
end Lr
namespace L2
open PySem PySem.Spec PyProof.Rows
theorem Ls: ∀{vs:List Value} {ns:List Int},IntsAre vs ns→Vals (ns.map V.int) vs
 | _,_, .nil=> .nil
 | _,_, .cons n t h=> .cons ⟨t,rfl⟩ (Ls h)
def Bm(H:Hp):Prop:= ∀b,H b=none∨ ∃o xs,H b=some (.bL o (.lst xs))
theorem V1{P:Program}{w:World}{K:PySem.W.Frag}{mg mb:Str→Option Value}{CX:aO}{k:Nat}{fa a:Addr}{fd:FuncData}{x:Str}{sp:Sp}{s₁:Shared}{vs:List Value}{ns:List Int}
  (KX:K.In s₁.heap) (rW:s₁.heap.Ns mainGlobals mg) (hb:s₁.heap.Ns builtinsNs mb) (V2: ∀x:Str,x≠"__name__"→mb x=bootBuiltins x) (V3:s₁.heap.NoLimit) (hg:s₁.gens= #[])
  (ha:s₁.heap.get? a=some {cls:= .type "list",data:= .seq vs.toArray}) (hi:IntsAre vs ns) (hl:ns.length≤sizeLine) (hr:dh k callerA)
  (F: ∀base:Heap,K.In base→base.Ns mainGlobals mg→cB P w K mg base CX k fa fd [x] sp) (V4: ∀(s:Shared) (u:Value),BindsTo s fd ⟨[u],[]⟩ [(x,u)])
  (gc: ∀H:Hp,Bm H→ao K H a (ns.map V.int)→sp [.ref a] H (fun v _=>v= .bl true) fun _ _ _=>False)
  (Bn: ∀H e s',CX [] H s₁ (fun _ _ _=>False) e s'→False):
  codeAny (model P w) callerA (.call (.ref fa) ⟨[.ref a],[]⟩) (fun r s'=>r= .ok (.ret (.bool true))∧OldK s₁.heap s'.heap∧s'.os=s₁.os∧AllBare s'.gens) s₁:=by
 have rv:=Ls hi
 have yd:=hi.length
 have core: ∀H:Hp,Bm H→ao K H a (ns.map V.int)→bW P w H s₁.heap→(∀b,H b≠none→b=a)→(H a≠none→K.lookup a=none)→
   codeAny (model P w) callerA (.call (.ref fa) ⟨[.ref a],[]⟩) (fun r s'=>r= .ok (.ret (.bool true))∧OldK s₁.heap s'.heap∧s'.os=s₁.os∧AllBare s'.gens) s₁:=by
  intro H hO hS aB hA hK
  have mS: ∀{b:Addr} {o:Obj},s₁.heap.get? b=some o→H b=none→(ko s₁.heap H).get? b=some o:=fun e n=>Tb e n
  have uw: ∀{b:Addr} {o:Obj} {es:Array DictEntry} {ep:Nat},s₁.heap.get? b=some o→o.data= .dict es ep→H b=none:=fun {b o es ep} e d=>by
   cases q:H b with
   | none=>rfl
   | some u=>
    have e':b=a:=hA b (by rw[q];simp)
    subst e'
    rw[ha] at e;cases e
    have d':Data.seq vs.toArray _=Data.dict es ep:=d
    cases d'
  have ye: ∀{b:Addr} {m:Str→Option Value},s₁.heap.Ns b m→(ko s₁.heap H).Ns b m:=fun {b m} ⟨o,es,ep,e,d,r⟩=> ⟨o,es,ep,mS e (uw e d),d,r⟩
  have Lu:K.In (ko s₁.heap H):=fun b o e=>mS (KX b o e) (by
   cases q:H b with
   | none=>rfl
   | some u=>
    have e':b=a:=hA b (by rw[q];simp)
    subst e'
    rw[hK (by rw[q];simp)] at e;cases e)
  have hM:Mod K mg (ko s₁.heap H):=⟨Lu,ye rW,⟨mb,ye hb,V2⟩,let ⟨mc,h1,h2⟩:=V3;⟨mc,ye h1,h2⟩⟩
  have e0:kD P w K mg (ko s₁.heap H) callerA [] s₁ H:=⟨rfl,hM,fun b o e=>Tc e,Nat.le_of_eq (Ta _ _),trivial,fun b hb=>absurd (show b∈ ([]:List Addr) from hb) (by simp),aB, .of_eq hg⟩
  refine codeAny_mono ((F _ Lu (ye rW)).run callerA [] s₁ H ⟨[.ref a],[]⟩ [.ref a] [.ref a] _ _ hr e0 (V4 s₁ (.ref a)) (.cons rfl .nil) (gc H hO hS)) fun r s' h=> ?_
  cases r with
  | error e=>exact(Bn H e s' h).elim
  | ok fl=>
   cases fl with
   | next=>exact False.elim h
   | brk=>exact False.elim h
   | cont=>exact False.elim h
   | ret u=>
    obtain⟨v,H',os,bare,un,V_,r',q⟩:=h
    have q':v= .bl true:=q
    subst q'
    obtain rfl:u=Value.bool true:=r'
    refine⟨rfl,OldK.of_keep fun b o e=> ?_,os,bare⟩
    cases q:H b with
    | none=>exact un.keep b o e q (by intro z;exact absurd (show b∈ ([]:List Addr) from z) (by simp)) (by simp)
    | some u=>
     rcases hO b with z | ⟨ob,xs,z⟩
     ·rw[q] at z;cases z
     ·have z2:=un.eP b ob _ z
      obtain⟨e1,_⟩:=aB b _ z
      obtain⟨e2,_⟩:=V_ b _ z2
      rw[e] at e1;cases e1
      exact e2
 cases hk:K.lookup a with
 | some o=>
  have e:=KX a o hk
  rw[ha] at e
  cases e
  refine core (fun _=>none) (fun _=> .inl rfl) (.inr ⟨_,vs.toArray,_,hk,rfl,rfl,rfl,by rw[List.size_toArray,yd];exact hl,by simpa using rv⟩) (fun b u z=>by have z':(none:Option HO)=some u:=z;cases z') (fun b z=>absurd rfl z) fun z=>absurd rfl z
 | none=>
  refine core (fun b=>if b=a then some (.bL {cls:= .type "list",data:= .seq vs.toArray} (.lst (ns.map V.int))) else none) (fun b=> ?_) (.inl (.inr ⟨{cls:= .type "list",data:= .seq vs.toArray},if_pos rfl⟩)) (fun b u z=> ?_) (fun b z=> ?_) fun _=>hk
  ·by_cases hb:b=a
   ·exact .inr ⟨_,_,if_pos hb⟩
   ·exact .inl (if_neg hb)
  ·by_cases hb:b=a
   ·have z':=(if_pos hb).symm.trans z
    cases z'
    subst hb
    exact⟨ha,by rw[List.length_map];exact hl,vs,_,rv,ha⟩
   ·have z':=(if_neg hb).symm.trans z
    cases z'
  ·by_cases hb:b=a
   ·exact hb
   ·exact absurd (if_neg hb) z
theorem Wa{l:PySem.W.OpenLaw}{n k:Nat}{q:Program}{loose:List Str}{XP:(Str→Option Value)→Heap→Prop}{YP:World→Heap→Prop}{d:DefRec}{K:Params→PySem.W.Frag}{CX:World→aO}{sp:World→Sp}{x:Str}
  (hn:l.most=some n) (uv:n≤sizeLine) (uF:d.params.defaults=[]) (hr:dh k callerA)
  (hY: ∀(w:World) (h:Heap),YP w h→(K w.params).In h)
  (F: ∀(w:World) (mg:Str→Option Value) (fa:Addr) (h:Heap),(K w.params).In h→h.Ns mainGlobals mg→mg d.name=some (.ref fa)→
   ∃fd:FuncData,(∀(s:Shared) (u:Value),BindsTo s fd ⟨[u],[]⟩ [(x,u)])∧
    ∀base:Heap,(K w.params).In base→base.Ns mainGlobals mg→cB l.prog w (K w.params) mg base (CX w) k fa fd [x] (sp w))
  (gc: ∀(w:World) (H:Hp) (a:Addr) (ns:List Int),ns.length≤n→Bm H→ao (K w.params) H a (ns.map V.int)→sp w [.ref a] H (fun v _=>v= .bl true) fun _ _ _=>False)
  (Bn: ∀(w:World) (H:Hp) (s:Shared) (e:Value) (s':Shared),CX w [] H s (fun _ _ _=>False) e s'→False):
  PySem.W.WalkO q loose XP YP l.row.toRowW d [] (fun f vs=>PySem.call f vs):=by
 refine Lr.V0 hn uF fun w s₀ s₁ mg mb fa o pm cd doc a vs ns G Y ho hd fH kR Bl hints hlen hg=> ?_
 have KX:=hY w _ Y
 obtain⟨fd,hb,hF⟩:=F w mg fa _ KX G.T.g kR
 exact V1 KX G.T.g G.T.b G.T.builtins G.T.nolimit hg Bl hints (Nat.le_trans hlen uv) hr hF hb (fun H hO hS=>gc w H a ns hlen hO hS) fun H e s'=>Bn w H s₁ e s'
end L2
namespace L2
open PySem PySem.Spec PyProof.Rows
def inClass(s:Stmt)(j:Nat):Stmt:=match s with
 | .ClassDef _ _ _ body _ _ _ _ _ _ _=>body.getD j (.Pass ⟨0,0,0,0⟩)
 | _=> .Pass ⟨0,0,0,0⟩
def bS(s:Stmt):Arguments:=match s with
 | .FunctionDef _ a _ _ _ _ _ _ _ _=>a
 | _=> {posonlyargs:=[],args:=[],vararg:=none,kwonlyargs:=[],kw_defaults:=[],kwarg:=none,defaults:=[]}
def aF(s:Stmt):List Stmt:=match s with
 | .FunctionDef _ _ b _ _ _ _ _ _ _=>b
 | _=> []
def ay(s:Stmt):Scope:=match s with
 | .FunctionDef _ _ _ _ _ _ sc _ _ _=>sc
 | _=> {kind:= .function,names:=[],isGenerator:=false,isCoroutine:=false}
abbrev yf:aO:=fun _ _ _ _ _ _=>False
abbrev E0:XK:=fun _ _ _=>False
structure uG (K:PySem.W.Frag) (x qual:Str) (st:Stmt) (f:Addr) (fd:FuncData):Prop where
 ex: ∃(oc:Value) (od:Option Addr) (kV doc pm:Value) (an:Option Addr) (cU ct:Value) (ja:Array (Option Value)),
  fd=fnOf x qual (bS st) (aF st) (ay st) .none kV doc pm an cU ct∧K.lookup f=some ⟨oc,od, .func fd,ja⟩∧codeIn K cU qual=true
 kp:keepIn K (.ref f)=true
section
variable {P:Program} {w:World} {K:PySem.W.Frag} {mg:Str→Option Value} {base:Heap}
theorem uG.binds{x qual:Str}{st:Stmt}{f:Addr}{fd:FuncData}{ps:List Str}(F:uG K x qual st f fd)
  (h: ∀(kV doc pm:Value) (an:Option Addr) (cU ct:Value) (us:List Value),us.length=ps.length→bindArgs (fnOf x qual (bS st) (aF st) (ay st) .none kV doc pm an cU ct) ⟨us,[]⟩=pure (ps.zip us)):Binds K fd ps []:=by
 obtain⟨oc,od,kV,doc,pm,an,cU,ct,ja,rfl,lk,fH⟩:=F.ex
 exact .all (h kV doc pm an cU ct)
theorem cj{x qual:Str}{st:Stmt}{f:Addr}{oc:Value}{od an:Option Addr}{ja:Array (Option Value)}{kV doc pm cU ct:Value}(l:K.lookup f=some ⟨oc,od, .func (fnOf x qual (bS st) (aF st) (ay st) .none kV doc pm an cU ct),ja⟩)
  (c:codeIn K cU qual=true) (k:keepIn K (.ref f)=true):uG K x qual st f (fnOf x qual (bS st) (aF st) (ay st) .none kV doc pm an cU ct):=⟨⟨oc,od,kV,doc,pm,an,cU,ct,ja,rfl,l,c⟩,k⟩
end
section
variable {X:Cx}
end
theorem iN{A B:Prop}(h:B):if false=true then A else B:=by
 rw[if_neg Bool.false_ne_true]
 exact h
theorem fk{A B:Prop}(h:A):if true=true then A else B:=by
 rw[if_pos rfl]
 exact h
theorem g8{c A B:Prop}[Decidable c](h1:c→A)(h2: ¬c→B):if c then A else B:=by
 by_cases h:c
 ·rw[if_pos h]
  exact h1 h
 ·rw[if_neg h]
  exact h2 h
def ax(H H':Hp):Prop:= ∀b o,H b=some o→H' b=some o
theorem ax.refl(H:Hp):ax H H:=fun _ _ h=>h
theorem ax.trans{H H1 H2:Hp}(a:ax H H1)(b:ax H1 H2):ax H H2:=fun c o h=>b c o (a c o h)
theorem ax.free{H H':Hp}(e:ax H H'){l:Addr}(h:H' l=Option.none):H l=Option.none:=by
 cases q:H l with
 | none=>rfl
 | some o=>
  rw[e l o q] at h
  cases h
theorem ax.seq{K:PySem.W.Frag}{H H':Hp}{a:Addr}{xs:List V}(e:ax H H')(h:ao K H a xs):ao K H' a xs:=by
 rcases h with(h | ⟨o,h⟩) | h
 ·exact .inl (.inl (e _ _ h))
 ·exact .inl (.inr ⟨o,e _ _ h⟩)
 ·exact .inr h
section
variable {κ:Type} [DecidableEq κ]
def cC(ah:List (κ×V))(k:κ):Option V:=(ah.find? fun kv=>decide (kv.1=k)).map (·.2)
def putK(ah:List (κ×V))(k:κ)(v:V):List (κ×V):=
 if (ah.any fun kv=>decide (kv.1=k))=true then ah.map (fun kv=>if kv.1=k then (kv.1,v) else kv) else ah++ [(k,v)]
theorem jf{p:κ×V}{r:List (κ×V)}{k:κ}(e:p.1=k):cC (p::r) k=some p.2:=by simp[cC,List.find?_cons,e]
theorem jg{p:κ×V}{r:List (κ×V)}{k:κ}(e: ¬p.1=k):cC (p::r) k=cC r k:=by simp[cC,List.find?_cons,e]
theorem uH(k:κ): ∀ah:List (κ×V),(ah.any fun kv=>decide (kv.1=k))=(cC ah k).isSome
 | []=>rfl
 | p::r=>by
  rw[List.any_cons]
  by_cases e:p.1=k
  ·simp only[jf e,decide_eq_true e,Bool.true_or,Option.isSome_some]
  ·rw[jg e,decide_eq_false e,Bool.false_or];exact uH k r
theorem Lv(k j:κ)(y:V): ∀ah:List (κ×V),cC (ah.map fun kv=>if kv.1=k then (kv.1,y) else kv) j=(cC ah j).map fun x=>if j=k then y else x
 | []=>rfl
 | p::r=>by
  have ih:=Lv k j y r
  rw[List.map_cons]
  by_cases h:p.1=k
  ·rw[if_pos h]
   by_cases e:p.1=j
   ·rw[jf (p:=(p.1,y)) e,jf e,Option.map_some,if_pos (e.symm.trans h)]
   ·rw[jg (p:=(p.1,y)) e,jg e,ih]
  ·rw[if_neg h]
   by_cases e:p.1=j
   ·rw[jf (p:=p) e,jf e,Option.map_some,if_neg (fun z=>h (e.trans z))]
   ·rw[jg (p:=p) e,jg e,ih]
theorem Lw(k j:κ)(y:V): ∀ah:List (κ×V),cC ah k=none→cC (ah++ [(k,y)]) j=if j=k then some y else cC ah j
 | [],_=>by
  by_cases e:k=j
  ·rw[if_pos e.symm];exact jf (p:=(k,y)) e
  ·rw[if_neg (fun z=>e z.symm)];exact jg (p:=(k,y)) e
 | p::r,hn=>by
  rw[List.cons_append]
  have hk: ¬p.1=k:=fun z=>by rw[jf z] at hn;cases hn
  rw[jg hk] at hn
  have ih:=Lw k j y r hn
  by_cases e:p.1=j
  ·rw[jf e,jf e,if_neg (fun z=>hk (e.trans z))]
  ·rw[jg e,jg e,ih]
theorem Wb(ah:List (κ×V))(k j:κ)(y:V):cC (putK ah k y) j=if j=k then some y else cC ah j:=by
 unfold putK
 by_cases a:(ah.any fun kv=>decide (kv.1=k))=true
 ·rw[if_pos a,Lv]
  rw[uH] at a
  by_cases e:j=k
  ·obtain⟨x,hx⟩:=Option.isSome_iff_exists.mp a
   rw[if_pos e,e,hx,Option.map_some,if_pos rfl]
  ·rw[if_neg e]
   cases cC ah j with
   | none=>rfl
   | some x=>rw[Option.map_some,if_neg e]
 ·rw[if_neg a]
  refine Lw k j y ah ?_
  rw[uH] at a
  cases q:cC ah k with
  | none=>rfl
  | some x=>rw[q] at a;exact(a rfl).elim
theorem Lx(ah:List (κ×V))(k:κ)(v:V):(putK ah k v).length≤ah.length+1:=by
 unfold putK
 split
 ·rw[List.length_map];omega
 ·rw[List.length_append,List.length_cons,List.length_nil];omega
theorem Wc{ah:List (κ×V)}{k:κ}(v:V)(h:cC ah k=none):putK ah k v=ah++ [(k,v)]:=by
 unfold putK
 rw[uH,h]
 exact if_neg (by decide)
theorem eN.Bo{o:Option V}{u:Option Value}(r:eN o u):o.isSome=u.isSome:=by
 cases o with
 | none=>cases u with
  | none=>rfl
  | some _=>exact(show False from r).elim
 | some _=>cases u with
  | none=>exact(show False from r).elim
  | some _=>rfl
theorem eN.getD{o:Option V}{u:Option Value}{d:V}{d':Value}(r:eN o u)(rd:RelV d d'):RelV (o.getD d) (u.getD d'):=by
 cases o with
 | none=>cases u with
  | none=>exact rd
  | some _=>exact(show False from r).elim
 | some _=>cases u with
  | none=>exact(show False from r).elim
  | some _=>exact r
theorem KV.val{ah:List (κ×V)}{vs:List (κ×Value)}(r:KV ah vs)(k:κ):eN (cC ah k) (valueAt vs k):=by
 unfold KV at r
 induction r with
 | nil=>exact True.intro
 | @cons p q ps qs h t ih=>
  obtain⟨h1,h2⟩:=h
  by_cases e:p.1=k
  ·have e':q.1=k:=h1.symm.trans e
   have b:valueAt (q::qs) k=some q.2:=by simp[valueAt,List.find?_cons,e']
   rw[jf e,b];exact h2
  ·have e': ¬q.1=k:=fun z=>e (h1.trans z)
   have b:valueAt (q::qs) k=valueAt qs k:=by simp[valueAt,List.find?_cons,e']
   rw[jg e,b];exact ih
theorem KV.any{ah:List (κ×V)}{vs:List (κ×Value)}(r:KV ah vs)(k:κ):(ah.any fun kv=>decide (kv.1=k))=vs.any fun kv=>decide (kv.1=k):=by
 unfold KV at r
 induction r with
 | nil=>rfl
 | cons h t ih=>rw[List.any_cons,List.any_cons,ih,h.1]
theorem KV.Bp{ah:List (κ×V)}{vs:List (κ×Value)}(r:KV ah vs)(k:κ){y:V}{u:Value}(ry:RelV y u):
  KV (ah.map fun kv=>if kv.1=k then (kv.1,y) else kv) (vs.map fun kv=>if kv.1=k then (kv.1,u) else kv):=by
 unfold KV at r⊢
 induction r with
 | nil=>exact .nil
 | @cons p q ps qs h t ih=>
  rw[List.map_cons,List.map_cons]
  refine .cons ?_ ih
  obtain⟨h1,h2⟩:=h
  by_cases e:p.1=k
  ·rw[if_pos e,if_pos (h1.symm.trans e)];exact⟨h1,ry⟩
  ·rw[if_neg e,if_neg (fun z=>e (h1.trans z))];exact⟨h1,h2⟩
theorem KV.put{ah:List (κ×V)}{vs:List (κ×Value)}(r:KV ah vs)(k:κ){y:V}{u:Value}(ry:RelV y u):KV (putK ah k y) (stored vs k u):=by
 unfold putK stored
 rw[r.any k]
 by_cases e:(vs.any fun kv=>decide (kv.1=k))=true
 ·rw[if_pos e,if_pos e];exact r.Bp k ry
 ·rw[if_neg e,if_neg e];exact Paired.snoc r ⟨rfl,ry⟩
theorem KV.length{ah:List (κ×V)}{vs:List (κ×Value)}(r:KV ah vs):ah.length=vs.length:=Paired.length r
end
theorem uI{P:Program}{w:World}{k:Key}{u:Value}(r:RelV (kV k) u):(dQ P w).is k u=true:=by
 cases k with
 | inl i=>obtain⟨t,e⟩:=(show ∃t,u=Value.int i t from r);subst e;exact J8 P w i t
 | inr x=>obtain⟨t,e⟩:=(show ∃t,u=Value.str x t from r);subst e;exact J9 P w x t
theorem Ly{P:Program}{w:World}: ∀{ks:List Key} {us:List Value},Vals (ks.map kV) us→ItemsAre (dQ P w) ks us
 | [],_,r=>by rw[List.map_nil] at r;cases r;exact .nil
 | k::ks,_,r=>by
  rw[List.map_cons] at r
  cases r with
  | cons h t=>exact .cons (uI h) (Ly t)
abbrev KT(H:Hp):List (List Key×V)→List (List Key×Addr×Value)→Prop:=Paired fun p q=>p.1=q.1∧H q.2.1=some (.tup (p.1.map kV))∧RelV p.2 q.2.2
theorem KT.val{H:Hp}{ah:List (List Key×V)}{xs:List (List Key×Addr×Value)}(r:KT H ah xs)(k:List Key):eN (cC ah k) ((atKey xs k).map (·.2)):=by
 induction r with
 | nil=>exact True.intro
 | @cons p q ps qs h t ih=>
  obtain⟨h1,_,h2⟩:=h
  by_cases e:p.1=k
  ·have e':q.1=k:=h1.symm.trans e
   have b:atKey (q::qs) k=some q.2:=by simp[atKey,List.find?_cons,e']
   rw[jf e,b];exact h2
  ·have e': ¬q.1=k:=fun z=>e (h1.trans z)
   have b:atKey (q::qs) k=atKey qs k:=by simp[atKey,List.find?_cons,e']
   rw[jg e,b];exact ih
theorem KT.Bp{H:Hp}{ah:List (List Key×V)}{xs:List (List Key×Addr×Value)}(r:KT H ah xs)(k:List Key){y:V}{u:Value}(ry:RelV y u):
  KT H (ah.map fun kv=>if kv.1=k then (kv.1,y) else kv) (xs.map (putAt k u)):=by
 induction r with
 | nil=>exact .nil
 | @cons p q ps qs h t ih=>
  rw[List.map_cons,List.map_cons]
  refine .cons ?_ ih
  obtain⟨h1,h2,h3⟩:=h
  unfold putAt
  by_cases e:p.1=k
  ·rw[if_pos e,if_pos (h1.symm.trans e)];exact⟨h1,h2,ry⟩
  ·rw[if_neg e,if_neg (fun z=>e (h1.trans z))];exact⟨h1,h2,h3⟩
theorem KT.put{H:Hp}{ah:List (List Key×V)}{xs:List (List Key×Addr×Value)}(r:KT H ah xs)(k:List Key){b:Addr}{y:V}{u:Value}(hb:H b=some (.tup (k.map kV)))(ry:RelV y u):
  KT H (putK ah k y) (storedH xs k b u):=by
 have e:(ah.any fun kv=>decide (kv.1=k))=(atKey xs k).isSome:=by
  rw[uH,(r.val k).Bo,Option.isSome_map]
 unfold putK storedH
 rw[e]
 by_cases q:(atKey xs k).isSome=true
 ·rw[if_pos q,if_pos q];exact r.Bp k ry
 ·rw[if_neg q,if_neg q];exact Paired.snoc r ⟨rfl,hb,ry⟩
theorem KT.keeps{H H':Hp}{ah:List (List Key×V)}{xs:List (List Key×Addr×Value)}(r:KT H ah xs)(ht: ∀b ys,H b=some (.tup ys)→H' b=some (.tup ys)):KT H' ah xs:=
 Paired.AE r fun _ _ z=> ⟨z.1,ht _ _ z.2.1,z.2.2⟩
section
variable {P:Program} {w:World} {H:Hp} {h:Heap} {a:Addr}
theorem Lz{u:HO}(ok:bW P w H h)(e:Rd H a u):cx P w H h a u:=e.ok ok
theorem rX{ah:List (Key×V)}(ok:bW P w H h)(e:Rd H a (.dK ah)):ah.length≤sizeLine∧(a==sysModules)=false∧ ∃vs,KV ah vs∧h.DictOf (dQ P w) a vs:=
 show cx P w H h a (.dK ah) from Lz ok e
theorem Wd{ah:List (Key×V)}(ok:bW P w H h)(e:H a=some (.dK ah)):ah.length≤sizeLine∧(a==sysModules)=false∧ ∃vs,KV ah vs∧h.DictOf (dQ P w) a vs:=rX ok (.inl e)
theorem uJ{ks:List Key}(ok:bW P w H h)(e:H a=some (.tup (ks.map kV))):(tupleKind (dQ P w)).is h ks a:=by
 obtain⟨_,its,r,o,h1,h2,n,h3⟩:=(show cx P w H h a (.tup (ks.map kV)) from ok a _ e)
 exact⟨o,its.toArray,n,h1,h2,h3,by simpa using Ly r⟩
theorem rY{ah:List (List Key×V)}(ok:bW P w H h)(e:Rd H a (.dT ah)):ah.length≤sizeLine∧(a==sysModules)=false∧
  ∃xs,KT H ah xs∧h.DictOfH (tupleKind (dQ P w)) a xs:=by
 obtain⟨z,y,xs,r,o,es,ep,h1,h2,h3,h4,h5⟩:=(show cx P w H h a (.dT ah) from Lz ok e)
 refine⟨z,y,xs,r,o,es,ep,h1,h2,h3,h4,fun x hx=> ?_,h5⟩
 have all: ∀{l:List (List Key×V)} {m:List (List Key×Addr×Value)},KT H l m→ ∀x∈m,(tupleKind (dQ P w)).is h x.1 x.2.1:=by
  intro l m q
  induction q with
  | nil=>intro x hx;exact nomatch hx
  | @cons p q ps qs hq t ih=>
   intro x hx
   rcases List.mem_cons.mp hx with e | hx
   ·subst e
    exact uJ ok (by rw[←hq.1];exact hq.2.1)
   ·exact ih x hx
 exact all r x hx
theorem We{ah:List (List Key×V)}(ok:bW P w H h)(e:H a=some (.dT ah)):ah.length≤sizeLine∧(a==sysModules)=false∧
  ∃xs,KT H ah xs∧h.DictOfH (tupleKind (dQ P w)) a xs:=rY ok (.inl e)
end
def eo(H:Hp)(a:Addr)(y:V)(r:Option V):Prop:=
 (∃ah k,Rd H a (.dK ah)∧y=kV k∧r=cC ah k)∨ ∃ah k b,Rd H a (.dT ah)∧y= .ref b∧H b=some (.tup (k.map kV))∧r=cC ah k
def mT(H:Hp)(a:Addr)(y v:V)(H':Hp):Prop:=
 (∃ah k,H a=some (.dK ah)∧y=kV k∧ah.length<sizeLine∧H'=upd H a (.dK (putK ah k v)))∨
 ∃ah k b,H a=some (.dT ah)∧y= .ref b∧H b=some (.tup (k.map kV))∧ah.length<sizeLine∧H'=upd H a (.dT (putK ah k v))
theorem eo.k{H:Hp}{a:Addr}{ah:List (Key×V)}{k:Key}(e:H a=some (.dK ah)):eo H a (kV k) (cC ah k):= .inl ⟨ah,k, .inl e,rfl,rfl⟩
theorem eo.t{H:Hp}{a b:Addr}{ah:List (List Key×V)}{k:List Key}(e:H a=some (.dT ah))(eb:H b=some (.tup (k.map kV))):eo H a (.ref b) (cC ah k):= .inr ⟨ah,k,b, .inl e,rfl,eb,rfl⟩
theorem mT.k{H:Hp}{a:Addr}{ah:List (Key×V)}{k:Key}{v:V}(e:H a=some (.dK ah))(hl:ah.length<sizeLine):mT H a (kV k) v (upd H a (.dK (putK ah k v))):= .inl ⟨ah,k,e,rfl,hl,rfl⟩
theorem mT.t{H:Hp}{a b:Addr}{ah:List (List Key×V)}{k:List Key}{v:V}(e:H a=some (.dT ah))(eb:H b=some (.tup (k.map kV)))(hl:ah.length<sizeLine):
  mT H a (.ref b) v (upd H a (.dT (putK ah k v))):= .inr ⟨ah,k,b,e,rfl,eb,hl,rfl⟩
section
variable {X:Cx} {pins:List (Addr×Obj)} {σ:St} {H:Hp} {s:Shared} {a:Addr} {y v:V} {u r:Value} {o:Option V} {A:Around} {E:Value→Shared→Prop}
theorem Inv.big(I:Inv X pins σ H s):sysModules<s.heap.objs.size:=by
 have h:mainGlobals<s.heap.objs.size:=(I.mod.glob.keeps I.bk).lt
 exact Nat.lt_trans (by decide) h
theorem Wf{Q:Value→Shared→Prop}(hu:A.units+1<cLine)(I:Inv X pins σ H s)(g:eo H a y (some v))(ry:RelV y u)(h: ∀w' s',Inv X pins σ H s'→RelV v w'→Q w' s'):
  wpAny (model X.prog X.w) A (getItem (.ref a) u) Q E s:=by
 rcases g with⟨ah,k,e,ey,l⟩ | ⟨ah,k,b,e,ey,eb,l⟩
 ·subst ey
  obtain⟨z,hd,vs,rel,dd⟩:=rX I.aB e
  obtain⟨w',hw,gd⟩:=eN.some_of (v:=v) (o:=valueAt vs k) (by rw[l];exact rel.val k)
  exact wpAny_getItem_of (uI ry) dd.mapOf hw (h w' _ (I.tok _) gd)
 ·subst ey
  cases (show u=Value.ref b from ry)
  obtain⟨z,hd,xs,rel,dd⟩:=rY I.aB e
  obtain⟨w',hw,gd⟩:=eN.some_of (v:=v) (o:=(atKey xs k).map (·.2)) (by rw[l];exact rel.val k)
  obtain⟨p,hp,g_⟩:=Option.map_eq_some_iff.mp hw
  refine wpAny_getItem_heap (tupleKind_room_in1 hu) (uJ I.aB eb) dd hp ?_
  rw[g_]
  exact h w' _ (I.tok _) gd
theorem Wg{Q:Value→Shared→Prop}(hu:A.units+1<cLine)(I:Inv X pins σ H s)(g:eo H a y o)(ry:RelV y u)(h: ∀s',Inv X pins σ H s'→Q (.bool o.isSome) s'):
  wpAny (model X.prog X.w) A (compareOp .In u (.ref a)) Q E s:=by
 rcases g with⟨ah,k,e,ey,l⟩ | ⟨ah,k,b,e,ey,eb,l⟩
 ·subst ey
  obtain⟨z,hd,vs,rel,dd⟩:=rX I.aB e
  refine wpAny_in_of (uI ry) hd dd.mapOf ?_
  rw[←(rel.val k).Bo,←l]
  exact h _ (I.tok _)
 ·subst ey
  cases (show u=Value.ref b from ry)
  obtain⟨z,hd,xs,rel,dd⟩:=rY I.aB e
  refine wpAny_in_heap (tupleKind_room_in1 hu) (uJ I.aB eb) hd dd ?_
  have q:=(rel.val k).Bo
  rw[Option.isSome_map] at q
  rw[←q,←l]
  exact h _ (I.tok _)
theorem LA{h':Heap}{t':Nat}{ob:HO}(I:Inv X pins σ H s)(mu:ug (H a))(hs:Heap.SameBut a s.heap h')(he: ∃q,h'.get? a=some q)(new:cx X.prog X.w (upd H a ob) h' a ob):
  Inv X pins σ (upd H a ob) {s with heap:=h',toks:=t'}:=
 I.write (x:=a) (e:=a) mu (.inl rfl) (fun b q hb z=> (hs.2 b hb).trans z) he new
theorem Wh{P:Program}{w:World}{H':Hp}{h':Heap}{ah:List (Key×V)}{vs:List (Key×Value)}(z:ah.length≤sizeLine)(hd:(a==sysModules)=false)(rel:KV ah vs)(dd:h'.DictOf (dQ P w) a vs):
  cx P w H' h' a (.dK ah):=⟨z,hd,vs,rel,dd⟩
theorem Wi{H':Hp}{Q:Unit→Shared→Prop}(hu:A.units+1<cLine)(I:Inv X pins σ H s)(g:mT H a y v H')(ry:RelV y u)(rv:RelV v r)(h: ∀s',Inv X pins σ H' s'→Q () s'):
  wpAny (model X.prog X.w) A (setItem (.ref a) u r) Q E s:=by
 rcases g with⟨ah,k,e,ey,l,eH⟩ | ⟨ah,k,b,e,ey,eb,l,eH⟩
 ·subst ey eH
  obtain⟨z,hd,vs,rel,dd⟩:=Wd I.aB e
  have hz:vs.length≤sizeLine:=by rw[←rel.length];exact z
  have hl:(putK ah k v).length≤sizeLine:=by have:=Lx ah k v;omega
  refine wpAny_setItem_pairs (hsz:=hz) (uI ry) dd fun h' yg hs=>h _ ?_
  have he: ∃q,h'.get? a=some q:=let ⟨q,_,_,hq,_⟩:=yg;⟨q,hq⟩
  exact LA I (by rw[e];exact True.intro) hs he (Wh hl hd (rel.put k rv) yg)
 ·subst ey eH
  cases (show u=Value.ref b from ry)
  obtain⟨z,hd,xs,rel,dd⟩:=We I.aB e
  have hz:xs.length≤sizeLine:=by rw[←Paired.length rel];exact z
  have hl:(putK ah k v).length≤sizeLine:=by have:=Lx ah k v;omega
  refine wpAny_setItem_heap (hsz:=hz) (tupleKind_room_in1 hu) (uJ I.aB eb) dd fun h' yg hs=>h _ ?_
  obtain⟨q,es,ep,hq,h2,h3,h4,_,h5⟩:=yg
  refine LA I (by rw[e];exact True.intro) hs ⟨q,hq⟩ ⟨hl,hd,_,(rel.put k eb rv).keeps fun c ys ec=> ?_,q,es,ep,hq,h2,h3,h4,h5⟩
  rw[aD (bC ec e (fun z=>nomatch z))]
  exact ec
end
section
variable {X:Cx} {pins:List (Addr×Obj)} {σ:St} {H:Hp} {s:Shared} {a:Addr} {ah:List (Key×V)} {k:Key} {u:Value} {A:Around} {E:Value→Shared→Prop}
end
def Bq(i:Expr):Prop:= ∀ov iv,subscripted i false ov iv=operate [ov,iv] (getItem ov iv)
theorem Wj{prog:Program}{w:World}{A:Around}{E:Value→Shared→Prop}{s:Shared}{env:Env}{value slice:Expr}{pos:Pos}{T id:String}{Q:Value→Shared→Prop}
  (hl:typeLookup (.type T) "__getitem__"=pure (some (.builtin id))) (hs:Bq slice)
  (h:wpAny (model prog w) A (eval value env) (fun o s₁=>wpAny (model prog w) A (eval slice env) (fun i s₂=>s₂.TypeIs o T∧wpAny (model prog w) A (getItem o i) Q E s₂) E s₁) E s):
  wpAny (model prog w) A (eval (.Subscript value slice pos) env) Q E s:=by
 refine Subscript_ (wpAny_mono h (fun o s₁ h₁=>wpAny_mono h₁ (fun i s₂ h₂=> ?_) fun _ _ x=>x) fun _ _ x=>x)
 obtain⟨hT,h₂⟩:=h₂
 unfold subscriptTail
 refine wpAny_bind ?_
 rw[getitemInPython_of_ne hT.not_modules]
 refine wpAny_bind (wpAny_specialOf hT hl ?_)
 have fin:wpAny (model prog w) A (subscripted slice false o i) (fun r s₃=>wpAny (model prog w) A (letTemporaryGo value o r>>=fun _=>pure r) Q E s₃) E s₂:=by
  rw[hs o i]
  exact wpAny_operating (wpAny_mono h₂ (fun r s₃ h₃=>wpAny_bind (wpAny_letTemporaryGo (wpAny_pure h₃))) fun _ _ x=>x)
 first
  | exact wpAny_pure (wpAny_bind fin)
  | exact wpAny_bind (wpAny_pure (wpAny_bind fin))
  | exact wpAny_bind fin
theorem Wk{X:Cx}{pins:List (Addr×Obj)}{σ:St}{H:Hp}{s:Shared}{a:Addr}{y:V}{o:Option V}(I:Inv X pins σ H s)(g:eo H a y o):s.TypeIs (.ref a) "dict":=by
 rcases g with⟨ah,k,e,_,_⟩ | ⟨ah,k,b,e,_,_,_⟩
 ·obtain⟨_,_,vs,_,dd⟩:=rX I.aB e
  exact dd.typeIs
 ·obtain⟨_,_,xs,_,dd⟩:=rY I.aB e
  exact dd.typeIs
def LB(td ty:TE):TE:=fun σ H Q=>td σ H fun x H1=>ty σ H1 fun y H2=> ∃a v,x= .ref a∧eo H2 a y (some v)∧Q v H2
def Br(ty td:TE):TE:=fun σ H Q=>ty σ H fun y H1=>td σ H1 fun x H2=> ∃a o,x= .ref a∧eo H2 a y o∧Q (.bl o.isSome) H2
def LC(ty td:TE):TE:=fun σ H Q=>ty σ H fun y H1=>td σ H1 fun x H2=> ∃a o,x= .ref a∧eo H2 a y o∧Q (.bl (!o.isSome)) H2
def LD(td ty tv:TE):TS:=fun D σ H=>tv σ H fun v H1=>td σ H1 fun x H2=>ty σ H2 fun y H3=> ∃a H4,x= .ref a∧mT H3 a y v H4∧D.nx σ H4
section
variable {X:Cx} {o i e value:Expr} {pos pos' AZ:Pos} {td ty tv:TE}
theorem Wl(hu:X.A.units+1<cLine)(ho:PE X o td)(hi:PE X i ty)(hs:Bq i):PE X (.Subscript o i pos) (LB td ty):=by
 intro pins s σ H Q I h
 refine Wj PySem.F.slot_dict_getitem.lookup hs (aN (ho pins s σ H _ I h) fun u s1 ⟨x,H1,I1,rx,q1⟩=>aN (hi pins s1 σ H1 _ I1 q1) fun iv s2 ⟨y,H2,I2,ry,a,v,ex,g,q2⟩=> ?_)
 subst ex
 obtain rfl:u=Value.ref a:=rx
 exact⟨Wk I2 g,Wf hu I2 g ry fun w' s3 I3 gd=> ⟨v,H2,I3,gd,q2⟩⟩
theorem Wm(hu:X.A.units+1<cLine)(hi:PE X i ty)(ho:PE X o td):PC X .In i o (Br ty td):=by
 intro pins s σ H Q I h
 refine aN (hi pins s σ H _ I h) fun iv s1 ⟨y,H1,I1,ry,q1⟩=>aN (ho pins s1 σ H1 _ I1 q1) fun u s2 ⟨x,H2,I2,rx,a,ov,ex,g,q2⟩=> ?_
 subst ex
 obtain rfl:u=Value.ref a:=rx
 exact Wg hu I2 g ry fun s3 I3=> ⟨.bl ov.isSome,H2,I3,rfl,q2⟩
theorem Wn(hu:X.A.units+1<cLine)(ho:PE X o td)(hi:PE X i ty)(hv:PE X value tv)(hs:swapsWith value (some (.Subscript o i pos')) pos.line X.env=pure false):
  PS X (.Assign [.Subscript o i pos'] value pos) (LD td ty tv):=by
 intro pins s σ H D I h
 refine wpAny_Assign_Subscript (aN (hv pins s σ H _ I h) fun r s1 ⟨v,H1,I1,rv,q1⟩=>aN (ho pins s1 σ H1 _ I1 q1) fun u s2 ⟨x,H2,I2,rx,q2⟩=>aN (hi pins s2 σ H2 _ I2 q2) fun iv s3 ⟨y,H3,I3,ry,a,H4,ex,g,q3⟩=> ?_) hs
 subst ex
 obtain rfl:u=Value.ref a:=rx
 exact Wi hu I3 g ry rv fun s4 I4=> ⟨σ,H4,I4,q3⟩
end
theorem Wo{P:Program}{w:World}{H:Hp}(h:Heap)(hb:sysModules<h.objs.size):cx P w H (h.push {cls:= .type "dict",data:= .dict #[]}) h.objs.size (.dT []):=
 ⟨Nat.zero_le _,beq_eq_false_iff_ne.mpr (Ne.symm (Nat.ne_of_lt hb)),[], .nil,_,#[],0,Heap.get?_push_size _ rfl,⟨rfl,rfl,rfl⟩,rfl,rfl,List.nodup_nil⟩
def LF:TE:=fun _ H Q=> ∀p,H p=none→Q (.ref p) (upd H p (.dT []))
section
variable {X:Cx} {pos:Pos}
theorem Wq:PE X (.Dict [] [] pos) LF:=fun pins s σ H Q I h=>
 wpAny_Dict_empty ⟨.ref s.heap.objs.size,_,I.laid (a:=s.heap.objs.size) (o:= .dT []) (t':=s.toks) (fun _ _ q=>Heap.get?_push_of_some _ q) (Nat.le_refl _) (Wo s.heap I.big),rfl,h _ (I.aB.fresh (Nat.le_refl _))⟩
end
structure M2 (X:Cx) (o:Expr) (m:Str) (apos:Pos) (e f:Expr) (cL:Pos):Prop where
 base:attributeBase o m X.env (eval o X.env)=eval o X.env
 Wr:((backTo cL (starEach [e,f] X.env)).all (fun x=> !x.1) && (backToKw cL (keywordEach [] X.env)).all (fun x=>x.1.isSome)
  && decide (([e,f]:List Expr).length+ ([]:List Keyword).length+ (if ([]:List Keyword).isEmpty then 0 else 1) <30))=true
 line:(apos.endLine==cL.line)=true
 trees:backTo cL (starEach [e,f] X.env)=[(false,eval e X.env),(false,eval f X.env)]
def LG(H:Hp)(a:Addr):Prop:=(∃ah,Rd H a (.dK ah))∨ ∃ah,Rd H a (.dT ah)
theorem Ws{X:Cx}{pins:List (Addr×Obj)}{σ:St}{H:Hp}{s:Shared}{a:Addr}(I:Inv X pins σ H s)(d:LG H a):
  s.TypeIs (.ref a) "dict"∧(∀b,Value.ref a= .ref b→ ∃ob,s.heap.get? b=some ob∧ob.dict=none)∧(a==sysModules)=false:=by
 rcases d with⟨ah,e⟩ | ⟨ah,e⟩
 ·obtain⟨_,hd,vs,_,dd⟩:=rX I.aB e
  refine⟨dd.typeIs,fun b q=> ?_,hd⟩
  cases q
  obtain⟨ob,_,_,h1,h2,_⟩:=dd
  exact⟨ob,h1,h2.2.1⟩
 ·obtain⟨_,hd,xs,_,dd⟩:=rY I.aB e
  refine⟨dd.typeIs,fun b q=> ?_,hd⟩
  cases q
  obtain⟨ob,_,_,h1,h2,_⟩:=dd
  exact⟨ob,h1,h2.2.1⟩
section
variable {X:Cx} {pins:List (Addr×Obj)} {σ:St} {H:Hp} {s:Shared} {a:Addr} {y d:V} {u r:Value} {o:Option V} {A:Around} {E:Value→Shared→Prop}
theorem Wt{Q:Value→Shared→Prop}(hu:A.units+1<cLine)(I:Inv X pins σ H s)(g:eo H a y o)(ry:RelV y u)(rd:RelV d r)(h: ∀w' s',Inv X pins σ H s'→RelV (o.getD d) w'→Q w' s'):
  wpAny (model X.prog X.w) A (call (.builtin "dict.get") [.ref a,u,r]) Q E s:=by
 rcases g with⟨ah,k,e,ey,l⟩ | ⟨ah,k,b,e,ey,eb,l⟩
 ·subst ey
  obtain⟨z,hd,vs,rel,dd⟩:=rX I.aB e
  refine call_meetsIn PySem.F.slot_dict_get dd.typeIs PySem.F.entry_dict_get (PySem.F.args_dict_get_3 _ _ _) (meets_dict_get_default (dQ X.prog X.w) a (uI ry) hd r) ⟨_,dd.mapOf,h _ _ (I.tok _) ?_⟩
  rw[l]
  exact(rel.val k).getD rd
 ·subst ey
  cases (show u=Value.ref b from ry)
  obtain⟨z,hd,xs,rel,dd⟩:=rY I.aB e
  refine call_meetsIn PySem.F.slot_dict_get dd.typeIs PySem.F.entry_dict_get (PySem.F.args_dict_get_3 _ _ _) (meetsH_dict_get_default (tupleKind (dQ X.prog X.w)) a b hd r) ⟨tupleKind_room_in1 hu,k,xs,uJ I.aB eb,dd,h _ _ (I.tok _) ?_⟩
  rw[l]
  exact(rel.val k).getD rd
end
def LH(td ty tx:TE):TE:=fun σ H Q=>td σ H fun x H1=> ∃a,x= .ref a∧LG H1 a∧ty σ H1 fun y H2=>tx σ H2 fun z H3=> ∃o,eo H3 a y o∧Q (o.getD z) H3
section
variable {X:Cx} {o e f:Expr} {apos cL:Pos} {td ty tx:TE}
theorem Wu(hu:X.A.units+1<cLine)(ho:PE X o td)(he:PE X e ty)(hf:PE X f tx)(m:M2 X o "get" apos e f cL):PE X (.Call (.Attribute o "get" apos) [e,f] [] cL) (LH td ty tx):=by
 intro pins s σ H Q I h
 refine wpAny_Call_method m.base m.Wr m.line PySem.F.plainAttrs_dict PySem.F.slot_dict_get PySem.F.type_dict_get (aN (ho pins s σ H _ I h) fun u s1 ⟨x,H1,I1,rx,a,ex,d,q1⟩=> ?_)
 subst ex
 obtain rfl:u=Value.ref a:=rx
 obtain⟨t1,t2,_⟩:=Ws I1 d
 refine⟨t1,t2, ?_⟩
 rw[m.trees]
 refine Calls.callWith_builtin rfl (Calls.evalArgs_plain (Calls.spliced_cons (aN (he pins s1 σ H1 _ I1 q1) fun iv s2 ⟨y,H2,I2,ry,q2⟩=>
  Calls.spliced_cons (aN (hf pins s2 σ H2 _ I2 q2) fun fv s3 ⟨z,H3,I3,rz,ov,g,q3⟩=>Calls.spliced_nil ?_))))
 exact Wt hu I3 g ry rz fun w' s4 I4 gd=> ⟨_,H3,I4,gd,q3⟩
end
end L2
set_option maxHeartbeats 4000000
namespace L2
open PySem PySem.Spec PyProof.Rows
section
variable {X:Cx} {pins:List (Addr×Obj)} {σ:St} {H:Hp} {s:Shared} {a:Addr} {o:HO}
theorem Inv.LI(I:Inv X pins σ H s)(hn:H a=none)(h0:X.s₀.heap.objs.size≤a)(hL:a≠X.env.locals)(hC: ∀x c,X.env.cells.lookup x=some c→c≠a)
  (hp: ∀p∈X.pn++pins,p.1≠a) (new:cx X.prog X.w (upd H a o) s.heap a o):Inv X pins σ (upd H a o) s:=by
 have Wv: ∀b u,X.s₀.heap.get? b=some u→b≠a:=fun b u e=>Nat.ne_of_lt (Nat.lt_of_lt_of_le (Heap.lt_size e) h0)
 have uK: ∀b u,H b=some u→b≠a:=fun b u e=>aW e hn
 refine⟨I.ok,I.os,I.bare,⟨I.base.keep,I.base.slot,fun b u e n hx=> ?_,I.base.there,fun b xs e=> ?_,fun b u xs e=> ?_,fun b ps e=> ?_⟩,I.loc,I.cell, ?_,fun x c e=> ?_,fun p q=> ?_,fun b u e=> ?_,I.len⟩
 ·rw[aD (Wv b u e)];exact I.base.free b u e n hx
 ·have z:=I.base.dw b xs e
  rw[aD (uK b _ z)];exact z
 ·have z:=I.base.eP b u xs e
  rw[aD (uK b _ z)];exact z
 ·obtain⟨m,z⟩:=I.base.fG b ps e
  exact⟨m,by rw[aD (uK b _ z)];exact z⟩
 ·rw[aD (Ne.symm hL)];exact I.free
 ·rw[aD (hC x c e)];exact I.fY x c e
 ·obtain⟨z1,z2,z3⟩:=I.pin p q
  exact⟨z1,by rw[aD (hp p q)];exact z2,z3⟩
 ·by_cases hb:b=a
  ·subst hb;rw[av] at e;cases e;exact new
  ·rw[aD hb] at e
   exact(I.aB b u e).jH (fun _ _ _ q=>q) (fun c q=>by rw[aD (uK c _ q)];exact q) fun c xs q=>by rw[aD (uK c _ q)];exact q
end
def du(cells:List (Str×Addr)):List (Str×NameKind)→List (Str×Addr)→List (Str×Addr)
 | [],acc=>acc
 | (n,k)::r,acc=>du cells r (if k= .free then (n,(cells.lookup n).getD 0)::acc else acc)
theorem LJ(env:Env): ∀(names:List (Str×NameKind)) (acc:List (Str×Addr)),(∀y∈names,y.2= .free→ ∃c,env.cells.lookup y.1=some c)→
  (forIn names acc (fun(x:Str×NameKind) (cs:List (Str×Addr))=>match x with
   | (name,kind)=>if (kind==NameKind.free)=true then do let a ←cellOf env name;pure (ForInStep.yield ((name,a)::cs)) else pure (ForInStep.yield cs)):Sem (List (Str×Addr)))=pure (du env.cells names acc)
 | [],acc,_=>rfl
 | (n,k)::r,acc,h=>by
  have hr:=fun Bs=>LJ env r Bs fun y hy=>h y (List.mem_cons_of_mem _ hy)
  rw[List.forIn_cons]
  by_cases hk:k= .free
  ·subst hk
   obtain⟨c,e⟩:=h (n, .free) List.mem_cons_self rfl
   have e':cellOf env n=pure c:=by unfold cellOf;rw[e]
   have ec:du env.cells ((n, .free)::r) acc=du env.cells r ((n,c)::acc):=by simp[du,e]
   rw[ec,←hr]
   simp[e']
  ·have hb:(k==NameKind.free)=false:=by simpa using hk
   have ec:du env.cells ((n,k)::r) acc=du env.cells r acc:=by simp[du,hk]
   rw[ec,←hr]
   simp[hb]
theorem Ww{scope:Scope}{env:Env}(h: ∀y∈scope.names,y.2= .free→ ∃c,env.cells.lookup y.1=some c):closureFor scope env=pure (du env.cells scope.names []):=by
 have:=LJ env scope.names [] h
 simp only[closureFor]
 rw[←this]
 simp
theorem LK{cells:List (Str×Addr)}: ∀(names:List (Str×NameKind)) (acc:List (Str×Addr)) (x:Str) (c:Addr),(du cells names acc).lookup x=some c→(acc.lookup x=some c)∨((x, .free)∈names∧(cells.lookup x).getD 0=c)
 | [],acc,x,c,h=> .inl h
 | (n,k)::r,acc,x,c,h=>by
  simp only[du] at h
  rcases LK r _ x c h with z | ⟨z1,z2⟩
  ·by_cases hk:k= .free
   ·subst hk
    simp only[if_true] at z
    rw[List.lookup_cons] at z
    by_cases hx:x==n
    ·simp only[hx] at z
     have Wx:x=n:=eq_of_beq hx
     subst Wx
     exact .inr ⟨List.mem_cons_self,Option.some.inj z⟩
    ·have jh:(x==n)=false:=by simpa using hx
     simp only[jh] at z
     exact .inl z
   ·simp only[if_neg hk] at z
    exact .inl z
  ·exact .inr ⟨List.mem_cons_of_mem _ z1,z2⟩
theorem Bt{cells:List (Str×Addr)}: ∀(names:List (Str×NameKind)) (acc:List (Str×Addr)) (x:Str),((x,NameKind.free)∈names∨ ∃c,acc.lookup x=some c)→ ∃c,(du cells names acc).lookup x=some c
 | [],acc,x,h=>by
  rcases h with h | h
  ·cases h
  ·exact h
 | (n,k)::r,acc,x,h=>by
  simp only[du]
  refine Bt r _ x ?_
  rcases h with h | ⟨c,h⟩
  ·rcases List.mem_cons.mp h with e | h
   ·cases e
    refine .inr ?_
    simp[List.lookup_cons]
   ·exact .inl h
  ·refine .inr ?_
   by_cases hk:k= .free
   ·simp only[if_pos hk,List.lookup_cons]
    cases hx:x==n
    ·exact⟨c,h⟩
    ·exact⟨_,rfl⟩
   ·simp only[if_neg hk];exact⟨c,h⟩
theorem LL{env:Env}: ∀(names:List (Str×NameKind)) (x:Str),
  (names.map fun(n,k)=>if (k==NameKind.free && env.scope.kind== .function && env.kindOf n==some .cell) then (n,NameKind.cell) else (n,k)).lookup x=
   (names.lookup x).map fun k=>if (k==NameKind.free && env.scope.kind== .function && env.kindOf x==some .cell) then NameKind.cell else k
 | [],_=>rfl
 | (n,k)::r,x=>by
  have ih:=LL (env:=env) r x
  show List.lookup x ((if (k==NameKind.free && env.scope.kind== .function && env.kindOf n==some .cell)=true then (n,NameKind.cell) else (n,k))::_)=_
  cases hx:x==n with
  | true=>
   have e:x=n:=eq_of_beq hx
   subst e
   by_cases hc:(k==NameKind.free && env.scope.kind== .function && env.kindOf x==some .cell)=true
   ·rw[if_pos hc];simp only[List.lookup_cons,beq_self_eq_true,Option.map_some];rw[if_pos hc]
   ·rw[if_neg hc];simp only[List.lookup_cons,beq_self_eq_true,Option.map_some];rw[if_neg hc]
  | false=>
   by_cases hc:(k==NameKind.free && env.scope.kind== .function && env.kindOf n==some .cell)=true
   ·rw[if_pos hc];simp only[List.lookup_cons,hx];exact ih
   ·rw[if_neg hc];simp only[List.lookup_cons,hx];exact ih
section
variable {prog:Program} {w:World} {A:Around} {R:Result→Shared→Prop} {s:Shared}
theorem Wy{elt target iter:Expr}{ifs:List Expr}{scope:Scope}{pos:Pos}{it acc:Value}{env:Env}(I:Nat→Shared→Prop)
  (turn: ∀n s,I n s→wpAny (model prog w) A (pyNext it) (fun r s₁=>match r with
   | none=>R (.ok .next) s₁
   | some v=>wpAny (model prog w) A (letOwnedTupleGo target it v) (fun _ LM=>wpAny (model prog w) A (assign target env v) (fun _ s₂=>
     wpAny (model prog w) A (forIn ifs true fun c r=>if r=true then do let ok ←isTrue c env (eval c env);pure (ForInStep.yield ok) else pure (ForInStep.yield r)) (fun ok s₃=>
      if ok=true then wpAny (model prog w) A (eval elt env) (fun x s₄=>
       wpAny (model prog w) A (call (.builtin "list.append") [acc,x]) (fun _ s₅=> ∃m,m<n∧I m s₅) (fun _ _=>False) s₄) (fun _ _=>False) s₃
      else ∃m,m<n∧I m s₃) (fun _ _=>False) s₂) (fun _ _=>False) LM) (fun _ _=>False) s₁) (fun _ _=>False) s)
  (n:Nat) (h:I n s):codeAny (model prog w) A (.compLoop (.ListComp elt [⟨target,iter,ifs,0⟩] scope pos) 0 it acc env) R s:=by
 refine codeAny_loop rfl I (fun n s hI=> ?_) n h
 show wpAny _ A ((compTurn (.ListComp elt [⟨target,iter,ifs,0⟩] scope pos) 0 it acc env).onRaise (fun x=>do noteFrame x env;theTreesLotGoes x)) _ _ s
 refine wpAny_noted ?_
 rw[compTurn_list]
 refine wpAny_bind (wpAny_standAt (wpAny_bind (wpAny_mono (turn n s hI) (fun r s₁ h₁=> ?_) fun _ _ h'=>h'.elim)))
 cases r with
 | none=>exact wpAny_pure h₁
 | some v=>
  refine wpAny_bind (wpAny_mono h₁ (fun _ LM Wz=> ?_) fun _ _ h'=>h'.elim)
  refine wpAny_bind (wpAny_mono Wz (fun _ s₂ h₂=>wpAny_bind (wpAny_mono h₂ (fun ok s₃ h₃=> ?_) fun _ _ h'=>h'.elim)) fun _ _ h'=>h'.elim)
  cases ok with
  | false=>exact wpAny_pure ⟨rfl,h₃⟩
  | true=>
   exact wpAny_bind (wpAny_bind (wpAny_mono h₃ (fun x s₄ h₄=>wpAny_bind (wpAny_mono h₄ (fun _ s₅ h₅=>wpAny_pure (wpAny_pure ⟨rfl,h₅⟩)) fun _ _ h'=>h'.elim)) fun _ _ h'=>h'.elim))
end
def fL(X:Cx)(scope:Scope)(N:List Str)(ex:List Addr)(C:Addr)(s:Shared)(H:Hp):Cx where
 prog:=X.prog
 w:=X.w
 K:=X.K
 mg:=X.mg
 base:=X.base
 A:=X.A
 N:=N
 s₀:=s
 H₀:=H
 env:=compEnvC scope (du X.env.cells scope.names []) C X.env
 outer:=X.stack
 stack:=X.stack
 ex:=ex
 fn:=fun _=>false
 calm:=X.calm
 pn:=[]
 xe:=fun _ _=>False
structure ji (X:Cx) (scope:Scope) (ln:List Str) (fv:List (Str×Nat)):Prop where
 kind:scope.kind= .function
 LN: ∀y∈scope.names,y.2≠ .cell
 locals: ∀y∈scope.names,y.2= .local→scope.names.lookup y.1=some .local
 free: ∀y∈scope.names,y.2= .free→(X.env.kindOf y.1=some .cell∨X.env.kindOf y.1=some .free)
 WA: ∀p∈fv,X.N[p.2]?=some p.1∧scope.names.lookup p.1=some .free
def cX(σ:St)(fv:List (Str×Nat)):St:=fv.map fun p=> (σ[p.2]?).join
def oK(K:PySem.W.Frag):Option Nat→V→Hp→(List V→Prop)→Prop
 | none,x,_,Q=>Q [x]
 | some n,x,H,Q=> ∃a xs,x= .ref a∧aI K H a xs∧xs.length=n∧Q xs
def oN:Option TT→TT
 | none=>fun _ H k=>k true H
 | some t=>t
def mU(K:PySem.W.Frag)(wi:TI)(tk:Option Nat)(fv:List (Str×Nat))(tc:Option TT)(te:TE):TE:=fun σ H Q=>
 wi σ H fun J H1=> ∃W:Nat→Nat→List V→Hp→Prop,(∃m,W 0 m [] H1)∧ ∀i m ys H2,W i m ys H2→
  (J.stop i H2∧ ∀p,H2 p=none→Q (.ref p) (upd H2 p (.lst ys)))∨
  (J.go i H2∧ ∀x H3,J.i6 i H2 x H3→oK K tk x H3 fun xs=>
   oN tc (xs.map some++cX σ fv) H3 fun b H5=>
    if b=true then te (xs.map some++cX σ fv) H5 fun y H6=>ys.length<sizeLine∧ ∃m',m'<m∧W (i+1) m' (ys++ [y]) H6
    else ∃m',m'<m∧W (i+1) m' ys H5)
section
variable {X:Cx} {pins:List (Addr×Obj)} {σ:St} {H:Hp} {s₂ s₃:Shared} {scope:Scope} {ln:List Str} {fv:List (Str×Nat)} {fp:List Addr} {h₁:Heap} {D C:Addr} {m:Str→Option Value} {t:Nat}
theorem ji.cells(S:ji X scope ln fv)(I:Inv X pins σ H s₂){x:Str}{c:Addr}(h:(du X.env.cells scope.names []).lookup x=some c):X.env.cells.lookup x=some c∧(x,NameKind.free)∈scope.names:=by
 rcases LK _ _ _ _ h with z | ⟨z1,z2⟩
 ·cases z
 ·obtain⟨c',e⟩:=I.ok.has x (S.free _ z1 rfl)
  rw[e] at z2
  have z3:c'=c:=z2
  subst z3
  exact⟨e,z1⟩
theorem ji.LO(S:ji X scope ln fv)(I:Inv X pins σ H s₂):closureFor scope X.env=pure (du X.env.cells scope.names []):=
 Ww fun y hy hk=>I.ok.has y.1 (S.free y hy hk)
theorem WB(S:ji X scope ln fv)(I:Inv X pins σ H s₂)(f2: ∀b∈fp,iK X pins H b)(oO: ∀b∈fp,∃o,s₂.heap.get? b=some o)
  (os:s₃.os=s₂.os) (gens:s₃.gens=s₂.gens) (k3: ∀b o,s₂.heap.get? b=some o→s₃.heap.get? b=some o) (hD:D=s₂.heap.objs.size) (h3:s₃.heap.objs.size=s₂.heap.objs.size+1) (hC:C=s₃.heap.objs.size)
  (k4: ∀b o,s₃.heap.get? b=some o→h₁.get? b=some o) (rW:h₁.Ns C m):
  Inv (fL X scope (ln++fv.map (·.1)) (D::fp) C s₃ H) [] (ln.map (fun _=>none)++cX σ fv) H {s₃ with heap:=h₁,toks:=t}:=by
 have cl: ∀{x c},(du X.env.cells scope.names []).lookup x=some c→X.env.cells.lookup x=some c:=fun h=> (S.cells I h).1
 have WC: ∀{x c},(du X.env.cells scope.names []).lookup x=some c→c<s₂.heap.objs.size:=fun h=>by
  obtain⟨v,q⟩:=I.cell _ _ (cl h)
  exact q.lt
 have WD: ∀b∈fp,b<s₂.heap.objs.size:=fun b hb=>by obtain⟨o,e⟩:=oO b hb;exact Heap.lt_size e
 have WE: ∀b∈D::fp,b≤s₂.heap.objs.size:=fun b hb=>by
  rcases List.mem_cons.mp hb with e | hb
  ·rw[e,hD];exact Nat.le_refl _
  ·exact Nat.le_of_lt (WD b hb)
 have LP: ∀x,(relabel scope X.env).names.lookup x=(scope.names.lookup x).map fun k=>if (k==NameKind.free && X.env.scope.kind== .function && X.env.kindOf x==some .cell) then NameKind.cell else k:=fun x=>LL scope.names x
 have WG: ∀x,scope.names.lookup x=some .free→((relabel scope X.env).names.lookup x=some .cell∨(relabel scope X.env).names.lookup x=some .free):=fun x e=>by
  rw[LP,e]
  simp only[Option.map_some]
  split
  ·exact .inl rfl
  ·exact .inr rfl
 have WH: ∀x,((relabel scope X.env).names.lookup x=some .cell∨(relabel scope X.env).names.lookup x=some .free)→(x,NameKind.free)∈scope.names:=fun x e=>by
  rw[LP] at e
  cases q:scope.names.lookup x with
  | none=>rw[q] at e;rcases e with e | e<;>cases e
  | some k=>
   rw[q] at e
   have hm:(x,k)∈scope.names:=PySem.mem_of_lookup q
   simp only[Option.map_some] at e
   by_cases hk:k= .free
   ·rw[hk] at hm;exact hm
   ·have hb:(k==NameKind.free)=false:=by simpa using hk
    simp only[hb,Bool.false_and,Bool.false_eq_true,if_false] at e
    rcases e with e | e
    ·exact absurd (Option.some.inj e) (S.LN _ hm)
    ·exact absurd (Option.some.inj e) hk
 refine⟨⟨I.ok.mod,S.kind,I.ok.glob,I.ok.blt,Nat.le_of_eq hC.symm,fun x y c h1 h2=>I.ok.inj x y c (cl h1) (cl h2),fun x hx=>Bt _ _ x (.inl (WH x hx)),fun x c h _=> (by cases h),I.ok.hd,I.ok.frames, .inl rfl,fun b hb=> ⟨?_,fun x c e=> ?_⟩,fun b o e=> ⟨k3 b o (I.bs b o e).1,(I.bs b o e).2⟩, ?_,fun b o e hb=> ?_,fun b hb hf=> ?_, ?_,I.xx⟩,
  rfl, ?_,Un.kept fun b u e=>k4 b u e,⟨m,rW,fun i x v e1 e2 e3=> ?_⟩,fun x c e=> ?_,I.aB.fresh ?_,fun x c e=>I.fY x c (cl e),fun p hp=>absurd (show p∈ ([]:List (Addr×Obj)) from hp) (by simp),I.aB.kept fun b u e=>k4 b u (k3 b u e), ?_⟩
 ·show b≠C
  have:=WE b hb
  rw[hC,h3];exact Nat.ne_of_lt (Nat.lt_succ_of_le this)
 ·have q1:=WC e
  rcases List.mem_cons.mp hb with z | z
  ·rw[z,hD];exact Nat.ne_of_lt q1
  ·exact(f2 b z).2.2.2.2.1 x c (cl e)
 ·show X.base.objs.size≤s₃.heap.objs.size
  have:=Nat.le_trans I.ok.mL I.sz
  omega
 ·have e2:=(I.bs b o e).1
  have mV:b∈D::fp:=hb
  rcases List.mem_cons.mp mV with z | z
  ·have:=Heap.lt_size e2
   rw[z,hD] at this;exact Nat.lt_irrefl _ this
  ·rcases (f2 b z).2.2.2.1 with q | q
   ·exact I.ok.xt b o e q
   ·exact absurd (Nat.lt_of_lt_of_le (Heap.lt_size (I.ok.bs b o e).1) q) (Nat.lt_irrefl _)
 ·have LQ:b∈bD X.stack:=hf
  have mV:b∈D::fp:=hb
  rcases List.mem_cons.mp mV with z | z
  ·rcases List.mem_cons.mp (I.xv b LQ) with q | q
   ·have:=I.lt
    rw[←q,z,hD] at this;exact Nat.lt_irrefl _ this
   ·exact I.Ka (by rw[z,hD];exact Nat.le_refl _) q
  ·rcases List.mem_cons.mp (I.xv b LQ) with q | q
   ·exact(f2 b z).2.1 q
   ·exact(f2 b z).2.2.1 q
 ·exact PySem.Heap.FunFrames.of_keeps (fun b o e _=> ⟨o,k3 b o e,rfl⟩) I.stack
 ·show AllBare s₃.gens
  rw[gens];exact I.bare
 ·have hi:ln.length≤i:=by
   by_cases hi:i<ln.length
   ·exfalso
    rw[List.getElem?_append_left (by simpa using hi),List.getElem?_map] at e2
    cases q:ln[i]? with
    | none=>rw[q] at e2;cases e2
    | some y=>rw[q] at e2;cases e2
   ·omega
  have oP:(ln++fv.map (·.1))[i]?=some x:=e1
  rw[List.getElem?_append_right hi,List.getElem?_map] at oP
  rw[List.getElem?_append_right (by simpa using hi),List.length_map] at e2
  unfold cX at e2
  rw[List.getElem?_map] at e2
  cases q:fv[i - ln.length]? with
  | none=>rw[q] at oP;cases oP
  | some p=>
   rw[q] at oP e2
   have ex:p.1=x:=Option.some.inj oP
   have ev:(σ[p.2]?).join=some v:=Option.some.inj e2
   obtain⟨g1,g2⟩:=S.WA p (List.mem_of_getElem? q)
   rw[ex] at g1 g2
   have WI:σ[p.2]?=some (some v):=by
    cases z:σ[p.2]? with
    | none=>rw[z] at ev;cases ev
    | some o=>rw[z] at ev;rw[show o=some v from ev]
   have hk:=S.free _ (PySem.mem_of_lookup g2) rfl
   obtain⟨m2,uv,hl⟩:=I.loc
   obtain⟨u,r,l⟩:=hl p.2 x v g1 WI (by rcases hk with k | k;exact .inr (.inl k);exact .inr (.inr k))
   refine⟨u,r, .inr ?_⟩
   rcases l with⟨k,_⟩ | ⟨_,c,ec,z⟩
   ·rcases hk with k' | k'<;> (rw[k] at k';cases k')
   ·refine⟨WG x g2,c, ?_, ?_⟩
    ·obtain⟨c',e'⟩:=Bt (cells:=X.env.cells) scope.names [] x (.inl (PySem.mem_of_lookup g2))
     have:=cl e'
     rw[ec] at this;cases this
     exact e'
    ·obtain⟨o,ho,hd⟩:=z
     exact⟨o,k4 c o (k3 c o ho),hd⟩
 ·obtain⟨v,o,ho,hd⟩:=I.cell x c (cl e)
  exact⟨v,o,k4 c o (k3 c o ho),hd⟩
 ·show s₂.heap.objs.size≤C
  rw[hC,h3];exact Nat.le_succ _
 ·show(ln.map (fun _=>none)++cX σ fv).length=(ln++fv.map (·.1)).length
  simp[cX]
end
structure Bu (Φ:Cx→Prop) (P:Program) (w:World) (K:PySem.W.Frag) (tg:Expr) (J:It) (fp:List Addr) (it:Addr) (tn:Nat→Heap→Prop):Prop where
 mem:it∈fp
 obj: ∀i h,tn i h→ ∀b∈fp,∃o,h.get? b=some o∧ ∀v,o.data≠ .cell v
 keep: ∀i h h',tn i h→(∀b∈fp,∀o,h.get? b=some o→h'.get? b=some o)→tn i h'
 item: ∀(X:Cx),X.prog=P→X.w=w→X.K=K→Φ X→ ∀(i:Nat) (pins:List (Addr×Obj)) (s:Shared) (σ:St) (H:Hp) (E:Value→Shared→Prop),Inv X pins σ H s→(∀b∈fp,iK X pins H b)→tn i s.heap→J.go i H→
  wpAny (model P w) X.A (pyNext (.ref it)) (fun r s1=> ∃u,r=some u∧
   wpAny (model P w) X.A (letOwnedTupleGo tg (.ref it) u) (fun _ s2=> ∃x H',Inv X pins σ H' s2∧RelV x u∧J.i6 i H x H'∧tn (i+1) s2.heap∧ ∀b∈fp,H' b=none) E s1) E s
 done: ∀(X:Cx),X.prog=P→X.w=w→X.K=K→Φ X→ ∀(i:Nat) (pins:List (Addr×Obj)) (s:Shared) (σ:St) (H:Hp) (E:Value→Shared→Prop),Inv X pins σ H s→(∀b∈fp,iK X pins H b)→tn i s.heap→J.stop i H→
  wpAny (model P w) X.A (pyNext (.ref it)) (fun r s1=>r=none∧Inv X pins σ H s1) E s
 self: ∀(A:Around) (i:Nat) (s:Shared) (Q:Value→Shared→Prop) (E:Value→Shared→Prop),tn i s.heap→Q (.ref it) s→wpAny (model P w) A (pyIter (.ref it)) Q E s
def yh(Φ:Cx→Prop)(X:Cx)(tg iter:Expr)(wi:TI):Prop:=
 ∀(pins:List (Addr×Obj)) (s:Shared) (σ:St) (H:Hp) (R:It→Hp→Prop),Inv X pins σ H s→wi σ H R→
  wpAny (model X.prog X.w) X.A (eval iter X.env) (fun v s1=>wpAny (model X.prog X.w) X.A (pyIter v) (fun oC s2=>
   ∃(it:Addr) (fp:List Addr) (tn:Nat→Heap→Prop) (J:It) (H':Hp),oC= .ref it∧Inv X pins σ H' s2∧Bu Φ X.prog X.w X.K tg J fp it tn∧tn 0 s2.heap∧(∀b∈fp,iK X pins H' b)∧R J H') X.xe s1) X.xe s
abbrev Calm(X:Cx):Prop:=X.calm=true
theorem PI.p{X:Cx}{tg iter:Expr}{wi:TI}(h:PI X tg iter wi):yh Calm X tg iter wi:=fun pins s σ H R I q=>
 aN (h pins s σ H R I q) fun v s1 h1=>aN h1 fun oC s2 ⟨it,fp,tn,J,H',e,I',T,st,f,r⟩=> ⟨it,fp,tn,J,H',e,I',⟨T.mem,T.obj,T.keep,T.item,T.done,T.self⟩,st,f,r⟩
section
variable {X:Cx} {pins:List (Addr×Obj)} {σ:St} {H:Hp} {s₂:Shared} {scope:Scope} {ln:List Str} {fv:List (Str×Nat)} {elt tg iter:Expr} {ifs:List Expr} {pos:Pos}
 {J:It} {fp:List Addr} {it:Addr} {tn:Nat→Heap→Prop} {tk:Option Nat} {tc:Option TT} {te:TE} {Qv:VK} {RR:Value→Addr→Result→Shared→Prop} {E:Value→Shared→Prop}
def yi(Ψ:Hp→Prop)(X:Cx)(scope:Scope)(ln:List Str)(fv:List (Str×Nat))(tg:Expr)(tk:Option Nat):Prop:=
 ∀(ex:List Addr) (C:Addr) (s:Shared) (H:Hp),Ψ H→ ∃g,PG (fL X scope (ln++fv.map (·.1)) ex C s H) tg g∧
  ∀(x:V) (pre φ:St) (H':Hp) (Q:St→Hp→Prop),pre.length=ln.length→oK X.K tk x H' (fun xs=>xs.length=ln.length→Q (xs.map some++φ) H')→g x (pre++φ) H' Q
def uL(X:Cx)(scope:Scope)(ln:List Str)(fv:List (Str×Nat))(tg:Expr)(tk:Option Nat):Prop:=
 ∀(ex:List Addr) (C:Addr) (s:Shared) (H:Hp),∃g,PG (fL X scope (ln++fv.map (·.1)) ex C s H) tg g∧
  ∀(x:V) (pre φ:St) (H':Hp) (Q:St→Hp→Prop),pre.length=ln.length→oK X.K tk x H' (fun xs=>xs.length=ln.length→Q (xs.map some++φ) H')→g x (pre++φ) H' Q
def uM(X:Cx)(scope:Scope)(N:List Str)(ifs:List Expr)(tc:Option TT):Prop:=
 match tc with
 | none=>ifs=[]
 | some t=> ∃c,ifs=[c]∧ ∀(ex:List Addr) (C:Addr) (s:Shared) (H:Hp),PT (fL X scope N ex C s H) c t
theorem LR{Φ:Cx→Prop}{Ψ:Hp→Prop}(S:ji X scope ln fv)(hc: ∀Xc:Cx,Xc.A=X.A→Xc.calm=X.calm→Xc.H₀=H→Φ Xc)(hΨ:Ψ H)(hg:yi Ψ X scope ln fv tg tk)(ht:uM X scope (ln++fv.map (·.1)) ifs tc)
  (he: ∀(ex:List Addr) (C:Addr) (s:Shared) (H:Hp),PE (fL X scope (ln++fv.map (·.1)) ex C s H) elt te)
  (I:Inv X pins σ H s₂) (T:Bu Φ X.prog X.w X.K tg J fp it tn) (st:tn 0 s₂.heap) (f2: ∀b∈fp,iK X pins H b)
  (h: ∃W:Nat→Nat→List V→Hp→Prop,(∃m,W 0 m [] H)∧ ∀i m ys H2,W i m ys H2→
   (J.stop i H2∧ ∀p,H2 p=none→Qv (.ref p) (upd H2 p (.lst ys)))∨
   (J.go i H2∧ ∀x H3,J.i6 i H2 x H3→oK X.K tk x H3 fun xs=>
    oN tc (xs.map some++cX σ fv) H3 fun b H5=>
     if b=true then te (xs.map some++cX σ fv) H5 fun y H6=>ys.length<sizeLine∧ ∃m',m'<m∧W (i+1) m' (ys++ [y]) H6
     else ∃m',m'<m∧W (i+1) m' ys H5))
  (WJ: ∀D C H' s' m,Inv X pins σ H' s'→s'.heap.Ns C m→H' C=none→C≠X.env.locals→X.s₀.heap.objs.size≤C→(∀x c,X.env.cells.lookup x=some c→c≠C)→(∀p∈X.pn++pins,p.1≠C)→Qv (.ref D) H'→RR (.ref D) C (.ok .next) s'):
  wpAny (model X.prog X.w) X.A (newList []) (fun acc s₃=>wpAny (model X.prog X.w) X.A (newFunctionEnv scope X.env.globals (du X.env.cells scope.names []) [] X.env.qual none .none (some X.env)) (fun LS s₄=>
   codeAny (model X.prog X.w) X.A (.compStart (.ListComp elt [⟨tg,iter,ifs,0⟩] scope pos) 0 (.ref it) acc {LS with scope:=relabel scope X.env}) (RR acc LS.locals) s₄) E s₃) E s₂:=by
 obtain⟨W,⟨m0,w0⟩,turn⟩:=h
 refine wpAny_newObj_type (wpAny_newFunctionEnv S.LN (by intro y hy;simp at hy) (fun h₁ yj yk=> ?_) S.kind)
 dsimp only at yj yk⊢
 generalize yl:({s₂ with heap:=s₂.heap.push {cls:= .type "list",dict:=none,data:= .seq ([]:List Value).toArray}}:Shared)=s₃
 have uN:s₂.heap.push {cls:= .type "list",dict:=none,data:= .seq ([]:List Value).toArray}=s₃.heap:=by rw[←yl]
 rw[uN] at yj yk⊢
 have LU:s₃.os=s₂.os:=by rw[←yl]
 have WK:s₃.gens=s₂.gens:=by rw[←yl]
 have oQ:s₃.heap.objs.size=s₂.heap.objs.size+1:=by rw[←uN,Heap.size_push]
 have k3: ∀b o,s₂.heap.get? b=some o→s₃.heap.get? b=some o:=fun b o e=>by rw[←uN];exact Heap.get?_push_of_some _ e
 have k4: ∀b o,s₃.heap.get? b=some o→h₁.get? b=some o:=fun b o e=>yk.extBut b o (Nat.ne_of_lt (Heap.lt_size e)) (Heap.get?_push_of_some _ e)
 have gD:s₃.heap.get? s₂.heap.objs.size=some {cls:= .type "list",dict:=none,data:= .seq ([]:List Value).toArray}:=by rw[←uN];exact Heap.get?_push_size _ rfl
 generalize eD:s₂.heap.objs.size=D at gD
 generalize eC:s₃.heap.objs.size=C at yj yk⊢
 have ym:D≠C:=by rw[←eD,←eC,oQ];exact Nat.ne_of_lt (Nat.lt_succ_self _)
 have oO: ∀b∈fp,∃o,s₂.heap.get? b=some o:=fun b hb=>by obtain⟨o,e,_⟩:=T.obj 0 _ st b hb;exact⟨o,e⟩
 have LV: ∀b∈fp,b≠D:=fun b hb=>by obtain⟨o,e⟩:=oO b hb;rw[←eD];exact Nat.ne_of_lt (Heap.lt_size e)
 have WL: ∀b∈fp,b≠C:=fun b hb=>by
  obtain⟨o,e⟩:=oO b hb
  have:=Heap.lt_size e
  rw[←eC,oQ];exact Nat.ne_of_lt (Nat.lt_succ_of_lt this)
 generalize eX:fL X scope (ln++fv.map (·.1)) (D::fp) C s₃ H=Xc
 have I4: ∀t,Inv Xc [] (ln.map (fun _=>none)++cX σ fv) H {s₃ with heap:=h₁,toks:=t}:=fun t=>by
  rw[←eX]
  exact WB S I f2 oO LU WK k3 eD.symm oQ eC.symm k4 yj
 have xL:Xc.env.locals=C:=by rw[←eX];rfl
 have yn:Xc.ex=D::fp:=by rw[←eX];rfl
 have WM:Xc.fs=bD X.stack:=by rw[←eX];rfl
 have xP:Xc.prog=X.prog:=by rw[←eX];rfl
 have xw:Xc.w=X.w:=by rw[←eX];rfl
 have xK:Xc.K=X.K:=by rw[←eX];rfl
 have xA:Xc.A=X.A:=by rw[←eX];rfl
 have xc:Φ Xc:=hc Xc xA (by rw[←eX];rfl) (by rw[←eX];rfl)
 have LW:Xc.pn=[]:=by rw[←eX];rfl
 have Bv:Xc.xe=fun _ _=>False:=by rw[←eX];rfl
 have LX:Xc.env.cells=du X.env.cells scope.names []:=by rw[←eX];rfl
 have Bw:Xc.env=compEnvC scope (du X.env.cells scope.names []) C X.env:=by rw[←eX];rfl
 have cD: ∀x c,Xc.env.cells.lookup x=some c→c≠D:=fun x c e=>by
  rw[LX] at e
  obtain⟨v,q⟩:=I.cell x c (S.cells I e).1
  rw[←eD];exact Nat.ne_of_lt q.lt
 have cF: ∀x c,Xc.env.cells.lookup x=some c→ ∀b∈fp,c≠b:=fun x c e b hb=>by
  rw[LX] at e
  exact(f2 b hb).2.2.2.2.1 x c (S.cells I e).1
 have sF: ∀b∈D::fp,b∉Xc.fs:=fun b hb hf=>by
  have:=(I4 0).ok.xu b (by rw[yn];exact hb)
  exact this hf
 have oE: ∀{H':Hp} {oD:Obj},(∀b∈fp,H' b=none)→ ∀b∈fp,iK Xc [(D,oD)] H' b:=fun hn b hb=>
  ⟨hn b hb,by rw[xL];exact WL b hb,sF b (List.mem_cons_of_mem _ hb), .inl (by rw[yn];exact List.mem_cons_of_mem _ hb),fun x c e=>cF x c e b hb,fun p hp=>by
   rw[LW] at hp
   rcases List.mem_singleton.mp (show p∈ [(D,_)] from hp) with rfl
   exact(LV b hb).symm⟩
 have loop: ∀s₄:Shared,s₄={s₃ with heap:=h₁,toks:=s₃.toks+ ([]:List (Str×Value)).length}→
   codeAny (model X.prog X.w) X.A (.compLoop (.ListComp elt [⟨tg,iter,ifs,0⟩] scope pos) 0 (.ref it) (.ref D) (compEnvC scope (du X.env.cells scope.names []) C X.env)) (RR (.ref D) C) s₄:=by
  rintro s₄ rfl
  refine Wy (fun n s'=> ∃i pre ys its nn H',Inv Xc [(D,{cls:= .type "list",data:= .seq (List.toArray its) nn})] (pre++cX σ fv) H' s'∧pre.length=ln.length∧tn i s'.heap∧(∀b∈fp,H' b=none)∧Vals ys its∧ys.length≤sizeLine∧W i n ys H') ?_ m0
   ⟨0,ln.map (fun _=>none),[],[],0,H,(I4 _).rN (fun p hp=> ?_),by simp,T.keep 0 _ _ st (fun b _ o e=>k4 b o (k3 b o e)),fun b hb=> (f2 b hb).1, .nil,Nat.zero_le _,w0⟩
  rotate_left
  ·have rZ:=List.mem_singleton.mp hp
   subst rZ
   refine⟨k4 _ _ gD,I.aB.fresh (Nat.le_of_eq eD),by rw[xL];exact ym,sF D List.mem_cons_self,fun v z=>by cases z⟩
  rintro n s' ⟨i,pre,ys,its,nn,H',I',kQ,i7,LY,hv,hz,w'⟩
  have apO:=I'.pin (D,_) (List.mem_append_right _ List.mem_cons_self)
  rcases turn i n ys H' w' with⟨stop,qn⟩ | ⟨go,step⟩
  ·have td:=T.done Xc xP xw xK xc i _ s' _ H' (fun _ _=>False) I' (oE LY) i7 stop
   rw[xA] at td
   refine aN td fun r s1 ⟨hr,I1⟩=> ?_
   subst hr
   have Bx:=I1.pin (D,_) (List.mem_append_right _ List.mem_cons_self)
   have b1:=I1.base
   rw[WM,yn] at b1
   have LZ:Xc.s₀=s₃:=by rw[←eX];rfl
   have WN:Xc.H₀=H:=by rw[←eX];rfl
   rw[LZ,WN] at b1
   have nD: ∀b o,s₂.heap.get? b=some o→b∉fp→b∉D::fp:=fun b o e hb hm=>by
    rcases List.mem_cons.mp hm with z | z
    ·have:=Heap.lt_size e
     rw[z,eD] at this;exact Nat.lt_irrefl _ this
    ·exact hb z
   have un:Un (bD X.stack) fp H H' s₂.heap s1.heap:=⟨fun b o e nb hb hx=>b1.keep b o (k3 b o e) nb hb (nD b o e hx),fun b o e nb hb hx=>b1.slot b o (k3 b o e) nb hb (nD b o e hx),fun b o e nb hx=>b1.free b o (k3 b o e) nb (nD b o e hx),
    fun b o e hx=>b1.there b o (k3 b o e) (nD b o e hx),b1.dw,b1.eP,b1.fG⟩
   have WO:s1.os=s₂.os:=by rw[I1.os,LZ,LU]
   have L6:=I1.aB
   rw[xP,xw] at L6
   have J1:Inv X pins σ H' s1:=I.AL WO un L6 I1.bare fun b hb=> ⟨(f2 b hb).2.2.2.1,(f2 b hb).2.1,(f2 b hb).2.2.2.2.1,(f2 b hb).2.2.2.2.2⟩
   have WQ: ∀x c,X.env.cells.lookup x=some c→c≠D:=fun x c e=>by
    obtain⟨v,q⟩:=I.cell x c e
    rw[←eD];exact Nat.ne_of_lt q.lt
   have WR: ∀x c,X.env.cells.lookup x=some c→c≠C:=fun x c e=>by
    obtain⟨v,q⟩:=I.cell x c e
    rw[←eC,oQ];exact Nat.ne_of_lt (Nat.lt_succ_of_lt q.lt)
   have pD: ∀p∈X.pn++pins,p.1≠D:=fun p hp=>by rw[←eD];exact Nat.ne_of_lt (Heap.lt_size (I.pin p hp).1)
   have pC: ∀p∈X.pn++pins,p.1≠C:=fun p hp=>by
    rw[←eC,oQ];exact Nat.ne_of_lt (Nat.lt_succ_of_lt (Heap.lt_size (I.pin p hp).1))
   have lD:D≠X.env.locals:=by rw[←eD];exact Nat.ne_of_gt I.lt
   have lC:C≠X.env.locals:=by
    rw[←eC,oQ];exact Nat.ne_of_gt (Nat.lt_succ_of_lt I.lt)
   have J2:Inv X pins σ (upd H' D (.lst ys)) s1:=Inv.LI J1 Bx.2.1 (by rw[←eD];exact I.sz) lD WQ pD ⟨hz,its,nn,hv,Bx.1⟩
   obtain⟨mC,L7,_⟩:=I1.loc
   rw[xL] at L7
   have fC:H' C=none:=by have:=I1.free;rw[xL] at this;exact this
   exact WJ D C _ s1 mC J2 L7 (by rw[aD (Ne.symm ym)];exact fC) lC (by rw[←eC,oQ];exact Nat.le_succ_of_le I.sz) WR pC (qn D Bx.2.1)
  ·have ti:=T.item Xc xP xw xK xc i _ s' _ H' (fun _ _=>False) I' (oE LY) i7 go
   rw[xA] at ti
   refine aN ti fun r s4 ⟨u,hr,h4⟩=> ?_
   subst hr
   refine aN h4 fun _ s5 ⟨x,H5,I5,r5,y5,oF,AU⟩=> ?_
   have uu:=I5.pinned (oE AU) (T.obj _ _ oF)
   obtain⟨g,pg,gq⟩:=hg (D::fp) C s₃ H hΨ
   rw[eX] at pg
   have rd:=step x H5 y5
   have L8:=pg _ s5 _ H5 x u (fun σ6 H6=> ∃xs:List V,σ6=xs.map some++cX σ fv∧xs.length=ln.length∧H6=H5∧
     oN tc (xs.map some++cX σ fv) H5 fun b H5=>
     if b=true then te (xs.map some++cX σ fv) H5 fun y H6=>ys.length<sizeLine∧ ∃m',m'<n∧W (i+1) m' (ys++ [y]) H6
     else ∃m',m'<n∧W (i+1) m' ys H5) uu r5 (gq x pre (cX σ fv) H5 _ kQ (by
      cases tk with
      | none=>exact fun hl=> ⟨_,rfl,hl,rfl,rd⟩
      | some k=>
       obtain⟨a,xs,e1,e2,e3,rd⟩:=rd
       exact⟨a,xs,e1,e2,e3,fun hl=> ⟨xs,rfl,hl,rfl,rd⟩⟩))
   rw[xA,xP,xw,Bv,Bw] at L8
   refine aN L8 fun _ s6 ⟨σ6,H6,I6,xs,e6,hG,eH,L9⟩=> ?_
   subst e6 eH
   have L_: ∀{H7:Hp} {σ7:St} {s7:Shared},Inv Xc ([(D,{cls:= .type "list",data:= .seq (List.toArray its) nn})]++rQ fp s5.heap) σ7 H7 s7→tn (i+1) s7.heap∧(∀b∈fp,H7 b=none)∧s7.heap.get? D=some {cls:= .type "list",data:= .seq (List.toArray its) nn}∧H7 D=none:=fun {H7 σ7 s7} I7=>by
    refine⟨T.keep _ _ _ oF fun b hb o e=> (I7.pin (b,o) (List.mem_append_right _ (List.mem_append_right _ (xM hb e)))).1,fun b hb=> ?_, ?_, ?_⟩
    ·obtain⟨o,e,d⟩:=T.obj _ _ oF b hb
     exact(I7.pin (b,o) (List.mem_append_right _ (List.mem_append_right _ (xM hb e)))).2.1
    ·exact(I7.pin (D,_) (List.mem_append_right _ (List.mem_append_left _ List.mem_cons_self))).1
    ·exact(I7.pin (D,_) (List.mem_append_right _ (List.mem_append_left _ List.mem_cons_self))).2.1
   have tests:wpAny (model X.prog X.w) X.A (forIn ifs true fun c r=>if r=true then do let ok ←isTrue c (compEnvC scope (du X.env.cells scope.names []) C X.env) (eval c (compEnvC scope (du X.env.cells scope.names []) C X.env));pure (ForInStep.yield ok) else pure (ForInStep.yield r))
     (fun ok s7=> ∃H7,Inv Xc ([(D,{cls:= .type "list",data:= .seq (List.toArray its) nn})]++rQ fp s5.heap) (xs.map some++cX σ fv) H7 s7∧
      if ok=true then te (xs.map some++cX σ fv) H7 fun y H6=>ys.length<sizeLine∧ ∃m',m'<n∧W (i+1) m' (ys++ [y]) H6
      else ∃m',m'<n∧W (i+1) m' ys H7) (fun _ _=>False) s6:=by
    cases tc with
    | none=>
     have By:ifs=[]:=ht
     subst By
     exact wpAny_tests_nil ⟨_,I6,L9⟩
    | some t=>
     obtain⟨c,By,pt⟩:=(show ∃c,ifs=[c]∧ ∀(ex:List Addr) (C:Addr) (s:Shared) (H:Hp),PT (fL X scope (ln++fv.map (·.1)) ex C s H) c t from ht)
     subst By
     have Ma:=pt (D::fp) C s₃ H
     rw[eX] at Ma
     have q:=Ma _ s6 _ _ _ I6 L9
     rw[xA,xP,xw,Bv,Bw] at q
     exact wpAny_tests_one (aN q fun b s7 ⟨H7,I7,q7⟩=> ⟨H7,I7,q7⟩)
   refine aN tests fun ok s7 ⟨H7,I7,q7⟩=> ?_
   cases ok with
   | false=>
    simp only[Bool.false_eq_true,if_false] at q7⊢
    obtain⟨m',hm,w7⟩:=q7
    obtain⟨t7,f7,d7,n7⟩:=L_ I7
    refine⟨m',hm,i+1,xs.map some,ys,its,nn,H7,I7.rN (fun p hp=> ?_),by simpa using hG,t7,f7,hv,hz,w7⟩
    exact I7.pin p (List.mem_append_right _ (List.mem_append_left _ hp))
   | true=>
    simp only[if_true] at q7⊢
    have q:=he (D::fp) C s₃ H
    rw[eX] at q
    have q:=q _ s7 _ H7 _ I7 q7
    rw[xA,xP,xw,Bv,Bw] at q
    refine aN q fun uy s8 ⟨y,H8,I8,r8,aP,m',hm,w8⟩=> ?_
    obtain⟨t8,f8,d8,n8⟩:=L_ I8
    have hl:=hv.length
    refine call_meets F.slot_list_append ⟨_,d8,rfl⟩ F.entry_list_append (F.args_list_append_2 _ _) (PySem.list_append D its.toArray nn uy (by rw[List.size_toArray];omega)) ⟨d8, ?_⟩
    have I9: ∀t,Inv Xc [] (xs.map some++cX σ fv) H8 {s8 with heap:=s8.heap.update D (Obj.mapSeq (·.push uy)),toks:=t}:=fun t=>
     (I8.rN (iI:=[]) (fun p hp=>absurd hp (by simp))).turned (it:=D) (t':=t) (fun b o hb e=> (Heap.get?_update_other s8.heap (Obj.mapSeq (·.push uy)) (Ne.symm hb)).trans e) n8 (by rw[xL];exact ym) (.inl (by rw[yn];exact List.mem_cons_self)) cD
      (fun p hp=>by rw[LW] at hp;exact absurd hp (by simp))
    have g9:=PySem.IsL.update d8 (·.push uy)
    obtain⟨n9,WS⟩: ∃n9,(s8.heap.update D (Obj.mapSeq (·.push uy))).get? D=some {cls:= .type "list",data:= .seq (its++ [uy]).toArray n9}:=
     ⟨_,by rw[show(its++ [uy]).toArray=its.toArray.push uy by simp];exact g9⟩
    refine⟨m',hm,i+1,xs.map some,ys++ [y],its++ [uy],n9,H8,(I9 _).rN (fun p hp=> ?_),by simpa using hG, ?_,f8,hv.append (.cons r8 .nil), ?_,w8⟩
    ·have rZ:=List.mem_singleton.mp hp
     subst rZ
     exact⟨WS,n8,by rw[xL];exact ym,sF D List.mem_cons_self,fun v z=>by cases z⟩
    ·exact T.keep _ _ _ t8 fun b hb o e=> (Heap.get?_update_other s8.heap (Obj.mapSeq (·.push uy)) (Ne.symm (LV b hb))).trans e
    ·rw[List.length_append,List.length_singleton];omega
 have WT:tn 0 h₁:=T.keep 0 _ _ st fun b _ o e=>k4 b o (k3 b o e)
 have e4:({s₂ with heap:=h₁,toks:=s₂.toks+ ([]:List (Str×Value)).length}:Shared)={s₃ with heap:=h₁,toks:=s₃.toks+ ([]:List (Str×Value)).length}:=by rw[←yl]
 exact codeAny_compStart_list (loop _ e4) (T.self X.A 0 _ _ _ WT (loop _ e4))
end
section
variable {X:Cx} {scope:Scope} {ln:List Str} {fv:List (Str×Nat)} {elt tg iter:Expr} {ifs:List Expr} {pos:Pos} {wi:TI} {tk:Option Nat} {tc:Option TT} {te:TE}
theorem WU{Φ:Cx→Prop}{Ψ:Hp→Prop}(S:ji X scope ln fv)(hc: ∀H,Ψ H→ ∀Xc:Cx,Xc.A=X.A→Xc.calm=X.calm→Xc.H₀=H→Φ Xc)(hΨ: ∀pins σ H s,Inv X pins σ H s→Ψ H)(hi:yh Φ X tg iter wi)(hg:yi Ψ X scope ln fv tg tk)(ht:uM X scope (ln++fv.map (·.1)) ifs tc)
  (he: ∀(ex:List Addr) (C:Addr) (s:Shared) (H:Hp),PE (fL X scope (ln++fv.map (·.1)) ex C s H) elt te) (hs: ∀x,foldedSetIterable iter X.env x=pure x:=by intro _;rfl):
  PE X (.ListComp elt [⟨tg,iter,ifs,0⟩] scope pos) (mU X.K wi tk fv tc te):=by
 intro pins s σ H Q I h
 rw[eval_ListComp]
 refine wpAny_comprehension_free (use:=none) rfl hs (S.LO I) S.kind S.locals (aN (hi pins s σ H _ I h) fun v s1 h1=>aN h1 fun oC s2 h2=> ?_)
 obtain⟨it,fp,tn,J,H2,e,I2,T,ur,f2,hW⟩:=h2
 subst e
 refine LR (RR:=fun acc C=>compPost (model X.prog X.w) X.A X.xe none (EP X pins σ Q) acc C) S (hc H2 (hΨ _ _ _ _ I2)) (hΨ _ _ _ _ I2) hg ht he I2 T ur f2 hW ?_
 intro D C H' s' m I' ns hn hL h0 r6 hp q
 refine⟨m,ns,fun h' sb=> ⟨.ref D,H', ?_,rfl,q⟩⟩
 exact I'.turned (it:=C) (t':=s'.toks) (fun b o hb e=>sb.extBut b o hb e) hn hL (.inr h0) r6 hp
theorem Mb{Φ:Cx→Prop}{Ψ:Hp→Prop}{i:Nat}{y:Str}{py uO:Pos}(hN:X.N.Nodup)(dX:X.N[i]?=some y)(hy:Loc X.env.scope y)(Bz:swapsWith (.ListComp elt [⟨tg,iter,ifs,0⟩] scope pos) (some (.Name y py)) uO.line X.env=pure true)
  (S:ji X scope ln fv) (hc: ∀H,Ψ H→ ∀Xc:Cx,Xc.A=X.A→Xc.calm=X.calm→Xc.H₀=H→Φ Xc) (hΨ: ∀pins σ H s,Inv X pins σ H s→Ψ H) (hi:yh Φ X tg iter wi) (hg:yi Ψ X scope ln fv tg tk) (ht:uM X scope (ln++fv.map (·.1)) ifs tc)
  (he: ∀(ex:List Addr) (C:Addr) (s:Shared) (H:Hp),PE (fL X scope (ln++fv.map (·.1)) ex C s H) elt te) (hs: ∀x,foldedSetIterable iter X.env x=pure x:=by intro _;rfl)
  (hf:X.fn y=true∨X.env.scope.names.lookup y=some .local:=by first | exact .inl rfl | exact .inr rfl | assumption):
  PS X (.Assign [.Name y py] (.ListComp elt [⟨tg,iter,ifs,0⟩] scope pos) uO) (i5 (mU X.K wi tk fv tc te) (dS i)):=by
 intro pins s σ H D I h
 rw[exec_Assign_Name_used _ _ _ _ Bz]
 refine wpAny_bind (wpAny_standAt (wpAny_bind ?_))
 show wpAny _ X.A (do let _ ←comprehension (.ListComp elt [⟨tg,iter,ifs,0⟩] scope pos) scope X.env _ (newList []) false (eval iter X.env) (some (assign (.Name y py) X.env))) _ _ s
 refine wpAny_bind (wpAny_mono (wpAny_comprehension_free (use:=some (assign (.Name y py) X.env)) (Q:=fun _ s'=>SP X pins D .next s') rfl hs (S.LO I) S.kind S.locals
  (aN (hi pins s σ H _ I h) fun v s1 h1=>aN h1 fun oC s2 h2=> ?_)) (fun _ s' hq=>wpAny_pure (wpAny_pure hq)) fun _ _ e=>e)
 obtain⟨it,fp,tn,J,H2,e,I2,T,ur,f2,hW⟩:=h2
 subst e
 refine LR (Qv:=fun x H1=>dS i x σ H1 D.nx) (RR:=fun acc C=>compPost (model X.prog X.w) X.A X.xe (some (assign (.Name y py) X.env)) (fun _ s'=>SP X pins D .next s') acc C) S (hc H2 (hΨ _ _ _ _ I2)) (hΨ _ _ _ _ I2) hg ht he I2 T ur f2 hW ?_
 intro Da C H' s' m I' ns hn hL h0 r6 hp q
 show wpAny _ X.A (assign (.Name y py) X.env (.ref Da)) _ _ _
 refine wpAny_assign_Name (Ke I' hN dX hy (v:= .ref Da) rfl (fun s4 I4 ⟨a,sb,ha⟩=> ?_) hf)
 have WV:C≠a:=by
  rcases ha with z | z
  ·rw[z];exact hL
  ·exact Ne.symm (r6 _ _ z)
 refine⟨m,ns.sameBut sb WV,fun h' WW=> ⟨_,H', ?_,q⟩⟩
 exact I4.turned (it:=C) (t':=s4.toks) (fun b o hb e=>WW.extBut b o hb e) hn hL (.inr h0) r6 hp
theorem WX(S:ji X scope ln fv)(hc:X.calm=true)(hi:PI X tg iter wi)(hg:uL X scope ln fv tg tk)(ht:uM X scope (ln++fv.map (·.1)) ifs tc)
  (he: ∀(ex:List Addr) (C:Addr) (s:Shared) (H:Hp),PE (fL X scope (ln++fv.map (·.1)) ex C s H) elt te) (hs: ∀x,foldedSetIterable iter X.env x=pure x:=by intro _;rfl):
  PE X (.ListComp elt [⟨tg,iter,ifs,0⟩] scope pos) (mU X.K wi tk fv tc te):=
 WU (Φ:=Calm) (Ψ:=fun _=>True) S (fun _ _ Xc _ e _=>e.trans hc) (fun _ _ _ _ _=>trivial) hi.p (fun ex C s H _=>hg ex C s H) ht he hs
theorem WY{i:Nat}{y:Str}{py uO:Pos}(hN:X.N.Nodup)(dX:X.N[i]?=some y)(hy:Loc X.env.scope y)(Bz:swapsWith (.ListComp elt [⟨tg,iter,ifs,0⟩] scope pos) (some (.Name y py)) uO.line X.env=pure true)
  (S:ji X scope ln fv) (hc:X.calm=true) (hi:PI X tg iter wi) (hg:uL X scope ln fv tg tk) (ht:uM X scope (ln++fv.map (·.1)) ifs tc)
  (he: ∀(ex:List Addr) (C:Addr) (s:Shared) (H:Hp),PE (fL X scope (ln++fv.map (·.1)) ex C s H) elt te) (hs: ∀x,foldedSetIterable iter X.env x=pure x:=by intro _;rfl)
  (hf:X.fn y=true∨X.env.scope.names.lookup y=some .local:=by first | exact .inl rfl | exact .inr rfl | assumption):
  PS X (.Assign [.Name y py] (.ListComp elt [⟨tg,iter,ifs,0⟩] scope pos) uO) (i5 (mU X.K wi tk fv tc te) (dS i)):=
 Mb (Φ:=Calm) (Ψ:=fun _=>True) hN dX hy Bz S (fun _ _ Xc _ e _=>e.trans hc) (fun _ _ _ _ _=>trivial) hi.p (fun ex C s H _=>hg ex C s H) ht he hs hf
end
section
variable {X:Cx} {scope:Scope} {fv:List (Str×Nat)}
theorem WZ{x:Str}{px:Pos}(hl:scope.names.lookup x=some .local)(jM:(x::fv.map (·.1)).Nodup):uL X scope [x] fv (.Name x px) none:=by
 intro ex C s H
 have W0:Loc (fL X scope ([x]++fv.map (·.1)) ex C s H).env.scope x:= .inl (lookup_relabel_local hl)
 refine⟨dS 0,rO (X:=fL X scope ([x]++fv.map (·.1)) ex C s H) jM rfl W0 (.inr (lookup_relabel_local hl)),fun v pre φ H' Q hp h=> ?_⟩
 obtain⟨a,rfl⟩: ∃a,pre=[a]:=by
  match pre,hp with
  | [a],_=>exact⟨a,rfl⟩
 exact h rfl
theorem W2{x y:Str}{px py pos:Pos}{k:Nat}(hc:X.calm=true)(hx:scope.names.lookup x=some .local)(hy:scope.names.lookup y=some .local)(jM:(x::y::fv.map (·.1)).Nodup):uL X scope [x,y] fv (.Tuple [.Name x px, .Name y py] k pos) (some 2):=by
 intro ex C s H
 generalize eX:fL X scope ([x,y]++fv.map (·.1)) ex C s H=Xc
 have xN:Xc.N=x::y::fv.map (·.1):=by rw[←eX];rfl
 have xc:Xc.calm=true:=by rw[←eX];exact hc
 have lx:Xc.env.scope.names.lookup x=some .local:=by rw[←eX];exact lookup_relabel_local hx
 have ly:Xc.env.scope.names.lookup y=some .local:=by rw[←eX];exact lookup_relabel_local hy
 have p1:PG Xc (.Name x px) (dS 0):=rO (by rw[xN];exact jM) (by rw[xN];rfl) (.inl lx) (.inr lx)
 have p2:PG Xc (.Name y py) (dS 1):=rO (by rw[xN];exact jM) (by rw[xN];rfl) (.inl ly) (.inr ly)
 have xK:Xc.K=X.K:=by rw[←eX];rfl
 refine⟨xG Xc.K 2 (rP (dS 0) (rP (dS 1) xE)),Kw xc (uo p1 (uo p2 AQ)),fun v pre φ H' Q hp h=> ?_⟩
 obtain⟨a,b,rfl⟩: ∃a b,pre=[a,b]:=by
  match pre,hp with
  | [a,b],_=>exact⟨a,b,rfl⟩
 obtain⟨a',xs,rfl,e2,e3,q⟩:=h
 obtain⟨v1,v2,rfl⟩: ∃v1 v2,xs=[v1,v2]:=by
  match xs,e3 with
  | [v1,v2],_=>exact⟨v1,v2,rfl⟩
 exact⟨a',_,rfl,by rw[xK];exact e2,rfl,v1,_,rfl,v2,_,rfl,rfl,q rfl⟩
end
section
variable {X:Cx}
theorem bA.imp{f:Value→Value→Sem Value}{r r':R2}(h:bA X f r)(i: ∀x y H Q,r' x y H Q→r x y H Q):bA X f r':=fun pins s σ H x y v u Q I rx ry q=>h pins s σ H x y v u Q I rx ry (i _ _ _ _ q)
theorem cE.imp{f:Value}{r r':List V→Hp→VK→Prop}(h:cE X f r)(i: ∀xs H Q,r' xs H Q→r xs H Q):cE X f r':=fun pins s σ H xs us Q I rv q=>h pins s σ H xs us Q I rv (i _ _ _ q)
def Mc(K:PySem.W.Frag):R2:=fun x y H Q=>match x,y with
 | .int i, .int j=>Q (.int (i+j)) H
 | .str i, .str j=>i.length+j.length≤sizeLine∧Q (.str (i++j)) H
 | .ref l, .ref b=>Lp (.ref l) (.ref b) H Q∨Lg K (.ref l) (.ref b) H Q
 | _,_=>False
theorem W3:bA X (binaryOp .Add) (Mc X.K):=by
 refine bA.imp ((Ue.or UC).or (VR.or Vj)) fun x y H Q h=> ?_
 cases x<;>cases y<;>first
  | exact False.elim h
  | exact .inl (.inl ⟨_,_,rfl,rfl,h⟩)
  | exact .inl (.inr ⟨_,_,rfl,rfl,h⟩)
  | exact .inr h
def jN(C:Int→Int→Prop)(g:Int→Int→V):R2:=fun x y H Q=>match x,y with
 | .int i, .int j=>C i j∧Q (g i j) H
 | _,_=>False
theorem BA{C:Int→Int→Prop}{g:Int→Int→V}(x y:V)(H:Hp)(Q:VK)(h:jN C g x y H Q):rI C g x y H Q:=by
 cases x<;>cases y<;>first
  | exact False.elim h
  | exact⟨_,_,rfl,rfl,h⟩
theorem uP{g:Int→Int→V}(x y:V)(H:Hp)(Q:VK)(h:jN (fun _ _=>True) g x y H Q):kr g x y H Q:=by
 cases x<;>cases y<;>first
  | exact False.elim h
  | exact⟨_,_,rfl,rfl,h.2⟩
def Md:R2:=fun x y H Q=>match x,y with
 | .int i, .int j=>xT i j∧Q (.int (i*j)) H
 | .ref l, .int k=>Lq (.ref l) (.int k) H Q
 | _,_=>False
theorem W4:bA X (binaryOp .Mult) Md:=by
 refine bA.imp (Uh.or VS) fun x y H Q h=> ?_
 cases x<;>cases y<;>first
  | exact False.elim h
  | exact .inl ⟨_,_,rfl,rfl,h⟩
  | exact .inr h
def r9(K:PySem.W.Frag):Operator→R2
 | .Add=>Mc K
 | .Sub=>jN (fun _ _=>True) fun i j=> .int (i - j)
 | .Mult=>Md
 | .FloorDiv=>jN KJ fun i j=> .int (i / j)
 | .Mod=>jN (fun _ j=>0<j) fun i j=> .int (i % j)
 | .Pow=>jN KL fun i j=> .int (i ^ j.toNat)
 | _=>fun _ _ _ _=>False
theorem W_(op:Operator):bA X (binaryOp op) (r9 X.K op):=by
 cases op<;>first
  | exact W3
  | exact bA.imp Ug uP
  | exact W4
  | exact bA.imp Ui BA
  | exact bA.imp Uj BA
  | exact bA.imp Uk BA
  | exact fun _ _ _ _ _ _ _ _ _ _ _ _ h=>False.elim h
mutual
def Is(H:Hp):PyData→V→Prop
 | .none,v=>v= .aw
 | .bool b,v=>v= .bl b
 | .int i,v=>v= .int i
 | .str x,v=>v= .str x
 | .list xs,v=> ∃a vs,v= .ref a∧H a=some (.lst vs)∧IsL H xs vs
 | .tuple xs,v=> ∃a vs,v= .ref a∧H a=some (.tup vs)∧IsL H xs vs
 | .dict _,_=>False
def IsL(H:Hp):List PyData→List V→Prop
 | [],vs=>vs=[]
 | d::ds,vs=> ∃v r,vs=v::r∧Is H d v∧IsL H ds r
end
mutual
theorem Is.reads{pins:List (Addr×Obj)}{σ:St}{H:Hp}{s:Shared}(I:Inv X pins σ H s): ∀(d:PyData) (v:V) (u:Value),Is H d v→RelV v u→ ∃as,Reads s.heap u d as
 | .none,v,u,h,r=>by rw[show v= .aw from h] at r;rw[show u= .none from r];exact⟨_, .none⟩
 | .bool b,v,u,h,r=>by rw[show v= .bl b from h] at r;rw[show u= .bool b from r];exact⟨_, .bool b⟩
 | .int i,v,u,h,r=>by rw[show v= .int i from h] at r;obtain⟨t,e⟩:=r;rw[e];exact⟨_, .int i t⟩
 | .str x,v,u,h,r=>by rw[show v= .str x from h] at r;obtain⟨t,e⟩:=r;rw[e];exact⟨_, .str x t⟩
 | .list xs,v,u,h,r=>by
  obtain⟨a,vs,e,hH,hl⟩:=(show ∃a vs,v= .ref a∧H a=some (.lst vs)∧IsL H xs vs by simpa only[Is] using h)
  rw[e] at r
  rw[show u= .ref a from r]
  obtain⟨_,its,n,hv,hg⟩:=I.aB a _ hH
  obtain⟨as,q⟩:=IsL.reads I xs vs its hl hv
  exact⟨_, .list hg rfl rfl (by simpa using q)⟩
 | .tuple xs,v,u,h,r=>by
  obtain⟨a,vs,e,hH,hl⟩:=(show ∃a vs,v= .ref a∧H a=some (.tup vs)∧IsL H xs vs by simpa only[Is] using h)
  rw[e] at r
  rw[show u= .ref a from r]
  obtain⟨_,its,hv,o,hg,hc,n,hd⟩:=I.aB a _ hH
  obtain⟨as,q⟩:=IsL.reads I xs vs its hl hv
  exact⟨_, .tuple hg hc hd (by simpa using q)⟩
 | .dict _,v,u,h,r=>by simp only[Is] at h
theorem IsL.reads{pins:List (Addr×Obj)}{σ:St}{H:Hp}{s:Shared}(I:Inv X pins σ H s): ∀(ds:List PyData) (vs:List V) (us:List Value),IsL H ds vs→Vals vs us→ ∃as,ReadsAll s.heap us ds as
 | [],vs,us,h,r=>by
  rw[show vs=[] from h] at r
  cases r
  exact⟨_, .nil⟩
 | d::ds,vs,us,h,r=>by
  obtain⟨v,q,e,h1,h2⟩:=(show ∃v r,vs=v::r∧Is H d v∧IsL H ds r by simpa only[IsL] using h)
  rw[e] at r
  cases r with
  | cons r1 r2=>
   obtain⟨as,q1⟩:=Is.reads I d v _ h1 r1
   obtain⟨bs,q2⟩:=IsL.reads I ds q _ h2 r2
   exact⟨_, .cons q1 q2⟩
end
def Xa:V→Bool
 | .mK _=>false
 | .fh _=>false
 | _=>true
def Xb:R2:=fun x y H Q=> ∃a b xs,x= .ref a∧y= .ref b∧H a=some (.lst xs)∧H b=some (.lst xs)∧xs.all Xa=true∧Q (.bl true) H
def kS(neg:Bool):R2:=fun x y H Q=>match jK x y with
 | true=>Q (.bl (neg ^^ decide (x=y))) H
 | false=> ∃d e,Is H d x∧Is H e y∧SeqAt.shaped d=true∧SeqAt.shaped e=true∧Q (.bl (neg ^^ PyData.eqv d e)) H
def Xd:R2:=fun x y H Q=>kS false x y H Q∨Xb x y H Q
theorem Xe(hu:X.A.units+64<cLine):bA X (compareOp .Eq) (kS false):=by
 intro pins s σ H x y v u Q I rx ry h
 unfold kS at h
 by_cases hs:jK x y=true
 ·rw[hs] at h
  simp only[Bool.false_xor] at h
  exact Uq pins s σ H x y v u Q I rx ry ⟨hs,h⟩
 ·rw[show jK x y=false by simpa using hs] at h
  obtain⟨d,e,h1,h2,h3,h4,q⟩:=h
  rw[Bool.false_xor] at q
  obtain⟨as,r1⟩:=Is.reads I d x v h1 rx
  obtain⟨bs,r2⟩:=Is.reads I e y u h2 ry
  exact eq_dataH r1 r2 h3 h4 hu ⟨.bl _,H,I,rfl,q⟩
theorem Xf(hu:X.A.units+64<cLine):bA X (compareOp .NotEq) (kS true):=by
 intro pins s σ H x y v u Q I rx ry h
 unfold kS at h
 by_cases hs:jK x y=true
 ·rw[hs] at h
  simp only[Bool.true_xor] at h
  exact Ur pins s σ H x y v u Q I rx ry ⟨hs,h⟩
 ·rw[show jK x y=false by simpa using hs] at h
  obtain⟨d,e,h1,h2,h3,h4,q⟩:=h
  rw[Bool.true_xor] at q
  obtain⟨as,r1⟩:=Is.reads I d x v h1 rx
  obtain⟨bs,r2⟩:=Is.reads I e y u h2 ry
  exact ne_dataH r1 r2 h3 h4 hu ⟨.bl _,H,I,rfl,q⟩
theorem Xg(l:Addr)(o:Obj)(es:Array DictEntry)(ep:Nat)(hc:o.cls= .type "dict")(hd:o.data= .dict es ep)(b:Str)(u:Tok):
  Meets (Builtin.«dict.__eq__» ⟨[.ref l, .str b u],[]⟩) (fun _ R s=>s.heap.get? l=some o∧R (.ok (.ret .notImplemented)) s):=
 .of_wp fun prog w A R s h=>by obtain⟨hp,g,d,tk,os⟩:=s;obtain⟨hl,h⟩:=h;obtain⟨cls,dd,data,sl⟩:=o;simp only at hc hd;subst hc hd;have f1:=F.sub_str_dict;wp_walk using AutoSeq1.wpAny_loadPart' hl;exact⟨_,rfl,h⟩
theorem Xh(b:Str)(u:Tok)(l:Addr)(o:Obj)(es:Array DictEntry)(ep:Nat)(hc:o.cls= .type "dict")(hd:o.data= .dict es ep):
  Meets (Builtin.«str.__eq__» ⟨[.str b u, .ref l],[]⟩) (fun _ R s=>s.heap.get? l=some o∧R (.ok (.ret .notImplemented)) s):=
 .of_wp fun prog w A R s h=>by obtain⟨hp,g,d,tk,os⟩:=s;obtain⟨hl,h⟩:=h;obtain⟨cls,dd,data,sl⟩:=o;simp only at hc hd;subst hc hd;wp_walk using AutoSeq1.wpAny_loadPart' hl,wpAny_load hl;exact⟨_,rfl,h⟩
theorem Xi{A:Around}{s:Shared}{l:Addr}{o:Obj}{es:Array DictEntry}{ep:Nat}(b:Str)(u:Tok)(ho:s.heap.get? l=some o)(hc:o.cls= .type "dict")(hd:o.data= .dict es ep)(hu:A.units<cLine):SeqAt.EqAt A s (.str b u) (.ref l) false:=fun prog w E Q h=>by
 have rc:SeqAt.RcAt A s (.str b u) (.ref l) false:=fun prog w E Q h=>
  SeqAt.rc_eq_decline_or (k:=false) (typeIs_str s b u) ⟨_,ho,hc⟩ (by decide) F.sub_dict_str F.slot_str_eq F.slot_dict_eq_refl
   (fun _ hq=>call_meets F.slot_str_eq (typeIs_str s b u) F.entry_str_eq (F.args_str_eq_2 _ _) (Xh b u l o es ep hc hd) ⟨ho,hq⟩)
   (fun _ hq=>call_meets F.slot_dict_eq_refl ⟨_,ho,hc⟩ F.entry_dict_eq (F.args_dict_eq_2 _ _) (Xg l o es ep hc hd b u) ⟨ho,hq⟩)
   (fun _ hq=>wpAny_of_eq (rfl:isSame (.str b u) (.ref l)=pure false) hq) (.inr hu) h
 unfold eqBool
 refine wpAny_holding ?_
 refine wpAny_ite_split (fun BB=>absurd (eq_of_beq BB) nofun) (fun _=> ?_)
 exact wpAny_bind (rc prog w E _ (wpAny_truthy_bool h))
def Me(K:PySem.W.Frag)(H:Hp)(a:Addr):Prop:=(∃xs,ao K H a xs)∨(∃xs,aI K H a xs)∨ ∃ah,H a=some (.dK ah)
theorem uQ{pins:List (Addr×Obj)}{σ:St}{H:Hp}{s:Shared}{a:Addr}(I:Inv X pins σ H s)(hc:Me X.K H a)(hu:X.A.units+64<cLine): ∀{ts:List Str} {us:List Value},Vals (ts.map V.str) us→ ∀u∈us,SeqAt.EqAt X.A.in1 s u (.ref a) false
 | [],_, .nil=>fun u hu=>by cases hu
 | t::ts,u::us, .cons r rs=>fun u' uR=>by
  rcases List.mem_cons.mp uR with rfl | uR
  ·obtain⟨k,rfl⟩:=(show ∃k,_=Value.str t k from r)
   have BC:X.A.in1.units<cLine:=by show X.A.units+1<cLine;omega
   rcases hc with⟨xs,hc⟩ | ⟨xs,hc⟩ | ⟨ah,hc⟩
   ·obtain⟨its,_,pl,_⟩:=I.list hc
    exact SeqAt.EqAt.str_list t k pl.isList BC
   ·obtain⟨its,_,pl,_⟩:=I.tuple hc
    exact SeqAt.EqAt.str_tuple t k pl BC
   ·obtain⟨_,_,vs,_,o,es,ep,ho,hx,hd,_⟩:=(show cx X.prog X.w H s.heap a (.dK ah) from I.aB a _ hc)
    exact Xi t k ho hx.1 hd BC
  ·exact uQ I hc hu rs u' uR
def yo(K:PySem.W.Frag)(neg:Bool):R2:=fun x y H Q=>match y with
 | .str j=> ∃i,x= .str i∧Q (.bl (if neg then !(!(Builtin.Str.occurrences j i 0 j.length 1).isEmpty) else !(Builtin.Str.occurrences j i 0 j.length 1).isEmpty)) H
 | .ref p=>match x with
  | .ref a=> ∃ts:List Str,(ao K H p (ts.map V.str)∨aI K H p (ts.map V.str))∧Me K H a∧Q (.bl neg) H
  | x=>Bf K neg x (.ref p) H Q
 | _=>False
theorem Xj(hu:X.A.units+64<cLine):bA X (compareOp .In) (yo X.K false):=by
 intro pins s σ H x y v u Q I rx ry h
 cases y with
 | str j=>
  obtain⟨i,e,q⟩:=h
  exact Uw pins s σ H x _ v u Q I rx ry ⟨i,j,e,rfl,q⟩
 | ref p=>
  cases x with
  | ref a=>
   obtain⟨ts,hq,hc,q⟩:=h
   cases rx
   cases ry
   rcases hq with hq | hq
   ·obtain⟨its,r,pl,hz⟩:=I.list hq
    refine SeqAt.in_listAt (fun _=>false) pl.isList (fun w hw=>uQ I hc hu r w (by simpa using hw)) ⟨.bl _,H,I,rfl, ?_⟩
    rw[show(its.toArray.any fun _=>false)=false by simp];exact q
   ·obtain⟨its,r,pl,hz⟩:=I.tuple hq
    refine SeqAt.in_tupleAt (fun _=>false) pl (fun w hw=>uQ I hc hu r w (by simpa using hw)) ⟨.bl _,H,I,rfl, ?_⟩
    rw[show(its.toArray.any fun _=>false)=false by simp];exact q
  | _=>exact Vv pins s σ H _ _ v u Q I rx ry h
 | _=>exact False.elim h
theorem Xk(hu:X.A.units+64<cLine):bA X (compareOp .NotIn) (yo X.K true):=by
 intro pins s σ H x y v u Q I rx ry h
 cases y with
 | str j=>
  obtain⟨i,e,q⟩:=h
  exact Uz pins s σ H x _ v u Q I rx ry ⟨i,j,e,rfl,q⟩
 | ref p=>
  cases x with
  | ref a=>
   obtain⟨ts,hq,hc,q⟩:=h
   cases rx
   cases ry
   rcases hq with hq | hq
   ·obtain⟨its,r,pl,hz⟩:=I.list hq
    refine SeqAt.notIn_listAt (fun _=>false) pl.isList (fun w hw=>uQ I hc hu r w (by simpa using hw)) ⟨.bl _,H,I,rfl, ?_⟩
    rw[show(its.toArray.any fun _=>false)=false by simp];exact q
   ·obtain⟨its,r,pl,hz⟩:=I.tuple hq
    refine SeqAt.notIn_tupleAt (fun _=>false) pl (fun w hw=>uQ I hc hu r w (by simpa using hw)) ⟨.bl _,H,I,rfl, ?_⟩
    rw[show(its.toArray.any fun _=>false)=false by simp];exact q
  | _=>exact Vw pins s σ H _ _ v u Q I rx ry h
 | _=>exact False.elim h
theorem Xl{M:Model}{A:Around}{E:Value→Shared→Prop}{s:Shared}{Q:Value→Shared→Prop}{v:Value}{d:Bool}(hv: ∀id,v≠ .builtin id)(h:Q (.bool (v== .bool d)) s):wpAny M A (compareOp .Is v (.bool d)) Q E s:=by
 cases v<;>first | exact wpAny_pure h | exact absurd rfl (hv _)
theorem Xm{M:Model}{A:Around}{E:Value→Shared→Prop}{s:Shared}{Q:Value→Shared→Prop}{v:Value}{d:Bool}(hv: ∀id,v≠ .builtin id)(h:Q (.bool (!(v== .bool d))) s):wpAny M A (compareOp .IsNot v (.bool d)) Q E s:=by
 cases v<;>first | exact wpAny_pure h | exact absurd rfl (hv _)
def Mf:R2:=fun x y H Q=>match y with
 | .bl b=>Q (.bl (decide (x= .bl b))) H
 | _=>y= .aw∧Q (.bl (decide (x= .aw))) H
def Mg:R2:=fun x y H Q=>match y with
 | .bl b=>Q (.bl (!decide (x= .bl b))) H
 | _=>y= .aw∧Q (.bl (!decide (x= .aw))) H
theorem Xn:bA X (compareOp .Is) Mf:=by
 intro pins s σ H x y v u Q I rx ry h
 cases y with
 | bl b=>
  cases ry
  have nb: ∀id,v≠ .builtin id:=fun id z=>by
   subst z
   cases x<;>first
    | (obtain⟨t,e⟩:=rx;cases e;done)
    | (cases rx;done)
  refine Xl nb (cy I (show Q (.bl (decide (x= .bl b))) H from h) ?_)
  cases x<;>first
   | (cases rx;rfl)
   | (obtain⟨t,rfl⟩:=rx;rfl)
   | (cases rx;rename_i a;cases a<;>cases b<;>rfl)
 | _=>exact Ux pins s σ H x _ v u Q I rx ry h
theorem Xo:bA X (compareOp .IsNot) Mg:=by
 intro pins s σ H x y v u Q I rx ry h
 cases y with
 | bl b=>
  cases ry
  have nb: ∀id,v≠ .builtin id:=fun id z=>by
   subst z
   cases x<;>first
    | (obtain⟨t,e⟩:=rx;cases e;done)
    | (cases rx;done)
  refine Xm nb (cy I (show Q (.bl (!decide (x= .bl b))) H from h) ?_)
  cases x<;>first
   | (cases rx;rfl)
   | (obtain⟨t,rfl⟩:=rx;rfl)
   | (cases rx;rename_i a;cases a<;>cases b<;>rfl)
 | _=>exact Uy pins s σ H x _ v u Q I rx ry h
def dr(K:PySem.W.Frag):CmpOp→R2
 | .Eq=>kS false
 | .NotEq=>kS true
 | .Lt=>jN (fun _ _=>True) fun i j=> .bl (decide (i<j))
 | .LtE=>jN (fun _ _=>True) fun i j=> .bl (decide (i≤j))
 | .Gt=>jN (fun _ _=>True) fun i j=> .bl (decide (j<i))
 | .GtE=>jN (fun _ _=>True) fun i j=> .bl (decide (j≤i))
 | .In=>yo K false
 | .NotIn=>yo K true
 | .Is=>Mf
 | .IsNot=>Mg
theorem Mh(hu:X.A.units+64<cLine)(op:CmpOp):bA X (compareOp op) (dr X.K op):=by
 cases op with
 | Eq=>exact Xe hu
 | NotEq=>exact Xf hu
 | Lt=>exact bA.imp Us uP
 | LtE=>exact bA.imp Ut uP
 | Gt=>exact bA.imp Uu uP
 | GtE=>exact bA.imp Uv uP
 | In=>exact Xj hu
 | NotIn=>exact Xk hu
 | Is=>exact Xn
 | IsNot=>exact Xo
inductive Ty where | int | str | bool | list | tuple | dict
 deriving DecidableEq
def Ty.nm:Ty→String
 | .int=> "int" | .str=> "str" | .bool=> "bool" | .list=> "list" | .tuple=> "tuple" | .dict=> "dict"
def bZ(T:Ty)(x:V)(H:Hp)(Q:Bool→Prop):Prop:=match x with
 | .aw=>Q false
 | .bl _=>Q (T== .bool || T== .int)
 | .int _=>Q (T== .int)
 | .str _=>Q (T== .str)
 | .ref a=>match H a with
  | some (.lst _)=>Q (T== .list)
  | some (.bL _ (.lst _))=>Q (T== .list)
  | some (.tup _)=>Q (T== .tuple)
  | some (.dK _)=>Q (T== .dict)
  | some (.dT _)=>Q (T== .dict)
  | _=>False
 | _=>False
theorem mW(K:PySem.W.Frag)(S T:Ty):kitOne K (.type S.nm) (.type T.nm)=some (S==T || (S== .bool && T== .int)):=by
 cases S<;>cases T<;>rfl
theorem Xp(K:PySem.W.Frag)(T:Ty):kitOne K (.type "NoneType") (.type T.nm)=some false:=by
 cases T<;>rfl
theorem Xq(hc:X.calm=true):cE X (.builtin "sum") (fun xs H Q=> ∃(p:Addr) (ns:List Int),xs=[.ref p]∧ao X.K H p (ns.map V.int)∧Q (.int ns.sum) H):=by
 intro pins s σ H xs us Q I r h
 obtain⟨p,ns,rfl,hq,q⟩:=h
 obtain⟨u,rfl,ru⟩:=vals1 r
 cases ru
 obtain⟨its,rv,pl,hz⟩:=I.list hq
 have hi:=intsAre_of rv
 obtain⟨xs,hx⟩:=hi.allInts.items
 have dy:s.heap.IsList p (intItems xs):=hx ▸ pl.isList
 refine sum_intListG (I.ok.hd hc) dy fun h' tk t' hk=> ?_
 have e1:ns=xs.toList.map (·.1):=by
  rw[←nums_intItems,←hx]
  exact(show numsOf its.toArray.toList=ns from hi.numsOf).symm
 have e2:preSum (numAt xs) xs.size=ns.sum:=by
  rw[preSum_eq,List.take_of_length_le (by simp),e1]
 rw[e2]
 exact⟨.int ns.sum,H,I.kept (t':=tk) hk,⟨t',rfl⟩,q⟩
theorem Mi: ∀{ts:List Str} {us:List Value},Vals (ts.map V.str) us→ ∃l:List (Str×Tok),us=strValues l∧l.map (·.1)=ts
 | [],_, .nil=> ⟨[],rfl,rfl⟩
 | x::ts,_, .cons ⟨t,e⟩ r=>by
  obtain⟨l,e1,e2⟩:=Mi r
  subst e e1
  exact⟨(x,t)::l,rfl,by simp[e2]⟩
def rJoin(K:PySem.W.Frag):V→List V→Hp→VK→Prop:=fun x vs H Q=> ∃(sep:Str) (p:Addr) (ts:List Str),x= .str sep∧vs=[.ref p]∧ao K H p (ts.map V.str)∧JoinOk sep ts=true∧Q (.str (Txt.join sep ts)) H
theorem Xr:kO X "str.join" (rJoin X.K):=by
 intro pins s σ H x vs v us Q I rx rv h
 obtain⟨sep,p,ts,rfl,rfl,hq,hj,q⟩:=h
 obtain⟨t,rfl⟩:=rx
 obtain⟨u,rfl,ru⟩:=vals1 rv
 cases ru
 obtain⟨its,rv,pl,hz⟩:=I.list hq
 obtain⟨l,rfl,e2⟩:=Mi rv
 exact SC.join pl.isList e2 hj fun t' k=> ⟨.str _,H,I.tok k,⟨t',rfl⟩,q⟩
def Xs:V→List V→Hp→VK→Prop:=fun x vs H Q=> ∃z y,x= .str z∧vs=[.str y]∧z.length≤sizeLine∧Q (.str (Txt.lstripChars z y)) H
theorem Xt:kO X "str.lstrip" Xs:=by
 intro pins s σ H x vs v us Q I rx rv h
 obtain⟨z,y,rfl,rfl,hz,q⟩:=h
 obtain⟨t,rfl⟩:=rx
 obtain⟨u,rfl,⟨t2,rfl⟩⟩:=vals1 rv
 refine call_gives F.slot_str_lstrip (typeIs_str _ _ _) F.entry_str_lstrip (F.args_str_lstrip_2 _ _) (gives_str_lstrip_chars z y t t2) (post_val_or_made (fun _=>fits_stripped _ _ _ hz) fun t' k=> ?_)
 exact⟨.str _,H,I.tok k,⟨t',rfl⟩,q⟩
def Xu:V→List V→Hp→VK→Prop:=fun x vs H Q=> ∃z y i,x= .str z∧vs=[.str y, .int i]∧Q (.bl (decide (fromIndex z.length i+y.length≤z.length) && Builtin.Str.subAt z y (fromIndex z.length i))) H
theorem Xv:kO X "str.startswith" Xu:=by
 intro pins s σ H x vs v us Q I rx rv h
 obtain⟨z,y,i,rfl,rfl,q⟩:=h
 obtain⟨t,rfl⟩:=rx
 obtain⟨u,w,rfl,⟨t2,rfl⟩,⟨t3,rfl⟩⟩:=vals2 rv
 exact call_gives F.slot_str_startswith (typeIs_str _ _ _) F.entry_str_startswith (F.args_str_startswith_3 _ _ _) (gives_str_startswith_from z y i t t2 t3) ⟨.bl _,H,I,rfl,q⟩
def kT{α:Type}(xs:List α)(lo hi:Option Int):List α:=(xs.drop (HT.bh xs.length 0 lo)).take (HT.bh xs.length xs.length hi - HT.bh xs.length 0 lo)
def kU(z:Str)(lo hi:Option Int):Str:=⟨(kT z.cps.toList lo hi).toArray⟩
theorem Xw(z:Str)(lo hi:Option Int):((Builtin.Str.strSliceIndices lo hi 1 z.length).filterMap (z.cps[·]?))=kT z.cps.toList lo hi:=by
 obtain⟨h1,h2,h3⟩:=Be lo hi z.length
 have e0:Builtin.Str.strSliceIndices lo hi 1 z.length=sliceRange (sliceBounds lo hi none z.length).1 (sliceBounds lo hi none z.length).2.1 (sliceBounds lo hi none z.length).2.2:=rfl
 have hz:z.cps.toList.length=z.length:=by simp[Str.length]
 rw[e0,h1,h2,h3,sliceRange_one,pick_run]
 unfold kT
 rw[hz]
end
section
variable {X:Cx}
def mX(K:PySem.W.Frag)(neg:Bool):R2:=fun x y H Q=> ∃p xs d es,y= .ref p∧ao K H p xs∧Is H d x∧IsL H es xs∧SeqAt.shaped d=true∧d.depth≤60∧(∀e∈es,SeqAt.shaped e=true)∧Q (.bl (neg ^^ es.any fun e=>PyData.eqv e d)) H
theorem Mj{h:Heap}{d:PyData}(e:Value→Bool)(he: ∀y de as,Reads h y de as→de.canLay0=true→e y=PyData.eqv de d): ∀{us:List Value} {ds:List PyData} {bs:List Addr},ReadsAll h us ds bs→(∀x∈ds,x.canLay0=true)→us.any e=ds.any fun x=>PyData.eqv x d
 | _,_,_, .nil,_=>rfl
 | _,_,_, .cons r rs,hc=>by
  rw[List.any_cons,List.any_cons,he _ _ _ r (hc _ List.mem_cons_self),Mj e he rs fun x hx=>hc x (List.mem_cons_of_mem _ hx)]
theorem Ml{h:Heap}: ∀{us:List Value} {ds:List PyData} {bs:List Addr},ReadsAll h us ds bs→ ∀u∈us,∃d∈ds,∃as,Reads h u d as
 | _,_,_, .nil,u,hu=>by cases hu
 | _,_,_, .cons r rs,u,hu=>by
  rcases List.mem_cons.mp hu with rfl | hu
  ·exact⟨_,List.mem_cons_self,_,r⟩
  ·obtain⟨d,hd,as,q⟩:=Ml rs u hu
   exact⟨d,List.mem_cons_of_mem _ hd,as,q⟩
open Classical in
theorem Mm{pins:List (Addr×Obj)}{s:Shared}{σ:St}{H:Hp}{x:V}{v:Value}{d:PyData}{es:List PyData}{xs:List V}{its:List Value}(I:Inv X pins σ H s)(hu:X.A.units+64<cLine)(hx:Is H d x)(rx:RelV x v)(hs:IsL H es xs)(r:Vals xs its)(sd:SeqAt.shaped d=true)(dep:d.depth≤60)(se: ∀e∈es,SeqAt.shaped e=true):
  ∃e:Value→Bool,(∀w∈its,SeqAt.EqAt X.A.in1 s w v (e w))∧its.any e=es.any fun e=>PyData.eqv e d:=by
 obtain⟨as,rd⟩:=Is.reads I d x v hx rx
 obtain⟨bs,ra⟩:=IsL.reads I es xs its hs r
 have cd:=SeqAt.canLay_of_shaped sd
 let e:Value→Bool:=fun y=>decide (∃de r_,Reads s.heap y de r_∧de.canLay0=true∧PyData.eqv de d=true)
 have he: ∀y de r_,Reads s.heap y de r_→de.canLay0=true→e y=PyData.eqv de d:=by
  intro y de r_ q c
  show decide _=_
  cases hv:PyData.eqv de d with
  | true=>exact decide_eq_true ⟨de,r_,q,c,hv⟩
  | false=>
   refine decide_eq_false fun⟨Xx,yp,q',_,xU⟩=> ?_
   have:=SeqAt.Reads.unique de Xx y r_ yp c q q'
   rw[←this,hv] at xU
   cases xU
 refine⟨e,fun w hw=> ?_,Mj e he ra fun x hx=>SeqAt.canLay_of_shaped (se x hx)⟩
 obtain⟨de,BD,yp,q⟩:=Ml ra w hw
 have Mn:=SeqAt.canLay_of_shaped (se de BD)
 rw[he w de yp q Mn]
 exact SeqAt.eqAt_reads de d X.A.in1 s w v yp as q rd Mn cd (by show X.A.units+1+min de.depth d.depth<cLine;omega)
theorem Xy(hu:X.A.units+64<cLine):bA X (compareOp .In) (mX X.K false):=by
 intro pins s σ H x y v u Q I rx ry h
 obtain⟨p,xs,d,es,rfl,hq,hx,hs,sd,dep,se,q⟩:=h
 cases ry
 obtain⟨its,r,pl,hz⟩:=I.list hq
 obtain⟨e,he,ha⟩:=Mm I hu hx rx hs r sd dep se
 refine SeqAt.in_listAt e pl.isList (fun w hw=>he w (by simpa using hw)) ⟨.bl _,H,I,rfl, ?_⟩
 rw[show its.toArray.any e=its.any e by simp,ha]
 simpa using q
theorem Xz(hu:X.A.units+64<cLine):bA X (compareOp .NotIn) (mX X.K true):=by
 intro pins s σ H x y v u Q I rx ry h
 obtain⟨p,xs,d,es,rfl,hq,hx,hs,sd,dep,se,q⟩:=h
 cases ry
 obtain⟨its,r,pl,hz⟩:=I.list hq
 obtain⟨e,he,ha⟩:=Mm I hu hx rx hs r sd dep se
 refine SeqAt.notIn_listAt e pl.isList (fun w hw=>he w (by simpa using hw)) ⟨.bl _,H,I,rfl, ?_⟩
 rw[show its.toArray.any e=its.any e by simp,ha]
 simpa using q
end
def mY:HO:= .ext fun _=>True
structure BE (ob:Obj) (cls:Value) (vs:Array Value):Prop where
 cls:ob.cls=cls
 data:ob.data= .fields vs
 XA:vs[2]?=some .none
 dict:ob.dict=none
def ExcAt(H:Hp)(ea D:Addr):Prop:= ∃ob vs,H ea=some (.bL ob mY)∧BE ob (.ref D) vs
structure uS (K:PySem.W.Frag) (D:Addr):Prop where
 uT:PySem.W.findIn K (.ref D) "__getattribute__"=some (some (.builtin "BaseException.__getattribute__"))
 uU:PySem.W.findIn K (.ref D) "__getattr__"=some none
 hk:(PySem.W.clsIn K D).isSome=true
 ha:PySem.W.findIn K (.ref D) "__class__"=some (some (.builtin "object.__class__"))
 hn:PySem.W.specialIn K (.builtin "object.__class__") "__get__"=some (some (.builtin "getset_descriptor.__get__"))
 mQ:PySem.W.takesIn K (.builtin "object.__class__")=some true
 hm:PySem.W.mroIn K D (.type "object")=some true
 hb:PySem.W.mroIn K D (.type "BaseException")=some true
def cV:V→Value
 | .ref a=> .ref a
 | .ty n=> .type n
 | _=> .none
def jO(K:PySem.W.Frag):List V→Hp→VK→Prop
 | [.ref ea,c],H,Q=> ∃D b,ExcAt H ea D∧uS K D∧((∃C,c= .ref C)∨ ∃n,c= .ty n)∧kitOne K (.ref D) (cV c)=some b∧Q (.bl b) H
 | _,_,_=>False
def Mo(sp:Sp)(hv:Option Addr)(t:TA):TE:=fun σ H Q=>t σ H fun vs H1=> (∃ea D,hv=some ea∧ExcAt H1 ea D)∧sp vs H1 Q E0
def BF(C:Addr)(E:XK)(t:TA):TS:=fun _ σ H=>t σ H fun vs H1=>vs.length≤sizeLine∧E (.ref C) none H1
def BG(K:PySem.W.Frag)(C:Addr)(i n:Nat)(th:Addr→TS)(D:Ends):XK:=fun cls _ H'=>exmOne K cls (.ref C)=some true∧
 ∀(ea:Addr) (ob:Obj) (vs:Array Value) (σ':St),H' ea=none→σ'.length=n→BE ob cls vs→th ea {nx:=fun _ _=>False,rt:=D.rt} (σ'.set i (some (.ref ea))) (upd H' ea (.bL ob mY))
def yq(K:PySem.W.Frag)(C:Addr)(i n:Nat)(tb:XK→TS)(th:Addr→TS):TS:=fun D σ H=>tb (BG K C i n th D) {nx:=D.nx,rt:=D.rt} σ H
inductive kW where | len | min | max | sum | int | list | tuple | abs
 deriving DecidableEq
inductive hJ where | append | pop | extend | join | lstrip | starts | reverse | clear | index | find | count | BH | BI
 deriving DecidableEq
inductive IK where | list | tup | eO | XB | zip | XC
 deriving DecidableEq
inductive RE where
 | v (i:Nat) | c (x:V) | g (j:Nat)
 | bin (op:Operator) (a b:RE) | neg (a:RE)
 | cmp (op:CmpOp) (a b:RE) | Mp (op oU:CmpOp) (a b d:RE) | Mq (op oU Mr:CmpOp) (a b d f:RE)
 | and (as:List RE) | or (as:List RE) | not (a:RE) | uV (t a b:RE)
 | call (j:Nat) (as:List RE) | blt (b:kW) (as:List RE) | dG (T:Ty) (a:RE)
 | cb (m:hJ) (o:RE) (as:List RE)
 | ix (a b:RE) | sl (a:RE) (lo hi:Option RE)
 | tup (as:List RE) | lst (as:List RE)
 | comp (tk:Option Nat) (fv:List (Str×Nat)) (k:IK) (its:List RE) (cond:Option RE) (elt:RE)
 | da (a c:RE) | yr (j:Nat) (a:RE) | yt | same (a b:RE)
 | BJ | uW (a b:RE) | yu (a b:RE) | Ms (a b:RE) | uX (o a b:RE) | inD (a b:RE) | oV (a b:RE)
 | fld (o:RE) (f:Str) | di (j:Nat) (m:Str) (o:RE) (as:List RE) | make (j:Nat) (as:List RE)
inductive RS where
 | asg (i:Nat) (e:RE) | oW (i:Nat) (e:RE) | set (o ix e:RE)
 | drop (e:RE) | ret (e:RE) | XD
 | ite (c:RE) (t e:List RS)
 | oX (i:Nat) (k:IK) (its:List RE) (body:List RS)
 | kY (is:List Nat) (k:IK) (its:List RE) (body:List RS)
 | yv (c:RE) (body:List RS)
 | pass | brk | cont | never
 | XE (o lo hi e:RE) | mZ (o:RE) (f:Str) (e:RE)
 | XF (is:List Nat) (e:RE) | dput (o i e:RE) | oY (j:Nat) (as:List RE) | BK (n i j:Nat) (body su:List RS)
structure aJ where
 K:PySem.W.Frag
 fs:Nat→Sp
 gv:Nat→V
 E:XK
 sd:Addr→List (Key×V)→Prop
 ms:Nat→Addr×Sp
 kt:Nat→Addr×Sp
 ex:Nat→Addr
 hs:Nat→Sp
 hv:Option Addr
abbrev aJ.calm(Γ:aJ):aJ:={Γ with E:=E0}
def jP(K:PySem.W.Frag)(x:V)(H:Hp)(Q:Bool→Prop):Prop:=match x with
 | .aw=>Q false
 | .bl b=>Q b
 | .int i=>Q (i !=0)
 | .str y=>y.length≤sizeLine∧Q ((y.length:Int) !=0)
 | .ref p=> (∃xs,ao K H p xs∧Q (!xs.isEmpty))∨(∃xs,aI K H p xs∧Q (!xs.isEmpty))∨ ∃ah,H p=some (.dK ah)∧Q (!ah.isEmpty)
 | _=>False
theorem Mt{K:PySem.W.Frag}{x:V}{H:Hp}{Q:Bool→Prop}(h:jP K x H Q): ∃k,KR K x H k∧Q k:=by
 cases x with
 | aw=>exact⟨_,rfl,h⟩
 | bl b=>exact⟨_,rfl,h⟩
 | int i=>exact⟨_,rfl,h⟩
 | str y=>exact⟨_,⟨h.1,rfl⟩,h.2⟩
 | ref p=>
  rcases h with⟨xs,h1,h2⟩ | ⟨xs,h1,h2⟩ | ⟨xs,h1,h2⟩
  ·exact⟨_, .inl ⟨xs,h1,rfl⟩,h2⟩
  ·exact⟨_, .inr (.inl ⟨xs,h1,rfl⟩),h2⟩
  ·exact⟨_, .inr (.inr ⟨xs,h1,rfl⟩),h2⟩
 | _=>exact False.elim h
def gg(K:PySem.W.Frag)(t:TE):TT:=fun σ H Q=>t σ H fun x H1=>jP K x H1 fun b=>Q b H1
def BL(K:PySem.W.Frag)(t:TE):TE:=fun σ H Q=>t σ H fun x H1=>jP K x H1 fun b=>Q (.bl (!b)) H1
def Mu:V→Hp→VK→Prop:=fun x H Q=>match x with | .int i=>Q (.int (-i)) H | _=>False
def yd(K:PySem.W.Frag)(x:V)(H:Hp)(Q:Nat→Prop):Prop:=match x with
 | .str y=>y.length≤sizeLine∧Q y.length
 | .ref p=> (∃xs,ao K H p xs∧Q xs.length)∨ ∃xs,aI K H p xs∧Q xs.length
 | _=>False
def signs(x:Str):List V:=x.cps.toList.map fun c=>V.str ⟨#[c]⟩
def Mv:TE:=fun _ H Q=> ∀p,H p=none→Q (.ref p) (upd H p (.dK []))
def oZ(K:PySem.W.Frag):kW→List V→Hp→VK→Prop
 | .len,[x],H,Q=>yd K x H fun n=>Q (.int n) H
 | .min,[.int i, .int j],H,Q=>Q (.int (if j<i then j else i)) H
 | .max,[.int i, .int j],H,Q=>Q (.int (if j>i then j else i)) H
 | .min,[.ref p],H,Q=> ∃ns:List Int,ao K H p (ns.map V.int)∧ns≠ []∧ ∀m:Int,m∈ns→(∀n∈ns,m≤n)→Q (.int m) H
 | .max,[.ref p],H,Q=> ∃ns:List Int,ao K H p (ns.map V.int)∧ns≠ []∧ ∀m:Int,m∈ns→(∀n∈ns,n≤m)→Q (.int m) H
 | .sum,[.ref p],H,Q=> ∃ns:List Int,ao K H p (ns.map V.int)∧Q (.int ns.sum) H
 | .int,[.int i],H,Q=>Q (.int i) H
 | .int,[.bl k],H,Q=>Q (.int (if k then 1 else 0)) H
 | .list,[.ref p],H,Q=> ∃ys,(ao K H p ys∨aI K H p ys)∧ ∀l,H l=none→Q (.ref l) (upd H l (.lst ys))
 | .list,[.str x],H,Q=>x.length≤sizeLine∧ ∀l,H l=none→Q (.ref l) (upd H l (.lst (signs x)))
 | .tuple,[.str x],H,Q=>x.length≤sizeLine∧ ∀l,H l=none→Q (.ref l) (upd H l (.tup (signs x)))
 | .abs,[.int i],H,Q=>Q (.int (if i<0 then -i else i)) H
 | .tuple,[.ref p],H,Q=> ∃ys,(ao K H p ys∧ ∀l,H l=none→Q (.ref l) (upd H l (.tup ys)))∨(aI K H p ys∧Q (.ref p) H)
 | _,_,_,_=>False
def m3(T:Ty):List V→Hp→VK→Prop
 | [x, .ty n],H,Q=>n=T.nm∧bZ T x H fun b=>Q (.bl b) H
 | _,_,_=>False
def uY(K:PySem.W.Frag):hJ→V→List V→Hp→VK→Prop
 | .append, .ref l,[y],H,Q=> ∃xs,H l=some (.lst xs)∧xs.length<sizeLine∧Q .aw (upd H l (.lst (xs++ [y])))
 | .pop, .ref l,[],H,Q=> ∃xs y,H l=some (.lst xs)∧xs[xs.length - 1]?=some y∧Q y (upd H l (.lst xs.dropLast))
 | .extend, .ref l,[.ref b],H,Q=> ∃xs zs,H l=some (.lst xs)∧H b=some (.lst zs)∧xs.length+zs.length≤sizeLine∧Q .aw (upd H l (.lst (xs++zs)))
 | .join, .str sep,[.ref p],H,Q=> ∃ts:List Str,ao K H p (ts.map V.str)∧JoinOk sep ts=true∧Q (.str (Txt.join sep ts)) H
 | .lstrip, .str z,[.str y],H,Q=>z.length≤sizeLine∧Q (.str (Txt.lstripChars z y)) H
 | .starts, .str z,[.str y, .int i],H,Q=>Q (.bl (decide (fromIndex z.length i+y.length≤z.length) && Builtin.Str.subAt z y (fromIndex z.length i))) H
 | .find, .str z,[.str y],H,Q=>Q (.int (match Builtin.Str.occurrences z y 0 z.length 1 with | i::_=> (i:Int) | []=> -1)) H
 | .find, .str z,[.str y, .int i],H,Q=>Q (.int (match Builtin.Str.occurrences z y (fromIndex z.length i) z.length 1 with | k::_=> (k:Int) | []=> -1)) H
 | .count, .str z,[.str y],H,Q=>Q (.int (Builtin.Str.occurrences z y 0 z.length (z.length+1)).length) H
 | .reverse, .ref l,[],H,Q=> ∃xs,H l=some (.lst xs)∧Q .aw (upd H l (.lst xs.reverse))
 | .index, .ref l,[.str y],H,Q=> ∃ts:List Str,ao K H l (ts.map V.str)∧y∈ts∧Q (.int (ts.idxOf y:Nat)) H
 | .clear, .ref l,[],H,Q=> ∃xs,H l=some (.lst xs)∧Q .aw (upd H l (.lst []))
 | .BH, .ref l,[y],H,Q=> ∃xs,ao K H l xs∧eG y=true∧xs.all eG=true∧Q (.int (xs.countP (fun z=>eS z y):Nat)) H
 | .BI, .ref l,[y],H,Q=> ∃xs,ao K H l xs∧eG y=true∧xs.all eG=true∧gf y xs=true∧Q (.int (xs.findIdx (fun z=>eS z y):Nat)) H
 | _,_,_,_,_=>False
def yw:hJ→String
 | .join | .lstrip | .starts | .find | .count=> "str"
 | _=> "list"
def sf(K:PySem.W.Frag)(m:hJ)(to:TE)(t:TA):TE:=fun σ H Q=>to σ H fun x H1=>uA K (yw m) x H1∧t σ H1 fun xs H2=>uY K m x xs H2 Q
def BM(K:PySem.W.Frag):V→Option Int→Option Int→Hp→VK→Prop:=fun x lo hi H Q=>match x with
 | .str z=>z.length≤sizeLine∧Q (.str (kU z lo hi)) H
 | .ref a=> (∃xs,ao K H a xs∧ ∀p,H p=none→Q (.ref p) (upd H p (.lst (fJ xs lo hi))))∨
  (∃xs,aI K H a xs∧ ¬(HT.bh xs.length 0 lo=0∧HT.bh xs.length xs.length hi=xs.length)∧ ∀p,H p=none→Q (.ref p) (upd H p (.tup (fJ xs lo hi))))
 | _=>False
def o5(ah:List (Key×V))(k:Key):Option V:=(ah.find? fun kv=>decide (kv.1=k)).map (·.2)
def Mw(sd:Addr→List (Key×V)→Prop):R2:=fun x y H Q=> ∃p ah k v,x= .ref p∧y=kV k∧sd p ah∧o5 ah k=some v∧Q v H
def o6(K:PySem.W.Frag)(sd:Addr→List (Key×V)→Prop):R2:=fun x y H Q=>Lj K x y H Q∨Lk K x y H Q∨Ll x y H Q∨Mw sd x y H Q
def XG(r r' r2:R2)(ta tb tc td:TE):TT:=fun σ H Q=>ta σ H fun x H1=>tb σ H1 fun y H2=>r x y H2 fun z H3=> ∃k,z= .bl k∧
 (if k=true then tc σ H3 fun w H4=>r' y w H4 fun z2 H5=> ∃k2,z2= .bl k2∧(if k2=true then td σ H5 fun u H6=>r2 w u H6 fun z3 H7=> ∃k3,z3= .bl k3∧Q k3 H7 else Q false H5) else Q false H3)
def uZ(K:PySem.W.Frag)(a b:Addr):It:=
  ⟨fun i H=> ∃xs ys,ao K H a xs∧ao K H b ys∧i<xs.length∧i<ys.length,
   fun i H x H'=> ∃T,H T=none∧x= .ref T∧ ∀xs ys u v,ao K H a xs→ao K H b ys→xs[i]?=some u→ys[i]?=some v→H'=upd H T (.tup [u,v]),
   fun i H=> ∃xs ys,ao K H a xs∧ao K H b ys∧i=min xs.length ys.length⟩
def XH(K:PySem.W.Frag)(a:Addr):It:=
  ⟨fun i H=> ∃xs,ao K H a xs∧i<xs.length,
   fun i H x H'=> ∃T,H T=none∧x= .ref T∧ ∀xs u,ao K H a xs→xs[i]?=some u→H'=upd H T (.tup [.int (i:Nat),u]),
   fun i H=> ∃xs,ao K H a xs∧i=xs.length⟩
def XI(K:PySem.W.Frag)(ta:TA):TI:=fun σ H R=>ta σ H fun vs H1=> ∃a,vs=[.ref a]∧(∃xs,ao K H1 a xs)∧R (XH K a) H1
def BN(K:PySem.W.Frag)(ta:TA):TI:=fun σ H R=>ta σ H fun vs H1=> ∃a b,vs=[.ref a, .ref b]∧(∃xs,ao K H1 a xs)∧(∃ys,ao K H1 b ys)∧R (uZ K a b) H1
mutual
def ag(Γ:aJ):RE→TE
 | .v i=>AM i
 | .c x=>tC x
 | .g j=>tC (Γ.gv j)
 | .bin op a b=>dU (r9 Γ.K op) (ag Γ a) (ag Γ b)
 | .neg a=>KH Mu (ag Γ a)
 | .cmp op a b=>dU (dr Γ.K op) (ag Γ a) (ag Γ b)
 | .Mp op oU a b d=>KQ (dr Γ.K op) (dr Γ.K oU) (ag Γ a) (ag Γ b) (ag Γ d)
 | .Mq _ _ _ _ _ _ _=>fun _ _ _=>False
 | .and as=>Mx Γ as
 | .or as=>My Γ as
 | .not a=>BL Γ.K (ag Γ a)
 | .uV t a b=>Kp (bq Γ t) (ag Γ a) (ag Γ b)
 | .call j as=>A4 (Γ.fs j) [] Γ.E (bH Γ as)
 | .blt b as=>jb (oZ Γ.K b) (bH Γ as)
 | .dG T a=>jb (m3 T) (dt (ag Γ a) (dt (tC (.ty T.nm)) f_))
 | .cb m o as=>sf Γ.K m (ag Γ o) (bH Γ as)
 | .ix a b=>dU (o6 Γ.K Γ.sd) (ag Γ a) (ag Γ b)
 | .sl a lo hi=>Ba (BM Γ.K) (ag Γ a) (m4 Γ lo) (m4 Γ hi)
 | .tup as=>K2 (bH Γ as)
 | .lst as=>K3 (bH Γ as)
 | .comp tk fv k its cond elt=>mU Γ.K (hU Γ k its) tk fv (u0 Γ.calm cond) (ag Γ.calm elt)
 | .da a c=>jb (jO Γ.K) (dt (ag Γ a) (dt (ag Γ c) f_))
 | .yt=>Mv
 | .same a b=>dU Xd (ag Γ a) (ag Γ b)
 | .inD a b=>dU (mX Γ.K false) (ag Γ a) (ag Γ b)
 | .oV a b=>dU (mX Γ.K true) (ag Γ a) (ag Γ b)
 | .BJ=>LF
 | .uW a b=>LB (ag Γ a) (ag Γ b)
 | .yu a b=>Br (ag Γ a) (ag Γ b)
 | .Ms a b=>LC (ag Γ a) (ag Γ b)
 | .uX o a b=>LH (ag Γ o) (ag Γ a) (ag Γ b)
 | .yr j a=>Mo (Γ.hs j) Γ.hv (dt (ag Γ a) f_)
 | .fld o f=>xW Γ.K (ag Γ o) f
 | .di j m o as=>rV (Γ.ms j).1 m (Γ.ms j).2 [] Γ.E (ag Γ o) (bH Γ as)
 | .make j as=>A5 (Γ.kt j).1 (Γ.kt j).2 [] Γ.E (bH Γ as)
def bq(Γ:aJ):RE→TT
 | .not a=>Kn (bq Γ a)
 | .inD a b=>mO (dU (mX Γ.K false) (ag Γ a) (ag Γ b))
 | .oV a b=>mO (dU (mX Γ.K true) (ag Γ a) (ag Γ b))
 | .yu a b=>tB (Br (ag Γ a) (ag Γ b))
 | .Ms a b=>tB (LC (ag Γ a) (ag Γ b))
 | .and as=>Mz Γ as
 | .or as=>MA Γ as
 | .cmp op a b=>mO (dU (dr Γ.K op) (ag Γ a) (ag Γ b))
 | .Mp op oU a b d=>mO (KQ (dr Γ.K op) (dr Γ.K oU) (ag Γ a) (ag Γ b) (ag Γ d))
 | .Mq op oU Mr a b d f=>XG (dr Γ.K op) (dr Γ.K oU) (dr Γ.K Mr) (ag Γ a) (ag Γ b) (ag Γ d) (ag Γ f)
 | .v i=>gg Γ.K (AM i)
 | .call j as=>gg Γ.K (A4 (Γ.fs j) [] Γ.E (bH Γ as))
 | .dG T a=>gg Γ.K (jb (m3 T) (dt (ag Γ a) (dt (tC (.ty T.nm)) f_)))
 | .da a c=>gg Γ.K (jb (jO Γ.K) (dt (ag Γ a) (dt (ag Γ c) f_)))
 | .cb m o as=>gg Γ.K (sf Γ.K m (ag Γ o) (bH Γ as))
 | .ix a b=>gg Γ.K (dU (o6 Γ.K Γ.sd) (ag Γ a) (ag Γ b))
 | .bin op a b=>gg Γ.K (dU (r9 Γ.K op) (ag Γ a) (ag Γ b))
 | .fld o f=>gg Γ.K (xW Γ.K (ag Γ o) f)
 | .di j m o as=>gg Γ.K (rV (Γ.ms j).1 m (Γ.ms j).2 [] Γ.E (ag Γ o) (bH Γ as))
 | _=>fun _ _ _=>False
def bH(Γ:aJ):List RE→TA
 | []=>f_
 | a::r=>dt (ag Γ a) (bH Γ r)
def Mx(Γ:aJ):List RE→TE
 | []=>fun _ _ _=>False
 | [a]=>ag Γ a
 | a::r=>Ko (ag Γ a) (Mx Γ r)
def My(Γ:aJ):List RE→TE
 | []=>fun _ _ _=>False
 | [a]=>ag Γ a
 | a::r=>Ts (ag Γ a) (My Γ r)
def Mz(Γ:aJ):List RE→TT
 | []=>fun _ _ _=>False
 | [a]=>bq Γ a
 | a::r=>Kl (bq Γ a) (Mz Γ r)
def MA(Γ:aJ):List RE→TT
 | []=>fun _ _ _=>False
 | [a]=>bq Γ a
 | a::r=>Km (bq Γ a) (MA Γ r)
def m4(Γ:aJ):Option RE→TO
 | none=>Le
 | some a=>x9 (ag Γ a)
def u0(Γ:aJ):Option RE→Option TT
 | none=>none
 | some a=>some (bq Γ a)
def hU(Γ:aJ)(k:IK):List RE→TI
 | []=>fun _ _ _=>False
 | a::r=>match k with
  | .list=>uq Γ.K (ag Γ a)
  | .tup=>TV Γ.K (ag Γ a)
  | .eO=>KA (dt (ag Γ a) (bH Γ r))
  | .XB=>TZ (dt (ag Γ a) (bH Γ r))
  | .zip=>BN Γ.K (dt (ag Γ a) (bH Γ r))
  | .XC=>XI Γ.K (dt (ag Γ a) (bH Γ r))
end
structure dj where
 N:List Str
 sc:Scope
 fn:List Str
 gn:List Str
 bl:List Str
 mn:List Str
 kn:List Str
 en:List Str
 hn:List Str
 md:Nat
def BO(sc:Scope)(x:Str):Bool:=match sc.names.lookup x with
 | some .local=>true | some .cell=>true | some .free=>true | _=>false
def loc(sc:Scope)(x:Str):Bool:=match sc.names.lookup x with
 | some .local=>true | some .cell=>true | _=>false
def kZ(sc:Scope)(x:Str):Bool:=match sc.names.lookup x with
 | some .globalImplicit=>true | _=>false
theorem XJ{sc:Scope}{x:Str}(h:BO sc x=true):xq sc x:=by
 unfold BO at h
 unfold xq
 cases e:sc.names.lookup x with
 | none=>rw[e] at h;cases h
 | some k=>rw[e] at h;cases k<;>first | exact .inl rfl | exact .inr (.inl rfl) | exact .inr (.inr rfl) | cases h
theorem yx{sc:Scope}{x:Str}(h:loc sc x=true):Loc sc x:=by
 unfold loc at h
 unfold Loc
 cases e:sc.names.lookup x with
 | none=>rw[e] at h;cases h
 | some k=>rw[e] at h;cases k<;>first | exact .inl rfl | exact .inr rfl | cases h
theorem XM{sc:Scope}{x:Str}(h:kZ sc x=true):sc.names.lookup x=some .globalImplicit:=by
 unfold kZ at h
 cases e:sc.names.lookup x with
 | none=>rw[e] at h;cases h
 | some k=>rw[e] at h;cases k<;>first | rfl | cases h
structure u_ where
 elt:Expr
 tg:Expr
 iter:Expr
 ifs:List Expr
 sc:Scope
def kW.nm:kW→Str
 | .len=> "len" | .min=> "min" | .max=> "max" | .sum=> "sum" | .int=> "int" | .list=> "list" | .tuple=> "tuple" | .abs=> "abs"
def hJ.nm:hJ→Str
 | .append=> "append" | .pop=> "pop" | .extend=> "extend" | .join=> "join" | .lstrip=> "lstrip" | .starts=> "startswith" | .reverse=> "reverse" | .clear=> "clear" | .index=> "index" | .find=> "find" | .count=> "count" | .BH=> "count" | .BI=> "index"
def m5:Expr→Bool
 | .Call (.Name _ _) [] [] _=>false
 | _=>true
def noStar:Expr→Bool
 | .Starred ..=>false
 | _=>true
def vc:Expr→Bool
 | .Set ..=>false
 | _=>true
def BP(MB sc:Scope):Scope:=
 {MB with names:=MB.names.map fun(n,k)=>if (k== .free && sc.kind== .function && sc.names.lookup n==some .cell) then (n, .cell) else (n,k)}
def BQ(tk:Option Nat)(tg:Expr):Option (List Str):=match tk,tg with
 | none, .Name x _=>some [x]
 | some 2, .Tuple [.Name x _, .Name y _] _ _=>some [x,y]
 | _,_=>none
def MC(S:dj)(c:u_)(ln:List Str)(fv:List (Str×Nat)):dj:={S with N:=ln++fv.map (·.1),sc:=BP c.sc S.sc,en:=[],md:=if S.md=0 then 0 else 2}
def BR(S:dj)(c:u_)(ln:List Str)(fv:List (Str×Nat)):Bool:=
 decide (c.sc.kind= .function) && c.sc.names.all (fun y=>decide (y.2≠ .cell)) && c.sc.names.all (fun y=>decide (y.2≠ .local) || decide (c.sc.names.lookup y.1=some .local))
 && c.sc.names.all (fun y=>decide (y.2≠ .free) || decide (S.sc.names.lookup y.1=some .cell) || decide (S.sc.names.lookup y.1=some .free))
 && fv.all (fun p=>decide (S.N[p.2]?=some p.1) && decide (c.sc.names.lookup p.1=some .free))
 && ln.all (fun x=>decide (c.sc.names.lookup x=some .local)) && decide ((ln++fv.map (·.1)).Nodup) && vc c.iter
theorem XN{P:Program}{w:World}{K:PySem.W.Frag}{elts:List Expr}{k:Nat}{pos:Pos}{z TI TO i1 i2 l1 l2:Addr}(D:ZipApart z TI TO i1 i2 l1 l2)(dl:l1≠TI∧l2≠TI):
  Turn P w K (.Tuple elts k pos) (uZ K l1 l2) [z,TI,TO,i1,i2] z
   (fun i h=>IsZip h z TI TO .none∧IsPair h TI (.ref i1) (.ref i2)∧(∃a b,IsPair h TO a b)∧h.IsListIter i1 l1 i∧h.IsListIter i2 l2 i) where
 mem:=by simp
 obj:=fun i h st b hb=>by
  obtain⟨hz,k_,⟨a,b',lg⟩,⟨o1,e1,c1,d1⟩,⟨o2,e2,c2,d2⟩⟩:=st
  simp only[List.mem_cons,List.not_mem_nil,or_false] at hb
  rcases hb with rfl | rfl | rfl | rfl | rfl
  ·exact⟨_,hz,fun v q=>by cases q⟩
  ·exact⟨_,k_,fun v q=>by cases q⟩
  ·exact⟨_,lg,fun v q=>by cases q⟩
  ·exact⟨_,e1,fun v q=>by rw[d1] at q;cases q⟩
  ·exact⟨_,e2,fun v q=>by rw[d2] at q;cases q⟩
 keep:=fun i h h' st hk=>by
  obtain⟨hz,k_,⟨a,b',lg⟩,h1,h2⟩:=st
  exact⟨hk z (by simp) _ hz,hk TI (by simp) _ k_,⟨a,b',hk TO (by simp) _ lg⟩,h1.at fun o e=>hk i1 (by simp) o e,h2.at fun o e=>hk i2 (by simp) o e⟩
 item:=by
  intro X hP hw hK hc i pins s σ H E I hf st hg
  subst hP hw hK
  obtain⟨xs,ys,hx,hy,hi1,hi2⟩:=hg
  obtain⟨o7,r1,p1,z1⟩:=I.list hx
  obtain⟨fK,r2,p2,z2⟩:=I.list hy
  have jQ:=r1.length
  have je:=r2.length
  have W:=WalksT.zip2 (prog:=X.prog) (w:=X.w) (A:=X.A) (I.ok.hd hc) z TI TO i1 i2 l1 l2 D o7.toArray fK.toArray
  obtain⟨hz,k_,lg,h1,h2⟩:=id st
  have hn:i<min o7.toArray.size fK.toArray.size:=by simp only[List.size_toArray];omega
  refine W.item i s _ _ hn ⟨hz,k_,lg,h1,h2,p1.isList,p2.isList⟩ fun T vals h' tk hv hT XO mid hk=> ?_
  refine⟨.ref T,rfl, ?_⟩
  refine W.go elts k pos i T _ _ _ mid fun yy XQ MD=> ?_
  obtain⟨u,v,eu,ev,rfl⟩:=hv
  have fz: ∀b∈ [z,TO,i1,i2],b∈ [z,TI,TO,i1,i2]:=fun b hb=>by
   simp only[List.mem_cons,List.not_mem_nil,or_false] at hb⊢
   rcases hb with rfl | rfl | rfl | rfl<;>simp
  have kk: ∀b o,b∉ [z,TO,i1,i2]→s.heap.get? b=some o→yy.get? b=some o:=fun b o hb e=>MD b o hb (hk b o hb e)
  have I1:Inv X pins σ H {s with heap:=yy,toks:=tk}:=by
   refine I.step (g':=s.gens) (d':=s.drawn) (ch:=[z,TO,i1,i2]) (fun b hb=> ?_) (fun b o _ _ hc e _=>kk b o hc e) (fun b o _ _ hc e _=> ⟨o.slots,kk b o hc e⟩) (fun _ _ _ _ n=>n)
    (fun b o hc e=> ⟨o,kk b o hc e⟩) (fun _ _ e=>e) (fun _ _ _ e=>e) (fun b ps e=> ⟨#[],by rw[e];simp⟩) (fun m hm=> ?_) (fun b o e=> ?_) I.bare
   ·obtain⟨f0,f1,f2,f3,f4,f5⟩:=hf b (fz b hb)
    exact⟨f3,f1,f4,f5⟩
   ·obtain⟨o,es,ep,ho,r⟩:=hm
    exact⟨o,es,ep,kk _ o (fun hb=> (hf _ (fz _ hb)).2.1 rfl) ho,r⟩
   ·have nb: ∀c o',H c=some o'→c∉ [z,TO,i1,i2]:=fun c o' e hb=>by
     rw[(hf c (fz c hb)).1] at e;cases e
    refine(I.aB b o e).jH (fun c q eh e'=>kk c q ?_ e') (fun _ q=>q) fun _ _ q=>q
    rcases eh with rfl | eh
    ·exact nb _ _ e
    ·exact nb _ _ eh
  have si:s.heap.objs.size≤T:=hT
  have fT:H T=none:=I.aB.fresh si
  have aT:T∉ [z,TO,i1,i2]:=W.apart i T h' mid
  have tT:yy.IsTuple T #[u,v]:=by
   obtain⟨o,ho,q⟩:=XO
   exact⟨o,MD T o aT ho,q⟩
  obtain⟨a,XR,ra⟩: ∃a,xs[i]?=some a∧RelV a u:=by
   have e:o7[i]?=some u:=by simpa using eu
   have:i<xs.length:=by omega
   obtain⟨u',e',r'⟩:=r1.get (i:=i) (x:=xs[i]) (by simp[this])
   rw[e] at e';cases e'
   exact⟨xs[i],by simp[this],r'⟩
  obtain⟨b,XS,rb⟩: ∃b,ys[i]?=some b∧RelV b v:=by
   have e:fK[i]?=some v:=by simpa using ev
   have:i<ys.length:=by omega
   obtain⟨u',e',r'⟩:=r2.get (i:=i) (x:=ys[i]) (by simp[this])
   rw[e] at e';cases e'
   exact⟨ys[i],by simp[this],r'⟩
  have sz0:=I.sz
  have I2:Inv X pins σ (upd H T (.tup [a,b])) {s with heap:=yy,toks:=tk}:=by
   refine Inv.LI I1 fT (Nat.le_trans I.sz si) (Nat.ne_of_gt (Nat.lt_of_lt_of_le I.lt si)) (fun x c e q=> ?_) (fun p hp q=> ?_) ⟨by show 2≤sizeLine;decide,[u,v], .cons ra (.cons rb .nil),tT⟩
   ·obtain⟨v',q'⟩:=I.cell x c e
    have:=q'.lt
    rw[q] at this
    exact absurd (Nat.lt_of_lt_of_le this si) (Nat.lt_irrefl _)
   ·have:=Heap.lt_size (I.pin p hp).1
    rw[q] at this
    exact absurd (Nat.lt_of_lt_of_le this si) (Nat.lt_irrefl _)
  refine⟨.ref T,_,I2,rfl,⟨T,fT,rfl,fun dY fm a' b' jh Bk ea eb=> ?_⟩, ?_,fun c eh=> ?_⟩
  ·rw[I.xD jh hx,XR] at ea
   rw[I.xD Bk hy,XS] at eb
   cases ea;cases eb;rfl
  ·obtain⟨q1,q2,q3,q4,q5,_⟩:=XQ
   exact⟨q1,q2,q3,q4,q5⟩
  ·have n0:=(hf c eh).1
   have:c≠T:=fun q=>by
    obtain⟨o,e,_⟩: ∃o,s.heap.get? c=some o∧True:=by
     obtain⟨hz,k_,⟨a',b',lg⟩,⟨o1,e1,_⟩,⟨o2,e2,_⟩⟩:=st
     simp only[List.mem_cons,List.not_mem_nil,or_false] at eh
     rcases eh with rfl | rfl | rfl | rfl | rfl
     ·exact⟨_,hz,trivial⟩
     ·exact⟨_,k_,trivial⟩
     ·exact⟨_,lg,trivial⟩
     ·exact⟨_,e1,trivial⟩
     ·exact⟨_,e2,trivial⟩
    have:=Heap.lt_size e
    rw[q] at this
    exact absurd (Nat.lt_of_lt_of_le this si) (Nat.lt_irrefl _)
   rw[aD this];exact n0
 done:=by
  intro X hP hw hK hc i pins s σ H E I hf st hg
  subst hP hw hK
  obtain⟨xs,ys,hx,hy,hi⟩:=hg
  obtain⟨o7,r1,p1,z1⟩:=I.list hx
  obtain⟨fK,r2,p2,z2⟩:=I.list hy
  have jQ:=r1.length
  have je:=r2.length
  have W:=WalksT.zip2 (prog:=X.prog) (w:=X.w) (A:=X.A) (I.ok.hd hc) z TI TO i1 i2 l1 l2 D o7.toArray fK.toArray
  obtain⟨hz,k_,lg,h1,h2⟩:=id st
  have hn:i=min o7.toArray.size fK.toArray.size:=by simp only[List.size_toArray];omega
  subst hn
  refine W.done s _ _ ⟨hz,k_,lg,h1,h2,p1.isList,p2.isList⟩ fun h' tk hk=> ⟨rfl, ?_⟩
  have fz: ∀b∈ [z,TO,i1,i2],b∈ [z,TI,TO,i1,i2]:=fun b hb=>by
   simp only[List.mem_cons,List.not_mem_nil,or_false] at hb⊢
   rcases hb with rfl | rfl | rfl | rfl<;>simp
  refine I.step (g':=s.gens) (d':=s.drawn) (ch:=[z,TO,i1,i2]) (fun b hb=> ?_) (fun b o _ _ hc e _=>hk b o hc e) (fun b o _ _ hc e _=> ⟨o.slots,hk b o hc e⟩) (fun _ _ _ _ n=>n)
   (fun b o hc e=> ⟨o,hk b o hc e⟩) (fun _ _ e=>e) (fun _ _ _ e=>e) (fun b ps e=> ⟨#[],by rw[e];simp⟩) (fun m hm=> ?_) (fun b o e=> ?_) I.bare
  ·obtain⟨f0,f1,f2,f3,f4,f5⟩:=hf b (fz b hb)
   exact⟨f3,f1,f4,f5⟩
  ·obtain⟨o,es,ep,ho,r⟩:=hm
   exact⟨o,es,ep,hk _ o (fun hb=> (hf _ (fz _ hb)).2.1 rfl) ho,r⟩
  ·have nb: ∀c o',H c=some o'→c∉ [z,TO,i1,i2]:=fun c o' e hb=>by
    rw[(hf c (fz c hb)).1] at e;cases e
   refine(I.aB b o e).jH (fun c q eh e'=>hk c q ?_ e') (fun _ q=>q) fun _ _ q=>q
   rcases eh with rfl | eh
   ·exact nb _ _ e
   ·exact nb _ _ eh
 self:=fun A i s Q E st hQ=>wpAny_pyIter_zip st.1 hQ
theorem boot_zip:bootBuiltins "zip"=some (.type "zip"):=by decide+kernel
theorem XT{X:Cx}{elts:List Expr}{k:Nat}{AZ:Pos}{a b:Expr}{ta:TA}{p pos:Pos}(hg:Gl X "zip")(hm:X.mg "zip"=none)(ha:PA X [a,b] ta)
  (hs:starEach [a,b] X.env=(false,eval a X.env)::starEach [b] X.env) (fj:(backTo pos (starEach [b] X.env)).any (·.1)=false):
  PI X (.Tuple elts k AZ) (.Call (.Name "zip" p) [a,b] [] pos) (BN X.K ta):=by
 intro pins s σ H R I h
 refine Call_ (um I hg hm boot_zip (PyProof.Rows.callWith_type1 (aN (ha pos pins s σ H _ I h) fun us s1 ⟨vs,H1,I1,r1,q1⟩=> ?_) hs fj))
 obtain⟨l1,l2,e,⟨xs,hx⟩,⟨ys,hy⟩,q⟩:=q1
 subst e
 obtain⟨u,v,rfl,ru,rv⟩:=vals2 r1
 cases ru
 cases rv
 obtain⟨o7,rr1,p1,z1⟩:=I1.list hx
 obtain⟨fK,rr2,p2,z2⟩:=I1.list hy
 refine call_zip_2 p1.isList p2.isList fun h' a1 a2 a3 a4 a5 a6 hk=> ?_
 refine wpAny_pyIter_zip a1 ?_
 have yz: @LT.lt Nat _ l1 s1.heap.objs.size:=by obtain⟨_,e,_⟩:=p1.isList;exact Heap.lt_size e
 have yA: @LT.lt Nat _ l2 s1.heap.objs.size:=by obtain⟨_,e,_⟩:=p2.isList;exact Heap.lt_size e
 have D:ZipApart (s1.heap.objs.size+4) (s1.heap.objs.size+2) (s1.heap.objs.size+3) s1.heap.objs.size (s1.heap.objs.size+1) l1 l2:=by
  constructor<;> (show @Ne Nat _ _;omega)
 have I2:Inv X pins σ H1 {s1 with heap:=h'}:=I1.kept (t':=s1.toks) hk
 refine⟨_,_,_,_,H1,rfl,I2,XN D ⟨by show @Ne Nat _ _;omega,by show @Ne Nat _ _;omega⟩,⟨a1,a2,⟨_,_,a3⟩,a4,a5⟩,fun b' hb=> ?_,q⟩
 have hle:s1.heap.objs.size≤b':=by
  simp only[List.mem_cons,List.not_mem_nil,or_false] at hb
  rcases hb with rfl | rfl | rfl | rfl | rfl
  ·exact Nat.le_add_right _ _
  ·exact Nat.le_add_right _ _
  ·exact Nat.le_add_right _ _
  ·exact Nat.le_refl _
  ·exact Nat.le_add_right _ _
 have:=I1.xH (b:=b') (H':=H1) hle (I1.aB.fresh hle)
 exact this
end L2
set_option maxHeartbeats 400000
namespace L2
open PySem PySem.Spec PyProof.Rows
def hX(A:Around)(h:Heap):Prop:=A.handled=none∨ ∃e o vs,A.handled=some (.ref e)∧h.get? e=some o∧o.data= .fields vs∧vs[2]?=some .none
theorem hX.keeps{A:Around}{h h':Heap}(x:hX A h)(k: ∀b o vs,h.get? b=some o→o.data= .fields vs→vs[2]?=some .none→h'.get? b=some o):hX A h':=by
 rcases x with x | ⟨e,o,vs,a,b,c,d⟩
 ·exact .inl x
 ·exact .inr ⟨e,o,vs,a,k e o vs b c d,c,d⟩
theorem XU:entryFor table "proto.unchain"=some Builtin.«proto.unchain»:=entryFor_of_fast (by kernel_rfl)
section
variable {prog:Program} {w:World} {A:Around} {E:Value→Shared→Prop} {s:Shared}
theorem XY{a:Addr}{o:Obj}{vs:Array Value}{i:Nat}{v:Value}{Q:Unit→Shared→Prop}(ho:s.heap.get? a=some o)(hd:o.data= .fields vs)(hi:i<vs.size)(h:Q () {s with heap:=s.heap.update a (Obj.mapFields (·.setIfInBounds i v))}):
  wpAny (model prog w) A (updateField a i v) Q E s:=by
 unfold updateField
 refine wpAny_bind (wpAny_load ho ?_)
 rw[hd]
 show wpAny _ _ (if i<vs.size then _ else _) _ _ s
 rw[if_pos hi]
 exact wpAny_update ho h
theorem XZ{α:Type}{a:Addr}{o:Obj}{vs:Array Value}{Q:α→Shared→Prop}(hh:hX A s.heap)(ho:s.heap.get? a=some o)(hd:o.data= .fields vs)(h2:2<vs.size)(bx: ∀e,A.handled=some (.ref e)→e≠a)
  (hE: ∀h',Heap.SameBut a s.heap h'→(∃o',h'.get? a=some o'∧o'.cls=o.cls)→E (.ref a) {s with heap:=h'}):wpAny (model prog w) A (raiseNew (.ref a):Sem α) Q E s:=by
 unfold raiseNew
 refine wpAny_bind (wpAny_handled ?_)
 rcases hh with hh | ⟨e,oe,ve,hh,he,BD,X0⟩
 ·rw[hh]
  exact wpAny_bind (wpAny_pure (wpAny_throw (hE s.heap (Heap.SameBut.refl ..) ⟨o,ho,rfl⟩)))
 ·rw[hh]
  have ne:e≠a:=bx e hh
  have hb:((Value.ref e) !=(Value.ref a))=true:=by
   simp only[bne_iff_ne,ne_eq,Value.ref.injEq]
   exact ne
  dsimp only
  rw[if_pos hb]
  refine wpAny_bind (wpAny_holding (wpAny_runValue (codeAny_builtin XU ?_)))
  unfold Builtin.«proto.unchain»
  dsimp only
  refine wpAny_bind (wpAny_field he BD X0 ?_)
  rw[if_pos (by rfl)]
  refine wpAny_bind (wpAny_pure (wpAny_pure ?_))
  dsimp only
  refine wpAny_bind (XY ho hd h2 ?_)
  refine wpAny_throw (hE _ (Heap.SameBut.update ..) ⟨_,Heap.get?_update_self _ ho (Obj.isFreed_of_fields (Obj.data_mapFields hd _)),Obj.cls_mapFields ..⟩)
theorem ME{it:Addr}{f:Obj→Obj}{Qf:Fin→Shared→Prop}{Q:Option Value→Shared→Prop}(hh:hX A s.heap)(hn: ∀vs:Array Value,¬ ∃o,s.heap.get? it=some o∧o.data= .fields vs∧vs[2]?=some .none)
  (hQ: ∀h',Heap.ExtBut it s.heap h'→Q none {s with heap:=h'}):
  wpAny (model prog w) A.in1 Builtin.SmallTypes.stopIteration Qf (fun e s'=>wpAny (model prog w) A (do let b ←isInstance e (.type "StopIteration");if b=true then pure none else throw e) Q E s') {s with heap:=s.heap.update it f}:=by
 show wpAny _ _ (newExc (.type "StopIteration") [] >>=_) _ _ _
 refine wpAny_bind ?_
 simp only[newExc,newTuple]
 refine wpAny_bind (wpAny_newObj_type ?_ (by size_fits))
 refine wpAny_bind (m:=firstArgMember _ _) (wpAny_of_eq (a:=Value.none) (by first | rfl | (simp only[firstArgMember];rfl)) ?_)
 refine wpAny_newObj_type ?_ (by size_fits)
 dsimp only
 have lt: ∀b o,s.heap.get? b=some o→b≠it→(s.heap.update it f).get? b=some o:=fun b o e hb=> (Heap.get?_update_other _ _ (Ne.symm hb)).trans e
 have X1:hX A.in1 (((s.heap.update it f).push {cls:= .type "tuple",data:= .seq ([]:List Value).toArray}).push
   {cls:= .type "StopIteration",data:= .fields (#[.ref (s.heap.update it f).objs.size, .none, .none, .none, .bool false, .none]++ownMembersOf (.type "StopIteration") [])}):=by
  rcases hh with hh | ⟨e,oe,ve,h1,h2,h3,h4⟩
  ·exact .inl hh
  ·refine .inr ⟨e,oe,ve,h1,Heap.get?_push_of_some _ (Heap.get?_push_of_some _ (lt e oe h2 fun z=> ?_)),h3,h4⟩
   subst z
   exact hn ve ⟨oe,h2,h3,h4⟩
 refine XZ X1 (Heap.get?_push_size _ rfl) rfl (Nat.lt_of_lt_of_le (show 2<6 by decide) (by rw[Array.size_append];exact Nat.le_add_right 6 _)) (fun e he=> ?_) (fun h' sb ⟨o',q1,q2⟩=> ?_)
 ·rcases hh with hh | ⟨e',oe,ve,h1,h2,h3,h4⟩
  ·rw[show A.in1.handled=none from hh] at he;cases he
  ·rw[show A.in1.handled=_ from h1] at he
   cases he
   have:=Heap.lt_size h2
   refine Nat.ne_of_lt (Nat.lt_of_lt_of_le this ?_)
   rw[Heap.size_push,Heap.size_update]
   exact Nat.le_succ _
 ·refine wpAny_bind (wpAny_isInstance (T:="StopIteration") (b:=true) ⟨_,q1,q2⟩ isSubtype_stop ?_)
  refine wpAny_pure (hQ _ fun b o hb e=> ?_)
  have e3:=lt b o e hb
  have e4:=Heap.get?_push_of_some {cls:= .type "StopIteration",data:= .fields (#[.ref (s.heap.update it f).objs.size, .none, .none, .none, .bool false, .none]++ownMembersOf (.type "StopIteration") [])} (Heap.get?_push_of_some {cls:= .type "tuple",data:= .seq ([]:List Value).toArray} e3)
  refine(sb.2 b (Nat.ne_of_lt (Nat.lt_of_lt_of_le (Heap.lt_size e3) ?_))).trans e4
  rw[Heap.size_push]
  exact Nat.le_succ _
theorem X3{it l:Addr}{i:Nat}{items}{Q:Option Value→Shared→Prop}(hh:hX A s.heap)
  (hit:s.heap.IsListIter it l i) (hl:s.heap.IsList l items) (hx:items[i]?=none)
  (hQ: ∀h',Heap.ExtBut it s.heap h'→Q none {s with heap:=h'}):wpAny (model prog w) A (pyNext (.ref it)) Q E s:=by
 obtain⟨o,ho,hc,hd⟩:=id hit
 obtain⟨ol,sj,_,nl,m6⟩:=hl
 unfold pyNext
 refine wpAny_bind (wpAny_attempt (wpAny_callSpecial?_slot (name:=Str.ofString "__next__") hit.typeIs slot_listiter_next
  (wpAny_call_entry slot_listiter_next hit.typeIs entry_listiter_next ?_ (args_listiter_next _))))
 show wpAny _ _ (field (.ref it) 0>>=_) _ _ s
 refine wpAny_bind (wpAny_field ho hd (x:= .ref l) rfl ?_)
 show wpAny _ _ (if (Value.ref l==Value.none)=true then _ else _) _ _ s
 rw[if_neg (show ¬((Value.ref l==Value.none)=true) from Bool.false_ne_true)]
 show wpAny _ _ (field (.ref it) 1>>=_) _ _ s
 refine wpAny_bind (wpAny_field ho hd (x:= .int i 0) rfl ?_)
 show wpAny _ _ (seqItems? (.ref l) >>=_) _ _ s
 refine wpAny_bind (wpAny_seqItems sj m6 ?_)
 simp only[Int.toNat_natCast,hx]
 refine wpAny_bind (wpAny_rule (wpAny_bind (wpAny_setField ho hd (by simp) ?_)))
 exact ME hh (fun vs z=>by obtain⟨o',h1,h2,h3⟩:=z;rw[ho] at h1;cases h1;rw[hd] at h2;cases h2;cases h3) hQ
theorem X4{it t:Addr}{i:Nat}{items}{Q:Option Value→Shared→Prop}(hh:hX A s.heap)
  (hit:IsTupIter s.heap it t i) (ht:IsTup s.heap t items) (hx:items[i]?=none)
  (hQ: ∀h',Heap.ExtBut it s.heap h'→Q none {s with heap:=h'}):wpAny (model prog w) A (pyNext (.ref it)) Q E s:=by
 obtain⟨o,ho,hc,hd⟩:=id hit
 obtain⟨ol,sj,_,nl,m6⟩:=ht
 unfold pyNext
 refine wpAny_bind (wpAny_attempt (wpAny_callSpecial?_slot (name:=Str.ofString "__next__") hit.typeIs slot_tupleiter_next
  (wpAny_call_entry slot_tupleiter_next hit.typeIs entry_tupleiter_next ?_ (args_tupleiter_next _))))
 show wpAny _ _ (field (.ref it) 0>>=_) _ _ s
 refine wpAny_bind (wpAny_field ho hd (x:= .ref t) rfl ?_)
 show wpAny _ _ (if (Value.ref t==Value.none)=true then _ else _) _ _ s
 rw[if_neg (show ¬((Value.ref t==Value.none)=true) from Bool.false_ne_true)]
 show wpAny _ _ (field (.ref it) 1>>=_) _ _ s
 refine wpAny_bind (wpAny_field ho hd (x:= .int i 0) rfl ?_)
 show wpAny _ _ (seqItems? (.ref t) >>=_) _ _ s
 refine wpAny_bind (wpAny_seqItems sj m6 ?_)
 simp only[Int.toNat_natCast,hx]
 refine wpAny_bind (wpAny_rule (wpAny_bind (wpAny_setField ho hd (by simp) ?_)))
 exact ME hh (fun vs z=>by obtain⟨o',h1,h2,h3⟩:=z;rw[ho] at h1;cases h1;rw[hd] at h2;cases h2;cases h3) hQ
theorem X5{t:Addr}{items:Array Value}{Q:List Value→Shared→Prop}(hh:hX A s.heap)(ht:IsTup s.heap t items)
  (hQ: ∀h',Heap.ExtBut s.heap.objs.size s.heap h'→Q items.toList {s with heap:=h'}):wpAny (model prog w) A (unpackItems (.ref t) items.size none) Q E s:=by
 have aP:t≠s.heap.objs.size:=by obtain⟨o,ho,_⟩:=ht;exact Nat.ne_of_lt (Heap.lt_size ho)
 unfold unpackItems
 refine wpAny_bind ?_
 ·unfold notIterableAtAll
  refine wpAny_bind (wpAny_specialOf ht.typeIs slot_tuple_iter.lookup ?_)
  refine wpAny_pure ?_
  simp only[Bool.false_eq_true,if_false]
  refine wpAny_bind (wpAny_holding (iter_tuple ht ?_))
  refine wpAny_bind (wpAny_holding (draw_tuple aP items.size 0 _ _ ⟨_,Heap.get?_push_size _ rfl,rfl,rfl⟩ (ht.push _) (by omega) fun h₁ vd lh=> ?_))
  have uE:List.take items.size (List.drop 0 items.toList)=items.toList:=by
   rw[List.drop_zero];exact List.take_of_length_le (by simp)
  rw[uE]
  rw[if_neg (by simp)]
  have BS:IsTup h₁ t items:=(ht.push _).extBut lh.extBut aP
  have X6:hX A h₁:=hh.keeps fun b o vs e _ _=>lh.extBut b o (Nat.ne_of_lt (Heap.lt_size e)) (Heap.get?_push_of_some _ e)
  refine wpAny_bind (wpAny_holding (X4 X6 vd BS (by simp) fun h₂ BU=> ?_))
  simp only[Option.isSome_none,Bool.false_eq_true,if_false]
  refine wpAny_pure (hQ h₂ fun b o hb e=>BU b o hb (lh.extBut b o hb (Heap.get?_push_of_some _ e)))
theorem X7{env:Env}{elts:List Expr}{x1}{pos:Pos}{t:Addr}{items:Array Value}{Q:Unit→Shared→Prop}(hh:hX A s.heap)(ht:IsTup s.heap t items)
  (hn:(assignEach elts env).length=items.size) (BV:(assignEach elts env).findIdx? (·.1)=none)
  (h: ∀h',Heap.ExtBut s.heap.objs.size s.heap h'→wpAny (model prog w) A (assignInOrder ((assignEach elts env).map (·.2)) items.toList) Q E {s with heap:=h'}):
  wpAny (model prog w) A (assign (.Tuple elts x1 pos) env (.ref t)) Q E s:=by
 rw[assign_Tuple]
 refine wpAny_bind (wpAny_standAt ?_)
 unfold unpack
 rw[hn,BV]
 exact wpAny_bind (wpAny_holding (X5 hh ht h))
end
end L2
set_option maxHeartbeats 1000000
namespace L2
open PySem PySem.Spec PyProof.Rows PySem.W
section
variable {prog:Program} {w:World} {A:Around} {E:Value→Shared→Prop} {s:Shared} {K:Frag} {x D:Addr} {ox:Obj}
theorem X8{Q:Option Value→Shared→Prop}(X:K.In s.heap)(I:InstAt s.heap x ox D none)(uT:findIn K (.ref D) "__getattribute__"=some (some (.builtin "BaseException.__getattribute__")))(uU:findIn K (.ref D) "__getattr__"=some none)
  (hk:(clsIn K D).isSome=true) (ha:findIn K (.ref D) "__class__"=some (some (.builtin "object.__class__"))) (hn:specialIn K (.builtin "object.__class__") "__get__"=some (some (.builtin "getset_descriptor.__get__"))) (mQ:takesIn K (.builtin "object.__class__")=some true)
  (hm:mroIn K D (.type "object")=some true) (hb:mroIn K D (.type "BaseException")=some true)
  (h:Q (some (.ref D)) {s with toks:=s.toks+1}):wpAny (model prog w) A (getAttr? (.ref x) "__class__") Q E s:=by
 have hf:findObj K D none "__class__"=some (.bind (.builtin "getset_descriptor.__get__") (.builtin "object.__class__")):=by
  obtain⟨cd,hc⟩:=Option.isSome_iff_exists.mp hk
  unfold findObj
  rw[hc,Option.bind_some,ha,Option.bind_some]
  simp only[hn,mQ,Option.bind_some]
 obtain⟨hh,g,d,t,os⟩:=s
 have L0:=I.type (M:=model prog w)
 have L1:=looks_findIn (M:=model prog w) X uT
 have L2:=looks_findIn (M:=model prog w) X uU
 have L3:=looks_find (M:=model prog w) X I hf
 unfold getAttr? getAttrBy? getAttrBy
 refine wpAny_bind (wpAny_mkText (wpAny_bind (wpAny_attempt (wpAny_holding (wpAny_bind (L0.at (wpAny_bind (L1.at ?_))))))))
 have X9:(Value.builtin "BaseException.__getattribute__"==Value.builtin "object.__getattribute__")=false:=by decide+kernel
 show wpAny _ _ (if (onTheHeap (Value.ref D) && Value.builtin "BaseException.__getattribute__"==Value.builtin "object.__getattribute__")=true then _ else _) _ _ _
 rw[X9,Bool.and_false,if_neg (by decide)]
 unfold getAttrByItsOwn hookBefore
 refine wpAny_bind (L2.at ?_)
 refine wpAny_bind (wpAny_attempt (wpAny_holding ?_))
 show wpAny _ _ (boundAndCalled _ _ _) _ _ _
 unfold boundAndCalled
 rw[F.excAttr_ValueError.ga.bind (.ref x)]
 refine wpAny_bind (wpAny_pure ?_)
 refine wpAny_call (codeAny_call_builtin F.excAttr_ValueError.ga.plain F.entry_bexc_ga ?_)
 have L4:=looks_mroIn (M:=model prog w) X hb
 have o8:builtinKind "BaseException.__getattribute__"=some .slot:=by decide+kernel
 have X_:splitId "BaseException.__getattribute__"=some ("BaseException","__getattribute__"):=by decide+kernel
 have apU:=F.args_bexc_ga (.ref x) (.str "__class__" t)
 simp only[checkBuiltinCall,o8,X_]
 have L5:Looks (model prog w) hh (isInstance (.ref x) (.type "BaseException")) true:=L0.andThen L4
 refine wpAny_bind (L5.at ?_)
 repeat (any_goals (first | assumption | (with_reducible refine wpAny_loadPart_at I.at_ ?_;rw[I.cls];refine wpAny_pure (wpAny_bind (L3.at ?_))) | wp_step))
 refine class_get (s:=⟨hh,g,d,t+1,os⟩) (ox:=ox) (od:=none) X I hm ?_
 exact wpAny_pure (wpAny_pure (wpAny_pure h))
theorem Ya(uT:findIn K (.ref D) "__getattribute__"=some (some (.builtin "BaseException.__getattribute__")))(uU:findIn K (.ref D) "__getattr__"=some none)
  (hk:(clsIn K D).isSome=true) (ha:findIn K (.ref D) "__class__"=some (some (.builtin "object.__class__"))) (hn:specialIn K (.builtin "object.__class__") "__get__"=some (some (.builtin "getset_descriptor.__get__"))) (mQ:takesIn K (.builtin "object.__class__")=some true)
  (hm:mroIn K D (.type "object")=some true) (hb:mroIn K D (.type "BaseException")=some true):KitX K (.ref x) (.ref D) (fun h=>InstAt h x ox D none) where
 ty:=fun _ _ _ I=>I.type
 it:=fun _ _ X _=>by
  obtain⟨Yb,ku⟩:=Option.isSome_iff_exists.mp hk
  unfold clsIn at ku
  split at ku
  ·rename_i c' d' Yc AF ho
   intro A' Q' E' s' k q
   unfold isType loadHead
   exact wpAny_bind (wpAny_loadPart (k _ _ (X _ _ ho)) (wpAny_pure q))
  ·cases ku
 ne:=fun h tp dd its n sl X Yd=>by
  obtain⟨Yb,ku⟩:=Option.isSome_iff_exists.mp hk
  refine Bool.eq_false_iff.mpr fun q=> ?_
  have e:D=tp:=Value.ref.inj (beq_iff_eq.mp q)
  subst e
  unfold clsIn at ku
  split at ku
  ·rename_i c' d' Yc AF ho
   have z:=(X _ _ ho).symm.trans Yd
   cases z
  ·cases ku
 ca:=fun X I k=>X8 X I uT uU hk ha hn mQ hm hb k
end
end L2
set_option maxHeartbeats 400000
namespace L2
open PySem PySem.Spec PyProof.Rows
inductive bV (J:Shared→Prop) {α:Type}:Sem α→Prop
 | pure (a:α):bV J (.pure a)
 | raise (e:Value):bV J (.raise e)
 | unsupported (w:String):bV J (.unsupported w)
 | rule {t:String} {k:Unit→Sem α}:bV J (k ())→bV J (.rule t k)
 | load {a:Addr} {p:Option Value} {k:Obj→Sem α}:(∀o,bV J (k o))→bV J (.load a p k)
 | update {a:Addr} {p:Option Value} {f:Obj→Obj} {k:Unit→Sem α}:(∀s,J s→J {s with heap:=s.heap.update a f})→bV J (k ())→bV J (.update a p f k)
 | alloc {o:Obj} {k:Addr→Sem α}:(∀s,J s→J {s with heap:=s.heap.push o})→(∀a,bV J (k a))→bV J (.alloc o k)
 | stack {k:List (Code×Pos)→Sem α}:(∀t,bV J (k t))→bV J (.stack k)
theorem Ye{M:Model}{Γ:PySem.Ctx}{J:Shared→Prop}{α:Type}{t:Sem α}(kt:bV J t): ∀{Q:α→Pos→Shared→Prop} {E:Value→Pos→Shared→Prop} {p:Pos} {s:Shared},J s→Sem.wp M Γ t Q E p s→
  Sem.wp M Γ t (fun a p s=>Q a p s∧J s) (fun e p s=>E e p s∧J s) p s:=by
 induction kt with
 | pure a=>intro Q E p s j h;rw[Sem.wp] at h⊢;exact⟨h,j⟩
 | raise e=>intro Q E p s j h;rw[Sem.wp] at h⊢;exact⟨h,j⟩
 | unsupported w=>intro Q E p s j h;rw[Sem.wp] at h;exact h.elim
 | rule _ ih=>intro Q E p s j h;rw[Sem.wp] at h⊢;exact ih j h
 | load _ ih=>intro Q E p s j h;rw[Sem.wp] at h⊢;obtain⟨o,e,h⟩:=h;exact⟨o,e,ih o j h⟩
 | update f _ ih=>intro Q E p s j h;rw[Sem.wp] at h⊢;exact⟨h.1,ih (f _ j) h.2⟩
 | alloc f _ ih=>intro Q E p s j h;rw[Sem.wp] at h⊢;exact ih _ (f _ j) h
 | stack _ ih=>intro Q E p s j h;rw[Sem.wp] at h⊢;exact ih _ j h
theorem vf{M:Model}{A:Around}{J:Shared→Prop}{α:Type}{t:Sem α}{Q:α→Shared→Prop}{E:Value→Shared→Prop}{s:Shared}(k:bV J t)(j:J s)(h:wpAny M A t Q E s):
  wpAny M A t (fun a s=>Q a s∧J s) (fun e s=>E e s∧J s) s:=fun Γ p hΓ=>Ye k j (h Γ p hΓ)
def dH(e:Addr)(s:Shared):Prop:= ∃o vs,s.heap.get? e=some o∧o.data= .fields vs∧vs[2]?=some .none∧o.dict=none
theorem Yf(f:Array Value→Array Value)(o:Obj):(Obj.mapFields f o).dict=o.dict:=by
 unfold Obj.mapFields
 split<;>rfl
theorem Yg{e a:Addr}{i:Nat}{v:Value}(hi:i≠2)(s:Shared)(j:dH e s):dH e {s with heap:=s.heap.update a (Obj.mapFields (·.setIfInBounds i v))}:=by
 obtain⟨o,vs,h1,h2,h3,h4⟩:=j
 by_cases z:a=e
 ·subst z
  have d:=Obj.data_mapFields h2 (·.setIfInBounds i v)
  exact⟨_,_,Heap.get?_update_self _ h1 (Obj.isFreed_of_fields d),d,by rw[Array.getElem?_setIfInBounds_ne hi];exact h3,(Yf _ _).trans h4⟩
 ·exact⟨o,vs,(Heap.get?_update_other _ _ z).trans h1,h2,h3,h4⟩
theorem Yh{e a:Addr}{f:Obj→Obj}(hf: ∀o,(f o).data=o.data∧(f o).dict=o.dict)(s:Shared)(j:dH e s):dH e {s with heap:=s.heap.update a f}:=by
 obtain⟨o,vs,h1,h2,h3,h4⟩:=j
 by_cases z:a=e
 ·subst z
  exact⟨_,vs,Heap.get?_update_self _ h1 (Obj.isFreed_of_fields ((hf o).1.trans h2)),(hf o).1.trans h2,h3,(hf o).2.trans h4⟩
 ·exact⟨o,vs,(Heap.get?_update_other _ _ z).trans h1,h2,h3,h4⟩
theorem Yi{e:Addr}{ob:Obj}(s:Shared)(j:dH e s):dH e {s with heap:=s.heap.push ob}:=by
 obtain⟨o,vs,h1,h2,h3,h4⟩:=j
 exact⟨o,vs,Heap.get?_push_of_some _ h1,h2,h3,h4⟩
theorem bV.bind{J:Shared→Prop}{α β:Type}{t:Sem α}{f:α→Sem β}(kt:bV J t)(h: ∀a,bV J (f a)):bV J (t>>=f):=by
 show bV J (t.bind f)
 induction kt with
 | pure a=>exact h a
 | raise e=>exact .raise e
 | unsupported w=>exact .unsupported w
 | rule _ ih=>exact .rule ih
 | load _ ih=>exact .load ih
 | update g _ ih=>exact .update g ih
 | alloc g _ ih=>exact .alloc g ih
 | stack _ ih=>exact .stack ih
section
variable {e:Addr}
theorem BW{a:Addr}:bV (dH e) (load a):= .load fun o=> .pure o
theorem BX{v x:Value}{i:Nat}(hi:i≠2):bV (dH e) (setField v i x):=by
 unfold setField
 split
 ·rename_i a
  unfold updateField
  refine BW.bind fun o=> ?_
  split
  ·split
   ·exact .update (fun s j=>Yg hi s j) (.pure ())
   ·exact .unsupported _
  ·exact .unsupported _
 ·exact .unsupported _
theorem Yj{v:Value}:bV (dH e) (fieldsOf v):=by
 unfold fieldsOf
 split
 ·refine BW.bind fun o=> ?_
  split
  ·exact .pure _
  ·exact .unsupported _
 ·exact .unsupported _
theorem yB{v:Value}{i:Nat}:bV (dH e) (field v i):=by
 unfold field
 refine Yj.bind fun vs=> ?_
 split
 ·exact .pure _
 ·exact .unsupported _
theorem BY{v:Value}{f:Option Addr}:bV (dH e) (setFlight v f):=by
 unfold setFlight
 refine yB.bind fun tb=> ?_
 split
 ·exact BX (by decide)
 ·exact .pure _
theorem BZ:bV (dH e) stack:= .stack fun t=> .pure t
theorem Yk{ty:String}{vs:List Value}:bV (dH e) (newFields ty vs):=by
 unfold newFields newObj newObjAsIs
 show bV (dH e) (if vs.toArray.size>sizeLine+2 then (unsupported "record:memory" >>=_) else _)
 split
 ·exact .unsupported _
 ·exact bV.bind (.alloc (fun s j=>Yi s j) fun a=> .pure a) fun a=> .pure _
theorem Yl{f:Addr}{b:Bool}:bV (dH e) (entryPlaceOf f b):=by
 unfold entryPlaceOf
 refine BZ.bind fun apV=> ?_
 split
 ·exact .pure _
 ·exact .pure _
theorem MF: ∀l:List Env,bV (dH e) (readyFrames l)
 | []=> .pure _
 | env::outer=>by
  unfold readyFrames
  split
  ·refine BW.bind fun o=> ?_
   split
   ·exact .pure _
   ·refine bV.bind ?_ fun im=>bV.bind ?_ fun bk=>bV.bind (.update (fun s j=>Yh (by intro o;exact⟨rfl,rfl⟩) s j) (.pure ())) fun _=>MF outer
    ·unfold behindIsImport
     split
     ·exact .pure _
     ·split
      ·exact .pure _
      ·exact yB.bind fun _=> .pure _
    ·unfold keptBack
     split
     ·split
      ·exact .pure _
      ·unfold underTheClaimsCaller
       exact bV.bind (BZ.bind fun _=> .pure _) fun _=> .pure _
     ·exact .pure _
  ·exact .unsupported _
theorem Ym{env:Env}:bV (dH e) (PySem.frameOf env):=by
 unfold PySem.frameOf frameEnvs
 refine bV.bind (BZ.bind fun _=> .pure _) fun l=> ?_
 refine bV.bind ?_ fun r=> ?_
 ·unfold frameObject
  split
  ·exact .pure _
  ·exact(MF _).bind fun _=> .pure _
 ·split
  ·exact .pure _
  ·exact .unsupported _
theorem MG{v:Value}{env:Env}:bV (dH e) (noteFrame v env):=by
 unfold noteFrame
 split
 ·rename_i x d hq
  refine yB.bind fun hd=> ?_
  have tail:bV (dH e) (do let a ←PySem.frameOf env;let pl ←entryPlaceOf d (hd != .none);let b ←EntryCells.newEntry hd a .none (rawInt d) .none pl;setField v 1 b):=
   Ym.bind fun a=>Yl.bind fun pl=>bV.bind Yk fun b=>BX (by decide)
  dsimp only
  split
  ·refine yB.bind fun x=> ?_
   split
   ·exact .pure _
   ·exact(BX (by decide)).bind fun _=>tail
  ·exact tail
 ·exact .unsupported _
theorem MH{v:Value}{env:Env}:bV (dH e) (leaving env v):=by
 unfold leaving
 exact MG.bind fun _=>BY
end
end L2
set_option maxHeartbeats 4000000
namespace L2
open PySem PySem.Spec PyProof.Rows
theorem cx.yC{P:Program}{w:World}{H:Hp}{h:Heap}{a:Addr}{o:HO}(x:cx P w H h a o): ∃ob,h.get? a=some ob:=by
 cases o with
 | lst xs=>obtain⟨_,_,_,_,e⟩:=x;exact⟨_,e⟩
 | tup xs=>obtain⟨_,_,_,ob,e,_⟩:=x;exact⟨_,e⟩
 | dK ah=>obtain⟨_,_,_,_,o,_,_,e,_⟩:=x;exact⟨_,e⟩
 | dT ah=>obtain⟨_,_,_,_,o,_,_,e,_⟩:=x;exact⟨_,e⟩
 | set S n=>obtain⟨o,_,_,_,e,_⟩:=x;exact⟨_,e⟩
 | ins C dx fs=>obtain⟨_,_,_,e,_⟩:=x;exact⟨_,e⟩
 | own y=>obtain⟨_,e⟩:=x;exact⟨_,e⟩
 | xd fs=>obtain⟨_,⟨_,_,_,e,_⟩,_⟩:=x;exact⟨_,e⟩
 | eO lo hi=>obtain⟨_,_,_,e⟩:=x;exact⟨_,e⟩
 | bL ob u=>obtain⟨e,_⟩:=x;exact⟨_,e⟩
 | jG ps=>exact⟨_,(show h.get? a=some _ from x)⟩
 | met f y=>exact⟨_,(show h.get? a=some _ from x)⟩
 | ext φ=>obtain⟨_,⟨_,e⟩,_⟩:=x;exact⟨_,e⟩
theorem bW.yD{P:Program}{w:World}{H:Hp}{h h':Heap}(ok:bW P w H h)(k: ∀b u,H b≠none→h.get? b=some u→h'.get? b=some u):bW P w H h':=fun a o e=>
 (ok a o e).jH (fun b u hb hu=>k b u (by
  rcases hb with rfl | hb
  ·rw[e];exact Option.some_ne_none _
  ·rw[hb];exact Option.some_ne_none _) hu) (fun _ z=>z) (fun _ _ z=>z)
def eI(P:Program)(w:World):aO:=fun outer H s E e s'=> ∃(ea:Addr) (cls:Value) (t:Addr) (B:Heap) (H':Hp),
 e= .ref ea∧s'.os=s.os∧AllBare s'.gens∧Un (bD outer) [] H H' s.heap s'.heap∧bW P w H' s'.heap∧Heap.FlyingW B outer ea cls (.ref t) s'.heap∧dH ea s'∧H' ea=none∧
 (∀b,H' b≠none→ ∀o,s'.heap.get? b=some o→B.get? b=some o)∧(∀b o,s.heap.get? b=some o→b∉bD outer→ ∀o',s'.heap.get? b=some o'→B.get? b=some o')∧E cls none H'
theorem yE{P:Program}{w:World}{outer:List Env}{H:Hp}{s:Shared}{e:Value}{s':Shared}(h:eI P w outer H s E0 e s'):False:=by
 obtain⟨_,_,_,_,_,_,_,_,_,_,_,_,_,_,_,h⟩:=h
 exact h
section
variable {P:Program} {w:World} {K:PySem.W.Frag} {mg:Str→Option Value} {base:Heap} {N:List Str} {qual:Str} {scope:Scope} {f:Addr} {cd:Value} {A:Around} {outer:List Env} {s₀:Shared} {H₀:Hp} {E:XK}
theorem Yn:Passes (eI P w) (kI (eI P w) P w K mg base N qual scope f cd A outer s₀ H₀ E) E:=by
 intro pins σ H s e s' I hx
 obtain⟨ea,cls,t,B,H',rfl,os,bare,u,aB,fl,vg,lj,c1,c2,hE⟩:=hx
 have vh:=I.ok.frames
 have hL:s₀.heap.objs.size≤ (envOfC qual scope s₀.heap.objs.size f cd).locals:=I.ok.above
 have nL: ∀b o,s₀.heap.get? b=some o→b∉bD outer→b∉bD (envOfC qual scope s₀.heap.objs.size f cd::outer):=fun b o hb hn hm=>by
  have jR:b∈ (envOfC qual scope s₀.heap.objs.size f cd).locals::bD outer:=hm
  rcases List.mem_cons.mp jR with rfl | z
  ·exact absurd (Heap.lt_size hb) (Nat.not_lt.mpr hL)
  ·exact hn z
 have iG: ∀b∈bD (envOfC qual scope s₀.heap.objs.size f cd::outer),H' b=none:=fun b hb=>by
  obtain⟨o,ho,_⟩:=(I.stack.mem hb).2
  exact u.free b o ho (I.xx b hb) List.not_mem_nil
 refine wpAny_mono (vf MH vg (wpAny_leaves_onW (Q:=fun _ gb=> ∃h',gb={s' with heap:=h'}∧Heap.FlyingW B outer ea cls (.ref t) h'∧s'.heap.UpToSlots h') (E:=fun _ _=>False) vh rfl fl fun h' iO up=> ⟨h',rfl,iO,up⟩))
  (fun _ gb hq=> ?_) (fun _ _ z=>z.1.elim)
 obtain⟨⟨h',rfl,iO,up⟩,B_⟩:=hq
 have into: ∀b o,s.heap.get? b=some o→b∉bD (envOfC qual scope s₀.heap.objs.size f cd::outer)→ ∀o',s'.heap.get? b=some o'→h'.get? b=some o':=fun b o hb hn o' dR=>iO.1 b o' (c2 b o hb hn o' dR)
 have jI: ∀b o,H' b≠none→s'.heap.get? b=some o→h'.get? b=some o:=fun b o hb ho=>iO.1 b o (c1 b hb o ho)
 have fM: ∀b∈bD (envOfC qual scope s₀.heap.objs.size f cd::outer),∀o,s'.heap.get? b=some o→ ∃sl,h'.get? b=some {o with slots:=sl}:=fun b hb o ho=>by
  obtain⟨o1,gI,hd⟩:=(fl.2.2.1.mem hb).2
  rw[ho] at gI
  cases gI
  exact up b o ho hd
 refine⟨ea,cls,t,B,H',rfl,os.trans I.os,bare,⟨fun b o q n hn _=> ?_,fun b o q n hn _=> ?_,fun b o q n _=> ?_,fun b o q _=> ?_,fun b xs q=>u.dw b xs (I.base.dw b xs q),fun b o v q=>u.eP b o v (I.base.eP b o v q),fun b ps q=> ?_⟩,
  aB.yD (fun b o hb ho=>jI b o hb ho),iO,B_,lj,fun b hb o ho=> ?_,fun b o q hn o' dR=> ?_,hE⟩
 ·have q1:=I.base.keep b o q n hn List.not_mem_nil
  have n1:=I.base.free b o q n List.not_mem_nil
  have gh:=nL b o q hn
  exact into b o q1 gh o (u.keep b o q1 n1 gh List.not_mem_nil)
 ·obtain⟨sl,q1⟩:=I.base.slot b o q n hn List.not_mem_nil
  have n1:=I.base.free b o q n List.not_mem_nil
  have gh:b∈bD (envOfC qual scope s₀.heap.objs.size f cd::outer):=List.mem_cons_of_mem _ hn
  obtain⟨oI,q2⟩:=u.slot b _ q1 n1 gh List.not_mem_nil
  obtain⟨vi,q3⟩:=fM b gh _ q2
  exact⟨vi,q3⟩
 ·obtain⟨o1,q1⟩:=I.base.there b o q List.not_mem_nil
  exact u.free b o1 q1 (I.base.free b o q n List.not_mem_nil) List.not_mem_nil
 ·obtain⟨o1,q1⟩:=I.base.there b o q List.not_mem_nil
  obtain⟨o2,q2⟩:=u.there b o1 q1 List.not_mem_nil
  by_cases hm:b∈bD (envOfC qual scope s₀.heap.objs.size f cd::outer)
  ·obtain⟨sl,q3⟩:=fM b hm o2 q2
   exact⟨_,q3⟩
  ·exact⟨o2,into b o1 q1 hm o2 q2⟩
 ·obtain⟨m1,e1⟩:=I.base.fG b ps q
  obtain⟨m2,e2⟩:=u.fG b _ e1
  exact⟨m1++m2,by rw[e2,Array.append_assoc]⟩
 ·obtain⟨eF,hH⟩:=Option.ne_none_iff_exists'.mp hb
  obtain⟨o2,q2⟩:=(aB b eF hH).yC
  have q3:=jI b o2 hb q2
  have jj:h'.get? b=some o:=ho
  rw[q3] at jj
  cases jj
  exact c1 b hb _ q2
 ·obtain⟨o1,q1⟩:=I.base.there b o q List.not_mem_nil
  obtain⟨o2,q2⟩:=u.there b o1 q1 List.not_mem_nil
  have gh:=nL b o q hn
  have q3:=into b o1 q1 gh o2 q2
  have jj:h'.get? b=some o':=dR
  rw[q3] at jj
  cases jj
  exact c2 b o1 q1 gh _ q2
def Raises(X:Cx)(E:XK):Prop:= ∀(pins:List (Addr×Obj)) (σ:St) (H:Hp) (s:Shared) (h':Heap) (e:Addr) (cls:Value) (vs:List Value),Inv X pins σ H s→Heap.MadeExcOf s.heap h' e cls vs→E cls none H→X.xe (.ref e) {s with heap:=h'}
theorem Yo:Raises (kI (eI P w) P w K mg base N qual scope f cd A outer s₀ H₀ E) E:=by
 intro pins σ H s h1 e cls vs I hx hE
 have vh:=I.ok.frames
 have hL:s₀.heap.objs.size≤ (envOfC qual scope s₀.heap.objs.size f cd).locals:=I.ok.above
 have nL: ∀b o,s₀.heap.get? b=some o→b∉bD outer→b∉bD (envOfC qual scope s₀.heap.objs.size f cd::outer):=fun b o hb hn hm=>by
  have jR:b∈ (envOfC qual scope s₀.heap.objs.size f cd).locals::bD outer:=hm
  rcases List.mem_cons.mp jR with rfl | z
  ·exact absurd (Heap.lt_size hb) (Nat.not_lt.mpr hL)
  ·exact hn z
 have o9: ∀env∈ (envOfC qual scope s₀.heap.objs.size f cd::outer),∀b,env.frame=some b→b∈bD (envOfC qual scope s₀.heap.objs.size f cd::outer):=fun env he b hb=>List.mem_filterMap.mpr ⟨env,he,hb⟩
 have vg:dH e {s with heap:=h1}:=by
  obtain⟨t,ht,_,_⟩:=hx.there
  exact⟨_,_,ht,rfl,rfl,rfl⟩
 refine wpAny_mono (vf MH vg (wpAny_leaves_madeW (Q:=fun _ gb=> ∃h' t,gb={s with heap:=h'}∧Heap.FlyingW (hideAll s.heap (bD (envOfC qual scope s₀.heap.objs.size f cd::outer))) outer e cls (.ref t) h'∧h1.UpToSlots h') (E:=fun _ _=>False)
  vh rfl (fun b o q=>of_hideAll _ q) (PySem.W.funFrames_hide I.stack o9) hx fun h' t iO _ _ up=> ⟨h',t,rfl,iO,up⟩)) (fun _ gb hq=> ?_) (fun _ _ z=>z.1.elim)
 obtain⟨⟨h',t,rfl,iO,up⟩,B_⟩:=hq
 have into: ∀b o,s.heap.get? b=some o→b∉bD (envOfC qual scope s₀.heap.objs.size f cd::outer)→h'.get? b=some o:=fun b o hb hn=>iO.1 b o (hideAll_get _ hb hn)
 have Ca: ∀b,H b≠none→b∉bD (envOfC qual scope s₀.heap.objs.size f cd::outer):=fun b hb hm=>hb (I.xx b hm)
 have fM: ∀b∈bD (envOfC qual scope s₀.heap.objs.size f cd::outer),∀o,s.heap.get? b=some o→ ∃sl,h'.get? b=some {o with slots:=sl}:=fun b hb o ho=>by
  obtain⟨o1,gI,hd⟩:=(I.stack.mem hb).2
  rw[ho] at gI
  cases gI
  exact up b o (hx.keeps b o ho) hd
 refine⟨e,cls,t,_,H,rfl,I.os,I.bare,⟨fun b o q n hn _=> ?_,fun b o q n hn _=> ?_,fun b o q n _=>I.base.free b o q n List.not_mem_nil,fun b o q _=> ?_,I.base.dw,I.base.eP,I.base.fG⟩,
  I.aB.yD (fun b o hb ho=>into b o ho (Ca b hb)),iO,B_, ?_,fun b hb o ho=> ?_,fun b o q hn o' dR=> ?_,hE⟩
 ·exact into b o (I.base.keep b o q n hn List.not_mem_nil) (nL b o q hn)
 ·obtain⟨sl,q1⟩:=I.base.slot b o q n hn List.not_mem_nil
  obtain⟨vi,q3⟩:=fM b (List.mem_cons_of_mem _ hn) _ q1
  exact⟨vi,q3⟩
 ·obtain⟨o1,q1⟩:=I.base.there b o q List.not_mem_nil
  by_cases hm:b∈bD (envOfC qual scope s₀.heap.objs.size f cd::outer)
  ·obtain⟨sl,q3⟩:=fM b hm o1 q1
   exact⟨_,q3⟩
  ·exact⟨o1,into b o1 q1 hm⟩
 ·cases q:H e with
  | none=>rfl
  | some ho=>
   obtain⟨o2,q2⟩:=(I.aB e ho q).yC
   rw[hx.new] at q2
   cases q2
 ·obtain⟨eF,hH⟩:=Option.ne_none_iff_exists'.mp hb
  obtain⟨o2,q2⟩:=(I.aB b eF hH).yC
  have q3:=into b o2 q2 (Ca b hb)
  have jj:h'.get? b=some o:=ho
  rw[q3] at jj
  cases jj
  exact hideAll_get _ q2 (Ca b hb)
 ·obtain⟨o1,q1⟩:=I.base.there b o q List.not_mem_nil
  have gh:=nL b o q hn
  have q3:=into b o1 q1 gh
  have jj:h'.get? b=some o':=dR
  rw[q3] at jj
  cases jj
  exact hideAll_get _ q1 gh
end
section
variable {X:Cx}
theorem Yp{x:Str}{C:Addr}{bm:List Value}{B newId sk:String}{e:Expr}{es:List Expr}{t:TA}{np cL pos:Pos}{E:XK}(hc:X.calm=true)(O:OwnCls x C bm newId X.mg X.base)(FB:ExcBaseFacts B newId sk bm)(Cb:Gl X x)
  (hd:(x==("__debug__":Str))=false) (ha:PA X (e::es) t) (hs:starEach (e::es) X.env=(false,eval e X.env)::starEach es X.env) (h1:(backTo cL (starEach es X.env)).any (·.1)=false) (hR:Raises X E):
  PS X (.Raise (some (.Call (.Name x np) (e::es) [] cL)) none pos) (BF C E t):=by
 intro pins s σ H D I h
 obtain⟨tl,N,nm,q,bs,hdct,sn,sub,ab,col,dd,k0,k1,k2,k3,k5,mN,hC,hN,yF,T⟩:=O.obj
 have hg:PE X (.Name x np) (tC (.ref C)):=Kj Cb O.bound rfl hd
 refine wpAny_Raise_call_subT (C:=C) (nm:=nm) (q:=q) (N:=N) (bs:=bs) (bm:=tl) (hdct:=hdct) (sn:=sn) (sub:=sub) (ab:=ab) (col:=col) (dd:=dd) (k0:=k0) (k1:=k1) (k2:=k2) (k3:=k3) (k5:=k5)
  FB (mN:=mN) (T.hasType FB.hasBase) (I.ok.hd hc) (by rw[hs];show(false || (backTo cL (starEach es X.env)).any (·.1))=false;rw[h1];rfl) yF
  (aN (hg pins s σ H (fun v H1=>v= .ref C∧BF C E t D σ H1) I ⟨rfl,h⟩) fun f s1 ⟨v,H1,I1,r1,ev,q1⟩=> ?_)
 subst ev
 obtain rfl:f=Value.ref C:=r1
 refine⟨rfl, ?_⟩
 have hA:=ha cL pins s1 σ H1 _ I1 q1
 rw[hs] at hA⊢
 refine Calls.evalArgs_plain (aN hA fun us s2 ⟨vs,H2,I2,r2,hl,q2⟩=> ⟨rfl, ?_,I2.bk _ _ hC,hN.keeps I2.bk,T.keeps I2.bk,fun h' e' hm=>hR pins σ H2 s2 h' e' _ _ I2 hm q2⟩)
 have:=r2.length
 show us.length≤sizeLine
 omega
end
theorem MI{P:Program}{w:World}{l:List Env}{H H':Hp}{h h1 h' B:Heap}(u:Un (bD l) [] H H' h h1)(aB:bW P w H' h1)(fr:h1.FunFrames B l)
  (c1: ∀b,H' b≠none→ ∀o,h1.get? b=some o→B.get? b=some o) (c2: ∀b o,h.get? b=some o→b∉bD l→ ∀o',h1.get? b=some o'→B.get? b=some o') (st:B.StaysIn h') (up:h1.UpToSlots h'):
  Un (bD l) [] H H' h h'∧bW P w H' h'∧(∀b,H' b≠none→ ∀o,h'.get? b=some o→B.get? b=some o)∧(∀b o,h.get? b=some o→b∉bD l→ ∀o',h'.get? b=some o'→B.get? b=some o'):=by
 have jI: ∀b o,H' b≠none→h1.get? b=some o→h'.get? b=some o:=fun b o hb ho=>st b o (c1 b hb o ho)
 have into: ∀b o,h.get? b=some o→b∉bD l→ ∀o',h1.get? b=some o'→h'.get? b=some o':=fun b o hb hn o' dR=>st b o' (c2 b o hb hn o' dR)
 have fM: ∀b∈bD l,∀o,h1.get? b=some o→ ∃sl,h'.get? b=some {o with slots:=sl}:=fun b hb o ho=>by
  obtain⟨o1,gI,hd⟩:=(fr.mem hb).2
  rw[ho] at gI
  cases gI
  exact up b o ho hd
 refine⟨⟨fun b o q n hn _=>into b o q hn o (u.keep b o q n hn List.not_mem_nil),fun b o q n hn _=> ?_,u.free,fun b o q _=> ?_,u.dw,u.eP,u.fG⟩,aB.yD (fun b o hb ho=>jI b o hb ho),fun b hb o ho=> ?_,fun b o q hn o' dR=> ?_⟩
 ·obtain⟨sl,q1⟩:=u.slot b o q n hn List.not_mem_nil
  obtain⟨oI,q2⟩:=fM b hn _ q1
  exact⟨oI,q2⟩
 ·obtain⟨o1,q1⟩:=u.there b o q List.not_mem_nil
  by_cases hm:b∈bD l
  ·obtain⟨sl,q3⟩:=fM b hm o1 q1
   exact⟨_,q3⟩
  ·exact⟨o1,into b o q hm o1 q1⟩
 ·obtain⟨eF,hH⟩:=Option.ne_none_iff_exists'.mp hb
  obtain⟨o2,q2⟩:=(aB b eF hH).yC
  have q3:=jI b o2 hb q2
  rw[q3] at ho
  cases ho
  exact c1 b hb _ q2
 ·obtain⟨o2,q2⟩:=u.there b o q List.not_mem_nil
  have q3:=into b o q hn o2 q2
  rw[q3] at dR
  cases dR
  exact c2 b o q hn _ q2
def Cx.alt(X:Cx)(A:Around)(calm:Bool)(pn:List (Addr×Obj))(xe:Value→Shared→Prop):Cx:={X with A:=A,calm:=calm,pn:=pn,xe:=xe}
theorem Inv.alt{X:Cx}{pins iI o_:List (Addr×Obj)}{σ:St}{H:Hp}{s:Shared}{A':Around}{sm:Bool}{Cc:Value→Shared→Prop}(I:Inv X pins σ H s)(hf:A'.frames=X.A.frames)(hc:sm=true→A'.handled=none)(hp: ∀p∈o_++iI,p∈X.pn++pins):
  Inv (X.alt A' sm o_ Cc) iI σ H s where
 ok:=⟨I.ok.mod,I.ok.kind,I.ok.glob,I.ok.blt,I.ok.above,I.ok.inj,I.ok.has,I.ok.xr,hc,hf.trans I.ok.frames,I.ok.iG,I.ok.Td,I.ok.bs,I.ok.mL,I.ok.xt,I.ok.xu,I.ok.iH,I.ok.oy⟩
 os:=I.os
 bare:=I.bare
 base:=I.base
 loc:=I.loc
 cell:=I.cell
 free:=I.free
 fY:=I.fY
 pin:=fun p h=>I.pin p (hp p h)
 aB:=I.aB
 len:=I.len
theorem Inv.Cd{X:Cx}{pins iI o_:List (Addr×Obj)}{σ:St}{H:Hp}{s:Shared}{A':Around}{sm:Bool}{Cc:Value→Shared→Prop}(ok:X.Ok)(I:Inv (X.alt A' sm o_ Cc) iI σ H s)(hp: ∀p∈X.pn++pins,p∈o_++iI):
  Inv X pins σ H s where
 ok:=ok
 os:=I.os
 bare:=I.bare
 base:=I.base
 loc:=I.loc
 cell:=I.cell
 free:=I.free
 fY:=I.fY
 pin:=fun p h=>I.pin p (hp p h)
 aB:=I.aB
 len:=I.len
theorem Yq{P:Program}{w:World}{H:Hp}{h:Heap}{ea:Addr}{ob:Obj}(h1:h.get? ea=some ob):cx P w H h ea (.bL ob mY):=
 ⟨h1,trivial,⟨ob,h1⟩,fun _ _ _ _=>trivial⟩
theorem bW.more{P:Program}{w:World}{H:Hp}{h:Heap}{a:Addr}{o:HO}(ok:bW P w H h)(ha:H a=none)(x:cx P w (upd H a o) h a o):bW P w (upd H a o) h:=fun b u e=>by
 by_cases z:b=a
 ·subst z
  rw[av] at e
  cases e
  exact x
 ·rw[aD z] at e
  exact(ok b u e).jH (fun _ _ _ q=>q) (fun c q=>by rw[aD (aW q ha)];exact q) (fun c xs q=>by rw[aD (aW q ha)];exact q)
section
variable {X:Cx}
theorem Inv.Yr{pins:List (Addr×Obj)}{σ:St}{H:Hp}{s:Shared}{h':Heap}{m':Str→Option Value}{tk:Nat}(I:Inv X pins σ H s)(hn:h'.Ns X.env.locals m')(sb:Heap.SameBut X.env.locals s.heap h'):
  Inv X pins (List.replicate X.N.length none) H {s with heap:=h',toks:=tk} where
 ok:=I.ok
 os:=I.os
 bare:=I.bare
 base:=by
  have ne: ∀b o,X.s₀.heap.get? b=some o→b≠X.env.locals:=fun b o q z=>by
   rw[z] at q
   exact absurd (Heap.lt_size q) (Nat.not_lt.mpr I.ok.above)
  refine⟨fun b o q n hn hx=> (sb.2 b (ne b o q)).trans (I.base.keep b o q n hn hx),fun b o q n hn hx=> ?_,I.base.free,fun b o q hx=> ?_,I.base.dw,I.base.eP,I.base.fG⟩
  ·obtain⟨sl,e⟩:=I.base.slot b o q n hn hx
   exact⟨sl,(sb.2 b (ne b o q)).trans e⟩
  ·obtain⟨o',e⟩:=I.base.there b o q hx
   exact⟨o',(sb.2 b (ne b o q)).trans e⟩
 loc:=⟨m',hn,fun i x v h1 h2=>by
  rw[List.getElem?_replicate] at h2
  split at h2<;>cases h2⟩
 cell:=fun x c h=>by
  obtain⟨v,o,e,d⟩:=I.cell x c h
  refine⟨v,o,(sb.2 c (fun z=> ?_)).trans e,d⟩
  obtain⟨m,⟨o2,es,ep,e2,d2,_⟩,_⟩:=I.loc
  rw[z,e2] at e
  cases e
  rw[d] at d2
  cases d2
 free:=I.free
 fY:=I.fY
 pin:=fun p hp=>by
  obtain⟨a,b,c,d,e⟩:=I.pin p hp
  exact⟨(sb.2 _ c).trans a,b,c,d,e⟩
 aB:=I.aB.yD fun b u hb hu=> (sb.2 b (fun z=>hb (by rw[z];exact I.free))).trans hu
 len:=List.length_replicate
theorem Ys{x n:Str}{C:Addr}{i:Nat}{body:List Stmt}{b₀:Stmt}{Ce:List Stmt}{tb:XK→TS}{th:Addr→TS}{np vj pos:Pos}(iJ:X.stack=X.env::X.outer)(vh:X.env.frame=some X.env.locals)(hex:X.ex=[])
  (Cb:Gl X x) (hd:(x==("__debug__":Str))=false) (kR:X.mg x=some (.ref C)) (nd:X.N.Nodup) (hN:X.N[i]?=some n) (yc:X.env.scope.names.lookup n=some .local)
  (hb: ∀(pn:List (Addr×Obj)) (xe:Value→Shared→Prop) (E:XK),PassesOwn (model X.prog X.w) X.A X.env xe→Passes (eI X.prog X.w) (X.alt X.A X.calm pn xe) E→bo (X.alt X.A X.calm pn xe) body (tb E))
  (hh: ∀(ea:Addr) (pn:List (Addr×Obj)),bo (X.alt (X.A.mark (some (.ref ea))) false pn fun _ _=>False) (b₀::Ce) (th ea)):
  PS X (.Try body [.ExceptHandler (some (.Name x np)) (some n) (b₀::Ce) vj] [] [] pos) (yq X.K C i X.N.length tb th):=by
 intro pins s σ H D I h
 refine wpAny_Try_except ?_
 have P1:Passes (eI X.prog X.w) (X.alt X.A X.calm (X.pn++pins) fun e s₁=>wpAny (model X.prog X.w) X.A (noteFrame e X.env) (fun _ s₂=>wpAny (model X.prog X.w) X.A (setFlight e none) (fun _ s₃=>wpAny (model X.prog X.w) X.A (handleBy e X.env [.ExceptHandler (some (.Name x np)) (some n) (b₀::Ce) vj]) (SP X pins D) X.xe s₃) X.xe s₂) X.xe s₁) (BG X.K C i X.N.length th D):=by
  intro iI σ' H1 s1 e' s' I1 hx
  obtain⟨ea,cls,t,B,H',rfl,os,bare,u,aB,fl,vg,lj,c1,c2,hm,Yt⟩:=hx
  have Yu:X.A.frames=some (X.env::X.outer):=by rw[I.ok.frames,iJ]
  have iO:Heap.FlyingW B (X.env::X.outer) ea cls (.ref t) s'.heap:=by rw[←iJ];exact fl
  refine wpAny_mono (vf MG vg (wpAny_looks_onW (Q:=fun _ gb=> ∃h',gb={s' with heap:=h'}∧Heap.HeldW B (X.env::X.outer) ea cls (.ref t) X.env.locals h'∧s'.heap.UpToSlots h') (E:=fun _ _=>False) Yu vh iO fun h4 lp Cf=> ⟨h4,rfl,lp,Cf⟩))
   (fun _ s4 hq=> ?_) (fun _ _ z=>z.1.elim)
  obtain⟨⟨h4,rfl,lp,Cf⟩,Yv⟩:=hq
  refine wpAny_mono (vf BY Yv (wpAny_landsW (s:={s' with heap:=h4}) (Q:=fun _ gb=> ∃h',gb={s' with heap:=h'}∧Heap.FlyingW B (X.env::X.outer) ea cls (.ref t) h'∧h4.UpToSlots h') (E:=fun _ _=>False) lp fun h5 so Cg=> ⟨h5,rfl,so,Cg⟩))
   (fun _ s5 hq=> ?_) (fun _ _ z=>z.1.elim)
  obtain⟨⟨h5,rfl,Yw,Cg⟩,Yx⟩:=hq
  have so:Heap.FlyingW B X.stack ea cls (.ref t) h5:=by rw[iJ];exact Yw
  obtain⟨u5,MJ,vk,vm⟩:=MI (l:=X.stack) u aB fl.2.2.1 c1 c2 so.1 (Cf.trans Cg)
  obtain⟨oe,ws,Yy,Yz,apW,apX⟩:=so.first
  have I5:=I1.AL (s':={s' with heap:=h5}) (ch:=[]) os u5 MJ bare (fun b z=>absurd z List.not_mem_nil)
  refine wpAny_handleBy_cons (codeAny_handlers_test ?_) (by intro q;cases q)
  have uu:Inv (X.alt (X.A.mark (some (.ref ea))) false (X.pn++pins) fun _ _=>False) [] σ' H' {s' with heap:=h5}:=I5.alt (A':=X.A.mark (some (.ref ea))) (sm:=false) (o_:=X.pn++pins) (iI:=[]) rfl (fun z=>nomatch z) (fun p hp=>List.mem_append.mpr (.inl (by rw[List.append_nil] at hp;exact hp)))
  refine uk uu Cb kR ?_ hd
  have LT:PySem.W.Looks (model X.prog X.w) h5 (typeOf (.ref ea)) cls:=by
   subst Yz
   exact(PySem.W.Looks.ld Yy).andThen .now
  refine(PySem.W.exm_one I5.cT LT hm).here ?_
  refine codeAny_handlers_suite_as ?_
  refine wpAny_mono (vf BY Yx (lands_againW (s:={s' with heap:=h5}) (Q:=fun _ gb=> ∃h',gb={s' with heap:=h'}∧Heap.FlyingW B X.stack ea cls (.ref t) h'∧h5.UpToSlots h') (E:=fun _ _=>False) so fun h6 sq Ci=> ⟨h6,rfl,sq,Ci⟩))
   (fun _ s6 hq=> ?_) (fun _ _ z=>z.1.elim)
  obtain⟨⟨h6,rfl,sq,Ci⟩,YA⟩:=hq
  obtain⟨u6,YB,yG,vn⟩:=MI (l:=X.stack) u5 MJ so.2.2.1 vk vm sq.1 Ci
  obtain⟨sr,MK,yH,YC,Cj,_⟩:=sq.first
  have YD:BE sr cls MK:=by
   obtain⟨o',vs',q1,q2,q3,q4⟩:=YA
   have jS:h6.get? ea=some o':=q1
   rw[yH] at jS
   cases jS
   rw[Cj] at q2
   cases q2
   exact⟨YC,Cj,q3,q4⟩
  have ne1:s1.heap.get? ea=none:=by
   cases q:s1.heap.get? ea with
   | none=>rfl
   | some o1=>
    by_cases ML:ea∈bD X.stack
    ·obtain⟨o2,eF,hd2⟩:=(sq.2.2.1.mem ML).2
     rw[yH] at eF
     cases eF
     exact(hd2 _ Cj).elim
    ·have:=vn ea o1 q ML sr yH
     rw[sq.2.1] at this
     cases this
  have u7:Un (bD X.stack) [] H1 (upd H' ea (.bL sr mY)) s1.heap h6:=⟨u6.keep,u6.slot,fun b o q n hx=>by
    rw[aD (fun z=>by rw[z,ne1] at q;cases q)];exact u6.free b o q n hx,u6.there,fun b xs q=>by
    have q':=u6.dw b xs q
    rw[aD (aW q' lj)];exact q',fun b o v q=>by
    have q':=u6.eP b o v q
    rw[aD (aW q' lj)];exact q',fun b ps q=>by
    obtain⟨more,q'⟩:=u6.fG b ps q
    exact⟨more,by rw[aD (aW q' lj)];exact q'⟩⟩
  have YE:bW X.prog X.w (upd H' ea (.bL sr mY)) h6:=YB.more lj (Yq yH)
  have I7:=I1.AL (s':={s' with heap:=h6}) (ch:=[]) os u7 YE bare (fun b z=>absurd z List.not_mem_nil)
  have I8:Inv (X.alt (X.A.mark (some (.ref ea))) false (X.pn++pins) fun _ _=>False) [] σ' (upd H' ea (.bL sr mY)) {s' with heap:=h6}:=I7.alt (A':=X.A.mark (some (.ref ea))) (sm:=false) (o_:=X.pn++pins) (iI:=[]) rfl (fun z=>nomatch z) (fun p hp=>List.mem_append.mpr (.inl (by rw[List.append_nil] at hp;exact hp)))
  refine AK (X:=X.alt (X.A.mark (some (.ref ea))) false (X.pn++pins) fun _ _=>False) (v:= .ref ea) I8 nd hN (.inl yc) rfl (fun s9 I9=> ?_) (.inr yc)
  refine wpAny_mono (hh ea (X.pn++pins) [] s9 _ _ {nx:=fun _ _=>False,rt:=D.rt} I9 (Yt ea sr MK σ' lj I1.len YD)) (fun f gi hs=> ?_) fun _ _ z=>z.elim
  cases f with
  | next=>obtain⟨_,_,_,z⟩:=hs;exact z.elim
  | brk=>obtain⟨_,_,_,z⟩:=hs;exact z.elim
  | cont=>obtain⟨_,_,_,z⟩:=hs;exact z.elim
  | ret v=>
   obtain⟨v',YF,pb,YG,r,q⟩:=hs
   have MM:Inv X pins YF pb gi:=YG.Cd I.ok (fun p hp=>by simpa using hp)
   obtain⟨m,hn,_⟩:=MM.loc
   refine wpAny_nameGoes yc hn (by rw[I.ok.kind];rfl) fun h' m' uj sb=> ?_
   exact⟨v',_,pb,MM.Yr uj sb,r,q⟩
 refine wpAny_mono (hb _ _ _ PassesOwn.looking P1 [] s σ H {nx:=D.nx,rt:=D.rt} (I.alt rfl I.ok.hd (fun p hp=>by simpa using hp)) h) (fun f s1 hs=> ?_) fun e' s' hx=>hx
 cases f with
 | next=>
  obtain⟨σ',H',I',q⟩:=hs
  exact Kr pins s1 σ' H' D (I'.Cd I.ok (fun p hp=>by simpa using hp)) q
 | brk=>obtain⟨_,_,_,z⟩:=hs;exact z.elim
 | cont=>obtain⟨_,_,_,z⟩:=hs;exact z.elim
 | ret v=>
  obtain⟨v',σ',H',I',r,q⟩:=hs
  exact⟨v',σ',H',I'.Cd I.ok (fun p hp=>by simpa using hp),r,q⟩
end
def gj(A:Around)(H:Hp):Prop:= ∃e D,A.handled=some (.ref e)∧ExcAt H e D
def Hd(X:Cx):Prop:=gj X.A X.H₀
theorem ExcAt.keeps{H H':Hp}{e D:Addr}(h:ExcAt H e D)(k: ∀b o u,H b=some (.bL o u)→H' b=some (.bL o u)):ExcAt H' e D:=by
 obtain⟨ob,vs,h1,h2⟩:=h
 exact⟨ob,vs,k _ _ _ h1,h2⟩
theorem gj.keeps{A:Around}{H H':Hp}(h:gj A H)(k: ∀b o u,H b=some (.bL o u)→H' b=some (.bL o u)):gj A H':=by
 obtain⟨e,D,h1,h2⟩:=h
 exact⟨e,D,h1,h2.keeps k⟩
theorem gj.m6{P:Program}{w:World}{A:Around}{H:Hp}{h:Heap}(x:gj A H)(ok:bW P w H h):hX A h:=by
 obtain⟨e,D,h1,ob,vs,h2,h3⟩:=x
 exact .inr ⟨e,ob,vs,h1,(ok e _ h2).1,h3.data,h3.XA⟩
section
variable {X:Cx} {pins:List (Addr×Obj)} {σ:St} {H:Hp} {s:Shared}
theorem Hd.at(h:Hd X)(I:Inv X pins σ H s):gj X.A H:=gj.keeps h I.base.eP
theorem Hd.m6(h:Hd X)(I:Inv X pins σ H s):hX X.A s.heap:=(h.at I).m6 I.aB
end
theorem YH{P:Program}{w:World}{K:PySem.W.Frag}{tg:Expr}(a it:Addr):Bu Hd P w K tg (iL K a) [it] it (fun i h=>h.IsListIter it a i) where
 mem:=by simp
 obj:=(xI (P:=P) (w:=w) (K:=K) (tg:=tg) a it).obj
 keep:=(xI (P:=P) (w:=w) (K:=K) (tg:=tg) a it).keep
 item:=by
  intro X hP hw hK hc i pins s σ H E I hf st hg
  subst hP hw hK
  obtain⟨xs,x,hq,hx⟩:=hg
  obtain⟨its,rv,p,hz⟩:=I.list hq
  obtain⟨u,hu,ru⟩:=rv.get hx
  obtain⟨f0,f1,f2,f3,f4,f5⟩:=hf it (by simp)
  refine wpAny_pyNext_list_item st p.isList (x:=u) (by simpa using hu) fun h' i7 sb=> ?_
  have I1:Inv X pins σ H {s with heap:=h'}:=I.turned (t':=s.toks) (fun b o hb e=> (sb.2 b hb).trans e) f0 f1 f3 f4 f5
  obtain⟨o,e,c,d⟩:=id i7
  exact⟨u,rfl,AR (s:={s with heap:=h'}) e c d (by decide) ⟨x,H,I1,ru,⟨rfl,fun ys hy=>by rw[I.xD hy hq];exact hx⟩,i7,fun b hb=> (hf b hb).1⟩⟩
 done:=by
  intro X hP hw hK hc i pins s σ H E I hf st hg
  subst hP hw hK
  obtain⟨xs,hq,hx⟩:=hg
  obtain⟨its,rv,p,hz⟩:=I.list hq
  obtain⟨f0,f1,f2,f3,f4,f5⟩:=hf it (by simp)
  have hl:=rv.length
  exact X3 (hc.m6 I) st p.isList (by simp;omega) fun h' eb=> ⟨rfl,I.turned (t':=s.toks) (fun b o hb e=>eb b o hb e) f0 f1 f3 f4 f5⟩
 self:=(xI (P:=P) (w:=w) (K:=K) (tg:=tg) a it).self
section
variable {X:Cx} {tg:Expr}
theorem YI{l:Expr}{tl:TE}(hl:PE X l tl):yh Hd X tg l (uq X.K tl):=by
 intro pins s σ H R I h
 refine aN (hl pins s σ H _ I h) fun v s1 ⟨x,H1,I1,r1,q1⟩=> ?_
 obtain⟨a,e,⟨xs,hq⟩,q⟩:=q1
 subst e
 cases r1
 obtain⟨its,rv,p,hz⟩:=I1.list hq
 refine wpAny_pyIter_list p.isList ?_
 refine⟨s1.heap.objs.size,[s1.heap.objs.size],_,_,H1,rfl,I1.kept (t':=s1.toks) fun b o e=>Heap.get?_push_of_some _ e,YH a _,⟨_,Heap.get?_push_size _ rfl,rfl,rfl⟩,fun b hb=> ?_,q⟩
 have e:b=s1.heap.objs.size:=by simpa using hb
 subst e
 exact I1.xH (Nat.le_refl _) (I1.aB.fresh (Nat.le_refl _))
theorem YJ{pos:Pos}{es:List Expr}{k:Nat}{t:i4}{n:Nat}(hd:Hd X)(h:oB X es t)
  (hn:(assignEach es X.env).length=n:=by rfl) (iJ:(assignEach es X.env).findIdx? (·.1)=none:=by rfl):PG X (.Tuple es k pos) (xG X.K n t):=by
 intro pins s σ H v u Q I r hw
 obtain⟨a,xs,e1,hq,hl,hw⟩:=hw
 subst e1
 cases r
 obtain⟨its,rv,ht,hz⟩:=I.tuple hq
 refine X7 (hd.m6 I) ht (by simp[hn,←hl,rv.length]) iJ fun h' hx=> ?_
 have I1:Inv X pins σ H {s with heap:=h'}:=I.kept (t':=s.toks) fun b o e=>hx b o (Nat.ne_of_lt (Heap.lt_size e)) e
 exact h pins _ σ H xs _ Q I1 (by simpa using rv) hw
theorem YK{scope:Scope}{fv:List (Str×Nat)}{x y:Str}{px py pos:Pos}{k:Nat}(hx:scope.names.lookup x=some .local)(hy:scope.names.lookup y=some .local)(jM:(x::y::fv.map (·.1)).Nodup):yi (gj X.A) X scope [x,y] fv (.Tuple [.Name x px, .Name y py] k pos) (some 2):=by
 intro ex C s H hH
 generalize eX:fL X scope ([x,y]++fv.map (·.1)) ex C s H=Xc
 have xN:Xc.N=x::y::fv.map (·.1):=by rw[←eX];rfl
 have xd:Hd Xc:=by rw[←eX];exact hH
 have lx:Xc.env.scope.names.lookup x=some .local:=by rw[←eX];exact lookup_relabel_local hx
 have ly:Xc.env.scope.names.lookup y=some .local:=by rw[←eX];exact lookup_relabel_local hy
 have p1:PG Xc (.Name x px) (dS 0):=rO (by rw[xN];exact jM) (by rw[xN];rfl) (.inl lx) (.inr lx)
 have p2:PG Xc (.Name y py) (dS 1):=rO (by rw[xN];exact jM) (by rw[xN];rfl) (.inl ly) (.inr ly)
 have xK:Xc.K=X.K:=by rw[←eX];rfl
 refine⟨xG Xc.K 2 (rP (dS 0) (rP (dS 1) xE)),YJ xd (uo p1 (uo p2 AQ)),fun v pre φ H' Q hp h=> ?_⟩
 obtain⟨a,b,rfl⟩: ∃a b,pre=[a,b]:=by
  match pre,hp with
  | [a,b],_=>exact⟨a,b,rfl⟩
 obtain⟨a',xs,rfl,e2,e3,q⟩:=h
 obtain⟨v1,v2,rfl⟩: ∃v1 v2,xs=[v1,v2]:=by
  match xs,e3 with
  | [v1,v2],_=>exact⟨v1,v2,rfl⟩
 exact⟨a',_,rfl,by rw[xK];exact e2,rfl,v1,_,rfl,v2,_,rfl,rfl,q rfl⟩
theorem YL{X:Cx}: ∀H,gj X.A H→ ∀Xc:Cx,Xc.A=X.A→Xc.calm=X.calm→Xc.H₀=H→Hd Xc:=fun H h Xc a _ b=>by
 show gj Xc.A Xc.H₀
 rw[a,b];exact h
theorem YM:cE X (.builtin "isinstance") (jO X.K):=by
 intro pins s σ H xs us Q I r h
 match xs,h with
 | [.ref ea,c],h=>
  obtain⟨D,b,⟨ob,vs,h1,h2⟩,hC,hc,hk,hq⟩:=h
  cases r with
  | cons r1 r=>
   cases r with
   | cons r2 r=>
    cases r
    rename_i u1 u2
    cases (show u1=Value.ref ea from r1)
    have e2:u2=cV c:=by
     rcases hc with⟨C,rfl⟩ | ⟨n,rfl⟩
     ·exact r2
     ·exact r2
    subst e2
    have at_:=(I.aB ea _ h1).1
    have inst:InstAt s.heap ea ob D none:=⟨at_,h2.cls,by unfold PySem.W.notCls;rw[h2.data],by rw[h2.dict];trivial⟩
    exact kia_one (Ya hC.uT hC.uU hC.hk hC.ha hC.hn hC.mQ hC.hm hC.hb) I.cT inst hk (fun z=>nomatch z) fun tk=> ⟨.bl b,H,I.tok tk,rfl,hq⟩
end
structure gk (k:Nat) (A:Around):Prop where
 dp:A.depth+3*k+5<recursionLimit
 un:A.units+16*k+200<cLine
theorem dh.h{k:Nat}{A:Around}(r:dh k A):gk k A:=⟨r.dp,r.un⟩
theorem gk.mark{k:Nat}{A:Around}(r:gk k A)(v:Option Value):gk k (A.mark v):=⟨r.dp,r.un⟩
theorem gk.deeper{k:Nat}{A:Around}(r:gk (k+1) A)(env:Env):gk k (A.deeper env):=
 ⟨by have:=r.dp;show A.depth+1+3*k+5<_;omega,by have:=r.un;show A.units+3+16*k+200<_;omega⟩
theorem gk.depth{k:Nat}{A:Around}(r:gk k A):A.depth<recursionLimit:=by have:=r.dp;omega
theorem gk.units{k:Nat}{A:Around}(r:gk k A):A.units+64<cLine:=by have:=r.un;omega
def YN(outer:List Env)(P:Program)(w:World)(H:Hp)(s:Shared)(Q:VK)(r:Result)(s':Shared):Prop:=
 match r with
 | .ok (.ret u)=>CE outer P w H s Q u s'
 | _=>False
structure pd (P:Program) (w:World) (K:PySem.W.Frag) (mg:Str→Option Value) (base:Heap) (k:Nat) (f:Addr) (fd:FuncData) (ps:List Str) (sp:Sp):Prop where
 len: ∀vs H Q E,sp vs H Q E→vs.length=ps.length
 run: ∀(A:Around) (outer:List Env) (s:Shared) (H:Hp) (args:Args) (us:List Value) (vs:List V) (Q:VK),gk k A→gj A H→kD P w K mg base A outer s H→BindsTo s fd args (ps.zip us)→Vals vs us→sp vs H Q E0→
  codeAny (model P w) A (.call (.ref f) args) (YN outer P w H s Q) s
theorem pd.mono{P:Program}{w:World}{K:PySem.W.Frag}{mg:Str→Option Value}{base:Heap}{j k:Nat}{f:Addr}{fd:FuncData}{ps:List Str}{sp:Sp}(F:pd P w K mg base j f fd ps sp)(h:j≤k):pd P w K mg base k f fd ps sp:=
 ⟨F.len,fun A outer s H args us vs Q hr=>F.run A outer s H args us vs Q ⟨by have:=hr.dp;omega,by have:=hr.un;omega⟩⟩
def yI(CX:aO)(P:Program)(w:World)(K:PySem.W.Frag)(mg:Str→Option Value)(base:Heap)(N:List Str)(qual:Str)(scope:Scope)(f:Addr)(cd:Value)(A:Around)(outer:List Env)(s:Shared)(H:Hp):Cx:=
 (kI CX P w K mg base N qual scope f cd {A with handled:=none} outer s H E0).alt (A.deeper (envOfC qual scope s.heap.objs.size f cd)) false [] fun _ _=>False
theorem YO{CX:aO}{P:Program}{w:World}{K:PySem.W.Frag}{mg:Str→Option Value}{base:Heap}{k:Nat}{f:Addr}{name qual:Str}{params:Arguments}{body:List Stmt}{scope:Scope}{dV kV doc pm cU ct oc:Value}{an od:Option Addr}
  {ja:Array (Option Value)} {N ps:List Str} {sp:Sp} (lk:K.lookup f=some ⟨oc,od, .func (fnOf name qual params body scope dV kV doc pm an cU ct),ja⟩) (fH:codeIn K cU qual=true) (S:bQ N ps scope)
  (len: ∀vs H Q E,sp vs H Q E→vs.length=ps.length)
  (A7: ∀(A:Around) (outer:List Env) (s:Shared) (H:Hp) (vs:List V) (Q:VK),gk k (A.deeper (envOfC qual scope s.heap.objs.size f cU))→gj A H→sp vs H Q E0→
   ∃t,bo (yI CX P w K mg base N qual scope f cU A outer s H) body t∧t {nx:=fun _ H'=>Q .aw H',rt:=Q} (start N vs) H):
  pd P w K mg base (k+1) f (fnOf name qual params body scope dV kV doc pm an cU ct) ps sp:=by
 refine⟨len,fun A outer s H args us vs Q hr hh e0 hb r gc=> ?_⟩
 have hl:=len _ _ _ _ gc
 have KX:K.In s.heap:=e0.mod.ou.keeps fun b o e=> (e0.bs b o e).1
 have lim:s.heap.NoLimit:=e0.mod.nolimit.keeps fun b o e=> (e0.bs b o e).1
 have A8: ∀y∈ps.zip us,scope.names.lookup y.1=some .local∨(scope.names.lookup y.1=some .cell∧((cellsFrom (s.heap.objs.size+1) scope.names []).lookup y.1).isSome=true):=fun⟨n,v⟩ hy=>by
  rcases S.par n (List.of_mem_zip hy).1 with q | q
  ·exact .inl q
  ·exact .inr ⟨q,cellsFrom_some _ _ _ (.inl q)⟩
 refine codeAny_call_function hr.depth (KX _ _ lk) rfl S.co S.gen rfl (codeRec_of KX fH) (hb _ _ _ _ ?_)
 refine wpAny_newFunctionEnv_cells S.kind A8 fun env he s1 x=> ?_
 subst he
 refine⟨lim.keeps x.toInCall.keep,codeAny_func ?_⟩
 obtain⟨t,ht,hq⟩:=A7 A outer s H vs Q (hr.deeper _) hh gc
 have YQ:kD P w K mg base {A with handled:=none} outer s H:=⟨e0.frames,e0.mod,e0.bs,e0.mL,e0.iH,e0.oy,e0.aB,e0.bare⟩
 have I0:Inv (kI CX P w K mg base N qual scope f cU {A with handled:=none} outer s H E0) [] (start N vs) H s1:=K9 S rfl YQ hl r x
 have I:Inv (yI CX P w K mg base N qual scope f cU A outer s H) [] (start N vs) H s1:=I0.alt rfl (fun z=>nomatch z) (fun p hp=>hp)
 refine wpAny_mono (ht [] s1 (start N vs) H _ I hq) (fun fl s' hs=> ?_) fun e s' hs=>hs.elim
 have fin: ∀{σ':St} {H':Hp} {v:V} {u:Value},Inv (yI CX P w K mg base N qual scope f cU A outer s H) [] σ' H' s'→RelV v u→Q v H'→CE outer P w H s Q u s':=
  fun {σ' H' v u} J rv q=> ⟨v,H',J.os,J.bare,J.base,J.aB,rv,q⟩
 cases fl with
 | ret u=>
  obtain⟨v,σ',H',J,rv,q⟩:=hs
  exact fin J rv q
 | next=>
  obtain⟨σ',H',J,q⟩:=hs
  exact fin (v:=V.aw) (u:=Value.none) J rfl q
 | brk=>
  obtain⟨_,_,_,q⟩:=hs
  exact False.elim q
 | cont=>
  obtain⟨_,_,_,q⟩:=hs
  exact False.elim q
theorem YR{CX:aO}{P:Program}{w:World}{K:PySem.W.Frag}{mg:Str→Option Value}{base:Heap}{N:List Str}{qual:Str}{scope:Scope}{f:Addr}{cd:Value}{A:Around}{outer:List Env}{s:Shared}{H:Hp}(h:gj A H):Hd (yI CX P w K mg base N qual scope f cd A outer s H):=h
section
variable {X:Cx} {k:Nat} {f:Addr} {fd:FuncData} {ps:List Str} {sp:Sp} {x:Str} {p pos:Pos} {e:Expr} {ta:TE} {hv:Option Addr}
theorem YS(F:pd X.prog X.w X.K X.mg X.base k f fd ps sp)(hr:gk k X.A)(hg:Gl X x)(hm:X.mg x=some (.ref f))(hk:keepIn X.K (.ref f)=true)(hb:Binds X.K fd ps [])(hh: ∀e,hv=some e→X.A.handled=some (.ref e))
  (ha:PE X e ta) (hs:noStar e=true) (kE:(x==("__debug__":Str))=false):PE X (.Call (.Name x p) [e] [] pos) (Mo sp hv (dt ta f_)):=by
 intro pins s σ H Q I h
 have he:starEach [e] X.env=(false,eval e X.env)::starEach [] X.env:=by cases e<;>first | rfl | cases hs
 refine wpAny_Call_Name_kw (uk I hg hm ?_ kE)
 have hA:PA X [e] (dt ta f_):=kz ha rS he
 refine callWith_K (h₀:=X.base) I.ok.mod.ou hk (aN (hA pos pins s σ H _ I h) fun us s1 ⟨vs,H1,I1,r,⟨ea,D,h1,h2⟩,q⟩=> ⟨I1.cT, ?_⟩) he rfl
 have r2:Vals vs us:=r
 have hl:us.length=ps.length:=by rw[←r2.length];exact F.len _ _ _ _ q
 have mV:=hb s1 us I1.cT (by rw[List.append_nil];exact hl)
 rw[List.append_nil] at mV
 refine wpAny_call (codeAny_mono (F.run X.A X.stack s1 H1 ⟨us,[]⟩ us vs Q hr ⟨ea,D,hh ea h1,h2⟩ I1.A0 mV r2 q) fun r s' hq=> ?_)
 cases r with
 | error e=>exact False.elim hq
 | ok fl=>
  cases fl with
  | ret u=>exact I1.after hq
  | next=>exact False.elim hq
  | brk=>exact False.elim hq
  | cont=>exact False.elim hq
end
def MN(CX:aO)(X:Cx)(x:Str)(sp:Sp):Prop:=
 ∃k f fd ps,cB X.prog X.w X.K X.mg X.base CX k f fd ps sp∧dh k X.A∧X.mg x=some (.ref f)∧keepIn X.K (.ref f)=true∧Binds X.K fd ps []
def yJ(CX:aO)(X:Cx)(C:Addr)(m:Str)(sp:Sp):Prop:=
 i_ X.K C∧ ∃k f fd ps,Meth X.K C m f∧cB X.prog X.w X.K X.mg X.base CX k f fd ps sp∧dh k X.A∧Binds X.K fd ps []
def MO(CX:aO)(X:Cx)(x:Str)(C:Addr)(sp:Sp):Prop:=
 ∃k f fd ps,Mk X.K C f∧cB X.prog X.w X.K X.mg X.base CX k f fd ps sp∧dh (k+1) X.A∧X.mg x=some (.ref C)∧Binds X.K fd ps []
def MP(X:Cx)(x:Str)(sp:Sp):Prop:=
 ∃k f fd ps,pd X.prog X.w X.K X.mg X.base k f fd ps sp∧gk k X.A∧X.mg x=some (.ref f)∧keepIn X.K (.ref f)=true∧Binds X.K fd ps []
def MQ(X:Cx)(x:Str)(C:Addr):Prop:= ∃bm B newId sk,OwnCls x C bm newId X.mg X.base∧ExcBaseFacts B newId sk bm
structure Good (CX:aO) (S:dj) (Γ:aJ) (X:Cx):Prop where
 N:X.N=S.N
 sc:X.env.scope=S.sc
 K:X.K=Γ.K
 calm:S.md=0→X.calm=true
 units:X.A.units+64<cLine
 fns:S.md=0→ ∀j x,S.fn[j]?=some x→MN CX X x (Γ.fs j)
 ez: ∀j x,S.gn[j]?=some x→ ∃u,X.mg x=some u∧RelV (Γ.gv j) u
 fN: ∀x,S.bl.contains x=true→X.mg x=none
 pass:Passes CX X Γ.E
 jT: ∀outer H s e s',CX outer H s E0 e s'→False
 lq: ∀p ah,Γ.sd p ah→ ∀h:Heap,X.K.In h→ ∃vs,KV ah vs∧h.DictOf (dQ X.prog X.w) p vs
 lu:S.md=0→ ∀j m,S.mn[j]?=some m→yJ CX X (Γ.ms j).1 m (Γ.ms j).2
 m7:S.md=0→ ∀j x,S.kn[j]?=some x→MO CX X x (Γ.kt j).1 (Γ.kt j).2
 sv: ∀j x,S.en[j]?=some x→MQ X x (Γ.ex j)
 lA: ∀j x,S.hn[j]?=some x→MP X x (Γ.hs j)
 m8: ∀e,Γ.hv=some e→X.A.handled=some (.ref e)
 pe:S.md=1→Hd X
theorem yK{S:dj}(h:(if S.md=0 then 0 else 2)=0):S.md=0:=by
 split at h
 ·assumption
 ·cases h
section
variable {CX:aO} {S:dj} {Γ:aJ} {X:Cx}
theorem Good.inner(G:Good CX S Γ X)(c:u_)(ln:List Str)(fv:List (Str×Nat))(ex:List Addr)(C:Addr)(s:Shared)(H:Hp):
  Good CX (MC S c ln fv) Γ.calm (fL X c.sc (ln++fv.map (·.1)) ex C s H) where
 N:=rfl
 sc:=by
  show relabel c.sc X.env=BP c.sc S.sc
  rw[←G.sc];rfl
 K:=G.K
 calm:=fun h=>G.calm (yK h)
 units:=G.units
 fns:=fun m j x h=>G.fns (yK m) j x h
 ez:=G.ez
 fN:=G.fN
 pass:=fun _ _ _ _ _ _ _ h=> (G.jT _ _ _ _ _ h).elim
 jT:=G.jT
 lq:=G.lq
 lu:=fun z j m h=>G.lu (yK z) j m h
 m7:=fun z j x h=>G.m7 (yK z) j x h
 sv:=fun j x h=>by simp[MC] at h
 lA:=fun j x h=>G.lA j x h
 m8:=fun e h=>G.m8 e h
 pe:=fun h=>by
  have h':(if S.md=0 then 0 else 2)=1:=h
  split at h'<;>cases h'
theorem Good.gl(G:Good CX S Γ X){x:Str}(h:kZ S.sc x=true):Gl X x:=by
 show X.env.scope.names.lookup x=_
 rw[G.sc];exact XM h
theorem dI{e:Expr}{es:List Expr}{env:Env}(h:noStar e=true):starEach (e::es) env=(false,eval e env)::starEach es env:=by
 cases e<;>first | rfl | cases h
theorem mS{o:Expr}{x:Str}{env:Env}(h:m5 o=true):attributeBase o x env (eval o env)=eval o env:=by
 unfold attributeBase
 split
 ·cases h
 ·rfl
theorem vo{e:Expr}{env:Env}(h:vc e=true): ∀x,foldedSetIterable e env x=pure x:=by
 intro x
 cases e<;>first | rfl | cases h
def fO(es:List Expr):Bool:=es.all noStar
theorem jU(env:Env)(pos:Pos): ∀(es:List Expr),fO es=true→(backTo pos (starEach es env)).any (·.1)=false
 | [],h=>rfl
 | e::es,h=>by
  simp only[fO,List.all_cons,Bool.and_eq_true] at h
  rw[dI h.1]
  have ih:=jU env pos es h.2
  show(false || (backTo pos (starEach es env)).any (·.1))=false
  rw[ih];rfl
theorem yL(env:Env)(pos:Pos): ∀(es:List Expr),fO es=true→(backTo pos (starEach es env)).all (fun x=> !x.1)=true
 | [],h=>rfl
 | e::es,h=>by
  simp only[fO,List.all_cons,Bool.and_eq_true] at h
  rw[dI h.1]
  have ih:=yL env pos es h.2
  show(!false && (backTo pos (starEach es env)).all (fun x=> !x.1))=true
  rw[ih];rfl
theorem dc{e:Expr}{es:List Expr}(h:fO (e::es)=true):noStar e=true∧fO es=true:=by
 simp only[fO,List.all_cons,Bool.and_eq_true] at h
 exact h
theorem Ck(G:Good CX S Γ X){c:u_}{ln:List Str}{fv:List (Str×Nat)}(h:BR S c ln fv=true):
  ji X c.sc ln fv∧(∀x∈ln,c.sc.names.lookup x=some .local)∧(ln++fv.map (·.1)).Nodup∧vc c.iter=true:=by
 simp only[BR,Bool.and_eq_true,decide_eq_true_eq,List.all_eq_true,Bool.or_eq_true] at h
 obtain⟨⟨⟨⟨⟨⟨⟨h1,h2⟩,h3⟩,h4⟩,h5⟩,h6⟩,h7⟩,h8⟩:=h
 refine⟨⟨h1,fun y hy=>h2 y hy,fun y hy hl=> ?_,fun y hy hf=> ?_,fun p hp=> ?_⟩,h6,h7,h8⟩
 ·rcases h3 y hy with z | z
  ·exact absurd hl z
  ·exact z
 ·show X.env.scope.names.lookup y.1=_∨X.env.scope.names.lookup y.1=_
  rw[G.sc]
  rcases h4 y hy with(z | z) | z
  ·exact absurd hf z
  ·exact .inl z
  ·exact .inr z
 ·rw[G.N];exact h5 p hp
theorem MR(hc:X.calm=true){c:u_}{tk:Option Nat}{ln:List Str}{fv:List (Str×Nat)}(h:BQ tk c.tg=some ln)(hl: ∀x∈ln,c.sc.names.lookup x=some .local)(hn:(ln++fv.map (·.1)).Nodup):
  uL X c.sc ln fv c.tg tk:=by
 unfold BQ at h
 split at h
 ·rename_i x p he
  cases h
  rw[he]
  exact WZ (hl x (by simp)) hn
 ·rename_i x p y q k pos he
  cases h
  rw[he]
  exact W2 hc (hl x (by simp)) (hl y (by simp)) hn
 ·cases h
theorem YT{xs:List V}{H:Hp}{Q:VK}{K:PySem.W.Frag}(h:oZ K .int xs H Q):(∃i,xs=[.int i]∧Q (.int i) H)∨ ∃k,xs=[.bl k]∧Q (.int (if k then 1 else 0)) H:=by
 match xs,h with
 | [.int i],h=>exact .inl ⟨i,rfl,h⟩
 | [.bl k],h=>exact .inr ⟨k,rfl,h⟩
theorem YU{K:PySem.W.Frag}{x:V}{H:Hp}{Q:Nat→Prop}(h:yd K x H Q): ∃n,KW K x H n∧Q n:=by
 match x,h with
 | .str y,h=>exact⟨_,⟨h.1,rfl⟩,h.2⟩
 | .ref p, .inl ⟨xs,a,b⟩=>exact⟨_, .inl ⟨xs,a,rfl⟩,b⟩
 | .ref p, .inr ⟨xs,a,b⟩=>exact⟨_, .inr ⟨xs,a,rfl⟩,b⟩
inductive YV (X:Cx) (b:kW):Prop where
 | fn (id:String) (hv:bootBuiltins b.nm=some (.builtin id)) (hc:cE X (.builtin id) (oZ X.K b))
 | ty (T:String) (hv:bootBuiltins b.nm=some (.type T)) (hc:cE X (.type T) (oZ X.K b))
theorem boot_min:bootBuiltins "min"=some (.builtin "min"):=by decide+kernel
theorem boot_max:bootBuiltins "max"=some (.builtin "max"):=by decide+kernel
theorem boot_abs:bootBuiltins "abs"=some (.builtin "abs"):=by decide+kernel
theorem boot_sum:bootBuiltins "sum"=some (.builtin "sum"):=by decide+kernel
theorem MS:bootBuiltins "isinstance"=some (.builtin "isinstance"):=by decide+kernel
theorem YW:bootBuiltins "int"=some (.type "int"):=by decide+kernel
theorem YX:bootBuiltins "list"=some (.type "list"):=by decide+kernel
theorem YY:bootBuiltins "tuple"=some (.type "tuple"):=by decide+kernel
theorem Cm(f:Nat→Int)(lt:Nat→Nat→Bool)(h: ∀i j,lt i j=decide (f i<f j)): ∀n,argBest lt n≤n∧ ∀i,i≤n→f (argBest lt n)≤f i
 | 0=> ⟨Nat.le_refl _,fun i hi=>by
   obtain rfl:i=0:=by omega
   exact Int.le_refl _⟩
 | n+1=>by
  obtain⟨a,b⟩:=Cm f lt h n
  have e:argBest lt (n+1)=if lt (n+1) (argBest lt n)=true then n+1 else argBest lt n:=rfl
  rw[e,h]
  split
  ·rename_i q
   have q:=of_decide_eq_true q
   refine⟨Nat.le_refl _,fun i hi=> ?_⟩
   by_cases z:i=n+1
   ·rw[z];exact Int.le_refl _
   ·have:=b i (by omega);omega
  ·rename_i q
   have q: ¬f (n+1) <f (argBest lt n):=fun z=>q (decide_eq_true z)
   refine⟨by omega,fun i hi=> ?_⟩
   by_cases z:i=n+1
   ·rw[z];omega
   ·exact b i (by omega)
theorem MT{xs:Array (Int×Tok)}{i:Nat}(h:i<xs.size):numAt xs i=xs[i].1:=by
 unfold numAt
 rw[Array.getElem?_eq_getElem h];rfl
theorem MU{xs:Array (Int×Tok)}{i:Nat}(h:i<xs.size):numAt xs i∈xs.toList.map (·.1):=by
 rw[MT h]
 exact List.mem_map.mpr ⟨xs[i],by simp,rfl⟩
theorem MV{xs:Array (Int×Tok)}{n:Int}(h:n∈xs.toList.map (·.1)): ∃i,i<xs.size∧n=numAt xs i:=by
 obtain⟨y,hy,rfl⟩:=List.mem_map.mp h
 obtain⟨i,hi,rfl⟩:=List.getElem_of_mem hy
 have dX:i<xs.size:=by simpa using hi
 exact⟨i,dX,by rw[MT dX];simp⟩
theorem MW{pins:List (Addr×Obj)}{σ:St}{H:Hp}{s:Shared}{p:Addr}{ns:List Int}(I:Inv X pins σ H s)(hq:ao X.K H p (ns.map V.int)): ∃xs:Array (Int×Tok),s.heap.IsList p (intItems xs)∧ns=xs.toList.map (·.1):=by
 obtain⟨its,rv,pl,hz⟩:=I.list hq
 have hi:=intsAre_of rv
 obtain⟨xs,hx⟩:=hi.allInts.items
 refine⟨xs,hx ▸ pl.isList, ?_⟩
 rw[←nums_intItems,←hx]
 exact(show numsOf its.toArray.toList=ns from hi.numsOf).symm
theorem YZ(hc:X.calm=true):cE X (.builtin "min") (fun xs H Q=> ∃(p:Addr) (ns:List Int),xs=[.ref p]∧ao X.K H p (ns.map V.int)∧ns≠ []∧ ∀m:Int,m∈ns→(∀n∈ns,m≤n)→Q (.int m) H):=by
 intro pins s σ H xs us Q I r h
 obtain⟨p,ns,rfl,hq,bx,q⟩:=h
 obtain⟨u,rfl,ru⟩:=vals1 r
 cases ru
 obtain⟨xs,hl,rfl⟩:=MW I hq
 have sz:0<xs.size:=Nat.pos_of_ne_zero fun z=>bx (by rw[Array.eq_empty_of_size_eq_zero z];rfl)
 refine min_intList (I.ok.hd hc) hl sz fun v h' tk hv hk=> ?_
 obtain⟨t,rfl⟩:=intItems_at hv
 obtain⟨b1,b2⟩:=Cm (numAt xs) (fun i j=>decide (numAt xs i<numAt xs j)) (fun _ _=>rfl) (xs.size - 1)
 refine⟨.int _,H,I.kept (t':=tk) hk,⟨t,rfl⟩,q _ (MU (by omega)) fun n hn=> ?_⟩
 obtain⟨i,hi,rfl⟩:=MV hn
 exact b2 i (by omega)
theorem Y0(hc:X.calm=true):cE X (.builtin "max") (fun xs H Q=> ∃(p:Addr) (ns:List Int),xs=[.ref p]∧ao X.K H p (ns.map V.int)∧ns≠ []∧ ∀m:Int,m∈ns→(∀n∈ns,n≤m)→Q (.int m) H):=by
 intro pins s σ H xs us Q I r h
 obtain⟨p,ns,rfl,hq,bx,q⟩:=h
 obtain⟨u,rfl,ru⟩:=vals1 r
 cases ru
 obtain⟨xs,hl,rfl⟩:=MW I hq
 have sz:0<xs.size:=Nat.pos_of_ne_zero fun z=>bx (by rw[Array.eq_empty_of_size_eq_zero z];rfl)
 refine max_intList (I.ok.hd hc) hl sz fun v h' tk hv hk=> ?_
 obtain⟨t,rfl⟩:=intItems_at hv
 obtain⟨b1,b2⟩:=Cm (fun i=> - numAt xs i) (fun i j=>decide (numAt xs i>numAt xs j)) (fun i j=>decide_eq_decide.mpr (by omega)) (xs.size - 1)
 refine⟨.int _,H,I.kept (t':=tk) hk,⟨t,rfl⟩,q _ (MU (by omega)) fun n hn=> ?_⟩
 obtain⟨i,hi,rfl⟩:=MV hn
 have:=b2 i (by omega)
 omega
theorem MX{x:Str}{acc:Array Value}(h:ItemsOf (SignAt x) acc x.cps.size):Vals (signs x) acc.toList:=by
 have go: ∀(l:List Nat) (us:List Value),us.length=l.length→(∀(j:Nat) (v:Value),us[j]?=some v→ ∃(c:Nat) (t:Tok),l[j]?=some c∧v=Value.str ⟨#[c]⟩ t)→Vals (l.map fun c=>V.str ⟨#[c]⟩) us:=by
  intro l
  induction l with
  | nil=>
   intro us hl _
   rw[List.length_eq_zero_iff.mp hl]
   exact .nil
  | cons c l ih=>
   intro us hl hv
   cases us with
   | nil=>cases hl
   | cons u us=>
    obtain⟨c',t,e1,e2⟩:=hv 0 u rfl
    have oP:c=c':=by simpa using e1
    subst oP
    exact .cons ⟨t,e2⟩ (ih us (by simpa using hl) fun j v hj=>by
     obtain⟨c2,t2,g1,g2⟩:=hv (j+1) v (by simpa using hj)
     exact⟨c2,t2,by simpa using g1,g2⟩)
 refine go x.cps.toList acc.toList ?_ fun j v hj=> ?_
 ·have:=h.1;simpa using this
 ·obtain⟨c,t,e1,e2⟩:=h.2 j v (by simpa using hj)
  exact⟨c,t,by simpa using e1,e2⟩
theorem MY(x:Str):(signs x).length=x.length:=by simp[signs,Str.length]
theorem Y1(hc:X.calm=true):cE X (.type "list") (fun xs H Q=> ∃x,xs=[.str x]∧x.length≤sizeLine∧ ∀l,H l=none→Q (.ref l) (upd H l (.lst (signs x)))):=by
 intro pins s σ H xs us Q I r h
 obtain⟨x,rfl,hx,q⟩:=h
 obtain⟨u,rfl,t,rfl⟩:=vals1 r
 refine call_list_str (I.ok.hd hc) x t (fun h' tk Bs c' hk e jk=> ?_) hx
 have rv:=MX jk
 exact⟨.ref s.heap.objs.size,_,I.laid (t':=tk) hk (Nat.le_refl _) (show cx X.prog X.w _ h' _ (.lst (signs x)) from⟨by rw[MY];exact hx,Bs.toList,c',rv,by simpa using e⟩),rfl,q _ (I.aB.fresh (Nat.le_refl _))⟩
theorem Y2(hc:X.calm=true):cE X (.type "tuple") (fun xs H Q=> ∃x,xs=[.str x]∧x.length≤sizeLine∧ ∀l,H l=none→Q (.ref l) (upd H l (.tup (signs x)))):=by
 intro pins s σ H xs us Q I r h
 obtain⟨x,rfl,hx,q⟩:=h
 obtain⟨u,rfl,t,rfl⟩:=vals1 r
 refine call_tuple_str (I.ok.hd hc) x t (fun h' tk acc hk jk=> ?_) hx
 have rv:=MX jk
 have I1:Inv X pins σ H {s with heap:=h',toks:=tk}:=I.kept (t':=tk) hk
 have I2:Inv X pins σ (upd H h'.objs.size (.tup (signs x))) {s with heap:=h'.push {cls:= .type "tuple",data:= .seq acc},toks:=tk}:=
  I1.laid (t':=tk) (fun b o e=>Heap.get?_push_of_some _ e) (Nat.le_refl _) (show cx X.prog X.w _ _ _ (.tup (signs x)) from⟨by rw[MY];exact hx,acc.toList,rv,by simpa using IsTup.new _ _⟩)
 exact⟨.ref h'.objs.size,_,I2,rfl,q _ (I1.aB.fresh (Nat.le_refl _))⟩
theorem Y3{pos:Pos}:PE X (.Dict [] [] pos) Mv:=fun pins s σ H Q I h=>by
 have big:sysModules<s.heap.objs.size:=Nat.lt_trans (by decide) (I.mod.glob.keeps I.bk).lt
 have ok:cx X.prog X.w (upd H s.heap.objs.size (.dK [])) (s.heap.push {cls:= .type "dict",data:= .dict #[]}) s.heap.objs.size (.dK []):=
  ⟨Nat.zero_le _,beq_eq_false_iff_ne.mpr (Ne.symm (Nat.ne_of_lt big)),[], .nil,Heap.DictOf.new s.heap⟩
 exact wpAny_Dict_empty ⟨.ref s.heap.objs.size,_,I.laid (t':=s.toks) (fun _ _ q=>Heap.get?_push_of_some _ q) (Nat.le_refl _) ok,rfl,h _ (I.aB.fresh (Nat.le_refl _))⟩
theorem Y4(hc:X.calm=true)(b:kW):YV X b:=by
 cases b with
 | len=>exact .fn "len" boot_len (cE.imp UI fun xs H Q h=>by
   match xs,h with
   | [x],h=>obtain⟨n,h1,h2⟩:=YU (Q:=fun n=>Q (.int n) H) h;exact⟨x,n,rfl,h1,h2⟩)
 | min=>exact .fn "min" boot_min (cE.imp ((UG hc).or (YZ hc)) fun xs H Q h=>by
   match xs,h with
   | [.int i, .int j],h=>exact .inl ⟨i,j,rfl,h⟩
   | [.ref p],⟨ns,h1,h2,h3⟩=>exact .inr ⟨p,ns,rfl,h1,h2,h3⟩)
 | max=>exact .fn "max" boot_max (cE.imp ((UE hc).or (Y0 hc)) fun xs H Q h=>by
   match xs,h with
   | [.int i, .int j],h=>exact .inl ⟨i,j,rfl,h⟩
   | [.ref p],⟨ns,h1,h2,h3⟩=>exact .inr ⟨p,ns,rfl,h1,h2,h3⟩)
 | sum=>exact .fn "sum" boot_sum (cE.imp (Xq hc) fun xs H Q h=>by
   match xs,h with
   | [.ref p],⟨ns,h1,h2⟩=>exact⟨p,ns,rfl,h1,h2⟩)
 | abs=>exact .fn "abs" boot_abs (cE.imp UD fun xs H Q h=>by
   match xs,h with
   | [.int i],h=>exact⟨i,rfl,h⟩)
 | int=>exact .ty "int" YW (cE.imp UH fun xs H Q h=>YT h)
 | list=>exact .ty "list" YX (cE.imp (Vx.or (Y1 hc)) fun xs H Q h=>by
   match xs,h with
   | [.ref p],⟨ys,h1,h2⟩=>exact .inl ⟨p,ys,rfl,h1,h2⟩
   | [.str x],⟨h1,h2⟩=>exact .inr ⟨x,rfl,h1,h2⟩)
 | tuple=>exact .ty "tuple" YY (cE.imp (Vy.or (Y2 hc)) fun xs H Q h=>by
   match xs,h with
   | [.ref p],⟨ys,h1⟩=>exact .inl ⟨p,ys,rfl,h1⟩
   | [.str x],⟨h1,h2⟩=>exact .inr ⟨x,rfl,h1,h2⟩)
structure Y5 (X:Cx) (m:hJ) (id:String):Prop where
 pa:PlainAttrs (yw m)
 slot:Slot (yw m) m.nm id
 ty:typeOf (.builtin id)=pure (.type "method_descriptor")
 mt:kO X id (uY X.K m)
theorem Y6{P:Program}{w:World}{k:Key}{u:Value}(r:RelV (kV k) u):(dQ P w).is k u=true:=by
 cases k with
 | inl i=>obtain⟨t,e⟩:=(show ∃t,u=Value.int i t from r);subst e;exact J8 P w i t
 | inr x=>obtain⟨t,e⟩:=(show ∃t,u=Value.str x t from r);subst e;exact J9 P w x t
theorem Y7{ah:List (Key×V)}{vs:List (Key×Value)}(r:KV ah vs)(k:Key){v:V}(h:o5 ah k=some v): ∃u,valueAt vs k=some u∧RelV v u:=by
 unfold KV at r
 induction r with
 | nil=>cases h
 | @cons p q ps qs hh t ih=>
  obtain⟨h1,h2⟩:=hh
  by_cases e:p.1=k
  ·have e':q.1=k:=h1.symm.trans e
   have b:valueAt (q::qs) k=some q.2:=by simp[valueAt,List.find?_cons,e']
   have a:o5 (p::ps) k=some p.2:=by simp[o5,List.find?_cons,e]
   rw[a] at h
   cases h
   exact⟨_,b,h2⟩
  ·have e': ¬q.1=k:=fun z=>e (h1.trans z)
   have b:valueAt (q::qs) k=valueAt qs k:=by simp[valueAt,List.find?_cons,e']
   have a:o5 (p::ps) k=o5 ps k:=by simp[o5,List.find?_cons,e]
   rw[a] at h
   rw[b]
   exact ih h
theorem Y8{sd:Addr→List (Key×V)→Prop}(Cn: ∀p ah,sd p ah→ ∀h:Heap,X.K.In h→ ∃vs,KV ah vs∧h.DictOf (dQ X.prog X.w) p vs):jL X (Mw sd):=by
 intro value slice pins s σ H x y v u Q I rx ry h hs
 obtain⟨p,ah,k,z,rfl,rfl,hq,he,q⟩:=h
 cases rx
 obtain⟨vs,r,dd⟩:=Cn p ah hq s.heap I.cT
 obtain⟨w,ew,gd⟩:=Y7 r k he
 exact subscriptTail_builtinR (x:=w) dd.mapOf.typeIs PySem.F.slot_dict_getitem.lookup
  (wpAny_getItem_of (Q:=fun r s'=>r=w∧EP X pins σ Q r s') (Y6 ry) dd.mapOf ew ⟨rfl,z,H,I.tok _,gd,q⟩) hs
theorem Y9{sd:Addr→List (Key×V)→Prop}(Cn: ∀p ah,sd p ah→ ∀h:Heap,X.K.In h→ ∃vs,KV ah vs∧h.DictOf (dQ X.prog X.w) p vs):jL X (o6 X.K sd):=Vm.or (Vn.or (Vo.or (Y8 Cn)))
theorem yM(y:Str): ∀{ts:List Str} {us:List Value},Vals (ts.map V.str) us→ ∀(j:Nat) (h1:j<us.length) (h2:j<ts.length),(Value.isStrOf y us[j]=(ts[j]==y))
 | [],_, .nil,j,h1,_=>absurd h1 (Nat.not_lt_zero _)
 | t::ts,_, .cons r rs,0,_,_=>by
  obtain⟨k,rfl⟩:=(show ∃k,_=Value.str t k from r)
  rfl
 | t::ts,_, .cons r rs,j+1,h1,h2=>yM y rs j (Nat.lt_of_succ_lt_succ h1) (Nat.lt_of_succ_lt_succ h2)
theorem MZ{y:Str}: ∀{ts:List Str} {j:Nat},j<ts.idxOf y→ ∀(h2:j<ts.length),(ts[j]==y)=false
 | n::r,0,h,_=>by
  by_cases e:n=y
  ·subst e;simp at h
  ·simpa using e
 | n::r,j+1,h,h2=>by
  by_cases e:n=y
  ·subst e;simp at h
  ·have hb:(n==y)=false:=by simpa using e
   have h':j<r.idxOf y:=by
    rw[List.idxOf_cons,hb] at h
    exact Nat.lt_of_succ_lt_succ h
   exact MZ h' (Nat.lt_of_succ_lt_succ h2)
theorem Y_:kO X "list.index" (fun x vs H Q=> ∃(l:Addr) (y:Str) (ts:List Str),x= .ref l∧vs=[.str y]∧ao X.K H l (ts.map V.str)∧y∈ts∧Q (.int (ts.idxOf y:Nat)) H):=by
 intro pins s σ H x vs v us Q I rx rv h
 obtain⟨l,y,ts,rfl,rfl,hq,hy,q⟩:=h
 cases rx
 obtain⟨u,rfl,⟨t,rfl⟩⟩:=vals1 rv
 obtain⟨its,r,⟨⟨cls,dd,data,sl⟩,n,ho,hc,vp,hd⟩,hz⟩:=I.list hq
 simp only at hc hd
 subst hc hd
 have hlen:=r.length
 rw[List.length_map] at hlen hz
 have hj:ts.idxOf y<ts.length:=List.idxOf_lt_length_iff.mpr hy
 have hn:=mP
 refine call_meets PySem.F.slot_list_index ⟨_,ho,rfl⟩ PySem.F.entry_list_index (PySem.F.args_list_index_2 _ _)
  (PySem.SeqAt.list_indexAt l its.toArray n dd sl (.str y t) (Value.isStrOf y) (ts.idxOf y) (by simp;omega) (by omega) ?_ ?_) ⟨ho,fun z hZ=> ?_,⟨.int _,H,I.tok _,⟨_,rfl⟩,q⟩⟩
 ·show Value.isStrOf y its[ts.idxOf y]=true
  rw[yM y r _ (by omega) hj]
  simpa using List.getElem_idxOf hj
 ·intro j Co aP
  show Value.isStrOf y its[j]=false
  rw[yM y r j (by simpa using Co) (by omega)]
  exact MZ aP _
 ·have hm:z∈its:=by simpa using hZ
  obtain⟨j,yN,rfl⟩:=List.getElem_of_mem hm
  have M0:j<ts.length:=by omega
  have e:=yM y r j yN M0
  obtain⟨k,ek⟩:=(r.get (i:=j) (x:= .str ts[j]) (by simp[M0]))
  obtain⟨Za,k2,Zb⟩:=ek
  have Zc:its[j]= .str ts[j] k2:=by
   have:=List.getElem?_eq_getElem yN
   rw[Za] at this
   exact(Option.some.inj this).symm.trans Zb
  rw[e,Zc]
  exact PySem.SeqAt.EqAt.str_str _ _ _ _
theorem M1{x:V}: ∀{xs:List V} {us:List Value},Vals xs us→xs.all eG=true→us.countP (dW x)=xs.countP fun y=>eS y x
 | _,_, .nil,_=>rfl
 | y::xs,u::us, .cons r t,f=>by
  rw[List.all_cons,Bool.and_eq_true] at f
  rw[List.countP_cons,List.countP_cons,ya r f.1,M1 t f.2]
theorem Zd:kO X "list.count" (fun x vs H Q=> ∃(l:Addr) (y:V) (xs:List V),x= .ref l∧vs=[y]∧ao X.K H l xs∧eG y=true∧xs.all eG=true∧Q (.int (xs.countP (fun z=>eS z y):Nat)) H):=by
 intro pins s σ H x vs v us Q I rx rv h
 obtain⟨l,y,xs,rfl,rfl,hq,fy,fs,q⟩:=h
 cases rx
 obtain⟨u,rfl,ru⟩:=vals1 rv
 obtain⟨its,r,⟨⟨cls,dd,data,sl⟩,n,ho,hc,vp,hd⟩,hz⟩:=I.list hq
 simp only at hc hd
 subst hc hd
 rw[←M1 r fs] at q
 exact call_meets PySem.F.slot_list_count ⟨_,ho,rfl⟩ PySem.F.entry_list_count (PySem.F.args_list_count_2 _ _)
  (PySem.SeqAt.list_countAt l its.toArray n dd sl u (dW y)) ⟨ho,fun z hZ=>oJ ru fy r fs z (by simpa using hZ),⟨.int _,H,I.tok _,⟨_,rfl⟩,q⟩⟩
theorem Ze:kO X "list.index" (fun x vs H Q=> ∃(l:Addr) (y:V) (xs:List V),x= .ref l∧vs=[y]∧ao X.K H l xs∧eG y=true∧xs.all eG=true∧gf y xs=true∧Q (.int (xs.findIdx (fun z=>eS z y):Nat)) H):=by
 intro pins s σ H x vs v us Q I rx rv h
 obtain⟨l,y,xs,rfl,rfl,hq,fy,fs,o9,q⟩:=h
 cases rx
 obtain⟨u,rfl,ru⟩:=vals1 rv
 obtain⟨its,r,⟨⟨cls,dd,data,sl⟩,n,ho,hc,vp,hd⟩,hz⟩:=I.list hq
 simp only at hc hd
 subst hc hd
 have hlen:=r.length
 have e: ∀j (h1:j<its.length) (h2:j<xs.length),dW y its[j]=eS xs[j] y:=fun j h1 h2=>by
  obtain⟨w,e1,r1⟩:=r.get (i:=j) (x:=xs[j]) (by simp[h2])
  have e2:=List.getElem?_eq_getElem h1
  rw[e1] at e2
  rw[←Option.some.inj e2]
  exact ya r1 (List.all_eq_true.mp fs _ (List.getElem_mem h2))
 have hj:xs.findIdx (fun z=>eS z y) <xs.length:=List.findIdx_lt_length.mpr (List.any_eq_true.mp o9)
 have hn:=mP
 refine call_meets PySem.F.slot_list_index ⟨_,ho,rfl⟩ PySem.F.entry_list_index (PySem.F.args_list_index_2 _ _)
  (PySem.SeqAt.list_indexAt l its.toArray n dd sl u (dW y) (xs.findIdx fun z=>eS z y) (by simp;omega) (by omega) ?_ ?_) ⟨ho,fun z hZ=>oJ ru fy r fs z (by simpa using hZ),⟨.int _,H,I.tok _,⟨_,rfl⟩,q⟩⟩
 ·show dW y its[xs.findIdx fun z=>eS z y]=true
  rw[e _ (by omega) hj]
  exact List.findIdx_getElem (w:=hj)
 ·intro j Co aP
  show dW y its[j]=false
  rw[e j (by simpa using Co) (by omega)]
  simpa using List.not_of_lt_findIdx aP
theorem M3(m:hJ): ∃id,Y5 X m id:=by
 cases m with
 | append=>exact⟨_,F.plainAttrs_list,F.slot_list_append,F.type_list_append,fun pins s σ H x xs v us Q I rx rv h=>by
   match x,xs,h with
   | .ref l,[y],⟨zs,h1,h2,h3⟩=>exact VH pins s σ H _ _ v us Q I rx rv ⟨l,zs,y,rfl,rfl,h1,h2,h3⟩⟩
 | pop=>exact⟨_,F.plainAttrs_list,F.slot_list_pop,F.type_list_pop,fun pins s σ H x xs v us Q I rx rv h=>by
   match x,xs,h with
   | .ref l,[],⟨zs,y,h1,h2,h3⟩=>exact VM pins s σ H _ _ v us Q I rx rv ⟨l,zs,y,rfl,rfl,h1,h2,h3⟩⟩
 | extend=>exact⟨_,F.plainAttrs_list,F.slot_list_extend,F.type_list_extend,fun pins s σ H x xs v us Q I rx rv h=>by
   match x,xs,h with
   | .ref l,[.ref b],⟨ys,zs,h1,h2,h3,h4⟩=>exact VJ pins s σ H _ _ v us Q I rx rv ⟨l,b,ys,zs,rfl,rfl,h1,h2,h3,h4⟩⟩
 | join=>exact⟨_,F.plainAttrs_str,F.slot_str_join,F.type_str_join,fun pins s σ H x xs v us Q I rx rv h=>by
   match x,xs,h with
   | .str z,[.ref p],⟨ts,h1,h2,h3⟩=>exact Xr pins s σ H _ _ v us Q I rx rv ⟨z,p,ts,rfl,rfl,h1,h2,h3⟩⟩
 | lstrip=>exact⟨_,F.plainAttrs_str,F.slot_str_lstrip,F.type_str_lstrip,fun pins s σ H x xs v us Q I rx rv h=>by
   match x,xs,h with
   | .str z,[.str y],⟨h1,h2⟩=>exact Xt pins s σ H _ _ v us Q I rx rv ⟨z,y,rfl,rfl,h1,h2⟩⟩
 | starts=>exact⟨_,F.plainAttrs_str,F.slot_str_startswith,F.type_str_startswith,fun pins s σ H x xs v us Q I rx rv h=>by
   match x,xs,h with
   | .str z,[.str y, .int i],h1=>exact Xv pins s σ H _ _ v us Q I rx rv ⟨z,y,i,rfl,rfl,h1⟩⟩
 | find=>exact⟨_,F.plainAttrs_str,F.slot_str_find,F.type_str_find,fun pins s σ H x xs v us Q I rx rv h=>by
   match x,xs,h with
   | .str z,[.str y],h1=>
    obtain⟨t,rfl⟩:=rx
    obtain⟨u,rfl,⟨t2,rfl⟩⟩:=vals1 rv
    exact call_gives F.slot_str_find (typeIs_str _ _ _) F.entry_str_find (F.args_str_find_2 _ _) (gives_str_find z y t t2) ⟨.int _,H,I.tok _,⟨_,rfl⟩,h1⟩
   | .str z,[.str y, .int i],h1=>
    obtain⟨t,rfl⟩:=rx
    obtain⟨u,w',rfl,⟨t2,rfl⟩,⟨t3,rfl⟩⟩:=vals2 rv
    exact call_gives F.slot_str_find (typeIs_str _ _ _) F.entry_str_find (F.args_str_find_3 _ _ _) (gives_str_find_from z y i t t2 t3) ⟨.int _,H,I.tok _,⟨_,rfl⟩,h1⟩⟩
 | count=>exact⟨_,F.plainAttrs_str,F.slot_str_count,F.type_str_count,fun pins s σ H x xs v us Q I rx rv h=>by
   match x,xs,h with
   | .str z,[.str y],h1=>
    obtain⟨t,rfl⟩:=rx
    obtain⟨u,rfl,⟨t2,rfl⟩⟩:=vals1 rv
    exact call_gives F.slot_str_count (typeIs_str _ _ _) F.entry_str_count (F.args_str_count_2 _ _) (gives_str_count z y t t2) ⟨.int _,H,I.tok _,⟨_,rfl⟩,h1⟩⟩
 | reverse=>exact⟨_,F.plainAttrs_list,F.slot_list_reverse,F.type_list_reverse,fun pins s σ H x xs v us Q I rx rv h=>by
   match x,xs,h with
   | .ref l,[],⟨zs,h1,h2⟩=>exact VO pins s σ H _ _ v us Q I rx rv ⟨l,zs,rfl,rfl,h1,h2⟩⟩
 | index=>exact⟨_,F.plainAttrs_list,F.slot_list_index,F.type_list_index,fun pins s σ H x xs v us Q I rx rv h=>by
   match x,xs,h with
   | .ref l,[.str y],⟨ts,h1,h2,h3⟩=>exact Y_ pins s σ H _ _ v us Q I rx rv ⟨l,y,ts,rfl,rfl,h1,h2,h3⟩⟩
 | BH=>exact⟨_,F.plainAttrs_list,F.slot_list_count,F.type_list_count,fun pins s σ H x xs v us Q I rx rv h=>by
   match x,xs,h with
   | .ref l,[y],⟨zs,h1,h2,h3,h4⟩=>exact Zd pins s σ H _ _ v us Q I rx rv ⟨l,y,zs,rfl,rfl,h1,h2,h3,h4⟩⟩
 | BI=>exact⟨_,F.plainAttrs_list,F.slot_list_index,F.type_list_index,fun pins s σ H x xs v us Q I rx rv h=>by
   match x,xs,h with
   | .ref l,[y],⟨zs,h1,h2,h3,h4,h5⟩=>exact Ze pins s σ H _ _ v us Q I rx rv ⟨l,y,zs,rfl,rfl,h1,h2,h3,h4,h5⟩⟩
 | clear=>exact⟨_,F.plainAttrs_list,F.slot_list_clear,F.type_list_clear,fun pins s σ H x xs v us Q I rx rv h=>by
   match x,xs,h with
   | .ref l,[],⟨zs,h1,h2⟩=>exact VQ pins s σ H _ _ v us Q I rx rv ⟨l,zs,rfl,rfl,h1,h2⟩⟩
theorem Zf{pins:List (Addr×Obj)}{σ:St}{H:Hp}{s:Shared}{T:Ty}{x:V}{u:Value}{Qb:Bool→Prop}{Q:Value→Shared→Prop}{E:Value→Shared→Prop}(I:Inv X pins σ H s)(rx:RelV x u)(h:bZ T x H Qb)
  (hq: ∀b tk,Qb b→Q (.bool b) {s with toks:=tk}):wpAny (model X.prog X.w) X.A (call (.builtin "isinstance") [u, .type T.nm]) Q E s:=by
 match x,rx,h with
 | .aw,rx,h=>exact ky I rx (.aw) (Xp _ T) fun tk=>hq _ _ h
 | .bl b,rx,h=>exact ky I rx (.bl b) (mW X.K .bool T) fun tk=>hq _ _ (by cases T<;>exact h)
 | .int i,rx,h=>exact ky I rx (.int i) (mW X.K .int T) fun tk=>hq _ _ (by cases T<;>exact h)
 | .str i,rx,h=>exact ky I rx (.str i) (mW X.K .str T) fun tk=>hq _ _ (by cases T<;>exact h)
 | .ref a,rx,h=>
  cases e:H a with
  | none=>simp only[bZ,e] at h
  | some o=>
   match o,e with
   | .lst xs,e=>simp only[bZ,e] at h;exact ky I rx (.lst e) (mW X.K .list T) fun tk=>hq _ _ (by cases T<;>exact h)
   | .bL ob (.lst xs),e=>simp only[bZ,e] at h;exact ky I rx (.bL e) (mW X.K .list T) fun tk=>hq _ _ (by cases T<;>exact h)
   | .tup xs,e=>simp only[bZ,e] at h;exact ky I rx (.tup e) (mW X.K .tuple T) fun tk=>hq _ _ (by cases T<;>exact h)
   | .dK xs,e=>simp only[bZ,e] at h;exact ky I rx (.dK e) (mW X.K .dict T) fun tk=>hq _ _ (by cases T<;>exact h)
   | .dT xs,e=>simp only[bZ,e] at h;exact ky I rx (.dT e) (mW X.K .dict T) fun tk=>hq _ _ (by cases T<;>exact h)
   | .set _ _,e=>simp only[bZ,e] at h
   | .ins _ _ _,e=>simp only[bZ,e] at h
   | .own _,e=>simp only[bZ,e] at h
   | .xd _,e=>simp only[bZ,e] at h
   | .met _ _,e=>simp only[bZ,e] at h
   | .eO _ _,e=>simp only[bZ,e] at h
   | .jG _,e=>simp only[bZ,e] at h
   | .ext _,e=>simp only[bZ,e] at h
   | .bL ob (.tup xs),e=>simp only[bZ,e] at h
   | .bL ob (.dK xs),e=>simp only[bZ,e] at h
   | .bL ob (.dT xs),e=>simp only[bZ,e] at h
   | .bL ob (.set _ _),e=>simp only[bZ,e] at h
   | .bL ob (.ins _ _ _),e=>simp only[bZ,e] at h
   | .bL ob (.own _),e=>simp only[bZ,e] at h
   | .bL ob (.xd _),e=>simp only[bZ,e] at h
   | .bL ob (.met _ _),e=>simp only[bZ,e] at h
   | .bL ob (.eO _ _),e=>simp only[bZ,e] at h
   | .bL ob (.jG _),e=>simp only[bZ,e] at h
   | .bL ob (.ext _),e=>simp only[bZ,e] at h
   | .bL ob (.bL _ _),e=>simp only[bZ,e] at h
theorem Zg(T:Ty):bootBuiltins (Str.ofString T.nm)=some (.type T.nm):=by cases T<;>decide+kernel
theorem Zh(T:Ty):cE X (.builtin "isinstance") (m3 T):=by
 intro pins s σ H xs us Q I r h
 match xs,r,h with
 | [x, .ty n],r,⟨e,h⟩=>
  subst e
  obtain⟨u,w',rfl,ru,gd⟩:=vals2 r
  cases gd
  exact Zf I ru h fun b tk hb=> ⟨.bl b,H,I.tok tk,rfl,hb⟩
theorem Zi{T:Ty}{a:Expr}{ta:TE}{p q pos:Pos}(ha:PE X a ta)(hs:noStar a=true)(hg:Gl X "isinstance")(hm:X.mg "isinstance"=none)(Zj:Gl X (Str.ofString T.nm))(Zk:X.mg (Str.ofString T.nm)=none):
  PE X (.Call (.Name "isinstance" p) [a, .Name (Str.ofString T.nm) q] [] pos) (jb (m3 T) (dt ta (dt (tC (.ty T.nm)) f_))):=by
 have hT:PE X (.Name (Str.ofString T.nm) q) (tC (.ty T.nm)):=Kk Zj Zk (Zg T) rfl (by cases T<;>decide) (by cases T<;>decide)
 exact A9 (Zh T) hg hm MS (kz ha (kz hT rS rfl) (dI hs)) (by decide) (by decide) (dI hs) rfl
end
section
variable {X:Cx}
theorem Zl:x_ X (BM X.K):=by
 intro pins s σ H x v vl vu lo hi sl Q I rx hs pl pu h
 match x,rx,h with
 | .ref a,rx, .inl ⟨xs,h1,h2⟩=>exact Vt pins s σ H _ v vl vu lo hi sl Q I rx hs pl pu ⟨a,xs,rfl,h1,h2⟩
 | .ref a,rx, .inr ⟨xs,h1,h2,h3⟩=>exact Vi pins s σ H _ v vl vu lo hi sl Q I rx hs pl pu ⟨a,xs,rfl,h1,h2,h3⟩
 | .str z,rx,⟨h1,h2⟩=>
  obtain⟨t,rfl⟩:=rx
  obtain⟨l,el,ml⟩: ∃l:Option (Int×Tok),vl=partValue l∧l.map (·.1)=lo:=by
   cases pl with
   | none=>exact⟨none,rfl,rfl⟩
   | int i t=>exact⟨some (i,t),rfl,rfl⟩
  obtain⟨u,eu,mu⟩: ∃u:Option (Int×Tok),vu=partValue u∧u.map (·.1)=hi:=by
   cases pu with
   | none=>exact⟨none,rfl,rfl⟩
   | int i t=>exact⟨some (i,t),rfl,rfl⟩
  subst el eu
  refine⟨"str",_,F.slot_str_getitem.lookup,typeIs_str _ _ _, ?_⟩
  refine wpAny_getItem_str_slice (l:=l) (u:=u) (st:=none) hs rfl ?_
  obtain⟨b1,b2,b3⟩:=Be lo hi z.length
  have hp:slicePicked z l u none=(List.range (HT.bh z.length z.length hi - HT.bh z.length 0 lo)).map (HT.bh z.length 0 lo+ ·):=by
   show Builtin.Str.strSliceIndices (l.map (·.1)) (u.map (·.1)) 1 z.length=_
   rw[ml,mu]
   have e0:Builtin.Str.strSliceIndices lo hi 1 z.length=sliceRange (sliceBounds lo hi none z.length).1 (sliceBounds lo hi none z.length).2.1 (sliceBounds lo hi none z.length).2.2:=rfl
   rw[e0,b1,b2,b3,sliceRange_one]
  have hc:((slicePicked z l u none).filterMap (z.cps[·]?))=kT z.cps.toList lo hi:=by
   show(Builtin.Str.strSliceIndices (l.map (·.1)) (u.map (·.1)) 1 z.length).filterMap (z.cps[·]?)=_
   rw[ml,mu,Xw]
  have hz:z.cps.toList.length=z.length:=by simp[Str.length]
  have hA:=HT.A_ z.length 0 (Nat.zero_le _) lo
  have hB:=HT.A_ z.length z.length (Nat.le_refl _) hi
  unfold sliceMade
  refine post_val_or_made (fun _=> ?_) fun t' k=> ?_
  ·show(List.toArray ((slicePicked z l u none).filterMap (z.cps[·]?))).size≤sizeLine
   rw[hc,List.size_toArray]
   have:(kT z.cps.toList lo hi).length≤z.cps.toList.length:=by unfold kT;simp only[List.length_take,List.length_drop];omega
   omega
  ·have e:(if (((none:Option (Int×Tok)).map (·.1)).getD 1==1 && (slicePicked z l u none).length==z.length)=true then z else ⟨((slicePicked z l u none).filterMap (z.cps[·]?)).toArray⟩)=kU z lo hi:=by
    split
    ·rename_i hq
     simp only[Bool.and_eq_true,beq_iff_eq] at hq
     have Zm:=hq.2
     rw[hp,List.length_map,List.length_range] at Zm
     have a0:HT.bh z.length 0 lo=0:=by omega
     have b0:HT.bh z.length z.length hi=z.length:=by omega
     unfold kU kT
     rw[hz,a0,b0,←hz,Nat.sub_zero,List.drop_zero,List.take_length]
    ·rw[hc];rfl
   rw[e]
   exact⟨.str _,H,I.tok k,⟨t',rfl⟩,h2⟩
theorem Zn:xQ X (unaryOp .USub) Mu:=by
 intro pins s σ H x v Q I rx h
 match x,rx,h with
 | .int i,rx,h=>exact Um pins s σ H _ v Q I rx ⟨i,rfl,h⟩
theorem Zo{a:Expr}{ta:TE}{pos:Pos}(ha:PE X a ta):PE X (.UnaryOp .Not a pos) (BL X.K ta):=by
 intro pins s σ H Q I h
 refine UnaryOp_ (aN (ha pins s σ H _ I h) fun v s1 ⟨x,H1,I1,r1,q1⟩=>not_of ?_)
 exact aN (KU pins s1 σ H1 x v (fun b H2=>Q (.bl (!b)) H2) I1 r1 (Mt q1)) fun b s2 ⟨H2,I2,q2⟩=> ⟨.bl (!b),H2,I2,rfl,q2⟩
theorem yO{a:Expr}{ta:TE}(ha:PE X a ta)(he: ∀whole,isTrue a X.env whole=(do let v ←whole;standAt a.pos;holding [v] (truthy v))):PT X a (gg X.K ta):=by
 intro pins s σ H Q I h
 exact isTrue_plain (aN (ha pins s σ H _ I h) fun v s1 ⟨x,H1,I1,r1,q1⟩=>KU pins s1 σ H1 x v Q I1 r1 (Mt q1)) (he _)
theorem Zp{m:hJ}{o e:Expr}{es:List Expr}{to:TE}{t:TA}{apos cL:Pos}(ho:PE X o to)(ha:PA X (e::es) t)(hb:m5 o=true)(hl:(apos.endLine==cL.line)=true)(hn:(e::es).length<29)
  (hs:starEach (e::es) X.env=(false,eval e X.env)::starEach es X.env) (h1:(backTo cL (starEach es X.env)).any (·.1)=false) (h2:(backTo cL (starEach (e::es) X.env)).all (fun x=> !x.1)=true):
  PE X (.Call (.Attribute o m.nm apos) (e::es) [] cL) (sf X.K m to t):=by
 obtain⟨id,M⟩:=M3 (X:=X) m
 exact VC M.pa M.slot M.ty M.mt ho ha (mS hb) (by
  rw[h2]
  show(true && true && decide ((e::es).length+0+0<30))=true
  rw[decide_eq_true (by omega)];rfl) hl hs h1
theorem Zq{m:hJ}{o:Expr}{to:TE}{apos cL:Pos}(ho:PE X o to)(hb:m5 o=true)(hl:(apos.endLine==cL.line)=true):
  PE X (.Call (.Attribute o m.nm apos) [] [] cL) (sf X.K m to f_):=by
 obtain⟨id,M⟩:=M3 (X:=X) m
 exact VB M.pa M.slot M.ty M.mt ho (mS hb) hl
end
section
variable {X:Cx} {CX:aO}
theorem M4{o:Expr}{m:Str}{apos pos:Pos}{args:List Expr}{Q:Value→Shared→Prop}{E:Value→Shared→Prop}{A:Around}{s:Shared}{env:Env}{prog:Program}{w:World}
  (hb:m5 o=true) (hl:(apos.endLine==pos.line)=true) (hn:args.length<29) (hf:(backTo pos (starEach args env)).all (fun x=> !x.1)=true)
  (h:wpAny (model prog w) A (eval o env) (fun ov s1=> ∀pl,wpAny (model prog w) A (getMethod ov m pl) (fun fx s2=>wpAny (model prog w) A (callWith pos fx.1 fx.2 (backTo pos (starEach args env)) (backToKw pos (keywordEach [] env))) Q E s2) E s1) E s):
  wpAny (model prog w) A (eval (.Call (.Attribute o m apos) args [] pos) env) Q E s:=by
 have Zr:methodCallForm (args.length+0) (backTo pos (starEach args env)) (backToKw pos (keywordEach [] env))=true:=by
  show((backTo pos (starEach args env)).all (fun x=> !x.1) && true && decide (args.length+0+0<30))=true
  rw[hf,decide_eq_true (by omega)];rfl
 have line:methodCallPos true o env apos pos=pure pos:=by unfold methodCallPos;simp[hl]
 rw[arm_eval_Call,mS hb]
 refine wpAny_bind (wpAny_mono h (fun ov s1 h1=>wpAny_bind (wpAny_standAt ?_)) fun _ _ e=>e)
 unfold methodCall
 rw[show([]:List Keyword).length=0 from rfl,Zr]
 refine wpAny_bind (wpAny_holding (wpAny_mono (h1 _) (fun fx s2 h2=> ?_) fun _ _ e=>e))
 exact wpAny_bind (wpAny_of_eq line h2)
theorem Zs{o e:Expr}{es:List Expr}{to:TE}{t:TA}{apos pos:Pos}{C:Addr}{m:Str}{sp:Sp}{E:XK}(M:yJ CX X C m sp)(hx:Passes CX X E)(ho:PE X o to)(ha:PA X (e::es) t)(hb:m5 o=true)(hl:(apos.endLine==pos.line)=true)(hn:(e::es).length<29)
  (hs:starEach (e::es) X.env=(false,eval e X.env)::starEach es X.env) (h1:(backTo pos (starEach es X.env)).any (·.1)=false) (h2:(backTo pos (starEach (e::es) X.env)).all (fun x=> !x.1)=true):
  PE X (.Call (.Attribute o m apos) (e::es) [] pos) (rV C m sp [] E to t):=by
 obtain⟨c,k,f,fd,ps,hm,F,hr,vq⟩:=M
 intro pins s σ H Q I h
 refine M4 hb hl hn h2 (aN (ho pins s σ H _ I h) fun u s1 ⟨x,H1,I1,rx,a,dx,fs,ex,ea,l,q⟩=>fun pl=> ?_)
 subst ex
 obtain rfl:u=Value.ref a:=rx
 refine K1 I1 ea c hm l ?_
 refine callWith_K (first:=[.ref a]) (h₀:=X.base) I.ok.mod.ou hm.kp (aN (ha pos pins s1 σ H1 _ I1 q) fun us s2 ⟨vs,H2,I2,r,q2⟩=> ⟨I2.cT, ?_⟩) hs h1
 exact A6 (us:= .ref a::us) (vs:= .ref a::vs) F hr vq .nil hx I2 (.cons rfl r) q2
theorem Zt{o:Expr}{to:TE}{apos pos:Pos}{C:Addr}{m:Str}{sp:Sp}{E:XK}(M:yJ CX X C m sp)(hx:Passes CX X E)(ho:PE X o to)(hb:m5 o=true)(hl:(apos.endLine==pos.line)=true):
  PE X (.Call (.Attribute o m apos) [] [] pos) (rV C m sp [] E to f_):=by
 obtain⟨c,k,f,fd,ps,hm,F,hr,vq⟩:=M
 intro pins s σ H Q I h
 refine M4 hb hl (by decide) rfl (aN (ho pins s σ H _ I h) fun u s1 ⟨x,H1,I1,rx,a,dx,fs,ex,ea,l,q⟩=>fun pl=> ?_)
 subst ex
 obtain rfl:u=Value.ref a:=rx
 refine K1 I1 ea c hm l ?_
 exact PySem.W.callWith_K0 (first:=[.ref a]) I1.cT hm.kp (A6 (us:=[.ref a]) (vs:=[.ref a]) F hr vq .nil hx I1 (.cons rfl .nil) q)
end
section
variable {prog:Program} {w:World} {A:Around} {E:Value→Shared→Prop} {s:Shared}
theorem M5{it l:Addr}{items:Array Value}(bx:l≠it): ∀(n i:Nat) (s:Shared) (Q:List Value→Shared→Prop),s.heap.IsListIter it l i→s.heap.IsList l items→i+n≤items.size→
  (∀h',h'.IsListIter it l (i+n)→Heap.SameBut it s.heap h'→Q ((items.toList.drop i).take n) {s with heap:=h'})→wpAny (model prog w) A (draw (.ref it) n) Q E s
 | 0,i,s,Q,hit,_,_,hQ=>by
  show wpAny _ _ (pure []) Q E s
  exact wpAny_pure (by simpa using hQ s.heap hit (Heap.SameBut.refl ..))
 | n+1,i,s,Q,hit,ht,hle,hQ=>by
  have aP:i<items.size:=by omega
  show wpAny _ _ (pyNext (.ref it) >>=_) Q E s
  refine wpAny_bind (wpAny_pyNext_list_item hit ht (x:=items[i]) (by simp[aP]) fun h₁ vd lh=> ?_)
  refine wpAny_bind (wpAny_holding (M5 bx n (i+1) _ _ vd (ht.extBut lh.extBut bx) (by omega) fun h₂ Zu Zv=>wpAny_pure ?_))
  have hd:items.toList.drop i=items[i]::items.toList.drop (i+1):=by simp[List.drop_eq_getElem_cons,aP]
  have:=hQ h₂ (by rw[show i+ (n+1)=i+1+n by omega];exact Zu) (lh.trans Zv)
  rw[hd,List.take_succ_cons] at this
  exact this
theorem Zw{t:Addr}{items:Array Value}{Q:List Value→Shared→Prop}(hh:A.handled=none)(ht:s.heap.IsList t items)
  (hQ: ∀h',Heap.ExtBut s.heap.objs.size s.heap h'→Q items.toList {s with heap:=h'}):wpAny (model prog w) A (unpackItems (.ref t) items.size none) Q E s:=by
 have aP:t≠s.heap.objs.size:=by obtain⟨o,ho,_⟩:=ht;exact Nat.ne_of_lt (Heap.lt_size ho)
 unfold unpackItems
 refine wpAny_bind ?_
 ·unfold notIterableAtAll
  refine wpAny_bind (wpAny_specialOf ht.typeIs slot_list_iter.lookup ?_)
  refine wpAny_pure ?_
  simp only[Bool.false_eq_true,if_false]
  refine wpAny_bind (wpAny_holding (wpAny_pyIter_list ht ?_))
  refine wpAny_bind (wpAny_holding (M5 aP items.size 0 _ _ ⟨_,Heap.get?_push_size _ rfl,rfl,rfl⟩ (ht.push _) (by omega) fun h₁ vd lh=> ?_))
  have uE:List.take items.size (List.drop 0 items.toList)=items.toList:=by
   rw[List.drop_zero];exact List.take_of_length_le (by simp)
  rw[uE]
  rw[if_neg (by simp)]
  have BS:h₁.IsList t items:=(ht.push _).extBut lh.extBut aP
  refine wpAny_bind (wpAny_holding (wpAny_pyNext_list_end hh vd BS (by simp) fun h₂ BU=> ?_))
  simp only[Option.isSome_none,Bool.false_eq_true,if_false]
  refine wpAny_pure (hQ h₂ fun b o hb e=>BU b o hb (lh.extBut b o hb (Heap.get?_push_of_some _ e)))
theorem Zx{env:Env}{elts:List Expr}{x1}{pos:Pos}{t:Addr}{items:Array Value}{Q:Unit→Shared→Prop}(hh:A.handled=none)(ht:s.heap.IsList t items)
  (hn:(assignEach elts env).length=items.size) (BV:(assignEach elts env).findIdx? (·.1)=none)
  (h: ∀h',Heap.ExtBut s.heap.objs.size s.heap h'→wpAny (model prog w) A (assignInOrder ((assignEach elts env).map (·.2)) items.toList) Q E {s with heap:=h'}):
  wpAny (model prog w) A (assign (.Tuple elts x1 pos) env (.ref t)) Q E s:=by
 rw[assign_Tuple]
 refine wpAny_bind (wpAny_standAt ?_)
 unfold unpack
 rw[hn,BV]
 exact wpAny_bind (wpAny_holding (Zw hh ht h))
end
def yP(K:PySem.W.Frag)(n:Nat)(t:i4):TG:=fun v σ H Q=> ∃a xs,v= .ref a∧(aI K H a xs∨ao K H a xs)∧xs.length=n∧t xs σ H Q
theorem Zy{X:Cx}{es:List Expr}{k:Nat}{t:i4}{n:Nat}{pos:Pos}(hc:X.calm=true)(h:oB X es t)
  (hn:(assignEach es X.env).length=n) (iJ:(assignEach es X.env).findIdx? (·.1)=none):PG X (.Tuple es k pos) (yP X.K n t):=by
 intro pins s σ H v u Q I r hw
 obtain⟨a,xs,e1,hq,hl,hw⟩:=hw
 rcases hq with hq | hq
 ·exact Kw hc h hn iJ pins s σ H v u Q I r ⟨a,xs,e1,hq,hl,hw⟩
 ·subst e1
  cases r
  obtain⟨its,rv,ht,hz⟩:=I.list hq
  refine Zx (I.ok.hd hc) ht.isList (by simp[hn,←hl,rv.length]) iJ fun h' hx=> ?_
  have I1:Inv X pins σ H {s with heap:=h'}:=I.kept (t':=s.toks) fun b o e=>hx b o (Nat.ne_of_lt (Heap.lt_size e)) e
  exact h pins _ σ H xs _ Q I1 (by simpa using rv) hw
def vt:List Nat→i4
 | []=>xE
 | i::r=>rP (dS i) (vt r)
def Zz(to:TE)(tl th:TO):TG:=fun v σ H Q=>to σ H fun o H1=>tl σ H1 fun i H2=>th σ H2 fun j H3=> ∃l b xs ys a c,o= .ref l∧v= .ref b∧i=some a∧j=some c∧H3 l=some (.lst xs)∧H3 b=some (.lst ys)∧l≠b∧
 0≤a∧a≤c∧c≤xs.length∧xs.length+ys.length≤sizeLine∧Q σ (upd H3 l (.lst (xs.take a.toNat++ys++xs.drop c.toNat)))
mutual
def bB(Γ:aJ):RS→TS
 | .asg i e=>i5 (ag Γ e) (dS i)
 | .oW i e=>i5 (ag Γ e) (dS i)
 | .set o ix e=>i5 (ag Γ e) (Kx (ag Γ o) (ag Γ ix) Bd)
 | .dput o i e=>LD (ag Γ o) (ag Γ i) (ag Γ e)
 | .drop e=>Ks (ag Γ e)
 | .ret e=>Kt (ag Γ e)
 | .XD=>TH
 | .ite c t e=>Ku (bq Γ c) (au Γ t) (au Γ e)
 | .oX i k its body=>xJ (hU Γ k its) (dS i) (au Γ body)
 | .kY is k its body=>xJ (hU Γ k its) (yP Γ.K is.length (vt is)) (au Γ body)
 | .yv c body=>Ky (bq Γ c) (au Γ body)
 | .pass=>AN
 | .brk=>Tz
 | .cont=>TB
 | .never=>TK
 | .XE o lo hi e=>i5 (ag Γ e) (Zz (ag Γ o) (x9 (ag Γ lo)) (x9 (ag Γ hi)))
 | .mZ o f e=>AY Γ.K (ag Γ o) (ag Γ e) f
 | .XF is e=>i5 (ag Γ e) (yP Γ.K is.length (vt is))
 | .oY j as=>BF (Γ.ex j) Γ.E (bH Γ as)
 | .BK n i j body su=>fun D σ H=> ∃C,Γ.gv j= .ref C∧yq Γ.K C i n (fun E=>au {Γ with E:=E} body) (fun ea=>au {Γ with E:=E0,hv:=some ea} su) D σ H
def au(Γ:aJ):List RS→TS
 | []=>AN
 | s::r=>Kq (bB Γ s) (au Γ r)
end
def vv:Expr→Bool
 | .Slice ..=>false | _=>true
def yQ:Expr→Bool
 | .ListComp ..=>false | .SetComp ..=>false | .DictComp ..=>false | _=>true
def yR(sc:Scope)(x:Str)(line:Nat)(s:Scope)(p:Pos):Bool:=
 decide (sc.kind= .function) && decide (sc.names.lookup x=some .local) && (line==p.line) && !(s.names.any fun(n,k)=>n==x && (k== .local || k== .cell))
def sx(N:List Str)(sc:Scope):List Nat→List Str→Bool
 | [],xs=>xs.isEmpty
 | i::r,xs=>match xs with
  | []=>false
  | x::t=>decide (N[i]?=some x) && loc sc x && sx N sc r t
structure aS (CX:aO) (S:dj) (Γ:aJ) (X:Cx):Prop extends Good CX S Γ X where
 nd:S.N.Nodup
 jV: ∀x,X.fn x=true
 own:PassesOwn (model X.prog X.w) X.A X.env X.xe
 m9:X.env.scope.kind= .function
 rs: ∀(j:Nat) (x:Str),S.en[j]?=some x→Raises X Γ.E
 iG:X.stack=X.env::X.outer
 fM:X.env.frame=some X.env.locals
 pf:X.ex=[]
 ph:CX=eI X.prog X.w
def qV(S:dj)(i:Nat)(x:Str):Bool:=decide (S.N[i]?=some x) && BO S.sc x && !(x==("__debug__":Str)) && !(x==("__classdict__":Str))
def kG(S:dj)(j:Nat)(x:Str):Bool:=decide (S.gn[j]?=some x) && kZ S.sc x && !(x==("__debug__":Str))
def kF(S:dj)(j:Nat)(x:Str):Bool:=decide (S.fn[j]?=some x) && kZ S.sc x && !(x==("__debug__":Str))
def kK(S:dj)(j:Nat)(x:Str):Bool:=decide (S.kn[j]?=some x) && kZ S.sc x && !(x==("__debug__":Str))
def kB(S:dj)(x y:Str):Bool:=decide (x=y) && kZ S.sc x && S.bl.contains x
def kM(o:Expr)(m:Str)(x:Str)(n:Nat)(a c:Pos):Bool:=decide (x=m) && m5 o && (a.endLine==c.line) && decide (n<29)
def kL(S:dj)(i:Nat)(x:Str):Bool:=decide (S.N[i]?=some x) && loc S.sc x
section
variable {CX:aO} {S:dj} {Γ:aJ} {X:Cx} {e e2 a b c d:Expr} {es:List Expr} {x:Str} {p q pos:Pos} {r ra rb rc:RE} {rs:List RE} {i j:Nat}
theorem aa(G:Good CX S Γ X)(h:qV S i x=true:=by kernel_rfl):PE X (.Name x p) (ag Γ (.v i)):=by
 simp only[qV,Bool.and_eq_true,decide_eq_true_eq,Bool.not_eq_true'] at h
 exact Ti (by rw[G.N];exact h.1.1.1) (by rw[G.sc];exact XJ h.1.1.2) h.1.2 h.2
theorem aE{v:Int}{k:Nat}:PE X (.Constant (.int v) k p) (ag Γ (.c (.int v))):=Tj
theorem aL{v:Str}{k:Nat}:PE X (.Constant (.str v) k p) (ag Γ (.c (.str v))):=Tp
theorem jl{v:Bool}{k:Nat}:PE X (.Constant (.bool v) k p) (ag Γ (.c (.bl v))):=Tn
theorem ZA{k:Nat}:PE X (.Constant .none k p) (ag Γ (.c .aw)):=To
theorem gp(G:Good CX S Γ X)(h:kG S j x=true:=by kernel_rfl):PE X (.Name x p) (ag Γ (.g j)):=by
 simp only[kG,Bool.and_eq_true,decide_eq_true_eq,Bool.not_eq_true'] at h
 obtain⟨u,hm,r⟩:=G.ez j x h.1.1
 exact Kj (G.gl h.1.2) hm r h.2
theorem ba{op:Operator}(G:Good CX S Γ X)(ha:PE X a (ag Γ ra))(hb:PE X b (ag Γ rb)):PE X (.BinOp a op b p) (ag Γ (.bin op ra rb)):=by
 show PE X _ (dU (r9 Γ.K op) (ag Γ ra) (ag Γ rb))
 rw[←G.K]
 exact Uc (W_ op) ha hb
theorem sy(ha:PE X a (ag Γ ra)):PE X (.UnaryOp .USub a p) (ag Γ (.neg ra)):=Ud Zn ha
theorem gJ{op:CmpOp}(G:Good CX S Γ X)(ha:PE X a (ag Γ ra))(hb:PE X b (ag Γ rb))(hm:behindInMarks op b=false:=by kernel_rfl):PE X (.Compare a [op] [b] p) (ag Γ (.cmp op ra rb)):=by
 show PE X _ (dU (dr Γ.K op) (ag Γ ra) (ag Γ rb))
 rw[←G.K]
 exact UA (Mh G.units op) ha hb hm
theorem lB(h:PE X e (ag Γ r)):PE X (.BoolOp .And [e] p) (ag Γ (.and [r])):=Tt h
theorem jW{r2:RE}(h:PE X e (ag Γ r))(t:PE X (.BoolOp .And (e2::es) p) (ag Γ (.and (r2::rs)))):PE X (.BoolOp .And (e::e2::es) p) (ag Γ (.and (r::r2::rs))):=Tu h t
theorem Cp(G:Good CX S Γ X)(ha:PE X a (ag Γ ra)):PE X (.UnaryOp .Not a p) (ag Γ (.not ra)):=by
 show PE X _ (BL Γ.K (ag Γ ra))
 rw[←G.K]
 exact Zo ha
theorem Cq(hc:PT X c (bq Γ rc))(ha:PE X a (ag Γ ra))(hb:PE X b (ag Γ rb)):PE X (.IfExp c a b p) (ag Γ (.uV rc ra rb)):=Tv hc ha hb
theorem ZC:PE X (.Dict [] [] p) (ag Γ .yt):=Y3
theorem aj:PA X [] (bH Γ []):=rS
theorem ae(h:PE X e (ag Γ r))(t:PA X es (bH Γ rs))(hs:noStar e=true:=by kernel_rfl):PA X (e::es) (bH Γ (r::rs)):=kz h t (dI hs)
theorem a_(G:Good CX S Γ X)(hA:PA X (e::es) (bH Γ (r::rs)))(h:kF S j x=true:=by kernel_rfl)(hn:fO (e::es)=true:=by kernel_rfl)(hq:S.md=0:=by rfl):PE X (.Call (.Name x p) (e::es) [] pos) (ag Γ (.call j (r::rs))):=by
 simp only[kF,Bool.and_eq_true,decide_eq_true_eq,Bool.not_eq_true'] at h
 obtain⟨k,f,fd,ps,F,hr,hm,hk,hb⟩:=G.fns hq j x h.1.1
 exact U2 F hr (G.gl h.1.2) hm hk hb .nil G.pass hA h.2 (dI (dc hn).1) (jU _ _ es (dc hn).2)
theorem M6(G:Good CX S Γ X)(hA:PA X (e::es) (bH Γ (r::rs)))(h:kK S j x=true:=by kernel_rfl)(hn:fO (e::es)=true:=by kernel_rfl)(hq:S.md=0:=by rfl):PE X (.Call (.Name x p) (e::es) [] pos) (ag Γ (.make j (r::rs))):=by
 simp only[kK,Bool.and_eq_true,decide_eq_true_eq,Bool.not_eq_true'] at h
 obtain⟨k,f,fd,ps,M,F,hr,hm,hb⟩:=G.m7 hq j x h.1.1
 exact U4 M F hr (G.gl h.1.2) hm hb .nil G.pass hA h.2 (dI (dc hn).1) (jU _ _ es (dc hn).2)
theorem cG{t:kW}(G:Good CX S Γ X)(hA:PA X (e::es) (bH Γ (r::rs)))(h:kB S x t.nm=true:=by kernel_rfl)(hn:fO (e::es)=true:=by kernel_rfl)(hq:S.md=0:=by rfl):PE X (.Call (.Name x p) (e::es) [] pos) (ag Γ (.blt t (r::rs))):=by
 simp only[kB,Bool.and_eq_true,decide_eq_true_eq] at h
 obtain⟨⟨rfl,h2⟩,h3⟩:=h
 have n1:t.nm≠"__name__":=by cases t<;>decide
 have n2:(t.nm==("__debug__":Str))=false:=by cases t<;>decide
 show PE X _ (jb (oZ Γ.K t) (bH Γ (r::rs)))
 rw[←G.K]
 cases Y4 (X:=X) (G.calm hq) t with
 | fn id hv hc=>exact A9 hc (G.gl h2) (G.fN _ h3) hv hA n1 n2 (dI (dc hn).1) (jU _ _ es (dc hn).2)
 | ty T hv hc=>exact U7 hc (G.gl h2) (G.fN _ h3) hv hA n1 n2 (dI (dc hn).1) (jU _ _ es (dc hn).2)
theorem gr{T:Ty}{y:Str}(G:Good CX S Γ X)(ha:PE X a (ag Γ ra))(h:kB S x "isinstance"=true:=by kernel_rfl)(h2:kB S y (Str.ofString T.nm)=true:=by kernel_rfl)(hs:noStar a=true:=by kernel_rfl):PE X (.Call (.Name x p) [a, .Name y q] [] pos) (ag Γ (.dG T ra)):=by
 simp only[kB,Bool.and_eq_true,decide_eq_true_eq] at h h2
 obtain⟨⟨rfl,g2⟩,g3⟩:=h
 obtain⟨⟨rfl,k2⟩,k3⟩:=h2
 exact Zi ha hs (G.gl g2) (G.fN _ g3) (G.gl k2) (G.fN _ k3)
theorem gu(G:Good CX S Γ X)(ha:PE X a (ag Γ ra))(hb:PE X b (ag Γ rb))(h:kB S x "isinstance"=true:=by kernel_rfl)(hn:fO [a,b]=true:=by kernel_rfl):PE X (.Call (.Name x p) [a,b] [] pos) (ag Γ (.da ra rb)):=by
 simp only[kB,Bool.and_eq_true,decide_eq_true_eq] at h
 obtain⟨⟨rfl,g2⟩,g3⟩:=h
 show PE X _ (jb (jO Γ.K) (dt (ag Γ ra) (dt (ag Γ rb) f_)))
 rw[←G.K]
 exact A9 YM (G.gl g2) (G.fN _ g3) MS (kz ha (kz hb rS (dI (dc (dc hn).2).1)) (dI (dc hn).1)) (by decide) (by decide) (dI (dc hn).1) (jU _ _ _ (dc hn).2)
theorem ZD{n:String}(G:Good CX S Γ X)(hv:bootBuiltins (Str.ofString n)=some (.type n))(h1:Str.ofString n≠"__name__")(h2:(Str.ofString n==("__debug__":Str))=false)(h:kB S x (Str.ofString n)=true:=by kernel_rfl):PE X (.Name x p) (ag Γ (.c (.ty n))):=by
 simp only[kB,Bool.and_eq_true,decide_eq_true_eq] at h
 obtain⟨⟨rfl,g2⟩,g3⟩:=h
 exact Kk (G.gl g2) (G.fN _ g3) hv rfl h1 h2
def kH(S:dj)(j:Nat)(x:Str):Bool:=decide (S.hn[j]?=some x) && kZ S.sc x && !(x==("__debug__":Str))
theorem ZE(G:Good CX S Γ X)(ha:PE X a (ag Γ ra))(h:kH S j x=true:=by kernel_rfl)(hs:noStar a=true:=by kernel_rfl):PE X (.Call (.Name x p) [a] [] pos) (ag Γ (.yr j ra)):=by
 simp only[kH,Bool.and_eq_true,decide_eq_true_eq,Bool.not_eq_true'] at h
 obtain⟨k,f,fd,ps,F,hr,hm,hk,hb⟩:=G.lA j x h.1.1
 exact YS F hr (G.gl h.1.2) hm hk hb G.m8 ha hs h.2
theorem ZF{m:hJ}{o:Expr}{ro:RE}{ap:Pos}(G:Good CX S Γ X)(ho:PE X o (ag Γ ro))(h:kM o m.nm x 0 ap pos=true:=by kernel_rfl):PE X (.Call (.Attribute o x ap) [] [] pos) (ag Γ (.cb m ro [])):=by
 simp only[kM,Bool.and_eq_true,decide_eq_true_eq] at h
 obtain⟨⟨⟨rfl,h2⟩,h3⟩, -⟩:=h
 show PE X _ (sf Γ.K m (ag Γ ro) f_)
 rw[←G.K]
 exact Zq ho h2 h3
theorem df{m:hJ}{o:Expr}{ro:RE}{ap:Pos}(G:Good CX S Γ X)(ho:PE X o (ag Γ ro))(hA:PA X (e::es) (bH Γ (r::rs)))(h:kM o m.nm x (es.length+1) ap pos=true:=by kernel_rfl)(hn:fO (e::es)=true:=by kernel_rfl):PE X (.Call (.Attribute o x ap) (e::es) [] pos) (ag Γ (.cb m ro (r::rs))):=by
 simp only[kM,Bool.and_eq_true,decide_eq_true_eq] at h
 obtain⟨⟨⟨rfl,h2⟩,h3⟩,h4⟩:=h
 show PE X _ (sf Γ.K m (ag Γ ro) (bH Γ (r::rs)))
 rw[←G.K]
 exact Zp ho hA h2 h3 h4 (dI (dc hn).1) (jU _ _ es (dc hn).2) (yL _ _ (e::es) hn)
theorem jn{f:Str}{ro:RE}(G:Good CX S Γ X)(ho:PE X a (ag Γ ro))(h:m5 a=true:=by kernel_rfl):PE X (.Attribute a f p) (ag Γ (.fld ro f)):=by
 show PE X _ (xW Γ.K (ag Γ ro) f)
 rw[←G.K]
 exact UW ho (mS h)
theorem m_{m:Str}{o:Expr}{ro:RE}{ap:Pos}(G:Good CX S Γ X)(ho:PE X o (ag Γ ro))(h:(kM o m m 0 ap pos && decide (S.mn[j]?=some m))=true:=by kernel_rfl)(hq:S.md=0:=by rfl):PE X (.Call (.Attribute o m ap) [] [] pos) (ag Γ (.di j m ro [])):=by
 simp only[kM,Bool.and_eq_true,decide_eq_true_eq] at h
 obtain⟨⟨⟨⟨-,h2⟩,h3⟩, -⟩,h5⟩:=h
 exact Zt (G.lu hq j _ h5) G.pass ho h2 h3
theorem Cr{m:Str}{o:Expr}{ro:RE}{ap:Pos}(G:Good CX S Γ X)(ho:PE X o (ag Γ ro))(hA:PA X (e::es) (bH Γ (r::rs)))(h:(kM o m m (es.length+1) ap pos && decide (S.mn[j]?=some m))=true:=by kernel_rfl)(hn:fO (e::es)=true:=by kernel_rfl)(hq:S.md=0:=by rfl):PE X (.Call (.Attribute o m ap) (e::es) [] pos) (ag Γ (.di j m ro (r::rs))):=by
 simp only[kM,Bool.and_eq_true,decide_eq_true_eq] at h
 obtain⟨⟨⟨⟨-,h2⟩,h3⟩,h4⟩,h5⟩:=h
 exact Zs (G.lu hq j _ h5) G.pass ho hA h2 h3 h4 (dI (dc hn).1) (jU _ _ es (dc hn).2) (yL _ _ (e::es) hn)
theorem ZG(h:vv b=true):Li b:=fun o i=>by cases b<;>first | rfl | cases h
theorem aZ(G:Good CX S Γ X)(ha:PE X a (ag Γ ra))(hb:PE X b (ag Γ rb))(h:vv b=true:=by kernel_rfl):PE X (.Subscript a b p) (ag Γ (.ix ra rb)):=by
 show PE X _ (dU (o6 Γ.K Γ.sd) (ag Γ ra) (ag Γ rb))
 rw[←G.K]
 exact Vl (Y9 G.lq) ha hb (ZG h)
theorem ZH:PE X (.Dict [] [] p) (ag Γ .BJ):=Wq
theorem ZI(h:vv b=true):Bq b:=fun ov iv=>by cases b<;>first | rfl | cases h
theorem M7(G:Good CX S Γ X)(ha:PE X a (ag Γ ra))(hb:PE X b (ag Γ rb))(h:vv b=true:=by kernel_rfl):PE X (.Subscript a b p) (ag Γ (.uW ra rb)):=
 Wl (by have:=G.units;omega) ha hb (ZI h)
theorem ZJ(G:Good CX S Γ X)(ha:PE X a (ag Γ ra))(hb:PE X b (ag Γ rb))(hm:behindInMarks .In b=false:=by kernel_rfl):PT X (.Compare a [.In] [b] p) (bq Γ (.yu ra rb)):=
 Tq (Wm (by have:=G.units;omega) ha hb) hm
theorem M8(G:Good CX S Γ X)(ha:PE X a (ag Γ ra))(hb:PE X b (ag Γ rb))(hm:behindInMarks .In b=false:=by kernel_rfl):PT X (.Compare a [.In] [b] p) (bq Γ (.inD ra rb)):=by
 show PT X _ (mO (dU (mX Γ.K false) (ag Γ ra) (ag Γ rb)))
 rw[←G.K]
 exact AW (Xy G.units) ha hb hm
theorem M9(G:Good CX S Γ X)(ha:PE X a (ag Γ ra))(hb:PE X b (ag Γ rb))(hm:behindInMarks .NotIn b=false:=by kernel_rfl):PT X (.Compare a [.NotIn] [b] p) (bq Γ (.oV ra rb)):=by
 show PT X _ (mO (dU (mX Γ.K true) (ag Γ ra) (ag Γ rb)))
 rw[←G.K]
 exact AW (Xz G.units) ha hb hm
theorem M_{o f:Expr}{ro rf:RE}{ap:Pos}(G:Good CX S Γ X)(ho:PE X o (ag Γ ro))(he:PE X e (ag Γ r))(hf:PE X f (ag Γ rf))(h:kM o "get" x 2 ap pos=true:=by kernel_rfl)(hn:fO [e,f]=true:=by kernel_rfl):PE X (.Call (.Attribute o x ap) [e,f] [] pos) (ag Γ (.uX ro r rf)):=by
 simp only[kM,Bool.and_eq_true,decide_eq_true_eq] at h
 obtain⟨⟨⟨rfl,h2⟩,h3⟩,h4⟩:=h
 refine Wu (by have:=G.units;omega) ho he hf ⟨mS h2, ?_,h3, ?_⟩
 ·rw[yL _ _ [e,f] hn];rfl
 ·rw[dI (dc hn).1,dI (dc (dc hn).2).1];rfl
theorem sA{lo hi:Option Expr}{rl rh:Option RE}(G:Good CX S Γ X)(ha:PE X a (ag Γ ra))(hl:PO X lo (m4 Γ rl))(hh:PO X hi (m4 Γ rh)):PE X (.Subscript a (.Slice lo hi none q) p) (ag Γ (.sl ra rl rh)):=by
 show PE X _ (Ba (BM Γ.K) (ag Γ ra) (m4 Γ rl) (m4 Γ rh))
 rw[←G.K]
 exact Vg Zl ha hl hh
theorem ZK:PO X none (m4 Γ none):=Ve
theorem jo(ha:PE X a (ag Γ ra)):PO X (some a) (m4 Γ (some ra)):=Vf ha
theorem bM{k}(hA:PA X es (bH Γ rs)):PE X (.Tuple es k p) (ag Γ (.tup rs)):=U0 hA
theorem cH(hA:PA X es (bH Γ rs)):PE X (.List es p) (ag Γ (.lst rs)):=U1 hA
def vw(CX:aO)(S:dj)(Γ:aJ)(cond:Option RE)(ifs:List Expr):Prop:=match cond with
 | none=>ifs=[]
 | some r=> ∃e0,ifs=[e0]∧ ∀X,Good CX S Γ X→PT X e0 (bq Γ r)
theorem lE:vw CX S Γ none []:=rfl
theorem sC(h: ∀X,Good CX S Γ X→PT X e (bq Γ r)):vw CX S Γ (some r) [e]:=⟨e,rfl,h⟩
def kC(S:dj)(tk:Option Nat)(tg iter:Expr)(sc:Scope)(k:IK)(ln:List Str)(fv:List (Str×Nat)):Bool:=decide (BQ tk tg=some ln) && (decide (k≠ .zip) || tk.isSome) && BR S ⟨.Constant .none 0 ⟨0,0,0,0⟩,tg,iter,[],sc⟩ ln fv
abbrev cS(S:dj)(sc:Scope)(ln:List Str)(fv:List (Str×Nat)):dj:={S with N:=ln++fv.map (·.1),sc:=BP sc S.sc,en:=[],md:=if S.md=0 then 0 else 2}
theorem iP{tk:Option Nat}{fv:List (Str×Nat)}{k:IK}{its:List RE}{cond:Option RE}{elt:RE}{el tg iter:Expr}{ifs:List Expr}{sc:Scope}{ln:List Str}(G:Good CX S Γ X)(h:kC S tk tg iter sc k ln fv=true)(hi:PI X tg iter (hU Γ k its))
  (hc:vw CX (cS S sc ln fv) Γ.calm cond ifs) (he: ∀X,Good CX (cS S sc ln fv) Γ.calm X→PE X el (ag Γ.calm elt)) (hq:S.md=0:=by rfl):PE X (.ListComp el [⟨tg,iter,ifs,0⟩] sc p) (ag Γ (.comp tk fv k its cond elt)):=by
 simp only[kC,Bool.and_eq_true,decide_eq_true_eq] at h
 obtain⟨⟨h1,h2⟩,h3⟩:=h
 obtain⟨o1,o2,o3,o4⟩:=Ck (c:=⟨.Constant .none 0 ⟨0,0,0,0⟩,tg,iter,[],sc⟩) G h3
 show PE X _ (mU Γ.K (hU Γ k its) tk fv (u0 Γ.calm cond) (ag Γ.calm elt))
 rw[←G.K]
 refine WX o1 (G.calm hq) hi (MR (c:=⟨.Constant .none 0 ⟨0,0,0,0⟩,tg,iter,[],sc⟩) (G.calm hq) h1 o2 o3) ?_ (fun ex C s H=>he _ (G.inner ⟨.Constant .none 0 ⟨0,0,0,0⟩,tg,iter,[],sc⟩ ln fv ex C s H)) (vo o4)
 cases cond with
 | none=>exact hc
 | some r=>
  obtain⟨e0,q,hq⟩:=hc
  exact⟨e0,q,fun ex C s H=>hq _ (G.inner ⟨.Constant .none 0 ⟨0,0,0,0⟩,tg,iter,[],sc⟩ ln fv ex C s H)⟩
theorem gw(h:PT X a (bq Γ ra)):PT X (.UnaryOp .Not a p) (bq Γ (.not ra)):=Tr h
theorem vx(h:PT X e (bq Γ r)):PW X (.BoolOp .And [e] p) (bq Γ (.and [r])):=pw_and1 h
theorem vy{r2:RE}(h:PT X e (bq Γ r))(t:PW X (.BoolOp .And (e2::es) p) (bq Γ (.and (r2::rs)))):PW X (.BoolOp .And (e::e2::es) p) (bq Γ (.and (r::r2::rs))):=pw_and h t
theorem lF(h:PT X e (bq Γ r)):PW X (.BoolOp .Or [e] p) (bq Γ (.or [r])):=pw_or1 h
theorem iQ{r2:RE}(h:PT X e (bq Γ r))(t:PW X (.BoolOp .Or (e2::es) p) (bq Γ (.or (r2::rs)))):PW X (.BoolOp .Or (e::e2::es) p) (bq Γ (.or (r::r2::rs))):=pw_or h t
theorem bE{op:CmpOp}(G:Good CX S Γ X)(ha:PE X a (ag Γ ra))(hb:PE X b (ag Γ rb))(hm:behindInMarks op b=false:=by kernel_rfl):PT X (.Compare a [op] [b] p) (bq Γ (.cmp op ra rb)):=by
 show PT X _ (mO (dU (dr Γ.K op) (ag Γ ra) (ag Γ rb)))
 rw[←G.K]
 exact AW (Mh G.units op) ha hb hm
theorem ZL(G:Good CX S Γ X)(h:PE X (.Name x p) (ag Γ (.v i))):PT X (.Name x p) (bq Γ (.v i)):=by
 show PT X _ (gg Γ.K (ag Γ (.v i)))
 rw[←G.K]
 exact yO h fun _=>rfl
theorem pj(G:Good CX S Γ X)(h:PE X (.Call a es [] p) (ag Γ (.call j rs))):PT X (.Call a es [] p) (bq Γ (.call j rs)):=by
 show PT X _ (gg Γ.K (ag Γ (.call j rs)))
 rw[←G.K]
 exact yO h fun _=>rfl
theorem Na(G:Good CX S Γ X)(h:PE X (.Call a es [] p) (ag Γ (.da ra rb))):PT X (.Call a es [] p) (bq Γ (.da ra rb)):=by
 show PT X _ (gg Γ.K (ag Γ (.da ra rb)))
 rw[←G.K]
 exact yO h fun _=>rfl
theorem pk{T:Ty}(G:Good CX S Γ X)(h:PE X (.Call a es [] p) (ag Γ (.dG T ra))):PT X (.Call a es [] p) (bq Γ (.dG T ra)):=by
 show PT X _ (gg Γ.K (ag Γ (.dG T ra)))
 rw[←G.K]
 exact yO h fun _=>rfl
theorem fo{tg:Expr}(G:Good CX S Γ X)(ha:PE X a (ag Γ ra)):PI X tg a (hU Γ .list [ra]):=by
 show PI X tg a (uq Γ.K (ag Γ ra))
 rw[←G.K]
 exact TX ha
theorem ng{tg:Expr}(G:Good CX S Γ X)(ha:PE X a (ag Γ ra))(h:kB S x "range"=true:=by kernel_rfl)(hs:noStar a=true:=by kernel_rfl):PI X tg (.Call (.Name x p) [a] [] pos) (hU Γ .eO [ra]):=by
 simp only[kB,Bool.and_eq_true,decide_eq_true_eq] at h
 obtain⟨⟨rfl,h2⟩,h3⟩:=h
 exact T_ (G.gl h2) (G.fN _ h3) (kz ha rS (dI hs)) (dI hs)
theorem ZM{ts:List Expr}{k}{tp:Pos}(G:Good CX S Γ X)(ha:PE X a (ag Γ ra))(hb:PE X b (ag Γ rb))(h:kB S x "zip"=true:=by kernel_rfl)(hn:fO [a,b]=true:=by kernel_rfl):PI X (.Tuple ts k tp) (.Call (.Name x p) [a,b] [] pos) (hU Γ .zip [ra,rb]):=by
 simp only[kB,Bool.and_eq_true,decide_eq_true_eq] at h
 obtain⟨⟨rfl,h2⟩,h3⟩:=h
 show PI X _ _ (BN Γ.K (dt (ag Γ ra) (bH Γ [rb])))
 rw[←G.K]
 exact XT (G.gl h2) (G.fN _ h3) (kz ha (kz hb rS (dI (dc (dc hn).2).1)) (dI (dc hn).1)) (dI (dc hn).1) (jU _ _ _ (dc hn).2)
end
section
variable {CX:aO} {S:dj} {Γ:aJ} {X:Cx} {e a b c v:Expr} {es:List Expr} {x:Str} {p q pos:Pos} {r ra rb rc:RE} {i j:Nat} {st:Stmt} {Nb:List Stmt} {s:RS} {ss t u:List RS}
theorem Cs{v:Expr}{t:Option Expr}{l:Nat}{env:Env}(h:yQ v=true):swapsWith v t l env=pure false:=by
 cases v<;>first | rfl | cases h
theorem ZN{v:Expr}{x:Str}{p:Pos}{l:Nat}{env:Env}(h:env.kindOf x=some .cell):swapsWith v (some (.Name x p)) l env=pure false:=by
 cases v<;>first
  | rfl
  | (unfold swapsWith;simp only[h];have q:(some NameKind.cell==some NameKind.local)=false:=rfl;simp only[q,Bool.and_false,Bool.false_and])
theorem Nc{v o i:Expr}{p:Pos}{l:Nat}{env:Env}:swapsWith v (some (.Subscript o i p)) l env=pure false:=by
 cases v<;>rfl
theorem ZO{v o i:Expr}{p:Pos}{env:Env}:swappedStores [.Subscript o i p] v env=pure none:=by
 cases v<;>rfl
theorem aS.name(G:aS CX S Γ X)(h:kL S i x=true):PG X (.Name x p) (dS i):=by
 simp only[kL,Bool.and_eq_true,decide_eq_true_eq] at h
 exact rO (by rw[G.N];exact G.nd) (by rw[G.N];exact h.1) (by rw[G.sc];exact yx h.2) (.inl (G.jV x))
theorem az:bo X [] (au Γ []):=Kr
theorem ai(h:PS X st (bB Γ s))(t:bo X Nb (au Γ ss)):bo X (st::Nb) (au Γ (s::ss)):=Tx h t
theorem aV(G:aS CX S Γ X)(he:PE X v (ag Γ r))(h:kL S i x=true:=by kernel_rfl)(hc:(yQ v || decide (S.sc.names.lookup x=some .cell))=true:=by kernel_rfl):PS X (.Assign [.Name x p] v q) (bB Γ (.asg i r)):=by
 simp only[kL,Bool.and_eq_true,decide_eq_true_eq,Bool.or_eq_true] at h hc
 refine TN (by rw[G.N];exact G.nd) (by rw[G.N];exact h.1) (by rw[G.sc];exact yx h.2) he ?_ (.inl (G.jV x))
 rcases hc with h4 | h4
 ·exact Cs h4
 ·exact ZN (by show X.env.scope.names.lookup x=_;rw[G.sc];exact h4)
theorem Nd{tk:Option Nat}{fv:List (Str×Nat)}{k:IK}{its:List RE}{cond:Option RE}{elt:RE}{el tg iter:Expr}{ifs:List Expr}{sc:Scope}{ln:List Str}{pc:Pos}(G:aS CX S Γ X)(h0:kL S i x=true)(hs:yR S.sc x p.line sc pc=true)(h:kC S tk tg iter sc k ln fv=true)(hi:PI X tg iter (hU Γ k its))
  (hc:vw CX (cS S sc ln fv) Γ.calm cond ifs) (he: ∀X,Good CX (cS S sc ln fv) Γ.calm X→PE X el (ag Γ.calm elt)) (hq:S.md=0:=by rfl):PS X (.Assign [.Name x p] (.ListComp el [⟨tg,iter,ifs,0⟩] sc pc) q) (bB Γ (.oW i (.comp tk fv k its cond elt))):=by
 simp only[kC,kL,yR,Bool.and_eq_true,decide_eq_true_eq,beq_iff_eq,Bool.not_eq_true'] at h h0 hs
 obtain⟨⟨h1,h2⟩,h3⟩:=h
 obtain⟨o1,o2,o3,o4⟩:=Ck (c:=⟨.Constant .none 0 ⟨0,0,0,0⟩,tg,iter,[],sc⟩) G.toGood h3
 show PS X _ (i5 (mU Γ.K (hU Γ k its) tk fv (u0 Γ.calm cond) (ag Γ.calm elt)) (dS i))
 rw[←G.K]
 refine WY (by rw[G.N];exact G.nd) (by rw[G.N];exact h0.1) (by rw[G.sc];exact yx h0.2) ?_ o1 (G.calm hq) hi (MR (c:=⟨.Constant .none 0 ⟨0,0,0,0⟩,tg,iter,[],sc⟩) (G.calm hq) h1 o2 o3) ?_ (fun ex C s H=>he _ (G.toGood.inner ⟨.Constant .none 0 ⟨0,0,0,0⟩,tg,iter,[],sc⟩ ln fv ex C s H)) (vo o4) (.inl (G.jV x))
 ·have e1:X.env.kindOf x=some .local:=by show X.env.scope.names.lookup x=_;rw[G.sc];exact hs.1.1.2
  have e2:X.env.blockKind= .function:=by unfold Env.blockKind;rw[G.m9];rfl
  unfold swapsWith
  simp only[e1,e2,hs.1.2,hs.2]
  show pure (true && true && (pc.line==pc.line) && !false)=pure true
  rw[beq_self_eq_true];rfl
 ·cases cond with
  | none=>exact hc
  | some r=>
   obtain⟨e0,q,hq⟩:=hc
   exact⟨e0,q,fun ex C s H=>hq _ (G.toGood.inner ⟨.Constant .none 0 ⟨0,0,0,0⟩,tg,iter,[],sc⟩ ln fv ex C s H)⟩
theorem ZP{fv:List (Str×Nat)}{cond:Option RE}{elt:RE}{el iter:Expr}{ifs:List Expr}{sc:Scope}{n1 n2:Str}{p1 p2 tp:Pos}{kt}{pc:Pos}(G:aS CX S Γ X)(h0:kL S i x=true)(hs:yR S.sc x p.line sc pc=true)(h:kC S (some 2) (.Tuple [.Name n1 p1, .Name n2 p2] kt tp) iter sc .list [n1,n2] fv=true)(hi:PE X iter (ag Γ ra))
  (hc:vw CX (cS S sc [n1,n2] fv) Γ.calm cond ifs) (he: ∀X,Good CX (cS S sc [n1,n2] fv) Γ.calm X→PE X el (ag Γ.calm elt)) (hq:S.md=1:=by rfl):PS X (.Assign [.Name x p] (.ListComp el [⟨.Tuple [.Name n1 p1, .Name n2 p2] kt tp,iter,ifs,0⟩] sc pc) q) (bB Γ (.oW i (.comp (some 2) fv .list [ra] cond elt))):=by
 simp only[kC,kL,yR,Bool.and_eq_true,decide_eq_true_eq,beq_iff_eq,Bool.not_eq_true'] at h h0 hs
 obtain⟨⟨h1,h2⟩,h3⟩:=h
 obtain⟨o1,o2,o3,o4⟩:=Ck (c:=⟨.Constant .none 0 ⟨0,0,0,0⟩, .Tuple [.Name n1 p1, .Name n2 p2] kt tp,iter,[],sc⟩) G.toGood h3
 show PS X _ (i5 (mU Γ.K (uq Γ.K (ag Γ ra)) (some 2) fv (u0 Γ.calm cond) (ag Γ.calm elt)) (dS i))
 rw[←G.K]
 have hH:Hd X:=G.pe hq
 refine Mb (Φ:=Hd) (Ψ:=gj X.A) (by rw[G.N];exact G.nd) (by rw[G.N];exact h0.1) (by rw[G.sc];exact yx h0.2) ?_ o1 YL (fun _ _ _ _ I=>hH.at I) (YI hi) (YK (o2 n1 (by simp)) (o2 n2 (by simp)) o3) ?_ (fun ex C s H=>he _ (G.toGood.inner ⟨.Constant .none 0 ⟨0,0,0,0⟩, .Tuple [.Name n1 p1, .Name n2 p2] kt tp,iter,[],sc⟩ [n1,n2] fv ex C s H)) (vo o4) (.inl (G.jV x))
 ·have e1:X.env.kindOf x=some .local:=by show X.env.scope.names.lookup x=_;rw[G.sc];exact hs.1.1.2
  have e2:X.env.blockKind= .function:=by unfold Env.blockKind;rw[G.m9];rfl
  unfold swapsWith
  simp only[e1,e2,hs.1.2,hs.2]
  show pure (true && true && (pc.line==pc.line) && !false)=pure true
  rw[beq_self_eq_true];rfl
 ·cases cond with
  | none=>exact hc
  | some r=>
   obtain⟨e0,q,hq⟩:=hc
   exact⟨e0,q,fun ex C s H=>hq _ (G.toGood.inner ⟨.Constant .none 0 ⟨0,0,0,0⟩, .Tuple [.Name n1 p1, .Name n2 p2] kt tp,iter,[],sc⟩ [n1,n2] fv ex C s H)⟩
theorem Nf(he:PE X v (ag Γ r))(ha:PE X a (ag Γ ra))(hb:PE X b (ag Γ rb))(h:vv b=true:=by kernel_rfl):PS X (.Assign [.Subscript a b p] v q) (bB Γ (.set ra rb r)):=
 TM he (TL ha hb set_list (by intro w;cases b<;>first | rfl | cases h)) (by exact Nc (o:=a) (i:=b) (p:=p) (l:=q.line) (env:=X.env)) ZO rfl
theorem Ng(G:aS CX S Γ X)(he:PE X v (ag Γ r))(ha:PE X a (ag Γ ra))(hb:PE X b (ag Γ rb)):PS X (.Assign [.Subscript a b p] v q) (bB Γ (.dput ra rb r)):=
 Wn (by have:=G.toGood.units;omega) ha hb he (by exact Nc (o:=a) (i:=b) (p:=p) (l:=q.line) (env:=X.env))
theorem sD{f:Str}(G:aS CX S Γ X)(ho:PE X a (ag Γ ra))(he:PE X v (ag Γ r))(h:yQ v=true:=by kernel_rfl):PS X (.Assign [.Attribute a f p] v q) (bB Γ (.mZ ra f r)):=by
 show PS X _ (AY Γ.K (ag Γ ra) (ag Γ r) f)
 rw[←G.K]
 exact UX ho he (Cs h)
theorem dg(he:PE X v (ag Γ r))(h:yQ v=true:=by kernel_rfl):PS X (.Expr v p) (bB Γ (.drop r)):=TC he (Cs h)
theorem bI(he:PE X v (ag Γ r)):PS X (.Return (some v) p) (bB Γ (.ret r)):=TF he
theorem bR{as bs:List Stmt}(hc:PT X c (bq Γ rc))(ha:bo X as (au Γ t))(hb:bo X bs (au Γ u)):PS X (.If c as bs p) (bB Γ (.ite rc t u)):=TJ hc ha hb
theorem ZQ{as:List Stmt}(G:aS CX S Γ X)(hc:PT X c (bq Γ rc))(ha:bo X as (au Γ t)):PS X (.While c as [] p) (bB Γ (.yv rc t)):=TQ G.own hc ha
theorem vz{k:IK}{its:List RE}{iter:Expr}{as:List Stmt}(G:aS CX S Γ X)(hi:PI X (.Name x p) iter (hU Γ k its))(ha:bo X as (au Γ t))(h:kL S i x=true:=by kernel_rfl)(hs:vc iter=true:=by kernel_rfl)(hq:S.md=0:=by rfl):PS X (.For (.Name x p) iter as [] q) (bB Γ (.oX i k its t)):=
 KC G.own (G.calm hq) hi (G.name h) ha (vo hs)
theorem Nh(G:aS CX S Γ X): ∀(is:List Nat) (xs:List (Str×Pos)),sx S.N S.sc is (xs.map (·.1))=true→
  oB X (xs.map fun y=> .Name y.1 y.2) (vt is)∧(assignEach (xs.map fun y=>Expr.Name y.1 y.2) X.env).length=is.length∧(assignEach (xs.map fun y=>Expr.Name y.1 y.2) X.env).findIdx? (·.1)=none
 | [],xs,h=>by
  simp only[sx,List.isEmpty_iff,List.map_eq_nil_iff] at h
  subst h;exact⟨AQ,rfl,rfl⟩
 | i::r,[],h=>by simp only[List.map_nil,sx] at h;cases h
 | i::r,y::t,h=>by
  simp only[List.map_cons,sx,Bool.and_eq_true] at h
  obtain⟨i1,i2,i3⟩:=Nh G r t h.2
  refine⟨uo (G.name (by simp only[kL,Bool.and_eq_true];exact h.1)) i1 rfl, ?_, ?_⟩
  ·show(assignEach _ X.env).length+1=r.length+1
   rw[i2]
  ·show List.findIdx? (·.1) ((false,assign (.Name y.1 y.2) X.env)::assignEach _ X.env)=none
   rw[List.findIdx?_cons,i3];rfl
theorem pw{is:List Nat}{k:IK}{its:List RE}{iter:Expr}{as:List Stmt}{kt}{tp:Pos}(xs:List (Str×Pos))(G:aS CX S Γ X)(hi:PI X (.Tuple (xs.map fun y=> .Name y.1 y.2) kt tp) iter (hU Γ k its))(ha:bo X as (au Γ t))(h:sx S.N S.sc is (xs.map (·.1))=true:=by kernel_rfl)(hs:vc iter=true:=by kernel_rfl)(hq:S.md=0:=by rfl):
  PS X (.For (.Tuple (xs.map fun y=> .Name y.1 y.2) kt tp) iter as [] q) (bB Γ (.kY is k its t)):=by
 obtain⟨i1,i2,i3⟩:=Nh G is xs h
 show PS X _ (xJ (hU Γ k its) (yP Γ.K is.length (vt is)) (au Γ t))
 rw[←G.K]
 exact KC G.own (G.calm hq) hi (Zy (G.calm hq) i1 i2 i3) ha (vo hs)
def kX(S:dj)(j:Nat)(x:Str):Bool:=decide (S.en[j]?=some x) && kZ S.sc x && !(x==("__debug__":Str))
theorem vA{rs:List RE}{np cL:Pos}(G:aS CX S Γ X)(hA:PA X (e::es) (bH Γ (r::rs)))(h:kX S j x=true:=by kernel_rfl)(hn:fO (e::es)=true:=by kernel_rfl)(hq:S.md=0:=by rfl):PS X (.Raise (some (.Call (.Name x np) (e::es) [] cL)) none pos) (bB Γ (.oY j (r::rs))):=by
 simp only[kX,Bool.and_eq_true,decide_eq_true_eq,Bool.not_eq_true'] at h
 obtain⟨bm,B,newId,sk,O,FB⟩:=G.sv j x h.1.1
 exact Yp (G.calm hq) O FB (G.gl h.1.2) h.2 hA (dI (dc hn).1) (jU _ _ es (dc hn).2) (G.rs j x h.1.1)
abbrev tS(S:dj):dj:={S with en:=[]}
abbrev hS(S:dj):dj:={S with en:=[],md:=2}
theorem aS.ZR(G:aS CX S Γ X)(pn:List (Addr×Obj))(xe:Value→Shared→Prop)(E:XK)(ho:PassesOwn (model X.prog X.w) X.A X.env xe)(hp:Passes (eI X.prog X.w) (X.alt X.A X.calm pn xe) E):
  aS CX (tS S) {Γ with E:=E} (X.alt X.A X.calm pn xe):=
 {N:=G.N,sc:=G.sc,K:=G.K,calm:=G.calm,units:=G.units,fns:=G.fns,ez:=G.ez,fN:=G.fN,pass:=by rw[G.ph];exact hp,jT:=G.jT,lq:=G.lq,lu:=G.lu,m7:=G.m7,
  sv:=fun _ _ h=> (by simp at h),lA:=G.lA,m8:=G.m8,pe:=G.pe,nd:=G.nd,jV:=G.jV,own:=ho,m9:=G.m9,rs:=fun _ _ h=> (by simp at h),iG:=G.iG,fM:=G.fM,pf:=G.pf,ph:=G.ph}
theorem aS.held(G:aS CX S Γ X)(ea:Addr)(pn:List (Addr×Obj)):
  aS CX (hS S) {Γ with E:=E0,hv:=some ea} (X.alt (X.A.mark (some (.ref ea))) false pn fun _ _=>False):=
 {N:=G.N,sc:=G.sc,K:=G.K,calm:=fun h=> (nomatch h),units:=G.units,fns:=fun h=> (nomatch h),ez:=G.ez,fN:=G.fN,pass:=fun _ _ _ _ _ _ _ h=> (G.jT _ _ _ _ _ h).elim,jT:=G.jT,lq:=G.lq,lu:=fun h=> (nomatch h),m7:=fun h=> (nomatch h),
  sv:=fun _ _ h=> (by simp at h),lA:=fun j x h=> (by
   obtain⟨k,f,fd,ps,F,r,m⟩:=G.lA j x h
   exact⟨k,f,fd,ps,F,r.mark _,m⟩),
  m8:=fun e h=> (by cases h;rfl),pe:=fun h=> (nomatch h),nd:=G.nd,jV:=G.jV,own:=PassesOwn.never,m9:=G.m9,rs:=fun _ _ h=> (by simp at h),iG:=G.iG,fM:=G.fM,pf:=G.pf,ph:=G.ph}
theorem ZS{n:Nat}{y:Str}{np vj:Pos}{body su:List Stmt}{b₀:Stmt}{rb vB:List RS}(G:aS CX S Γ X)(h:kG S j x=true)(hn:(decide (S.N.length=n) && decide (S.N[i]?=some y) && decide (S.sc.names.lookup y=some .local))=true)
  (hb: ∀{Γ:aJ} {X:Cx},aS CX (tS S) Γ X→bo X body (au Γ rb)) (hs: ∀{Γ:aJ} {X:Cx},aS CX (hS S) Γ X→bo X (b₀::su) (au Γ vB)):
  PS X (.Try body [.ExceptHandler (some (.Name x np)) (some y) (b₀::su) vj] [] [] pos) (bB Γ (.BK n i j rb vB)):=by
 simp only[kG,Bool.and_eq_true,decide_eq_true_eq,Bool.not_eq_true'] at h hn
 obtain⟨u,hm,hu⟩:=G.ez j x h.1.1
 intro pins s σ H D I q
 obtain⟨C,e,q⟩:=(show ∃C,Γ.gv j= .ref C∧yq Γ.K C i n (fun E=>au {Γ with E:=E} rb) (fun ea=>au {Γ with E:=E0,hv:=some ea} vB) D σ H from q)
 rw[e] at hu
 have uR:u= .ref C:=hu
 subst uR
 have hl:X.N.length=n:=by rw[G.N];exact hn.1.1
 have q':yq X.K C i X.N.length (fun E=>au {Γ with E:=E} rb) (fun ea=>au {Γ with E:=E0,hv:=some ea} vB) D σ H:=by rw[G.K,hl];exact q
 exact Ys (tb:=fun E=>au {Γ with E:=E} rb) (th:=fun ea=>au {Γ with E:=E0,hv:=some ea} vB) G.iG G.fM G.pf (G.gl h.1.2) h.2 hm (by rw[G.N];exact G.nd) (by rw[G.N];exact hn.1.2) (by rw[G.sc];exact hn.2)
  (fun pn xe E ho hp=>hb (G.ZR pn xe E ho hp)) (fun ea pn=>hs (G.held ea pn)) pins s σ H D I q'
end
section
variable {P:Program} {w:World} {K:PySem.W.Frag} {mg:Str→Option Value} {base:Heap}
def cf(P:Program)(w:World)(K:PySem.W.Frag)(mg:Str→Option Value)(base:Heap)(k:Nat)(x:Str)(sp:Sp):Prop:=
 ∃f fd ps,cB P w K mg base (eI P w) k f fd ps sp∧mg x=some (.ref f)∧keepIn K (.ref f)=true∧Binds K fd ps []
theorem cf.mono{j k:Nat}{x:Str}{sp:Sp}(h:cf P w K mg base j x sp)(hk:j≤k):cf P w K mg base k x sp:=by
 obtain⟨f,fd,ps,F,r⟩:=h
 exact⟨f,fd,ps,F.mono hk,r⟩
def nh(tab:List (Str×Sp))(j:Nat):Sp:=match tab[j]? with
 | some p=>p.2
 | none=>fun _ _ _ _=>False
def pz(tab:List (Str×V))(j:Nat):V:=match tab[j]? with
 | some p=>p.2
 | none=> .aw
structure fu (mg:Str→Option Value) (p:Str×V):Prop where
 ex: ∃u,mg p.1=some u∧RelV p.2 u
def jX(tab:List (Str×Addr×Sp))(j:Nat):Addr×Sp:=match tab[j]? with
 | some p=>p.2
 | none=> (0,fun _ _ _ _=>False)
def yS(tab:List (Str×Addr))(j:Nat):Addr:=match tab[j]? with
 | some p=>p.2
 | none=>0
abbrev aU(K:PySem.W.Frag)(tab:List (Str×Sp))(gt:List (Str×V))(dk:List (Addr×List (Key×V)):=[])(mt kt:List (Str×Addr×Sp):=[])(et:List (Str×Addr):=[])(ht:List (Str×Sp):=[])(E:XK:=E0):aJ:=
 {K:=K,fs:=nh tab,gv:=pz gt,E:=E,sd:=fun p ah=> (p,ah)∈dk,ms:=jX mt,kt:=jX kt,ex:=yS et,hs:=nh ht,hv:=none}
def jY(P:Program)(w:World)(K:PySem.W.Frag)(mg:Str→Option Value)(base:Heap)(k:Nat)(p:Str×Addr×Sp):Prop:=
 i_ K p.2.1∧ ∃f fd ps,Meth K p.2.1 p.1 f∧cB P w K mg base (eI P w) k f fd ps p.2.2∧Binds K fd ps []
def vC(P:Program)(w:World)(K:PySem.W.Frag)(mg:Str→Option Value)(base:Heap)(k:Nat)(p:Str×Addr×Sp):Prop:=
 ∃j f fd ps,j+1≤k∧Mk K p.2.1 f∧cB P w K mg base (eI P w) j f fd ps p.2.2∧mg p.1=some (.ref p.2.1)∧Binds K fd ps []
theorem jY.mono{j k:Nat}{p:Str×Addr×Sp}(h:jY P w K mg base j p)(hk:j≤k):jY P w K mg base k p:=by
 obtain⟨c,f,fd,ps,m,F,b⟩:=h
 exact⟨c,f,fd,ps,m,F.mono hk,b⟩
theorem vC.mono{j k:Nat}{p:Str×Addr×Sp}(h:vC P w K mg base j p)(hk:j≤k):vC P w K mg base k p:=by
 obtain⟨i,f,fd,ps,m,r⟩:=h
 exact⟨i,f,fd,ps,Nat.le_trans m hk,r⟩
def ZT(P:Program)(w:World)(K:PySem.W.Frag)(q:Addr×List (Key×V)):Prop:= ∀h:Heap,K.In h→ ∃vs,KV q.2 vs∧h.DictOf (dQ P w) q.1 vs
abbrev br(N:List Str)(sc:Scope)(tab:List Str)(gt:List Str)(bl:List Str)(mn kn:List Str:=[])(en hn:List Str:=[])(md:Nat:=0):dj:={N:=N,sc:=sc,fn:=tab,gn:=gt,bl:=bl,mn:=mn,kn:=kn,en:=en,hn:=hn,md:=md}
def yT(mg:Str→Option Value)(base:Heap)(p:Str×Addr):Prop:= ∃bm B newId sk,OwnCls p.1 p.2 bm newId mg base∧ExcBaseFacts B newId sk bm
def sG(P:Program)(w:World)(K:PySem.W.Frag)(mg:Str→Option Value)(base:Heap)(k:Nat)(x:Str)(sp:Sp):Prop:=
 ∃f fd ps,pd P w K mg base k f fd ps sp∧mg x=some (.ref f)∧keepIn K (.ref f)=true∧Binds K fd ps []
theorem sG.mono{P:Program}{w:World}{K:PySem.W.Frag}{mg:Str→Option Value}{base:Heap}{j k:Nat}{x:Str}{sp:Sp}(h:sG P w K mg base j x sp)(hk:j≤k):sG P w K mg base k x sp:=by
 obtain⟨f,fd,ps,F,r⟩:=h
 exact⟨f,fd,ps,F.mono hk,r⟩
theorem bX{x qual:Str}{st:Stmt}{f:Addr}{fd:FuncData}{N ps:List Str}{k:Nat}{sp:Sp}(F:uG K x qual st f fd)(S:bQ N ps (ay st))
  (tab:List (Str×Sp)) (gt:List (Str×V)) (bl:List Str) (mt kt:List (Str×Addr×Sp)) (et:List (Str×Addr)) (ht:List (Str×Sp)) (body:List RS)
  (hm: ∀{CX:aO} {Γ:aJ} {X:Cx},aS CX (br N (ay st) (tab.map (·.1)) (gt.map (·.1)) bl (mt.map (·.1)) (kt.map (·.1)) (et.map (·.1)) (ht.map (·.1))) Γ X→bo X (aF st) (au Γ body))
  (ZU: ∀p∈tab,cf P w K mg base k p.1 p.2) (Ct: ∀p∈gt,fu mg p) (lG: ∀y∈bl,mg y=none) (dk:List (Addr×List (Key×V))) (ZV: ∀q∈dk,ZT P w K q)
  (ZW: ∀p∈mt,jY P w K mg base k p) (ZX: ∀p∈kt,vC P w K mg base k p) (het: ∀p∈et,yT mg base p) (ZY: ∀p∈ht,sG P w K mg base k p.1 p.2)
  (len: ∀vs H Q E,sp vs H Q E→vs.length=ps.length)
  (Cu: ∀vs H Q E,sp vs H Q E→au (aU K tab gt dk mt kt et ht E) body {nx:=fun _ H'=>Q .aw H',rt:=Q} (start N vs) H):cB P w K mg base (eI P w) (k+1) f fd ps sp:=by
 obtain⟨oc,od,kV,doc,pm,an,cU,ct,ja,rfl,lk,fH⟩:=F.ex
 refine U6 lk fH S len fun A outer s H vs Q E hr gc=> ⟨_,hm (CX:=eI P w) (Γ:=aU K tab gt dk mt kt et ht E) ?_,Cu vs H Q E gc⟩
 refine {N:=rfl,sc:=rfl,K:=rfl,calm:=fun _=>rfl,units:=hr.units,fns:=fun _ j y hj=> ?_,ez:=fun j y hj=> ?_,fN:=fun y hy=> ?_,pass:=Yn,jT:=fun _ _ _ _ _ h=>yE h,lq:=fun p ah h=>ZV _ h,lu:=fun _ j y hj=> ?_,m7:=fun _ j y hj=> ?_,sv:=fun j y hj=> ?_,lA:=fun j y hj=> ?_,m8:=fun _ h=> (nomatch h),pe:=fun h=> (nomatch h),nd:=S.nd,jV:=fun _=>rfl,own:=PassesOwn.leaving,m9:=S.kind,rs:=fun _ _ _=>Yo,iG:=rfl,fM:=rfl,pf:=rfl,ph:=rfl}
 ·have bT:(tab.map (·.1))[j]?=some y:=hj
  rw[List.getElem?_map] at bT
  cases q:tab[j]? with
  | none=>rw[q] at bT;cases bT
  | some p=>
   rw[q] at bT
   have e:p.1=y:=Option.some.inj bT
   obtain⟨f',pA,pB,F',m',k',b'⟩:=ZU p (List.mem_of_getElem? q)
   have es:nh tab j=p.2:=by unfold nh;rw[q]
   show MN (eI P w) _ y (nh tab j)
   rw[es,←e]
   exact⟨k,f',pA,pB,F',hr,m',k',b'⟩
 ·have bT:(gt.map (·.1))[j]?=some y:=hj
  rw[List.getElem?_map] at bT
  cases q:gt[j]? with
  | none=>rw[q] at bT;cases bT
  | some p=>
   rw[q] at bT
   have e:p.1=y:=Option.some.inj bT
   obtain⟨u,h1,h2⟩:=(Ct p (List.mem_of_getElem? q)).ex
   have es:pz gt j=p.2:=by unfold pz;rw[q]
   show ∃u,mg y=some u∧RelV (pz gt j) u
   rw[es,←e]
   exact⟨u,h1,h2⟩
 ·exact lG y (by simpa using hy)
 ·have bT:(mt.map (·.1))[j]?=some y:=hj
  rw[List.getElem?_map] at bT
  cases q:mt[j]? with
  | none=>rw[q] at bT;cases bT
  | some p=>
   rw[q] at bT
   have e:p.1=y:=Option.some.inj bT
   obtain⟨c,f',pA,pB,m',F',b'⟩:=ZW p (List.mem_of_getElem? q)
   have es:jX mt j=p.2:=by unfold jX;rw[q]
   show yJ (eI P w) _ (jX mt j).1 y (jX mt j).2
   rw[es,←e]
   exact⟨c,k,f',pA,pB,m',F',hr,b'⟩
 ·have bT:(kt.map (·.1))[j]?=some y:=hj
  rw[List.getElem?_map] at bT
  cases q:kt[j]? with
  | none=>rw[q] at bT;cases bT
  | some p=>
   rw[q] at bT
   have e:p.1=y:=Option.some.inj bT
   obtain⟨i,f',pA,pB,hi,m',F',g',b'⟩:=ZX p (List.mem_of_getElem? q)
   have es:jX kt j=p.2:=by unfold jX;rw[q]
   show MO (eI P w) _ y (jX kt j).1 (jX kt j).2
   rw[es,←e]
   exact⟨i,f',pA,pB,m',F',hr.mono hi,g',b'⟩
 ·have bT:(et.map (·.1))[j]?=some y:=hj
  rw[List.getElem?_map] at bT
  cases q:et[j]? with
  | none=>rw[q] at bT;cases bT
  | some p=>
   rw[q] at bT
   have e:p.1=y:=Option.some.inj bT
   have es:yS et j=p.2:=by unfold yS;rw[q]
   show MQ _ y (yS et j)
   rw[es,←e]
   exact het p (List.mem_of_getElem? q)
 ·have bT:(ht.map (·.1))[j]?=some y:=hj
  rw[List.getElem?_map] at bT
  cases q:ht[j]? with
  | none=>rw[q] at bT;cases bT
  | some p=>
   rw[q] at bT
   have e:p.1=y:=Option.some.inj bT
   obtain⟨f',pA,pB,F',m',k',b'⟩:=ZY p (List.mem_of_getElem? q)
   have es:nh ht j=p.2:=by unfold nh;rw[q]
   show MP _ y (nh ht j)
   rw[es,←e]
   exact⟨k,f',pA,pB,F',hr.h,m',k',b'⟩
section
variable {x qual:Str} {st:Stmt} {f C:Addr} {fd:FuncData} {N ps:List Str} {k:Nat} {sp:Sp}
end
end
section
variable {P:Program} {w:World} {K:PySem.W.Frag} {mg:Str→Option Value} {base:Heap} {x qual:Str} {st:Stmt} {f:Addr} {fd:FuncData} {N ps:List Str} {k:Nat} {sp:Sp}
theorem ZZ(F:uG K x qual st f fd)(S:bQ N ps (ay st))(kR:mg x=some (.ref f))(hb:Binds K fd ps [])
  (gt:List (Str×V)) (bl:List Str) (body:List RS)
  (hm: ∀{CX:aO} {Γ:aJ} {X:Cx},aS CX (br N (ay st) [] (gt.map (·.1)) bl (md:=1)) Γ X→bo X (aF st) (au Γ body))
  (Ct: ∀p∈gt,fu mg p) (lG: ∀y∈bl,mg y=none) (len: ∀vs H Q E,sp vs H Q E→vs.length=ps.length)
  (Cu: ∀vs H Q,sp vs H Q E0→au (aU K [] gt) body {nx:=fun _ H'=>Q .aw H',rt:=Q} (start N vs) H):sG P w K mg base (k+1) x sp:=by
 obtain⟨oc,od,kV,doc,pm,an,cU,ct,ja,rfl,lk,fH⟩:=F.ex
 refine⟨f,_,ps,YO (CX:=eI P w) lk fH S len fun A outer s H vs Q hr hh gc=> ⟨_,hm (CX:=eI P w) (Γ:=aU K [] gt) ?_,Cu vs H Q gc⟩,kR,F.kp,hb⟩
 refine {N:=rfl,sc:=rfl,K:=rfl,calm:=fun h=> (nomatch h),units:=hr.units,fns:=fun h=> (nomatch h),ez:=fun j y hj=> ?_,fN:=fun y hy=> ?_,pass:=fun _ _ _ _ _ _ _ h=> (yE h).elim,jT:=fun _ _ _ _ _ h=>yE h,lq:=fun p ah h=> (nomatch h),lu:=fun h=> (nomatch h),m7:=fun h=> (nomatch h),sv:=fun j y hj=> (nomatch hj),lA:=fun j y hj=> (nomatch hj),m8:=fun _ h=> (nomatch h),pe:=fun _=>YR hh,nd:=S.nd,jV:=fun _=>rfl,own:=PassesOwn.never,m9:=S.kind,rs:=fun _ _ hj=> (nomatch hj),iG:=rfl,fM:=rfl,pf:=rfl,ph:=rfl}
 ·have bT:(gt.map (·.1))[j]?=some y:=hj
  rw[List.getElem?_map] at bT
  cases q:gt[j]? with
  | none=>rw[q] at bT;cases bT
  | some p=>
   rw[q] at bT
   have e:p.1=y:=Option.some.inj bT
   obtain⟨u,h1,h2⟩:=(Ct p (List.mem_of_getElem? q)).ex
   have es:pz gt j=p.2:=by unfold pz;rw[q]
   show ∃u,mg y=some u∧RelV (pz gt j) u
   rw[es,←e]
   exact⟨u,h1,h2⟩
 ·exact lG y (by simpa using hy)
theorem cB.top{k:Nat}(F:cB P w K mg base (eI P w) k f fd ps sp):cB P w K mg base yf k f fd ps (fun vs H Q _=>sp vs H Q E0):=
 ⟨fun vs H Q E h=>F.len vs H Q E0 h,fun A outer s H args us vs Q E hr e0 hb hv hs=>codeAny_mono (F.run A outer s H args us vs Q E0 hr e0 hb hv hs) fun r s' h=>by
  cases r with
  | error e=>exact(yE h).elim
  | ok fl=>cases fl<;>exact h⟩
end
section
variable {Γ:aJ} {D:Ends} {σ:St} {H:Hp} {r:List RS} {Q:VK}
theorem Cv{i:Nat}{e:RE}(h:ag Γ e σ H fun x H1=>au Γ r D (σ.set i (some x)) H1):au Γ (.asg i e::r) D σ H:=h
theorem Cw{i:Nat}{e:RE}(h:ag Γ e σ H fun x H1=>au Γ r D (σ.set i (some x)) H1):au Γ (.oW i e::r) D σ H:=h
theorem Z0{c:RE}{t e:List RS}(h:bq Γ c σ H fun b H1=>if b=true then au Γ t {D with nx:=au Γ r D} σ H1 else au Γ e {D with nx:=au Γ r D} σ H1):au Γ (.ite c t e::r) D σ H:=h
theorem Ni{b:kW}{as:List RE}(h:bH Γ as σ H fun vs H1=>oZ Γ.K b vs H1 Q):ag Γ (.blt b as) σ H Q:=h
theorem Nj{a:RE}{Q:List V→Hp→Prop}(h:ag Γ a σ H fun x H1=>Q [x] H1):bH Γ [a] σ H Q:=h
end
end L2
namespace L2.B
open PySem PySem.Spec PyProof.Rows
def Cy:List Str:=["thing"]
def Nk:List Str:=["thing"]
noncomputable def Cz:List RS:=
 [.ret (.and [(.dG .int (.v 0)),(.not (.dG .bool (.v 0)))])]
def Z1:List Str:=[]
def Z2:List Str:=[]
def Nl:List Str:=["isinstance","int","bool"]
def Z3:List Str:=[]
def Z4:List Str:=[]
def Z5:List Str:=[]
def Z6:List Str:=[]
def yU:List Str:=["thing","words"]
def Nm:List Str:=["thing","words"]
noncomputable def yV:List RS:=
 [.ret (.and [(.dG .str (.v 0)),(.cmp .In (.v 0) (.v 1))])]
def Z7:List Str:=[]
def Z8:List Str:=[]
def Nn:List Str:=["isinstance","str"]
def Z9:List Str:=[]
def Z_:List Str:=[]
def aaa:List Str:=[]
def aab:List Str:=[]
def yW:List Str:=["thing"]
def Np:List Str:=["thing"]
noncomputable def yX:List RS:=
 [.ret (.and [(.dG .str (.v 0)),(.cmp .Eq (.cb .lstrip (.v 0) [(.g 0)]) (.c (.str "")))])]
def aac:List Str:=[]
def aad:List Str:=["SIGNS"]
def Nq:List Str:=["isinstance","str"]
def aae:List Str:=[]
def aaf:List Str:=[]
def aag:List Str:=[]
def aah:List Str:=[]
def vD:List Str:=["thing"]
def Nr:List Str:=["thing"]
noncomputable def vE:List RS:=
 [.ite (.or [(.not (.dG .tuple (.v 0))),(.cmp .NotEq (.blt .len [(.v 0)]) (.c (.int 2)))]) [.ret (.c (.bl false))] [],
 .ite (.call 0 [(.ix (.v 0) (.c (.int 0))),(.tup [(.c (.str "keep"))])]) [.ret (.and [(.call 1 [(.ix (.v 0) (.c (.int 1)))]),(.cmp .GtE (.ix (.v 0) (.c (.int 1))) (.c (.int 1)))])] [],
 .ret (.and [(.call 0 [(.ix (.v 0) (.c (.int 0))),(.tup [(.c (.str "cut")),(.c (.str "put"))])]),(.call 2 [(.ix (.v 0) (.c (.int 1)))]),(.cmp .NotEq (.ix (.v 0) (.c (.int 1))) (.c (.str "")))])]
def aai:List Str:=["is_word","is_whole","is_text"]
def aaj:List Str:=[]
def Nt:List Str:=["isinstance","tuple","len"]
def aak:List Str:=[]
def aal:List Str:=[]
def aam:List Str:=[]
def aan:List Str:=[]
def CA:List Str:=["word","ahead"]
def Nu:List Str:=["word","ahead"]
noncomputable def CB:List RS:=
 [.ret (.and [(.cmp .NotEq (.v 0) (.v 1)),(.not (.and [(.cmp .Eq (.v 1) (.c (.str "cut"))),(.cmp .Eq (.v 0) (.c (.str "put")))]))])]
def aao:List Str:=[]
def aap:List Str:=[]
def Nv:List Str:=[]
def aaq:List Str:=[]
def aar:List Str:=[]
def aas:List Str:=[]
def aat:List Str:=[]
def yY:List Str:=["change","ahead","part"]
def Nw:List Str:=["change"]
noncomputable def vF:List RS:=
 [.ite (.not (.dG .list (.v 0))) [.oY 0 [(.c (.str "a change is a list"))]] [],
 .asg 1 (.c (.str "")),
 .oX 2 .list [(.v 0)] [.ite (.not (.call 0 [(.v 2)])) [.oY 0 [(.c (.str "a part is a keep of 1 sign or more, or a cut or put of a text that is not empty"))]] [],
  .ite (.not (.call 1 [(.ix (.v 2) (.c (.int 0))),(.v 1)])) [.oY 0 [(.c (.str "neighbours have two words, and no put stands right behind a cut"))]] [],
  .asg 1 (.ix (.v 2) (.c (.int 0)))]]
def aau:List Str:=["is_part","may_follow"]
def aav:List Str:=[]
def CD:List Str:=["isinstance","list"]
def aaw:List Str:=[]
def aax:List Str:=[]
def aay:List Str:=["BadChange"]
def aaz:List Str:=[]
def CG:List Str:=["part"]
def Nx:List Str:=["part"]
noncomputable def CH:List RS:=
 [.ret (.uV (.cmp .Eq (.ix (.v 0) (.c (.int 0))) (.c (.str "keep"))) (.ix (.v 0) (.c (.int 1))) (.blt .len [(.ix (.v 0) (.c (.int 1)))]))]
def aaA:List Str:=[]
def aaB:List Str:=[]
def Ny:List Str:=["len"]
def aaC:List Str:=[]
def aaD:List Str:=[]
def aaE:List Str:=[]
def aaF:List Str:=[]
def yZ:List Str:=["change","over","gives"]
def Nz:List Str:=["change"]
noncomputable def vG:List RS:=
 [.drop (.call 0 [(.v 0)]),
 .asg 1 (.blt .sum [(.comp none [] .list [(.v 0)] (some (.cmp .NotEq (.ix (.v 0) (.c (.int 0))) (.c (.str "put")))) (.call 1 [(.v 0)]))]),
 .asg 2 (.blt .sum [(.comp none [] .list [(.v 0)] (some (.cmp .NotEq (.ix (.v 0) (.c (.int 0))) (.c (.str "cut")))) (.call 1 [(.v 0)]))]),
 .ret (.tup [(.v 1),(.v 2)])]
def aaG:List Str:=["need_change","part_size"]
def aaH:List Str:=[]
def CI:List Str:=["sum"]
def aaI:List Str:=[]
def aaJ:List Str:=[]
def aaK:List Str:=[]
def aaL:List Str:=[]
def CJ:List Str:=["change","size"]
def NA:List Str:=["change","size"]
noncomputable def CK:List RS:=
 [.ite (.and [(.cmp .Gt (.blt .len [(.v 0)]) (.c (.int 0))),(.cmp .Eq (.ix (.ix (.v 0) (.neg (.c (.int 1)))) (.c (.int 0))) (.c (.str "keep")))]) [.asg 1 (.bin .Add (.v 1) (.ix (.cb .pop (.v 0) []) (.c (.int 1))))] [],
 .drop (.cb .append (.v 0) [(.tup [(.c (.str "keep")),(.v 1)])])]
def aaM:List Str:=[]
def aaN:List Str:=[]
def NB:List Str:=["len"]
def aaO:List Str:=[]
def aaP:List Str:=[]
def aaQ:List Str:=[]
def aaR:List Str:=[]
def CL:List Str:=["change","puts","cuts","put","cut"]
def NC:List Str:=["change","puts","cuts"]
noncomputable def CM:List RS:=
 [.asg 3 (.cb .join (.c (.str "")) [(.v 1)]),
 .asg 4 (.cb .join (.c (.str "")) [(.v 2)]),
 .ite (.cmp .NotEq (.v 3) (.c (.str ""))) [.drop (.cb .append (.v 0) [(.tup [(.c (.str "put")),(.v 3)])])] [],
 .ite (.cmp .NotEq (.v 4) (.c (.str ""))) [.drop (.cb .append (.v 0) [(.tup [(.c (.str "cut")),(.v 4)])])] []]
def aaS:List Str:=[]
def aaT:List Str:=[]
def ND:List Str:=[]
def aaU:List Str:=[]
def aaV:List Str:=[]
def aaW:List Str:=[]
def aaX:List Str:=[]
def CN:List Str:=["parts","change","puts","cuts","word","what"]
def NF:List Str:=["parts"]
noncomputable def CO:List RS:=
 [.asg 1 (.lst []),
 .asg 2 (.lst []),
 .asg 3 (.lst []),
 .kY [4,5] .list [(.v 0)] [.ite (.cmp .Eq (.v 4) (.c (.str "put"))) [.drop (.cb .append (.v 2) [(.v 5)])] [.ite (.cmp .Eq (.v 4) (.c (.str "cut"))) [.drop (.cb .append (.v 3) [(.v 5)])] [.ite (.cmp .Gt (.v 5) (.c (.int 0))) [.drop (.call 0 [(.v 1),(.v 2),(.v 3)]),
     .asg 2 (.lst []),
     .asg 3 (.lst []),
     .drop (.call 1 [(.v 1),(.v 5)])] []]]],
 .drop (.call 0 [(.v 1),(.v 2),(.v 3)]),
 .ret (.v 1)]
def aaY:List Str:=["add_texts","add_keep"]
def aaZ:List Str:=[]
def NG:List Str:=[]
def aa0:List Str:=[]
def aa1:List Str:=[]
def aa2:List Str:=[]
def aa3:List Str:=[]
def CP:List Str:=["_law_script","_law_k"]
def NH:List Str:=["_law_script","_law_k"]
noncomputable def CQ:List RS:=
 [.ite (.cmp .Lt (.v 1) (.blt .len [(.v 0)])) [.ret (.ix (.v 0) (.v 1))] [],
 .ret (.c (.int 0))]
def aa4:List Str:=[]
def aa5:List Str:=[]
def NI:List Str:=["len"]
def aa6:List Str:=[]
def aa7:List Str:=[]
def aa8:List Str:=[]
def aa9:List Str:=[]
def CS:List Str:=["_law_cell","_law_k","_law_number"]
def NJ:List Str:=["_law_cell","_law_k"]
noncomputable def CT:List RS:=
 [.asg 2 (.bin .Mod (.bin .Add (.bin .Add (.bin .Mult (.v 0) (.c (.int 48271))) (.bin .Mult (.c (.int 7919)) (.v 1))) (.c (.int 11))) (.c (.int 1000003))),
 .ret (.bin .Mod (.bin .Mult (.bin .Mod (.bin .Mult (.v 2) (.v 2)) (.c (.int 1000003))) (.v 2)) (.c (.int 1000003)))]
def aa_:List Str:=[]
def aba:List Str:=[]
def NK:List Str:=[]
def abb:List Str:=[]
def abc:List Str:=[]
def abd:List Str:=[]
def abe:List Str:=[]
def CU:List Str:=["_law_cell","_law_size_here","_law_some"]
def NL:List Str:=["_law_cell","_law_size_here"]
noncomputable def CV:List RS:=
 [.asg 2 (.c (.str " !\"#$&'()*+,-./0123456789:;<=>?@ABCDEFGHIJKLMNOPQRSTUVWXYZ[\\]^_`")),
 .asg 2 (.bin .Add (.v 2) (.c (.str "abcdefghijklmnopqrstuvwxyz{|}~\n"))),
 .ite (.cmp .Eq (.bin .Mod (.v 0) (.c (.int 3))) (.c (.int 0))) [.asg 2 (.c (.str "ab\n"))] [],
 .ret (.cb .join (.c (.str "")) [(.comp none [("_law_some",2),("_law_cell",0)] .eO [(.v 1)] none (.ix (.v 1) (.bin .Mod (.bin .FloorDiv (.call 0 [(.v 2),(.v 0)]) (.c (.int 7))) (.blt .len [(.v 1)]))))])]
def abf:List Str:=["_law_mixed"]
def abg:List Str:=[]
def NM:List Str:=["range","len"]
def abh:List Str:=[]
def abi:List Str:=[]
def abj:List Str:=[]
def abk:List Str:=[]
def CW:List Str:=["_law_cell"]
def NN:List Str:=["_law_cell"]
noncomputable def CY:List RS:=
 [.ite (.cmp .Eq (.bin .Mod (.v 0) (.c (.int 8))) (.c (.int 1))) [.ret (.bin .Mod (.bin .FloorDiv (.v 0) (.c (.int 8))) (.c (.int 401)))] [],
 .ret (.bin .Mod (.bin .FloorDiv (.v 0) (.c (.int 8))) (.c (.int 25)))]
def abl:List Str:=[]
def abm:List Str:=[]
def NO:List Str:=[]
def abn:List Str:=[]
def abo:List Str:=[]
def abp:List Str:=[]
def abq:List Str:=[]
def CZ:List Str:=["_law_cell","_law_text_here","_law_many","_law_parts_here","_law_at","_law_k","_law_number","_law_size_here","_law_left"]
def NQ:List Str:=["_law_cell","_law_text_here","_law_many"]
noncomputable def C0:List RS:=
 [.asg 3 (.lst []),
 .asg 4 (.c (.int 0)),
 .oX 5 .eO [(.v 2)] [.asg 6 (.call 0 [(.v 0),(.bin .Add (.c (.int 50)) (.v 5))]),
  .asg 7 (.ix (.lst [(.c (.int 1)),(.c (.int 2)),(.c (.int 0)),(.c (.int 3)),(.c (.int 5)),(.c (.int 40))]) (.bin .Mod (.bin .FloorDiv (.v 6) (.c (.int 4))) (.c (.int 6)))),
  .asg 8 (.blt .min [(.v 7),(.bin .Sub (.blt .len [(.v 1)]) (.v 4))]),
  .ite (.cmp .Eq (.bin .Mod (.v 6) (.c (.int 4))) (.c (.int 3))) [.drop (.cb .append (.v 3) [(.tup [(.c (.str "put")),(.call 1 [(.v 6),(.v 7)])])])] [.ite (.cmp .Eq (.bin .Mod (.v 6) (.c (.int 4))) (.c (.int 2))) [.drop (.cb .append (.v 3) [(.tup [(.c (.str "cut")),(.sl (.v 1) (some (.v 4)) (some (.bin .Add (.v 4) (.v 8))))])])] [.drop (.cb .append (.v 3) [(.tup [(.c (.str "keep")),(.v 8)])])]],
  .ite (.cmp .Lt (.bin .Mod (.v 6) (.c (.int 4))) (.c (.int 3))) [.asg 4 (.bin .Add (.v 4) (.v 8))] []],
 .ret (.bin .Add (.v 3) (.lst [(.tup [(.c (.str "keep")),(.bin .Sub (.blt .len [(.v 1)]) (.v 4))])]))]
def abr:List Str:=["_law_mixed","_law_text"]
def abt:List Str:=[]
def NR:List Str:=["range","min","len"]
def abu:List Str:=[]
def abv:List Str:=[]
def abw:List Str:=[]
def abx:List Str:=[]
def y0:List Str:=["_law_parts_here","_law_rows","_law_word","_law_thing","_law_found","_law_put","_law_cut","_law_keep","_law_some"]
def NT:List Str:=["_law_parts_here"]
noncomputable def C1:List RS:=
 [.asg 1 (.lst [(.lst [(.c (.str "")),(.c (.str "")),(.c (.int 0))])]),
 .kY [2,3] .list [(.v 0)] [.ite (.cmp .Eq (.v 2) (.c (.str "keep"))) [.set (.ix (.v 1) (.neg (.c (.int 1)))) (.c (.int 2)) (.bin .Add (.ix (.ix (.v 1) (.neg (.c (.int 1)))) (.c (.int 2))) (.v 3))] [.ite (.cmp .NotEq (.v 3) (.c (.str ""))) [.ite (.cmp .Gt (.ix (.ix (.v 1) (.neg (.c (.int 1)))) (.c (.int 2))) (.c (.int 0))) [.drop (.cb .append (.v 1) [(.lst [(.c (.str "")),(.c (.str "")),(.c (.int 0))])])] [],
    .set (.ix (.v 1) (.neg (.c (.int 1)))) (.blt .int [(.cmp .Eq (.v 2) (.c (.str "cut")))]) (.bin .Add (.ix (.ix (.v 1) (.neg (.c (.int 1)))) (.blt .int [(.cmp .Eq (.v 2) (.c (.str "cut")))])) (.v 3))] []]],
 .asg 4 (.lst []),
 .kY [5,6,7] .list [(.v 1)] [.asg 8 (.lst [(.tup [(.c (.str "put")),(.v 5)]),(.tup [(.c (.str "cut")),(.v 6)]),(.tup [(.c (.str "keep")),(.v 7)])]),
  .asg 4 (.bin .Add (.v 4) (.comp none [] .list [(.v 8)] (some (.and [(.cmp .NotEq (.ix (.v 0) (.c (.int 1))) (.c (.str ""))),(.cmp .NotEq (.ix (.v 0) (.c (.int 1))) (.c (.int 0)))])) (.v 0)))],
 .ret (.v 4)]
def aby:List Str:=[]
def abz:List Str:=[]
def NU:List Str:=["int"]
def abA:List Str:=[]
def abB:List Str:=[]
def abC:List Str:=[]
def abD:List Str:=[]
def C2:List Str:=["_law_cell","_law_text_here","_law_many"]
def NV:List Str:=["_law_cell","_law_text_here","_law_many"]
noncomputable def C3:List RS:=
 [.ret (.call 0 [(.call 1 [(.v 0),(.v 1),(.v 2)])])]
def abE:List Str:=["_law_neat","_law_parts"]
def abF:List Str:=[]
def NW:List Str:=[]
def abG:List Str:=[]
def abH:List Str:=[]
def abI:List Str:=[]
def abJ:List Str:=[]
def y8:List Str:=["_law_found","_law_due","_law_part","_law_other"]
noncomputable def C4:List RS:=
 [.ite (.or [(.not (.dG .list (.v 0))),(.cmp .NotEq (.blt .len [(.v 0)]) (.blt .len [(.v 1)]))]) [.ret (.c (.bl false))] [],
 .kY [2,3] .zip [(.v 0),(.v 1)] [.ite (.or [(.not (.dG .tuple (.v 2))),(.cmp .NotEq (.blt .len [(.v 2)]) (.c (.int 2))),(.not (.dG .str (.ix (.v 2) (.c (.int 0))))),(.cmp .NotEq (.ix (.v 2) (.c (.int 0))) (.ix (.v 3) (.c (.int 0))))]) [.ret (.c (.bl false))] [],
  .ite (.or [(.cmp .NotEq (.dG .str (.ix (.v 3) (.c (.int 1)))) (.dG .str (.ix (.v 2) (.c (.int 1))))),(.cmp .NotEq (.ix (.v 2) (.c (.int 1))) (.ix (.v 3) (.c (.int 1))))]) [.ret (.c (.bl false))] [],
  .ite (.and [(.not (.dG .str (.ix (.v 3) (.c (.int 1))))),(.not (.call 0 [(.ix (.v 2) (.c (.int 1)))]))]) [.ret (.c (.bl false))] []],
 .ret (.c (.bl true))]
def abK:List Str:=["_law_whole"]
def abL:List Str:=[]
def NX:List Str:=["isinstance","list","len","zip","tuple","str"]
def abM:List Str:=[]
def abN:List Str:=[]
def abO:List Str:=[]
def abP:List Str:=[]
def jq:List Str:=["_law_e","_law_some","_law_found_here"]
def NY:List Str:=["_law_e"]
noncomputable def dZ:List RS:=
 [.asg 1 (.lst [(.tup [(.c (.str "text")),(.da (.v 0) (.g 0))]),(.tup [(.c (.str "change")),(.da (.v 0) (.g 1))]),(.tup [(.c (.str "fit")),(.da (.v 0) (.g 2))])]),
 .asg 1 (.bin .Add (.v 1) (.lst [(.tup [(.c (.str "place")),(.da (.v 0) (.g 3))]),(.tup [(.c (.str "side")),(.da (.v 0) (.g 4))]),(.tup [(.c (.str "mark")),(.da (.v 0) (.g 5))])])),
 .asg 1 (.bin .Add (.v 1) (.lst [(.tup [(.c (.str "node")),(.da (.v 0) (.g 6))]),(.tup [(.c (.str "cursor")),(.da (.v 0) (.g 7))])])),
 .asg 1 (.bin .Add (.v 1) (.lst [(.tup [(.c (.str "deed")),(.da (.v 0) (.g 8))]),(.tup [(.c (.str "letter")),(.da (.v 0) (.g 9))])])),
 .asg 1 (.bin .Add (.v 1) (.lst [(.tup [(.c (.str "gone")),(.da (.v 0) (.g 10))]),(.tup [(.c (.str "hand")),(.da (.v 0) (.g 11))]),(.tup [(.c (.str "note")),(.da (.v 0) (.g 12))])])),
 .oW 2 (.comp (some 2) [] .list [(.v 1)] (some (.v 1)) (.v 0)),
 .ite (.or [(.not (.da (.v 0) (.g 13))),(.not (.da (.v 0) (.c (.ty "ValueError"))))]) [.drop (.cb .append (.v 2) [(.c (.str "bare"))])] [],
 .ret (.cb .join (.c (.str "/")) [(.v 2)])]
def lH:List Str:=[]
def lI:List Str:=["BadText","BadChange","BadFit","NoPlace","BadSide","NoMark","NoNode","NoCursor","BadDeed","BadLetter","NoLetter","NoHand","NoNote","InkError"]
def jZ:List Str:=["isinstance","ValueError"]
def lJ:List Str:=[]
def lK:List Str:=[]
def lL:List Str:=[]
def lN:List Str:=[]
def C5:List Str:=["_law_found_here"]
def NZ:List Str:=["_law_found_here"]
noncomputable def C6:List RS:=
 [.ret (.and [(.dG .int (.v 0)),(.not (.dG .bool (.v 0)))])]
def abQ:List Str:=[]
def abR:List Str:=[]
def N0:List Str:=["isinstance","int","bool"]
def abS:List Str:=[]
def abT:List Str:=[]
def abU:List Str:=[]
def abV:List Str:=[]
def C7:List Str:=["self","change"]
def N1:List Str:=["self","change"]
noncomputable def C8:List RS:=
 [.mZ (.v 0) "parts" (.blt .list [(.v 1)]),
 .mZ (.v 0) "passed_by" (.c (.int 0)),
 .mZ (.v 0) "offset" (.c (.int 0))]
def abW:List Str:=[]
def abX:List Str:=[]
def N2:List Str:=["list"]
def abY:List Str:=[]
def abZ:List Str:=[]
def ab0:List Str:=[]
def ab1:List Str:=[]
def C9:List Str:=["self"]
def N3:List Str:=["self"]
noncomputable def C_:List RS:=
 [.ret (.uV (.cmp .Lt (.fld (.v 0) "passed_by") (.blt .len [(.fld (.v 0) "parts")])) (.ix (.ix (.fld (.v 0) "parts") (.fld (.v 0) "passed_by")) (.c (.int 0))) (.c (.str "")))]
def ab2:List Str:=[]
def ab3:List Str:=[]
def N4:List Str:=["len"]
def ab4:List Str:=[]
def ab5:List Str:=[]
def ab6:List Str:=[]
def ab7:List Str:=[]
def Dc:List Str:=["self"]
def N5:List Str:=["self"]
noncomputable def Dd:List RS:=
 [.ret (.bin .Sub (.call 0 [(.ix (.fld (.v 0) "parts") (.fld (.v 0) "passed_by"))]) (.fld (.v 0) "offset"))]
def ab8:List Str:=["part_size"]
def ab9:List Str:=[]
def N6:List Str:=[]
def ab_:List Str:=[]
def aca:List Str:=[]
def acb:List Str:=[]
def acd:List Str:=[]
def De:List Str:=["self","size","part","begin","end"]
def N7:List Str:=["self","size"]
noncomputable def y_:List RS:=
 [.asg 2 (.ix (.fld (.v 0) "parts") (.fld (.v 0) "passed_by")),
 .asg 3 (.fld (.v 0) "offset"),
 .asg 4 (.bin .Add (.v 3) (.v 1)),
 .mZ (.v 0) "offset" (.v 4),
 .ite (.cmp .Eq (.di 0 "left" (.v 0) []) (.c (.int 0))) [.mZ (.v 0) "passed_by" (.bin .Add (.fld (.v 0) "passed_by") (.c (.int 1))),
  .mZ (.v 0) "offset" (.c (.int 0))] [],
 .ret (.tup [(.ix (.v 2) (.c (.int 0))),(.uV (.cmp .Eq (.ix (.v 2) (.c (.int 0))) (.c (.str "keep"))) (.v 1) (.sl (.ix (.v 2) (.c (.int 1))) (some (.v 3)) (some (.v 4))))])]
def ace:List Str:=[]
def acf:List Str:=[]
def N8:List Str:=[]
def acg:List Str:=["left"]
def ach:List Str:=[]
def aci:List Str:=[]
def acj:List Str:=[]
def Df:List Str:=["walk","putting","keeping","part"]
def N9:List Str:=["walk","putting","keeping"]
noncomputable def Dg:List RS:=
 [.asg 3 (.di 0 "take" (.v 0) [(.di 1 "left" (.v 0) [])]),
 .drop (.cb .append (.v 1) [(.v 3)]),
 .drop (.cb .append (.v 2) [(.tup [(.c (.str "keep")),(.call 0 [(.v 3)])])])]
def ack:List Str:=["part_size"]
def acm:List Str:=[]
def N_:List Str:=[]
def acn:List Str:=["take","left"]
def aco:List Str:=[]
def acp:List Str:=[]
def acq:List Str:=[]
def za:List Str:=["first","second","ones","others"]
def Oa:List Str:=["first","second","ones","others"]
noncomputable def vH:List RS:=
 [.ite (.and [(.cmp .Eq (.ix (.v 0) (.c (.int 0))) (.c (.str "cut"))),(.cmp .Eq (.ix (.v 1) (.c (.int 0))) (.c (.str "cut")))]) [.ite (.cmp .NotEq (.ix (.v 0) (.c (.int 1))) (.ix (.v 1) (.c (.int 1)))) [.oY 0 [(.c (.str "both changes cut a sign, and tell it otherwise"))]] []] [.ite (.cmp .Eq (.ix (.v 1) (.c (.int 0))) (.c (.str "keep"))) [.drop (.cb .append (.v 2) [(.v 0)]),
   .ite (.cmp .Eq (.ix (.v 0) (.c (.int 0))) (.c (.str "keep"))) [.drop (.cb .append (.v 3) [(.v 1)])] []] [.drop (.cb .append (.v 3) [(.v 1)])]]]
def acr:List Str:=[]
def acs:List Str:=[]
def Dh:List Str:=[]
def acu:List Str:=[]
def acv:List Str:=[]
def acw:List Str:=["BadFit"]
def acx:List Str:=[]
def zb:List Str:=["one","other","first","second","ones","others","size"]
def Ob:List Str:=["one","other"]
noncomputable def vI:List RS:=
 [.ite (.cmp .NotEq (.ix (.call 0 [(.v 0)]) (.c (.int 0))) (.ix (.call 0 [(.v 1)]) (.c (.int 0)))) [.oY 0 [(.c (.str "the changes are over unlike numbers of signs"))]] [],
 .asg 2 (.make 0 [(.v 0)]),
 .asg 3 (.make 0 [(.v 1)]),
 .asg 4 (.lst []),
 .asg 5 (.lst []),
 .yv (.or [(.cmp .NotEq (.di 0 "word" (.v 2) []) (.c (.str ""))),(.cmp .NotEq (.di 0 "word" (.v 3) []) (.c (.str "")))]) [.ite (.cmp .Eq (.di 0 "word" (.v 2) []) (.c (.str "put"))) [.drop (.call 1 [(.v 2),(.v 4),(.v 5)])] [.ite (.cmp .Eq (.di 0 "word" (.v 3) []) (.c (.str "put"))) [.drop (.call 1 [(.v 3),(.v 5),(.v 4)])] [.asg 6 (.blt .min [(.di 1 "left" (.v 2) []),(.di 1 "left" (.v 3) [])]),
    .drop (.call 2 [(.di 2 "take" (.v 2) [(.v 6)]),(.di 2 "take" (.v 3) [(.v 6)]),(.v 4),(.v 5)])]]],
 .ret (.tup [(.call 3 [(.v 4)]),(.call 3 [(.v 5)])])]
def acy:List Str:=["sizes","put_first","share","neat"]
def acz:List Str:=[]
def Di:List Str:=["min"]
def acA:List Str:=["word","left","take"]
def acB:List Str:=["Walk"]
def acC:List Str:=["BadFit"]
def acD:List Str:=[]
structure pE (K:PySem.W.Frag) (C:Addr):Prop where
 cl:i_ K C
 vJ:kx K C "parts"
 pF:kx K C "passed_by"
 vK:kx K C "offset"
def Dj:List Str:=["_law_text_here"]
def Oc:List Str:=["_law_text_here"]
noncomputable def Dk:List RS:=
 [.ret (.comp none [("_law_text_here",0)] .eO [(.blt .len [(.v 0)])] none (.tup [(.tup [(.c (.str "old")),(.v 0)]),(.ix (.v 1) (.v 0))]))]
def acE:List Str:=[]
def acF:List Str:=[]
def Od:List Str:=["range","len"]
def acG:List Str:=[]
def acH:List Str:=[]
def acI:List Str:=[]
def acJ:List Str:=[]
def Dl:List Str:=["_law_rows","_law_change_here","_law_who","_law_found_here","_law_at","_law_many","_law_word_here","_law_thing"]
def Oe:List Str:=["_law_rows","_law_change_here","_law_who"]
noncomputable def Dm:List RS:=
 [.asg 3 (.lst []),
 .asg 4 (.c (.int 0)),
 .asg 5 (.c (.int 0)),
 .kY [6,7] .list [(.v 1)] [.ite (.cmp .Eq (.v 6) (.c (.str "put"))) [.asg 3 (.bin .Add (.v 3) (.comp none [("_law_who",2),("_law_thing",7),("_law_many",5)] .eO [(.blt .len [(.v 7)])] none (.tup [(.tup [(.v 1),(.bin .Add (.v 3) (.v 0))]),(.ix (.v 2) (.v 0))]))),
   .asg 5 (.bin .Add (.v 5) (.blt .len [(.v 7)]))] [.ite (.cmp .Eq (.v 6) (.c (.str "cut"))) [.asg 4 (.bin .Add (.v 4) (.blt .len [(.v 7)]))] [.asg 3 (.bin .Add (.v 3) (.sl (.v 0) (some (.v 4)) (some (.bin .Add (.v 4) (.v 7))))),
    .asg 4 (.bin .Add (.v 4) (.v 7))]]],
 .ret (.v 3)]
def acK:List Str:=[]
def acL:List Str:=[]
def Of:List Str:=["range","len"]
def acM:List Str:=[]
def acN:List Str:=[]
def acO:List Str:=[]
def acP:List Str:=[]
def Dp:List Str:=["_law_old","_law_new","_law_places","_law_k","_law_parts_here","_law_at","_law_name","_law_sign"]
def Og:List Str:=["_law_old","_law_new"]
noncomputable def Dq:List RS:=
 [.asg 2 .BJ,
 .oX 3 .eO [(.blt .len [(.v 0)])] [.dput (.v 2) (.ix (.ix (.v 0) (.v 3)) (.c (.int 0))) (.v 3)],
 .asg 4 (.lst []),
 .asg 5 (.c (.int 0)),
 .kY [6,7] .list [(.v 1)] [.ite (.yu (.v 6) (.v 2)) [.drop (.cb .append (.v 4) [(.tup [(.c (.str "cut")),(.cb .join (.c (.str "")) [(.comp none [] .list [(.sl (.v 0) (some (.v 5)) (some (.uW (.v 2) (.v 6))))] none (.ix (.v 0) (.c (.int 1))))])])]),
   .drop (.cb .append (.v 4) [(.tup [(.c (.str "keep")),(.c (.int 1))])]),
   .asg 5 (.bin .Add (.uW (.v 2) (.v 6)) (.c (.int 1)))] [.drop (.cb .append (.v 4) [(.tup [(.c (.str "put")),(.v 7)])])]],
 .ret (.call 0 [(.bin .Add (.v 4) (.lst [(.tup [(.c (.str "cut")),(.cb .join (.c (.str "")) [(.comp none [] .list [(.sl (.v 0) (some (.v 5)) none)] none (.ix (.v 0) (.c (.int 1))))])])]))])]
def acQ:List Str:=["_law_neat"]
def acR:List Str:=[]
def Oh:List Str:=["range","len"]
def acS:List Str:=[]
def acT:List Str:=[]
def acU:List Str:=[]
def acV:List Str:=[]
def Dr:List Str:=["_law_rows","_law_name"]
def Oi:List Str:=["_law_rows","_law_name"]
noncomputable def Ds:List RS:=
 [.ret (.comp (some 2) [("_law_name",1)] .list [(.v 0)] none (.tup [(.v 0),(.ix (.lst [(.v 1),(.ix (.c (.str "ab")) (.blt .int [(.cmp .Eq (.v 1) (.c (.str "a")))]))]) (.blt .int [(.cmp .Eq (.v 0) (.v 2))]))]))]
def acW:List Str:=[]
def acX:List Str:=[]
def Oj:List Str:=["int"]
def acY:List Str:=[]
def acZ:List Str:=[]
def ac0:List Str:=[]
def ac1:List Str:=[]
end L2.B
namespace L2.dz
open PySem PySem.Spec PyProof.Rows L2.B
def cm(i:Nat):Stmt:=(PySem.Challenge.pw_inkloom_k08_past_one_another.main.body).getD i (.Pass ⟨0,0,0,0⟩)
def pG:Stmt:=cm 17
theorem ac2:bQ Cy Nk (ay pG):=cg
theorem ac3{CX:aO}{Γ:aJ}{X:Cx}(G:aS CX (br Cy (ay pG) Z1 Z2 Nl Z3 Z4 Z5 Z6 0) Γ X):bo X (aF pG) (au Γ Cz):=by
 have g:=G.toGood
 exact(ai (bI (jW (gr g (aa g)) (lB (Cp g (gr g (aa g)))))) az)
def pH:Stmt:=cm 18
theorem ac4:bQ yU Nm (ay pH):=cg
theorem ac5{CX:aO}{Γ:aJ}{X:Cx}(G:aS CX (br yU (ay pH) Z7 Z8 Nn Z9 Z_ aaa aab 0) Γ X):bo X (aF pH) (au Γ yV):=by
 have g:=G.toGood
 exact(ai (bI (jW (gr g (aa g)) (lB (gJ g (aa g) (aa g))))) az)
def pI:Stmt:=cm 19
theorem ac6:bQ yW Np (ay pI):=cg
theorem ac7{CX:aO}{Γ:aJ}{X:Cx}(G:aS CX (br yW (ay pI) aac aad Nq aae aaf aag aah 0) Γ X):bo X (aF pI) (au Γ yX):=by
 have g:=G.toGood
 exact(ai (bI (jW (gr g (aa g)) (lB (gJ g (df g (aa g) (ae (gp g) aj)) aL)))) az)
def pJ:Stmt:=cm 21
theorem ac8:bQ vD Nr (ay pJ):=cg
theorem ac9{CX:aO}{Γ:aJ}{X:Cx}(G:aS CX (br vD (ay pJ) aai aaj Nt aak aal aam aan 0) Γ X):bo X (aF pJ) (au Γ vE):=by
 have g:=G.toGood
 exact(ai (bR (PW.pt (iQ (gw (pk g (gr g (aa g)))) (lF (bE g (cG g (ae (aa g) aj)) aE)))) (ai (bI jl) az) az) (ai (bR (pj g (a_ g (ae (aZ g (aa g) aE) (ae (bM (ae aL aj)) aj)))) (ai (bI (jW (a_ g (ae (aZ g (aa g) aE) aj)) (lB (gJ g (aZ g (aa g) aE) aE)))) az) az) (ai (bI (jW (a_ g (ae (aZ g (aa g) aE) (ae (bM (ae aL (ae aL aj))) aj))) (jW (a_ g (ae (aZ g (aa g) aE) aj)) (lB (gJ g (aZ g (aa g) aE) aL))))) az)))
def pK:Stmt:=cm 22
theorem ac_:bQ CA Nu (ay pK):=cg
theorem ada{CX:aO}{Γ:aJ}{X:Cx}(G:aS CX (br CA (ay pK) aao aap Nv aaq aar aas aat 0) Γ X):bo X (aF pK) (au Γ CB):=by
 have g:=G.toGood
 exact(ai (bI (jW (gJ g (aa g) (aa g)) (lB (Cp g (jW (gJ g (aa g) aL) (lB (gJ g (aa g) aL))))))) az)
def pL:Stmt:=cm 23
theorem Ol:bQ yY Nw (ay pL):=cg
theorem Om{CX:aO}{Γ:aJ}{X:Cx}(G:aS CX (br yY (ay pL) aau aav CD aaw aax aay aaz 0) Γ X):bo X (aF pL) (au Γ vF):=by
 have g:=G.toGood
 exact(ai (bR (gw (pk g (gr g (aa g)))) (ai (vA G (ae aL aj)) az) az) (ai (aV G aL) (ai (vz G (fo g (aa g)) (ai (bR (gw (pj g (a_ g (ae (aa g) aj)))) (ai (vA G (ae aL aj)) az) az) (ai (bR (gw (pj g (a_ g (ae (aZ g (aa g) aE) (ae (aa g) aj))))) (ai (vA G (ae aL aj)) az) az) (ai (aV G (aZ g (aa g) aE)) az)))) az)))
def pM:Stmt:=cm 24
theorem adb:bQ CG Nx (ay pM):=cg
theorem ade{CX:aO}{Γ:aJ}{X:Cx}(G:aS CX (br CG (ay pM) aaA aaB Ny aaC aaD aaE aaF 0) Γ X):bo X (aF pM) (au Γ CH):=by
 have g:=G.toGood
 exact(ai (bI (Cq (bE g (aZ g (aa g) aE) aL) (aZ g (aa g) aE) (cG g (ae (aZ g (aa g) aE) aj)))) az)
def pN:Stmt:=cm 25
theorem Oo:bQ yZ Nz (ay pN):=cg
theorem Oq{CX:aO}{Γ:aJ}{X:Cx}(G:aS CX (br yZ (ay pN) aaG aaH CI aaI aaJ aaK aaL 0) Γ X):bo X (aF pN) (au Γ vG):=by
 have g:=G.toGood
 exact(ai (dg (a_ g (ae (aa g) aj))) (ai (aV G (cG g (ae (iP (ln:=["part"]) g (by kernel_rfl) (fo g (aa g)) (sC fun _ g=> (bE g (aZ g (aa g) aE) aL)) (fun _ g=> (a_ g (ae (aa g) aj)))) aj))) (ai (aV G (cG g (ae (iP (ln:=["part"]) g (by kernel_rfl) (fo g (aa g)) (sC fun _ g=> (bE g (aZ g (aa g) aE) aL)) (fun _ g=> (a_ g (ae (aa g) aj)))) aj))) (ai (bI (bM (ae (aa g) (ae (aa g) aj)))) az))))
def pO:Stmt:=inClass (cm 26) 0
theorem adf:bQ C7 N1 (ay pO):=cg
theorem adg{CX:aO}{Γ:aJ}{X:Cx}(G:aS CX (br C7 (ay pO) abW abX N2 abY abZ ab0 ab1 0) Γ X):bo X (aF pO) (au Γ C8):=by
 have g:=G.toGood
 exact(ai (sD G (aa g) (cG g (ae (aa g) aj))) (ai (sD G (aa g) aE) (ai (sD G (aa g) aE) az)))
def pP:Stmt:=inClass (cm 26) 1
theorem adh:bQ C9 N3 (ay pP):=cg
theorem adi{CX:aO}{Γ:aJ}{X:Cx}(G:aS CX (br C9 (ay pP) ab2 ab3 N4 ab4 ab5 ab6 ab7 0) Γ X):bo X (aF pP) (au Γ C_):=by
 have g:=G.toGood
 exact(ai (bI (Cq (bE g (jn g (aa g)) (cG g (ae (jn g (aa g)) aj))) (aZ g (aZ g (jn g (aa g)) (jn g (aa g))) aE) aL)) az)
def pQ:Stmt:=inClass (cm 26) 2
theorem adj:bQ Dc N5 (ay pQ):=cg
theorem adk{CX:aO}{Γ:aJ}{X:Cx}(G:aS CX (br Dc (ay pQ) ab8 ab9 N6 ab_ aca acb acd 0) Γ X):bo X (aF pQ) (au Γ Dd):=by
 have g:=G.toGood
 exact(ai (bI (ba g (a_ g (ae (aZ g (jn g (aa g)) (jn g (aa g))) aj)) (jn g (aa g)))) az)
def pR:Stmt:=inClass (cm 26) 3
theorem adl:bQ De N7 (ay pR):=cg
theorem adm{CX:aO}{Γ:aJ}{X:Cx}(G:aS CX (br De (ay pR) ace acf N8 acg ach aci acj 0) Γ X):bo X (aF pR) (au Γ y_):=by
 have g:=G.toGood
 exact(ai (aV G (aZ g (jn g (aa g)) (jn g (aa g)))) (ai (aV G (jn g (aa g))) (ai (aV G (ba g (aa g) (aa g))) (ai (sD G (aa g) (aa g)) (ai (bR (bE g (m_ g (aa g)) aE) (ai (sD G (aa g) (ba g (jn g (aa g)) aE)) (ai (sD G (aa g) aE) az)) az) (ai (bI (bM (ae (aZ g (aa g) aE) (ae (Cq (bE g (aZ g (aa g) aE) aL) (aa g) (sA g (aZ g (aa g) aE) (jo (aa g)) (jo (aa g)))) aj)))) az))))))
def pS:Stmt:=cm 27
theorem adn:bQ CJ NA (ay pS):=cg
theorem ado{CX:aO}{Γ:aJ}{X:Cx}(G:aS CX (br CJ (ay pS) aaM aaN NB aaO aaP aaQ aaR 0) Γ X):bo X (aF pS) (au Γ CK):=by
 have g:=G.toGood
 exact(ai (bR (PW.pt (vy (bE g (cG g (ae (aa g) aj)) aE) (vx (bE g (aZ g (aZ g (aa g) (sy aE)) aE) aL)))) (ai (aV G (ba g (aa g) (aZ g (ZF g (aa g)) aE))) az) az) (ai (dg (df g (aa g) (ae (bM (ae aL (ae (aa g) aj))) aj))) az))
def pT:Stmt:=cm 28
theorem adp:bQ CL NC (ay pT):=cg
theorem adq{CX:aO}{Γ:aJ}{X:Cx}(G:aS CX (br CL (ay pT) aaS aaT ND aaU aaV aaW aaX 0) Γ X):bo X (aF pT) (au Γ CM):=by
 have g:=G.toGood
 exact(ai (aV G (df g aL (ae (aa g) aj))) (ai (aV G (df g aL (ae (aa g) aj))) (ai (bR (bE g (aa g) aL) (ai (dg (df g (aa g) (ae (bM (ae aL (ae (aa g) aj))) aj))) az) az) (ai (bR (bE g (aa g) aL) (ai (dg (df g (aa g) (ae (bM (ae aL (ae (aa g) aj))) aj))) az) az) az))))
def pU:Stmt:=cm 29
theorem ads:bQ CN NF (ay pU):=cg
theorem adt{CX:aO}{Γ:aJ}{X:Cx}(G:aS CX (br CN (ay pU) aaY aaZ NG aa0 aa1 aa2 aa3 0) Γ X):bo X (aF pU) (au Γ CO):=by
 have g:=G.toGood
 exact(ai (aV G (cH aj)) (ai (aV G (cH aj)) (ai (aV G (cH aj)) (ai (pw [(_,_),(_,_)] G (fo g (aa g)) (ai (bR (bE g (aa g) aL) (ai (dg (df g (aa g) (ae (aa g) aj))) az) (ai (bR (bE g (aa g) aL) (ai (dg (df g (aa g) (ae (aa g) aj))) az) (ai (bR (bE g (aa g) aE) (ai (dg (a_ g (ae (aa g) (ae (aa g) (ae (aa g) aj))))) (ai (aV G (cH aj)) (ai (aV G (cH aj)) (ai (dg (a_ g (ae (aa g) (ae (aa g) aj)))) az)))) az) az)) az)) az)) (ai (dg (a_ g (ae (aa g) (ae (aa g) (ae (aa g) aj))))) (ai (bI (aa g)) az))))))
def pV:Stmt:=cm 31
theorem adu:bQ Df N9 (ay pV):=cg
theorem adv{CX:aO}{Γ:aJ}{X:Cx}(G:aS CX (br Df (ay pV) ack acm N_ acn aco acp acq 0) Γ X):bo X (aF pV) (au Γ Dg):=by
 have g:=G.toGood
 exact(ai (aV G (Cr g (aa g) (ae (m_ g (aa g)) aj))) (ai (dg (df g (aa g) (ae (aa g) aj))) (ai (dg (df g (aa g) (ae (bM (ae aL (ae (a_ g (ae (aa g) aj)) aj))) aj))) az)))
def pW:Stmt:=cm 32
theorem Ot:bQ za Oa (ay pW):=cg
theorem Ou{CX:aO}{Γ:aJ}{X:Cx}(G:aS CX (br za (ay pW) acr acs Dh acu acv acw acx 0) Γ X):bo X (aF pW) (au Γ vH):=by
 have g:=G.toGood
 exact(ai (bR (PW.pt (vy (bE g (aZ g (aa g) aE) aL) (vx (bE g (aZ g (aa g) aE) aL)))) (ai (bR (bE g (aZ g (aa g) aE) (aZ g (aa g) aE)) (ai (vA G (ae aL aj)) az) az) az) (ai (bR (bE g (aZ g (aa g) aE) aL) (ai (dg (df g (aa g) (ae (aa g) aj))) (ai (bR (bE g (aZ g (aa g) aE) aL) (ai (dg (df g (aa g) (ae (aa g) aj))) az) az) az)) (ai (dg (df g (aa g) (ae (aa g) aj))) az)) az)) az)
def pX:Stmt:=cm 33
theorem Ov:bQ zb Ob (ay pX):=cg
theorem Ow{CX:aO}{Γ:aJ}{X:Cx}(G:aS CX (br zb (ay pX) acy acz Di acA acB acC acD 0) Γ X):bo X (aF pX) (au Γ vI):=by
 have g:=G.toGood
 exact(ai (bR (bE g (aZ g (a_ g (ae (aa g) aj)) aE) (aZ g (a_ g (ae (aa g) aj)) aE)) (ai (vA G (ae aL aj)) az) az) (ai (aV G (M6 g (ae (aa g) aj))) (ai (aV G (M6 g (ae (aa g) aj))) (ai (aV G (cH aj)) (ai (aV G (cH aj)) (ai (ZQ G (PW.pt (iQ (bE g (m_ g (aa g)) aL) (lF (bE g (m_ g (aa g)) aL)))) (ai (bR (bE g (m_ g (aa g)) aL) (ai (dg (a_ g (ae (aa g) (ae (aa g) (ae (aa g) aj))))) az) (ai (bR (bE g (m_ g (aa g)) aL) (ai (dg (a_ g (ae (aa g) (ae (aa g) (ae (aa g) aj))))) az) (ai (aV G (cG g (ae (m_ g (aa g)) (ae (m_ g (aa g)) aj)))) (ai (dg (a_ g (ae (Cr g (aa g) (ae (aa g) aj)) (ae (Cr g (aa g) (ae (aa g) aj)) (ae (aa g) (ae (aa g) aj)))))) az))) az)) az)) (ai (bI (bM (ae (a_ g (ae (aa g) aj)) (ae (a_ g (ae (aa g) aj)) aj)))) az)))))))
def pY:Stmt:=cm 35
theorem adw:bQ CP NH (ay pY):=cg
theorem adx{CX:aO}{Γ:aJ}{X:Cx}(G:aS CX (br CP (ay pY) aa4 aa5 NI aa6 aa7 aa8 aa9 0) Γ X):bo X (aF pY) (au Γ CQ):=by
 have g:=G.toGood
 exact(ai (bR (bE g (aa g) (cG g (ae (aa g) aj))) (ai (bI (aZ g (aa g) (aa g))) az) az) (ai (bI aE) az))
def pZ:Stmt:=cm 36
theorem ady:bQ C5 NZ (ay pZ):=cg
theorem adz{CX:aO}{Γ:aJ}{X:Cx}(G:aS CX (br C5 (ay pZ) abQ abR N0 abS abT abU abV 0) Γ X):bo X (aF pZ) (au Γ C6):=by
 have g:=G.toGood
 exact(ai (bI (jW (gr g (aa g)) (lB (Cp g (gr g (aa g)))))) az)
def p9:Stmt:=cm 37
theorem adA:bQ CS NJ (ay p9):=cg
theorem adB{CX:aO}{Γ:aJ}{X:Cx}(G:aS CX (br CS (ay p9) aa_ aba NK abb abc abd abe 0) Γ X):bo X (aF p9) (au Γ CT):=by
 have g:=G.toGood
 exact(ai (aV G (ba g (ba g (ba g (ba g (aa g) aE) (ba g aE (aa g))) aE) aE)) (ai (bI (ba g (ba g (ba g (ba g (aa g) (aa g)) aE) (aa g)) aE)) az))
def p_:Stmt:=cm 38
theorem adC:bQ CU NL (ay p_):=cg
theorem adD{CX:aO}{Γ:aJ}{X:Cx}(G:aS CX (br CU (ay p_) abf abg NM abh abi abj abk 0) Γ X):bo X (aF p_) (au Γ CV):=by
 have g:=G.toGood
 exact(ai (aV G aL) (ai (aV G (ba g (aa g) aL)) (ai (bR (bE g (ba g (aa g) aE) aE) (ai (aV G aL) az) az) (ai (bI (df g aL (ae (iP (ln:=["_law_k"]) g (by kernel_rfl) (ng g (aa g)) lE (fun _ g=> (aZ g (aa g) (ba g (ba g (a_ g (ae (aa g) (ae (aa g) aj))) aE) (cG g (ae (aa g) aj)))))) aj))) az))))
def qd:Stmt:=cm 39
theorem adE:bQ CW NN (ay qd):=cg
theorem adF{CX:aO}{Γ:aJ}{X:Cx}(G:aS CX (br CW (ay qd) abl abm NO abn abo abp abq 0) Γ X):bo X (aF qd) (au Γ CY):=by
 have g:=G.toGood
 exact(ai (bR (bE g (ba g (aa g) aE) aE) (ai (bI (ba g (ba g (aa g) aE) aE)) az) az) (ai (bI (ba g (ba g (aa g) aE) aE)) az))
def qe:Stmt:=cm 40
theorem adG:bQ CZ NQ (ay qe):=cg
theorem adH{CX:aO}{Γ:aJ}{X:Cx}(G:aS CX (br CZ (ay qe) abr abt NR abu abv abw abx 0) Γ X):bo X (aF qe) (au Γ C0):=by
 have g:=G.toGood
 exact(ai (aV G (cH aj)) (ai (aV G aE) (ai (vz G (ng g (aa g)) (ai (aV G (a_ g (ae (aa g) (ae (ba g aE (aa g)) aj)))) (ai (aV G (aZ g (cH (ae aE (ae aE (ae aE (ae aE (ae aE (ae aE aj))))))) (ba g (ba g (aa g) aE) aE))) (ai (aV G (cG g (ae (aa g) (ae (ba g (cG g (ae (aa g) aj)) (aa g)) aj)))) (ai (bR (bE g (ba g (aa g) aE) aE) (ai (dg (df g (aa g) (ae (bM (ae aL (ae (a_ g (ae (aa g) (ae (aa g) aj))) aj))) aj))) az) (ai (bR (bE g (ba g (aa g) aE) aE) (ai (dg (df g (aa g) (ae (bM (ae aL (ae (sA g (aa g) (jo (aa g)) (jo (ba g (aa g) (aa g)))) aj))) aj))) az) (ai (dg (df g (aa g) (ae (bM (ae aL (ae (aa g) aj))) aj))) az)) az)) (ai (bR (bE g (ba g (aa g) aE) aE) (ai (aV G (ba g (aa g) (aa g))) az) az) az)))))) (ai (bI (ba g (aa g) (cH (ae (bM (ae aL (ae (ba g (cG g (ae (aa g) aj)) (aa g)) aj))) aj)))) az))))
def y0:List Str:=["_law_parts_here","_law_rows","_law_word_here","_law_thing","_law_found_here","_law_put","_law_cut","_law_keep","_law_some"]
def qf:Stmt:=cm 41
theorem adI:bQ y0 NT (ay qf):=cg
theorem adJ{CX:aO}{Γ:aJ}{X:Cx}(G:aS CX (br y0 (ay qf) aby abz NU abA abB abC abD 0) Γ X):bo X (aF qf) (au Γ C1):=by
 have g:=G.toGood
 exact(ai (aV G (cH (ae (cH (ae aL (ae aL (ae aE aj)))) aj))) (ai (pw [(_,_),(_,_)] G (fo g (aa g)) (ai (bR (bE g (aa g) aL) (ai (Nf (ba g (aZ g (aZ g (aa g) (sy aE)) aE) (aa g)) (aZ g (aa g) (sy aE)) aE) az) (ai (bR (bE g (aa g) aL) (ai (bR (bE g (aZ g (aZ g (aa g) (sy aE)) aE) aE) (ai (dg (df g (aa g) (ae (cH (ae aL (ae aL (ae aE aj)))) aj))) az) az) (ai (Nf (ba g (aZ g (aZ g (aa g) (sy aE)) (cG g (ae (gJ g (aa g) aL) aj))) (aa g)) (aZ g (aa g) (sy aE)) (cG g (ae (gJ g (aa g) aL) aj))) az)) az) az)) az)) (ai (aV G (cH aj)) (ai (pw [(_,_),(_,_),(_,_)] G (fo g (aa g)) (ai (aV G (cH (ae (bM (ae aL (ae (aa g) aj))) (ae (bM (ae aL (ae (aa g) aj))) (ae (bM (ae aL (ae (aa g) aj))) aj))))) (ai (aV G (ba g (aa g) (iP (ln:=["_law_part"]) g (by kernel_rfl) (fo g (aa g)) (sC fun _ g=> (PW.pt (vy (bE g (aZ g (aa g) aE) aL) (vx (bE g (aZ g (aa g) aE) aE))))) (fun _ g=> (aa g))))) az))) (ai (bI (aa g)) az)))))
def qg:Stmt:=cm 42
theorem adK:bQ C2 NV (ay qg):=cg
theorem adL{CX:aO}{Γ:aJ}{X:Cx}(G:aS CX (br C2 (ay qg) abE abF NW abG abH abI abJ 0) Γ X):bo X (aF qg) (au Γ C3):=by
 have g:=G.toGood
 exact(ai (bI (a_ g (ae (a_ g (ae (aa g) (ae (aa g) (ae (aa g) aj)))) aj))) az)
def y8:List Str:=["_law_found_here","_law_due","_law_part","_law_other"]
def Ox:List Str:=["_law_found_here","_law_due"]
def qh:Stmt:=cm 43
theorem adM:bQ y8 Ox (ay qh):=cg
theorem adN{CX:aO}{Γ:aJ}{X:Cx}(G:aS CX (br y8 (ay qh) abK abL NX abM abN abO abP 0) Γ X):bo X (aF qh) (au Γ C4):=by
 have g:=G.toGood
 exact(ai (bR (PW.pt (iQ (gw (pk g (gr g (aa g)))) (lF (bE g (cG g (ae (aa g) aj)) (cG g (ae (aa g) aj)))))) (ai (bI jl) az) az) (ai (pw [(_,_),(_,_)] G (ZM g (aa g) (aa g)) (ai (bR (PW.pt (iQ (gw (pk g (gr g (aa g)))) (iQ (bE g (cG g (ae (aa g) aj)) aE) (iQ (gw (pk g (gr g (aZ g (aa g) aE)))) (lF (bE g (aZ g (aa g) aE) (aZ g (aa g) aE))))))) (ai (bI jl) az) az) (ai (bR (PW.pt (iQ (bE g (gr g (aZ g (aa g) aE)) (gr g (aZ g (aa g) aE))) (lF (bE g (aZ g (aa g) aE) (aZ g (aa g) aE))))) (ai (bI jl) az) az) (ai (bR (PW.pt (vy (gw (pk g (gr g (aZ g (aa g) aE)))) (vx (gw (pj g (a_ g (ae (aZ g (aa g) aE) aj))))))) (ai (bI jl) az) az) az)))) (ai (bI jl) az)))
def cM:Stmt:=cm 44
theorem adO:bQ jq NY (ay cM):=cg
theorem adP{CX:aO}{Γ:aJ}{X:Cx}(G:aS CX (br jq (ay cM) lH lI jZ lJ lK lL lN 1) Γ X):PS X ((aF cM).getD 0 (.Pass ⟨0,0,0,0⟩)) (bB Γ (dZ.getD 0 (.ret (.c .aw)))):=by
 have g:=G.toGood
 show PS X (.Assign [.Name "_law_some" _] _ _) (bB Γ (.asg 1 _))
 with_reducible exact(aV G (cH (ae (bM (ae aL (ae (gu g (aa g) (gp g)) aj))) (ae (bM (ae aL (ae (gu g (aa g) (gp g)) aj))) (ae (bM (ae aL (ae (gu g (aa g) (gp g)) aj))) aj)))))
theorem adQ{CX:aO}{Γ:aJ}{X:Cx}(G:aS CX (br jq (ay cM) lH lI jZ lJ lK lL lN 1) Γ X):PS X ((aF cM).getD 1 (.Pass ⟨0,0,0,0⟩)) (bB Γ (dZ.getD 1 (.ret (.c .aw)))):=by
 have g:=G.toGood
 show PS X (.Assign [.Name "_law_some" _] _ _) (bB Γ (.asg 1 _))
 with_reducible exact(aV G (ba g (aa g) (cH (ae (bM (ae aL (ae (gu g (aa g) (gp g)) aj))) (ae (bM (ae aL (ae (gu g (aa g) (gp g)) aj))) (ae (bM (ae aL (ae (gu g (aa g) (gp g)) aj))) aj))))))
theorem adR{CX:aO}{Γ:aJ}{X:Cx}(G:aS CX (br jq (ay cM) lH lI jZ lJ lK lL lN 1) Γ X):PS X ((aF cM).getD 2 (.Pass ⟨0,0,0,0⟩)) (bB Γ (dZ.getD 2 (.ret (.c .aw)))):=by
 have g:=G.toGood
 show PS X (.Assign [.Name "_law_some" _] _ _) (bB Γ (.asg 1 _))
 with_reducible exact(aV G (ba g (aa g) (cH (ae (bM (ae aL (ae (gu g (aa g) (gp g)) aj))) (ae (bM (ae aL (ae (gu g (aa g) (gp g)) aj))) aj)))))
theorem adS{CX:aO}{Γ:aJ}{X:Cx}(G:aS CX (br jq (ay cM) lH lI jZ lJ lK lL lN 1) Γ X):PS X ((aF cM).getD 3 (.Pass ⟨0,0,0,0⟩)) (bB Γ (dZ.getD 3 (.ret (.c .aw)))):=by
 have g:=G.toGood
 show PS X (.Assign [.Name "_law_some" _] _ _) (bB Γ (.asg 1 _))
 with_reducible exact(aV G (ba g (aa g) (cH (ae (bM (ae aL (ae (gu g (aa g) (gp g)) aj))) (ae (bM (ae aL (ae (gu g (aa g) (gp g)) aj))) aj)))))
theorem adT{CX:aO}{Γ:aJ}{X:Cx}(G:aS CX (br jq (ay cM) lH lI jZ lJ lK lL lN 1) Γ X):PS X ((aF cM).getD 4 (.Pass ⟨0,0,0,0⟩)) (bB Γ (dZ.getD 4 (.ret (.c .aw)))):=by
 have g:=G.toGood
 show PS X (.Assign [.Name "_law_some" _] _ _) (bB Γ (.asg 1 _))
 with_reducible exact(aV G (ba g (aa g) (cH (ae (bM (ae aL (ae (gu g (aa g) (gp g)) aj))) (ae (bM (ae aL (ae (gu g (aa g) (gp g)) aj))) (ae (bM (ae aL (ae (gu g (aa g) (gp g)) aj))) aj))))))
theorem adU{CX:aO}{Γ:aJ}{X:Cx}(G:aS CX (br jq (ay cM) lH lI jZ lJ lK lL lN 1) Γ X):PS X ((aF cM).getD 5 (.Pass ⟨0,0,0,0⟩)) (bB Γ (dZ.getD 5 (.ret (.c .aw)))):=by
 have g:=G.toGood
 exact(ZP G (by kernel_rfl) (by kernel_rfl) (by kernel_rfl) (aa g) (sC fun _ g=> (ZL g (aa g))) (fun _ g=> (aa g)))
theorem adV{CX:aO}{Γ:aJ}{X:Cx}(G:aS CX (br jq (ay cM) lH lI jZ lJ lK lL lN 1) Γ X):PS X ((aF cM).getD 6 (.Pass ⟨0,0,0,0⟩)) (bB Γ (dZ.getD 6 (.ret (.c .aw)))):=by
 have g:=G.toGood
 exact(bR (PW.pt (iQ (gw (Na g (gu g (aa g) (gp g)))) (lF (gw (Na g (gu g (aa g) (ZD g (by decide+kernel) (by decide) (by decide)))))))) (ai (dg (df g (aa g) (ae aL aj))) az) az)
theorem adW{CX:aO}{Γ:aJ}{X:Cx}(G:aS CX (br jq (ay cM) lH lI jZ lJ lK lL lN 1) Γ X):PS X ((aF cM).getD 7 (.Pass ⟨0,0,0,0⟩)) (bB Γ (dZ.getD 7 (.ret (.c .aw)))):=by
 have g:=G.toGood
 show PS X (.Return (some _) _) (bB Γ (.ret _))
 with_reducible exact(bI (df g aL (ae (aa g) aj)))
theorem adX{CX:aO}{Γ:aJ}{X:Cx}(G:aS CX (br jq (ay cM) lH lI jZ lJ lK lL lN 1) Γ X):bo X (aF cM) (au Γ dZ):=by
 have e:aF cM=[((aF cM).getD 0 (.Pass ⟨0,0,0,0⟩)),((aF cM).getD 1 (.Pass ⟨0,0,0,0⟩)),((aF cM).getD 2 (.Pass ⟨0,0,0,0⟩)),((aF cM).getD 3 (.Pass ⟨0,0,0,0⟩)),((aF cM).getD 4 (.Pass ⟨0,0,0,0⟩)),((aF cM).getD 5 (.Pass ⟨0,0,0,0⟩)),((aF cM).getD 6 (.Pass ⟨0,0,0,0⟩)),((aF cM).getD 7 (.Pass ⟨0,0,0,0⟩))]:=by kernel_rfl
 have e2:dZ=[(dZ.getD 0 (.ret (.c .aw))),(dZ.getD 1 (.ret (.c .aw))),(dZ.getD 2 (.ret (.c .aw))),(dZ.getD 3 (.ret (.c .aw))),(dZ.getD 4 (.ret (.c .aw))),(dZ.getD 5 (.ret (.c .aw))),(dZ.getD 6 (.ret (.c .aw))),(dZ.getD 7 (.ret (.c .aw)))]:=by kernel_rfl
 rw[e,e2]
 with_reducible exact ai (adP G) (ai (adQ G) (ai (adR G) (ai (adS G) (ai (adT G) (ai (adU G) (ai (adV G) (ai (adW G) (az))))))))
def qi:Stmt:=cm 45
theorem adY:bQ Dj Oc (ay qi):=cg
theorem adZ{CX:aO}{Γ:aJ}{X:Cx}(G:aS CX (br Dj (ay qi) acE acF Od acG acH acI acJ 0) Γ X):bo X (aF qi) (au Γ Dk):=by
 have g:=G.toGood
 exact(ai (bI (iP (ln:=["_law_k"]) g (by kernel_rfl) (ng g (cG g (ae (aa g) aj))) lE (fun _ g=> (bM (ae (bM (ae aL (ae (aa g) aj))) (ae (aZ g (aa g) (aa g)) aj)))))) az)
def qj:Stmt:=cm 46
theorem ad0:bQ Dl Oe (ay qj):=cg
theorem ad1{CX:aO}{Γ:aJ}{X:Cx}(G:aS CX (br Dl (ay qj) acK acL Of acM acN acO acP 0) Γ X):bo X (aF qj) (au Γ Dm):=by
 have g:=G.toGood
 exact(ai (aV G (cH aj)) (ai (aV G aE) (ai (aV G aE) (ai (pw [(_,_),(_,_)] G (fo g (aa g)) (ai (bR (bE g (aa g) aL) (ai (aV G (ba g (aa g) (iP (ln:=["_law_k"]) g (by kernel_rfl) (ng g (cG g (ae (aa g) aj))) lE (fun _ g=> (bM (ae (bM (ae (aa g) (ae (ba g (aa g) (aa g)) aj))) (ae (aZ g (aa g) (aa g)) aj))))))) (ai (aV G (ba g (aa g) (cG g (ae (aa g) aj)))) az)) (ai (bR (bE g (aa g) aL) (ai (aV G (ba g (aa g) (cG g (ae (aa g) aj)))) az) (ai (aV G (ba g (aa g) (sA g (aa g) (jo (aa g)) (jo (ba g (aa g) (aa g)))))) (ai (aV G (ba g (aa g) (aa g))) az))) az)) az)) (ai (bI (aa g)) az)))))
def qk:Stmt:=cm 47
theorem ad2:bQ Dp Og (ay qk):=cg
theorem ad3{CX:aO}{Γ:aJ}{X:Cx}(G:aS CX (br Dp (ay qk) acQ acR Oh acS acT acU acV 0) Γ X):bo X (aF qk) (au Γ Dq):=by
 have g:=G.toGood
 exact(ai (aV G ZH) (ai (vz G (ng g (cG g (ae (aa g) aj))) (ai (Ng G (aa g) (aa g) (aZ g (aZ g (aa g) (aa g)) aE)) az)) (ai (aV G (cH aj)) (ai (aV G aE) (ai (pw [(_,_),(_,_)] G (fo g (aa g)) (ai (bR (ZJ g (aa g) (aa g)) (ai (dg (df g (aa g) (ae (bM (ae aL (ae (df g aL (ae (iP (ln:=["_law_one"]) g (by kernel_rfl) (fo g (sA g (aa g) (jo (aa g)) (jo (M7 g (aa g) (aa g))))) lE (fun _ g=> (aZ g (aa g) aE))) aj)) aj))) aj))) (ai (dg (df g (aa g) (ae (bM (ae aL (ae aE aj))) aj))) (ai (aV G (ba g (M7 g (aa g) (aa g)) aE)) az))) (ai (dg (df g (aa g) (ae (bM (ae aL (ae (aa g) aj))) aj))) az)) az)) (ai (bI (a_ g (ae (ba g (aa g) (cH (ae (bM (ae aL (ae (df g aL (ae (iP (ln:=["_law_one"]) g (by kernel_rfl) (fo g (sA g (aa g) (jo (aa g)) ZK)) lE (fun _ g=> (aZ g (aa g) aE))) aj)) aj))) aj))) aj))) az))))))
def Dt:List Str:=["_law_one","_law_other","_law_e"]
def Oy:List Str:=["_law_one","_law_other"]
noncomputable def Du:List RS:=
 [.BK 3 2 0 [.ret (.call 0 [(.v 0),(.v 1)])] [.ret (.yr 0 (.v 2))]]
def ad4:List Str:=["passed"]
def ad5:List Str:=["InkError"]
def Oz:List Str:=[]
def ad6:List Str:=[]
def ad7:List Str:=[]
def ad8:List Str:=[]
def ad9:List Str:=["_law_word"]
def qm:Stmt:=cm 48
theorem ad_:bQ Dt Oy (ay qm):=cg
theorem aea{CX:aO}{Γ:aJ}{X:Cx}(G:aS CX (br Dt (ay qm) ad4 ad5 Oz ad6 ad7 ad8 ad9 0) Γ X):bo X (aF qm) (au Γ Du):=by
 have g:=G.toGood
 exact(ai (ZS G (by kernel_rfl) (by kernel_rfl) (fun G=> (fun g=> (ai (bI (a_ g (ae (aa g) (ae (aa g) aj)))) az)) G.toGood) (fun G=> (fun g=> (ai (bI (ZE g (aa g))) az)) G.toGood)) az)
def Dv:List Str:=["_law_change_here","_law_who","_law_found_here","_law_at","_law_many","_law_word_here","_law_thing"]
def OA:List Str:=["_law_change_here","_law_who"]
noncomputable def Dw:List RS:=
 [.asg 2 .yt,
 .asg 3 (.c (.int 0)),
 .asg 4 (.c (.int 0)),
 .kY [5,6] .list [(.v 0)] [.ite (.cmp .Eq (.v 5) (.c (.str "put"))) [.dput (.v 2) (.v 3) (.comp none [("_law_who",1),("_law_thing",6),("_law_many",4)] .eO [(.blt .len [(.v 6)])] none (.tup [(.tup [(.v 1),(.bin .Add (.v 3) (.v 0))]),(.ix (.v 2) (.v 0))])),
   .asg 4 (.bin .Add (.v 4) (.blt .len [(.v 6)]))] [.ite (.cmp .Eq (.v 5) (.c (.str "cut"))) [.asg 3 (.bin .Add (.v 3) (.blt .len [(.v 6)]))] [.asg 3 (.bin .Add (.v 3) (.v 6))]]],
 .ret (.v 2)]
def aeb:List Str:=[]
def aec:List Str:=[]
def OB:List Str:=["range","len"]
def aed:List Str:=[]
def aee:List Str:=[]
def aef:List Str:=[]
def aeg:List Str:=[]
def qo:Stmt:=cm 49
theorem aeh:bQ Dv OA (ay qo):=cg
theorem aei{CX:aO}{Γ:aJ}{X:Cx}(G:aS CX (br Dv (ay qo) aeb aec OB aed aee aef aeg 0) Γ X):bo X (aF qo) (au Γ Dw):=by
 have g:=G.toGood
 exact(ai (aV G ZC) (ai (aV G aE) (ai (aV G aE) (ai (pw [(_,_),(_,_)] G (fo g (aa g)) (ai (bR (bE g (aa g) aL) (ai (Ng G (iP (ln:=["_law_k"]) g (by kernel_rfl) (ng g (cG g (ae (aa g) aj))) lE (fun _ g=> (bM (ae (bM (ae (aa g) (ae (ba g (aa g) (aa g)) aj))) (ae (aZ g (aa g) (aa g)) aj))))) (aa g) (aa g)) (ai (aV G (ba g (aa g) (cG g (ae (aa g) aj)))) az)) (ai (bR (bE g (aa g) aL) (ai (aV G (ba g (aa g) (cG g (ae (aa g) aj)))) az) (ai (aV G (ba g (aa g) (aa g))) az)) az)) az)) (ai (bI (aa g)) az)))))
def Dx:List Str:=["_law_rows","_law_one","_law_other","_law_mine","_law_theirs","_law_first","_law_second","_law_found_here","_law_k"]
def OC:List Str:=["_law_rows","_law_one","_law_other","_law_mine","_law_theirs"]
noncomputable def Dy:List RS:=
 [.asg 5 (.call 0 [(.v 1),(.c (.str "one"))]),
 .asg 6 (.call 0 [(.v 2),(.c (.str "other"))]),
 .asg 7 (.lst []),
 .oX 8 .eO [(.bin .Add (.blt .len [(.v 0)]) (.c (.int 1)))] [.asg 7 (.bin .Add (.bin .Add (.v 7) (.uX (.v 5) (.v 8) (.lst []))) (.uX (.v 6) (.v 8) (.lst []))),
  .asg 7 (.bin .Add (.v 7) (.comp none [("_law_mine",3),("_law_theirs",4)] .list [(.sl (.v 0) (some (.v 8)) (some (.bin .Add (.v 8) (.c (.int 1)))))] (some (.and [(.inD (.v 0) (.v 1)),(.inD (.v 0) (.v 2))])) (.v 0)))],
 .ret (.v 7)]
def aej:List Str:=["_law_puts"]
def aek:List Str:=[]
def OD:List Str:=["range","len"]
def ael:List Str:=[]
def aem:List Str:=[]
def aen:List Str:=[]
def aeo:List Str:=[]
def qp:Stmt:=cm 50
theorem aep:bQ Dx OC (ay qp):=cg
theorem aeq{CX:aO}{Γ:aJ}{X:Cx}(G:aS CX (br Dx (ay qp) aej aek OD ael aem aen aeo 0) Γ X):bo X (aF qp) (au Γ Dy):=by
 have g:=G.toGood
 exact(ai (aV G (a_ g (ae (aa g) (ae aL aj)))) (ai (aV G (a_ g (ae (aa g) (ae aL aj)))) (ai (aV G (cH aj)) (ai (vz G (ng g (ba g (cG g (ae (aa g) aj)) aE)) (ai (aV G (ba g (ba g (aa g) (M_ g (aa g) (aa g) (cH aj))) (M_ g (aa g) (aa g) (cH aj)))) (ai (aV G (ba g (aa g) (iP (ln:=["_law_row"]) g (by kernel_rfl) (fo g (sA g (aa g) (jo (aa g)) (jo (ba g (aa g) aE)))) (sC fun _ g=> (PW.pt (vy (M8 g (aa g) (aa g)) (vx (M8 g (aa g) (aa g)))))) (fun _ g=> (aa g))))) az))) (ai (bI (aa g)) az)))))
def Dz:List Str:=["_law_found_here","_law_rows","_law_one","_law_other","_law_mine","_law_theirs","_law_both_here"]
def OE:List Str:=["_law_found_here","_law_rows","_law_one","_law_other"]
noncomputable def DA:List RS:=
 [.asg 4 (.call 0 [(.v 1),(.v 2),(.c (.str "one"))]),
 .asg 5 (.call 0 [(.v 1),(.v 3),(.c (.str "other"))]),
 .asg 6 (.call 1 [(.v 1),(.v 2),(.v 3),(.v 4),(.v 5)]),
 .ite (.or [(.not (.dG .tuple (.v 0))),(.cmp .NotEq (.blt .len [(.v 0)]) (.c (.int 2))),(.not (.call 2 [(.ix (.v 0) (.c (.int 0))),(.call 3 [(.v 5),(.v 6)])]))]) [.ret (.c (.bl false))] [],
 .ret (.call 2 [(.ix (.v 0) (.c (.int 1))),(.call 3 [(.v 4),(.v 6)])])]
def aer:List Str:=["_law_gone","_law_both","_law_same","_law_between"]
def aes:List Str:=[]
def OF:List Str:=["isinstance","tuple","len"]
def aet:List Str:=[]
def aeu:List Str:=[]
def aev:List Str:=[]
def aew:List Str:=[]
def qq:Stmt:=cm 51
theorem aex:bQ Dz OE (ay qq):=cg
theorem aey{CX:aO}{Γ:aJ}{X:Cx}(G:aS CX (br Dz (ay qq) aer aes OF aet aeu aev aew 0) Γ X):bo X (aF qq) (au Γ DA):=by
 have g:=G.toGood
 exact(ai (aV G (a_ g (ae (aa g) (ae (aa g) (ae aL aj))))) (ai (aV G (a_ g (ae (aa g) (ae (aa g) (ae aL aj))))) (ai (aV G (a_ g (ae (aa g) (ae (aa g) (ae (aa g) (ae (aa g) (ae (aa g) aj))))))) (ai (bR (PW.pt (iQ (gw (pk g (gr g (aa g)))) (iQ (bE g (cG g (ae (aa g) aj)) aE) (lF (gw (pj g (a_ g (ae (aZ g (aa g) aE) (ae (a_ g (ae (aa g) (ae (aa g) aj))) aj))))))))) (ai (bI jl) az) az) (ai (bI (a_ g (ae (aZ g (aa g) aE) (ae (a_ g (ae (aa g) (ae (aa g) aj))) aj)))) az)))))
def qr:Stmt:=cm 52
theorem aez:bQ Dr Oi (ay qr):=cg
theorem aeA{CX:aO}{Γ:aJ}{X:Cx}(G:aS CX (br Dr (ay qr) acW acX Oj acY acZ ac0 ac1 0) Γ X):bo X (aF qr) (au Γ Ds):=by
 have g:=G.toGood
 exact(ai (bI (iP (ln:=["_law_one","_law_sign"]) g (by kernel_rfl) (fo g (aa g)) lE (fun _ g=> (bM (ae (aa g) (ae (aZ g (cH (ae (aa g) (ae (aZ g aL (cG g (ae (gJ g (aa g) aL) aj))) aj))) (cG g (ae (gJ g (aa g) (aa g)) aj))) aj)))))) az)
def DB:List Str:=["_law_rows","_law_one","_law_other","_law_cell","_law_mine","_law_theirs","_law_there","_law_cut","_law_name","_law_found_here","_law_told"]
def OG:List Str:=["_law_rows","_law_one","_law_other","_law_cell"]
noncomputable def DC:List RS:=
 [.oW 4 (.comp (some 2) [] .list [(.call 0 [(.v 0),(.v 1),(.c (.str "one"))])] none (.v 0)),
 .asg 5 (.call 0 [(.v 0),(.v 2),(.c (.str "other"))]),
 .asg 6 (.comp (some 2) [] .list [(.v 5)] none (.v 0)),
 .oW 7 (.comp (some 2) [("_law_there",6)] .list [(.v 0)] (some (.oV (.v 0) (.v 2))) (.v 0)),
 .ite (.cmp .Eq (.v 7) (.lst [])) [.ret (.c (.bl true))] [],
 .asg 8 (.ix (.v 7) (.bin .Mod (.v 3) (.blt .len [(.v 7)]))),
 .asg 9 (.call 1 [(.v 1),(.call 2 [(.call 3 [(.v 0),(.v 8)]),(.v 5)])]),
 .ite (.oV (.v 8) (.v 4)) [.ret (.cmp .Eq (.v 9) (.c (.str "fit")))] [],
 .asg 10 (.call 3 [(.v 0),(.v 8)]),
 .ret (.call 4 [(.v 9),(.v 10),(.v 1),(.call 2 [(.v 10),(.v 5)])])]
def aeB:List Str:=["_law_gone","_law_found","_law_between","_law_told_otherwise","_law_right"]
def aeC:List Str:=[]
def OH:List Str:=["len"]
def aeD:List Str:=[]
def aeE:List Str:=[]
def aeF:List Str:=[]
def aeG:List Str:=[]
def qt:Stmt:=cm 53
theorem aeH:bQ DB OG (ay qt):=cg
theorem aeI{CX:aO}{Γ:aJ}{X:Cx}(G:aS CX (br DB (ay qt) aeB aeC OH aeD aeE aeF aeG 0) Γ X):bo X (aF qt) (au Γ DC):=by
 have g:=G.toGood
 exact(ai (Nd (ln:=["_law_name","_law_sign"]) G (by kernel_rfl) (by kernel_rfl) (by kernel_rfl) (fo g (a_ g (ae (aa g) (ae (aa g) (ae aL aj))))) lE (fun _ g=> (aa g))) (ai (aV G (a_ g (ae (aa g) (ae (aa g) (ae aL aj))))) (ai (aV G (iP (ln:=["_law_name","_law_sign"]) g (by kernel_rfl) (fo g (aa g)) lE (fun _ g=> (aa g)))) (ai (Nd (ln:=["_law_name","_law_sign"]) G (by kernel_rfl) (by kernel_rfl) (by kernel_rfl) (fo g (aa g)) (sC fun _ g=> (M9 g (aa g) (aa g))) (fun _ g=> (aa g))) (ai (bR (bE g (aa g) (cH aj)) (ai (bI jl) az) az) (ai (aV G (aZ g (aa g) (ba g (aa g) (cG g (ae (aa g) aj))))) (ai (aV G (a_ g (ae (aa g) (ae (a_ g (ae (a_ g (ae (aa g) (ae (aa g) aj))) (ae (aa g) aj))) aj)))) (ai (bR (M9 g (aa g) (aa g)) (ai (bI (gJ g (aa g) aL)) az) az) (ai (aV G (a_ g (ae (aa g) (ae (aa g) aj)))) (ai (bI (a_ g (ae (aa g) (ae (aa g) (ae (aa g) (ae (a_ g (ae (aa g) (ae (aa g) aj))) aj)))))) az))))))))))
def gz:List Str:=["_law_script","_law_text_here","_law_one","_law_other","_law_rows","_law_handed","_law_turn","_law_found_here","_law_cell","_law_longer","_law_odd"]
def OI:List Str:=["_law_script"]
noncomputable def cN:List RS:=
 [.asg 1 (.call 0 [(.call 1 [(.v 0),(.c (.int 1))]),(.bin .Mod (.call 2 [(.call 1 [(.v 0),(.c (.int 0))])]) (.c (.int 200)))]),
 .asg 2 (.call 3 [(.call 1 [(.v 0),(.c (.int 3))]),(.v 1),(.bin .Mod (.call 1 [(.v 0),(.c (.int 2))]) (.c (.int 9)))]),
 .asg 3 (.call 3 [(.call 1 [(.v 0),(.c (.int 5))]),(.v 1),(.bin .Mod (.call 1 [(.v 0),(.c (.int 4))]) (.c (.int 9)))]),
 .asg 4 (.call 4 [(.v 1)]),
 .asg 5 (.lst [(.blt .list [(.v 2)]),(.blt .list [(.v 3)])]),
 .oX 6 .eO [(.c (.int 2))] [.asg 7 (.call 5 [(.ix (.v 5) (.c (.int 0))),(.ix (.v 5) (.c (.int 1)))]),
  .ite (.or [(.not (.call 6 [(.v 7),(.v 4),(.v 2),(.v 3)])),(.cmp .NotEq (.v 5) (.lst [(.v 2),(.v 3)]))]) [.ret (.c (.bl false))] [],
  .drop (.cb .append (.ix (.v 7) (.c (.int 0))) [(.tup [(.c (.str "keep")),(.c (.int 1))])]),
  .drop (.cb .append (.ix (.v 7) (.c (.int 1))) [(.tup [(.c (.str "keep")),(.c (.int 1))])])],
 .asg 8 (.call 7 [(.call 1 [(.v 0),(.c (.int 6))]),(.c (.int 2))]),
 .ite (.not (.call 8 [(.v 4),(.v 2),(.v 3),(.bin .FloorDiv (.v 8) (.c (.int 4)))])) [.ret (.c (.bl false))] [],
 .asg 9 (.call 3 [(.call 1 [(.v 0),(.c (.int 5))]),(.bin .Add (.v 1) (.c (.str "a"))),(.bin .Mod (.call 1 [(.v 0),(.c (.int 4))]) (.c (.int 9)))]),
 .ite (.or [(.cmp .NotEq (.call 5 [(.v 2),(.v 9)]) (.c (.str "fit"))),(.cmp .NotEq (.call 5 [(.v 9),(.v 3)]) (.c (.str "fit")))]) [.ret (.c (.bl false))] [],
 .asg 10 (.ix (.lst [(.lst [(.tup [(.c (.str "keep")),(.c (.int 0))])]),(.c .aw),(.c (.str "keep")),(.lst [(.tup [(.c (.str "put")),(.c (.str "a"))]),(.tup [(.c (.str "put")),(.c (.str "b"))])])]) (.bin .Mod (.v 8) (.c (.int 4)))),
 .ret (.and [(.cmp .Eq (.call 5 [(.v 10),(.v 3)]) (.c (.str "change"))),(.cmp .Eq (.call 5 [(.v 2),(.v 10)]) (.c (.str "change")))])]
def h_:List Str:=["_law_text","_law_cell_at","_law_size","_law_change","_law_named","_law_found","_law_right","_law_mixed","_law_cut_otherwise"]
def ia:List Str:=[]
def gK:List Str:=["list","range"]
def ib:List Str:=[]
def ic:List Str:=[]
def ie:List Str:=[]
def ig:List Str:=[]
def bJ:Stmt:=cm 54
theorem aeJ:bQ gz OI (ay bJ):=cg
theorem aeK{CX:aO}{Γ:aJ}{X:Cx}(G:aS CX (br gz (ay bJ) h_ ia gK ib ic ie ig 0) Γ X):PS X ((aF bJ).getD 0 (.Pass ⟨0,0,0,0⟩)) (bB Γ (cN.getD 0 (.ret (.c .aw)))):=by
 have g:=G.toGood
 show PS X (.Assign [.Name "_law_text_here" _] _ _) (bB Γ (.asg 1 _))
 with_reducible exact(aV G (a_ g (ae (a_ g (ae (aa g) (ae aE aj))) (ae (ba g (a_ g (ae (a_ g (ae (aa g) (ae aE aj))) aj)) aE) aj))))
theorem aeL{CX:aO}{Γ:aJ}{X:Cx}(G:aS CX (br gz (ay bJ) h_ ia gK ib ic ie ig 0) Γ X):PS X ((aF bJ).getD 1 (.Pass ⟨0,0,0,0⟩)) (bB Γ (cN.getD 1 (.ret (.c .aw)))):=by
 have g:=G.toGood
 show PS X (.Assign [.Name "_law_one" _] _ _) (bB Γ (.asg 2 _))
 with_reducible exact(aV G (a_ g (ae (a_ g (ae (aa g) (ae aE aj))) (ae (aa g) (ae (ba g (a_ g (ae (aa g) (ae aE aj))) aE) aj)))))
theorem aeM{CX:aO}{Γ:aJ}{X:Cx}(G:aS CX (br gz (ay bJ) h_ ia gK ib ic ie ig 0) Γ X):PS X ((aF bJ).getD 2 (.Pass ⟨0,0,0,0⟩)) (bB Γ (cN.getD 2 (.ret (.c .aw)))):=by
 have g:=G.toGood
 show PS X (.Assign [.Name "_law_other" _] _ _) (bB Γ (.asg 3 _))
 with_reducible exact(aV G (a_ g (ae (a_ g (ae (aa g) (ae aE aj))) (ae (aa g) (ae (ba g (a_ g (ae (aa g) (ae aE aj))) aE) aj)))))
theorem aeN{CX:aO}{Γ:aJ}{X:Cx}(G:aS CX (br gz (ay bJ) h_ ia gK ib ic ie ig 0) Γ X):PS X ((aF bJ).getD 3 (.Pass ⟨0,0,0,0⟩)) (bB Γ (cN.getD 3 (.ret (.c .aw)))):=by
 have g:=G.toGood
 show PS X (.Assign [.Name "_law_rows" _] _ _) (bB Γ (.asg 4 _))
 with_reducible exact(aV G (a_ g (ae (aa g) aj)))
theorem aeO{CX:aO}{Γ:aJ}{X:Cx}(G:aS CX (br gz (ay bJ) h_ ia gK ib ic ie ig 0) Γ X):PS X ((aF bJ).getD 4 (.Pass ⟨0,0,0,0⟩)) (bB Γ (cN.getD 4 (.ret (.c .aw)))):=by
 have g:=G.toGood
 show PS X (.Assign [.Name "_law_handed" _] _ _) (bB Γ (.asg 5 _))
 with_reducible exact(aV G (cH (ae (cG g (ae (aa g) aj)) (ae (cG g (ae (aa g) aj)) aj))))
theorem aeP{CX:aO}{Γ:aJ}{X:Cx}(G:aS CX (br gz (ay bJ) h_ ia gK ib ic ie ig 0) Γ X):PS X ((aF bJ).getD 5 (.Pass ⟨0,0,0,0⟩)) (bB Γ (cN.getD 5 (.ret (.c .aw)))):=by
 have g:=G.toGood
 exact(vz G (ng g aE) (ai (aV G (a_ g (ae (aZ g (aa g) aE) (ae (aZ g (aa g) aE) aj)))) (ai (bR (PW.pt (iQ (gw (pj g (a_ g (ae (aa g) (ae (aa g) (ae (aa g) (ae (aa g) aj))))))) (lF (bE g (aa g) (cH (ae (aa g) (ae (aa g) aj))))))) (ai (bI jl) az) az) (ai (dg (df g (aZ g (aa g) aE) (ae (bM (ae aL (ae aE aj))) aj))) (ai (dg (df g (aZ g (aa g) aE) (ae (bM (ae aL (ae aE aj))) aj))) az)))))
theorem aeQ{CX:aO}{Γ:aJ}{X:Cx}(G:aS CX (br gz (ay bJ) h_ ia gK ib ic ie ig 0) Γ X):PS X ((aF bJ).getD 6 (.Pass ⟨0,0,0,0⟩)) (bB Γ (cN.getD 6 (.ret (.c .aw)))):=by
 have g:=G.toGood
 show PS X (.Assign [.Name "_law_cell" _] _ _) (bB Γ (.asg 8 _))
 with_reducible exact(aV G (a_ g (ae (a_ g (ae (aa g) (ae aE aj))) (ae aE aj))))
theorem aeR{CX:aO}{Γ:aJ}{X:Cx}(G:aS CX (br gz (ay bJ) h_ ia gK ib ic ie ig 0) Γ X):PS X ((aF bJ).getD 7 (.Pass ⟨0,0,0,0⟩)) (bB Γ (cN.getD 7 (.ret (.c .aw)))):=by
 have g:=G.toGood
 exact(bR (gw (pj g (a_ g (ae (aa g) (ae (aa g) (ae (aa g) (ae (ba g (aa g) aE) aj))))))) (ai (bI jl) az) az)
theorem aeS{CX:aO}{Γ:aJ}{X:Cx}(G:aS CX (br gz (ay bJ) h_ ia gK ib ic ie ig 0) Γ X):PS X ((aF bJ).getD 8 (.Pass ⟨0,0,0,0⟩)) (bB Γ (cN.getD 8 (.ret (.c .aw)))):=by
 have g:=G.toGood
 show PS X (.Assign [.Name "_law_longer" _] _ _) (bB Γ (.asg 9 _))
 with_reducible exact(aV G (a_ g (ae (a_ g (ae (aa g) (ae aE aj))) (ae (ba g (aa g) aL) (ae (ba g (a_ g (ae (aa g) (ae aE aj))) aE) aj)))))
theorem aeT{CX:aO}{Γ:aJ}{X:Cx}(G:aS CX (br gz (ay bJ) h_ ia gK ib ic ie ig 0) Γ X):PS X ((aF bJ).getD 9 (.Pass ⟨0,0,0,0⟩)) (bB Γ (cN.getD 9 (.ret (.c .aw)))):=by
 have g:=G.toGood
 exact(bR (PW.pt (iQ (bE g (a_ g (ae (aa g) (ae (aa g) aj))) aL) (lF (bE g (a_ g (ae (aa g) (ae (aa g) aj))) aL)))) (ai (bI jl) az) az)
theorem aeU{CX:aO}{Γ:aJ}{X:Cx}(G:aS CX (br gz (ay bJ) h_ ia gK ib ic ie ig 0) Γ X):PS X ((aF bJ).getD 10 (.Pass ⟨0,0,0,0⟩)) (bB Γ (cN.getD 10 (.ret (.c .aw)))):=by
 have g:=G.toGood
 show PS X (.Assign [.Name "_law_odd" _] _ _) (bB Γ (.asg 10 _))
 with_reducible exact(aV G (aZ g (cH (ae (cH (ae (bM (ae aL (ae aE aj))) aj)) (ae ZA (ae aL (ae (cH (ae (bM (ae aL (ae aL aj))) (ae (bM (ae aL (ae aL aj))) aj))) aj))))) (ba g (aa g) aE)))
theorem aeV{CX:aO}{Γ:aJ}{X:Cx}(G:aS CX (br gz (ay bJ) h_ ia gK ib ic ie ig 0) Γ X):PS X ((aF bJ).getD 11 (.Pass ⟨0,0,0,0⟩)) (bB Γ (cN.getD 11 (.ret (.c .aw)))):=by
 have g:=G.toGood
 show PS X (.Return (some _) _) (bB Γ (.ret _))
 with_reducible exact(bI (jW (gJ g (a_ g (ae (aa g) (ae (aa g) aj))) aL) (lB (gJ g (a_ g (ae (aa g) (ae (aa g) aj))) aL))))
theorem aeW{CX:aO}{Γ:aJ}{X:Cx}(G:aS CX (br gz (ay bJ) h_ ia gK ib ic ie ig 0) Γ X):bo X (aF bJ) (au Γ cN):=by
 have e:aF bJ=[((aF bJ).getD 0 (.Pass ⟨0,0,0,0⟩)),((aF bJ).getD 1 (.Pass ⟨0,0,0,0⟩)),((aF bJ).getD 2 (.Pass ⟨0,0,0,0⟩)),((aF bJ).getD 3 (.Pass ⟨0,0,0,0⟩)),((aF bJ).getD 4 (.Pass ⟨0,0,0,0⟩)),((aF bJ).getD 5 (.Pass ⟨0,0,0,0⟩)),((aF bJ).getD 6 (.Pass ⟨0,0,0,0⟩)),((aF bJ).getD 7 (.Pass ⟨0,0,0,0⟩)),((aF bJ).getD 8 (.Pass ⟨0,0,0,0⟩)),((aF bJ).getD 9 (.Pass ⟨0,0,0,0⟩)),((aF bJ).getD 10 (.Pass ⟨0,0,0,0⟩)),((aF bJ).getD 11 (.Pass ⟨0,0,0,0⟩))]:=by kernel_rfl
 have e2:cN=[(cN.getD 0 (.ret (.c .aw))),(cN.getD 1 (.ret (.c .aw))),(cN.getD 2 (.ret (.c .aw))),(cN.getD 3 (.ret (.c .aw))),(cN.getD 4 (.ret (.c .aw))),(cN.getD 5 (.ret (.c .aw))),(cN.getD 6 (.ret (.c .aw))),(cN.getD 7 (.ret (.c .aw))),(cN.getD 8 (.ret (.c .aw))),(cN.getD 9 (.ret (.c .aw))),(cN.getD 10 (.ret (.c .aw))),(cN.getD 11 (.ret (.c .aw)))]:=by kernel_rfl
 rw[e,e2]
 with_reducible exact ai (aeK G) (ai (aeL G) (ai (aeM G) (ai (aeN G) (ai (aeO G) (ai (aeP G) (ai (aeQ G) (ai (aeR G) (ai (aeS G) (ai (aeT G) (ai (aeU G) (ai (aeV G) (az))))))))))))
end L2.dz
namespace L2.B
open PySem PySem.Spec PyProof.Rows
def dJ(H H':Hp):Prop:= ∀b xs,H b=some (.tup xs)→H' b=some (.tup xs)
theorem aM{H H':Hp}(h:ax H H'):dJ H H':=fun b xs e=>h b _ e
theorem dJ.trans{H H1 H2:Hp}(a:dJ H H1)(b:dJ H1 H2):dJ H H2:=fun c xs e=>b c xs (a c xs e)
theorem sameNew{H:Hp}{p:Addr}{o:HO}(h:H p=none):ax H (upd H p o):=fun b u e=>by rw[aD (aW e h)];exact e
def cn(c:Addr)(H H':Hp):Prop:= ∀b o,H b=some o→b≠c→H' b=some o
theorem cn.upd{H:Hp}{c:Addr}{o:HO}:cn c H (upd H c o):=fun b u e n=>by rw[aD n];exact e
theorem cn.trans{c:Addr}{H H1 H2:Hp}(a:cn c H H1)(b:cn c H1 H2):cn c H H2:=fun d o e n=>b d o (a d o e n) n
theorem sameBut{c:Addr}{H H1 H2:Hp}(a:ax H H1)(b:cn c H1 H2):cn c H H2:=fun d o e n=>b d o (a d o e) n
theorem qu{c:Addr}{H H1 H2:Hp}(a:ax H H1)(hc:H c=none)(b:cn c H1 H2):ax H H2:=fun d o e=>b d o (a d o e) (aW e hc)
theorem cn.dw{c:Addr}{H H':Hp}{xs:List V}(h:cn c H H')(hc:H c=some (.lst xs)):dJ H H':=fun b ys e=>h b _ e (fun z=>by rw[z,hc] at e;cases e)
theorem iF{c:Bool}{A B:Prop}(q:B)(h:c=false:=by first | rfl | decide):if c=true then A else B:=by
 rw[h];exact iN q
theorem iT{c:Bool}{A B:Prop}(q:A)(h:c=true:=by first | rfl | decide):if c=true then A else B:=by
 rw[h];exact fk q
inductive Pt where | keep (n:Int) | put (s:Str) | cut (s:Str)
 deriving DecidableEq
def Pt.word:Pt→Str | .keep _=> "keep" | .put _=> "put" | .cut _=> "cut"
def Pt.val:Pt→V | .keep n=> .int n | .put s=> .str s | .cut s=> .str s
def gA(H:Hp)(v:V)(p:Pt):Prop:= ∃a,v= .ref a∧H a=some (.tup [.str p.word,p.val])
abbrev aQ(H:Hp):List V→List Pt→Prop:=Paired (gA H)
theorem gA.mono{H H':Hp}{v:V}{p:Pt}(t:dJ H H')(h:gA H v p):gA H' v p:=by
 obtain⟨a,e,h⟩:=h
 exact⟨a,e,t _ _ h⟩
theorem aQ.mono{H H':Hp}(t:dJ H H'): ∀{vs:List V} {ps:List Pt},aQ H vs ps→aQ H' vs ps
 | _,_, .nil=> .nil
 | _,_, .cons h r=> .cons (h.mono t) (aQ.mono t r)
theorem aQ.get{H:Hp}: ∀{vs:List V} {ps:List Pt} {i:Nat} {v:V},aQ H vs ps→vs[i]?=some v→ ∃p,ps[i]?=some p∧gA H v p
 | _,_,i,v, .nil,e=>by simp at e
 | _,_,0,v, .cons h r,e=>by simp at e;subst e;exact⟨_,rfl,h⟩
 | _,_,i+1,v, .cons h r,e=>by
  obtain⟨p,a,b⟩:=aQ.get (i:=i) r (by simpa using e)
  exact⟨p,by simpa using a,b⟩
theorem aQ.snoc{H:Hp}{vs:List V}{ps:List Pt}{v:V}{p:Pt}(h:aQ H vs ps)(q:gA H v p):aQ H (vs++ [v]) (ps++ [p]):=Paired.snoc h q
theorem aQ.dropLast{H:Hp}: ∀{vs:List V} {ps:List Pt},aQ H vs ps→aQ H vs.dropLast ps.dropLast
 | _,_, .nil=> .nil
 | _,_, .cons h .nil=> .nil
 | _,_, .cons h (.cons h2 r)=> .cons h (aQ.dropLast (.cons h2 r))
def ze:Sp:=fun vs H Q E=> ∃i,vs=[.int i]∧Q (.bl true) H
def jr(w a:Str):Bool:=w !=a && !(a=="cut" && w=="put")
def sH:Sp:=fun vs H Q E=> ∃w a,vs=[.str w, .str a]∧Q (.bl (jr w a)) H
theorem aeX{K:PySem.W.Frag}(vs:List V)(H:Hp)(Q:VK)(E:XK)(h:sH vs H Q E):au (aU K [] [] (E:=E)) CB {nx:=fun _ H'=>Q .aw H',rt:=Q} (start CA vs) H:=by
 obtain⟨w,a,rfl,q⟩:=h
 refine⟨_,rfl,_,rfl,_,rfl, ?_⟩
 unfold jr at q
 refine g8 (fun h=> ?_) (fun h=> ?_)
 ·rw[Bool.true_xor,fI] at h
  have e:(w !=a)=true:=h
  rw[e] at q
  refine⟨_,rfl,_,rfl, ?_⟩
  refine g8 (fun h2=> ?_) (fun h2=> ?_)
  ·rw[Bool.false_xor,fI] at h2
   rw[h2] at q
   refine⟨_,rfl, ?_⟩
   show Q (.bl (!(false ^^ decide (V.str w=V.str "put")))) H
   rw[Bool.false_xor,fI]
   exact q
  ·rw[Bool.false_xor,fI] at h2
   have e2:(a=="cut")=false:=by simpa using h2
   rw[e2] at q
   exact q
 ·rw[Bool.true_xor,fI] at h
  have e:(w !=a)=false:=by simpa using h
  rw[e] at q
  exact q
def qv:Pt→Int | .keep n=>n | .put s=>s.length | .cut s=>s.length
def OJ:Pt→Prop | .keep _=>True | .put s=>s.length≤1000000 | .cut s=>s.length≤1000000
theorem cz{n:Nat}(h:n≤1000000):n≤sizeLine:=Nat.le_trans h (by decide)
theorem cY{n:Nat}(h:n≤1000000):n<sizeLine:=Nat.lt_of_le_of_lt h (by decide)
def js:Sp:=fun vs H Q E=> ∃v p,vs=[v]∧gA H v p∧OJ p∧Q (.int (qv p)) H
theorem aeY{K:PySem.W.Frag}(vs:List V)(H:Hp)(Q:VK)(E:XK)(h:js vs H Q E):au (aU K [] [] (E:=E)) CH {nx:=fun _ H'=>Q .aw H',rt:=Q} (start CG vs) H:=by
 obtain⟨v,p,rfl,⟨a,rfl,ha⟩,ho,q⟩:=h
 refine⟨_,rfl, .inr (.inl ⟨_,_,_,_,rfl,rfl,aI.of ha,rfl,_,rfl, ?_⟩)⟩
 rw[Bool.false_xor,fI]
 cases p with
 | keep n=>exact fk ⟨_,rfl, .inr (.inl ⟨_,_,_,_,rfl,rfl,aI.of ha,rfl,q⟩)⟩
 | put s=>exact iN ⟨_,rfl, .inr (.inl ⟨_,_,_,_,rfl,rfl,aI.of ha,rfl,cz ho,q⟩)⟩
 | cut s=>exact iN ⟨_,rfl, .inr (.inl ⟨_,_,_,_,rfl,rfl,aI.of ha,rfl,cz ho,q⟩)⟩
def cell(ns:List Int)(k:Nat):Int:=ns.getD k 0
def vL(K:PySem.W.Frag):Sp:=fun vs H Q E=> ∃(a:Addr) (ns:List Int) (k:Int),vs=[.ref a, .int k]∧ao K H a (ns.map V.int)∧0≤k∧Q (.int (cell ns k.toNat)) H
theorem aeZ{K:PySem.W.Frag}(vs:List V)(H:Hp)(Q:VK)(E:XK)(h:vL K vs H Q E):au (aU K [] [] (E:=E)) CQ {nx:=fun _ H'=>Q .aw H',rt:=Q} (start CP vs) H:=by
 obtain⟨a,ns,k,rfl,ha,hk,q⟩:=h
 refine⟨_,rfl,_,rfl, .inl ⟨_,ha,trivial,_,rfl, ?_⟩⟩
 rw[List.length_map]
 refine g8 (fun h=> ?_) (fun h=> ?_)
 ·have aP:k< (ns.length:Int):=of_decide_eq_true h
  refine⟨_,rfl,_,rfl, .inl ⟨_,_,_,_,rfl,rfl,ha, ?_,q⟩⟩
  have e:=kN (xs:=ns.map V.int) (j:=k.toNat) (v:= .int (cell ns k.toNat)) (by
   have:k.toNat<ns.length:=by omega
   simp[cell,this])
  rw[show((k.toNat:Nat):Int)=k by omega] at e
  exact e
 ·have hge: ¬k< (ns.length:Int):=fun z=>h (decide_eq_true z)
  have e:cell ns k.toNat=0:=by
   have z:ns[k.toNat]?=none:=List.getElem?_eq_none_iff.mpr (by omega)
   unfold cell
   rw[List.getD_eq_getElem?_getD,z];rfl
  rw[e] at q
  exact q
theorem DD:(0:Int) <1000003:=by decide
def mixed(c k:Int):Int:=let n:=(c*48271+7919*k+11) % 1000003;n*n % 1000003*n % 1000003
def lO:Sp:=fun vs H Q E=> ∃c k,vs=[.int c, .int k]∧Q (.int (mixed c k)) H
theorem ae0{K:PySem.W.Frag}(vs:List V)(H:Hp)(Q:VK)(E:XK)(h:lO vs H Q E):au (aU K [] [] (E:=E)) CT {nx:=fun _ H'=>Q .aw H',rt:=Q} (start CS vs) H:=by
 obtain⟨c,k,rfl,q⟩:=h
 have h0: ∀z:Int,0≤z % 1000003∧z % 1000003<1000003:=fun z=> ⟨Int.emod_nonneg _ (by decide),Int.emod_lt_of_pos _ (by decide)⟩
 have h1:=h0 (c*48271+7919*k+11)
 have h2:=h0 ((c*48271+7919*k+11) % 1000003* ((c*48271+7919*k+11) % 1000003))
 refine⟨_,rfl, .inr ⟨by decide,by decide⟩,_,rfl, .inl ⟨by decide,by decide⟩,DD, ?_⟩
 refine⟨_,rfl,_,rfl, .inl ⟨by omega,by omega⟩,DD,_,rfl, .inl ⟨by omega,by omega⟩,DD, ?_⟩
 exact q
theorem ae1(c k:Int):0≤mixed c k∧mixed c k<1000003:=⟨Int.emod_nonneg _ (by decide),Int.emod_lt_of_pos _ (by decide)⟩
def SG:Str:=" !\"#$&'()*+,-./0123456789:;<=>?@ABCDEFGHIJKLMNOPQRSTUVWXYZ[\\]^_`abcdefghijklmnopqrstuvwxyz{|}~\n"
def good(x:Str):Prop:=x.length≤1000000∧ ∀c∈x.cps.toList,SG.cps.contains c=true
theorem takeWhile_all{α:Type}(p:α→Bool): ∀l:List α,(∀c∈l,p c=true)→l.takeWhile p=l
 | [],_=>rfl
 | c::l,h=>by rw[List.takeWhile_cons,h c List.mem_cons_self,takeWhile_all p l fun d hd=>h d (List.mem_cons_of_mem _ hd)];rfl
theorem ae2(x y:Str)(h: ∀c∈x.cps.toList,y.cps.contains c=true):Txt.lstripChars x y="":=by
 have e0:stripLo y.cps.contains true x=x.length:=by
  unfold stripLo
  rw[if_pos rfl,takeWhile_all _ _ h]
  simp[Str.length]
 have e1:stripHi y.cps.contains false x x.length=x.length:=rfl
 unfold Txt.lstripChars Txt.stripBy stripSame stripped
 rw[e0,e1]
 split
 ·rename_i hq
  simp only[Bool.and_eq_true,beq_iff_eq] at hq
  have:x.cps= #[]:=Array.eq_empty_of_size_eq_zero hq.1
  obtain⟨c⟩:=x
  have e:c= #[]:=this
  subst e
  rfl
 ·show(⟨x.cps.extract x.length x.length⟩:Str)=_
  have:x.cps.extract x.length x.length= #[]:=by simp[Str.length]
  rw[this];rfl
theorem zf{H:Hp}{a:Addr}{xs:List V}{T:Ty}{k:Bool→Prop}(h:H a=some (.tup xs))(q:k (T== .tuple)):bZ T (.ref a) H k:=by
 show(match H a with | some (.lst _)=>k (T== .list) | some (.bL _ (.lst _))=>k (T== .list) | some (.tup _)=>k (T== .tuple) | some (.dK _)=>k (T== .dict) | some (.dT _)=>k (T== .dict) | _=>False)
 rw[h];exact q
theorem DE{H:Hp}{a:Addr}{xs:List V}{T:Ty}{k:Bool→Prop}(h:H a=some (.lst xs))(q:k (T== .list)):bZ T (.ref a) H k:=by
 show(match H a with | some (.lst _)=>k (T== .list) | some (.bL _ (.lst _))=>k (T== .list) | some (.tup _)=>k (T== .tuple) | some (.dK _)=>k (T== .dict) | some (.dT _)=>k (T== .dict) | _=>False)
 rw[h];exact q
abbrev gS:List (Str×V):=[("SIGNS", .str SG)]
def ae3:Sp:=fun vs H Q E=> ∃x,vs=[.str x]∧good x∧Q (.bl true) H
theorem ae4{K:PySem.W.Frag}(vs:List V)(H:Hp)(Q:VK)(E:XK)(h:ae3 vs H Q E):au (aU K [] gS (E:=E)) yX {nx:=fun _ H'=>Q .aw H',rt:=Q} (start yW vs) H:=by
 obtain⟨x,rfl,hx,q⟩:=h
 refine⟨_,rfl,rfl,_,rfl,fk ⟨_,rfl,rfl,cz hx.1, ?_⟩⟩
 show Q (.bl (false ^^ decide (V.str (Txt.lstripChars x SG)=V.str ""))) H
 rw[ae2 x SG hx.2,decide_eq_true rfl]
 exact q
def bp:Pt→Prop | .keep n=>1≤n | .put s=>good s∧s≠"" | .cut s=>good s∧s≠""
def ae5(K:PySem.W.Frag):Sp:=fun vs H Q E=> ∃w p xs,vs=[.str w, .ref p]∧aI K H p xs∧xs.all eG=true∧Q (.bl (gf (.str w) xs)) H
theorem ae6{K:PySem.W.Frag}(vs:List V)(H:Hp)(Q:VK)(E:XK)(h:ae5 K vs H Q E):au (aU K [] [] (E:=E)) yV {nx:=fun _ H'=>Q .aw H',rt:=Q} (start yU vs) H:=by
 obtain⟨w,p,xs,rfl,hp,hf,q⟩:=h
 exact⟨_,rfl,rfl,_,rfl,fk ⟨_,rfl,_,rfl,p,xs,rfl,(.inr hp),rfl,hf,q⟩⟩
def DF:Sp:=fun vs H Q E=> ∃v p,vs=[v]∧gA H v p∧bp p∧ ∀H',ax H H'→Q (.bl true) H'
def chainOk:Str→List Pt→Bool
 | _,[]=>true
 | a,p::r=>jr p.word a && chainOk p.word r
def fP(a:Str)(ps:List Pt):Nat→Str
 | 0=>a
 | i+1=>match ps[i]? with | some p=>p.word | none=> ""
theorem zg: ∀(ps:List Pt) (a:Str) (i:Nat) (p:Pt),chainOk a ps=true→ps[i]?=some p→jr p.word (fP a ps i)=true
 | [],_,_,_,_,h=>by simp at h
 | q::r,a,0,p,h,e=>by
  simp only[chainOk,Bool.and_eq_true] at h
  simp at e;subst e;exact h.1
 | q::r,a,i+1,p,h,e=>by
  simp only[chainOk,Bool.and_eq_true] at h
  have e':r[i]?=some p:=by simpa using e
  have ih:=zg r q.word i p h.2 e'
  cases i with
  | zero=>simpa[fP] using ih
  | succ i=>simpa[fP] using ih
abbrev ae7:List (Str×Sp):=[("is_part",DF),("may_follow",sH)]
def zh:Sp:=fun vs H Q E=> ∃a xs ps,vs=[.ref a]∧H a=some (.lst xs)∧aQ H xs ps∧(∀p∈ps,bp p)∧chainOk "" ps=true∧ ∀H',ax H H'→Q .aw H'
theorem ae8{K:PySem.W.Frag}{et:List (Str×Addr)}(vs:List V)(H:Hp)(Q:VK)(E:XK)(h:zh vs H Q E):au (aU K ae7 [] (et:=et) (E:=E)) vF {nx:=fun _ H'=>Q .aw H',rt:=Q} (start yY vs) H:=by
 obtain⟨a,xs,ps,rfl,ha,cv,aB,dq,q⟩:=h
 refine⟨_,rfl,rfl,DE ha ⟨_,rfl,a,rfl,⟨_,ao.of ha⟩,mM (K:=K) (a:=a) (xs:=xs) (fun i σ H2=> ∃v,σ=[some (.ref a),some (.str (fP "" ps i)),v]∧ax H H2) ⟨none,rfl,ax.refl _⟩
  (fun i σ H2 _ ⟨_,_,s2⟩=>ao.of (s2 _ _ ha)) ?_ ?_⟩⟩
 ·rintro i x σ H2 hi ⟨v,rfl,s2⟩
  obtain⟨p,hp,ij⟩:=cv.get hi
  obtain⟨b,rfl,hb⟩:=ij.mono (aM s2)
  refine⟨_,rfl,_,p,rfl,⟨b,rfl,hb⟩,aB p (List.mem_of_getElem? hp),fun H3 s3=> ?_⟩
  refine⟨_,rfl, .inr (.inl ⟨_,_,_,_,rfl,rfl,aI.of (s3 _ _ hb),rfl,_,rfl,p.word,_,rfl, ?_⟩)⟩
  have e:=zg ps "" i p dq hp
  show(fun c H1=>if (!c)=true then _ else _) (jr p.word (fP "" ps i)) H3
  rw[e]
  refine⟨_,rfl, .inr (.inl ⟨_,_,_,_,rfl,rfl,aI.of (s3 _ _ hb),rfl,some (.ref b), ?_,s2.trans s3⟩)⟩
  show[some (V.ref a),some (V.str p.word),some (V.ref b)]=_
  have e2:fP "" ps (i+1)=p.word:=by simp only[fP,hp]
  rw[e2]
 ·rintro σ H2 ⟨v,rfl,s2⟩
  exact q H2 s2
def overOf(ps:List Pt):List Int:=(ps.filter fun p=>decide (p.word≠ ("put":Str))).map qv
def ae9(ps:List Pt):List Int:=(ps.filter fun p=>decide (p.word≠ ("cut":Str))).map qv
abbrev OK:List (Str×Sp):=[("need_change",zh),("part_size",js)]
def iR:Sp:=fun vs H Q E=> ∃a xs ps,vs=[.ref a]∧H a=some (.lst xs)∧aQ H xs ps∧(∀p∈ps,bp p)∧chainOk "" ps=true∧ps.length≤1000000∧
 ∀t H',ax H H'→H' t=some (.tup [.int (overOf ps).sum, .int (ae9 ps).sum])→Q (.ref t) H'
theorem DG{p:Pt}(h:bp p):OJ p:=by
 cases p with
 | keep n=>trivial
 | put s=>exact h.1.1
 | cut s=>exact h.1.1
theorem OL{α:Type}(p:α→Bool)(l:List α)(i:Nat)(v:α)(h:l[i]?=some v):(l.take (i+1)).filter p=(l.take i).filter p++ (if p v then [v] else []):=by
 rw[List.take_add_one,h,List.filter_append]
 cases hp:p v<;>simp[hp]
theorem ae_{K:PySem.W.Frag}(vs:List V)(H:Hp)(Q:VK)(E:XK)(h:iR vs H Q E):au (aU K OK [] (E:=E)) vG {nx:=fun _ H'=>Q .aw H',rt:=Q} (start yZ vs) H:=by
 obtain⟨a,xs,ps,rfl,ha,cv,aB,dq,hlen,q⟩:=h
 refine⟨_,rfl,a,xs,ps,rfl,ha,cv,aB,dq,fun H1 s1=> ?_⟩
 have hl:=Paired.length cv
 have comp: ∀(w:Str) (H1:Hp) (Q1:VK) (σ:St),ax H H1→σ[0]?=some (some (.ref a))→
   (∀b H2,ax H H2→H2 b=some (.lst (((ps.filter fun p=>decide (p.word≠w)).map qv).map V.int))→Q1 (.ref b) H2)→
   ag (aU K OK [] (E:=E)) (.comp none [] .list [(.v 0)] (some (.cmp .NotEq (.ix (.v 0) (.c (.int 0))) (.c (.str w)))) (.call 1 [(.v 0)])) σ H1 Q1:=by
  intro w H1 Q1 σ s1 hσ hq
  refine⟨_,hσ,a,rfl,⟨_,ao.of (s1 _ _ ha)⟩,fun i m ys H2=>m=xs.length - i∧i≤xs.length∧ax H H2∧ys=(((ps.take i).filter fun p=>decide (p.word≠w)).map qv).map V.int,⟨_,rfl,Nat.zero_le _,s1,rfl⟩, ?_⟩
  rintro i m ys H2 ⟨rfl,hi,s2,rfl⟩
  by_cases aP:i<xs.length
  ·refine .inr ⟨⟨xs,xs[i],ao.of (s2 _ _ ha),by simp[aP]⟩, ?_⟩
   rintro x H3 ⟨rfl,hx⟩
   have jh:=hx xs (ao.of (s2 _ _ ha))
   obtain⟨p,hp,ij⟩:=cv.get jh
   obtain⟨b,rfl,hb⟩:=ij.mono (aM s2)
   refine⟨_,rfl, .inr (.inl ⟨_,_,_,_,rfl,rfl,aI.of hb,rfl,_,rfl, ?_⟩)⟩
   rw[Bool.true_xor,fI]
   have tf:=OL (fun p=>decide (p.word≠w)) ps i p hp
   have hc:((ps.take i).filter fun p=>decide (p.word≠w)).length≤1000000:=Nat.le_trans (List.length_filter_le _ _) (Nat.le_trans (List.length_take_le _ _) (by omega))
   refine g8 (fun h=> ?_) (fun h=> ?_)
   ·have e:decide (p.word≠w)=true:=by simpa using h
    refine⟨_,rfl,_,p,rfl,⟨b,rfl,hb⟩,DG (aB p (List.mem_of_getElem? hp)), ?_,xs.length - (i+1),by omega,rfl,aP,s2, ?_⟩
    ·rw[List.length_map,List.length_map];exact cY hc
    ·rw[tf,e];simp
   ·have e:decide (p.word≠w)=false:=by simpa using h
    refine⟨xs.length - (i+1),by omega,rfl,aP,s2, ?_⟩
    rw[tf,e];simp
  ·have dB:i=xs.length:=by omega
   subst dB
   refine .inl ⟨⟨xs,ao.of (s2 _ _ ha),Nat.le_refl _⟩,fun p hp=> ?_⟩
   have e:ps.take xs.length=ps:=List.take_of_length_le (by omega)
   rw[e]
   exact hq p _ (s2.trans (sameNew hp)) av
 refine Cv (Ni (Nj (comp "put" H1 _ _ s1 rfl fun b1 H2 s2 e2=> ⟨_,ao.of e2, ?_⟩)))
 refine Cv (Ni (Nj (comp "cut" H2 _ _ s2 rfl fun b2 H3 s3 e3=> ⟨_,ao.of e3, ?_⟩)))
 refine⟨_,rfl,_,rfl,(by show 2≤sizeLine;decide),fun t ht=> ?_⟩
 exact q t _ (s3.trans (sameNew ht)) av
def cat(ts:List Str):Str:=Txt.join "" ts
def sz(ts:List Str):Nat:=(ts.map Str.length).sum
theorem ofString_empty:(Str.ofString "")=⟨#[]⟩:=rfl
theorem qw(ts:List Str):(cat ts).cps.toList=(ts.map fun t=>t.cps.toList).flatten:=by
 have e:(Str.ofString "").cps= #[]:=rfl
 cases ts with
 | nil=>rfl
 | cons t r=>
  show(r.foldl (fun acc p=>acc++ (Str.ofString "").cps++p.cps) t.cps).toList=_
  rw[e]
  have go: ∀(r:List Str) (acc:Array Nat),(r.foldl (fun acc p=>acc++ #[]++p.cps) acc).toList=acc.toList++ (r.map fun t=>t.cps.toList).flatten:=by
   intro r
   induction r with
   | nil=>intro acc;simp
   | cons q r ih=>
    intro acc
    show(r.foldl (fun acc p=>acc++ #[]++p.cps) (acc++ #[]++q.cps)).toList=_
    rw[ih];simp
  rw[go];simp
theorem gL{x y:Str}(h:x.cps.toList=y.cps.toList):x=y:=by
 obtain⟨x⟩:=x
 obtain⟨y⟩:=y
 exact congrArg Str.mk (Array.toList_inj.mp h)
theorem app_list(x y:Str):(x++y).cps.toList=x.cps.toList++y.cps.toList:=by
 show(x.cps++y.cps).toList=_
 simp
theorem afa(a b:List Str):cat (a++b)=cat a++cat b:=gL (by rw[app_list,qw,qw,qw];simp)
theorem afb(x:Str):cat [x]=x:=gL (by rw[qw];simp)
theorem len_list(x:Str):x.length=x.cps.toList.length:=by simp[Str.length]
theorem DH(ts:List Str):(cat ts).length=sz ts:=by
 rw[len_list,qw,List.length_flatten]
 unfold sz
 rw[List.map_map]
 congr 1
theorem OM(x:Str):x++ (Str.ofString "")=x:=gL (by rw[app_list];simp[ofString_empty])
theorem sI(x:Str):(Str.ofString "")++x=x:=gL (by rw[app_list];simp[ofString_empty])
theorem ON(a b:List Str):sz (a++b)=sz a+sz b:=by simp[sz]
theorem joinOk_of{ts:List Str}(h:sz ts≤1000000):JoinOk "" ts=true:=by
 have go: ∀(l:List Str) (n:Nat),l.foldl (· + ·.length+ (Str.ofString "").length) n=n+sz l:=by
  intro l
  induction l with
  | nil=>intro n;rfl
  | cons t r ih=>
   intro n
   show r.foldl _ (n+t.length+0)=_
   rw[ih]
   show n+t.length+0+sz r=n+ (t.length+sz r)
   omega
 unfold JoinOk
 have e:ts.toArray.foldl (· + ·.length+ (Str.ofString "").length) 0=sz ts:=by
  rw[List.foldl_toArray,go,Nat.zero_add]
 rw[e]
 show(!decide (sz ts>sizeLine))=true
 rw[decide_eq_false (by have:=cz h;omega)]
 rfl
def txt(mk:Str→Pt)(x:Str):List Pt:=if x="" then [] else [mk x]
def dm(ch:List Pt)(cI cP:List Str):List Pt:=ch++txt .put (cat cI)++txt .cut (cat cP)
def zi:Sp:=fun vs H Q E=> ∃c p q xs ps cI cP,vs=[.ref c, .ref p, .ref q]∧H c=some (.lst xs)∧aQ H xs ps∧H p=some (.lst (cI.map .str))∧H q=some (.lst (cP.map .str))∧
 sz cI≤1000000∧sz cP≤1000000∧ps.length≤900000∧ ∀H' dY,cn c H H'→H' c=some (.lst dY)→aQ H' dY (dm ps cI cP)→Q .aw H'
theorem afc{K:PySem.W.Frag}(vs:List V)(H:Hp)(Q:VK)(E:XK)(h:zi vs H Q E):au (aU K [] [] (E:=E)) CM {nx:=fun _ H'=>Q .aw H',rt:=Q} (start CL vs) H:=by
 obtain⟨c,p,q,xs,ps,cI,cP,rfl,hc,cv,hp,hq,qx,vM,hl,k⟩:=h
 have hlen:=Paired.length cv
 refine⟨rfl,_,rfl,cI,ao.of hp,joinOk_of qx, ?_⟩
 refine⟨rfl,_,rfl,cP,ao.of hq,joinOk_of vM, ?_⟩
 have OO: ∀(i:Nat) (w x:Str) (mk:Str→Pt) (H1:Hp) (ik:List V) (lP:List Pt) (σ:St) (D:Ends),(∀y,(mk y).word=w∧(mk y).val= .str y)→H1 c=some (.lst ik)→aQ H1 ik lP→lP.length≤950000→σ[0]?=some (some (.ref c))→σ[i]?=some (some (.str x))→
   (∀H2 zj,cn c H1 H2→H2 c=some (.lst zj)→aQ H2 zj (lP++txt mk x)→D.nx σ H2)→
   bB (aU K [] [] (E:=E)) (.ite (.cmp .NotEq (.v i) (.c (.str ""))) [.drop (.cb .append (.v 0) [(.tup [(.c (.str w)),(.v i)])])] []) D σ H1:=by
  intro i w x mk H1 ik lP σ D OP eJ sJ jQ h0 hi kk
  have afd:=Paired.length sJ
  refine⟨_,hi,_,rfl, ?_⟩
  rw[Bool.true_xor,fI]
  refine g8 (fun h=> ?_) (fun h=> ?_)
  ·have ne:x≠"":=by simpa using h
   refine⟨_,h0, .inl ⟨rfl,_,ao.of eJ⟩,_,hi,(by show 2≤sizeLine;decide),fun t ht=> ?_⟩
   have vN:c≠t:=aW eJ ht
   refine⟨ik,(by rw[aD vN];exact eJ),cY (by omega),kk _ (ik++ [.ref t]) ((sameBut (sameNew ht) cn.upd)) av ?_⟩
   have tt:dJ H1 (upd (upd H1 t (.tup [.str w, .str x])) c (.lst (ik++ [.ref t]))):=(sameBut (sameNew ht) cn.upd).dw eJ
   unfold txt
   rw[if_neg ne]
   refine aQ.snoc (sJ.mono tt) ⟨t,rfl, ?_⟩
   rw[aD vN.symm,av,(OP x).1,(OP x).2]
  ·have e:x="":=by simpa using h
   refine kk H1 ik (fun b o e _=>e) eJ ?_
   unfold txt
   rw[if_pos e,List.append_nil]
   exact sJ
 refine OO 3 "put" (cat cI) .put H xs ps _ _ (fun _=> ⟨rfl,rfl⟩) hc cv (by omega) rfl rfl fun H2 zj b2 mR afe=> ?_
 have l2:(ps++txt .put (cat cI)).length≤950000:=by
  rw[List.length_append]
  have:(txt .put (cat cI)).length≤1:=by unfold txt;split<;>simp
  omega
 refine OO 4 "cut" (cat cP) .cut H2 zj _ _ _ (fun _=> ⟨rfl,rfl⟩) mR afe l2 rfl rfl fun H3 ni b3 hc3 sL=> ?_
 exact k H3 ni (b2.trans b3) hc3 sL
def dC(ch:List Pt)(n:Int):List Pt:=match ch.getLast? with
 | some (.keep m)=>ch.dropLast++ [.keep (n+m)]
 | _=>ch++ [.keep n]
def zk:Sp:=fun vs H Q E=> ∃c n xs ps,vs=[.ref c, .int n]∧H c=some (.lst xs)∧aQ H xs ps∧ps.length≤900000∧
 ∀H' dY,cn c H H'→H' c=some (.lst dY)→aQ H' dY (dC ps n)→Q .aw H'
theorem aQ.last{H:Hp}{xs:List V}{ps:List Pt}(h:aQ H xs ps)(hn:xs.length≠0): ∃v p,xs[xs.length - 1]?=some v∧eQ xs (-1)=some v∧ps.getLast?=some p∧gA H v p:=by
 have aP:xs.length - 1<xs.length:=by omega
 obtain⟨p,hp,pv⟩:=h.get (i:=xs.length - 1) (v:=xs[xs.length - 1]) (by simp[aP])
 refine⟨xs[xs.length - 1],p,by simp[aP], ?_, ?_,pv⟩
 ·unfold eQ jd
  have: ¬(0:Int)≤ -1:=by decide
  rw[if_neg this,if_pos (by omega)]
  have e:((-1:Int)+ (xs.length:Int)).toNat=xs.length - 1:=by omega
  show xs[((-1:Int)+ (xs.length:Int)).toNat]?=_
  rw[e];simp[aP]
 ·rw[List.getLast?_eq_getElem?,←Paired.length h];exact hp
theorem afg{K:PySem.W.Frag}(vs:List V)(H:Hp)(Q:VK)(E:XK)(h:zk vs H Q E):au (aU K [] [] (E:=E)) CK {nx:=fun _ H'=>Q .aw H',rt:=Q} (start CJ vs) H:=by
 obtain⟨c,n,xs,ps,rfl,hc,cv,hl,k⟩:=h
 have hlen:=Paired.length cv
 have fin: ∀(m:Int) (H1:Hp) (ik:List V) (lP:List Pt),cn c H H1→H1 c=some (.lst ik)→aQ H1 ik lP→lP.length≤900000→dC ps n=lP++ [.keep m]→
   au (aU K [] [] (E:=E)) [.drop (.cb .append (.v 0) [(.tup [(.c (.str "keep")),(.v 1)])])] {nx:=fun _ H'=>Q .aw H',rt:=Q} [some (.ref c),some (.int m)] H1:=by
  intro m H1 ik lP b1 eJ sJ jQ e
  have afd:=Paired.length sJ
  refine⟨_,rfl, .inl ⟨rfl,_,ao.of eJ⟩,_,rfl,(by show 2≤sizeLine;decide),fun t ht=> ?_⟩
  have vN:c≠t:=aW eJ ht
  refine⟨ik,(by rw[aD vN];exact eJ),cY (by omega),k _ (ik++ [.ref t]) (b1.trans (sameBut (sameNew ht) cn.upd)) av ?_⟩
  rw[e]
  refine aQ.snoc (sJ.mono ((sameBut (sameNew ht) cn.upd).dw eJ)) ⟨t,rfl, ?_⟩
  rw[aD vN.symm,av];rfl
 refine⟨_,rfl, .inl ⟨_,ao.of hc,trivial,_,rfl, ?_⟩⟩
 refine g8 (fun h=> ?_) (fun h=> ?_)
 ·have hn:xs.length≠0:=by
   have:=of_decide_eq_true h
   omega
  obtain⟨v,p,e1,e2,e3,a,rfl,ha⟩:=cv.last hn
  refine⟨_,rfl, .inl ⟨_,_,_,_,rfl,rfl,ao.of hc,e2, .inr (.inl ⟨_,_,_,_,rfl,rfl,aI.of ha,rfl,_,rfl, ?_⟩)⟩⟩
  rw[Bool.false_xor,fI]
  cases p with
  | keep m=>
   have sN:upd H c (.lst xs.dropLast) a=some (.tup [.str "keep", .int m]):=by rw[aD (bC ha hc (by intro z;cases z))];exact ha
   refine⟨_,rfl,_,rfl, .inl ⟨rfl,_,ao.of hc⟩,xs,_,hc,e1, .inr (.inl ⟨_,_,_,_,rfl,rfl,aI.of sN,rfl, ?_⟩)⟩
   ·refine fin (n+m) _ xs.dropLast ps.dropLast cn.upd av (cv.dropLast.mono (cn.upd.dw hc)) (by rw[List.length_dropLast];omega) ?_
    unfold dC
    rw[e3]
  | put s=>exact fin n H xs ps (fun b o e _=>e) hc cv hl (by unfold dC;rw[e3])
  | cut s=>exact fin n H xs ps (fun b o e _=>e) hc cv hl (by unfold dC;rw[e3])
 ·have e0:ps=[]:=by
   have: ¬(0:Int) < (xs.length:Int):=fun z=>h (decide_eq_true z)
   exact List.length_eq_zero_iff.mp (by omega)
  exact fin n H xs ps (fun b o e _=>e) hc cv hl (by rw[e0];rfl)
abbrev NS:=List Pt×List Str×List Str
def c_:NS→Pt→NS
 | (ch,p,c), .put s=> (ch,p++ [s],c)
 | (ch,p,c), .cut s=> (ch,p,c++ [s])
 | (ch,p,c), .keep n=>if 0<n then (dC (dm ch p c) n,[],[]) else (ch,p,c)
def iS(ps:List Pt):List Pt:=let s:=ps.foldl c_ ([],[],[]);dm s.1 s.2.1 s.2.2
def cQ:Pt→Nat | .keep _=>0 | .put s=>s.length | .cut s=>s.length
def aG(ps:List Pt):Nat:=(ps.map cQ).sum
theorem vO(ps:List Pt)(i:Nat):aG (ps.take i)≤aG ps:=by
 have:aG ps=aG (ps.take i)+aG (ps.drop i):=by
  unfold aG
  rw[←List.sum_append,←List.map_append,List.take_append_drop]
 omega
theorem zl{ps:List Pt}{i:Nat}{p:Pt}(h:ps[i]?=some p):aG (ps.take (i+1))=aG (ps.take i)+cQ p:=by
 rw[List.take_add_one,h]
 simp[aG]
theorem OQ{α β:Type}{f:β→α→β}{b:β}{l:List α}{i:Nat}{p:α}(h:l[i]?=some p):(l.take (i+1)).foldl f b=f ((l.take i).foldl f b) p:=by
 rw[List.take_add_one,h,List.foldl_append]
 rfl
theorem OR(mk:Str→Pt)(x:Str):(txt mk x).length≤1:=by unfold txt;split<;>simp
theorem zm(ch:List Pt)(p c:List Str):(dm ch p c).length≤ch.length+2:=by
 unfold dm
 have:=OR .put (cat p)
 have:=OR .cut (cat c)
 simp only[List.length_append]
 omega
theorem OS(ch:List Pt)(n:Int):(dC ch n).length≤ch.length+1:=by
 unfold dC
 split
 ·simp only[List.length_append,List.length_dropLast,List.length_singleton];omega
 ·simp
abbrev afh:List (Str×Sp):=[("add_texts",zi),("add_keep",zk)]
def nj:Sp:=fun vs H Q E=> ∃a xs ps,vs=[.ref a]∧H a=some (.lst xs)∧aQ H xs ps∧ps.length≤100000∧aG ps≤100000∧
 ∀b H' ys,ax H H'→H b=none→H' b=some (.lst ys)→aQ H' ys (iS ps)→Q (.ref b) H'
theorem afi{K:PySem.W.Frag}(vs:List V)(H:Hp)(Q:VK)(E:XK)(h:nj vs H Q E):au (aU K afh [] (E:=E)) CO {nx:=fun _ H'=>Q .aw H',rt:=Q} (start CN vs) H:=by
 obtain⟨a,xs,ps,rfl,ha,cv,hl,ht,k⟩:=h
 have hlen:=Paired.length cv
 refine⟨Nat.zero_le _,fun c hc=> ⟨Nat.zero_le _,fun p0 vP=> ⟨Nat.zero_le _,fun q0 sO=> ?_⟩⟩⟩
 have vQ:c≠p0:=fun z=>by rw[←z,av] at vP;cases vP
 have OT:c≠q0:=fun z=>by rw[←z,aD vQ,av] at sO;cases sO
 have OU:p0≠q0:=fun z=>by rw[←z,av] at sO;cases sO
 have s0:ax H (upd (upd (upd H c (.lst [])) p0 (.lst [])) q0 (.lst [])):=(sameNew hc).trans ((sameNew vP).trans (sameNew sO))
 have fp0:H p0=none:=(sameNew hc).free vP
 have fq0:H q0=none:=((sameNew hc).trans (sameNew vP)).free sO
 refine⟨_,rfl,a,rfl,⟨_,ao.of (s0 _ _ ha)⟩,mM (K:=K) (a:=a) (xs:=xs) (fun i σ H2=> ∃p q ch cI cP lQ w x,σ=[some (.ref a),some (.ref c),some (.ref p),some (.ref q),w,x]∧H p=none∧H q=none∧p≠c∧q≠c∧p≠q∧ax H H2∧
   H2 c=some (.lst lQ)∧aQ H2 lQ ch∧H2 p=some (.lst (cI.map .str))∧H2 q=some (.lst (cP.map .str))∧(ps.take i).foldl c_ ([],[],[])=(ch,cI,cP)∧ch.length≤3*i∧cI.length≤i∧cP.length≤i∧sz cI+sz cP≤aG (ps.take i))
  ⟨p0,q0,[],[],[],[],none,none,rfl,fp0,fq0,vQ.symm,OT.symm,OU,s0,(by rw[aD OT,aD vQ,av]), .nil,(by rw[aD OU,av];rfl),av,rfl,by simp,by simp,by simp,by simp[sz]⟩
  (fun i σ H2 _ ⟨_,_,_,_,_,_,_,_,_,_,_,_,_,_,s2,_⟩=>ao.of (s2 _ _ ha)) ?_ ?_⟩
 ·rintro i x σ H2 hi ⟨p,q,ch,cI,cP,lQ,w,x',rfl,fp,fq,pc,qc,pq,s2,sP,dq,nk,nq,ef,l1,l2,l3,l4⟩
  obtain⟨pt,eT,ij⟩:=cv.get hi
  obtain⟨b,rfl,hb⟩:=ij.mono (aM s2)
  have dX:i<ps.length:=(List.getElem?_eq_some_iff.mp eT).1
  have nr:(ps.take (i+1)).foldl c_ ([],[],[])=c_ (ch,cI,cP) pt:=by rw[OQ eT,ef]
  have et:=zl eT
  have tb:=vO ps i
  refine⟨b,_,rfl, .inl (aI.of hb),rfl,_,_,rfl,_,_,rfl,rfl, ?_⟩
  cases pt with
  | put s=>
   refine⟨_,rfl,_,rfl,_,rfl, .inl ⟨rfl,_,ao.of nk⟩,_,rfl,_,nk,cY (by rw[List.length_map];omega), ?_⟩
   have bt:cn p H2 (upd H2 p (.lst (cI.map V.str++ [.str s]))):=cn.upd
   refine⟨p,q,ch,cI++ [s],cP,lQ,_,_,rfl,fp,fq,pc,qc,pq,qu s2 fp bt,bt _ _ sP pc.symm,dq.mono (bt.dw nk),(by rw[av,List.map_append];rfl),bt _ _ nq pq.symm,nr,by omega,by simp;omega,by omega, ?_⟩
   rw[ON,et]
   show sz cI+ (s.length+0)+sz cP≤aG (ps.take i)+s.length
   omega
  | cut s=>
   refine⟨_,rfl,_,rfl,_,rfl,_,rfl,_,rfl, .inl ⟨rfl,_,ao.of nq⟩,_,rfl,_,nq,cY (by rw[List.length_map];omega), ?_⟩
   have bt:cn q H2 (upd H2 q (.lst (cP.map V.str++ [.str s]))):=cn.upd
   refine⟨p,q,ch,cI,cP++ [s],lQ,_,_,rfl,fp,fq,pc,qc,pq,qu s2 fq bt,bt _ _ sP qc.symm,dq.mono (bt.dw nq),bt _ _ nk pq,(by rw[av,List.map_append];rfl),nr,by omega,by omega,by simp;omega, ?_⟩
   rw[ON,et]
   show sz cI+ (sz cP+ (s.length+0))≤aG (ps.take i)+s.length
   omega
  | keep n=>
   refine⟨_,rfl,_,rfl,_,rfl,_,rfl,_,rfl,trivial,_,rfl, ?_⟩
   refine g8 (fun h=> ?_) (fun h=> ?_)
   ·have hn:0<n:=of_decide_eq_true h
    have e2:c_ (ch,cI,cP) (.keep n)=(dC (dm ch cI cP) n,[],[]):=if_pos hn
    refine⟨_,rfl,_,rfl,_,rfl,c,p,q,lQ,ch,cI,cP,rfl,sP,dq,nk,nq,by omega,by omega,by omega,fun H3 ni b3 zo DI=> ?_⟩
    have s3:ax H H3:=qu s2 hc b3
    refine⟨Nat.zero_le _,fun p1 fA=> ⟨Nat.zero_le _,fun q1 vR=> ?_⟩⟩
    have DJ:c≠p1:=aW zo fA
    have OV:upd H3 p1 (.lst []) c=some (.lst ni):=by rw[aD DJ];exact zo
    have DK:c≠q1:=aW OV vR
    have OW:p1≠q1:=fun z=>by rw[←z,av] at vR;cases vR
    have h5c:upd (upd H3 p1 (.lst [])) q1 (.lst []) c=some (.lst ni):=by rw[aD DK];exact OV
    have s5:ax H3 (upd (upd H3 p1 (.lst [])) q1 (.lst [])):=(sameNew fA).trans (sameNew vR)
    refine⟨_,rfl,_,rfl,c,n,ni,_,rfl,h5c,DI.mono (aM s5), ?_,fun H6 il b6 eK afm=> ?_⟩
    ·have:=zm ch cI cP
     omega
    ·refine⟨p1,q1,_,[],[],il,_,_,rfl,s3.free fA,(s3.trans (sameNew fA)).free vR,DJ.symm,DK.symm,OW,qu (s3.trans s5) hc b6,eK,afm,b6 _ _ (by rw[aD OW,av];rfl) DJ.symm,b6 _ _ (by rw[av];rfl) DK.symm,nr.trans e2, ?_,by simp,by simp,by simp[sz]⟩
     have:=zm ch cI cP
     have:=OS (dm ch cI cP) n
     omega
   ·have hn: ¬0<n:=fun z=>h (decide_eq_true z)
    have e2:c_ (ch,cI,cP) (.keep n)=(ch,cI,cP):=if_neg hn
    refine⟨p,q,ch,cI,cP,lQ,_,_,rfl,fp,fq,pc,qc,pq,s2,sP,dq,nk,nq,nr.trans e2,by omega,by omega,by omega,by omega⟩
 ·rintro σ H2 ⟨p,q,ch,cI,cP,lQ,w,x',rfl,fp,fq,pc,qc,pq,s2,sP,dq,nk,nq,ef,l1,l2,l3,l4⟩
  have e:ps.take xs.length=ps:=List.take_of_length_le (by omega)
  rw[e] at ef l4
  refine⟨_,rfl,_,rfl,_,rfl,c,p,q,lQ,ch,cI,cP,rfl,sP,dq,nk,nq,by omega,by omega,by omega,fun H3 ni b3 zo DI=> ?_⟩
  refine⟨_,rfl,k c H3 ni (qu s2 hc b3) hc zo ?_⟩
  unfold iS
  rw[ef]
  exact DI
def A1:Str:=" !\"#$&'()*+,-./0123456789:;<=>?@ABCDEFGHIJKLMNOPQRSTUVWXYZ[\\]^_`"
def A2:Str:="abcdefghijklmnopqrstuvwxyz{|}~\n"
def A3:Str:="ab\n"
def zp(al:Str):Prop:=0<al.length∧al.length≤1000∧ ∀c∈al.cps.toList,SG.cps.contains c=true
theorem OX{al:Str}(h:(decide (0<al.length) && decide (al.length≤1000) && al.cps.toList.all fun c=>SG.cps.contains c)=true):zp al:=by
 simp only[Bool.and_eq_true,decide_eq_true_eq,List.all_eq_true] at h
 exact⟨h.1.1,h.1.2,h.2⟩
theorem afn:zp (A1++A2):=OX (by decide+kernel)
theorem al3:zp A3:=OX (by decide+kernel)
theorem afp:A1.length+A2.length≤sizeLine:=by decide+kernel
abbrev OY:List (Str×Sp):=[("_law_mixed",lO)]
def qy:Sp:=fun vs H Q E=> ∃c n,vs=[.int c, .int n]∧0≤n∧n≤1000∧ ∀x H',good x→x.length=n.toNat→ax H H'→Q (.str x) H'
def DL(t:Str):Prop:=t.length=1∧ ∀c∈t.cps.toList,SG.cps.contains c=true
theorem zq: ∀(ts:List Str),(∀t∈ts,DL t)→sz ts=ts.length
 | [],_=>rfl
 | t::r,h=>by
  show t.length+sz r=r.length+1
  rw[(h t List.mem_cons_self).1,zq r fun q hq=>h q (List.mem_cons_of_mem _ hq)]
  omega
theorem afq{ts:List Str}(h: ∀t∈ts,DL t)(hl:ts.length≤1000):good (cat ts):=by
 refine⟨by rw[DH,zq ts h];omega,fun c hc=> ?_⟩
 rw[qw,List.mem_flatten] at hc
 obtain⟨l,hl,hc⟩:=hc
 obtain⟨t,ht,rfl⟩:=List.mem_map.mp hl
 exact(h t ht).2 c hc
theorem afr{K:PySem.W.Frag}(vs:List V)(H:Hp)(Q:VK)(E:XK)(h:qy vs H Q E):au (aU K OY [] (E:=E)) CV {nx:=fun _ H'=>Q .aw H',rt:=Q} (start CU vs) H:=by
 obtain⟨c,n,rfl,sQ,gh,k⟩:=h
 have fin: ∀(al:Str),zp al→au (aU K OY [] (E:=E)) [.ret (.cb .join (.c (.str "")) [(.comp none [("_law_some",2),("_law_cell",0)] .eO [(.v 1)] none (.ix (.v 1) (.bin .Mod (.bin .FloorDiv (.call 0 [(.v 2),(.v 0)]) (.c (.int 7))) (.blt .len [(.v 1)]))))])]
   {nx:=fun _ H'=>Q .aw H',rt:=Q} [some (.int c),some (.int n),some (.str al)] H:=by
  intro al ho
  refine⟨rfl,_,rfl,n,rfl,by omega,by omega,fun i m ys H2=>m=n.toNat - i∧i≤n.toNat∧H2=H∧ ∃ts:List Str,ys=ts.map V.str∧ts.length=i∧ ∀t∈ts,DL t,⟨_,rfl,Nat.zero_le _,rfl,[],rfl,rfl,fun t ht=>by cases ht⟩, ?_⟩
  rintro i m ys H2 ⟨rfl,hi,rfl,ts,rfl,hl,zr⟩
  by_cases aP:i<n.toNat
  ·refine .inr ⟨aP, ?_⟩
   rintro x H3 ⟨rfl,rfl⟩
   refine⟨_,rfl,_,rfl,_,rfl,_,_,rfl,⟨by decide,by decide⟩,_,rfl,cz (by have:=ho.2.1;omega),(by show(0:Int) < (al.length:Int);have:=ho.1;omega), ?_⟩
   have hm:=ae1 c (0+ (i:Int))
   have hj0:0≤mixed c (0+ (i:Int)) / 7 % (al.length:Int):=Int.emod_nonneg _ (by have:=ho.1;omega)
   have yN:mixed c (0+ (i:Int)) / 7 % (al.length:Int) < (al.length:Int):=Int.emod_lt_of_pos _ (by have:=ho.1;omega)
   obtain⟨j,ej⟩: ∃j,j=mixed c (0+ (i:Int)) / 7 % (al.length:Int):=⟨_,rfl⟩
   rw[←ej] at hj0 yN
   have sR:j.toNat<al.cps.toList.length:=by rw[←len_list];omega
   refine .inr (.inr (.inl ⟨al,j,al.cps.toList[j.toNat],rfl,(by rw[ej]),cz (by have:=ho.2.1;omega), ?_, ?_,n.toNat - (i+1),by omega,rfl,aP,rfl,ts++ [⟨#[al.cps.toList[j.toNat]]⟩],(by rw[List.map_append];rfl),by simp[hl], ?_⟩))
   ·have e:=kN (xs:=al.cps.toList) (j:=j.toNat) (v:=al.cps.toList[j.toNat]) (by simp[sR])
    rw[show((j.toNat:Nat):Int)=j by omega] at e
    exact e
   ·rw[List.length_map];exact cY (by omega)
   ·intro t ht
    rcases List.mem_append.mp ht with z | z
    ·exact zr t z
    ·rw[List.mem_singleton.mp z]
     refine⟨rfl,fun d hd=> ?_⟩
     have:d=al.cps.toList[j.toNat]:=by simpa using hd
     rw[this]
     exact ho.2.2 _ (List.getElem_mem sR)
  ·have dB:i=n.toNat:=by omega
   refine .inl ⟨by show n.toNat≤i;omega,fun p hp=> ?_⟩
   refine⟨ts,ao.of av,joinOk_of (by rw[zq ts zr];omega), ?_⟩
   exact k (cat ts) _ (afq zr (by omega)) (by rw[DH,zq ts zr,hl,dB]) (sameNew hp)
 refine⟨_,rfl,afp,_,rfl,(by show(0:Int) <3;decide),_,rfl, ?_⟩
 refine g8 (fun h=> ?_) (fun h=> ?_)
 ·exact fin A3 al3
 ·exact fin (A1++A2) afn
def d9:Pt→Prop | .keep n=>0≤n | .put s=>good s∧s.length≤100000 | .cut s=>good s∧s.length≤100000
abbrev Row:=Str×Str×Int
def ju(r:Row):List V:=[.str r.1, .str r.2.1, .int r.2.2]
def OZ(H:Hp)(v:V)(r:Row):Prop:= ∃b,v= .ref b∧H b=some (.lst (ju r))
abbrev lS(H:Hp):List V→List Row→Prop:=Paired (OZ H)
theorem lS.mono{H H':Hp}: ∀{vs:List V} {ps:List Row},lS H vs ps→(∀v∈vs,∀b,v= .ref b→ ∀o,H b=some o→H' b=some o)→lS H' vs ps
 | _,_, .nil,_=> .nil
 | _,_, .cons ⟨b,e,h⟩ r,k=> .cons ⟨b,e,k _ List.mem_cons_self b e _ h⟩ (lS.mono r fun v hv=>k v (List.mem_cons_of_mem _ hv))
theorem lS.get{H:Hp}: ∀{vs:List V} {ps:List Row} {i:Nat} {v:V},lS H vs ps→vs[i]?=some v→ ∃p,ps[i]?=some p∧OZ H v p
 | _,_,i,v, .nil,e=>by simp at e
 | _,_,0,v, .cons h r,e=>by simp at e;subst e;exact⟨_,rfl,h⟩
 | _,_,i+1,v, .cons h r,e=>by
  obtain⟨p,a,b⟩:=lS.get (i:=i) r (by simpa using e)
  exact⟨p,by simpa using a,b⟩
def bu:List Row×Row→Pt→List Row×Row
 | (pre,r), .keep n=> (pre,(r.1,r.2.1,r.2.2+n))
 | (pre,r), .put s=>if s="" then (pre,r) else if 0<r.2.2 then (pre++ [r],(Str.ofString ""++s,"",0)) else (pre,(r.1++s,r.2.1,r.2.2))
 | (pre,r), .cut s=>if s="" then (pre,r) else if 0<r.2.2 then (pre++ [r],("",Str.ofString ""++s,0)) else (pre,(r.1,r.2.1++s,r.2.2))
def dD(r:Row):List Pt:=txt .put r.1++txt .cut r.2.1++ (if r.2.2=0 then [] else [.keep r.2.2])
def cJ(rows:List Row):List Pt:=(rows.map dD).flatten
def sS(ps:List Pt):List Row:=let s:=ps.foldl bu ([],("","",0));s.1++ [s.2]
def fQ(ps:List Pt):List Pt:=cJ (sS ps)
structure iU (H H2:Hp) (R:Addr) (rs:List V) (b:Addr) (pre:List Row) (r:Row):Prop where
 same:ax H H2
 lst:H2 R=some (.lst (rs++ [.ref b]))
 fr:H R=none
 rows:lS H2 rs pre
 last:H2 b=some (.lst (ju r))
 fb:H b=none
 bD: ∀v∈rs,∀x,v= .ref x→H x=none∧x≠b∧x≠R
 ne:b≠R
theorem vS(xs:List V)(v:V):eQ (xs++ [v]) (-1)=some v:=Vk xs v
theorem iU.set{H H2:Hp}{R b:Addr}{rs:List V}{pre:List Row}{r r':Row}(S:iU H H2 R rs b pre r):iU H (upd H2 b (.lst (ju r'))) R rs b pre r' where
 same:=qu S.same S.fb cn.upd
 lst:=by rw[aD S.ne.symm];exact S.lst
 fr:=S.fr
 rows:=S.rows.mono fun v hv x e o h=>by rw[aD (S.bD v hv x e).2.1];exact h
 last:=av
 fb:=S.fb
 bD:=S.bD
 ne:=S.ne
theorem iU.grow{H H2:Hp}{R b t:Addr}{rs:List V}{pre:List Row}{r r':Row}(S:iU H H2 R rs b pre r)(ht:H2 t=none):
  iU H (upd (upd H2 t (.lst (ju r'))) R (.lst (rs++ [.ref b]++ [.ref t]))) R (rs++ [.ref b]) t (pre++ [r]) r':=by
 have zt:t≠R:=fun z=>by rw[z,S.lst] at ht;cases ht
 have htb:b≠t:=aW S.last ht
 have kk: ∀x o,H2 x=some o→x≠R→upd (upd H2 t (.lst (ju r'))) R (.lst (rs++ [.ref b]++ [.ref t])) x=some o:=fun x o e n=>by rw[aD n,aD (aW e ht)];exact e
 exact {
  same:=fun x o e=>kk x o (S.same x o e) (aW e S.fr)
  lst:=av
  fr:=S.fr
  rows:=Paired.snoc (S.rows.mono fun v hv x e o h=>kk x o h (S.bD v hv x e).2.2) ⟨b,rfl,kk b _ S.last S.ne⟩
  last:=by rw[aD zt,av]
  fb:=S.same.free ht
  bD:=fun v hv x e=>by
   rcases List.mem_append.mp hv with z | z
   ·obtain⟨h1,h2,h3⟩:=S.bD v z x e
    refine⟨h1,fun q=> ?_,h3⟩
    obtain⟨i,hi⟩:=List.getElem?_of_mem z
    obtain⟨p,_,y,e',hy⟩:=S.rows.get hi
    rw[e] at e'
    cases e'
    rw[q,ht] at hy;cases hy
   ·rw[List.mem_singleton.mp z] at e
    cases e
    exact⟨S.fb,htb,S.ne⟩
  ne:=zt}
abbrev Dn(Q:VK):Ends:={nx:=fun _ H'=>Q .aw H',rt:=Q}
def qz:Sp:=fun vs H Q E=> ∃a xs ps,vs=[.ref a]∧H a=some (.lst xs)∧aQ H xs ps∧ps.length≤100000∧aG ps≤100000∧
 ∀b H' ys,ax H H'→H b=none→H' b=some (.lst ys)→aQ H' ys (fQ ps)→Q (.ref b) H'
theorem zu{K:PySem.W.Frag}{H H2:Hp}{R b:Addr}{rs:List V}{pre:List Row}{r r':Row}{D:Ends}{a:Addr}{w s:Str}{x4 x5 x6 x7 x8:Option V}(S:iU H H2 R rs b pre r)(i:Nat)(hi:i<2)
  (hw:(if (w=="cut")=true then 1 else 0:Int)=(i:Int)) (o:Str) (ho:(ju r)[i]?=some (.str o)) (hr:(ju r).set i (.str (o++s))=ju r') (hs:o.length+s.length≤sizeLine)
  (k: ∀H3,iU H H3 R rs b pre r'→D.nx [some (.ref a),some (.ref R),some (.str w),some (.str s),x4,x5,x6,x7,x8] H3):
  bB (aU K [] [] (E:=E)) (.set (.ix (.v 1) (.neg (.c (.int 1)))) (.blt .int [(.cmp .Eq (.v 2) (.c (.str "cut")))]) (.bin .Add (.ix (.ix (.v 1) (.neg (.c (.int 1)))) (.blt .int [(.cmp .Eq (.v 2) (.c (.str "cut")))])) (.v 3))) D
   [some (.ref a),some (.ref R),some (.str w),some (.str s),x4,x5,x6,x7,x8] H2:=by
 have lb:ao K H2 b (ju r):=ao.of S.last
 have ei:(if (false ^^ decide (V.str w=V.str "cut"))=true then 1 else 0:Int)=(i:Int):=by rw[Bool.false_xor,fI];exact hw
 refine⟨_,rfl, .inl ⟨_,_,_,_,rfl,rfl,ao.of S.lst,vS _ _,_,rfl, ?_⟩⟩
 show o6 K (aU K [] [] (E:=E)).sd (.ref b) (.int (if (false ^^ decide (V.str w=V.str "cut"))=true then 1 else 0)) H2 _
 rw[ei]
 refine .inl ⟨b,_,_,_,rfl,rfl,lb,kN ho,_,rfl,hs,_,rfl, .inl ⟨_,_,_,_,rfl,rfl,ao.of S.lst,vS _ _,_,rfl, ?_⟩⟩
 show Bd (.ref b) (.int (if (false ^^ decide (V.str w=V.str "cut"))=true then 1 else 0)) (.str (o++s)) H2 _
 rw[ei]
 refine⟨b,ju r,(i:Int),i,rfl,rfl,S.last, ?_, ?_⟩
 ·unfold jd
  rw[if_pos (by omega),if_pos (by show(i:Int) < ((3:Nat):Int);omega)]
  simp
 ·rw[hr]
  exact k _ S.set
theorem afu{rows:List Row}{i:Nat}{r:Row}(h:rows[i]?=some r):cJ (rows.take (i+1))=cJ (rows.take i)++dD r:=by
 unfold cJ
 rw[List.take_add_one,h]
 simp
theorem O0{K:PySem.W.Frag}{H H2:Hp}{R b:Addr}{rs:List V}{pre:List Row}{r:Row}{D:Ends}{a:Addr}{w s:Str}{x4 x5 x6 x7 x8:Option V}(S:iU H H2 R rs b pre r)(p:Pt)(hp:(p= .put s∧w="put")∨(p= .cut s∧w="cut"))
  (hs:s.length≤100000) (h1:r.1.length≤100000) (h2:r.2.1.length≤100000) (hn:rs.length≤100000)
  (k: ∀H3 sU b',iU H H3 R sU b' (bu (pre,r) p).1 (bu (pre,r) p).2→sU.length≤rs.length+1→D.nx [some (.ref a),some (.ref R),some (.str w),some (.str s),x4,x5,x6,x7,x8] H3):
  au (aU K [] [] (E:=E)) [.ite (.cmp .NotEq (.v 3) (.c (.str ""))) [.ite (.cmp .Gt (.ix (.ix (.v 1) (.neg (.c (.int 1)))) (.c (.int 2))) (.c (.int 0))) [.drop (.cb .append (.v 1) [(.lst [(.c (.str "")),(.c (.str "")),(.c (.int 0))])])] [],
    .set (.ix (.v 1) (.neg (.c (.int 1)))) (.blt .int [(.cmp .Eq (.v 2) (.c (.str "cut")))]) (.bin .Add (.ix (.ix (.v 1) (.neg (.c (.int 1)))) (.blt .int [(.cmp .Eq (.v 2) (.c (.str "cut")))])) (.v 3))] []] D
   [some (.ref a),some (.ref R),some (.str w),some (.str s),x4,x5,x6,x7,x8] H2:=by
 refine⟨_,rfl,_,rfl, ?_⟩
 rw[Bool.true_xor,fI]
 refine g8 (fun h=> ?_) (fun h=> ?_)
 ·have ne:s≠"":=by simpa using h
  refine⟨_,rfl, .inl ⟨_,_,_,_,rfl,rfl,ao.of S.lst,vS _ _, .inl ⟨_,_,_,_,rfl,rfl,ao.of S.last,rfl,trivial,_,rfl, ?_⟩⟩⟩
  have line: ∀n:Nat,n≤100000→n+s.length≤sizeLine:=fun n hn=>cz (by omega)
  have e0:(Str.ofString "").length=0:=rfl
  refine g8 (fun h=> ?_) (fun h=> ?_)
  ·have hk:0<r.2.2:=of_decide_eq_true h
   refine⟨_,rfl, .inl ⟨rfl,_,ao.of S.lst⟩,(by show 3≤sizeLine;decide),fun t ht=> ?_⟩
   have zt:R≠t:=aW S.lst ht
   refine⟨_,(by rw[aD zt];exact S.lst),cY (by rw[List.length_append,List.length_singleton];omega), ?_⟩
   have S':=S.grow (r':=((Str.ofString "",Str.ofString "",0):Row)) ht
   rcases hp with⟨rfl,rfl⟩ | ⟨rfl,rfl⟩
   ·have es:bu (pre,r) (.put s)=(pre++ [r],((Str.ofString ""++s,Str.ofString "",0):Row)):=by show(if s="" then _ else if 0<r.2.2 then _ else _)=_;rw[if_neg ne,if_pos hk]
    rw[es] at k
    exact zu S' 0 (by omega) rfl "" rfl rfl (line _ (by rw[e0];omega)) fun H3 S3=>k H3 _ t S3 (by simp)
   ·have es:bu (pre,r) (.cut s)=(pre++ [r],((Str.ofString "",Str.ofString ""++s,0):Row)):=by show(if s="" then _ else if 0<r.2.2 then _ else _)=_;rw[if_neg ne,if_pos hk]
    rw[es] at k
    exact zu S' 1 (by omega) rfl "" rfl rfl (line _ (by rw[e0];omega)) fun H3 S3=>k H3 _ t S3 (by simp)
  ·have hk: ¬0<r.2.2:=fun z=>h (decide_eq_true z)
   rcases hp with⟨rfl,rfl⟩ | ⟨rfl,rfl⟩
   ·have es:bu (pre,r) (.put s)=(pre,(r.1++s,r.2.1,r.2.2)):=by show(if s="" then _ else if 0<r.2.2 then _ else _)=_;rw[if_neg ne,if_neg hk]
    rw[es] at k
    exact zu S 0 (by omega) rfl r.1 rfl rfl (line _ h1) fun H3 S3=>k H3 _ b S3 (by omega)
   ·have es:bu (pre,r) (.cut s)=(pre,(r.1,r.2.1++s,r.2.2)):=by show(if s="" then _ else if 0<r.2.2 then _ else _)=_;rw[if_neg ne,if_neg hk]
    rw[es] at k
    exact zu S 1 (by omega) rfl r.2.1 rfl rfl (line _ h2) fun H3 S3=>k H3 _ b S3 (by omega)
 ·have e:s="":=by simpa using h
  have es:bu (pre,r) p=(pre,r):=by
   rcases hp with⟨rfl,rfl⟩ | ⟨rfl,rfl⟩
   ·show(if s="" then _ else _)=_;rw[if_pos e]
   ·show(if s="" then _ else _)=_;rw[if_pos e]
  rw[es] at k
  exact k H2 rs b S (by omega)
theorem ip(x y:Str):(x++y).length=x.length+y.length:=by rw[len_list,app_list,List.length_append,←len_list,←len_list]
theorem afv(pre:List Row)(r:Row)(p:Pt)(n:Nat)(h1:r.1.length≤n)(h2:r.2.1.length≤n):(bu (pre,r) p).2.1.length≤n+cQ p∧(bu (pre,r) p).2.2.1.length≤n+cQ p:=by
 have e0:(Str.ofString "").length=0:=rfl
 cases p with
 | keep m=>exact⟨by show r.1.length≤n+0;omega,by show r.2.1.length≤n+0;omega⟩
 | put s=>
  show(if s="" then (pre,r) else if 0<r.2.2 then (pre++ [r],((Str.ofString ""++s,Str.ofString "",0):Row)) else (pre,(r.1++s,r.2.1,r.2.2))).2.1.length≤n+s.length∧
   (if s="" then (pre,r) else if 0<r.2.2 then (pre++ [r],((Str.ofString ""++s,Str.ofString "",0):Row)) else (pre,(r.1++s,r.2.1,r.2.2))).2.2.1.length≤n+s.length
  split
  ·exact⟨by show r.1.length≤_;omega,by show r.2.1.length≤_;omega⟩
  ·split
   ·exact⟨by show(Str.ofString ""++s).length≤_;rw[ip,e0];omega,by show(Str.ofString "").length≤_;rw[e0];omega⟩
   ·exact⟨by show(r.1++s).length≤_;rw[ip];omega,by show r.2.1.length≤_;omega⟩
 | cut s=>
  show(if s="" then (pre,r) else if 0<r.2.2 then (pre++ [r],((Str.ofString "",Str.ofString ""++s,0):Row)) else (pre,(r.1,r.2.1++s,r.2.2))).2.1.length≤n+s.length∧
   (if s="" then (pre,r) else if 0<r.2.2 then (pre++ [r],((Str.ofString "",Str.ofString ""++s,0):Row)) else (pre,(r.1,r.2.1++s,r.2.2))).2.2.1.length≤n+s.length
  split
  ·exact⟨by show r.1.length≤_;omega,by show r.2.1.length≤_;omega⟩
  ·split
   ·exact⟨by show(Str.ofString "").length≤_;rw[e0];omega,by show(Str.ofString ""++s).length≤_;rw[ip,e0];omega⟩
   ·exact⟨by show r.1.length≤_;omega,by show(r.2.1++s).length≤_;rw[ip];omega⟩
theorem O1{Γ:aJ}{op:CmpOp}{x v:V}{σ:St}{H:Hp}{Q:VK}(h:dr Γ.K op x v H Q):ag Γ (.c v) σ H fun y H2=>dr Γ.K op x y H2 Q:=h
theorem O2{K:PySem.W.Frag}{x y:V}{H:Hp}{Q:VK}(hs:jK x y=true)(q:Q (.bl (true ^^ decide (x=y))) H):dr K .NotEq x y H Q:=by
 show kS true x y H Q
 unfold kS
 rw[hs];exact q
theorem afw{K:PySem.W.Frag}{H1:Hp}{l t1 t2 t3:Addr}{r:Row}{σ:St}{Q1:VK}(hl:H1 l=some (.lst [.ref t1, .ref t2, .ref t3]))(h1:H1 t1=some (.tup [.str "put", .str r.1]))(h2:H1 t2=some (.tup [.str "cut", .str r.2.1]))(h3:H1 t3=some (.tup [.str "keep", .int r.2.2]))
  (hσ:σ[8]?=some (some (.ref l))) (k: ∀p ys,H1 p=none→aQ H1 ys (dD r)→ys.length≤3→Q1 (.ref p) (upd H1 p (.lst ys))):
  ag (aU K [] [] (E:=E)) (.comp none [] .list [(.v 8)] (some (.and [(.cmp .NotEq (.ix (.v 0) (.c (.int 1))) (.c (.str ""))),(.cmp .NotEq (.ix (.v 0) (.c (.int 1))) (.c (.int 0)))])) (.v 0)) σ H1 Q1:=by
 have dy:ao K H1 l [.ref t1, .ref t2, .ref t3]:=ao.of hl
 let qA:Nat→List Pt:=fun i=>match i with | 0=> [] | 1=>txt .put r.1 | 2=>txt .put r.1++txt .cut r.2.1 | _=>dD r
 refine⟨_,hσ,l,rfl,⟨_,dy⟩,fun i m ys H2=>m=3 - i∧i≤3∧H2=H1∧aQ H1 ys (qA i)∧ys.length≤i,⟨_,rfl,Nat.zero_le _,rfl, .nil,Nat.le_refl _⟩, ?_⟩
 rintro i m ys H2 ⟨rfl,hi,rfl,bg,jv⟩
 have small:ys.length<sizeLine:=cY (by omega)
 have go: ∀(t:Addr) (p:Pt) (j:Nat),H2 t=some (.tup [.str p.word,p.val])→i=j→j<3→(qA (j+1)=qA j++ [p]∧p.val≠ .str ""∧p.val≠ .int 0∨qA (j+1)=qA j∧(p.val= .str ""∨p.val= .int 0))→
   (∃s,p.val= .str s)∨(∃n,p.val= .int n)→
   oN (u0 (aU K [] [] (E:=E)).calm (some (.and [(.cmp .NotEq (.ix (.v 0) (.c (.int 1))) (.c (.str ""))),(.cmp .NotEq (.ix (.v 0) (.c (.int 1))) (.c (.int 0)))]))) ([V.ref t].map some++cX σ []) H2 fun b H5=>
    if b=true then ag (aU K [] [] (E:=E)).calm (.v 0) ([V.ref t].map some++cX σ []) H5 fun y H6=>ys.length<sizeLine∧ ∃m',m'<3 - i∧m'=3 - (i+1)∧i+1≤3∧H6=H2∧aQ H2 (ys++ [y]) (qA (i+1))∧(ys++ [y]).length≤i+1
    else ∃m',m'<3 - i∧m'=3 - (i+1)∧i+1≤3∧H5=H2∧aQ H2 ys (qA (i+1))∧ys.length≤i+1:=by
  intro t p j ht ej hj hc hv
  subst ej
  have sc1:jK p.val (.str "")=true:=by rcases hv with⟨s,e⟩ | ⟨n,e⟩ <;>rw[e] <;>rfl
  have sc2:jK p.val (.int 0)=true:=by rcases hv with⟨s,e⟩ | ⟨n,e⟩ <;>rw[e] <;>rfl
  refine⟨_,rfl, .inr (.inl ⟨_,_,_,_,rfl,rfl,aI.of ht,rfl,O1 (O2 sc1 ⟨_,rfl, ?_⟩)⟩)⟩
  by_cases q1:p.val= .str ""
  ·rw[decide_eq_true q1]
   rcases hc with⟨_,z,_⟩ | ⟨e,_⟩
   ·exact absurd q1 z
   ·exact⟨3 - (i+1),by omega,rfl,by omega,rfl,by rw[e];exact bg,by omega⟩
  ·rw[decide_eq_false q1]
   refine⟨_,rfl, .inr (.inl ⟨_,_,_,_,rfl,rfl,aI.of ht,rfl,O1 (O2 sc2 ⟨_,rfl, ?_⟩)⟩)⟩
   by_cases q2:p.val= .int 0
   ·rw[decide_eq_true q2]
    rcases hc with⟨_,_,z⟩ | ⟨e,_⟩
    ·exact absurd q2 z
    ·exact⟨3 - (i+1),by omega,rfl,by omega,rfl,by rw[e];exact bg,by omega⟩
   ·rw[decide_eq_false q2]
    rcases hc with⟨e,_,_⟩ | ⟨_,z⟩
    ·refine⟨_,rfl,small,3 - (i+1),by omega,rfl,by omega,rfl, ?_,by simp;omega⟩
     rw[e]
     exact aQ.snoc bg ⟨t,rfl,ht⟩
    ·rcases z with z | z
     ·exact absurd z q1
     ·exact absurd z q2
 have tx: ∀(mk:Str→Pt) (x:Str) (l:List Pt),(mk x).val= .str x→(l++txt mk x=l++ [mk x]∧(mk x).val≠ .str ""∧(mk x).val≠ .int 0∨l++txt mk x=l∧((mk x).val= .str ""∨(mk x).val= .int 0)):=by
  intro mk x l hv
  unfold txt
  by_cases e:x=""
  ·rw[if_pos e];exact .inr ⟨by simp, .inl (by rw[hv,e])⟩
  ·rw[if_neg e];exact .inl ⟨rfl,by rw[hv];exact fun z=>e (by injection z),by rw[hv];exact fun z=>by cases z⟩
 by_cases aP:i<3
 ·refine .inr ⟨⟨_,[V.ref t1,V.ref t2,V.ref t3][i],dy,by simp[aP]⟩, ?_⟩
  rintro x H3 ⟨rfl,hx⟩
  have jh:=hx _ dy
  have:i=0∨i=1∨i=2:=by omega
  rcases this with rfl | rfl | rfl
  ·have ex:x= .ref t1:=by simpa using jh.symm
   subst ex
   exact go t1 (.put r.1) 0 h1 rfl (by omega) (tx .put r.1 [] rfl) (.inl ⟨_,rfl⟩)
  ·have ex:x= .ref t2:=by simpa using jh.symm
   subst ex
   exact go t2 (.cut r.2.1) 1 h2 rfl (by omega) (tx .cut r.2.1 _ rfl) (.inl ⟨_,rfl⟩)
  ·have ex:x= .ref t3:=by simpa using jh.symm
   subst ex
   refine go t3 (.keep r.2.2) 2 h3 rfl (by omega) ?_ (.inr ⟨_,rfl⟩)
   by_cases e:r.2.2=0
   ·refine .inr ⟨?_, .inr (by show V.int r.2.2=_;rw[e])⟩
    show dD r=txt .put r.1++txt .cut r.2.1
    unfold dD
    rw[if_pos e,List.append_nil]
   ·refine .inl ⟨?_, ?_, ?_⟩
    ·show dD r=txt .put r.1++txt .cut r.2.1++ [.keep r.2.2]
     unfold dD
     rw[if_neg e]
    ·intro z
     have z':V.int r.2.2=V.str "":=z
     cases z'
    ·intro z
     have z':V.int r.2.2=V.int 0:=z
     injection z' with z'
     exact e z'
 ·have dB:i=3:=by omega
  subst dB
  refine .inl ⟨⟨_,dy,by simp⟩,fun p hp=> ?_⟩
  exact k p ys hp bg jv
theorem afz{K:PySem.W.Frag}(vs:List V)(H:Hp)(Q:VK)(E:XK)(h:qz vs H Q E):au (aU K [] [] (E:=E)) C1 {nx:=fun _ H'=>Q .aw H',rt:=Q} (start y0 vs) H:=by
 obtain⟨a,xs,ps,rfl,ha,cv,hl,ht,k⟩:=h
 have hlen:=Paired.length cv
 refine⟨(by show 3≤sizeLine;decide),fun b0 DM=> ⟨(by show 1≤sizeLine;decide),fun R hR=> ?_⟩⟩
 have O3:b0≠R:=fun z=>by rw[←z,av] at hR;cases hR
 have fR:H R=none:=(sameNew DM).free hR
 have S0:iU H (upd (upd H b0 (.lst [.str "", .str "", .int 0])) R (.lst [.ref b0])) R [] b0 [] ((Str.ofString "",Str.ofString "",0):Row):=
  {same:=(sameNew DM).trans (sameNew hR),lst:=av,fr:=fR,rows:= .nil,last:=(by rw[aD O3,av];rfl),fb:=DM,bD:=(fun v hv=>by cases hv),ne:=O3}
 refine⟨_,rfl,a,rfl,⟨_,ao.of (S0.same _ _ ha)⟩,mM (K:=K) (a:=a) (xs:=xs) (fun i σ H2=> ∃u v rs b pre r,σ=[some (.ref a),some (.ref R),u,v,none,none,none,none,none]∧iU H H2 R rs b pre r∧
   (ps.take i).foldl bu ([],((Str.ofString "",Str.ofString "",0):Row))=(pre,r)∧rs.length≤i∧r.1.length≤aG (ps.take i)∧r.2.1.length≤aG (ps.take i))
  ⟨none,none,[],b0,[],_,rfl,S0,rfl,Nat.le_refl _,Nat.zero_le _,Nat.zero_le _⟩ (fun i σ H2 _ ⟨_,_,_,_,_,_,_,S,_⟩=>ao.of (S.same _ _ ha)) ?_ ?_⟩
 ·rintro i x σ H2 hi ⟨u,v,rs,b,pre,r,rfl,S,ef,l1,l2,l3⟩
  obtain⟨pt,eT,ij⟩:=cv.get hi
  obtain⟨t,rfl,hb⟩:=ij.mono (aM S.same)
  have dX:i<ps.length:=(List.getElem?_eq_some_iff.mp eT).1
  have nr:(ps.take (i+1)).foldl bu ([],((Str.ofString "",Str.ofString "",0):Row))=bu (pre,r) pt:=by rw[OQ eT,ef]
  have et:=zl eT
  have tb:=vO ps i
  have tb1:=vO ps (i+1)
  have sl:=afv pre r pt _ l2 l3
  refine⟨t,_,rfl, .inl (aI.of hb),rfl,_,_,rfl,_,_,rfl,rfl, ?_⟩
  refine⟨_,rfl,_,rfl, ?_⟩
  cases pt with
  | keep n=>
   refine⟨_,rfl, .inl ⟨_,_,_,_,rfl,rfl,ao.of S.lst,vS _ _, .inl ⟨_,_,_,_,rfl,rfl,ao.of S.last,rfl,_,rfl,_,rfl, .inl ⟨_,_,_,_,rfl,rfl,ao.of S.lst,vS _ _,b,ju r,2,2,rfl,rfl,S.last,rfl, ?_⟩⟩⟩⟩
   refine⟨_,_,rs,b,pre,(r.1,r.2.1,r.2.2+n),rfl,S.set (r':=(r.1,r.2.1,r.2.2+n)),nr,by omega, ?_, ?_⟩
   ·show r.1.length≤_;omega
   ·show r.2.1.length≤_;omega
  | put s=>
   refine O0 S (.put s) (.inl ⟨rfl,rfl⟩) ?_ (by omega) (by omega) (by omega) fun H3 sU b' S' sV=> ⟨_,_,sU,b',_,_,rfl,S',nr,by omega,by omega,by omega⟩
   have:cQ (.put s)=s.length:=rfl
   omega
  | cut s=>
   refine O0 S (.cut s) (.inr ⟨rfl,rfl⟩) ?_ (by omega) (by omega) (by omega) fun H3 sU b' S' sV=> ⟨_,_,sU,b',_,_,rfl,S',nr,by omega,by omega,by omega⟩
   have:cQ (.cut s)=s.length:=rfl
   omega
 ·rintro σ Hm ⟨u,v,rs,b,pre,r,rfl,S,ef,l1,l2,l3⟩
  have e:ps.take xs.length=ps:=List.take_of_length_le (by omega)
  rw[e] at ef
  have afA:sS ps=pre++ [r]:=by
   show(ps.foldl bu ([],((Str.ofString "",Str.ofString "",0):Row))).1++ [(ps.foldl bu ([],((Str.ofString "",Str.ofString "",0):Row))).2]=_
   rw[ef]
  have O4:lS Hm (rs++ [.ref b]) (sS ps):=by rw[afA];exact Paired.snoc S.rows ⟨b,rfl,S.last⟩
  have DN:=Paired.length O4
  refine⟨Nat.zero_le _,fun f0 DO=> ?_⟩
  refine⟨_,rfl,R,rfl,⟨_,ao.of (sameNew DO _ _ S.lst)⟩,mM (K:=K) (a:=R) (xs:=rs++ [.ref b]) (fun i σ H2=> ∃f ys p5 p6 p7 p8,σ=[some (.ref a),some (.ref R),u,v,some (.ref f),p5,p6,p7,p8]∧ax Hm H2∧H f=none∧H2 f=some (.lst ys)∧aQ H2 ys (cJ ((sS ps).take i))∧ys.length≤3*i)
   ⟨f0,[],none,none,none,none,rfl,sameNew DO,S.same.free DO,av, .nil,Nat.le_refl _⟩ (fun i σ H2 _ ⟨_,_,_,_,_,_,_,s2,_⟩=>ao.of (s2 _ _ S.lst)) ?_ ?_⟩
  ·rintro i x σ H2 hi ⟨f,ys,p5,p6,p7,p8,rfl,s2,ff,DP,bg,jv⟩
   obtain⟨row,afB,w,rfl,hw⟩:=O4.get hi
   have h2w:=s2 _ _ hw
   have dX:i< (rs++ [V.ref b]).length:=(List.getElem?_eq_some_iff.mp hi).1
   have hrs:rs.length≤100000:=by omega
   have nt:i≤100000:=by simp only[List.length_append,List.length_singleton] at dX;omega
   refine⟨w,_,rfl, .inr (ao.of h2w),rfl,_,_,rfl,_,_,rfl,_,_,rfl,rfl, ?_⟩
   refine⟨_,rfl,(by show 2≤sizeLine;decide),fun t1 fS=> ⟨_,rfl,(by show 2≤sizeLine;decide),fun t2 qB=> ⟨_,rfl,(by show 2≤sizeLine;decide),fun t3 vT=> ⟨(by show 3≤sizeLine;decide),fun l dy=> ?_⟩⟩⟩⟩
   have c1:t1≠t2:=fun z=>by rw[←z,av] at qB;cases qB
   have sW:t1≠t3:=fun z=>by rw[←z,aD c1,av] at vT;cases vT
   have sX:t2≠t3:=fun z=>by rw[←z,av] at vT;cases vT
   have c1l:t1≠l:=fun z=>by rw[←z,aD sW,aD c1,av] at dy;cases dy
   have c2l:t2≠l:=fun z=>by rw[←z,aD sX,av] at dy;cases dy
   have c3l:t3≠l:=fun z=>by rw[←z,av] at dy;cases dy
   have s3:=((sameNew (o:= .tup [.str "put", .str row.1]) fS).trans (sameNew (o:= .tup [.str "cut", .str row.2.1]) qB)).trans ((sameNew (o:= .tup [.str "keep", .int row.2.2]) vT).trans (sameNew (o:= .lst [.ref t1, .ref t2, .ref t3]) dy))
   refine⟨_,rfl,afw (r:=row) (l:=l) (t1:=t1) (t2:=t2) (t3:=t3) av (by rw[aD c1l,aD sW,aD c1,av]) (by rw[aD c2l,aD sX,av]) (by rw[aD c3l,av]) rfl fun p zs hp O5 DQ=> ?_⟩
   generalize uN:upd (upd (upd (upd H2 t1 (.tup [.str "put", .str row.1])) t2 (.tup [.str "cut", .str row.2.1])) t3 (.tup [.str "keep", .int row.2.2])) l (.lst [.ref t1, .ref t2, .ref t3])=H3 at s3 hp O5
   have O6:=s3 _ _ DP
   have h4f:upd H3 p (.lst zs) f=some (.lst ys):=by rw[aD (aW O6 hp)];exact O6
   refine .inl ⟨f,p,ys,zs,rfl,rfl,h4f,av,cz (by omega),fun q hq=> ?_⟩
   have s5:ax Hm (upd (upd H3 p (.lst zs)) q (.lst (ys++zs))):=s2.trans (s3.trans ((sameNew hp).trans (sameNew hq)))
   have t5:dJ H3 (upd (upd H3 p (.lst zs)) q (.lst (ys++zs))):=aM ((sameNew hp).trans (sameNew hq))
   refine⟨q,ys++zs,_,_,_,_,rfl,s5,S.same.free ((s2.trans (s3.trans (sameNew hp))).free hq),av, ?_,by rw[List.length_append];omega⟩
   rw[afu afB]
   have app: ∀{vs:List V} {as:List Pt} {ws:List V} {bs:List Pt} {G:Hp},aQ G vs as→aQ G ws bs→aQ G (vs++ws) (as++bs):=fun {vs as ws bs G} h1 h2=>by
    induction h1 with
    | nil=>exact h2
    | cons a _ ih=>exact .cons a ih
   exact app ((bg.mono (aM s3)).mono t5) (O5.mono t5)
  ·rintro σ H2 ⟨f,ys,p5,p6,p7,p8,rfl,s2,ff,DP,bg,jv⟩
   have e2:(sS ps).take (rs++ [V.ref b]).length=sS ps:=List.take_of_length_le (by omega)
   rw[e2] at bg
   exact⟨_,rfl,k f H2 ys (S.same.trans s2) ff DP bg⟩
theorem zv(a b:List Row):cJ (a++b)=cJ a++cJ b:=by simp[cJ]
theorem vU(r:Row):cJ [r]=dD r:=by simp[cJ]
theorem DR{r:Row}(h:0<r.2.2):dD r=txt .put r.1++txt .cut r.2.1++ [.keep r.2.2]:=by
 unfold dD
 rw[if_neg (by omega)]
theorem O7{r:Row}(h:r.2.2=0):dD r=txt .put r.1++txt .cut r.2.1:=by
 unfold dD
 rw[if_pos h,List.append_nil]
def O8:Pt→Bool | .keep _=>true | _=>false
theorem afH{ch:List Pt}{n:Int}(h: ∀p,ch.getLast?=some p→O8 p=false):dC ch n=ch++ [.keep n]:=by
 unfold dC
 split
 ·rename_i m e
  have:=h _ e
  cases this
 ·rfl
theorem afI(ch:List Pt)(m n:Int):dC (ch++ [.keep m]) n=ch++ [.keep (n+m)]:=by
 unfold dC
 rw[List.getLast?_append]
 simp
theorem txt_nil(mk:Str→Pt):txt mk ""=[]:=if_pos rfl
theorem iV{mk:Str→Pt}{x:Str}(h:x≠""):txt mk x=[mk x]:=if_neg h
theorem afJ{pre:List Row}{r:Row}(h:pre≠ []→r.1≠""∨r.2.1≠""): ∀p,(cJ pre++txt .put r.1++txt .cut r.2.1).getLast?=some p→O8 p=false:=by
 intro p hp
 by_cases h2:r.2.1=""
 ·rw[h2,txt_nil,List.append_nil] at hp
  by_cases h1:r.1=""
  ·rw[h1,txt_nil,List.append_nil] at hp
   by_cases kQ:pre=[]
   ·rw[kQ] at hp
    simp[cJ] at hp
   ·rcases h kQ with z | z
    ·exact absurd h1 z
    ·exact absurd h2 z
  ·rw[iV h1,List.getLast?_append] at hp
   simp at hp;subst hp;rfl
 ·rw[iV h2,List.getLast?_append] at hp
  simp at hp;subst hp;rfl
def Rel(s:NS)(t:List Row×Row):Prop:=
 (∀x∈t.1,0<x.2.2)∧(t.1≠ []→t.2.1≠""∨t.2.2.1≠"")∧0≤t.2.2.2∧
  ((t.2.2.2=0∧s.1=cJ t.1∧cat s.2.1=t.2.1∧cat s.2.2=t.2.2.1)∨(0<t.2.2.2∧s.1=cJ (t.1++ [t.2])∧cat s.2.1=""∧cat s.2.2=""))
theorem nu(a:List Str)(s:Str):cat (a++ [s])=cat a++s:=by rw[afa,afb]
theorem afK{s:NS}{t:List Row×Row}{p:Pt}(R:Rel s t)(hp:d9 p):Rel (c_ s p) (bu t p):=by
 obtain⟨ch,pu,cu⟩:=s
 obtain⟨pre,r⟩:=t
 obtain⟨r1,r2,r3,r4⟩:=R
 simp only at r1 r2 r3 r4
 cases p with
 | keep n=>
  have sQ:0≤n:=hp
  by_cases hn:0<n
  ·have e1:c_ (ch,pu,cu) (.keep n)=(dC (dm ch pu cu) n,[],[]):=if_pos hn
   rw[e1]
   refine⟨r1,r2,by show 0≤r.2.2+n;omega, .inr ⟨by show 0<r.2.2+n;omega, ?_,rfl,rfl⟩⟩
   show dC (dm ch pu cu) n=cJ (pre++ [(r.1,r.2.1,r.2.2+n)])
   rw[zv,vU,DR (r:=(r.1,r.2.1,r.2.2+n)) (by show 0<r.2.2+n;omega)]
   rcases r4 with⟨k0,e2,e3,e4⟩ | ⟨k0,e2,e3,e4⟩
   ·have ea:dm ch pu cu=cJ pre++txt .put r.1++txt .cut r.2.1:=by unfold dm;rw[e2,e3,e4]
    rw[ea,afH (afJ r2)]
    show _=cJ pre++ (txt .put r.1++txt .cut r.2.1++ [.keep (r.2.2+n)])
    rw[k0,Int.zero_add];simp
   ·have ea:dm ch pu cu=cJ pre++ (txt .put r.1++txt .cut r.2.1)++ [.keep r.2.2]:=by
     unfold dm
     rw[e2,e3,e4,txt_nil,txt_nil,List.append_nil,List.append_nil,zv,vU,DR k0];simp
    rw[ea,afI]
    show _=cJ pre++ (txt .put r.1++txt .cut r.2.1++ [.keep (r.2.2+n)])
    rw[Int.add_comm n];simp
  ·have e0:n=0:=by omega
   have e1:c_ (ch,pu,cu) (.keep n)=(ch,pu,cu):=if_neg hn
   have e2:bu (pre,r) (.keep n)=(pre,r):=by show(pre,(r.1,r.2.1,r.2.2+n))=_;rw[e0,Int.add_zero]
   rw[e1,e2]
   exact⟨r1,r2,r3,r4⟩
 | put x=>
  show Rel (ch,pu++ [x],cu) (bu (pre,r) (.put x))
  by_cases hx:x=""
  ·have e2:bu (pre,r) (.put x)=(pre,r):=if_pos hx
   rw[e2]
   refine⟨r1,r2,r3, ?_⟩
   have e:cat (pu++ [x])=cat pu:=by rw[nu,hx];exact OM _
   show _∨_
   simp only[e]
   exact r4
  ·by_cases hk:0<r.2.2
   ·have e2:bu (pre,r) (.put x)=(pre++ [r],((Str.ofString ""++x,Str.ofString "",0):Row)):=by show(if x="" then _ else if 0<r.2.2 then _ else _)=_;rw[if_neg hx,if_pos hk]
    rw[e2]
    rcases r4 with⟨k0,_⟩ | ⟨_,e5,e3,e4⟩
    ·omega
    ·refine⟨fun y hy=> ?_,fun _=> .inl (by rw[sI];exact hx),Int.le_refl _, .inl ⟨rfl,e5, ?_,e4⟩⟩
     ·rcases List.mem_append.mp hy with z | z
      ·exact r1 y z
      ·rw[List.mem_singleton.mp z];exact hk
     ·show cat (pu++ [x])=_
      rw[nu,e3]
   ·have e2:bu (pre,r) (.put x)=(pre,(r.1++x,r.2.1,r.2.2)):=by show(if x="" then _ else if 0<r.2.2 then _ else _)=_;rw[if_neg hx,if_neg hk]
    rw[e2]
    rcases r4 with⟨k0,e5,e3,e4⟩ | ⟨k0,_⟩
    ·refine⟨r1,fun _=> .inl ?_,r3, .inl ⟨k0,e5, ?_,e4⟩⟩
     ·intro z
      have:=congrArg Str.length z
      rw[ip] at this
      have l0:(Str.ofString "").length=0:=rfl
      rw[l0] at this
      have nz:x.length=0:=by omega
      exact hx (gL (by rw[len_list] at nz;rw[List.length_eq_zero_iff.mp nz];rfl))
     ·show cat (pu++ [x])=_
      rw[nu,e3]
    ·omega
 | cut x=>
  show Rel (ch,pu,cu++ [x]) (bu (pre,r) (.cut x))
  by_cases hx:x=""
  ·have e2:bu (pre,r) (.cut x)=(pre,r):=if_pos hx
   rw[e2]
   refine⟨r1,r2,r3, ?_⟩
   have e:cat (cu++ [x])=cat cu:=by rw[nu,hx];exact OM _
   show _∨_
   simp only[e]
   exact r4
  ·by_cases hk:0<r.2.2
   ·have e2:bu (pre,r) (.cut x)=(pre++ [r],((Str.ofString "",Str.ofString ""++x,0):Row)):=by show(if x="" then _ else if 0<r.2.2 then _ else _)=_;rw[if_neg hx,if_pos hk]
    rw[e2]
    rcases r4 with⟨k0,_⟩ | ⟨_,e5,e3,e4⟩
    ·omega
    ·refine⟨fun y hy=> ?_,fun _=> .inr (by rw[sI];exact hx),Int.le_refl _, .inl ⟨rfl,e5,e3, ?_⟩⟩
     ·rcases List.mem_append.mp hy with z | z
      ·exact r1 y z
      ·rw[List.mem_singleton.mp z];exact hk
     ·show cat (cu++ [x])=_
      rw[nu,e4]
   ·have e2:bu (pre,r) (.cut x)=(pre,(r.1,r.2.1++x,r.2.2)):=by show(if x="" then _ else if 0<r.2.2 then _ else _)=_;rw[if_neg hx,if_neg hk]
    rw[e2]
    rcases r4 with⟨k0,e5,e3,e4⟩ | ⟨k0,_⟩
    ·refine⟨r1,fun _=> .inr ?_,r3, .inl ⟨k0,e5,e3, ?_⟩⟩
     ·intro z
      have:=congrArg Str.length z
      rw[ip] at this
      have l0:(Str.ofString "").length=0:=rfl
      rw[l0] at this
      have nz:x.length=0:=by omega
      exact hx (gL (by rw[len_list] at nz;rw[List.length_eq_zero_iff.mp nz];rfl))
     ·show cat (cu++ [x])=_
      rw[nu,e4]
    ·omega
theorem O9: ∀(ps:List Pt) (s:NS) (t:List Row×Row),Rel s t→(∀p∈ps,d9 p)→Rel (ps.foldl c_ s) (ps.foldl bu t)
 | [],s,t,R,_=>R
 | p::r,s,t,R,h=>O9 r _ _ (afK R (h p List.mem_cons_self)) fun q hq=>h q (List.mem_cons_of_mem _ hq)
theorem afL(ps:List Pt)(h: ∀p∈ps,d9 p):Rel (ps.foldl c_ ([],[],[])) (ps.foldl bu ([],((Str.ofString "",Str.ofString "",0):Row))):=
 O9 ps _ _ ⟨(fun x hx=>by cases hx),fun z=>absurd rfl z,Int.le_refl _, .inl ⟨rfl,rfl,rfl,rfl⟩⟩ h
theorem DS(ps:List Pt)(h: ∀p∈ps,d9 p):iS ps=fQ ps:=by
 obtain⟨r1,r2,r3,r4⟩:=afL ps h
 show dm _ _ _=cJ (_++ [_])
 generalize ps.foldl c_ ([],[],[])=s at r4⊢
 generalize ps.foldl bu ([],((Str.ofString "",Str.ofString "",0):Row))=t at r1 r2 r3 r4⊢
 unfold dm
 rcases r4 with⟨k0,e5,e3,e4⟩ | ⟨k0,e5,e3,e4⟩
 ·rw[e5,e3,e4,zv,vU,O7 k0];simp
 ·rw[e5,e3,e4,txt_nil,txt_nil];simp
def sg(x:Str):Prop:= ∀c∈x.cps.toList,SG.cps.contains c=true
theorem zw{x y:Str}(a:sg x)(b:sg y):sg (x++y):=fun c hc=>by
 rw[app_list] at hc
 rcases List.mem_append.mp hc with z | z
 ·exact a c z
 ·exact b c z
theorem nA:sg (Str.ofString ""):=fun c hc=>by cases hc
def jw(r:Row):Nat:=r.1.length+r.2.1.length
structure RI (n:Nat) (t:List Row×Row):Prop where
 pos: ∀x∈t.1,0<x.2.2
 nn:0≤t.2.2.2
 s1: ∀x∈t.1++ [t.2],sg x.1∧sg x.2.1
 tl: ∀x∈ (t.1++ [t.2]).tail,x.1≠""∨x.2.1≠""
 aG:((t.1++ [t.2]).map jw).sum=n
theorem O_{x y:Str}(h:x≠""):x++y≠"":=fun z=>by
 have:=congrArg Str.length z
 rw[ip] at this
 have l0:(Str.ofString "").length=0:=rfl
 rw[l0] at this
 have nz:x.length=0:=by omega
 exact h (gL (by rw[len_list] at nz;rw[List.length_eq_zero_iff.mp nz];rfl))
theorem Pa{α:Type}(l:List α)(a:α):(l++ [a]).tail=if l=[] then [] else l.tail++ [a]:=by
 cases l with
 | nil=>rfl
 | cons b r=>simp
theorem DT{n m:Nat}{pre:List Row}{r r':Row}(I:RI n (pre,r))(h0:0≤r'.2.2)(h1:sg r'.1∧sg r'.2.1)(h2:(r.1≠""→r'.1≠"")∧(r.2.1≠""→r'.2.1≠""))(h3:jw r'=jw r+m):RI (n+m) (pre,r'):=by
 refine⟨I.pos,h0,fun x hx=> ?_,fun x hx=> ?_, ?_⟩
 ·rcases List.mem_append.mp hx with z | z
  ·exact I.s1 x (List.mem_append_left _ z)
  ·rw[List.mem_singleton.mp z];exact h1
 ·have t1:=I.tl
  simp only at t1 hx
  rw[Pa] at hx t1
  by_cases hp:pre=[]
  ·rw[if_pos hp] at hx;cases hx
  ·rw[if_neg hp] at hx t1
   rcases List.mem_append.mp hx with z | z
   ·exact t1 x (List.mem_append_left _ z)
   ·rw[List.mem_singleton.mp z]
    rcases t1 r (by simp) with q | q
    ·exact .inl (h2.1 q)
    ·exact .inr (h2.2 q)
 ·have:=I.aG
  simp only[List.map_append,List.sum_append,List.map_cons,List.map_nil,List.sum_cons,List.sum_nil] at this⊢
  omega
theorem Pb{n m:Nat}{pre:List Row}{r r':Row}(I:RI n (pre,r))(hk:0<r.2.2)(h0:0≤r'.2.2)(h1:sg r'.1∧sg r'.2.1)(h2:r'.1≠""∨r'.2.1≠"")(h3:jw r'=m):RI (n+m) (pre++ [r],r'):=by
 refine⟨fun x hx=> ?_,h0,fun x hx=> ?_,fun x hx=> ?_, ?_⟩
 ·rcases List.mem_append.mp hx with z | z
  ·exact I.pos x z
  ·rw[List.mem_singleton.mp z];exact hk
 ·rcases List.mem_append.mp hx with z | z
  ·exact I.s1 x z
  ·rw[List.mem_singleton.mp z];exact h1
 ·have t1:=I.tl
  simp only at t1 hx
  rw[Pa,if_neg (by simp)] at hx
  rcases List.mem_append.mp hx with z | z
  ·exact t1 x z
  ·rw[List.mem_singleton.mp z];exact h2
 ·have:=I.aG
  simp only[List.map_append,List.sum_append,List.map_cons,List.map_nil,List.sum_cons,List.sum_nil] at this⊢
  omega
theorem afM{n:Nat}{t:List Row×Row}{p:Pt}(I:RI n t)(hp:d9 p):RI (n+cQ p) (bu t p):=by
 obtain⟨pre,r⟩:=t
 have hs:=I.s1 r (by simp)
 have vV:0≤r.2.2:=I.nn
 have e0:(Str.ofString "").length=0:=rfl
 cases p with
 | keep m=>exact DT I (by show 0≤r.2.2+m;have:0≤m:=hp;omega) hs ⟨fun z=>z,fun z=>z⟩ rfl
 | put x=>
  have gx:sg x:=hp.1.2
  by_cases hx:x=""
  ·have e2:bu (pre,r) (.put x)=(pre,r):=if_pos hx
   have e3:cQ (.put x)=0:=by show x.length=0;rw[hx];rfl
   rw[e2,e3];exact I
  ·by_cases hk:0<r.2.2
   ·have e2:bu (pre,r) (.put x)=(pre++ [r],((Str.ofString ""++x,Str.ofString "",0):Row)):=by show(if x="" then _ else if 0<r.2.2 then _ else _)=_;rw[if_neg hx,if_pos hk]
    rw[e2]
    refine Pb I hk (Int.le_refl _) ⟨zw nA gx,nA⟩ (.inl (by rw[sI];exact hx)) ?_
    show(Str.ofString ""++x).length+ (Str.ofString "").length=x.length
    rw[ip,e0];omega
   ·have e2:bu (pre,r) (.put x)=(pre,(r.1++x,r.2.1,r.2.2)):=by show(if x="" then _ else if 0<r.2.2 then _ else _)=_;rw[if_neg hx,if_neg hk]
    rw[e2]
    refine DT I vV ⟨zw hs.1 gx,hs.2⟩ ⟨O_,fun z=>z⟩ ?_
    show(r.1++x).length+r.2.1.length=r.1.length+r.2.1.length+x.length
    rw[ip];omega
 | cut x=>
  have gx:sg x:=hp.1.2
  by_cases hx:x=""
  ·have e2:bu (pre,r) (.cut x)=(pre,r):=if_pos hx
   have e3:cQ (.cut x)=0:=by show x.length=0;rw[hx];rfl
   rw[e2,e3];exact I
  ·by_cases hk:0<r.2.2
   ·have e2:bu (pre,r) (.cut x)=(pre++ [r],((Str.ofString "",Str.ofString ""++x,0):Row)):=by show(if x="" then _ else if 0<r.2.2 then _ else _)=_;rw[if_neg hx,if_pos hk]
    rw[e2]
    refine Pb I hk (Int.le_refl _) ⟨nA,zw nA gx⟩ (.inr (by rw[sI];exact hx)) ?_
    show(Str.ofString "").length+ (Str.ofString ""++x).length=x.length
    rw[ip,e0];omega
   ·have e2:bu (pre,r) (.cut x)=(pre,(r.1,r.2.1++x,r.2.2)):=by show(if x="" then _ else if 0<r.2.2 then _ else _)=_;rw[if_neg hx,if_neg hk]
    rw[e2]
    refine DT I vV ⟨hs.1,zw hs.2 gx⟩ ⟨fun z=>z,O_⟩ ?_
    show r.1.length+ (r.2.1++x).length=r.1.length+r.2.1.length+x.length
    rw[ip];omega
theorem DU: ∀(ps:List Pt) (n:Nat) (t:List Row×Row),RI n t→(∀p∈ps,d9 p)→RI (n+aG ps) (ps.foldl bu t)
 | [],n,t,I,_=>I
 | p::r,n,t,I,h=>by
  have:=DU r _ _ (afM I (h p List.mem_cons_self)) fun q hq=>h q (List.mem_cons_of_mem _ hq)
  have e:n+cQ p+aG r=n+aG (p::r):=by show _=n+ (cQ p+aG r);omega
  rw[e] at this
  exact this
theorem Pc{r:Row}{a:Str}{rest:List Pt}(ha:a=""∨(a="keep"∧(r.1≠""∨r.2.1≠"")))(hk:0<r.2.2)(h:chainOk "keep" rest=true):chainOk a (dD r++rest)=true:=by
 rw[DR hk]
 by_cases h1:r.1="" <;>by_cases h2:r.2.1=""
 ·rw[h1,h2,txt_nil,txt_nil]
  rcases ha with rfl | ⟨_,z | z⟩
  ·exact h
  ·exact absurd h1 z
  ·exact absurd h2 z
 ·rw[h1,txt_nil,iV h2]
  rcases ha with rfl | ⟨rfl,_⟩ <;>exact h
 ·rw[h2,txt_nil,iV h1]
  rcases ha with rfl | ⟨rfl,_⟩ <;>exact h
 ·rw[iV h1,iV h2]
  rcases ha with rfl | ⟨rfl,_⟩ <;>exact h
theorem chain_last{r:Row}{a:Str}(ha:a=""∨(a="keep"∧(r.1≠""∨r.2.1≠"")))(hk:0≤r.2.2):chainOk a (dD r)=true:=by
 by_cases h0:0<r.2.2
 ·have:=Pc (rest:=[]) ha h0 rfl
  rw[List.append_nil] at this
  exact this
 ·rw[O7 (by omega)]
  by_cases h1:r.1="" <;>by_cases h2:r.2.1=""
  ·rw[h1,h2,txt_nil,txt_nil];rfl
  ·rw[h1,txt_nil,iV h2]
   rcases ha with rfl | ⟨rfl,_⟩ <;>rfl
  ·rw[h2,txt_nil,iV h1]
   rcases ha with rfl | ⟨rfl,_⟩ <;>rfl
  ·rw[iV h1,iV h2]
   rcases ha with rfl | ⟨rfl,_⟩ <;>rfl
theorem Pd: ∀(pre:List Row) (r:Row) (a:Str),(∀x∈pre,0<x.2.2)→0≤r.2.2→(a=""∨(a="keep"∧ ∀x,(pre++ [r]).head?=some x→x.1≠""∨x.2.1≠""))→(∀x∈ (pre++ [r]).tail,x.1≠""∨x.2.1≠"")→
  chainOk a (cJ (pre++ [r]))=true
 | [],r,a,_,hk,ha,_=>by
  rw[List.nil_append,vU]
  exact chain_last (ha.imp id fun⟨x,y⟩=> ⟨x,y r rfl⟩) hk
 | q::pre,r,a,hp,hk,ha,ht=>by
  have e:cJ (q::pre++ [r])=dD q++cJ (pre++ [r]):=by simp[cJ]
  rw[e]
  refine Pc (ha.imp id fun⟨x,y⟩=> ⟨x,y q rfl⟩) (hp q List.mem_cons_self) ?_
  refine Pd pre r "keep" (fun x hx=>hp x (List.mem_cons_of_mem _ hx)) hk (.inr ⟨rfl,fun x hx=>ht x ?_⟩) fun x hx=>ht x (List.mem_of_mem_tail hx)
  show x∈pre++ [r]
  exact List.mem_of_mem_head? hx
theorem afN{r:Row}{p:Pt}(hs:sg r.1∧sg r.2.1)(hl:jw r≤1000000)(hk:0≤r.2.2)(h:p∈dD r):bp p:=by
 unfold dD txt at h
 unfold jw at hl
 rcases List.mem_append.mp h with h | h
 ·rcases List.mem_append.mp h with h | h
  ·split at h
   ·cases h
   ·rename_i ne
    rw[List.mem_singleton.mp h]
    exact⟨⟨by omega,hs.1⟩,ne⟩
  ·split at h
   ·cases h
   ·rename_i ne
    rw[List.mem_singleton.mp h]
    exact⟨⟨by omega,hs.2⟩,ne⟩
 ·split at h
  ·cases h
  ·rw[List.mem_singleton.mp h]
   show 1≤r.2.2
   omega
theorem afO(r:Row):aG (dD r)=jw r:=by
 have t1: ∀(mk:Str→Pt) (x:Str),(∀y,cQ (mk y)=y.length)→aG (txt mk x)=x.length:=by
  intro mk x h
  unfold txt
  by_cases e:x=""
  ·rw[if_pos e,e];rfl
  ·rw[if_neg e];show cQ (mk x)+0=_;rw[h,Nat.add_zero]
 have ta: ∀a b:List Pt,aG (a++b)=aG a+aG b:=fun a b=>by simp[aG]
 unfold dD jw
 rw[ta,ta,t1 .put _ fun _=>rfl,t1 .cut _ fun _=>rfl]
 split
 ·rfl
 ·rfl
theorem DV: ∀rows:List Row,aG (cJ rows)=(rows.map jw).sum
 | []=>rfl
 | r::rows=>by
  have e:cJ (r::rows)=dD r++cJ rows:=by simp[cJ]
  have ta: ∀a b:List Pt,aG (a++b)=aG a+aG b:=fun a b=>by simp[aG]
  rw[e,ta,afO,DV rows];rfl
theorem afP{l:List Row}{x:Row}(h:x∈l):jw x≤ (l.map jw).sum:=by
 induction l with
 | nil=>cases h
 | cons a l ih=>
  rw[List.map_cons,List.sum_cons]
  rcases List.mem_cons.mp h with rfl | h
  ·omega
  ·have:=ih h;omega
theorem DW(ps:List Pt)(h: ∀p∈ps,d9 p)(ht:aG ps≤100000):chainOk "" (fQ ps)=true∧(∀p∈fQ ps,bp p)∧aG (fQ ps)≤100000:=by
 have I:=DU ps 0 ([],((Str.ofString "",Str.ofString "",0):Row)) ⟨(fun x hx=>by cases hx),Int.le_refl _,(fun x hx=>by rw[List.mem_singleton.mp hx];exact⟨nA,nA⟩),(fun x hx=>by cases hx),rfl⟩ h
 rw[Nat.zero_add] at I
 have e:fQ ps=cJ ((ps.foldl bu ([],((Str.ofString "",Str.ofString "",0):Row))).1++ [(ps.foldl bu ([],((Str.ofString "",Str.ofString "",0):Row))).2]):=rfl
 rw[e]
 generalize ps.foldl bu ([],((Str.ofString "",Str.ofString "",0):Row))=t at I
 refine⟨Pd t.1 t.2 "" I.pos I.nn (.inl rfl) I.tl,fun p hp=> ?_,by rw[DV,I.aG];exact ht⟩
 unfold cJ at hp
 rw[List.mem_flatten] at hp
 obtain⟨l,hl,hp⟩:=hp
 obtain⟨x,hx,rfl⟩:=List.mem_map.mp hl
 have hle:=afP hx
 rw[I.aG] at hle
 refine afN (I.s1 x hx) (by omega) ?_ hp
 rcases List.mem_append.mp hx with z | z
 ·have:=I.pos x z;omega
 ·rw[List.mem_singleton.mp z];exact I.nn
theorem DX(ps:List Pt):(iS ps).length≤3*ps.length+2:=by
 have go: ∀(l:List Pt) (s:NS),(l.foldl c_ s).1.length≤s.1.length+3*l.length:=by
  intro l
  induction l with
  | nil=>intro s;simp
  | cons p l ih=>
   intro s
   have h1:=ih (c_ s p)
   have h2:(c_ s p).1.length≤s.1.length+3:=by
    obtain⟨ch,pu,cu⟩:=s
    cases p with
    | keep n=>
     by_cases hn:0<n
     ·have e1:c_ (ch,pu,cu) (.keep n)=(dC (dm ch pu cu) n,[],[]):=if_pos hn
      rw[e1]
      have:=zm ch pu cu
      have:=OS (dm ch pu cu) n
      show(dC (dm ch pu cu) n).length≤ch.length+3
      omega
     ·have e1:c_ (ch,pu,cu) (.keep n)=(ch,pu,cu):=if_neg hn
      rw[e1]
      show ch.length≤ch.length+3
      omega
    | put x=>show ch.length≤ch.length+3;omega
    | cut x=>show ch.length≤ch.length+3;omega
   rw[List.foldl_cons,List.length_cons]
   omega
 have h1:=go ps ([],[],[])
 have h2:=zm (ps.foldl c_ ([],[],[])).1 (ps.foldl c_ ([],[],[])).2.1 (ps.foldl c_ ([],[],[])).2.2
 show(dm _ _ _).length≤_
 simp only[List.length_nil] at h1
 omega
def afQ:Pt→PyData | .keep n=> .int n | .put s=> .str s | .cut s=> .str s
def toD(p:Pt):PyData:= .tuple [.str p.word,afQ p]
def sY:Pt→Prop | .keep _=>True | .put s=>sg s | .cut s=>sg s
theorem DY{x:Str}(h:sg x):PyData.strOk x=true:=by
 have small: ∀c,SG.cps.contains c=true→c<0x110000:=by
  have all:SG.cps.toList.all (fun c=>decide (c<0x110000))=true:=by decide+kernel
  intro c hc
  have hm:c∈SG.cps.toList:=by simpa using hc
  exact of_decide_eq_true (List.all_eq_true.mp all c hm)
 unfold PyData.strOk
 rw[Array.all_eq_true']
 intro c hc
 exact decide_eq_true (small c (h c (by simpa using hc)))
theorem toD_ok{p:Pt}(h:sY p):(toD p).canLay0=true∧(toD p).depth=1:=by
 cases p with
 | keep n=>exact⟨(by show(PyData.strOk (Str.ofString "keep") && (true && true))=true;decide+kernel),rfl⟩
 | put s=>
  refine⟨?_,rfl⟩
  show(PyData.strOk (Str.ofString "put") && (PyData.strOk s && true))=true
  rw[DY h];decide+kernel
 | cut s=>
  refine⟨?_,rfl⟩
  show(PyData.strOk (Str.ofString "cut") && (PyData.strOk s && true))=true
  rw[DY h];decide+kernel
theorem DZ: ∀(ps:List Pt),(∀p∈ps,sY p)→PyData.canLayAll0 (ps.map toD)=true∧PyData.depthAll (ps.map toD)≤1
 | [],_=> ⟨rfl,Nat.zero_le _⟩
 | p::r,h=>by
  obtain⟨a,b⟩:=toD_ok (h p List.mem_cons_self)
  obtain⟨c,d⟩:=DZ r fun q hq=>h q (List.mem_cons_of_mem _ hq)
  refine⟨?_, ?_⟩
  ·show((toD p).canLay0 && PyData.canLayAll0 (r.map toD))=true
   rw[a,c];rfl
  ·show max (toD p).depth (PyData.depthAll (r.map toD))≤1
   rw[b];omega
theorem vW{H:Hp}: ∀{vs:List V} {ps:List Pt},aQ H vs ps→IsL H (ps.map toD) vs
 | _,_, .nil=>rfl
 | _,_, .cons (a:=v) (b:=p) ⟨a,e,h⟩ r=>by
  refine⟨v,_,rfl, ?_,vW r⟩
  refine⟨a,_,e,h, .str p.word,[p.val],rfl,rfl,p.val,[],rfl, ?_,rfl⟩
  cases p<;>rfl
theorem zx{p:Pt}(h:bp p):sY p:=by
 cases p with
 | keep n=>trivial
 | put s=>exact h.1.2
 | cut s=>exact h.1.2
def Pt.D0:Pt→Pt | .keep n=> .keep n | .put s=> .cut s | .cut s=> .put s
def Pe(ps:List Pt):List Pt:=ps.map Pt.D0
theorem afR(ps:List Pt)(h: ∀p∈ps,d9 p):RI (aG ps) (ps.foldl bu ([],((Str.ofString "",Str.ofString "",0):Row))):=by
 have I:=DU ps 0 ([],((Str.ofString "",Str.ofString "",0):Row)) ⟨(fun x hx=>by cases hx),Int.le_refl _,(fun x hx=>by rw[List.mem_singleton.mp hx];exact⟨nA,nA⟩),(fun x hx=>by cases hx),rfl⟩ h
 rwa [Nat.zero_add] at I
theorem afS{p:Pt}(h:bp p)(ht:cQ p≤100000):d9 p:=by
 cases p with
 | keep n=>exact Int.le_trans (by decide) (show(1:Int)≤n from h)
 | put s=>exact⟨h.1,ht⟩
 | cut s=>exact⟨h.1,ht⟩
theorem afT{ps:List Pt}{p:Pt}(h:p∈ps):cQ p≤aG ps:=by
 induction ps with
 | nil=>cases h
 | cons q ps ih=>
  have e:aG (q::ps)=cQ q+aG ps:=by simp[aG]
  rw[e]
  rcases List.mem_cons.mp h with rfl | h
  ·omega
  ·have:=ih h;omega
theorem afU{ps:List Pt}(h: ∀p∈ps,bp p)(ht:aG ps≤100000): ∀p∈ps,d9 p:=fun p hp=>afS (h p hp) (Nat.le_trans (afT hp) ht)
inductive Run:List Nat→List Pt→List Nat→Prop
 | nil:Run [] [] []
 | keep {a l r:List Nat} {n:Int} {ps:List Pt}:n=a.length→Run l ps r→Run (a++l) (.keep n::ps) (a++r)
 | put {s:Str} {l r:List Nat} {ps:List Pt}:Run l ps r→Run l (.put s::ps) (s.cps.toList++r)
 | cut {s:Str} {l r:List Nat} {ps:List Pt}:Run l ps r→Run (s.cps.toList++l) (.cut s::ps) r
theorem Run.D0{l r:List Nat}{ps:List Pt}(h:Run l ps r):Run r (Pe ps) l:=by
 induction h with
 | nil=>exact .nil
 | keep e _ ih=>exact .keep e ih
 | put _ ih=>exact .cut ih
 | cut _ ih=>exact .put ih
theorem Run.app{l l' r r':List Nat}{ps qs:List Pt}(h:Run l ps r)(h':Run l' qs r'):Run (l++l') (ps++qs) (r++r'):=by
 induction h with
 | nil=>exact h'
 | keep e _ ih=>rw[List.append_assoc,List.append_assoc];exact .keep e ih
 | put _ ih=>rw[List.append_assoc];exact .put ih
 | cut _ ih=>rw[List.append_assoc];exact .cut ih
theorem Run.over{l r:List Nat}{ps:List Pt}(h:Run l ps r):(overOf ps).sum=l.length:=by
 induction h with
 | nil=>rfl
 | @keep a l r n ps e _ ih=>
  have e2:overOf (.keep n::ps)=n::overOf ps:=rfl
  rw[e2,List.sum_cons,ih,e,List.length_append]
  simp
 | @put s l r ps _ ih=>
  have e2:overOf (.put s::ps)=overOf ps:=rfl
  rw[e2,ih]
 | @cut s l r ps _ ih=>
  have e2:overOf (.cut s::ps)=(s.length:Int)::overOf ps:=rfl
  rw[e2,List.sum_cons,ih,List.length_append,len_list]
  simp
def qC(r:Row)(l q:List Nat):Prop:= ∃k:List Nat,r.2.2=k.length∧l=r.2.1.cps.toList++k∧q=r.1.cps.toList++k
inductive lU:List Row→List Nat→List Nat→Prop
 | nil:lU [] [] []
 | snoc {rs:List Row} {r:Row} {l q l' q':List Nat}:lU rs l q→qC r l' q'→lU (rs++ [r]) (l++l') (q++q')
theorem Pf{s:Str}:Run [] (txt .put s) s.cps.toList:=by
 by_cases h:s=""
 ·rw[h,txt_nil];exact .nil
 ·rw[iV h]
  have:=Run.put (s:=s) Run.nil
  rwa [List.append_nil] at this
theorem afV{s:Str}:Run s.cps.toList (txt .cut s) []:=by
 have:=(Pf (s:=s)).D0
 have e:Pe (txt .put s)=txt .cut s:=by
  unfold txt;split<;>rfl
 rwa [e] at this
theorem qC.run{r:Row}{l q:List Nat}(h:qC r l q):Run l (dD r) q:=by
 obtain⟨k,hk,rfl,rfl⟩:=h
 have h3:Run k (if r.2.2=0 then [] else [.keep r.2.2]) k:=by
  split
  ·rename_i h
   have:k=[]:=List.length_eq_zero_iff.mp (by omega)
   rw[this];exact .nil
  ·have:=Run.keep (a:=k) hk Run.nil
   rwa [List.append_nil] at this
 have:=((Pf (s:=r.1)).app (afV (s:=r.2.1))).app h3
 simpa[dD] using this
theorem lU.run{rs:List Row}{l q:List Nat}(h:lU rs l q):Run l (cJ rs) q:=by
 induction h with
 | nil=>exact .nil
 | snoc _ h2 ih=>rw[zv,vU];exact ih.app h2.run
def One:Pt→List Nat→List Nat→Prop
 | .keep n,l,q=>l=q∧n=l.length
 | .put s,l,q=>l=[]∧q=s.cps.toList
 | .cut s,l,q=>l=s.cps.toList∧q=[]
theorem D3{p:Pt}{l q:List Nat}{ps:List Pt}(h:Run l (p::ps) q): ∃l1 l2 q1 q2,l=l1++l2∧q=q1++q2∧Run l2 ps q2∧
  One p l1 q1:=by
 cases h with
 | keep e h=>exact⟨_,_,_,_,rfl,rfl,h,rfl,e⟩
 | put h=>exact⟨[],_,_,_,rfl,rfl,h,rfl,rfl⟩
 | cut h=>exact⟨_,_,[],_,rfl,rfl,h,rfl,rfl⟩
theorem afW{pre:List Row}{r:Row}{p:Pt}{l0 q0 l1 q1 l2 q2:List Nat}(h0:lU pre l0 q0)(h1:qC r l1 q1)
  (hp:One p l2 q2):
  ∃qD qE jx jS,lU (bu (pre,r) p).1 qD qE∧qC (bu (pre,r) p).2 jx jS∧l0++l1++l2=qD++jx∧q0++q1++q2=qE++jS:=by
 cases p with
 | keep n=>
  obtain⟨rfl,rfl⟩:=hp
  obtain⟨k,hk,rfl,rfl⟩:=h1
  refine⟨l0,q0,_,_,h0,⟨k++l2, ?_,rfl,rfl⟩,by simp[bu],by simp[bu]⟩
  show r.2.2+ (l2.length:Int)=_
  rw[hk,List.length_append];simp
 | put s=>
  obtain⟨rfl,rfl⟩:=hp
  by_cases hs:s=""
  ·have e:bu (pre,r) (.put s)=(pre,r):=by simp only[bu,if_pos hs]
   rw[e]
   refine⟨l0,q0,l1,q1,h0,h1,by simp, ?_⟩
   rw[hs]
   show q0++q1++ (Str.ofString "").cps.toList=_
   rw[ofString_empty];simp
  ·by_cases hk:0<r.2.2
   ·have e:bu (pre,r) (.put s)=(pre++ [r],((Str.ofString ""++s,"",0):Row)):=by simp only[bu,if_neg hs,if_pos hk]
    rw[e]
    refine⟨_,_,[],s.cps.toList,h0.snoc h1,⟨[],rfl,rfl, ?_⟩,by simp,by simp⟩
    show s.cps.toList=(Str.ofString ""++s).cps.toList++ []
    rw[sI];simp
   ·have e:bu (pre,r) (.put s)=(pre,(r.1++s,r.2.1,r.2.2)):=by simp only[bu,if_neg hs,if_neg hk]
    rw[e]
    obtain⟨k,o8,rfl,rfl⟩:=h1
    have:k=[]:=List.length_eq_zero_iff.mp (by omega)
    subst this
    refine⟨l0,q0,r.2.1.cps.toList,r.1.cps.toList++s.cps.toList,h0,⟨[],o8,by simp,by simp[app_list]⟩,by simp,by simp⟩
 | cut s=>
  obtain⟨rfl,rfl⟩:=hp
  by_cases hs:s=""
  ·have e:bu (pre,r) (.cut s)=(pre,r):=by simp only[bu,if_pos hs]
   rw[e]
   refine⟨l0,q0,l1,q1,h0,h1, ?_,by simp⟩
   rw[hs]
   show l0++l1++ (Str.ofString "").cps.toList=_
   rw[ofString_empty];simp
  ·by_cases hk:0<r.2.2
   ·have e:bu (pre,r) (.cut s)=(pre++ [r],(("",Str.ofString ""++s,0):Row)):=by simp only[bu,if_neg hs,if_pos hk]
    rw[e]
    refine⟨_,_,s.cps.toList,[],h0.snoc h1,⟨[],rfl, ?_,rfl⟩,by simp,by simp⟩
    show s.cps.toList=(Str.ofString ""++s).cps.toList++ []
    rw[sI];simp
   ·have e:bu (pre,r) (.cut s)=(pre,(r.1,r.2.1++s,r.2.2)):=by simp only[bu,if_neg hs,if_neg hk]
    rw[e]
    obtain⟨k,o8,rfl,rfl⟩:=h1
    have:k=[]:=List.length_eq_zero_iff.mp (by omega)
    subst this
    refine⟨l0,q0,r.2.1.cps.toList++s.cps.toList,r.1.cps.toList,h0,⟨[],o8,by simp[app_list],by simp⟩,by simp,by simp⟩
theorem Pg: ∀(ps:List Pt) (pre:List Row) (r:Row) (l0 q0 l1 q1 l2 q2:List Nat),lU pre l0 q0→qC r l1 q1→Run l2 ps q2→
  ∃qD qE jx jS,lU (ps.foldl bu (pre,r)).1 qD qE∧qC (ps.foldl bu (pre,r)).2 jx jS∧l0++l1++l2=qD++jx∧q0++q1++q2=qE++jS
 | [],pre,r,l0,q0,l1,q1,l2,q2,h0,h1,h2=>by
  cases h2
  exact⟨l0,q0,l1,q1,h0,h1,by simp,by simp⟩
 | p::ps,pre,r,l0,q0,l1,q1,l2,q2,h0,h1,h2=>by
  obtain⟨a,b,c,d,rfl,rfl,h3,h4⟩:=D3 h2
  obtain⟨qD,qE,jx,jS,g0,g1,e1,e2⟩:=afW h0 h1 h4
  obtain⟨afX,afY,afZ,af0,f0,f1,e3,e4⟩:=Pg ps _ _ qD qE jx jS b d g0 g1 h3
  refine⟨afX,afY,afZ,af0,f0,f1, ?_, ?_⟩
  ·rw[←e3,←e1];simp
  ·rw[←e4,←e2];simp
theorem D4{ps:List Pt}{l q:List Nat}(h:Run l ps q):Run l (fQ ps) q:=by
 obtain⟨l0,q0,l1,q1,h0,h1,e1,e2⟩:=Pg ps [] ("","",0) [] [] [] [] l q .nil ⟨[],rfl,rfl,rfl⟩ h
 have:=(h0.snoc h1).run
 rw[←e1,←e2] at this
 exact this
def vX:Sp:=fun vs H Q E=> ∃c,vs=[.int c]∧ ∀n,0≤n→n≤400→Q (.int n) H
theorem af1{K:PySem.W.Frag}(vs:List V)(H:Hp)(Q:VK)(E:XK)(h:vX vs H Q E):au (aU K [] [] (E:=E)) CY {nx:=fun _ H'=>Q .aw H',rt:=Q} (start CW vs) H:=by
 obtain⟨c,rfl,q⟩:=h
 refine⟨_,rfl,by show(0:Int) <8;decide,_,rfl, ?_⟩
 refine g8 (fun _=> ?_) (fun _=> ?_)
 ·exact⟨_,rfl,⟨by decide,by decide⟩,by show(0:Int) <401;decide,q _ (Int.emod_nonneg _ (by decide)) (by have:=Int.emod_lt_of_pos (c / 8) (show(0:Int) <401 by decide);omega)⟩
 ·exact⟨_,rfl,⟨by decide,by decide⟩,by show(0:Int) <25;decide,q _ (Int.emod_nonneg _ (by decide)) (by have:=Int.emod_lt_of_pos (c / 8) (show(0:Int) <25 by decide);omega)⟩
theorem af2{x:Str}{a b c:List Nat}(h:x.cps.toList=a++ (b++c))(n:Int)(hn:n=b.length):kU x (some (a.length:Int)) (some ((a.length:Int)+n))=⟨b.toArray⟩:=by
 have e1:(a.length:Int)+n=((a.length+b.length:Nat):Int):=by rw[hn];simp
 unfold kU kT
 rw[e1,HT.jc,HT.jc,h]
 have l1:(a++ (b++c)).length=a.length+ (b.length+c.length):=by simp
 rw[l1]
 have m1:min a.length (a.length+ (b.length+c.length))=a.length:=by omega
 have m2:min (a.length+b.length) (a.length+ (b.length+c.length))=a.length+b.length:=by omega
 rw[m1,m2,List.drop_left,show a.length+b.length - a.length=b.length by omega,List.take_left]
theorem zy(x:Str):(⟨x.cps.toList.toArray⟩:Str)=x:=gL rfl
theorem af3(j:Int)(h0:0≤j)(h1:j<6): ∃n:Int,eQ [V.int 1,V.int 2,V.int 0,V.int 3,V.int 5,V.int 40] j=some (.int n)∧0≤n∧n≤40:=by
 obtain rfl | rfl | rfl | rfl | rfl | rfl:j=0∨j=1∨j=2∨j=3∨j=4∨j=5:=by omega
 all_goals exact⟨_,rfl,by decide,by decide⟩
theorem D5(a b:List Pt):aG (a++b)=aG a+aG b:=by simp[aG]
abbrev af4:List (Str×Sp):=[("_law_mixed",lO),("_law_text",qy)]
def zz:Sp:=fun vs H Q E=> ∃(c:Int) (x:Str) (m:Int),vs=[.int c, .str x, .int m]∧good x∧x.length≤10000∧0≤m∧m≤100∧
 ∀b H' ys ps q,ax H H'→H b=none→H' b=some (.lst ys)→aQ H' ys ps→(∀p∈ps,d9 p)→ps.length≤101→aG ps≤4000→Run x.cps.toList ps q→Q (.ref b) H'
theorem af5{K:PySem.W.Frag}(vs:List V)(H:Hp)(Q:VK)(E:XK)(h:zz vs H Q E):au (aU K af4 [] (E:=E)) C0 {nx:=fun _ H'=>Q .aw H',rt:=Q} (start CZ vs) H:=by
 obtain⟨c,x,m,rfl,hx,j4,zA,D6,k⟩:=h
 refine⟨Nat.zero_le _,fun b hb=> ?_⟩
 refine⟨_,rfl,m,rfl,by omega,by omega,xO (lo:=0) (n:=m.toNat) (fun i σ H2=> ∃u v w z ys ps l1 l2 q,σ=[some (.int c),some (.str x),some (.int m),some (.ref b),some (.int ((l1.length:Nat):Int)),u,v,w,z]∧ax H H2∧H2 b=some (.lst ys)∧aQ H2 ys ps∧ps.length=i∧(∀p∈ps,d9 p)∧
   aG ps≤40*i∧x.cps.toList=l1++l2∧Run l1 ps q)
  ⟨none,none,none,none,[],[],[],x.cps.toList,[],rfl,sameNew hb,av, .nil,rfl,(fun p hp=>by cases hp),Nat.le_refl _,rfl, .nil⟩ ?_ ?_⟩
 ·rintro i σ H2 hi ⟨u,v,w,z,ys,ps,l1,l2,q,rfl,s2,vY,cv,hl,aB,ht,ex,gM⟩
  have hlen:=Paired.length cv
  have hxx:x.length=l1.length+l2.length:=by rw[len_list,ex];simp
  refine⟨_,rfl,_,rfl,c,_,rfl, ?_⟩
  generalize mixed c (50+ (0+ (i:Int)))=nm
  refine⟨(by show 6≤sizeLine;decide),fun t1 fS=> ?_⟩
  have j0:0≤nm / 4 % 6:=Int.emod_nonneg _ (by decide)
  have j1:nm / 4 % 6<6:=Int.emod_lt_of_pos _ (by decide)
  obtain⟨n5,e5,n50,n51⟩:=af3 (nm / 4 % 6) j0 j1
  refine⟨_,rfl,⟨by decide,by decide⟩,(by show(0:Int) <6;decide), .inl ⟨_,_,_,_,rfl,rfl,ao.of av,e5, ?_⟩⟩
  have s3:ax H (upd H2 t1 (.lst [.int 1, .int 2, .int 0, .int 3, .int 5, .int 40])):=s2.trans (sameNew fS)
  have qG:upd H2 t1 (.lst [.int 1, .int 2, .int 0, .int 3, .int 5, .int 40]) b=some (.lst ys):=by rw[aD (aW vY fS)];exact vY
  have sL:=cv.mono (aM (sameNew (o:= .lst [.int 1, .int 2, .int 0, .int 3, .int 5, .int 40]) fS))
  generalize upd H2 t1 (.lst [.int 1, .int 2, .int 0, .int 3, .int 5, .int 40])=H3 at s3 qG sL
  refine⟨_,rfl,_,rfl,cz (by omega),_,rfl,trivial, ?_⟩
  obtain⟨lf,Ph⟩: ∃lf,lf=(if (x.length:Int) - (l1.length:Int) <n5 then (x.length:Int) - (l1.length:Int) else n5):=⟨_,rfl⟩
  have lf0:0≤lf∧lf≤40∧lf≤ (l2.length:Int):=by
   rw[Ph];split<;>omega
  show au _ _ _ [some (V.int c),some (V.str x),some (V.int m),some (V.ref b),some (V.int ((l1.length:Nat):Int)),some (V.int (0+ (i:Int))),some (V.int nm),some (V.int n5),some (V.int (if (x.length:Int) - (l1.length:Int) <n5 then (x.length:Int) - (l1.length:Int) else n5))] H3
  rw[←Ph]
  obtain⟨la,lb,e2,D7⟩: ∃la lb,l2=la++lb∧lf=(la.length:Int):=⟨l2.take lf.toNat,l2.drop lf.toNat,(List.take_append_drop _ _).symm,by rw[List.length_take];omega⟩
  have app: ∀(p:Pt) (H4:Hp),ax H H4→H4 b=some (.lst ys)→aQ H4 ys ps→ ∀t,H4 t=none→
    upd H4 t (.tup [.str p.word,p.val]) b=some (.lst ys)∧ys.length<sizeLine∧
     ax H (upd (upd H4 t (.tup [.str p.word,p.val])) b (.lst (ys++ [.ref t])))∧aQ (upd (upd H4 t (.tup [.str p.word,p.val])) b (.lst (ys++ [.ref t]))) (ys++ [.ref t]) (ps++ [p]):=by
   intro p H4 s4 D8 af9 t ht
   have zB:b≠t:=aW D8 ht
   refine⟨(by rw[aD zB];exact D8),cY (by omega),qu s4 hb (sameBut (sameNew ht) cn.upd), ?_⟩
   refine aQ.snoc (af9.mono ((sameBut (sameNew ht) cn.upd).dw D8)) ⟨t,rfl, ?_⟩
   rw[aD zB.symm,av]
  have Pj: ∀p,d9 p→ ∀q∈ps++ [p],d9 q:=by
   intro p hp q hq
   rcases List.mem_append.mp hq with z | z
   ·exact aB q z
   ·rw[List.mem_singleton.mp z];exact hp
  have sgl: ∀c∈la,SG.cps.contains c=true:=fun c hc=>hx.2 c (by rw[ex,e2];simp[hc])
  refine⟨_,rfl,(by show(0:Int) <4;decide),_,rfl, ?_⟩
  refine g8 (fun h=> ?_) (fun h=> ?_)
  ·have h3:nm % 4=3:=by
    have:=of_decide_eq_true (show decide (V.int (nm % 4)=V.int 3)=true from by rw[←Bool.false_xor (decide _)];exact h)
    injection this
   refine⟨_,rfl, .inl ⟨rfl,_,ao.of qG⟩,_,rfl,_,rfl,nm,n5,rfl,n50,by omega,fun y H5 gy ly s5=> ⟨(by show 2≤sizeLine;decide),fun t nB=> ?_⟩⟩
   obtain⟨a1,a2,a3,a4⟩:=app (.put y) H5 (s3.trans s5) (s5 _ _ qG) (sL.mono (aM s5)) t nB
   refine⟨ys,a1,a2, ?_⟩
   refine⟨_,rfl,(by show(0:Int) <4;decide),trivial,_,rfl,iF ?_ (decide_eq_false (by omega))⟩
   have hr:=gM.app (Run.put (s:=y) Run.nil)
   rw[List.append_nil,List.append_nil] at hr
   refine⟨_,_,_,_,ys++ [V.ref t],ps++ [Pt.put y],l1,l2,_,rfl,a3,av,a4,by simp[hl],Pj _ ⟨gy,by omega⟩, ?_,ex,hr⟩
   rw[D5]
   show aG ps+ (y.length+0)≤_
   omega
  ·have h3:nm % 4≠3:=fun z=>h (by show(false ^^ decide (V.int (nm % 4)=V.int 3))=true;rw[z];rfl)
   have h4:nm % 4<3:=by have:=Int.emod_lt_of_pos nm (show(0:Int) <4 by decide);omega
   have fin: ∀(p:Pt) (H5:Hp) (fm:List V) (q':List Nat),ax H H5→H5 b=some (.lst fm)→aQ H5 fm (ps++ [p])→d9 p→cQ p≤40→Run (l1++la) (ps++ [p]) q'→
     ∃u v w z ys ps jx l2 q,[some (V.int c),some (V.str x),some (V.int m),some (V.ref b),some (V.int ((l1.length:Int)+lf)),some (V.int (0+ (i:Int))),some (V.int nm),some (V.int n5),some (V.int lf)]=
      [some (.int c),some (.str x),some (.int m),some (.ref b),some (.int ((jx.length:Nat):Int)),u,v,w,z]∧ax H H5∧H5 b=some (.lst ys)∧aQ H5 ys ps∧ps.length=i+1∧(∀p∈ps,d9 p)∧
      aG ps≤40* (i+1)∧x.cps.toList=jx++l2∧Run jx ps q:=by
    intro p H5 fm q' s5 h5 hp5 rp tp hr
    refine⟨some (.int (0+ (i:Int))),some (.int nm),some (.int n5),some (.int lf),fm,ps++ [p],l1++la,lb,q', ?_,s5,h5,hp5,by simp[hl],Pj p rp, ?_,by rw[ex,e2];simp,hr⟩
    ·rw[List.length_append,D7,Int.natCast_add]
    ·rw[D5]
     have:aG [p]=cQ p:=by simp[aG]
     omega
   refine⟨_,rfl,(by show(0:Int) <4;decide),_,rfl, ?_⟩
   refine g8 (fun h5=> ?_) (fun h5=> ?_)
   ·refine⟨_,rfl, .inl ⟨rfl,_,ao.of qG⟩,_,rfl,_,rfl,_,rfl,_,rfl,_,rfl,_,rfl,cz (by omega), ?_⟩
    rw[af2 (by rw[ex,e2]) lf D7]
    refine⟨(by show 2≤sizeLine;decide),fun t nB=> ?_⟩
    obtain⟨a1,a2,a3,a4⟩:=app (.cut ⟨la.toArray⟩) H3 s3 qG sL t nB
    refine⟨ys,a1,a2, ?_⟩
    refine⟨_,rfl,(by show(0:Int) <4;decide),trivial,_,rfl,iT ?_ (decide_eq_true h4)⟩
    refine⟨_,rfl,_,rfl, ?_⟩
    have hr:=gM.app (Run.cut (s:=⟨la.toArray⟩) Run.nil)
    rw[List.append_nil] at hr
    have ll:(⟨la.toArray⟩:Str).length=la.length:=by rw[len_list]
    exact fin (.cut ⟨la.toArray⟩) _ _ _ a3 av a4 ⟨⟨by rw[ll];omega,sgl⟩,by rw[ll];omega⟩ (by show(⟨la.toArray⟩:Str).length≤40;rw[ll];omega) hr
   ·refine⟨_,rfl, .inl ⟨rfl,_,ao.of qG⟩,_,rfl,(by show 2≤sizeLine;decide),fun t nB=> ?_⟩
    obtain⟨a1,a2,a3,a4⟩:=app (.keep lf) H3 s3 qG sL t nB
    refine⟨ys,a1,a2, ?_⟩
    refine⟨_,rfl,(by show(0:Int) <4;decide),trivial,_,rfl,iT ?_ (decide_eq_true h4)⟩
    refine⟨_,rfl,_,rfl, ?_⟩
    have hr:=gM.app (Run.keep (a:=la) D7 Run.nil)
    rw[List.append_nil] at hr
    exact fin (.keep lf) _ _ _ a3 av a4 lf0.1 (by show 0≤40;decide) hr
 ·rintro σ H2 ⟨u,v,w,z,ys,ps,l1,l2,q,rfl,s2,vY,cv,hl,aB,ht,ex,gM⟩
  have hlen:=Paired.length cv
  have hxx:x.length=l1.length+l2.length:=by rw[len_list,ex];simp
  refine⟨_,rfl,_,rfl,cz (by omega),_,rfl,trivial,(by show 2≤sizeLine;decide),fun t nB=> ⟨(by show 1≤sizeLine;decide),fun d hd=> ?_⟩⟩
  have zB:b≠t:=aW vY nB
  have nC:upd H2 t (.tup [.str "keep", .int ((x.length:Int) - (l1.length:Int))]) b=some (.lst ys):=by rw[aD zB];exact vY
  have vq:b≠d:=aW nC hd
  have Pk:t≠d:=fun z=>by rw[←z,av] at hd;cases hd
  have s4:ax H2 (upd (upd H2 t (.tup [.str "keep", .int ((x.length:Int) - (l1.length:Int))])) d (.lst [.ref t])):=(sameNew nB).trans (sameNew hd)
  refine .inl ⟨b,d,ys,[.ref t],rfl,rfl,(by rw[aD vq];exact nC),av,cz (by simp;omega),fun e he=> ?_⟩
  have s5:=s4.trans (sameNew (o:= .lst (ys++ [.ref t])) he)
  have he2:H2 e=none:=s4.free he
  have hr:=gM.app (Run.keep (a:=l2) (n:=(x.length:Int) - (l1.length:Int)) (by omega) Run.nil)
  rw[List.append_nil,←ex] at hr
  have hte:t≠e:=fun z=>by rw[←z,aD Pk,av] at he;cases he
  refine k e _ (ys++ [.ref t]) (ps++ [.keep ((x.length:Int) - (l1.length:Int))]) _ (s2.trans s5) (s2.free he2) av (aQ.snoc (cv.mono (aM s5)) ⟨t,rfl, ?_⟩) ?_ (by simp;omega) ?_ hr
  ·rw[aD hte,aD Pk,av];rfl
  ·intro p hp
   rcases List.mem_append.mp hp with z | z
   ·exact aB p z
   ·rw[List.mem_singleton.mp z]
    show(0:Int)≤_
    omega
  ·rw[D5]
   show aG ps+ (0+0)≤4000
   omega
abbrev agd:List (Str×Sp):=[("_law_neat",qz),("_law_parts",zz)]
def nE:Sp:=fun vs H Q E=> ∃(c:Int) (x:Str) (m:Int),vs=[.int c, .str x, .int m]∧good x∧x.length≤10000∧0≤m∧m≤100∧
 ∀b H' ys ps q,ax H H'→H b=none→H' b=some (.lst ys)→aQ H' ys ps→(∀p∈ps,bp p)→chainOk "" ps=true→ps.length≤305→aG ps≤4000→Run x.cps.toList ps q→Q (.ref b) H'
theorem D9(ps:List Pt)(h: ∀p∈ps,d9 p):aG (fQ ps)=aG ps:=by
 have I:=afR ps h
 have e:fQ ps=cJ ((ps.foldl bu ([],((Str.ofString "",Str.ofString "",0):Row))).1++ [(ps.foldl bu ([],((Str.ofString "",Str.ofString "",0):Row))).2]):=rfl
 rw[e,DV,I.aG]
theorem age{K:PySem.W.Frag}(vs:List V)(H:Hp)(Q:VK)(E:XK)(h:nE vs H Q E):au (aU K agd [] (E:=E)) C3 {nx:=fun _ H'=>Q .aw H',rt:=Q} (start C2 vs) H:=by
 obtain⟨c,x,m,rfl,hx,j4,zA,D6,k⟩:=h
 refine⟨_,rfl,_,rfl,_,rfl,c,x,m,rfl,hx,j4,zA,D6,fun b H1 ys ps q s1 fb h1 hp hr hl ht gM=> ?_⟩
 refine⟨b,ys,ps,rfl,h1,hp,by omega,by omega,fun d H2 zs s2 fd h2 hz=> ?_⟩
 obtain⟨g1,g2,_⟩:=DW ps hr (by omega)
 have je:=DX ps
 rw[DS ps hr] at je
 exact k d H2 zs (fQ ps) q (s1.trans s2) (s1.free fd) h2 hz g2 g1 (by omega) (by rw[D9 ps hr];exact ht) (D4 gM)
end L2.B
namespace L2
open PySem PySem.Spec PyProof.Rows
section
variable {Γ:aJ} {D:Ends} {σ:St} {H:Hp} {r:List RS} {Q:VK} {QA:List V→Hp→Prop} {QT:Bool→Hp→Prop}
theorem aC{i:Nat}{v:V}(h:σ[i]?=some (some v))(q:Q v H):ag Γ (.v i) σ H Q:=⟨_,h,q⟩
theorem aX{v:V}(q:Q v H):ag Γ (.c v) σ H Q:=q
theorem Pl{j:Nat}(q:Q (Γ.gv j) H):ag Γ (.g j) σ H Q:=q
theorem fU{op:Operator}{a b:RE}(h:ag Γ a σ H fun x H1=>ag Γ b σ H1 fun y H2=>r9 Γ.K op x y H2 Q):ag Γ (.bin op a b) σ H Q:=h
theorem vZ{op:CmpOp}{a b:RE}(h:ag Γ a σ H fun x H1=>ag Γ b σ H1 fun y H2=>dr Γ.K op x y H2 Q):ag Γ (.cmp op a b) σ H Q:=h
theorem dE{a b:RE}(h:ag Γ a σ H fun x H1=>ag Γ b σ H1 fun y H2=>o6 Γ.K Γ.sd x y H2 Q):ag Γ (.ix a b) σ H Q:=h
theorem agf{j:Nat}{as:List RE}(h:bH Γ as σ H fun vs H1=>Γ.fs j (vs++ []) H1 Q Γ.E):ag Γ (.call j as) σ H Q:=h
theorem bN{j:Nat}{as:List RE}(sp:Sp)(hs:Γ.fs j=sp)(h:bH Γ as σ H fun vs H1=>sp vs H1 Q Γ.E):ag Γ (.call j as) σ H Q:=by
 subst hs
 refine agf ?_
 have e:(fun(vs:List V) (H1:Hp)=>Γ.fs j (vs++ []) H1 Q Γ.E)=fun vs H1=>Γ.fs j vs H1 Q Γ.E:=by
  funext vs H1;rw[List.append_nil]
 rw[e];exact h
theorem j5{b:kW}{as:List RE}(h:bH Γ as σ H fun vs H1=>oZ Γ.K b vs H1 Q):ag Γ (.blt b as) σ H Q:=h
theorem iq{as:List RE}(h:bH Γ as σ H fun xs H1=>xs.length≤sizeLine∧ ∀p,H1 p=none→Q (.ref p) (upd H1 p (.tup xs))):ag Γ (.tup as) σ H Q:=h
theorem gN{as:List RE}(h:bH Γ as σ H fun xs H1=>xs.length≤sizeLine∧ ∀p,H1 p=none→Q (.ref p) (upd H1 p (.lst xs))):ag Γ (.lst as) σ H Q:=h
theorem agg{a c:RE}(h:ag Γ a σ H fun x H1=>ag Γ c σ H1 fun y H2=>jO Γ.K [x,y] H2 Q):ag Γ (.da a c) σ H Q:=h
theorem Pm{a c:RE}(h:ag Γ a σ H fun x H1=>ag Γ c σ H1 fun y H2=>jO Γ.K [x,y] H2 fun z H3=>jP Γ.K z H3 fun b=>QT b H3):bq Γ (.da a c) σ H QT:=h
theorem aR(q:QA [] H):bH Γ [] σ H QA:=q
theorem ar{a:RE}{as:List RE}(h:ag Γ a σ H fun x H1=>bH Γ as σ H1 fun xs H2=>QA (x::xs) H2):bH Γ (a::as) σ H QA:=h
theorem bU{i:Nat}{e:RE}(h:ag Γ e σ H fun x H1=>au Γ r D (σ.set i (some x)) H1):au Γ (.asg i e::r) D σ H:=h
theorem ir{e:RE}(h:ag Γ e σ H fun _ H1=>au Γ r D σ H1):au Γ (.drop e::r) D σ H:=h
theorem j6{e:RE}(h:ag Γ e σ H D.rt):au Γ (.ret e::r) D σ H:=h
end
section
variable {Γ:aJ} {D:Ends} {σ:St} {H:Hp} {r:List RS} {Q:VK} {QA:List V→Hp→Prop} {QT:Bool→Hp→Prop}
theorem D_{K:PySem.W.Frag}{b:Bool}{QB:Bool→Prop}(h:QB b):jP K (.bl b) H QB:=h
theorem zC{a:RE}(h:bq Γ a σ H fun b H1=>QT (!b) H1):bq Γ (.not a) σ H QT:=h
theorem Ea{j:Nat}{as:List RE}(sp:Sp)(hs:Γ.fs j=sp)(h:bH Γ as σ H fun vs H1=>sp vs H1 (fun x H2=>jP Γ.K x H2 fun b=>QT b H2) Γ.E):bq Γ (.call j as) σ H QT:=by
 subst hs
 show bH Γ as σ H fun vs H1=>Γ.fs j (vs++ []) H1 (fun x H2=>jP Γ.K x H2 fun b=>QT b H2) Γ.E
 have e:(fun(vs:List V) (H1:Hp)=>Γ.fs j (vs++ []) H1 (fun x H2=>jP Γ.K x H2 fun b=>QT b H2) Γ.E)=fun vs H1=>Γ.fs j vs H1 (fun x H2=>jP Γ.K x H2 fun b=>QT b H2) Γ.E:=by
  funext vs H1;rw[List.append_nil]
 rw[e];exact h
theorem Pn{a b:RE}(h:bq Γ a σ H fun c H1=>if c=true then QT true H1 else bq Γ b σ H1 QT):bq Γ (.or [a,b]) σ H QT:=h
theorem agh{a b:RE}(h:bq Γ a σ H fun c H1=>if c=true then bq Γ b σ H1 QT else QT false H1):bq Γ (.and [a,b]) σ H QT:=h
end
end L2
namespace L2.B
open PySem PySem.Spec PyProof.Rows
theorem agi{K:PySem.W.Frag}{σ:St}{H:Hp}{QQ:List V→Hp→Addr→Prop}{te:TE}{fv:List (Str×Nat)}{a:Addr}{xs:List V}(ha:H a=some (.lst xs))(hl:xs.length≤1000000)(P:Nat→List V→Hp→Prop)(p0:P 0 [] H)
  (step: ∀i x ys H2,xs[i]?=some x→ax H H2→P i ys H2→ ∀Q':VK,(∀y H3,ax H2 H3→P (i+1) (ys++ [y]) H3→Q' y H3)→te (some x::cX σ fv) H2 Q')
  (fin: ∀ys H2 p,ax H H2→P xs.length ys H2→H2 p=none→QQ ys H2 p): ∃W:Nat→Nat→List V→Hp→Prop,(∃m,W 0 m [] H)∧ ∀i m ys H2,W i m ys H2→
   ((iL K a).stop i H2∧ ∀p,H2 p=none→QQ ys H2 p)∨
   ((iL K a).go i H2∧ ∀x H3,(iL K a).i6 i H2 x H3→oK K none x H3 fun zs=>oN none (zs.map some++cX σ fv) H3 fun b H5=>
    if b=true then te (zs.map some++cX σ fv) H5 fun y H6=>ys.length<sizeLine∧ ∃m',m'<m∧W (i+1) m' (ys++ [y]) H6 else ∃m',m'<m∧W (i+1) m' ys H5):=by
 refine⟨fun i m ys H2=>m=xs.length - i∧i≤xs.length∧ys.length=i∧ax H H2∧P i ys H2,⟨_,rfl,Nat.zero_le _,rfl,ax.refl _,p0⟩, ?_⟩
 rintro i m ys H2 ⟨rfl,hi,hy,s,p⟩
 by_cases aP:i<xs.length
 ·refine .inr ⟨⟨xs,xs[i],ao.of (s _ _ ha),by simp[aP]⟩, ?_⟩
  rintro x H3 ⟨rfl,hx⟩
  have jh:=hx xs (ao.of (s _ _ ha))
  exact step i x ys _ jh s p _ fun y H4 s4 p4=> ⟨cY (by omega),xs.length - (i+1),by omega,rfl,aP,by simp[hy],s.trans s4,p4⟩
 ·have dB:i=xs.length:=by omega
  subst dB
  exact .inl ⟨⟨xs,ao.of (s _ _ ha),Nat.le_refl _⟩,fun q hq=>fin ys _ q s p hq⟩
theorem Eb{K:PySem.W.Frag}{σ:St}{H:Hp}{QQ:List V→Hp→Addr→Prop}{te:TE}{fv:List (Str×Nat)}{lo:Int}{n:Nat}(hl:n≤1000000)(P:Nat→List V→Hp→Prop)(p0:P 0 [] H)
  (step: ∀i ys H2,i<n→ax H H2→P i ys H2→ ∀Q':VK,(∀y H3,ax H2 H3→P (i+1) (ys++ [y]) H3→Q' y H3)→te (some (.int (lo+i))::cX σ fv) H2 Q')
  (fin: ∀ys H2 p,ax H H2→P n ys H2→H2 p=none→QQ ys H2 p): ∃W:Nat→Nat→List V→Hp→Prop,(∃m,W 0 m [] H)∧ ∀i m ys H2,W i m ys H2→
   ((jJ lo n).stop i H2∧ ∀p,H2 p=none→QQ ys H2 p)∨
   ((jJ lo n).go i H2∧ ∀x H3,(jJ lo n).i6 i H2 x H3→oK K none x H3 fun zs=>oN none (zs.map some++cX σ fv) H3 fun b H5=>
    if b=true then te (zs.map some++cX σ fv) H5 fun y H6=>ys.length<sizeLine∧ ∃m',m'<m∧W (i+1) m' (ys++ [y]) H6 else ∃m',m'<m∧W (i+1) m' ys H5):=by
 refine⟨fun i m ys H2=>m=n - i∧i≤n∧ys.length=i∧ax H H2∧P i ys H2,⟨_,rfl,Nat.zero_le _,rfl,ax.refl _,p0⟩, ?_⟩
 rintro i m ys H2 ⟨rfl,hi,hy,s,p⟩
 by_cases aP:i<n
 ·refine .inr ⟨aP, ?_⟩
  rintro x H3 ⟨rfl,rfl⟩
  exact step i ys _ aP s p _ fun y H4 s4 p4=> ⟨cY (by omega),n - (i+1),by omega,rfl,aP,by simp[hy],s.trans s4,p4⟩
 ·have dB:i=n:=by omega
  subst dB
  exact .inl ⟨Nat.le_refl _,fun q hq=>fin ys _ q s p hq⟩
end L2.B
namespace L2.B
inductive At where | K | P (c:Nat) | C (c:Nat)
 deriving DecidableEq
abbrev Form:=List Nat×List Nat×List (List Nat×List Nat)
def nb:List At→Form
 | []=> ([],[],[])
 | .P c::xs=> (c::(nb xs).1,(nb xs).2.1,(nb xs).2.2)
 | .C c::xs=> ((nb xs).1,c::(nb xs).2.1,(nb xs).2.2)
 | .K::xs=> ([],[],((nb xs).1,(nb xs).2.1)::(nb xs).2.2)
def fit:List Nat→List At→Prop
 | l,[]=>l=[]
 | l, .P _::xs=>fit l xs
 | [], .K::_=>False
 | _::l, .K::xs=>fit l xs
 | [], .C _::_=>False
 | a::l, .C c::xs=>a=c∧fit l xs
abbrev Sg:=Sum Nat Nat
def res(i:Nat):List At→List Sg
 | []=> []
 | .P c::xs=> .inr c::res i xs
 | .K::xs=> .inl i::res (i+1) xs
 | .C _::xs=>res (i+1) xs
theorem zD: ∀(xs:List At) (i j:Nat),Sum.inl j∈res i xs→i≤j
 | [],i,j,h=>by cases h
 | .P c::xs,i,j,h=>by
  rcases List.mem_cons.mp h with z | z
  ·cases z
  ·exact zD xs i j z
 | .K::xs,i,j,h=>by
  rcases List.mem_cons.mp h with z | z
  ·cases z;exact Nat.le_refl _
  ·have:=zD xs (i+1) j z;omega
 | .C c::xs,i,j,h=>by have:=zD xs (i+1) j h;omega
def unres(i:Nat)(l:List Nat):List Sg→Form
 | []=> ([],l,[])
 | .inr c::r=> (c::(unres i l r).1,(unres i l r).2.1,(unres i l r).2.2)
 | .inl j::r=> ([],l.take (j - i),((unres (j+1) (l.drop (j+1 - i)) r).1,(unres (j+1) (l.drop (j+1 - i)) r).2.1)::(unres (j+1) (l.drop (j+1 - i)) r).2.2)
theorem Po(c:Nat)(l:List Nat)(i:Nat): ∀r:List Sg,(∀j,Sum.inl j∈r→i+1≤j)→unres i (c::l) r=((unres (i+1) l r).1,c::(unres (i+1) l r).2.1,(unres (i+1) l r).2.2)
 | [],_=>rfl
 | .inr d::r,h=>by
  have ih:=Po c l i r fun j hj=>h j (.tail _ hj)
  simp only[unres,ih]
 | .inl j::r,h=>by
  have hj:i+1≤j:=h j (.head _)
  simp only[unres]
  rw[show j - i=(j - (i+1))+1 by omega,List.take_succ_cons,show j+1 - i=(j+1 - (i+1))+1 by omega,List.drop_succ_cons]
theorem v7: ∀(xs:List At) (i:Nat) (l:List Nat),fit l xs→nb xs=unres i l (res i xs)
 | [],i,l,h=>by cases h;rfl
 | .P c::xs,i,l,h=>by
  have ih:=v7 xs i l h
  simp only[nb,res,unres,←ih]
 | .K::xs,i,[],h=>h.elim
 | .K::xs,i,a::l,h=>by
  have ih:=v7 xs (i+1) l h
  simp only[nb,res,unres]
  rw[show i+1 - i=1 by omega,Nat.sub_self]
  simp only[List.drop_succ_cons,List.drop_zero,List.take_zero,←ih]
 | .C c::xs,i,[],h=>h.elim
 | .C c::xs,i,a::l,h=>by
  obtain⟨rfl,h⟩:=h
  have ih:=v7 xs (i+1) l h
  simp only[nb,res]
  rw[Po a l i _ fun j hj=>zD xs (i+1) j hj,←ih]
theorem agj{xs ys:List At}{l:List Nat}(hx:fit l xs)(hy:fit l ys)(h:res 0 xs=res 0 ys):nb xs=nb ys:=by
 rw[v7 xs 0 l hx,v7 ys 0 l hy,h]
def out:List Nat→List At→List Nat
 | l,[]=> []
 | l, .P c::xs=>c::out l xs
 | [], .K::xs=>out [] xs
 | a::l, .K::xs=>a::out l xs
 | [], .C _::xs=>out [] xs
 | _::l, .C _::xs=>out l xs
def j7:Nat→List Nat→List Nat→List (List Nat×List Nat)→List Sg
 | i,p,q,[]=>p.map .inr
 | i,p,q,(p',q')::r=>p.map .inr++ .inl (i+q.length)::j7 (i+q.length+1) p' q' r
theorem agk(c:Nat): ∀(r:List (List Nat×List Nat)) (i:Nat) (p q:List Nat),j7 (i+1) p q r=j7 i p (c::q) r
 | [],i,p,q=>rfl
 | (p',q')::r,i,p,q=>by
  simp only[j7,List.length_cons]
  rw[show i+1+q.length=i+ (q.length+1) by omega]
theorem agl(c:Nat): ∀(r:List (List Nat×List Nat)) (i:Nat) (p q:List Nat),j7 i (c::p) q r= .inr c::j7 i p q r
 | [],i,p,q=>rfl
 | (p',q')::r,i,p,q=>rfl
theorem v8: ∀(xs:List At) (i:Nat),res i xs=j7 i (nb xs).1 (nb xs).2.1 (nb xs).2.2
 | [],i=>rfl
 | .P c::xs,i=>by
  show Sum.inr c::res i xs=j7 i (c::(nb xs).1) _ _
  rw[v8 xs i,agl];rfl
 | .C c::xs,i=>by
  show res (i+1) xs=j7 i (nb xs).1 (c::(nb xs).2.1) _
  rw[v8 xs (i+1),agk c];rfl
 | .K::xs,i=>by
  show Sum.inl i::res (i+1) xs=Sum.inl (i+0)::j7 (i+0+1) _ _ _
  rw[v8 xs (i+1)];rfl
theorem zE{xs ys:List At}(h:nb xs=nb ys)(i:Nat):res i xs=res i ys:=by rw[v8,v8,h]
def iu:List Nat→List Nat→List (List Nat×List Nat)→Form→Form
 | p,q,[],F=> (p++F.1,q++F.2.1,F.2.2)
 | p,q,(a,b)::r,F=> (p,q,((iu a b r F).1,(iu a b r F).2.1)::(iu a b r F).2.2)
theorem agm(c:Nat)(p q:List Nat)(r:List (List Nat×List Nat))(F:Form):iu (c::p) q r F=(c::(iu p q r F).1,(iu p q r F).2.1,(iu p q r F).2.2):=by
 cases r<;>rfl
theorem agn(c:Nat)(p q:List Nat)(r:List (List Nat×List Nat))(F:Form):iu p (c::q) r F=((iu p q r F).1,c::(iu p q r F).2.1,(iu p q r F).2.2):=by
 cases r<;>rfl
theorem lV: ∀(xs ys:List At),nb (xs++ys)=iu (nb xs).1 (nb xs).2.1 (nb xs).2.2 (nb ys)
 | [],ys=>rfl
 | .K::xs,ys=>by
  simp only[List.cons_append,nb,lV xs ys];rfl
 | .P c::xs,ys=>by
  simp only[List.cons_append,nb,lV xs ys,agm]
 | .C c::xs,ys=>by
  simp only[List.cons_append,nb,lV xs ys,agn]
theorem Ec{xs dY ys fm:List At}(h:nb xs=nb dY)(h':nb ys=nb fm):nb (xs++ys)=nb (dY++fm):=by rw[lV,lV,h,h']
theorem Ed: ∀(p:List Nat),nb (p.map .P)=(p,[],[])
 | []=>rfl
 | c::p=>by simp only[List.map_cons,nb,Ed p]
theorem Ee: ∀(p:List Nat),nb (p.map .C)=([],p,[])
 | []=>rfl
 | c::p=>by simp only[List.map_cons,nb,Ee p]
theorem ago(p q:List Nat):nb (q.map .C++p.map .P)=nb (p.map .P++q.map .C):=by
 rw[lV,lV,Ed,Ee]
 simp[iu]
def rK(n:Nat):List At:=List.replicate n .K
theorem agp(n:Nat)(xs:List At):nb (rK (n+1)++xs)=([],[],List.replicate n ([],[])++ ((nb xs).1,(nb xs).2.1)::(nb xs).2.2):=by
 induction n with
 | zero=>rfl
 | succ n ih=>
  have e:rK (n+1+1)++xs= .K::(rK (n+1)++xs):=rfl
  rw[e]
  simp only[nb,ih]
  rfl
theorem Ef: ∀(a l:List Nat) (xs:List At),fit (a++l) (rK a.length++xs)↔fit l xs
 | [],l,xs=>Iff.rfl
 | c::a,l,xs=>Ef a l xs
theorem Eg: ∀(a l:List Nat) (xs:List At),out (a++l) (rK a.length++xs)=a++out l xs
 | [],l,xs=>rfl
 | c::a,l,xs=>by
  show c::out (a++l) (rK a.length++xs)=_
  rw[Eg a l xs];rfl
theorem v_: ∀(s l:List Nat) (xs:List At),fit l (s.map .P++xs)↔fit l xs
 | [],l,xs=>Iff.rfl
 | c::s,l,xs=>v_ s l xs
theorem Eh: ∀(s l:List Nat) (xs:List At),out l (s.map .P++xs)=s++out l xs
 | [],l,xs=>rfl
 | c::s,l,xs=>by
  show c::out l (s.map .P++xs)=_
  rw[Eh s l xs];rfl
theorem Ei: ∀(s l:List Nat) (xs:List At),fit (s++l) (s.map .C++xs)↔fit l xs
 | [],l,xs=>Iff.rfl
 | c::s,l,xs=>by
  show c=c∧fit (s++l) (s.map .C++xs)↔_
  rw[Ei s l xs];simp
theorem Ej: ∀(s l:List Nat) (xs:List At),out (s++l) (s.map .C++xs)=out l xs
 | [],l,xs=>rfl
 | c::s,l,xs=>Ej s l xs
inductive cR:List At→List At→List At→List At→Prop
 | nil:cR [] [] [] []
 | p1 {c xs ys os ts}:cR xs ys os ts→cR (.P c::xs) ys (.P c::os) (.K::ts)
 | p2 {c xs ys os ts}:cR xs ys os ts→cR xs (.P c::ys) (.K::os) (.P c::ts)
 | kk {xs ys os ts}:cR xs ys os ts→cR (.K::xs) (.K::ys) (.K::os) (.K::ts)
 | kc {c xs ys os ts}:cR xs ys os ts→cR (.K::xs) (.C c::ys) os (.C c::ts)
 | ck {c xs ys os ts}:cR xs ys os ts→cR (.C c::xs) (.K::ys) (.C c::os) ts
 | cc {c xs ys os ts}:cR xs ys os ts→cR (.C c::xs) (.C c::ys) os ts
theorem cR.fits{xs ys os ts:List At}(h:cR xs ys os ts): ∀l,fit l xs→fit l ys→fit (out l xs) ts∧fit (out l ys) os∧out (out l xs) ts=out (out l ys) os:=by
 induction h with
 | nil=>intro l h1 h2;cases h1;exact⟨rfl,rfl,rfl⟩
 | @p1 c xs ys os ts _ ih=>
  intro l h1 h2
  obtain⟨a,b,d⟩:=ih l h1 h2
  exact⟨a,b,by show c::_=c::_;rw[d]⟩
 | @p2 c xs ys os ts _ ih=>
  intro l h1 h2
  obtain⟨a,b,d⟩:=ih l h1 h2
  exact⟨a,b,by show c::_=c::_;rw[d]⟩
 | @kk xs ys os ts _ ih=>
  intro l h1 h2
  cases l with
  | nil=>exact h1.elim
  | cons x l=>
   obtain⟨a,b,d⟩:=ih l h1 h2
   exact⟨a,b,by show x::_=x::_;rw[d]⟩
 | @kc c xs ys os ts _ ih=>
  intro l h1 h2
  cases l with
  | nil=>exact h1.elim
  | cons x l=>
   obtain⟨rfl,h2⟩:=h2
   obtain⟨a,b,d⟩:=ih l h1 h2
   exact⟨⟨rfl,a⟩,b,d⟩
 | @ck c xs ys os ts _ ih=>
  intro l h1 h2
  cases l with
  | nil=>exact h1.elim
  | cons x l=>
   obtain⟨rfl,h1⟩:=h1
   obtain⟨a,b,d⟩:=ih l h1 h2
   exact⟨a,⟨rfl,b⟩,d⟩
 | @cc c xs ys os ts _ ih=>
  intro l h1 h2
  cases l with
  | nil=>exact h1.elim
  | cons x l=>
   obtain⟨rfl,h1⟩:=h1
   obtain⟨_,h2⟩:=h2
   exact ih l h1 h2
end L2.B
namespace L2.B
open PySem PySem.Spec PyProof.Rows
def b_:Pt→List At
 | .keep n=>rK n.toNat
 | .put s=>s.cps.toList.map .P
 | .cut s=>s.cps.toList.map .C
def ak(ps:List Pt):List At:=(ps.map b_).flatten
theorem cZ(p:Pt)(ps:List Pt):ak (p::ps)=b_ p++ak ps:=rfl
theorem gB(ps qs:List Pt):ak (ps++qs)=ak ps++ak qs:=by simp[ak]
theorem gC(p:Pt):ak [p]=b_ p:=by simp[ak]
def eU:Pt→Prop | .keep n=>0≤n | _=>True
theorem agq{p:Pt}(h:d9 p):eU p:=by cases p<;>first | exact h | trivial
theorem sZ{p:Pt}(h:bp p):eU p:=by
 cases p with
 | keep n=>exact Int.le_trans (by decide) (show(1:Int)≤n from h)
 | _=>trivial
theorem Run.fits{l r:List Nat}{ps:List Pt}(h:Run l ps r):fit l (ak ps)∧out l (ak ps)=r:=by
 induction h with
 | nil=>exact⟨rfl,rfl⟩
 | @keep a l r n ps e _ ih=>
  rw[cZ]
  have e1:b_ (.keep n)=rK a.length:=by show rK n.toNat=_;rw[e];simp
  rw[e1]
  exact⟨(Ef a l _).mpr ih.1,by rw[Eg,ih.2]⟩
 | @put s l r ps _ ih=>
  rw[cZ]
  exact⟨(v_ _ l _).mpr ih.1,by show out l (s.cps.toList.map .P++_)=_;rw[Eh,ih.2]⟩
 | @cut s l r ps _ ih=>
  rw[cZ]
  exact⟨(Ei _ l _).mpr ih.1,by show out _ (s.cps.toList.map .C++_)=_;rw[Ej,ih.2]⟩
theorem Pp: ∀(n:Nat) (l:List Nat) (xs:List At),fit l (rK n++xs)→ ∃a b,l=a++b∧a.length=n
 | 0,l,xs,h=> ⟨[],l,rfl,rfl⟩
 | n+1,[],xs,h=> (show False from h).elim
 | n+1,c::l,xs,h=>by
  obtain⟨a,b,e,hl⟩:=Pp n l xs h
  exact⟨c::a,b,by rw[e];rfl,by simp[hl]⟩
theorem Ek: ∀(s l:List Nat) (xs:List At),fit l (s.map .C++xs)→ ∃b,l=s++b
 | [],l,xs,h=> ⟨l,rfl⟩
 | c::s,[],xs,h=> (show False from h).elim
 | c::s,d::l,xs,h=>by
  obtain⟨e,h⟩:=(show d=c∧fit l (s.map .C++xs) from h)
  obtain⟨b,e2⟩:=Ek s l xs h
  exact⟨b,by rw[e,e2];rfl⟩
theorem s_: ∀(ps:List Pt) (l:List Nat),(∀p∈ps,eU p)→fit l (ak ps)→Run l ps (out l (ak ps))
 | [],l,_,h=>by
  have:l=[]:=h
  subst this;exact .nil
 | .keep n::ps,l,hn,h=>by
  rw[cZ] at h⊢
  obtain⟨a,b,rfl,ha⟩:=Pp _ _ _ h
  have sQ:0≤n:=hn _ (.head _)
  have e1:b_ (.keep n)=rK a.length:=by show rK n.toNat=_;rw[ha]
  rw[e1] at h⊢
  rw[Eg]
  exact .keep (by omega) (s_ ps b (fun p hp=>hn p (.tail _ hp)) ((Ef a b _).mp h))
 | .put s::ps,l,hn,h=>by
  rw[cZ] at h⊢
  show Run l _ (out l (s.cps.toList.map .P++_))
  rw[Eh]
  exact .put (s_ ps l (fun p hp=>hn p (.tail _ hp)) ((v_ _ l _).mp h))
 | .cut s::ps,l,hn,h=>by
  rw[cZ] at h⊢
  obtain⟨b,rfl⟩:=Ek _ _ _ h
  show Run _ _ (out _ (s.cps.toList.map .C++_))
  rw[Ej]
  exact .cut (s_ ps b (fun p hp=>hn p (.tail _ hp)) ((Ei _ b _).mp h))
def jy(s:NS):List At:=ak s.1++ ((cat s.2.1).cps.toList.map .P++ (cat s.2.2).cps.toList.map .C)
theorem Pq(mk:Str→Pt)(f:Nat→At)(h: ∀s,b_ (mk s)=s.cps.toList.map f)(x:Str):ak (txt mk x)=x.cps.toList.map f:=by
 by_cases hx:x=""
 ·rw[hx,txt_nil];rfl
 ·rw[iV hx,gC,h]
theorem Pr(ch:List Pt)(p c:List Str):ak (dm ch p c)=jy (ch,p,c):=by
 unfold dm jy
 rw[gB,gB,Pq .put .P (fun _=>rfl),Pq .cut .C (fun _=>rfl),List.append_assoc]
theorem Pu(m n:Nat):rK m++rK n=rK (m+n):=by unfold rK;rw[List.replicate_append_replicate]
theorem agr(ch:List Pt)(n:Int)(hn:0≤n)(h: ∀p∈ch,eU p):ak (dC ch n)=ak ch++rK n.toNat:=by
 unfold dC
 split
 ·rename_i m e
  have hm:Pt.keep m∈ch:=List.mem_of_getLast? e
  have zA:0≤m:=h _ hm
  have ec:ch=ch.dropLast++ [.keep m]:=by
   have bx:ch≠ []:=by intro z;rw[z] at hm;cases hm
   rw[List.getLast?_eq_some_getLast bx] at e
   have e':=Option.some.inj e
   rw[←e',List.dropLast_concat_getLast]
  conv=>rhs;rw[ec]
  rw[gB,gB,gC,gC,List.append_assoc]
  show _++rK (n+m).toNat=_++ (rK m.toNat++rK n.toNat)
  rw[Pu,show(n+m).toNat=m.toNat+n.toNat by omega]
 ·rw[gB,gC];rfl
theorem Pw{mk:Str→Pt}(h: ∀s,eU (mk s))(x:Str): ∀p∈txt mk x,eU p:=by
 intro p hp
 unfold txt at hp
 split at hp
 ·cases hp
 ·rw[List.mem_singleton.mp hp];exact h x
theorem Px{ch:List Pt}(p c:List Str)(h: ∀p∈ch,eU p): ∀q∈dm ch p c,eU q:=by
 intro q hq
 unfold dm at hq
 rcases List.mem_append.mp hq with z | z
 ·rcases List.mem_append.mp z with z | z
  ·exact h q z
  ·exact Pw (mk:= .put) (fun _=>trivial) _ q z
 ·exact Pw (mk:= .cut) (fun _=>trivial) _ q z
theorem ags{ch:List Pt}{n:Int}(hn:0≤n)(h: ∀p∈ch,eU p): ∀q∈dC ch n,eU q:=by
 intro q hq
 unfold dC at hq
 split at hq
 ·rename_i m e
  rcases List.mem_append.mp hq with z | z
  ·exact h q ((List.dropLast_sublist ch).subset z)
  ·rw[List.mem_singleton.mp z]
   have zA:0≤m:=h _ (List.mem_of_getLast? e)
   show 0≤n+m
   omega
 ·rcases List.mem_append.mp hq with z | z
  ·exact h q z
  ·rw[List.mem_singleton.mp z];exact hn
theorem agt(s:NS)(p:Pt)(hp:eU p)(h: ∀q∈s.1,eU q):nb (jy (c_ s p))=nb (jy s++b_ p)∧ ∀q∈ (c_ s p).1,eU q:=by
 obtain⟨ch,pu,cu⟩:=s
 cases p with
 | put x=>
  refine⟨?_,h⟩
  show nb (ak ch++ ((cat (pu++ [x])).cps.toList.map .P++ (cat cu).cps.toList.map .C))=nb (ak ch++ ((cat pu).cps.toList.map .P++ (cat cu).cps.toList.map .C)++x.cps.toList.map .P)
  rw[nu,app_list,List.map_append,List.append_assoc,List.append_assoc,List.append_assoc]
  refine Ec rfl (Ec rfl ?_)
  exact(ago _ _).symm
 | cut x=>
  refine⟨?_,h⟩
  show nb (ak ch++ ((cat pu).cps.toList.map .P++ (cat (cu++ [x])).cps.toList.map .C))=nb (ak ch++ ((cat pu).cps.toList.map .P++ (cat cu).cps.toList.map .C)++x.cps.toList.map .C)
  rw[nu,app_list,List.map_append,List.append_assoc,List.append_assoc]
 | keep n=>
  have sQ:0≤n:=hp
  by_cases hn:0<n
  ·have e:c_ (ch,pu,cu) (.keep n)=(dC (dm ch pu cu) n,[],[]):=if_pos hn
   rw[e]
   refine⟨?_,ags sQ (Px _ _ h)⟩
   show nb (ak (dC (dm ch pu cu) n)++ [])=nb (jy (ch,pu,cu)++rK n.toNat)
   rw[List.append_nil,agr _ _ sQ (Px _ _ h),Pr]
  ·have e:c_ (ch,pu,cu) (.keep n)=(ch,pu,cu):=if_neg hn
   rw[e]
   refine⟨?_,h⟩
   show _=nb (jy (ch,pu,cu)++rK n.toNat)
   rw[show n.toNat=0 by omega]
   show _=nb (_++ [])
   rw[List.append_nil]
theorem Py: ∀(ps:List Pt) (s:NS),(∀p∈ps,eU p)→(∀q∈s.1,eU q)→nb (jy (ps.foldl c_ s))=nb (jy s++ak ps)
 | [],s,_,_=>by show nb (jy s)=nb (jy s++ []);rw[List.append_nil]
 | p::ps,s,h,hs=>by
  obtain⟨a,b⟩:=agt s p (h p (.head _)) hs
  show nb (jy (ps.foldl c_ (c_ s p)))=_
  rw[Py ps _ (fun q hq=>h q (.tail _ hq)) b,cZ,←List.append_assoc]
  exact Ec a rfl
theorem wa(ps:List Pt)(h: ∀p∈ps,eU p):nb (ak (iS ps))=nb (ak ps):=by
 unfold iS
 have e:=Py ps ([],[],[]) h (fun q hq=>by cases hq)
 generalize ps.foldl c_ ([],[],[])=s at e⊢
 show nb (ak (dm s.1 s.2.1 s.2.2))=_
 rw[Pr]
 exact e
theorem iy{s:Str}(h:s≠""): ∃c r,s.cps.toList=c::r:=by
 cases e:s.cps.toList with
 | nil=>exact absurd (gL (by rw[e];rfl)) h
 | cons c r=>exact⟨c,r,rfl⟩
theorem tj(s:Str)(xs:List At):nb (s.cps.toList.map .P++xs)=(s.cps.toList++ (nb xs).1,(nb xs).2.1,(nb xs).2.2):=by
 rw[lV,Ed];rfl
theorem qH(s:Str)(xs:List At):nb (s.cps.toList.map .C++xs)=((nb xs).1,s.cps.toList++ (nb xs).2.1,(nb xs).2.2):=by
 rw[lV,Ee];rfl
theorem qI{n:Int}(h:1≤n)(xs:List At):nb (rK n.toNat++xs)=([],[],List.replicate (n.toNat - 1) ([],[])++ ((nb xs).1,(nb xs).2.1)::(nb xs).2.2):=by
 obtain⟨m,e⟩: ∃m,n.toNat=m+1:=⟨n.toNat - 1,by omega⟩
 rw[e,agp];rfl
theorem El{w:Str}(h:jr "put" w=true):w≠"put"∧w≠"cut":=by
 refine⟨fun z=> ?_,fun z=> ?_⟩ <;>subst z<;>exact absurd h (by decide)
theorem agu{w:Str}(h:jr "cut" w=true):w≠"cut":=by
 intro z;subst z;exact absurd h (by decide)
theorem Pz{w:Str}(h:jr "keep" w=true):w≠"keep":=by
 intro z;subst z;exact absurd h (by decide)
theorem nF{ps:List Pt}{w:Str}(hc:chainOk w ps=true)(ho: ∀p∈ps,bp p)(hw:w="put"∨w="cut"):(nb (ak ps)).1=[]:=by
 cases ps with
 | nil=>rfl
 | cons p ps=>
  simp only[chainOk,Bool.and_eq_true] at hc
  have hp:=ho p (.head _)
  rw[cZ]
  cases p with
  | keep n=>show(nb (rK n.toNat++_)).1=_;rw[qI hp]
  | put s=>
   obtain⟨a,b⟩:=El hc.1
   rcases hw with z | z
   ·exact absurd z a
   ·exact absurd z b
  | cut s=>
   show(nb (s.cps.toList.map .C++_)).1=_
   rw[qH]
   exact nF hc.2 (fun q hq=>ho q (.tail _ hq)) (.inr rfl)
theorem Em{ps:List Pt}(hc:chainOk "cut" ps=true)(ho: ∀p∈ps,bp p):(nb (ak ps)).2.1=[]:=by
 cases ps with
 | nil=>rfl
 | cons p ps=>
  simp only[chainOk,Bool.and_eq_true] at hc
  have hp:=ho p (.head _)
  rw[cZ]
  cases p with
  | keep n=>show(nb (rK n.toNat++_)).2.1=_;rw[qI hp]
  | put s=>exact absurd rfl (El hc.1).2
  | cut s=>exact absurd rfl (agu hc.1)
theorem PB{ps:List Pt}(hc:chainOk "keep" ps=true)(ho: ∀p∈ps,bp p)(h1:(nb (ak ps)).1=[])(h2:(nb (ak ps)).2.1=[]):ps=[]:=by
 cases ps with
 | nil=>rfl
 | cons p ps=>
  exfalso
  simp only[chainOk,Bool.and_eq_true] at hc
  have hp:=ho p (.head _)
  rw[cZ] at h1 h2
  cases p with
  | keep n=>exact absurd rfl (Pz hc.1)
  | put s=>
   obtain⟨c,r,e⟩:=iy hp.2
   have lW:(nb (s.cps.toList.map .P++ak ps)).1=[]:=h1
   rw[tj,e] at lW
   cases lW
  | cut s=>
   obtain⟨c,r,e⟩:=iy hp.2
   have wb:(nb (s.cps.toList.map .C++ak ps)).2.1=[]:=h2
   rw[qH,e] at wb
   cases wb
theorem PD{a b:List Nat×List Nat}{r s:List (List Nat×List Nat)}: ∀{m n:Nat},List.replicate m (([],[]):List Nat×List Nat)++a::r=List.replicate n ([],[])++b::s→(m=n∧a=b∧r=s)∨(m<n∧a=([],[])∧r≠ [])∨(n<m∧b=([],[])∧s≠ [])
 | 0,0,h=>by
  have h':a::r=b::s:=h
  injection h' with h1 h2
  exact .inl ⟨rfl,h1,h2⟩
 | 0,n+1,h=>by
  have h':a::r=([],[])::(List.replicate n ([],[])++b::s):=h
  injection h' with h1 h2
  exact .inr (.inl ⟨by omega,h1,by rw[h2];simp⟩)
 | m+1,0,h=>by
  have h':([],[])::(List.replicate m ([],[])++a::r)=b::s:=h
  injection h' with h1 h2
  exact .inr (.inr ⟨by omega,h1.symm,by rw[←h2];simp⟩)
 | m+1,n+1,h=>by
  have h':(([],[]):List Nat×List Nat)::(List.replicate m ([],[])++a::r)=([],[])::(List.replicate n ([],[])++b::s):=h
  injection h' with _ h2
  rcases PD h2 with⟨x,y⟩ | ⟨x,y⟩ | ⟨x,y⟩
  ·exact .inl ⟨by omega,y⟩
  ·exact .inr (.inl ⟨by omega,y⟩)
  ·exact .inr (.inr ⟨by omega,y⟩)
theorem PF(q:Pt)(qs:List Pt)(ho: ∀p∈q::qs,bp p)(h:([],[],[])=nb (ak (q::qs))):False:=by
 have hq:=ho q (.head _)
 rw[cZ] at h
 have h0:([],[],[])=nb (b_ q++ak qs):=h
 cases q with
 | keep n=>
  have h1:([],[],[])=nb (rK n.toNat++ak qs):=h0
  rw[qI hq] at h1
  have:=congrArg (fun x=>x.2.2) h1
  simp at this
 | put s=>
  obtain⟨c,r,e⟩:=iy hq.2
  have h1:([],[],[])=nb (s.cps.toList.map .P++ak qs):=h0
  rw[tj,e] at h1
  have:=congrArg (fun x=>x.1) h1
  simp at this
 | cut s=>
  obtain⟨c,r,e⟩:=iy hq.2
  have h1:([],[],[])=nb (s.cps.toList.map .C++ak qs):=h0
  rw[qH,e] at h1
  have:=congrArg (fun x=>x.2.1) h1
  simp at this
theorem PH: ∀(ps qs:List Pt) (w v:Str),chainOk w ps=true→chainOk v qs=true→(∀p∈ps,bp p)→(∀p∈qs,bp p)→nb (ak ps)=nb (ak qs)→ps=qs
 | [],[],_,_,_,_,_,_,_=>rfl
 | [],q::qs,_,_,_,_,_,ho,h=> (PF q qs ho h).elim
 | p::ps,[],_,_,_,_,ho,_,h=> (PF p ps ho h.symm).elim
 | p::ps,q::qs,w,v,hw,hv,ho,dR,h=>by
  simp only[chainOk,Bool.and_eq_true] at hw hv
  have hp:=ho p (.head _)
  have hq:=dR q (.head _)
  have oT: ∀x∈ps,bp x:=fun x hx=>ho x (.tail _ hx)
  have lX: ∀x∈qs,bp x:=fun x hx=>dR x (.tail _ hx)
  rw[cZ,cZ] at h
  have fin:p=q→nb (ak ps)=nb (ak qs)→p::ps=q::qs:=fun e1 e2=>by
   rw[e1,PH ps qs p.word q.word hw.2 hv.2 oT lX e2]
  cases p with
  | keep n=>
   have h':nb (rK n.toNat++ak ps)=nb (b_ q++ak qs):=h
   rw[qI hp] at h'
   cases q with
   | keep m=>
    have h2:_=nb (rK m.toNat++ak qs):=h'
    rw[qI hq] at h2
    have h3:=congrArg (fun x=>x.2.2) h2
    have gh:(1:Int)≤n:=hp
    have D6:(1:Int)≤m:=hq
    rcases PD h3 with⟨e1,e2,e3⟩ | ⟨e1,e2,e3⟩ | ⟨e1,e2,e3⟩
    ·refine fin (by congr 1;omega) ?_
     have tq:=congrArg Prod.fst e2
     have tu:=congrArg Prod.snd e2
     simp only at tq tu
     exact Prod.ext tq (Prod.ext tu e3)
    ·have tq:=congrArg Prod.fst e2
     have tu:=congrArg Prod.snd e2
     have:=PB hw.2 oT tq tu
     rw[this] at e3
     exact absurd rfl e3
    ·have tq:=congrArg Prod.fst e2
     have tu:=congrArg Prod.snd e2
     have:=PB hv.2 lX tq tu
     rw[this] at e3
     exact absurd rfl e3
   | put s=>
    exfalso
    obtain⟨c,r,e⟩:=iy hq.2
    have h2:_=nb (s.cps.toList.map .P++ak qs):=h'
    rw[tj,e] at h2
    have:=congrArg (fun x=>x.1) h2
    simp at this
   | cut s=>
    exfalso
    obtain⟨c,r,e⟩:=iy hq.2
    have h2:_=nb (s.cps.toList.map .C++ak qs):=h'
    rw[qH,e] at h2
    have:=congrArg (fun x=>x.2.1) h2
    simp at this
  | put x=>
   obtain⟨c0,r0,e0⟩:=iy hp.2
   have h':nb (x.cps.toList.map .P++ak ps)=nb (b_ q++ak qs):=h
   rw[tj] at h'
   have k1:=nF hw.2 oT (.inl rfl)
   cases q with
   | keep m=>
    exfalso
    have h2:_=nb (rK m.toNat++ak qs):=h'
    rw[qI hq,e0] at h2
    have:=congrArg (fun x=>x.1) h2
    simp at this
   | put s=>
    have h2:_=nb (s.cps.toList.map .P++ak qs):=h'
    rw[tj,k1,nF hv.2 lX (.inl rfl),List.append_nil,List.append_nil] at h2
    have a1:=congrArg (fun x=>x.1) h2
    have a2:=congrArg (fun x=>x.2) h2
    simp only at a1 a2
    refine fin (by rw[gL a1]) ?_
    exact Prod.ext (by rw[k1,nF hv.2 lX (.inl rfl)]) a2
   | cut s=>
    exfalso
    have h2:_=nb (s.cps.toList.map .C++ak qs):=h'
    rw[qH,nF hv.2 lX (.inr rfl),e0] at h2
    have:=congrArg (fun x=>x.1) h2
    simp at this
  | cut x=>
   obtain⟨c0,r0,e0⟩:=iy hp.2
   have h':nb (x.cps.toList.map .C++ak ps)=nb (b_ q++ak qs):=h
   have k1:=nF hw.2 oT (.inr rfl)
   have k2:=Em hw.2 oT
   rw[qH] at h'
   cases q with
   | keep m=>
    exfalso
    have h2:_=nb (rK m.toNat++ak qs):=h'
    rw[qI hq,e0] at h2
    have:=congrArg (fun x=>x.2.1) h2
    simp at this
   | put s=>
    exfalso
    obtain⟨c,r,e⟩:=iy hq.2
    have h2:_=nb (s.cps.toList.map .P++ak qs):=h'
    rw[tj,k1,e] at h2
    have:=congrArg (fun x=>x.1) h2
    simp at this
   | cut s=>
    have h2:_=nb (s.cps.toList.map .C++ak qs):=h'
    rw[qH,k1,k2,nF hv.2 lX (.inr rfl),Em hv.2 lX,List.append_nil,List.append_nil] at h2
    have a1:=congrArg (fun x=>x.2.1) h2
    have a2:=congrArg (fun x=>x.2.2) h2
    simp only at a1 a2
    refine fin (by rw[gL a1]) ?_
    exact Prod.ext (by rw[k1,nF hv.2 lX (.inr rfl)]) (Prod.ext (by rw[k2,Em hv.2 lX]) a2)
termination_by ps qs=>ps.length+qs.length
theorem agv{ps qs:List Pt}{l r r':List Nat}(hc:chainOk "" ps=true)(hd:chainOk "" qs=true)(ho: ∀p∈ps,bp p)(hq: ∀p∈qs,bp p)(h:Run l ps r)(h':Run l qs r')(e:res 0 (ak ps)=res 0 (ak qs)):ps=qs:=
 PH ps qs "" "" hc hd ho hq (agj h.fits.1 h'.fits.1 e)
theorem agw{T:Ty}{v:V}{H:Hp}{P Q:Bool→Prop}(h:bZ T v H P)(i: ∀b,P b→Q b):bZ T v H Q:=by
 cases v with
 | ref a=>
  unfold bZ at h⊢
  simp only at h⊢
  split at h
  all_goals first | exact i _ h | exact h.elim
 | aw=>exact i _ h
 | bl b=>exact i _ h
 | int _=>exact i _ h
 | str _=>exact i _ h
 | _=>exact False.elim h
theorem agx{T:Ty}{v:V}{H H':Hp}{P:Bool→Prop}(h:bZ T v H P)(s:ax H H'):bZ T v H' P:=by
 cases v with
 | ref a=>
  unfold bZ at h⊢
  simp only at h⊢
  cases e:H a with
  | none=>rw[e] at h;exact h.elim
  | some o=>rw[e] at h;rw[s _ _ e];exact h
 | aw=>exact h
 | bl b=>exact h
 | int _=>exact h
 | str _=>exact h
 | _=>exact False.elim h
def gO(T:Ty)(v:V)(H:Hp):Prop:=bZ T v H fun b=>b=false
theorem gO.same{T:Ty}{v:V}{H H':Hp}(h:gO T v H)(s:ax H H'):gO T v H':=agx h s
theorem gO.go{T:Ty}{v:V}{H:Hp}{Q:Bool→Prop}(h:gO T v H)(q:Q false):bZ T v H Q:=agw h fun b e=>by rw[e];exact q
def agy(x:Str):Bool:=x.cps.toList.all fun c=>SG.cps.contains c
theorem PJ{α:Type}(p:α→Bool): ∀l:List α,l.all p=false→(l.takeWhile p).length<l.length
 | [],h=>by cases h
 | c::l,h=>by
  rw[List.takeWhile_cons]
  cases hc:p c with
  | false=>simp
  | true=>
   rw[List.all_cons,hc,Bool.true_and] at h
   have:=PJ p l h
   simp;omega
theorem agz(x y:Str)(h:(x.cps.toList.all fun c=>y.cps.contains c)=false):Txt.lstripChars x y≠"":=by
 have lt:=PJ _ _ h
 have e0:stripLo y.cps.contains true x=(x.cps.toList.takeWhile y.cps.contains).length:=by
  unfold stripLo
  rw[if_pos rfl]
 have e1: ∀n,stripHi y.cps.contains false x n=x.length:=fun n=>rfl
 intro z
 have z2:=congrArg Str.length z
 have l0:(Str.ofString "").length=0:=rfl
 rw[l0] at z2
 unfold Txt.lstripChars Txt.stripBy stripSame stripped at z2
 rw[e0,e1] at z2
 have hx:x.cps.size=x.cps.toList.length:=by simp
 split at z2
 ·have:x.cps.size=0:=z2
  omega
 ·have z3:(x.cps.extract (x.cps.toList.takeWhile y.cps.contains).length x.cps.size).size=0:=z2
  rw[Array.size_extract,Nat.min_self] at z3
  have z4:x.cps.size - (List.takeWhile (fun c=>y.cps.contains c) x.cps.toList).length=0:=z3
  omega
def wc(v:V)(H:Hp):Prop:=(∃x,v= .str x∧x.length≤1000000∧agy x=false)∨gO .str v H
theorem wc.same{v:V}{H H':Hp}(h:wc v H)(s:ax H H'):wc v H':=by
 rcases h with h | h
 ·exact .inl h
 ·exact .inr (h.same s)
def wd(v:V)(H:Hp):Prop:=(∃b,v= .bl b)∨gO .int v H
theorem wd.same{v:V}{H H':Hp}(h:wd v H)(s:ax H H'):wd v H':=by
 rcases h with h | h
 ·exact .inl h
 ·exact .inr (h.same s)
def zF:Sp:=fun vs H Q E=> ∃v,vs=[v]∧((∃i,v= .int i∧Q (.bl true) H)∨(wd v H∧Q (.bl false) H))
theorem agA{K:PySem.W.Frag}(vs:List V)(H:Hp)(Q:VK)(E:XK)(h:zF vs H Q E):au (aU K [] [] (E:=E)) Cz (Dn Q) (start Cy vs) H:=by
 obtain⟨v,rfl,⟨i,rfl,q⟩ | ⟨⟨b,rfl⟩ | hn,q⟩⟩:=h
 ·exact⟨_,rfl,rfl,_,rfl,fk ⟨_,rfl,rfl,q⟩⟩
 ·exact⟨_,rfl,rfl,_,rfl,fk ⟨_,rfl,rfl,q⟩⟩
 ·exact⟨_,rfl,rfl,hn.go ⟨_,rfl,iN q⟩⟩
def zG:Sp:=fun vs H Q E=> ∃v,vs=[v]∧((∃x,v= .str x∧good x∧Q (.bl true) H)∨(wc v H∧Q (.bl false) H))
theorem agB{K:PySem.W.Frag}(vs:List V)(H:Hp)(Q:VK)(E:XK)(h:zG vs H Q E):au (aU K [] gS (E:=E)) yX (Dn Q) (start yW vs) H:=by
 obtain⟨v,rfl,⟨x,rfl,hx,q⟩ | ⟨⟨x,rfl,hl,hx⟩ | hn,q⟩⟩:=h
 ·exact ae4 _ _ _ _ ⟨x,rfl,hx,q⟩
 ·refine⟨_,rfl,rfl,_,rfl,fk ⟨_,rfl,rfl,cz hl, ?_⟩⟩
  show Q (.bl (false ^^ decide (V.str (Txt.lstripChars x SG)=V.str ""))) H
  rw[decide_eq_false (fun z=>agz x SG hx (by injection z))]
  exact q
 ·exact⟨_,rfl,rfl,hn.go ⟨_,rfl,iN q⟩⟩
def zH(K:PySem.W.Frag):Sp:=fun vs H Q E=> ∃v p xs,vs=[v, .ref p]∧aI K H p xs∧xs.all eG=true∧((∃w,v= .str w∧Q (.bl (gf (.str w) xs)) H)∨(gO .str v H∧Q (.bl false) H))
theorem agC{K:PySem.W.Frag}(vs:List V)(H:Hp)(Q:VK)(E:XK)(h:zH K vs H Q E):au (aU K [] [] (E:=E)) yV (Dn Q) (start yU vs) H:=by
 obtain⟨v,p,xs,rfl,hp,hf,⟨w,rfl,q⟩ | ⟨hn,q⟩⟩:=h
 ·exact ae6 _ _ _ _ ⟨w,p,xs,rfl,hp,hf,q⟩
 ·exact⟨_,rfl,rfl,hn.go ⟨_,rfl,iN q⟩⟩
def we(v:V)(H:Hp):Prop:=gO .tuple v H∨ ∃a xs,v= .ref a∧H a=some (.tup xs)∧xs.length≤1000000∧(xs.length≠2∨ ∃w t,xs=[w,t]∧
 (gO .str w H∨(∃s,w= .str s∧s≠"keep"∧s≠"cut"∧s≠"put")∨(w= .str "keep"∧(wd t H∨ ∃n,t= .int n∧n<1))∨((w= .str "cut"∨w= .str "put")∧(wc t H∨t= .str ""))))
theorem we.same{v:V}{H H':Hp}(h:we v H)(s:ax H H'):we v H':=by
 rcases h with h | ⟨a,xs,rfl,ha,hl,h⟩
 ·exact .inl (h.same s)
 ·refine .inr ⟨a,xs,rfl,s _ _ ha,hl, ?_⟩
  rcases h with h | ⟨w,t,rfl,h⟩
  ·exact .inl h
  ·refine .inr ⟨w,t,rfl, ?_⟩
   rcases h with h | h | ⟨h,h2⟩ | ⟨h,h2⟩
   ·exact .inl (h.same s)
   ·exact .inr (.inl h)
   ·refine .inr (.inr (.inl ⟨h, ?_⟩))
    rcases h2 with h2 | h2
    ·exact .inl (h2.same s)
    ·exact .inr h2
   ·refine .inr (.inr (.inr ⟨h, ?_⟩))
    rcases h2 with h2 | h2
    ·exact .inl (h2.same s)
    ·exact .inr h2
abbrev zI(K:PySem.W.Frag):List (Str×Sp):=[("is_word",zH K),("is_whole",zF),("is_text",zG)]
def wg:Sp:=fun vs H Q E=> ∃v,vs=[v]∧((∃p,gA H v p∧bp p∧ ∀H',ax H H'→Q (.bl true) H')∨(we v H∧ ∀H',ax H H'→Q (.bl false) H'))
theorem PK(s t:Str):gf (.str s) [.str t]=(t==s):=by
 unfold gf
 show(eS (.str t) (.str s) || false)=_
 rw[Bool.or_false];rfl
theorem agD{K:PySem.W.Frag}(vs:List V)(H:Hp)(Q:VK)(E:XK)(h:wg vs H Q E):au (aU K (zI K) [] (E:=E)) vE (Dn Q) (start vD vs) H:=by
 have two: ∀(a:Addr) (w t:V) (Q1:VK) (H1:Hp) (σ:St),σ[0]?=some (some (.ref a))→H1 a=some (.tup [w,t])→
   (∀(tt:Addr) H2,ax H1 H2→ ∀b:Bool,(b=true→w= .str "cut"∨w= .str "put")→(b=false→w≠ .str "cut"∧w≠ .str "put")→Q1 (.bl b) H2)→(gO .str w H1∨ ∃s,w= .str s)→
   ag (aU K (zI K) [] (E:=E)) (.call 0 [(.ix (.v 0) (.c (.int 0))),(.tup [(.c (.str "cut")),(.c (.str "put"))])]) σ H1 Q1:=by
  intro a w t Q1 H1 σ h0 ha q hw
  refine⟨_,h0, .inr (.inl ⟨_,_,_,_,rfl,rfl,aI.of ha,rfl,(by show 2≤sizeLine;decide),fun t ht=> ?_⟩)⟩
  have s2:=sameNew (o:= .tup [V.str "cut",V.str "put"]) ht
  refine⟨w,t,_,rfl,aI.of av,rfl, ?_⟩
  rcases hw with hw | ⟨s,rfl⟩
  ·refine .inr ⟨hw.same s2,q t _ s2 false (fun z=>by cases z) fun _=> ⟨?_, ?_⟩⟩
   ·rintro rfl;cases (show true=false from hw)
   ·rintro rfl;cases (show true=false from hw)
  ·refine .inl ⟨s,rfl,q t _ s2 _ (fun z=> ?_) fun z=> ?_⟩
   ·have z':((Str.ofString "cut"==s) || ((Str.ofString "put"==s) || false))=true:=z
    simp only[Bool.or_false,Bool.or_eq_true,beq_iff_eq] at z'
    rcases z' with z' | z'<;>subst z'
    ·exact .inl rfl
    ·exact .inr rfl
   ·have z':((Str.ofString "cut"==s) || ((Str.ofString "put"==s) || false))=false:=z
    simp only[Bool.or_false,Bool.or_eq_false_iff,beq_eq_false_iff_ne] at z'
    exact⟨fun y=>z'.1 (by injection y with y;exact y.symm),fun y=>z'.2 (by injection y with y;exact y.symm)⟩
 obtain⟨v,rfl,⟨p,⟨a,rfl,ha⟩,hp,q⟩ | ⟨hn | ⟨a,xs,rfl,ha,hl,hb⟩,q⟩⟩:=h
 ·refine⟨_,rfl,rfl,zf ha ⟨_,rfl, .inr ⟨_,aI.of ha,_,rfl, ?_⟩⟩⟩
  refine⟨_,rfl, .inr (.inl ⟨_,_,_,_,rfl,rfl,aI.of ha,rfl,(by show 1≤sizeLine;decide),fun t1 fS=> ?_⟩)⟩
  have s1:=sameNew (o:= .tup [V.str "keep"]) fS
  refine⟨.str p.word,t1,[.str "keep"],rfl,aI.of av,rfl, .inl ⟨p.word,rfl, ?_⟩⟩
  have eV:=s1 _ _ ha
  generalize upd H t1 (.tup [V.str "keep"])=H1 at s1 eV
  have fin: ∀(s:Str),good s→s≠""→H1 a=some (.tup [.str p.word, .str s])→p.word="put"∨p.word="cut"→au (aU K (zI K) [] (E:=E)) (vE.drop 2) (Dn Q) (start vD [.ref a]) H1:=by
   intro s gs ns hs hw
   refine two a (.str p.word) (.str s) _ H1 _ rfl hs (fun tt H2 s2 b nC tw=> ?_) (.inr ⟨_,rfl⟩)
   have eb:b=true:=by
    cases b with
    | true=>rfl
    | false=>
     obtain⟨z1,z2⟩:=tw rfl
     rcases hw with z | z
     ·exact absurd (congrArg V.str z) z2
     ·exact absurd (congrArg V.str z) z1
   subst eb
   have zJ:=s2 _ _ hs
   refine⟨_,rfl,fk ⟨_,rfl, .inr (.inl ⟨_,_,_,_,rfl,rfl,aI.of zJ,rfl, .str s,rfl, .inl ⟨s,rfl,gs,_,rfl, ?_⟩⟩)⟩⟩
   refine fk ⟨_,rfl, .inr (.inl ⟨_,_,_,_,rfl,rfl,aI.of zJ,rfl, ?_⟩)⟩
   show Q (.bl (true ^^ decide (V.str s=V.str ""))) _
   rw[decide_eq_false (fun z=>ns (by injection z))]
   exact q _ (s1.trans s2)
  cases p with
  | keep n=>
   rw[show gf (.str (Pt.keep n).word) [.str "keep"]=true by show gf (.str "keep") [.str "keep"]=true;decide]
   refine⟨_,rfl, .inr (.inl ⟨_,_,_,_,rfl,rfl,aI.of eV,rfl, .int n,rfl, .inl ⟨n,rfl,_,rfl, ?_⟩⟩)⟩
   refine fk ⟨_,rfl, .inr (.inl ⟨_,_,_,_,rfl,rfl,aI.of eV,rfl,trivial, ?_⟩)⟩
   show Q (.bl (decide (1≤n))) H1
   rw[decide_eq_true (show(1:Int)≤n from hp)]
   exact q _ s1
  | put s=>
   rw[show gf (.str (Pt.put s).word) [.str "keep"]=false by show gf (.str "put") [.str "keep"]=false;decide]
   exact fin s hp.1 hp.2 eV (.inl rfl)
  | cut s=>
   rw[show gf (.str (Pt.cut s).word) [.str "keep"]=false by show gf (.str "cut") [.str "keep"]=false;decide]
   exact fin s hp.1 hp.2 eV (.inr rfl)
 ·exact⟨_,rfl,rfl,hn.go (q _ (ax.refl _))⟩
 ·refine⟨_,rfl,rfl,zf ha ⟨_,rfl, .inr ⟨_,aI.of ha,_,rfl, ?_⟩⟩⟩
  show if (true ^^ decide (V.int (xs.length:Int)=V.int 2))=true then _ else _
  rcases hb with hb | ⟨w,t,rfl,hb⟩
  ·rw[decide_eq_false (fun z=>hb (by injection z with z;omega))]
   exact q _ (ax.refl _)
  ·refine⟨_,rfl, .inr (.inl ⟨_,_,_,_,rfl,rfl,aI.of ha,rfl,(by show 1≤sizeLine;decide),fun t1 fS=> ?_⟩)⟩
   have s1:=sameNew (o:= .tup [V.str "keep"]) fS
   refine⟨w,t1,[.str "keep"],rfl,aI.of av,rfl, ?_⟩
   have eV:=s1 _ _ ha
   generalize upd H t1 (.tup [V.str "keep"])=H1 at s1 eV
   have no:(gO .str w H1∨ ∃s,w= .str s)→w≠ .str "cut"→w≠ .str "put"→au (aU K (zI K) [] (E:=E)) (vE.drop 2) (Dn Q) (start vD [.ref a]) H1:=by
    intro hw n1 n2
    refine two a w t _ H1 _ rfl eV (fun tt H2 s2 b nC tw=> ?_) hw
    have eb:b=false:=by
     cases b with
     | false=>rfl
     | true=>rcases nC rfl with z | z;exact absurd z n1;exact absurd z n2
    subst eb
    exact⟨_,rfl,iN (q _ (s1.trans s2))⟩
   rcases hb with hb | ⟨s,rfl,n0,n1,n2⟩ | ⟨rfl,hb⟩ | ⟨hw,hb⟩
   ·refine .inr ⟨hb.same s1,no (.inl (hb.same s1)) ?_ ?_⟩
    ·rintro rfl;cases (show true=false from hb)
    ·rintro rfl;cases (show true=false from hb)
   ·refine .inl ⟨s,rfl, ?_⟩
    rw[PK,beq_eq_false_iff_ne.mpr (Ne.symm n0)]
    exact no (.inr ⟨s,rfl⟩) (fun z=>n1 (by injection z)) (fun z=>n2 (by injection z))
   ·refine .inl ⟨_,rfl, ?_⟩
    rw[show gf (.str "keep") [.str "keep"]=true by decide]
    refine⟨_,rfl, .inr (.inl ⟨_,_,_,_,rfl,rfl,aI.of eV,rfl,t,rfl, ?_⟩)⟩
    rcases hb with hb | ⟨n,rfl,hn⟩
    ·exact .inr ⟨hb.same s1,_,rfl,iN (q _ s1)⟩
    ·refine .inl ⟨n,rfl,_,rfl,fk ⟨_,rfl, .inr (.inl ⟨_,_,_,_,rfl,rfl,aI.of eV,rfl,trivial, ?_⟩)⟩⟩
     show Q (.bl (decide (1≤n))) H1
     rw[decide_eq_false (by omega)]
     exact q _ s1
   ·have hws: ∃s,w= .str s∧(Str.ofString "keep"==s)=false:=by
     rcases hw with rfl | rfl
     ·exact⟨_,rfl,by decide⟩
     ·exact⟨_,rfl,by decide⟩
    obtain⟨s,rfl,hk⟩:=hws
    refine .inl ⟨s,rfl, ?_⟩
    rw[PK,hk]
    refine two a (.str s) t _ H1 _ rfl eV (fun tt H2 s2 b nC tw=> ?_) (.inr ⟨s,rfl⟩)
    have eb:b=true:=by
     cases b with
     | true=>rfl
     | false=>
      obtain⟨z1,z2⟩:=tw rfl
      rcases hw with z | z
      ·exact absurd z z1
      ·exact absurd z z2
    subst eb
    have gP:=s2 _ _ eV
    refine⟨_,rfl,fk ⟨_,rfl, .inr (.inl ⟨_,_,_,_,rfl,rfl,aI.of gP,rfl,t,rfl, ?_⟩)⟩⟩
    rcases hb with hb | rfl
    ·exact .inr ⟨hb.same (s1.trans s2),_,rfl,iN (q _ (s1.trans s2))⟩
    ·refine .inl ⟨_,rfl,⟨by decide,fun c hc=>by cases hc⟩,_,rfl,fk ⟨_,rfl, .inr (.inl ⟨_,_,_,_,rfl,rfl,aI.of gP,rfl, ?_⟩)⟩⟩
     exact q _ (s1.trans s2)
theorem agF{vs:List V}{H:Hp}{Q:VK}{E:XK}(h:DF vs H Q E):wg vs H Q E:=by
 obtain⟨v,p,rfl,hp,ho,q⟩:=h
 exact⟨_,rfl, .inl ⟨p,hp,ho,q⟩⟩
def zK(H:Hp)(xs:List V):Prop:= ∃pre x post ps,xs=pre++x::post∧aQ H pre ps∧(∀p∈ps,bp p)∧chainOk "" ps=true∧
 (we x H∨ ∃p,gA H x p∧bp p∧jr p.word (fP "" ps ps.length)=false)
def lY(v:V)(H:Hp):Prop:=gO .list v H∨ ∃a xs,v= .ref a∧H a=some (.lst xs)∧zK H xs
theorem zK.same{H H':Hp}{xs:List V}(h:zK H xs)(s:ax H H'):zK H' xs:=by
 obtain⟨pre,x,post,ps,e,h1,h2,h3,h4⟩:=h
 refine⟨pre,x,post,ps,e,h1.mono (aM s),h2,h3, ?_⟩
 rcases h4 with h4 | ⟨p,a,b,c⟩
 ·exact .inl (h4.same s)
 ·exact .inr ⟨p,a.mono (aM s),b,c⟩
theorem lY.same{v:V}{H H':Hp}(h:lY v H)(s:ax H H'):lY v H':=by
 rcases h with h | ⟨a,xs,e,h1,h2⟩
 ·exact .inl (gO.same h s)
 ·exact .inr ⟨a,xs,e,s _ _ h1,h2.same s⟩
abbrev agG:List (Str×Sp):=[("is_part",wg),("may_follow",sH)]
def wj(C:Addr):Sp:=fun vs H Q E=> ∃v,vs=[v]∧lY v H∧ ∀H',ax H H'→E (.ref C) none H'
theorem agH{K:PySem.W.Frag}{C:Addr}(vs:List V)(H:Hp)(Q:VK)(E:XK)(h:wj C vs H Q E):au (aU K agG [] (et:=[("BadChange",C)]) (E:=E)) vF (Dn Q) (start yY vs) H:=by
 obtain⟨v,rfl,hn | ⟨a,xs,rfl,ha,pre,x,post,ps,rfl,cv,aB,dq,agI⟩,q⟩:=h
 ·exact⟨_,rfl,rfl,hn.go ⟨(by show 1≤sizeLine;decide),q _ (ax.refl _)⟩⟩
 ·have hlen:=Paired.length cv
  refine⟨_,rfl,rfl,DE ha ⟨_,rfl,a,rfl,⟨_,ao.of ha⟩,mM (K:=K) (a:=a) (xs:=pre++x::post) (fun i σ H2=>i≤pre.length∧ ∃v,σ=[some (.ref a),some (.str (fP "" ps i)),v]∧ax H H2) ⟨Nat.zero_le _,none,rfl,ax.refl _⟩
   (fun i σ H2 _ ⟨_,_,_,s2⟩=>ao.of (s2 _ _ ha)) ?_ ?_⟩⟩
  ·rintro i y σ H2 hi ⟨hle,v,rfl,s2⟩
   by_cases aP:i<pre.length
   ·have dX:pre[i]?=some y:=by rw[List.getElem?_append_left aP] at hi;exact hi
    obtain⟨p,hp,ij⟩:=cv.get dX
    obtain⟨b,rfl,hb⟩:=ij.mono (aM s2)
    refine⟨_,rfl,_,rfl, .inl ⟨p,⟨b,rfl,hb⟩,aB p (List.mem_of_getElem? hp),fun H3 s3=> ?_⟩⟩
    refine⟨_,rfl, .inr (.inl ⟨_,_,_,_,rfl,rfl,aI.of (s3 _ _ hb),rfl,_,rfl,p.word,_,rfl, ?_⟩)⟩
    have e:=zg ps "" i p dq hp
    show(fun c H1=>if (!c)=true then _ else _) (jr p.word (fP "" ps i)) H3
    rw[e]
    refine⟨_,rfl, .inr (.inl ⟨_,_,_,_,rfl,rfl,aI.of (s3 _ _ hb),rfl,aP,some (.ref b), ?_,s2.trans s3⟩)⟩
    show[some (V.ref a),some (V.str p.word),some (V.ref b)]=_
    have e2:fP "" ps (i+1)=p.word:=by simp only[fP,hp]
    rw[e2]
   ·have dB:i=pre.length:=by omega
    subst dB
    have ey:y=x:=by
     rw[List.getElem?_append_right (Nat.le_refl _),Nat.sub_self] at hi
     simpa using hi.symm
    subst ey
    rcases agI with hb | ⟨p,⟨b,rfl,hb⟩,ho,hf⟩
    ·exact⟨_,rfl,_,rfl, .inr ⟨hb.same s2,fun H3 s3=> ⟨(by show 1≤sizeLine;decide),q _ (s2.trans s3)⟩⟩⟩
    ·refine⟨_,rfl,_,rfl, .inl ⟨p,⟨b,rfl,s2 _ _ hb⟩,ho,fun H3 s3=> ?_⟩⟩
     refine⟨_,rfl, .inr (.inl ⟨_,_,_,_,rfl,rfl,aI.of (s3 _ _ (s2 _ _ hb)),rfl,_,rfl,p.word,_,rfl, ?_⟩)⟩
     show(fun c H1=>if (!c)=true then _ else _) (jr p.word (fP "" ps pre.length)) H3
     rw[hlen,hf]
     exact⟨(by show 1≤sizeLine;decide),q _ (s2.trans s3)⟩
  ·rintro σ H2 ⟨hle,_⟩
   simp at hle
   omega
def nG(C:Addr):Sp:=wj C
theorem agJ{K:PySem.W.Frag}{C:Addr}(vs:List V)(H:Hp)(Q:VK)(E:XK)(h:nG C vs H Q E):au (aU K [("need_change",wj C),("part_size",js)] [] (E:=E)) vG (Dn Q) (start yZ vs) H:=by
 obtain⟨v,rfl,hn,q⟩:=h
 exact⟨_,rfl,v,rfl,hn,q⟩
def fB(a b:Sp):Sp:=fun vs H Q E=>a vs H Q E∨b vs H Q E
structure j8 (K:PySem.W.Frag) (cs:List Addr) (cK:Addr) (D:Addr) (j:Nat):Prop where
 cls:uS K D
 kit: ∀i c,cs[i]?=some c→kitOne K (.ref D) (.ref c)=some (decide (i=j))
 cK:kitOne K (.ref D) (.ref cK)=some true
 val:kitOne K (.ref D) (.type "ValueError")=some true
def iW:List Str:=["text","change","fit","place","side","mark","node","cursor","deed","letter","gone","hand","note"]
abbrev gW(c0 c1 c2 c3 c4 c5 c6 c7 c8 c9 iz gE iA cK:Addr):List (Str×V):=
 [("BadText", .ref c0),("BadChange", .ref c1),("BadFit", .ref c2),("NoPlace", .ref c3),("BadSide", .ref c4),("NoMark", .ref c5),("NoNode", .ref c6),("NoCursor", .ref c7),("BadDeed", .ref c8),("BadLetter", .ref c9),("NoLetter", .ref iz),("NoHand", .ref gE),("NoNote", .ref iA),("InkError", .ref cK)]
def wk(K:PySem.W.Frag)(cs:List Addr)(cK:Addr):Sp:=fun vs H Q E=> ∃ea D j,vs=[.ref ea]∧ExcAt H ea D∧j8 K cs cK D j∧j<13∧ ∀H',ax H H'→Q (.str (iW.getD j "")) H'
theorem _root_.L2.ExcAt.same{H H':Hp}{ea D:Addr}(h:ExcAt H ea D)(s:ax H H'):ExcAt H' ea D:=ExcAt.keeps h fun b o u e=>s b _ e
def jz(H:Hp)(v:V)(p:Str×Bool):Prop:= ∃t,v= .ref t∧H t=some (.tup [.str p.1, .bl p.2])
theorem jz.mono{H H':Hp}{v:V}{p:Str×Bool}(h:jz H v p)(s:ax H H'):jz H' v p:=by
 obtain⟨t,e,h⟩:=h
 exact⟨t,e,s _ _ h⟩
theorem qJ.mono{H H':Hp}(s:ax H H'): ∀{vs:List V} {ps:List (Str×Bool)},Paired (jz H) vs ps→Paired (jz H') vs ps
 | _,_, .nil=> .nil
 | _,_, .cons h r=> .cons (h.mono s) (qJ.mono s r)
theorem qJ.get{H:Hp}: ∀{vs:List V} {ps:List (Str×Bool)} {i:Nat} {v:V},Paired (jz H) vs ps→vs[i]?=some v→ ∃p,ps[i]?=some p∧jz H v p
 | _,_,i,v, .nil,e=>by simp at e
 | _,_,0,v, .cons h r,e=>by simp at e;subst e;exact⟨_,rfl,h⟩
 | _,_,i+1,v, .cons h r,e=>by
  obtain⟨p,a,b⟩:=qJ.get (i:=i) r (by simpa using e)
  exact⟨p,by simpa using a,b⟩
theorem Paired.app{α β:Type}{R:α→β→Prop}: ∀{xs dY:List α} {ys fm:List β},Paired R xs ys→Paired R dY fm→Paired R (xs++dY) (ys++fm)
 | _,_,_,_, .nil,s=>s
 | _,_,_,_, .cons r t,s=> .cons r (Paired.app t s)
section
variable {Γ:aJ} {cs:List Addr} {cK ea D:Addr} {j:Nat}
theorem En(hk:j8 Γ.K cs cK D j)(hg: ∀i c,cs[i]?=some c→Γ.gv i= .ref c): ∀(ws:List (Str×Nat)) (σ:St) (H:Hp) (Q:List V→Hp→Prop),(∀p∈ws,p.2<cs.length)→σ[0]?=some (some (.ref ea))→ExcAt H ea D→
  (∀vs H',ax H H'→Paired (jz H') vs (ws.map fun p=> (p.1,decide (p.2=j)))→Q vs H')→bH Γ (ws.map fun p=> .tup [(.c (.str p.1)),(.da (.v 0) (.g p.2))]) σ H Q
 | [],σ,H,Q,_,_,_,q=>q [] H (ax.refl _) .nil
 | (w,i)::ws,σ,H,Q,hl,h0,he,q=>by
  have hi:i<cs.length:=hl (w,i) (.head _)
  have hc:cs[i]?=some cs[i]:=by simp[hi]
  have key: ∀k:VK,jO Γ.K [.ref ea, .ref cs[i]] H k→jO Γ.K [.ref ea,Γ.gv i] H k:=by
   intro k;rw[hg i _ hc];exact id
  refine ar (iq (ar (aX (ar (agg (aC h0 (Pl (key _ ⟨D,_,he,hk.cls, .inl ⟨_,rfl⟩,hk.kit i _ hc,aR ⟨(by show 2≤sizeLine;decide),fun t ht=> ?_⟩⟩))))))))
  have s1:=sameNew (o:= .tup [.str w, .bl (decide (i=j))]) ht
  refine En hk hg ws σ _ _ (fun p hp=>hl p (.tail _ hp)) h0 (he.same s1) fun vs H' s2 hp=> ?_
  exact q (.ref t::vs) H' (s1.trans s2) (.cons ⟨t,rfl,s2 _ _ av⟩ hp)
theorem zL(hk:j8 Γ.K cs cK D j)(hg: ∀i c,cs[i]?=some c→Γ.gv i= .ref c)(ws:List (Str×Nat)){l:Addr}{xs:List V}{ps:List (Str×Bool)}{H:Hp}{r:List RS}{E:Ends}(hl: ∀p∈ws,p.2<cs.length)(he:ExcAt H ea D)(h1:H l=some (.lst xs))
  (hp:Paired (jz H) xs ps) (hn:xs.length+ws.length≤1000) (q: ∀l' dY H',ax H H'→H' l'=some (.lst dY)→Paired (jz H') dY (ps++ws.map fun p=> (p.1,decide (p.2=j)))→au Γ r E [some (.ref ea),some (.ref l'),none] H'):
  au Γ (.asg 1 (.bin .Add (.v 1) (.lst (ws.map fun p=> .tup [(.c (.str p.1)),(.da (.v 0) (.g p.2))])))::r) E [some (.ref ea),some (.ref l),none] H:=by
 refine⟨_,rfl,En hk hg ws _ H _ hl rfl he fun vs H1 s1 hv=> ⟨?_,fun d hd=> ?_⟩⟩
 ·have:=Paired.length hv
  rw[List.length_map] at this
  exact cz (by omega)
 ·have e1:upd H1 d (.lst vs) l=some (.lst xs):=by rw[aD (aW (s1 _ _ h1) hd)];exact s1 _ _ h1
  have tD:=Paired.length hv
  rw[List.length_map] at tD
  refine .inl ⟨l,d,xs,vs,rfl,rfl,e1,av,cz (by omega),fun e he'=> ?_⟩
  have s2:=(sameNew (o:= .lst vs) hd).trans (sameNew (o:= .lst (xs++vs)) he')
  exact q e (xs++vs) _ (s1.trans s2) av (Paired.app (qJ.mono (s1.trans s2) hp) (qJ.mono s2 hv))
end
theorem agM(j:Nat)(hj:j<13):(((iW.zipIdx).map fun p=> (p.1,decide (p.2=j))).filter (·.2)).map (·.1)=[iW.getD j ""]∧(iW.getD j "").length≤10:=by
 match j,hj with
 | 0,_ | 1,_ | 2,_ | 3,_ | 4,_ | 5,_ | 6,_ | 7,_ | 8,_ | 9,_ | 10,_ | 11,_ | 12,_=>exact⟨rfl,by decide+kernel⟩
theorem agN{Γ:aJ}{as:List RE}{σ:St}{H:Hp}{Q:VK}(h:bH Γ as σ H fun xs H1=>xs.length≤sizeLine∧ ∀p,H1 p=none→Q (.ref p) (upd H1 p (.lst xs))):ag Γ (.lst as) σ H Q:=h
theorem join_one(sep x:Str):Txt.join sep [x]=x:=gL rfl
theorem agO{α β:Type}(p:α→Bool)(f:α→β)(l:List α)(i:Nat)(v:α)(h:l[i]?=some v):((l.take (i+1)).filter p).map f=((l.take i).filter p).map f++ (if p v then [f v] else []):=by
 rw[OL p l i v h,List.map_append]
 cases p v<;>rfl
theorem agP{Γ:aJ}{i g:Nat}{ea D C:Addr}{b:Bool}{σ:St}{H:Hp}{Q:Bool→Hp→Prop}(h0:σ[i]?=some (some (.ref ea)))(he:ExcAt H ea D)(hc:uS Γ.K D)(hg:Γ.gv g= .ref C)(hk:kitOne Γ.K (.ref D) (.ref C)=some b)(q:Q b H):bq Γ (.da (.v i) (.g g)) σ H Q:=by
 have key: ∀k:VK,jO Γ.K [.ref ea, .ref C] H k→jO Γ.K [.ref ea,Γ.gv g] H k:=by
  intro k;rw[hg];exact id
 exact Pm (aC h0 (Pl (key _ ⟨D,b,he,hc, .inl ⟨_,rfl⟩,hk,q⟩)))
theorem agQ{Γ:aJ}{i:Nat}{ea D:Addr}{n:String}{b:Bool}{σ:St}{H:Hp}{Q:Bool→Hp→Prop}(h0:σ[i]?=some (some (.ref ea)))(he:ExcAt H ea D)(hc:uS Γ.K D)(hk:kitOne Γ.K (.ref D) (.type n)=some b)(q:Q b H):bq Γ (.da (.v i) (.c (.ty n))) σ H Q:=
 Pm (aC h0 (aX ⟨D,b,he,hc, .inr ⟨_,rfl⟩,hk,q⟩))
theorem agR{Γ:aJ}{cs:List Addr}{cK ea D:Addr}{j:Nat}{H:Hp}{Q:VK}(hl:cs.length=13)(hg: ∀i c,cs[i]?=some c→Γ.gv i= .ref c)(hi:Γ.gv 13= .ref cK)(he:ExcAt H ea D)(hk:j8 Γ.K cs cK D j)(hj:j<13)(q: ∀H',ax H H'→Q (.str (iW.getD j "")) H'):
  au Γ dZ (Dn Q) [some (.ref ea),none,none] H:=by
 refine Cv (agN (En hk hg [("text",0),("change",1),("fit",2)] _ H _ (by rw[hl];decide) rfl he fun vs H1 s1 hv=> ⟨?_,fun d hd=> ?_⟩))
 ·have:=Paired.length hv
  exact cz (by rw[this];simp)
 have s2:=s1.trans (sameNew (o:= .lst vs) hd)
 have zM:=qJ.mono (sameNew (o:= .lst vs) hd) hv
 have tD:=Paired.length hv
 refine zL hk hg [("place",3),("side",4),("mark",5)] (by rw[hl];decide) (he.same s2) av zM (by rw[tD];simp) fun l3 ni H3 s3 h3 Eo=> ?_
 have PL:=Paired.length Eo
 refine zL hk hg [("node",6),("cursor",7)] (by rw[hl];decide) ((he.same s2).same s3) h3 Eo (by rw[PL];simp) fun l4 xs4 H4 s4 h4 Ep=> ?_
 have PM:=Paired.length Ep
 refine zL hk hg [("deed",8),("letter",9)] (by rw[hl];decide) (((he.same s2).same s3).same s4) h4 Ep (by rw[PM];simp) fun l5 xs5 H5 s5 h5 Er=> ?_
 have PN:=Paired.length Er
 refine zL hk hg [("gone",10),("hand",11),("note",12)] (by rw[hl];decide) ((((he.same s2).same s3).same s4).same s5) h5 Er (by rw[PN];simp) fun l6 il H6 s6 h6 PQ=> ?_
 have wm:Paired (jz H6) il ((iW.zipIdx).map fun p=> (p.1,decide (p.2=j))):=PQ
 obtain⟨pick,ap5⟩:=agM j hj
 have agS:((iW.zipIdx).map fun p=> (p.1,decide (p.2=j))).length=13:=by rw[List.length_map];rfl
 generalize ((iW.zipIdx).map fun p=> (p.1,decide (p.2=j)))=its at wm pick agS
 have j4:=Paired.length wm
 have he6:=((((he.same s2).same s3).same s4).same s5).same s6
 have j9:=(((s2.trans s3).trans s4).trans s5).trans s6
 clear PQ Er Ep Eo zM hv tD PL PM PN
 refine Cw ⟨_,rfl,l6,rfl,⟨_,ao.of h6⟩,fun i m ys H7=>m=il.length - i∧i≤il.length∧H7=H6∧ys=(((its.take i).filter (·.2)).map (·.1)).map V.str,⟨_,rfl,Nat.zero_le _,rfl,rfl⟩, ?_⟩
 rintro i m ys H7 ⟨rfl,dX,rfl,rfl⟩
 by_cases aP:i<il.length
 ·refine .inr ⟨⟨il,il[i],ao.of h6,by simp[aP]⟩, ?_⟩
  rintro x H8 ⟨rfl,hx⟩
  obtain⟨⟨w,b⟩,hp,t,rfl,ht⟩:=qJ.get wm (hx il (ao.of h6))
  have tf:=agO (·.2) (·.1) its i _ hp
  refine⟨t,_,rfl,aI.of ht,rfl,_,rfl, ?_⟩
  show if b=true then _ else _
  cases b with
  | true=>
   refine fk ⟨_,rfl, ?_,il.length - (i+1),by omega,rfl,aP,rfl, ?_⟩
   ·rw[List.length_map,List.length_map]
    have:=List.length_filter_le (·.2) (its.take i)
    have:=List.length_take_le i its
    exact cY (by omega)
   ·rw[tf];simp
  | false=>
   refine iN ⟨il.length - (i+1),by omega,rfl,aP,rfl, ?_⟩
   rw[tf];simp
 ·have dB:i=il.length:=by omega
  subst dB
  refine .inl ⟨⟨il,ao.of h6,Nat.le_refl _⟩,fun p hp=> ?_⟩
  rw[j4,show its.take its.length=its from List.take_length ..,pick]
  have s7:=sameNew (o:= .lst (List.map V.str [iW.getD j ""])) hp
  have PR:=he6.same s7
  refine Z0 (agP rfl PR hk.cls hi hk.cK (agQ rfl PR hk.cls hk.val ?_))
  refine⟨rfl,_,rfl,[iW.getD j ""],ao.of av, ?_, ?_⟩
  ·unfold JoinOk
   show(!decide (0+ (iW.getD j "").length+ (Str.ofString "/").length>sizeLine))=true
   rw[decide_eq_false];rfl
   have:(Str.ofString "/").length=1:=rfl
   have:(1000:Nat)≤sizeLine:=by decide
   omega
  ·rw[join_one]
   exact q _ (j9.trans s7)
theorem agU{K:PySem.W.Frag}{c0 c1 c2 c3 c4 c5 c6 c7 c8 c9 iz gE iA cK:Addr}(vs:List V)(H:Hp)(Q:VK)(h:wk K [c0,c1,c2,c3,c4,c5,c6,c7,c8,c9,iz,gE,iA] cK vs H Q E0):
  au (aU K [] (gW c0 c1 c2 c3 c4 c5 c6 c7 c8 c9 iz gE iA cK)) dZ (Dn Q) (start jq vs) H:=by
 obtain⟨ea,D,j,rfl,he,hk,hj,q⟩:=h
 refine agR (Γ:=aU K [] (gW c0 c1 c2 c3 c4 c5 c6 c7 c8 c9 iz gE iA cK)) (cs:=[c0,c1,c2,c3,c4,c5,c6,c7,c8,c9,iz,gE,iA]) rfl (fun i c hi=> ?_) rfl he hk hj q
 have dX:i<13:=(List.getElem?_eq_some_iff.mp hi).1
 match i,dX with
 | 0,_ | 1,_ | 2,_ | 3,_ | 4,_ | 5,_ | 6,_ | 7,_ | 8,_ | 9,_ | 10,_ | 11,_ | 12,_=>exact congrArg V.ref (Option.some.inj hi)
theorem Run.good{l r:List Nat}{ps:List Pt}(h:Run l ps r)(hl: ∀c∈l,SG.cps.contains c=true)(hp: ∀p∈ps,sY p): ∀c∈r,SG.cps.contains c=true:=by
 induction h with
 | nil=>exact hl
 | keep e _ ih=>
  intro c hc
  rcases List.mem_append.mp hc with z | z
  ·exact hl c (List.mem_append.mpr (.inl z))
  ·exact ih (fun d hd=>hl d (List.mem_append.mpr (.inr hd))) (fun p h=>hp p (.tail _ h)) c z
 | put _ ih=>
  intro c hc
  rcases List.mem_append.mp hc with z | z
  ·exact(hp _ (.head _):sg _) c z
  ·exact ih hl (fun p h=>hp p (.tail _ h)) c z
 | cut _ ih=>exact ih (fun d hd=>hl d (List.mem_append.mpr (.inr hd))) (fun p h=>hp p (.tail _ h))
theorem Run.len{l r:List Nat}{ps:List Pt}(h:Run l ps r):r.length≤l.length+aG ps:=by
 induction h with
 | nil=>simp
 | @keep a l r n ps e _ ih=>
  have:aG (.keep n::ps)=0+aG ps:=by simp[aG,cQ]
  simp only[List.length_append];omega
 | @put s l r ps _ ih=>
  have:aG (.put s::ps)=s.length+aG ps:=by simp[aG,cQ]
  have e:=len_list s
  simp only[List.length_append];omega
 | @cut s l r ps _ ih=>
  have:aG (.cut s::ps)=s.length+aG ps:=by simp[aG,cQ]
  simp only[List.length_append];omega
theorem PU{x:Str}(k:Nat)(n:Int)(m:Nat)(hn:n=m):kU x (some (k:Int)) (some ((k:Int)+n))=⟨((x.cps.toList.drop k).take m).toArray⟩:=by
 have e1:(k:Int)+n=((k+m:Nat):Int):=by rw[hn];simp
 unfold kU kT
 rw[e1,HT.jc,HT.jc]
 congr 1
 by_cases h:k≤x.cps.toList.length
 ·rw[show min k x.cps.toList.length=k by omega]
  by_cases h2:k+m≤x.cps.toList.length
  ·rw[show min (k+m) x.cps.toList.length=k+m by omega,Nat.add_sub_cancel_left]
  ·rw[show min (k+m) x.cps.toList.length=x.cps.toList.length by omega,List.take_of_length_le (by rw[List.length_drop];omega),List.take_of_length_le (by rw[List.length_drop];omega)]
 ·rw[show min k x.cps.toList.length=x.cps.toList.length by omega,List.drop_length,List.drop_of_length_le (by omega),List.take_nil,List.take_nil]
theorem agV{x y:Str}(hx:good x)(hy:good y)(hl:x.length+y.length≤1000000):good (x++y):=by
 refine⟨by rw[ip];exact hl,fun c hc=> ?_⟩
 rw[app_list] at hc
 rcases List.mem_append.mp hc with z | z
 ·exact hx.2 c z
 ·exact hy.2 c z
abbrev aq:=Str×Nat×Nat
def tE(H:Hp)(v:V)(r:aq):Prop:= ∃t n,v= .ref t∧H t=some (.tup [.ref n, .str ⟨#[r.2.2]⟩])∧H n=some (.tup [.str r.1, .int (r.2.1:Nat)])
abbrev bj(H:Hp):List V→List aq→Prop:=Paired (tE H)
theorem tE.mono{H H':Hp}{v:V}{r:aq}(t:dJ H H')(h:tE H v r):tE H' v r:=by
 obtain⟨a,n,e,h1,h2⟩:=h
 exact⟨a,n,e,t _ _ h1,t _ _ h2⟩
theorem bj.mono{H H':Hp}(t:dJ H H'): ∀{vs:List V} {rs:List aq},bj H vs rs→bj H' vs rs
 | _,_, .nil=> .nil
 | _,_, .cons h r=> .cons (h.mono t) (bj.mono t r)
theorem bj.get{H:Hp}: ∀{vs:List V} {rs:List aq} {i:Nat} {v:V},bj H vs rs→vs[i]?=some v→ ∃r,rs[i]?=some r∧tE H v r
 | _,_,i,v, .nil,e=>by simp at e
 | _,_,0,v, .cons h r,e=>by simp at e;subst e;exact⟨_,rfl,h⟩
 | _,_,i+1,v, .cons h r,e=>by
  obtain⟨p,a,b⟩:=bj.get (i:=i) r (by simpa using e)
  exact⟨p,by simpa using a,b⟩
theorem bj.drop{H:Hp}: ∀(k:Nat) {vs:List V} {rs:List aq},bj H vs rs→bj H (vs.drop k) (rs.drop k)
 | 0,_,_,h=>h
 | k+1,_,_, .nil=> .nil
 | k+1,_,_, .cons _ r=>bj.drop k r
theorem bj.take{H:Hp}: ∀(k:Nat) {vs:List V} {rs:List aq},bj H vs rs→bj H (vs.take k) (rs.take k)
 | 0,_,_,_=> .nil
 | k+1,_,_, .nil=> .nil
 | k+1,_,_, .cons h r=> .cons h (bj.take k r)
def d_(who:Str):Nat→List Nat→List aq
 | _,[]=> []
 | m,c::l=> (who,m,c)::d_ who (m+1) l
theorem qK(who:Str): ∀(m:Nat) (l:List Nat),(d_ who m l).length=l.length
 | _,[]=>rfl
 | m,c::l=>by simp[d_,qK who (m+1) l]
theorem PV(who:Str): ∀(m:Nat) (l:List Nat) (i c:Nat),l[i]?=some c→(d_ who m l)[i]?=some (who,m+i,c)
 | m,[],i,c,h=>by simp at h
 | m,d::l,0,c,h=>by simp at h;subst h;rfl
 | m,d::l,i+1,c,h=>by
  have:=PV who (m+1) l i c (by simpa using h)
  show(d_ who (m+1) l)[i]?=_
  rw[this,show m+1+i=m+ (i+1) by omega]
theorem Es(who:Str)(m:Nat)(l:List Nat)(i c:Nat)(h:l[i]?=some c):(d_ who m l).take (i+1)=(d_ who m l).take i++ [(who,m+i,c)]:=by
 rw[List.take_add_one,PV who m l i c h];rfl
def bf(who:Str):List aq→Nat→List At→List aq
 | _,_,[]=> []
 | rows,m, .P c::xs=> (who,m,c)::bf who rows (m+1) xs
 | r::rows,m, .K::xs=>r::bf who rows m xs
 | [],m, .K::xs=>bf who [] m xs
 | _::rows,m, .C _::xs=>bf who rows m xs
 | [],m, .C _::xs=>bf who [] m xs
theorem PX(who:Str)(rows:List aq)(xs:List At): ∀(s:List Nat) (m:Nat),bf who rows m (s.map .P++xs)=d_ who m s++bf who rows (m+s.length) xs
 | [],m=>rfl
 | c::s,m=>by
  show(who,m,c)::bf who rows (m+1) (s.map .P++xs)=_
  rw[PX who rows xs s (m+1),List.length_cons,show m+1+s.length=m+ (s.length+1) by omega];rfl
theorem PY(who:Str)(rows:List aq)(m:Nat)(xs:List At): ∀(a:List aq),bf who (a++rows) m (rK a.length++xs)=a++bf who rows m xs
 | []=>rfl
 | r::a=>by
  show r::bf who (a++rows) m (rK a.length++xs)=_
  rw[PY who rows m xs a];rfl
theorem PZ(who:Str)(rows:List aq)(m:Nat)(xs:List At): ∀(a:List aq) (s:List Nat),a.length=s.length→bf who (a++rows) m (s.map .C++xs)=bf who rows m xs
 | [],[],_=>rfl
 | r::a,c::s,h=>PZ who rows m xs a s (by simpa using h)
 | [],c::s,h=>by simp at h
 | r::a,[],h=>by simp at h
theorem Et{x:Str}{i:Nat}(h:i<x.cps.toList.length):eQ x.cps.toList ((i:Nat):Int)=some x.cps.toList[i]:=kN (by simp[h])
def wo:Sp:=fun vs H Q E=> ∃x:Str,vs=[.str x]∧x.length≤100000∧ ∀(b:Addr) (H':Hp) (ys:List V),ax H H'→H b=none→H' b=some (.lst ys)→bj H' ys (d_ "old" 0 x.cps.toList)→Q (.ref b) H'
theorem agW{K:PySem.W.Frag}(vs:List V)(H:Hp)(Q:VK)(E:XK)(h:wo vs H Q E):au (aU K [] [] (E:=E)) Dk (Dn Q) (start Dj vs) H:=by
 obtain⟨x,rfl,hl,q⟩:=h
 have lx:=len_list x
 refine⟨_,rfl,cz (by omega),(x.length:Int),rfl,by omega,by omega,Eb (n:=x.length) (by omega) (fun i ys H2=>bj H2 ys ((d_ "old" 0 x.cps.toList).take i)) .nil ?_ ?_⟩
 ·intro i ys H2 hi s2 hy Q' hq
  have nt:i<x.cps.toList.length:=by omega
  have hc:x.cps.toList[i]?=some x.cps.toList[i]:=List.getElem?_eq_getElem nt
  refine⟨_,rfl,(by show 2≤sizeLine;decide),fun n hn=> ⟨_,rfl,_,rfl, .inr (.inr (.inl ⟨x,0+ (i:Int),x.cps.toList[i],rfl,rfl,cz (by omega), ?_,(by show 2≤sizeLine;decide),fun t ht=> ?_⟩))⟩⟩
  ·rw[show(0:Int)+ (i:Int)=((i:Nat):Int) by omega];exact Et (by omega)
  ·have s3:=sameNew (o:= .tup [V.str "old",V.int (0+ (i:Int))]) hn
   have s4:=sameNew (o:= .tup [V.ref n,V.str ⟨#[x.cps.toList[i]]⟩]) ht
   refine hq (.ref t) _ (s3.trans s4) ?_
   rw[Es "old" 0 _ i _ hc]
   refine Paired.snoc (hy.mono (aM (s3.trans s4))) ⟨t,n,rfl,av, ?_⟩
   rw[s4 _ _ av]
   show some (HO.tup [V.str "old",V.int (0+ (i:Int))])=some (HO.tup [V.str "old",V.int ((0+i:Nat):Int)])
   rw[show(0:Int)+ (i:Int)=((0+i:Nat):Int) by omega]
 ·intro ys H2 p s2 hy hp
  rw[List.take_of_length_le (by rw[qK];omega)] at hy
  exact q p _ ys (s2.trans (sameNew hp)) (s2.free hp) av (hy.mono (aM (sameNew hp)))
theorem agX{xs a b c:List V}(h:xs=a++ (b++c))(n:Int)(hn:n=b.length):fJ xs (some (a.length:Int)) (some ((a.length:Int)+n))=b:=by
 have e1:(a.length:Int)+n=((a.length+b.length:Nat):Int):=by rw[hn];simp
 unfold fJ
 rw[e1,HT.jc,HT.jc,h]
 have l1:(a++ (b++c)).length=a.length+ (b.length+c.length):=by simp
 rw[l1]
 have m1:min a.length (a.length+ (b.length+c.length))=a.length:=by omega
 have m2:min (a.length+b.length) (a.length+ (b.length+c.length))=a.length+b.length:=by omega
 rw[m1,m2,List.drop_left,show a.length+b.length - a.length=b.length by omega,List.take_left]
def j_:Sp:=fun vs H Q E=> ∃(a b:Addr) (who:Str) (rv xs:List V) (rows:List aq) (ps:List Pt) (l r:List Nat),vs=[.ref a, .ref b, .str who]∧H a=some (.lst rv)∧bj H rv rows∧H b=some (.lst xs)∧aQ H xs ps∧(∀p∈ps,bp p)∧Run l ps r∧l.length=rows.length∧rows.length≤100000∧aG ps≤100000∧
 ∀(d:Addr) (H':Hp) (ys:List V),ax H H'→H d=none→H' d=some (.lst ys)→bj H' ys (bf who rows 0 (ak ps))→Q (.ref d) H'
theorem agY{K:PySem.W.Frag}(vs:List V)(H:Hp)(Q:VK)(E:XK)(h:j_ vs H Q E):au (aU K [] [] (E:=E)) Dm (Dn Q) (start Dl vs) H:=by
 obtain⟨a,b,who,rv,xs,rows,ps,l,r,rfl,ha,P0,hb,cv,aB,gM,hlr,DN,tF,q⟩:=h
 have lx:=Paired.length cv
 have lr:=Paired.length P0
 refine⟨Nat.zero_le _,fun d0 vp=> ?_⟩
 have s0:=sameNew (o:= .lst []) vp
 refine⟨_,rfl,b,rfl,⟨_,ao.of (s0 _ _ hb)⟩,mM (K:=K) (a:=b) (xs:=xs) (fun i σ H2=> ∃(d:Addr) (ys v1 v2:List V) (dn r1 r2:List aq) (m:Nat) (l2 q2:List Nat) (w v:Option V),σ=[some (.ref a),some (.ref b),some (.str who),some (.ref d),some (.int (v1.length:Int)),some (.int (m:Int)),w,v]∧ax H H2∧H d=none∧H2 d=some (.lst ys)∧
   bj H2 ys dn∧rv=v1++v2∧rows=r1++r2∧v1.length=r1.length∧bf who rows 0 (ak ps)=dn++bf who r2 m (ak (ps.drop i))∧Run l2 (ps.drop i) q2∧l2.length=r2.length∧dn.length≤r1.length+aG (ps.take i))
  ⟨d0,[],[],rv,[],[],rows,0,l,r,none,none,rfl,s0,vp,av, .nil,rfl,rfl,rfl,rfl,gM,hlr,Nat.zero_le _⟩
  (fun i σ H2 _ ⟨_,_,_,_,_,_,_,_,_,_,_,_,_,s2,_⟩=>ao.of (s2 _ _ hb)) ?_ ?_⟩
 ·rintro i y σ H2 hi ⟨d,ys,v1,v2,dn,r1,r2,m,l2,q2,w,v,rfl,s2,fd,iX,bg,ev,er,el,eg,gQ,je,hdn⟩
  obtain⟨pt,eT,ij⟩:=cv.get hi
  obtain⟨pa,rfl,Eu⟩:=ij.mono (aM s2)
  have dX:i<ps.length:=(List.getElem?_eq_some_iff.mp eT).1
  have ed:ps.drop i=pt::ps.drop (i+1):=by
   rw[List.drop_eq_getElem_cons dX]
   congr 1
   exact Option.some.inj ((List.getElem?_eq_getElem dX).symm.trans eT)
  rw[ed] at gQ eg
  rw[cZ] at eg
  have lZ:=aB pt (List.mem_of_getElem? eT)
  have jv:=Paired.length bg
  have ts:=zl eT
  have tt:=vO ps (i+1)
  have hrr:rows.length=r1.length+r2.length:=by rw[er,List.length_append]
  refine⟨pa,_,rfl, .inl (aI.of Eu),rfl,_,_,rfl,_,_,rfl,rfl, ?_⟩
  cases pt with
  | put s=>
   have ls:=len_list s
   have iJ:s.length≤100000:=by have:cQ (.put s)=s.length:=rfl;omega
   refine⟨_,rfl,_,rfl, ?_⟩
   refine⟨_,rfl,_,rfl,cz lZ.1.1,(s.length:Int),rfl,by omega,by omega,Eb (n:=s.length) (by omega) (fun j zs H3=>bj H3 zs ((d_ who m s.cps.toList).take j)) .nil ?_ ?_⟩
   ·intro j zs H3 hj s3 hz Q' hq
    have nt:j<s.cps.toList.length:=by omega
    have hc:s.cps.toList[j]?=some s.cps.toList[j]:=List.getElem?_eq_getElem nt
    refine⟨_,rfl,_,rfl,_,rfl,(by show 2≤sizeLine;decide),fun n hn=> ⟨_,rfl,_,rfl, .inr (.inr (.inl ⟨s,0+ (j:Int),s.cps.toList[j],rfl,rfl,cz (by omega), ?_,(by show 2≤sizeLine;decide),fun t ht=> ?_⟩))⟩⟩
    ·rw[show(0:Int)+ (j:Int)=((j:Nat):Int) by omega];exact Et nt
    ·have s4:=sameNew (o:= .tup [V.str who,V.int ((m:Int)+ (0+ (j:Int)))]) hn
     have s5:=sameNew (o:= .tup [V.ref n,V.str ⟨#[s.cps.toList[j]]⟩]) ht
     refine hq (.ref t) _ (s4.trans s5) ?_
     rw[Es who m _ j _ hc]
     refine Paired.snoc (hz.mono (aM (s4.trans s5))) ⟨t,n,rfl,av, ?_⟩
     rw[s5 _ _ av]
     show some (HO.tup [V.str who,V.int ((m:Int)+ (0+ (j:Int)))])=some (HO.tup [V.str who,V.int ((m+j:Nat):Int)])
     rw[show(m:Int)+ (0+ (j:Int))=((m+j:Nat):Int) by omega]
   ·intro zs H3 p s3 hz hp
    rw[List.take_of_length_le (by rw[qK];omega)] at hz
    have DQ:=Paired.length hz
    rw[qK] at DQ
    have s4:=sameNew (o:= .lst zs) hp
    have wq:=s4 _ _ (s3 _ _ iX)
    refine .inl ⟨d,p,ys,zs,rfl,rfl,wq,av,cz (by omega),fun e he=> ?_⟩
    have s5:=sameNew (o:= .lst (ys++zs)) he
    have nH:=s3.trans (s4.trans s5)
    refine⟨_,rfl,_,rfl,cz lZ.1.1, ?_⟩
    have Ew:Run l2 (ps.drop (i+1)) (q2.drop s.cps.toList.length):=by
     cases gQ with
     | put hr=>rw[List.drop_left];exact hr
    refine⟨e,ys++zs,v1,v2,dn++d_ who m s.cps.toList,r1,r2,m+s.length,l2,_,some (.str "put"),some (.str s), ?_,s2.trans nH,(s2.trans (s3.trans s4)).free he,av,Paired.app ((bg.mono (aM nH))) (hz.mono (aM (s4.trans s5))),ev,er,el, ?_,Ew,je, ?_⟩
    ·show[_,_,_,_,_,some (V.int ((m:Int)+ (s.length:Int))),_,_]=_
     rw[Int.natCast_add];rfl
    ·rw[eg]
     show dn++bf who r2 m (s.cps.toList.map At.P++_)=_
     rw[PX,List.append_assoc,ls]
    ·rw[List.length_append,qK,ts]
     have:cQ (.put s)=s.length:=rfl
     omega
  | cut s=>
   have ls:=len_list s
   obtain⟨la,lb,qa,qb,Ex,eq1,Ey,one⟩:=D3 gQ
   obtain⟨o1,o2⟩:=one
   have zN:la.length=s.length:=by rw[o1,ls]
   rw[Ex,List.length_append] at je
   refine⟨_,rfl,_,rfl,_,rfl,_,rfl,_,rfl,_,rfl,cz lZ.1.1, ?_⟩
   have h1:s.length≤r2.length:=by omega
   have tD:v1.length+v2.length=rows.length:=by rw[←lr,ev,List.length_append]
   refine⟨d,ys,v1++v2.take s.length,v2.drop s.length,dn,r1++r2.take s.length,r2.drop s.length,m,lb,qb,some (.str "cut"),some (.str s), ?_,s2,fd,iX,bg,by rw[List.append_assoc,List.take_append_drop];exact ev,by rw[List.append_assoc,List.take_append_drop];exact er,by simp only[List.length_append,List.length_take];omega, ?_,Ey,by rw[List.length_drop];omega, ?_⟩
   ·show[_,_,_,_,some (V.int ((v1.length:Int)+ (s.length:Int))),_,_,_]=_
    rw[List.length_append,List.length_take,show min s.length v2.length=s.length by omega,Int.natCast_add];rfl
   ·rw[eg]
    congr 1
    show bf who r2 m (s.cps.toList.map At.C++_)=_
    have:=PZ who (r2.drop s.length) m (ak (ps.drop (i+1))) (r2.take s.length) s.cps.toList (by rw[List.length_take,←ls];omega)
    rw[List.take_append_drop] at this
    exact this
   ·have:cQ (.cut s)=s.length:=rfl
    simp only[List.length_append,List.length_take];omega
  | keep n=>
   have gh:(1:Int)≤n:=lZ
   obtain⟨la,lb,qa,qb,Ex,eq1,Ey,one⟩:=D3 gQ
   obtain⟨o1,o2⟩:=one
   rw[Ex,List.length_append] at je
   have h1:n.toNat≤r2.length:=by omega
   have tD:v1.length+v2.length=rows.length:=by rw[←lr,ev,List.length_append]
   have zM:bj H2 (v2.take n.toNat) (r2.take n.toNat):=by
    have:=(P0.mono (aM s2)).drop v1.length
    rw[ev,er,List.drop_left,el,List.drop_left] at this
    exact this.take n.toNat
   refine⟨_,rfl,_,rfl,_,rfl,_,rfl, ?_⟩
   refine⟨_,rfl,_,rfl,_,rfl,_,rfl,_,rfl,_,rfl,_,rfl, .inl ⟨rv,ao.of (s2 _ _ ha),fun p hp=> ?_⟩⟩
   rw[agX (xs:=rv) (a:=v1) (b:=v2.take n.toNat) (c:=v2.drop n.toNat) (by rw[List.take_append_drop];exact ev) n (by rw[List.length_take];omega)]
   have s4:=sameNew (o:= .lst (v2.take n.toNat)) hp
   have aP:(v2.take n.toNat).length=n.toNat:=by rw[List.length_take];omega
   refine .inl ⟨d,p,ys,v2.take n.toNat,rfl,rfl,s4 _ _ iX,av,cz (by omega),fun e he=> ?_⟩
   have s5:=sameNew (o:= .lst (ys++v2.take n.toNat)) he
   have nH:=s4.trans s5
   refine⟨_,rfl,_,rfl, ?_⟩
   refine⟨e,ys++v2.take n.toNat,v1++v2.take n.toNat,v2.drop n.toNat,dn++r2.take n.toNat,r1++r2.take n.toNat,r2.drop n.toNat,m,lb,qb,some (.str "keep"),some (.int n), ?_,s2.trans nH,(s2.trans s4).free he,av,Paired.app (bg.mono (aM nH)) (zM.mono (aM nH)),by rw[List.append_assoc,List.take_append_drop];exact ev,by rw[List.append_assoc,List.take_append_drop];exact er,by simp only[List.length_append,List.length_take];omega, ?_,Ey,by rw[List.length_drop];omega, ?_⟩
   ·show[_,_,_,_,some (V.int ((v1.length:Int)+n)),_,_,_]=_
    rw[List.length_append,aP,show(v1.length:Int)+n=((v1.length+n.toNat:Nat):Int) by omega];rfl
   ·rw[eg,List.append_assoc]
    congr 1
    show bf who r2 m (rK n.toNat++_)=_
    have:=PY who (r2.drop n.toNat) m (ak (ps.drop (i+1))) (r2.take n.toNat)
    rw[List.take_append_drop,List.length_take,show min n.toNat r2.length=n.toNat by omega] at this
    exact this
   ·have:cQ (.keep n)=0:=rfl
    simp only[List.length_append,List.length_take];omega
 ·rintro σ H2 ⟨d,ys,v1,v2,dn,r1,r2,m,l2,q2,w,v,rfl,s2,fd,iX,bg,ev,er,el,eg,gQ,je,hdn⟩
  rw[lx,List.drop_length] at eg
  have e0:bf who r2 m (ak [])=[]:=by cases r2<;>rfl
  rw[e0,List.append_nil] at eg
  rw[←eg] at bg
  exact⟨_,rfl,q d H2 ys s2 fd iX bg⟩
theorem Ez{k:Str}{v:V}{r:List (Str×V)}:((k,v)::r).lookup k=some v:=by simp[List.lookup]
theorem tG{k j:Str}{v:V}{r:List (Str×V)}(h: ¬k=j):((j,v)::r).lookup k=r.lookup k:=by
 have:(k==j)=false:=by simpa using h
 simp[List.lookup,this]
theorem P2{k:Str}{v w:V}{r:List (Str×V)}:cO k v ((k,w)::r)=(k,v)::r:=by simp[cO]
theorem tH{k j:Str}{v w:V}{r:List (Str×V)}(h: ¬j=k):cO k v ((j,w)::r)=(j,w)::cO k v r:=by simp[cO,h]
def bz:Pt→Nat | .keep n=>n.toNat | .put s=>s.length | .cut s=>s.length
def ee:Pt→Nat→Pt
 | .keep n,o=> .keep (n - o)
 | .put s,o=> .put ⟨(s.cps.toList.drop o).toArray⟩
 | .cut s,o=> .cut ⟨(s.cps.toList.drop o).toArray⟩
def aY:Pt→Nat→Pt
 | .keep _,o=> .keep o
 | .put s,o=> .put ⟨(s.cps.toList.take o).toArray⟩
 | .cut s,o=> .cut ⟨(s.cps.toList.take o).toArray⟩
theorem P4(p:Pt)(o:Nat):(ee p o).word=p.word:=by cases p<;>rfl
theorem ag1(p:Pt)(o:Nat):(aY p o).word=p.word:=by cases p<;>rfl
theorem iB{p:Pt}(h:bp p):qv p=(bz p:Int)∧1≤bz p:=by
 cases p with
 | keep n=>
  have h1:(1:Int)≤n:=h
  exact⟨by show n=(n.toNat:Int);omega,by show 1≤n.toNat;omega⟩
 | put s=>
  obtain⟨c,r,e⟩:=iy h.2
  exact⟨rfl,by show 1≤s.length;rw[len_list,e];simp⟩
 | cut s=>
  obtain⟨c,r,e⟩:=iy h.2
  exact⟨rfl,by show 1≤s.length;rw[len_list,e];simp⟩
theorem iC(l:List Nat):(⟨l.toArray⟩:Str).length=l.length:=by rw[len_list]
theorem wt(p:Pt)(o:Nat)(h:o≤bz p):bz (ee p o)=bz p - o:=by
 cases p with
 | keep n=>
  have h':o≤n.toNat:=h
  show(n - (o:Int)).toNat=n.toNat - o
  omega
 | put s=>show(⟨(s.cps.toList.drop o).toArray⟩:Str).length=s.length - o;rw[iC,List.length_drop,←len_list]
 | cut s=>show(⟨(s.cps.toList.drop o).toArray⟩:Str).length=s.length - o;rw[iC,List.length_drop,←len_list]
theorem tI(p:Pt)(o:Nat)(h:o≤bz p):bz (aY p o)=o:=by
 cases p with
 | keep n=>show((o:Int)).toNat=o;omega
 | put s=>
  have h':o≤s.length:=h
  rw[len_list] at h'
  show(⟨(s.cps.toList.take o).toArray⟩:Str).length=o;rw[iC,List.length_take];omega
 | cut s=>
  have h':o≤s.length:=h
  rw[len_list] at h'
  show(⟨(s.cps.toList.take o).toArray⟩:Str).length=o;rw[iC,List.length_take];omega
theorem drop_zero(p:Pt):ee p 0=p:=by
 cases p with
 | keep n=>show Pt.keep (n - ((0:Nat):Int))=_;rw[show n - ((0:Nat):Int)=n by omega]
 | put s=>show Pt.put ⟨(s.cps.toList.drop 0).toArray⟩=_;rw[List.drop_zero,zy]
 | cut s=>show Pt.cut ⟨(s.cps.toList.drop 0).toArray⟩=_;rw[List.drop_zero,zy]
theorem drop_drop(p:Pt)(a b:Nat):ee (ee p a) b=ee p (a+b):=by
 cases p with
 | keep n=>show Pt.keep (n - (a:Int) - (b:Int))=Pt.keep (n - ((a+b:Nat):Int));congr 1;omega
 | put s=>show Pt.put ⟨((s.cps.toList.drop a).drop b).toArray⟩=Pt.put ⟨(s.cps.toList.drop (a+b)).toArray⟩;rw[List.drop_drop]
 | cut s=>show Pt.cut ⟨((s.cps.toList.drop a).drop b).toArray⟩=Pt.cut ⟨(s.cps.toList.drop (a+b)).toArray⟩;rw[List.drop_drop]
theorem take_all(p:Pt)(h:eU p):aY p (bz p)=p:=by
 cases p with
 | keep n=>
  have h':0≤n:=h
  show Pt.keep ((n.toNat:Nat):Int)=_;rw[show((n.toNat:Nat):Int)=n by omega]
 | put s=>show Pt.put ⟨(s.cps.toList.take s.length).toArray⟩=_;rw[len_list,List.take_length,zy]
 | cut s=>show Pt.cut ⟨(s.cps.toList.take s.length).toArray⟩=_;rw[len_list,List.take_length,zy]
theorem ag2(p:Pt)(o:Nat)(h:o≤bz p):b_ p=b_ (aY p o)++b_ (ee p o):=by
 cases p with
 | keep n=>
  have h':o≤n.toNat:=h
  show rK n.toNat=rK ((o:Nat):Int).toNat++rK (n - (o:Int)).toNat
  rw[Pu];congr 1;omega
 | put s=>
  show s.cps.toList.map At.P=(s.cps.toList.take o).map At.P++ (s.cps.toList.drop o).map At.P
  rw[←List.map_append,List.take_append_drop]
 | cut s=>
  show s.cps.toList.map At.C=(s.cps.toList.take o).map At.C++ (s.cps.toList.drop o).map At.C
  rw[←List.map_append,List.take_append_drop]
theorem zO{s:Str}(h:good s)(l:List Nat)(hl:l.length≤s.length)(hm: ∀c∈l,c∈s.cps.toList):good ⟨l.toArray⟩:=
 ⟨by rw[iC];exact Nat.le_trans hl h.1,fun c hc=>h.2 c (hm c hc)⟩
theorem zP{l:List Nat}(h:l≠ []):(⟨l.toArray⟩:Str)≠"":=fun z=>h (by have:=congrArg (fun s=>s.cps.toList) z;exact this)
theorem ag3{p:Pt}{o:Nat}(h:bp p)(ho:o<bz p):bp (ee p o):=by
 cases p with
 | keep n=>
  have h':o<n.toNat:=ho
  show(1:Int)≤n - (o:Int)
  omega
 | put s=>
  have h':o<s.cps.toList.length:=by rw[←len_list];exact ho
  exact⟨zO h.1 _ (by rw[List.length_drop,←len_list];omega) fun c hc=>List.mem_of_mem_drop hc,zP (by intro z;have:=congrArg List.length z;rw[List.length_drop] at this;have t2:s.cps.toList.length - o=0:=this;omega)⟩
 | cut s=>
  have h':o<s.cps.toList.length:=by rw[←len_list];exact ho
  exact⟨zO h.1 _ (by rw[List.length_drop,←len_list];omega) fun c hc=>List.mem_of_mem_drop hc,zP (by intro z;have:=congrArg List.length z;rw[List.length_drop] at this;have t2:s.cps.toList.length - o=0:=this;omega)⟩
theorem P5{p:Pt}{o:Nat}(h:bp p)(ho:1≤o)(h1:o≤bz p):bp (aY p o):=by
 cases p with
 | keep n=>show(1:Int)≤ (o:Int);omega
 | put s=>
  have h':o≤s.cps.toList.length:=by rw[←len_list];exact h1
  exact⟨zO h.1 _ (by rw[List.length_take,←len_list];omega) fun c hc=>List.mem_of_mem_take hc,zP (by intro z;have:=congrArg List.length z;rw[List.length_take] at this;have t2:min o s.cps.toList.length=0:=this;omega)⟩
 | cut s=>
  have h':o≤s.cps.toList.length:=by rw[←len_list];exact h1
  exact⟨zO h.1 _ (by rw[List.length_take,←len_list];omega) fun c hc=>List.mem_of_mem_take hc,zP (by intro z;have:=congrArg List.length z;rw[List.length_take] at this;have t2:min o s.cps.toList.length=0:=this;omega)⟩
def wf(L:Addr)(i o:Int):List (Str×V):=[("parts", .ref L),("passed_by", .int i),("offset", .int o)]
theorem zQ{L:Addr}{i o:Int}:(wf L i o).lookup ("parts":Str)=some (.ref L):=Ez
theorem wu{L:Addr}{i o:Int}:(wf L i o).lookup ("passed_by":Str)=some (.int i):=(tG (by decide+kernel)).trans Ez
theorem P6{L:Addr}{i o:Int}:(wf L i o).lookup ("offset":Str)=some (.int o):=(tG (by decide+kernel)).trans ((tG (by decide+kernel)).trans Ez)
theorem zR{L:Addr}{i o:Int}{m:Str}(h1: ¬m="parts")(h2: ¬m="passed_by")(h3: ¬m="offset"):(wf L i o).lookup m=none:=(tG h1).trans ((tG h2).trans ((tG h3).trans rfl))
theorem P7{L:Addr}{i o k:Int}:cO "offset" (.int k) (wf L i o)=wf L i k:=by
 unfold wf
 rw[tH (by decide+kernel),tH (by decide+kernel),P2]
theorem ag4{L:Addr}{i o k:Int}:cO "passed_by" (.int k) (wf L i o)=wf L k o:=by
 unfold wf
 rw[tH (by decide+kernel),P2]
theorem ag5{L:Addr}:cO "offset" (.int 0) (cO "passed_by" (.int 0) (cO "parts" (.ref L) []))=wf L 0 0:=by
 have e1:cO "parts" (V.ref L) []=[(("parts":Str),V.ref L)]:=rfl
 rw[e1,tH (by decide+kernel)]
 have e2:cO "passed_by" (V.int 0) []=[(("passed_by":Str),V.int 0)]:=rfl
 rw[e2,tH (by decide+kernel),tH (by decide+kernel)]
 rfl
def bK(C:Addr)(H:Hp)(w L:Addr)(rs:List Pt):Prop:= ∃(dx:Addr) (xs:List V) (ps:List Pt) (i o:Nat),H w=some (.ins C dx (wf L i o))∧H L=some (.lst xs)∧aQ H xs ps∧(∀p∈ps,bp p)∧ps.length≤100000∧
 ((ps.drop i=[]∧rs=[])∨ ∃p t,ps.drop i=p::t∧o<bz p∧rs=ee p o::t)
theorem bK.keep{C:Addr}{H H':Hp}{w L:Addr}{rs:List Pt}(h:bK C H w L rs)(k: ∀b o,H b=some o→b=w∨b=L∨(∃xs,o= .tup xs)→H' b=some o):bK C H' w L rs:=by
 obtain⟨dx,xs,ps,i,o,h1,h2,h3,h4⟩:=h
 exact⟨dx,xs,ps,i,o,k _ _ h1 (.inl rfl),k _ _ h2 (.inr (.inl rfl)),h3.mono fun b ys e=>k _ _ e (.inr (.inr ⟨ys,rfl⟩)),h4⟩
theorem bK.same{C:Addr}{H H':Hp}{w L:Addr}{rs:List Pt}(h:bK C H w L rs)(s:ax H H'):bK C H' w L rs:=h.keep fun b o e _=>s b o e
theorem bK.but{C:Addr}{H H':Hp}{w L c:Addr}{rs:List Pt}{xs:List V}(h:bK C H w L rs)(b:cn c H H')(hc:H c=some (.lst xs))(hn:c≠L):bK C H' w L rs:=by
 refine h.keep fun d o e z=>b d o e ?_
 obtain⟨dx,_,_,_,_,h1,_⟩:=h
 rcases z with rfl | rfl | ⟨ys,rfl⟩
 ·exact bC h1 hc (by intro z;cases z)
 ·exact hn.symm
 ·exact bC e hc (by intro z;cases z)
theorem bK.ok{C:Addr}{H:Hp}{w L:Addr}{rs:List Pt}(h:bK C H w L rs): ∀p∈rs,bp p:=by
 obtain⟨dx,xs,ps,i,o,h1,h2,h3,h4,h5,⟨_,rfl⟩ | ⟨p,t,e,ho,rfl⟩⟩:=h
 ·intro p hp;cases hp
 ·have hm: ∀q∈p::t,bp q:=fun q hq=>h4 q (List.mem_of_mem_drop (by rw[e];exact hq))
  intro q hq
  rcases List.mem_cons.mp hq with rfl | hq
  ·exact ag3 (hm p (.head _)) ho
  ·exact hm q (.tail _ hq)
def jA:List Pt→Str
 | []=> ""
 | p::_=>p.word
def gR(C:Addr):Sp:=fun vs H Q E=> ∃(w dx a:Addr) (xs:List V) (ps:List Pt),vs=[.ref w, .ref a]∧H w=some (.ins C dx [])∧H a=some (.lst xs)∧aQ H xs ps∧(∀p∈ps,bp p)∧ps.length≤100000∧
 ∀L H',H L=none→L≠w→cn w H H'→bK C H' w L ps→Q .aw H'
theorem ag6{K:PySem.W.Frag}{C:Addr}(T:pE K C)(vs:List V)(H:Hp)(Q:VK)(E:XK)(h:gR C vs H Q E):au (aU K [] [] (E:=E)) C8 (Dn Q) (start C7 vs) H:=by
 obtain⟨w,dx,a,xs,ps,rfl,hw,ha,cv,aB,hl,k⟩:=h
 refine⟨_,rfl,xs, .inl (ao.of ha),fun L hL=> ?_⟩
 have nw:w≠L:=aW hw hL
 refine⟨_,rfl,w,C,dx,[],rfl,(by rw[aD nw];exact hw),T.cl,T.vJ,(by show 0<1000;decide), ?_⟩
 refine⟨_,rfl,w,C,dx,_,rfl,av,T.cl,T.pF,(by show 1<1000;decide), ?_⟩
 refine⟨_,rfl,w,C,dx,_,rfl,av,T.cl,T.vK,(by show 2<1000;decide), ?_⟩
 rw[xp,xp]
 have b:cn w H (upd (upd H L (.lst xs)) w (.ins C dx (cO "offset" (.int 0) (cO "passed_by" (.int 0) (cO "parts" (.ref L) []))))):=fun c o e n=>by rw[aD n,aD (aW e hL)];exact e
 refine k L _ hL nw.symm b ⟨dx,xs,ps,0,0, ?_, ?_,cv.mono ?_,aB,hl, ?_⟩
 ·rw[av,ag5];rfl
 ·rw[aD nw.symm,av]
 ·intro c ys e
  exact b c _ e (bC e hw (by intro z;cases z))
 ·cases ps with
  | nil=>exact .inl ⟨rfl,rfl⟩
  | cons p t=>exact .inr ⟨p,t,rfl,(iB (aB p (.head _))).2,by rw[drop_zero]⟩
theorem EA{ps:List Pt}{i:Nat}{p:Pt}{t:List Pt}(h:ps.drop i=p::t):ps[i]?=some p∧ps.drop (i+1)=t∧i<ps.length:=by
 have hl:i<ps.length:=by
  rcases Nat.lt_or_ge i ps.length with z | z
  ·exact z
  ·rw[List.drop_of_length_le z] at h;cases h
 refine⟨?_, ?_,hl⟩
 ·have:=congrArg List.head? h
  rw[List.head?_drop] at this
  simpa using this
 ·rw[←List.drop_drop,h];rfl
theorem aQ.at{H:Hp}{xs:List V}{ps:List Pt}{i:Nat}{p:Pt}(h:aQ H xs ps)(e:ps[i]?=some p): ∃a,xs[i]?=some (.ref a)∧H a=some (.tup [.str p.word,p.val]):=by
 have hl:=Paired.length h
 have hi:i<xs.length:=by rw[hl];exact(List.getElem?_eq_some_iff.mp e).1
 obtain⟨q,hq,a,ea,ha⟩:=h.get (i:=i) (v:=xs[i]) (by simp[hi])
 rw[e] at hq;cases hq
 exact⟨a,by rw[←ea];simp[hi],ha⟩
def qL(C:Addr):Sp:=fun vs H Q E=> ∃(w L:Addr) (rs:List Pt),vs=[.ref w]∧bK C H w L rs∧Q (.str (jA rs)) H
theorem ag7{K:PySem.W.Frag}{C:Addr}(T:pE K C)(vs:List V)(H:Hp)(Q:VK)(E:XK)(h:qL C vs H Q E):au (aU K [] [] (E:=E)) C_ (Dn Q) (start C9 vs) H:=by
 obtain⟨w,L,rs,rfl,⟨dx,xs,ps,i,o,h1,h2,h3,h4,h5,h6⟩,q⟩:=h
 have hl:=Paired.length h3
 refine⟨_,rfl,w,C,dx,_,_,rfl,h1,T.cl,T.pF,wu,_,rfl,w,C,dx,_,_,rfl,h1,T.cl,T.vJ,zQ, .inl ⟨_,ao.of h2,trivial,_,rfl, ?_⟩⟩
 rcases h6 with⟨e,rfl⟩ | ⟨p,t,e,ho,rfl⟩
 ·have:ps.length≤i:=by
   rcases Nat.lt_or_ge i ps.length with z | z
   ·rw[List.drop_eq_getElem_cons z] at e;cases e
   ·exact z
  exact iF q (decide_eq_false (by omega))
 ·obtain⟨e1,e2,e3⟩:=EA e
  obtain⟨a,ea,ha⟩:=h3.at e1
  refine iT ?_ (decide_eq_true (by omega))
  refine⟨_,rfl,w,C,dx,_,_,rfl,h1,T.cl,T.vJ,zQ,_,rfl,w,C,dx,_,_,rfl,h1,T.cl,T.pF,wu, .inl ⟨_,_,_,_,rfl,rfl,ao.of h2,kN ea, ?_⟩⟩
  refine .inr (.inl ⟨_,_,_,_,rfl,rfl,aI.of ha,rfl, ?_⟩)
  rw[show jA (ee p o::t)=p.word from P4 p o] at q
  exact q
def tJ(C:Addr):Sp:=fun vs H Q E=> ∃(w L dx:Addr) (xs:List V) (ps:List Pt) (i o:Nat) (p:Pt),vs=[.ref w]∧H w=some (.ins C dx (wf L i o))∧H L=some (.lst xs)∧aQ H xs ps∧ps[i]?=some p∧bp p∧Q (.int ((bz p:Int) - (o:Int))) H
theorem ag8{K:PySem.W.Frag}{C:Addr}(T:pE K C)(vs:List V)(H:Hp)(Q:VK)(E:XK)(h:tJ C vs H Q E):au (aU K [("part_size",js)] [] (E:=E)) Dd (Dn Q) (start Dc vs) H:=by
 obtain⟨w,L,dx,xs,ps,i,o,p,rfl,h1,h2,h3,e1,hp,q⟩:=h
 obtain⟨a,ea,ha⟩:=h3.at e1
 refine⟨_,rfl,w,C,dx,_,_,rfl,h1,T.cl,T.vJ,zQ,_,rfl,w,C,dx,_,_,rfl,h1,T.cl,T.pF,wu, .inl ⟨_,_,_,_,rfl,rfl,ao.of h2,kN ea, ?_⟩⟩
 refine⟨_,p,rfl,⟨a,rfl,ha⟩,DG hp, ?_⟩
 refine⟨_,rfl,w,C,dx,_,_,rfl,h1,T.cl,T.vK,P6,trivial, ?_⟩
 rw[(iB hp).1]
 exact q
def nI(C:Addr):Sp:=fun vs H Q E=> ∃(w L:Addr) (p:Pt) (t:List Pt),vs=[.ref w]∧bK C H w L (p::t)∧Q (.int (bz p:Int)) H
theorem EB{C:Addr}{vs:List V}{H:Hp}{Q:VK}{E:XK}(h:nI C vs H Q E):tJ C vs H Q E:=by
 obtain⟨w,L,p,t,rfl,⟨dx,xs,ps,i,o,h1,h2,h3,h4,h5,⟨_,e⟩ | ⟨p',t',e,ho,e'⟩⟩,q⟩:=h
 ·cases e
 ·cases e'
  obtain⟨e1,_,_⟩:=EA e
  refine⟨w,L,dx,xs,ps,i,o,p',rfl,h1,h2,h3,e1,h4 _ (List.mem_of_getElem? e1), ?_⟩
  rw[wt p' o (by omega)] at q
  rw[show((bz p':Int) - (o:Int))=((bz p' - o:Nat):Int) by omega]
  exact q
def cw(p:Pt)(t:List Pt)(k:Nat):List Pt:=if k=bz p then t else ee p k::t
def l_(C:Addr):Sp:=fun vs H Q E=> ∃(w L:Addr) (p:Pt) (t:List Pt) (k:Nat),vs=[.ref w, .int (k:Int)]∧bK C H w L (p::t)∧1≤k∧k≤bz p∧
 ∀r H',cn w H H'→H' r=some (.tup [.str (aY p k).word,(aY p k).val])→H r=none→bK C H' w L (cw p t k)→Q (.ref r) H'
theorem ag9{K:PySem.W.Frag}{C:Addr}(T:pE K C)(vs:List V)(H:Hp)(Q:VK)(E:XK)(h:l_ C vs H Q E):au (aU K [] [] [] [("left",C,tJ C)] (E:=E)) y_ (Dn Q) (start De vs) H:=by
 obtain⟨w,L,p,t,k,rfl,⟨dx,xs,ps,i,o,h1,h2,h3,h4,h5,⟨_,e⟩ | ⟨p',t',e,ho,e'⟩⟩,hk1,hk2,q⟩:=h
 ·cases e
 cases e'
 obtain⟨e1,e2,e3⟩:=EA e
 obtain⟨a,ea,ha⟩:=h3.at e1
 have hp:=h4 _ (List.mem_of_getElem? e1)
 rw[wt p' o (by omega)] at hk2
 have P8:w≠L:=bC h1 h2 (by intro z;cases z)
 have nwa:a≠w:=bC ha h1 (by intro z;cases z)
 refine⟨_,rfl,w,C,dx,_,_,rfl,h1,T.cl,T.vJ,zQ,_,rfl,w,C,dx,_,_,rfl,h1,T.cl,T.pF,wu, .inl ⟨_,_,_,_,rfl,rfl,ao.of h2,kN ea, ?_⟩⟩
 refine⟨_,rfl,w,C,dx,_,_,rfl,h1,T.cl,T.vK,P6, ?_⟩
 refine⟨_,rfl,_,rfl, ?_⟩
 refine⟨_,rfl,_,rfl,w,C,dx,_,rfl,h1,T.cl,T.vK,(by show 3<1000;decide), ?_⟩
 rw[P7,show(o:Int)+ (k:Int)=((o+k:Nat):Int) by omega]
 have tup: ∀(fs:List (Str×V)),dJ H (upd H w (.ins C dx fs)):=fun fs b ys eb=>by rw[aD (bC eb h1 (by intro z;cases z))];exact eb
 refine⟨_,rfl,w,dx,_,rfl,av,zR (by decide+kernel) (by decide+kernel) (by decide+kernel),w,L,dx,xs,ps,i,o+k,p',rfl,av,(by rw[aD P8.symm];exact h2),h3.mono (tup _),e1,hp, ?_⟩
 have fin: ∀(i' o':Nat),((ps.drop i'=[]∧cw (ee p' o) t k=[])∨ ∃p t',ps.drop i'=p::t'∧o'<bz p∧cw (ee p' o) t k=ee p o'::t')→
   au (aU K [] [] [] [("left",C,tJ C)] (E:=E)) (y_.drop 5) (Dn Q) [some (.ref w),some (.int (k:Int)),some (.ref a),some (.int (o:Int)),some (.int ((o+k:Nat):Int))] (upd H w (.ins C dx (wf L (i':Int) (o':Int)))):=by
  intro i' o' hr
  have sN:upd H w (.ins C dx (wf L (i':Int) (o':Int))) a=some (.tup [.str p'.word,p'.val]):=by rw[aD nwa];exact ha
  have done: ∀v:V,v=(aY (ee p' o) k).val→ ∀r,upd H w (.ins C dx (wf L (i':Int) (o':Int))) r=none→Q (.ref r) (upd (upd H w (.ins C dx (wf L (i':Int) (o':Int)))) r (.tup [.str p'.word,v])):=by
   rintro v rfl r gQ
   have P9:r≠w:=fun z=>by rw[z,av] at gQ;cases gQ
   have P_:H r=none:=by rw[aD P9] at gQ;exact gQ
   have bt:cn w H (upd (upd H w (.ins C dx (wf L (i':Int) (o':Int)))) r (.tup [.str p'.word,(aY (ee p' o) k).val])):=fun b ob eb nb'=>by rw[aD (aW eb P_),aD nb'];exact eb
   refine q r _ bt (by rw[av,ag1,P4]) P_ ⟨dx,xs,ps,i',o', ?_,bt _ _ h2 P8.symm,h3.mono fun b ys eb=>bt b _ eb (bC eb h1 (by intro z;cases z)),h4,h5,hr⟩
   rw[aD P9.symm,av]
  refine⟨_,rfl, .inr (.inl ⟨_,_,_,_,rfl,rfl,aI.of sN,rfl, ?_⟩)⟩
  refine⟨_,rfl, .inr (.inl ⟨_,_,_,_,rfl,rfl,aI.of sN,rfl,_,rfl, ?_⟩)⟩
  rw[Bool.false_xor,fI]
  cases p' with
  | keep n=>exact fk ⟨_,rfl,(by show 2≤sizeLine;decide),done _ rfl⟩
  | put s=>
   refine iN ⟨_,rfl, .inr (.inl ⟨_,_,_,_,rfl,rfl,aI.of sN,rfl,_,rfl,_,rfl,_,rfl,_,rfl,cz hp.1.1,(by show 2≤sizeLine;decide),done _ ?_⟩)⟩
   show V.str (kU s (some (o:Int)) (some ((o+k:Nat):Int)))=V.str ⟨((s.cps.toList.drop o).take k).toArray⟩
   rw[Int.natCast_add,PU o (k:Int) k rfl]
  | cut s=>
   refine iN ⟨_,rfl, .inr (.inl ⟨_,_,_,_,rfl,rfl,aI.of sN,rfl,_,rfl,_,rfl,_,rfl,_,rfl,cz hp.1.1,(by show 2≤sizeLine;decide),done _ ?_⟩)⟩
   show V.str (kU s (some (o:Int)) (some ((o+k:Nat):Int)))=V.str ⟨((s.cps.toList.drop o).take k).toArray⟩
   rw[Int.natCast_add,PU o (k:Int) k rfl]
 refine⟨_,rfl, ?_⟩
 rw[Bool.false_xor]
 by_cases hz:k=bz p' - o
 ·refine iT ?_ (decide_eq_true (by congr 1;omega))
  refine⟨_,rfl,w,C,dx,_,_,rfl,av,T.cl,T.pF,wu,_,rfl,w,C,dx,_,rfl,av,T.cl,T.pF,(by show 3<1000;decide), ?_⟩
  rw[xp,ag4]
  refine⟨_,rfl,w,C,dx,_,rfl,av,T.cl,T.vK,(by show 3<1000;decide), ?_⟩
  rw[xp,P7,show(i:Int)+1=((i+1:Nat):Int) by omega]
  refine fin (i+1) 0 ?_
  have er:cw (ee p' o) t k=t:=if_pos (by rw[wt p' o (by omega)];exact hz)
  rw[er,e2]
  cases t with
  | nil=>exact .inl ⟨rfl,rfl⟩
  | cons p2 t2=>
   have hm:bp p2:=h4 p2 (List.mem_of_mem_drop (by rw[e];exact .tail _ (.head _)))
   exact .inr ⟨p2,t2,rfl,(iB hm).2,by rw[drop_zero]⟩
 ·refine iF ?_ (decide_eq_false (by intro z;have z':(bz p':Int) - ((o+k:Nat):Int)=0:=(by injection z);omega))
  refine fin i (o+k) (.inr ⟨p',t,e,by omega, ?_⟩)
  have er:cw (ee p' o) t k=ee (ee p' o) k::t:=if_neg (by rw[wt p' o (by omega)];exact hz)
  rw[er,drop_drop]
end L2.B
namespace L2.B
def bb:List At→Nat
 | []=>0
 | .P _::xs=>bb xs
 | .K::xs=>bb xs+1
 | .C _::xs=>bb xs+1
def ez:List At→Nat
 | []=>0
 | .P _::xs=>ez xs+1
 | .K::xs=>ez xs+1
 | .C _::xs=>ez xs
def cnt:List At→Nat
 | []=>0
 | .K::xs=>cnt xs
 | .P _::xs=>cnt xs+1
 | .C _::xs=>cnt xs+1
theorem ma: ∀(xs:List At) (l:List Nat),fit l xs→l.length=bb xs
 | [],l,h=>by cases h;rfl
 | .P c::xs,l,h=>ma xs l h
 | .K::xs,[],h=>h.elim
 | .K::xs,a::l,h=>by simp[bb,ma xs l h]
 | .C c::xs,[],h=>h.elim
 | .C c::xs,a::l,h=>by simp[bb,ma xs l h.2]
theorem tK: ∀(xs:List At) (l:List Nat),fit l xs→(out l xs).length=ez xs
 | [],l,h=>rfl
 | .P c::xs,l,h=>by simp[out,ez,tK xs l h]
 | .K::xs,[],h=>h.elim
 | .K::xs,a::l,h=>by simp[out,ez,tK xs l h]
 | .C c::xs,[],h=>h.elim
 | .C c::xs,a::l,h=>tK xs l h.2
theorem nJ: ∀(xs ys:List At),bb (xs++ys)=bb xs+bb ys
 | [],ys=>by simp[bb]
 | .P c::xs,ys=>nJ xs ys
 | .K::xs,ys=>by simp only[List.cons_append,bb,nJ xs ys];omega
 | .C c::xs,ys=>by simp only[List.cons_append,bb,nJ xs ys];omega
theorem wx: ∀(xs ys:List At),cnt (xs++ys)=cnt xs+cnt ys
 | [],ys=>by simp[cnt]
 | .K::xs,ys=>wx xs ys
 | .P c::xs,ys=>by simp only[List.cons_append,cnt,wx xs ys];omega
 | .C c::xs,ys=>by simp only[List.cons_append,cnt,wx xs ys];omega
theorem wy{ys:List At}: ∀(xs:List At) (l:List Nat),fit l (xs++ys)→ ∃l1 l2,l=l1++l2∧fit l1 xs∧fit l2 ys∧out l (xs++ys)=out l1 xs++out l2 ys
 | [],l,h=> ⟨[],l,rfl,rfl,h,rfl⟩
 | .P c::xs,l,h=>by
  obtain⟨l1,l2,rfl,a,b,d⟩:=wy xs l h
  exact⟨l1,l2,rfl,a,b,by show c::out _ (xs++ys)=c::(out l1 xs++out l2 ys);rw[d]⟩
 | .K::xs,[],h=> (show False from h).elim
 | .K::xs,e::l,h=>by
  obtain⟨l1,l2,rfl,a,b,d⟩:=wy xs l h
  exact⟨e::l1,l2,rfl,a,b,by show e::out _ (xs++ys)=e::(out l1 xs++out l2 ys);rw[d]⟩
 | .C c::xs,[],h=> (show False from h).elim
 | .C c::xs,e::l,h=>by
  obtain⟨h0,h⟩:=(show e=c∧fit l (xs++ys) from h)
  obtain⟨l1,l2,rfl,a,b,d⟩:=wy xs l h
  exact⟨e::l1,l2,rfl,⟨h0,a⟩,b,d⟩
theorem ahc{a b:List Nat}{ys zs:List At}(h:fit (a++b) (ys++zs))(hl:a.length=bb ys):fit a ys∧fit b zs:=by
 obtain⟨l1,l2,e,h1,h2,_⟩:=wy ys _ h
 have:=ma _ _ h1
 obtain⟨rfl,rfl⟩:=List.append_inj e (by omega)
 exact⟨h1,h2⟩
theorem wz(n:Nat):bb (rK n)=n:=by
 induction n with
 | zero=>rfl
 | succ n ih=>show bb (rK n)+1=_;rw[ih]
theorem wA(s:List Nat):bb (s.map .C)=s.length:=by
 induction s with
 | nil=>rfl
 | cons c s ih=>show bb (s.map .C)+1=_;rw[ih];rfl
theorem cR.app{xs ys os ts dY fm xX Qa:List At}(h:cR xs ys os ts)(h':cR dY fm xX Qa):cR (xs++dY) (ys++fm) (os++xX) (ts++Qa):=by
 induction h with
 | nil=>exact h'
 | p1 _ ih=>exact .p1 ih
 | p2 _ ih=>exact .p2 ih
 | kk _ ih=>exact .kk ih
 | kc _ ih=>exact .kc ih
 | ck _ ih=>exact .ck ih
 | cc _ ih=>exact .cc ih
theorem Qc: ∀s:List Nat,cR (s.map .P) [] (s.map .P) (rK s.length)
 | []=> .nil
 | c::s=> .p1 (Qc s)
theorem Qd: ∀s:List Nat,cR [] (s.map .P) (rK s.length) (s.map .P)
 | []=> .nil
 | c::s=> .p2 (Qd s)
theorem Qe: ∀n:Nat,cR (rK n) (rK n) (rK n) (rK n)
 | 0=> .nil
 | n+1=> .kk (Qe n)
theorem Qg: ∀s:List Nat,cR (rK s.length) (s.map .C) [] (s.map .C)
 | []=> .nil
 | c::s=> .kc (Qg s)
theorem Qh: ∀s:List Nat,cR (s.map .C) (rK s.length) (s.map .C) []
 | []=> .nil
 | c::s=> .ck (Qh s)
theorem Qi: ∀s:List Nat,cR (s.map .C) (s.map .C) [] []
 | []=> .nil
 | c::s=> .cc (Qi s)
theorem cR.ahd{xs ys os ts:List At}(h:cR xs ys os ts):cnt os≤B.cnt xs∧cnt ts≤B.cnt ys:=by
 induction h<;>simp only[B.cnt] <;>omega
end L2.B
namespace L2
open PySem PySem.Spec PyProof.Rows
section
variable {Γ:aJ} {D:Ends} {σ:St} {H:Hp} {r:List RS} {Q:VK} {QA:List V→Hp→Prop} {QT:Bool→Hp→Prop}
theorem Qj{j:Nat}{m:Str}{o:RE}(C:Addr)(sp:Sp)(hm:Γ.ms j=(C,sp))(h:ag Γ o σ H fun x H1=> ∃a dx fs,x= .ref a∧H1 a=some (.ins C dx fs)∧fs.lookup m=none∧sp [x] H1 Q Γ.E):ag Γ (.di j m o []) σ H Q:=by
 show rV (Γ.ms j).1 m (Γ.ms j).2 [] Γ.E (ag Γ o) (bH Γ []) σ H Q
 rw[hm];exact h
theorem ahe{j:Nat}{m:Str}{o a:RE}(C:Addr)(sp:Sp)(hm:Γ.ms j=(C,sp))(h:ag Γ o σ H fun x H1=> ∃p dx fs,x= .ref p∧H1 p=some (.ins C dx fs)∧fs.lookup m=none∧ag Γ a σ H1 fun y H2=>sp [x,y] H2 Q Γ.E):ag Γ (.di j m o [a]) σ H Q:=by
 show rV (Γ.ms j).1 m (Γ.ms j).2 [] Γ.E (ag Γ o) (bH Γ [a]) σ H Q
 rw[hm];exact h
theorem zS{j:Nat}{a:RE}(C:Addr)(sp:Sp)(hm:Γ.kt j=(C,sp))(h:ag Γ a σ H fun y H1=> ∀x dx,H1 x=none→H1 dx=none→dx≠x→sp [.ref x,y] (upd (upd H1 dx (.own x)) x (.ins C dx [])) (fun v H2=>v= .aw∧Q (.ref x) H2) Γ.E):ag Γ (.make j [a]) σ H Q:=by
 show A5 (Γ.kt j).1 (Γ.kt j).2 [] Γ.E (bH Γ [a]) σ H Q
 rw[hm];exact h
theorem Qk{c:RE}{body:List RS}(W:Nat→St→Hp→Prop)(h0: ∃m,W m σ H)
  (h: ∀m σ H,W m σ H→bq Γ c σ H fun b H1=>if b=true then ∃N:St→Hp→Prop,(∀σ' H',N σ' H'→ ∃m',m'<m∧W m' σ' H')∧au Γ body {{D with nx:=au Γ r D} with nx:=N,ct:=N,bk:=au Γ r D} σ H1 else au Γ r D σ H1):au Γ (.yv c body::r) D σ H:=⟨W,h0,h⟩
theorem eW{c:RE}{t e:List RS}(h:bq Γ c σ H fun b H1=>if b=true then au Γ t {D with nx:=au Γ r D} σ H1 else au Γ e {D with nx:=au Γ r D} σ H1):au Γ (.ite c t e::r) D σ H:=h
theorem eY{op:CmpOp}{a b:RE}(h:ag Γ a σ H fun x H1=>ag Γ b σ H1 fun y H2=>dr Γ.K op x y H2 fun z H3=> ∃k,z= .bl k∧QT k H3):bq Γ (.cmp op a b) σ H QT:=h
theorem qM{m:hJ}{o a:RE}(h:ag Γ o σ H fun x H1=>uA Γ.K (yw m) x H1∧ag Γ a σ H1 fun y H2=>uY Γ.K m x [y] H2 Q):ag Γ (.cb m o [a]) σ H Q:=h
theorem me{K:PySem.W.Frag}{x y:Str}{Q:VK}(q:Q (.bl (x==y)) H):dr K .Eq (.str x) (.str y) H Q:=by
 show Q (.bl (false ^^ decide (V.str x=V.str y))) H
 rw[Bool.false_xor,fI];exact q
theorem wB{K:PySem.W.Frag}{x y:Str}{Q:VK}(q:Q (.bl (x !=y)) H):dr K .NotEq (.str x) (.str y) H Q:=by
 show Q (.bl (true ^^ decide (V.str x=V.str y))) H
 rw[Bool.true_xor,fI];exact q
end
end L2
namespace L2.B
open PySem PySem.Spec PyProof.Rows
theorem bK.ob{C:Addr}{H:Hp}{w L:Addr}{rs:List Pt}(h:bK C H w L rs): ∃(dx:Addr) (i o:Int),H w=some (.ins C dx (wf L i o)):=by
 obtain⟨dx,xs,ps,i,o,h1,_⟩:=h
 exact⟨dx,i,o,h1⟩
theorem EC{L:Addr}{i o:Int}:(wf L i o).lookup ("word":Str)=none∧(wf L i o).lookup ("left":Str)=none∧(wf L i o).lookup ("take":Str)=none:=
 ⟨zR (by decide+kernel) (by decide+kernel) (by decide+kernel),zR (by decide+kernel) (by decide+kernel) (by decide+kernel),zR (by decide+kernel) (by decide+kernel) (by decide+kernel)⟩
section
variable {Γ:aJ} {σ:St} {H:Hp} {Q:VK} {QT:Bool→Hp→Prop} {K:PySem.W.Frag}
theorem Ql{a b:RE}{r:List RE}(h:bq Γ a σ H fun c H1=>if c=true then QT true H1 else bq Γ (.or (b::r)) σ H1 QT):bq Γ (.or (a::b::r)) σ H QT:=h
theorem ahf{a:RE}(h:bq Γ a σ H QT):bq Γ (.or [a]) σ H QT:=h
theorem ahg{T:Ty}{a:RE}(h:ag Γ a σ H fun x H1=>bZ T x H1 fun b=>QT b H1):bq Γ (.dG T a) σ H QT:=by
 show gg Γ.K (jb (m3 T) (dt (ag Γ a) (dt (tC (.ty T.nm)) f_))) σ H QT
 have e: ∀(q:VK),(fun(x:V) (H1:Hp)=>bZ T x H1 fun b=>q (.bl b) H1)=fun x H1=>m3 T [x, .ty T.nm] H1 q:=by
  intro q;funext x H1;simp[m3]
 show ag Γ a σ H fun x H1=>m3 T [x, .ty T.nm] H1 fun v H2=>jP Γ.K v H2 fun b=>QT b H2
 rw[←e];exact h
theorem ka{sd:Addr→List (Key×V)→Prop}{a:Addr}{xs:List V}{i:Int}{v:V}(h:H a=some (.tup xs))(e:eQ xs i=some v)(q:Q v H):o6 K sd (.ref a) (.int i) H Q:=
 .inr (.inl ⟨_,_,_,_,rfl,rfl,aI.of h,e,q⟩)
theorem Qm{x y:Int}(q:Q (.bl (!decide (x=y))) H):dr K .NotEq (.int x) (.int y) H Q:=by
 show Q (.bl (true ^^ decide (V.int x=V.int y))) H
 rw[Bool.true_xor,show decide (V.int x=V.int y)=decide (x=y) from decide_eq_decide.mpr ⟨fun z=>by injection z,fun z=>by rw[z]⟩];exact q
theorem ahh{i j:Int}(h:Q (.int (i+j)) H):r9 K .Add (.int i) (.int j) H Q:=h
theorem ahi(h: ∀p,H p=none→Q (.ref p) (upd H p (.dK []))):ag Γ .yt σ H Q:=h
theorem pick{its:List V}{j:Int}(h0:0≤j)(h1:j<its.length): ∃v∈its,eQ its j=some v:=by
 have sR:j.toNat<its.length:=by omega
 refine⟨its[j.toNat],List.getElem_mem sR, ?_⟩
 have e:=kN (xs:=its) (j:=j.toNat) (v:=its[j.toNat]) (by simp[sR])
 rw[show((j.toNat:Nat):Int)=j by omega] at e
 exact e
end
theorem zT(p:Pt)(t:List Pt)(k:Nat):(cw p t k).length≤t.length+1:=by
 unfold cw;split<;>simp
theorem wC{p:Pt}(t:List Pt){k:Nat}(hk:k≤bz p):ak (p::t)=b_ (aY p k)++ak (cw p t k):=by
 unfold cw
 rw[cZ,ag2 p k hk]
 split
 ·rename_i e
  have:b_ (ee p k)=[]:=by
   have hz:=wt p k hk
   rw[e,Nat.sub_self] at hz
   cases p with
   | keep n=>
    have hZ:(n - (k:Int)).toNat=0:=by rw[e];exact hz
    show rK (n - (k:Int)).toNat=[]
    rw[hZ];rfl
   | put s=>
    rw[←e] at hz
    have hZ:(⟨(s.cps.toList.drop k).toArray⟩:Str).length=0:=hz
    rw[iC] at hZ
    show(s.cps.toList.drop k).map At.P=[]
    rw[List.length_eq_zero_iff.mp hZ];rfl
   | cut s=>
    rw[←e] at hz
    have hZ:(⟨(s.cps.toList.drop k).toArray⟩:Str).length=0:=hz
    rw[iC] at hZ
    show(s.cps.toList.drop k).map At.C=[]
    rw[List.length_eq_zero_iff.mp hZ];rfl
  rw[this,List.append_nil]
 ·rw[cZ,List.append_assoc]
theorem wD(p:Pt):(b_ p).length=bz p:=by
 cases p with
 | keep n=>show(rK n.toNat).length=_;unfold rK;rw[List.length_replicate];rfl
 | put s=>show(s.cps.toList.map At.P).length=_;rw[List.length_map,←len_list];rfl
 | cut s=>show(s.cps.toList.map At.C).length=_;rw[List.length_map,←len_list];rfl
theorem zU{p:Pt}(t:List Pt){k:Nat}(h1:1≤k)(hk:k≤bz p):(ak (cw p t k)).length< (ak (p::t)).length:=by
 rw[wC t hk,List.length_append,wD,tI p k hk]
 omega
theorem qN{Γ:aJ}{σ:St}{H:Hp}{Q:VK}{C w L:Addr}{rs:List Pt}{j i:Nat}(hm:Γ.ms j=(C,qL C))(hi:σ[i]?=some (some (.ref w)))(W:bK C H w L rs)(q:Q (.str (jA rs)) H):ag Γ (.di j "word" (.v i) []) σ H Q:=by
 obtain⟨dx,a,b,h1⟩:=W.ob
 exact Qj C (qL C) hm (aC hi ⟨w,dx,_,rfl,h1,EC.1,w,L,rs,rfl,W,q⟩)
theorem wF{Γ:aJ}{σ:St}{H:Hp}{Q:VK}{C w L:Addr}{p:Pt}{t:List Pt}{j i:Nat}(hm:Γ.ms j=(C,nI C))(hi:σ[i]?=some (some (.ref w)))(W:bK C H w L (p::t))(q:Q (.int (bz p:Int)) H):ag Γ (.di j "left" (.v i) []) σ H Q:=by
 obtain⟨dx,a,b,h1⟩:=W.ob
 exact Qj C (nI C) hm (aC hi ⟨w,dx,_,rfl,h1,EC.2.1,w,L,p,t,rfl,W,q⟩)
theorem wG{Γ:aJ}{σ:St}{H:Hp}{Q:VK}{C w L:Addr}{p:Pt}{t:List Pt}{j i k:Nat}{a:RE}(hm:Γ.ms j=(C,l_ C))(hi:σ[i]?=some (some (.ref w)))(W:bK C H w L (p::t))(h1:1≤k)(hk:k≤bz p)
  (ha: ∀Q':VK,Q' (.int (k:Int)) H→ag Γ a σ H Q') (q: ∀r H',cn w H H'→H' r=some (.tup [.str (aY p k).word,(aY p k).val])→H r=none→bK C H' w L (cw p t k)→Q (.ref r) H'):ag Γ (.di j "take" (.v i) [a]) σ H Q:=by
 obtain⟨dx,x,b,h0⟩:=W.ob
 refine ahe C (l_ C) hm (aC hi ⟨w,dx,_,rfl,h0,EC.2.2,ha _ ?_⟩)
 exact⟨w,L,p,t,k,rfl,W,h1,hk,q⟩
theorem cn.Qn{w:Addr}{H H':Hp}{C dx:Addr}{fs:List (Str×V)}(b:cn w H H')(h:H w=some (.ins C dx fs)):dJ H H':=fun c xs e=>b c _ e (bC e h (by intro z;cases z))
theorem ahj(p:Pt):cnt (b_ p)=cQ p:=by
 cases p with
 | keep n=>
  show cnt (rK n.toNat)=0
  have: ∀m,cnt (rK m)=0:=fun m=>by
   induction m with
   | zero=>rfl
   | succ m ih=>exact ih
  exact this _
 | put s=>
  show cnt (s.cps.toList.map At.P)=s.length
  rw[len_list]
  induction s.cps.toList with
  | nil=>rfl
  | cons c t ih=>show cnt (t.map At.P)+1=_;rw[ih];rfl
 | cut s=>
  show cnt (s.cps.toList.map At.C)=s.length
  rw[len_list]
  induction s.cps.toList with
  | nil=>rfl
  | cons c t ih=>show cnt (t.map At.C)+1=_;rw[ih];rfl
theorem ED(ps:List Pt):cnt (ak ps)=aG ps:=by
 induction ps with
 | nil=>rfl
 | cons p ps ih=>
  rw[cZ,wx,ahj,ih]
  simp[aG]
def qO(w c d:Addr)(H H':Hp):Prop:= ∀b o,H b=some o→b≠w→b≠c→b≠d→H' b=some o
theorem bK.zV{C:Addr}{H H':Hp}{w L v c d:Addr}{rs:List Pt}{xs ys:List V}(h:bK C H w L rs)(b:qO v c d H H')(hc:H c=some (.lst xs))(hd:H d=some (.lst ys))(nc:c≠L)(nd:d≠L)(nw:w≠v)(nv: ∃C' dx fs,H v=some (.ins C' dx fs)):bK C H' w L rs:=by
 obtain⟨C',EE,uh,hv⟩:=nv
 refine h.keep fun e o he z=>b e o he ?_ ?_ ?_
 all_goals obtain⟨dx,_,_,_,_,h1,h2,_⟩:=h
 ·rcases z with rfl | rfl | ⟨ys,rfl⟩
  ·exact nw
  ·exact bC h2 hv (by intro z;cases z)
  ·exact bC he hv (by intro z;cases z)
 ·rcases z with rfl | rfl | ⟨ys,rfl⟩
  ·exact bC h1 hc (by intro z;cases z)
  ·exact nc.symm
  ·exact bC he hc (by intro z;cases z)
 ·rcases z with rfl | rfl | ⟨ys,rfl⟩
  ·exact bC h1 hd (by intro z;cases z)
  ·exact nd.symm
  ·exact bC he hd (by intro z;cases z)
def kb(C:Addr):Sp:=fun vs H Q E=> ∃(w L c d:Addr) (s:Str) (t:List Pt) (xs ys:List V),vs=[.ref w, .ref c, .ref d]∧bK C H w L (.put s::t)∧H c=some (.lst xs)∧H d=some (.lst ys)∧c≠d∧c≠L∧d≠L∧xs.length≤100000∧ys.length≤100000∧
 ∀(a a2:Addr) (H':Hp),qO w c d H H'→H' c=some (.lst (xs++ [.ref a]))→H' d=some (.lst (ys++ [.ref a2]))→H' a=some (.tup [.str "put", .str s])→H' a2=some (.tup [.str "keep", .int (s.length:Int)])→bK C H' w L t→Q .aw H'
theorem ahk{K:PySem.W.Frag}{C:Addr}(vs:List V)(H:Hp)(Q:VK)(E:XK)(h:kb C vs H Q E):
  au (aU K [("part_size",js)] [] [] [("take",C,l_ C),("left",C,nI C)] (E:=E)) Dg (Dn Q) (start Df vs) H:=by
 obtain⟨w,L,c,d,s,t,xs,ys,rfl,W,hc,hd,dF,mf,mh,lx,ly,q⟩:=h
 have nK:=W.ok _ (.head _)
 obtain⟨pz1,pz2⟩:=iB nK
 have ta:aY (.put s) (bz (.put s))= .put s:=take_all _ trivial
 have re:cw (.put s) t (bz (.put s))=t:=if_pos rfl
 refine bU (wG (C:=C) (k:=bz (.put s)) rfl rfl W pz2 (Nat.le_refl _) (fun Q' hq=>wF (C:=C) rfl rfl W hq) fun a H1 b1 ha AI W1=> ?_)
 rw[ta] at ha
 rw[re] at W1
 obtain⟨_,_,_,hw⟩:=W.ob
 have qP:c≠w:=bC hc hw (by intro z;cases z)
 have qQ:d≠w:=bC hd hw (by intro z;cases z)
 have eJ:=b1 _ _ hc qP
 have EF:=b1 _ _ hd qQ
 refine ir (qM (aC rfl ⟨.inl ⟨rfl,_,ao.of eJ⟩,aC rfl ⟨xs,eJ,cY (by omega), ?_⟩⟩))
 have hd2:upd H1 c (.lst (xs++ [V.ref a])) d=some (.lst ys):=by rw[aD dF.symm];exact EF
 have gP:upd H1 c (.lst (xs++ [V.ref a])) a=some (.tup [.str "put", .str s]):=by rw[aD (bC ha eJ (by intro z;cases z))];exact ha
 refine ir (qM (aC rfl ⟨.inl ⟨rfl,_,ao.of hd2⟩,iq (ar (aX (ar (bN js rfl (ar (aC rfl (aR ⟨_, .put s,rfl,⟨a,rfl,gP⟩,DG nK,aR ⟨(by show 2≤sizeLine;decide),fun a2 h2=> ?_⟩⟩)))))))⟩))
 have Qo:upd (upd H1 c (.lst (xs++ [V.ref a]))) a2 (.tup [.str "keep", .int (qv (.put s))]) d=some (.lst ys):=by rw[aD (aW hd2 h2)];exact hd2
 refine⟨ys,Qo,cY (by omega), ?_⟩
 have Qp:c≠a2:=fun z=>by rw[←z,av] at h2;cases h2
 have ahm:d≠a2:=aW hd2 h2
 have f2:H1 a2=none:=by rw[aD Qp.symm] at h2;exact h2
 refine q a a2 _ ?_ ?_ av ?_ ?_ ?_
 ·intro b o e n1 n2 n3
  rw[aD n3,aD (aW (b1 b o e n1) f2),aD n2];exact b1 b o e n1
 ·rw[aD dF,aD Qp,av]
 ·rw[aD (bC gP hd2 (by intro z;cases z)),aD (aW gP h2)];exact gP
 ·rw[aD ahm.symm,av];rfl
 ·refine((W1.but cn.upd eJ mf).same (sameNew h2)).but cn.upd Qo mh
def dv:Pt→Bool | .keep _=>true | _=>false
def nN:Sp:=fun vs H Q E=> ∃(v1 v2:V) (c d:Addr) (p1 p2:Pt) (xs ys:List V),vs=[v1,v2, .ref c, .ref d]∧gA H v1 p1∧gA H v2 p2∧(∀s,p1≠ .put s)∧(∀s,p2≠ .put s)∧(∀s s',p1= .cut s→p2= .cut s'→s=s')∧H c=some (.lst xs)∧H d=some (.lst ys)∧c≠d∧xs.length≤100000∧ys.length≤100000∧
 ∀(H':Hp),(∀b o,H b=some o→b≠c→b≠d→H' b=some o)→H' c=some (.lst (xs++if dv p2 then [v1] else []))→H' d=some (.lst (ys++if dv p1 then [v2] else []))→Q .aw H'
theorem ahn{K:PySem.W.Frag}{et:List (Str×Addr)}(vs:List V)(H:Hp)(Q:VK)(E:XK)(h:nN vs H Q E):au (aU K [] [] (et:=et) (E:=E)) vH (Dn Q) (start za vs) H:=by
 obtain⟨v1,v2,c,d,p1,p2,xs,ys,rfl,⟨a1,rfl,h1⟩,⟨a2,rfl,h2⟩,np1,Qq,heq,hc,hd,dF,lx,ly,q⟩:=h
 have oA: ∀zs,upd H c (.lst zs) d=some (.lst ys):=fun zs=>by rw[aD dF.symm];exact hd
 have bc: ∀zs b o,H b=some o→b≠c→b≠d→upd H c (.lst zs) b=some o:=fun zs b o e n1 _=>by rw[aD n1];exact e
 have bd: ∀zs b o,H b=some o→b≠c→b≠d→upd H d (.lst zs) b=some o:=fun zs b o e _ n2=>by rw[aD n2];exact e
 have bcd: ∀zs ws b o,H b=some o→b≠c→b≠d→upd (upd H c (.lst zs)) d (.lst ws) b=some o:=fun zs ws b o e n1 n2=>by rw[aD n2,aD n1];exact e
 cases p1 with
 | put s=>exact absurd rfl (np1 s)
 | keep n=>
  refine⟨_,rfl, .inr (.inl ⟨_,_,_,_,rfl,rfl,aI.of h1,rfl,_,rfl, ?_⟩)⟩
  refine⟨_,rfl, .inr (.inl ⟨_,_,_,_,rfl,rfl,aI.of h2,rfl,_,rfl, ?_⟩)⟩
  cases p2 with
  | put s=>exact absurd rfl (Qq s)
  | keep m=>
   refine⟨_,rfl, .inl ⟨rfl,_,ao.of hc⟩,_,rfl,xs,hc,cY (by omega), ?_⟩
   have lW:upd H c (.lst (xs++ [V.ref a1])) a1=some (.tup [.str "keep", .int n]):=by rw[aD (bC h1 hc (by intro z;cases z))];exact h1
   refine⟨_,rfl, .inr (.inl ⟨_,_,_,_,rfl,rfl,aI.of lW,rfl,_,rfl, ?_⟩)⟩
   refine⟨_,rfl, .inl ⟨rfl,_,ao.of (oA _)⟩,_,rfl,ys,oA _,cY (by omega), ?_⟩
   exact q _ (bcd _ _) (by rw[aD dF,av];rfl) (by rw[av];rfl)
  | cut s=>
   refine⟨_,rfl, .inl ⟨rfl,_,ao.of hd⟩,_,rfl,ys,hd,cY (by omega), ?_⟩
   exact q _ (bd _) (by rw[aD dF,hc];simp[dv]) (by rw[av];rfl)
 | cut s=>
  refine⟨_,rfl, .inr (.inl ⟨_,_,_,_,rfl,rfl,aI.of h1,rfl,_,rfl, ?_⟩)⟩
  refine⟨_,rfl, .inr (.inl ⟨_,_,_,_,rfl,rfl,aI.of h2,rfl,_,rfl, ?_⟩)⟩
  cases p2 with
  | put s=>exact absurd rfl (Qq s)
  | keep m=>
   refine⟨_,rfl, .inr (.inl ⟨_,_,_,_,rfl,rfl,aI.of h2,rfl,_,rfl, ?_⟩)⟩
   refine⟨_,rfl, .inl ⟨rfl,_,ao.of hc⟩,_,rfl,xs,hc,cY (by omega), ?_⟩
   have lW:upd H c (.lst (xs++ [V.ref a1])) a1=some (.tup [.str "cut", .str s]):=by rw[aD (bC h1 hc (by intro z;cases z))];exact h1
   refine⟨_,rfl, .inr (.inl ⟨_,_,_,_,rfl,rfl,aI.of lW,rfl,_,rfl, ?_⟩)⟩
   exact q _ (bc _) (by rw[av];rfl) (by rw[oA];simp[dv])
  | cut s'=>
   have e:=heq s s' rfl rfl
   subst e
   refine⟨_,rfl, .inr (.inl ⟨_,_,_,_,rfl,rfl,aI.of h1,rfl,_,rfl, .inr (.inl ⟨_,_,_,_,rfl,rfl,aI.of h2,rfl,_,rfl, ?_⟩)⟩)⟩
   rw[Bool.true_xor,decide_eq_true (show(Pt.cut s).val=(Pt.cut s).val from rfl)]
   exact q _ (fun b o e _ _=>e) (by rw[hc];simp[dv]) (by rw[hd];simp[dv])
end L2.B
namespace L2
open PySem PySem.Spec PyProof.Rows
theorem Qr{Γ:aJ}{a b:RE}{σ:St}{H:Hp}{QT:Bool→Hp→Prop}(h:bq Γ a σ H fun c H1=>if c=true then QT true H1 else bq Γ b σ H1 QT):bq Γ (.or [a,b]) σ H QT:=h
end L2
namespace L2.B
open PySem PySem.Spec PyProof.Rows
inductive dN:List At→List At→List At→List At→Prop
 | nil:dN [] [] [] []
 | p1 {c xs ys os ts}:dN xs ys os ts→dN (.P c::xs) ys (.P c::os) (.K::ts)
 | p2 {c xs ys os ts}:(∀d zs,xs≠ .P d::zs)→dN xs ys os ts→dN xs (.P c::ys) (.K::os) (.P c::ts)
 | kk {xs ys os ts}:dN xs ys os ts→dN (.K::xs) (.K::ys) (.K::os) (.K::ts)
 | kc {c xs ys os ts}:dN xs ys os ts→dN (.K::xs) (.C c::ys) os (.C c::ts)
 | ck {c xs ys os ts}:dN xs ys os ts→dN (.C c::xs) (.K::ys) (.C c::os) ts
 | cc {c xs ys os ts}:dN xs ys os ts→dN (.C c::xs) (.C c::ys) os ts
def Seg(a b o t:List At):Prop:=cR a b o t∧ ∀xs ys os ts,dN xs ys os ts→dN (a++xs) (b++ys) (o++os) (t++ts)
theorem ahq(s:List Nat):Seg (s.map .P) [] (s.map .P) (rK s.length):=⟨Qc s,by
 induction s with
 | nil=>intro xs ys os ts h;exact h
 | cons c s ih=>intro xs ys os ts h;exact .p1 (ih xs ys os ts h)⟩
theorem ahr(n:Nat):Seg (rK n) (rK n) (rK n) (rK n):=⟨Qe n,by
 induction n with
 | zero=>intro xs ys os ts h;exact h
 | succ n ih=>intro xs ys os ts h;exact .kk (ih xs ys os ts h)⟩
theorem ahs(s:List Nat):Seg (rK s.length) (s.map .C) [] (s.map .C):=⟨Qg s,by
 induction s with
 | nil=>intro xs ys os ts h;exact h
 | cons c s ih=>intro xs ys os ts h;exact .kc (ih xs ys os ts h)⟩
theorem aht(s:List Nat):Seg (s.map .C) (rK s.length) (s.map .C) []:=⟨Qh s,by
 induction s with
 | nil=>intro xs ys os ts h;exact h
 | cons c s ih=>intro xs ys os ts h;exact .ck (ih xs ys os ts h)⟩
theorem ahu(s:List Nat):Seg (s.map .C) (s.map .C) [] []:=⟨Qi s,by
 induction s with
 | nil=>intro xs ys os ts h;exact h
 | cons c s ih=>intro xs ys os ts h;exact .cc (ih xs ys os ts h)⟩
theorem Qs{xs ys os ts:List At}(hn: ∀d zs,xs≠ .P d::zs)(h:dN xs ys os ts): ∀s:List Nat,dN xs (s.map .P++ys) (rK s.length++os) (s.map .P++ts)
 | []=>h
 | c::s=> .p2 hn (Qs hn h s)
def jB(xs ys a b z1 z2 o t:List At):Prop:=cR z1 z2 o t∧ ∀os ts,dN a b os ts→dN xs ys (o++os) (t++ts)
theorem jB.seg{xs ys a1 a b1 b z1 z2 o t o1 t1:List At}(h:jB xs ys (a1++a) (b1++b) z1 z2 o t)(s:Seg a1 b1 o1 t1):jB xs ys a b (z1++a1) (z2++b1) (o++o1) (t++t1):=
 ⟨h.1.app s.1,fun os ts hp=>by rw[List.append_assoc,List.append_assoc];exact h.2 _ _ (s.2 _ _ _ _ hp)⟩
theorem jB.p2{xs ys a b z1 z2 o t:List At}{s:List Nat}(hn: ∀d zs,a≠ .P d::zs)(h:jB xs ys a (s.map .P++b) z1 z2 o t):jB xs ys a b z1 (z2++s.map .P) (o++rK s.length) (t++s.map .P):=
 ⟨by have:=h.1.app (Qd s);rw[List.append_nil] at this;exact this,fun os ts hp=>by rw[List.append_assoc,List.append_assoc];exact h.2 _ _ (Qs hn hp s)⟩
theorem ahv{ps:List Pt}(ho: ∀p∈ps,bp p)(h:jA ps≠"put"): ∀d zs,ak ps≠ .P d::zs:=by
 intro d zs
 cases ps with
 | nil=>intro z;cases z
 | cons p t=>
  have hp:=ho p (.head _)
  rw[cZ]
  cases p with
  | put s=>exact absurd rfl h
  | keep n=>
   obtain⟨m,e⟩: ∃m,n.toNat=m+1:=⟨n.toNat - 1,by have:1≤n:=hp;omega⟩
   show rK n.toNat++_≠_
   rw[e];intro z;cases z
  | cut s=>
   obtain⟨c,r,e⟩:=iy hp.2
   show s.cps.toList.map At.C++_≠_
   rw[e];intro z;cases z
structure Passed (one other ps qs:List Pt) (l m n:List Nat):Prop where
 ok1: ∀p∈ps,bp p
 ok2: ∀p∈qs,bp p
 ke:chainOk "" ps=true
 nO:chainOk "" qs=true
 runs: ∃r,Run n ps r∧Run m qs r
 nP:ps.length≤3* (one.length+other.length)+2
 nQ:qs.length≤3* (one.length+other.length)+2
 ahy:aG ps≤aG one
 ap9:aG qs≤aG other
 pas: ∃os ts,cR (ak one) (ak other) os ts∧nb (ak ps)=nb os∧nb (ak qs)=nb ts
 ahz: ∃os ts,dN (ak one) (ak other) os ts∧nb (ak ps)=nb os∧nb (ak qs)=nb ts
theorem Qt{ps:List Pt}{l:List Nat}(ho: ∀p∈ps,bp p)(ht:aG ps≤100000)(h:fit l (ak ps)):(∀p∈iS ps,bp p)∧chainOk "" (iS ps)=true∧Run l (iS ps) (out l (ak ps))∧aG (iS ps)=aG ps:=by
 have mi:=afU ho ht
 have heq:=DS ps mi
 obtain⟨g1,g2,_⟩:=DW ps mi ht
 rw[heq]
 exact⟨g2,g1,D4 (s_ ps l (fun p hp=>sZ (ho p hp)) h),D9 ps mi⟩
theorem ahA{one other r1 r2:List Pt}{l m n:List Nat}(h1:Run l one m)(h2:Run l other n)(o1: ∀p∈r1,bp p)(o2: ∀p∈r2,bp p)(l1:r1.length≤one.length+other.length)(l2:r2.length≤one.length+other.length)(ht:aG one+aG other≤100000)
  (h:cR (ak one) (ak other) (ak r1) (ak r2)) (hO:dN (ak one) (ak other) (ak r1) (ak r2)):Passed one other (iS r1) (iS r2) l m n∧aG r1≤100000∧aG r2≤100000:=by
 obtain⟨c1,c2⟩:=h.ahd
 rw[ED,ED] at c1 c2
 obtain⟨f1,f2⟩:=h1.fits
 obtain⟨f3,f4⟩:=h2.fits
 obtain⟨g1,g2,g3⟩:=h.fits l f1 f3
 rw[f2] at g1 g3
 rw[f4] at g2 g3
 obtain⟨a1,a2,a3,a4⟩:=Qt o1 (by omega) g2
 obtain⟨b1,b2,b3,b4⟩:=Qt o2 (by omega) g1
 have n1:=DX r1
 have n2:=DX r2
 refine⟨⟨a1,b1,a2,b2,⟨_,a3,by rw[←g3];exact b3⟩,by omega,by omega,by omega,by omega,⟨_,_,h,wa r1 fun p hp=>sZ (o1 p hp),wa r2 fun p hp=>sZ (o2 p hp)⟩,⟨_,_,hO,wa r1 fun p hp=>sZ (o1 p hp),wa r2 fun p hp=>sZ (o2 p hp)⟩⟩,by omega,by omega⟩
def qR:Sp:=fun vs H Q E=> ∃(a b:Addr) (xs ys:List V) (one other:List Pt) (l m n:List Nat),vs=[.ref a, .ref b]∧H a=some (.lst xs)∧H b=some (.lst ys)∧aQ H xs one∧aQ H ys other∧(∀p∈one,bp p)∧(∀p∈other,bp p)∧chainOk "" one=true∧chainOk "" other=true∧
 one.length+other.length≤30000∧aG one+aG other≤100000∧Run l one m∧Run l other n∧
 ∀(t c d:Addr) (H':Hp) (zs ws:List V) (ps qs:List Pt),ax H H'→H c=none→H d=none→c≠d→H' t=some (.tup [.ref c, .ref d])→H' c=some (.lst zs)→H' d=some (.lst ws)→aQ H' zs ps→aQ H' ws qs→Passed one other ps qs l m n→Q (.ref t) H'
abbrev wH(C:Addr):List (Str×Sp):=[("sizes",iR),("put_first",kb C),("share",nN),("neat",nj)]
abbrev tL(C:Addr):List (Str×Addr×Sp):=[("word",C,qL C),("left",C,nI C),("take",C,l_ C)]
theorem EG{p:Pt}{t:List Pt}:(jA (p::t) !="")=true:=by
 cases p<;>rfl
theorem ahB{K:PySem.W.Frag}{C:Addr}{et:List (Str×Addr)}(T:pE K C)(vs:List V)(H:Hp)(Q:VK)(E:XK)(h:qR vs H Q E):
  au (aU K (wH C) [] [] (tL C) [("Walk",C,gR C)] (et:=et) (E:=E)) vI (Dn Q) (start zb vs) H:=by
 obtain⟨a,b,xs,ys,one,other,l,m,n,rfl,ha,hb,hG,bg,gI,eF,eJ,mR,hlen,tF,EH,gQ,q⟩:=h
 have lx:=Paired.length hG
 have ly:=Paired.length bg
 obtain⟨f1,f2⟩:=EH.fits
 obtain⟨f3,f4⟩:=gQ.fits
 refine eW (eY (dE (bN iR rfl (ar (aC rfl (aR ⟨a,xs,one,rfl,ha,hG,gI,eJ,by omega,fun t1 H1 s1 fS=> ?_⟩))))))
 refine aX (.inr (.inl ⟨_,_,_,_,rfl,rfl,aI.of fS,rfl, ?_⟩))
 refine dE (bN iR rfl (ar (aC rfl (aR ⟨b,ys,other,rfl,s1 _ _ hb,bg.mono (aM s1),eF,mR,by omega,fun t2 H2 s2 qB=> ?_⟩))))
 refine aX (.inr (.inl ⟨_,_,_,_,rfl,rfl,aI.of qB,rfl, ?_⟩))
 show ∃k,V.bl (true ^^ decide (V.int (overOf one).sum=V.int (overOf other).sum))=V.bl k∧_
 refine⟨_,rfl, ?_⟩
 rw[EH.over,gQ.over,decide_eq_true rfl]
 have eZ:=s1.trans s2
 refine bU (zS C (gR C) rfl (aC rfl fun w dx hw EI bx=> ?_))
 have s3:ax H2 (upd (upd H2 dx (.own w)) w (.ins C dx [])):=fun b o e=>by rw[aD (aW e hw),aD (aW e EI)];exact e
 have gT:=eZ.trans s3
 refine⟨w,dx,a,xs,one,rfl,av,gT _ _ ha,hG.mono (aM gT),gI,by omega,fun L H3 hL hLw b3 W=> ⟨rfl, ?_⟩⟩
 have kf:ax H H3:=fun b o e=>b3 b o (gT b o e) (aW (eZ b o e) hw)
 have fw:H w=none:=eZ.free hw
 refine bU (zS C (gR C) rfl (aC rfl fun v qS hv EJ ahD=> ?_))
 have s4:ax H3 (upd (upd H3 qS (.own v)) v (.ins C qS [])):=fun b o e=>by rw[aD (aW e hv),aD (aW e EJ)];exact e
 have wI:=kf.trans s4
 refine⟨v,qS,b,ys,other,rfl,av,wI _ _ hb,bg.mono (aM wI),eF,by omega,fun M H5 hM hMv b5 V5=> ⟨rfl, ?_⟩⟩
 have qT:ax H3 H5:=fun b o e=>b5 b o (s4 b o e) (aW e hv)
 have qU:=kf.trans qT
 have fv:H v=none:=kf.free hv
 have W5:=W.same qT
 obtain⟨_,_,_,EK⟩:=W.ob
 have mj:w≠v:=aW EK hv
 refine bU (gN (aR ⟨Nat.zero_le _,fun c hc=> ?_⟩))
 refine bU (gN (aR ⟨Nat.zero_le _,fun d hd=> ?_⟩))
 have dF:c≠d:=fun z=>by rw[←z,av] at hd;cases hd
 have jC:H5 d=none:=by rw[aD dF.symm] at hd;exact hd
 have fc:H c=none:=qU.free hc
 have fd:H d=none:=qU.free jC
 have lst: ∀{H4:Hp} {w' L':Addr} {rs:List Pt},bK C H4 w' L' rs→ ∃zs,H4 L'=some (.lst zs):=fun⟨_,zs,_,_,_,_,h,_⟩=> ⟨zs,h⟩
 obtain⟨_,wJ⟩:=lst W5
 obtain⟨_,wK⟩:=lst V5
 have mf:c≠L:=(aW wJ hc).symm
 have qW:c≠M:=(aW wK hc).symm
 have mh:d≠L:=(aW wJ jC).symm
 have qX:d≠M:=(aW wK jC).symm
 have s6:ax H5 (upd (upd H5 c (.lst [])) d (.lst [])):=(sameNew hc).trans (sameNew hd)
 refine Qk (fun mm σ H6=> ∃(u:Option V) (zs ws:List V) (r1 r2 p1 p2:List Pt) (z1 z2:List At) (l':List Nat),mm=(ak p1).length+ (ak p2).length∧σ=[some (.ref a),some (.ref b),some (.ref w),some (.ref v),some (.ref c),some (.ref d),u]∧ax H H6∧H6 c=some (.lst zs)∧H6 d=some (.lst ws)∧
   aQ H6 zs r1∧aQ H6 ws r2∧(∀p∈r1,bp p)∧(∀p∈r2,bp p)∧bK C H6 w L p1∧bK C H6 v M p2∧ak one=z1++ak p1∧ak other=z2++ak p2∧jB (ak one) (ak other) (ak p1) (ak p2) z1 z2 (ak r1) (ak r2)∧fit l' (ak p1)∧fit l' (ak p2)∧
   r1.length+p1.length+p2.length≤one.length+other.length∧r2.length+p1.length+p2.length≤one.length+other.length)
  ⟨_,none,[],[],[],[],one,other,[],[],l,rfl,rfl,qU.trans s6,(by rw[aD dF,av]),av, .nil, .nil,(fun p hp=>by cases hp),(fun p hp=>by cases hp),W5.same s6,V5.same s6,rfl,rfl,⟨.nil,fun _ _ h=>h⟩,f1,f3,by simp,by simp⟩ ?_
 rintro mm σ H6 ⟨u,zs,ws,r1,r2,p1,p2,z1,z2,l',rfl,rfl,j9,eK,fD,hz,tM,o1,o2,W6,V6,e1,e2,kg,fa,fb,nP,nQ⟩
 have DQ:=Paired.length hz
 have yb:=Paired.length tM
 obtain⟨dxw,iw,ow,iD⟩:=W6.ob
 obtain⟨dxv,iv,ov,nR⟩:=V6.ob
 have qP:c≠w:=bC eK iD (by intro z;cases z)
 have wL:c≠v:=bC eK nR (by intro z;cases z)
 have qQ:d≠w:=bC fD iD (by intro z;cases z)
 have wN:d≠v:=bC fD nR (by intro z;cases z)
 have fin:p1=[]→p2=[]→au (aU K (wH C) [] [] (tL C) [("Walk",C,gR C)] (et:=et) (E:=E)) [.ret (.tup [(.call 3 [(.v 4)]),(.call 3 [(.v 5)])])] (Dn Q) [some (.ref a),some (.ref b),some (.ref w),some (.ref v),some (.ref c),some (.ref d),u] H6:=by
  rintro rfl rfl
  rw[show ak []=[] from rfl,List.append_nil] at e1 e2
  subst e1 e2
  simp only[List.length_nil] at nP nQ
  have hO:=kg.2 [] [] .nil
  rw[List.append_nil,List.append_nil] at hO
  have kg:=kg.1
  obtain⟨J,t1,t2⟩:=ahA EH gQ o1 o2 (by omega) (by omega) tF kg hO
  refine j6 (iq (ar (bN nj rfl (ar (aC rfl (aR ⟨c,zs,r1,rfl,eK,hz,by omega,t1,fun e H7 vs7 s7 he h7 wm=> ?_⟩))))))
  refine ar (bN nj rfl (ar (aC rfl (aR ⟨d,ws,r2,rfl,s7 _ _ fD,tM.mono (aM s7),by omega,t2,fun g H8 vs8 s8 hg h8 hv8=> ?_⟩))))
  refine aR ⟨(by show 2≤sizeLine;decide),fun t ht=> ?_⟩
  have s9:=sameNew (o:= .tup [V.ref e,V.ref g]) ht
  have neg:e≠g:=aW h7 hg
  exact q t e g _ vs7 vs8 _ _ (j9.trans (s7.trans (s8.trans s9))) (j9.free he) ((j9.trans s7).free hg) neg av (s9 _ _ (s8 _ _ h7)) (s9 _ _ h8) ((wm.mono (aM s8)).mono (aM s9)) (hv8.mono (aM s9)) J
 have turn:(p1≠ []∨p2≠ [])→ ∃N:St→Hp→Prop,(∀σ' H',N σ' H'→ ∃m',m'< (ak p1).length+ (ak p2).length∧ ∃(u:Option V) (zs ws:List V) (r1 r2 p1 p2:List Pt) (z1 z2:List At) (l':List Nat),m'=(ak p1).length+ (ak p2).length∧σ'=[some (.ref a),some (.ref b),some (.ref w),some (.ref v),some (.ref c),some (.ref d),u]∧ax H H'∧H' c=some (.lst zs)∧H' d=some (.lst ws)∧
   aQ H' zs r1∧aQ H' ws r2∧(∀p∈r1,bp p)∧(∀p∈r2,bp p)∧bK C H' w L p1∧bK C H' v M p2∧ak one=z1++ak p1∧ak other=z2++ak p2∧jB (ak one) (ak other) (ak p1) (ak p2) z1 z2 (ak r1) (ak r2)∧fit l' (ak p1)∧fit l' (ak p2)∧
   r1.length+p1.length+p2.length≤one.length+other.length∧r2.length+p1.length+p2.length≤one.length+other.length)∧
   au (aU K (wH C) [] [] (tL C) [("Walk",C,gR C)] (et:=et) (E:=E)) [.ite (.cmp .Eq (.di 0 "word" (.v 2) []) (.c (.str "put"))) [.drop (.call 1 [(.v 2),(.v 4),(.v 5)])] [.ite (.cmp .Eq (.di 0 "word" (.v 3) []) (.c (.str "put"))) [.drop (.call 1 [(.v 3),(.v 5),(.v 4)])] [.asg 6 (.blt .min [(.di 1 "left" (.v 2) []),(.di 1 "left" (.v 3) [])]),
    .drop (.call 2 [(.di 2 "take" (.v 2) [(.v 6)]),(.di 2 "take" (.v 3) [(.v 6)]),(.v 4),(.v 5)])]]]
    {{Dn Q with nx:=au (aU K (wH C) [] [] (tL C) [("Walk",C,gR C)] (et:=et) (E:=E)) [.ret (.tup [(.call 3 [(.v 4)]),(.call 3 [(.v 5)])])] (Dn Q)} with nx:=N,ct:=N,bk:=au (aU K (wH C) [] [] (tL C) [("Walk",C,gR C)] (et:=et) (E:=E)) [.ret (.tup [(.call 3 [(.v 4)]),(.call 3 [(.v 5)])])] (Dn Q)} [some (.ref a),some (.ref b),some (.ref w),some (.ref v),some (.ref c),some (.ref d),u] H6:=by
  intro ahK
  refine⟨_,fun σ' H' z=>z, ?_⟩
  have wO: ∀{H7:Hp} {x:Addr},H x=none→qO x c d H6 H7→ax H H7:=fun {H7 x} hx b e o he=>b e o (j9 e o he) (aW he hx) (aW he fc) (aW he fd)
  have Qu: ∀{H7:Hp} {x:Addr} {C' EE uh},H6 x=some (.ins C' EE uh)→qO x c d H6 H7→dJ H6 H7:=fun {H7 x C' EE uh} hx b e vs he=>b e _ he (bC he hx (by intro z;cases z)) (bC he eK (by intro z;cases z)) (bC he fD (by intro z;cases z))
  have tN: ∀{r:List Pt} {x:Pt},(∀p∈r,bp p)→bp x→ ∀p∈r++ [x],bp p:=fun {r x} h hx p hp=>by
   rcases List.mem_append.mp hp with z | z
   ·exact h p z
   ·rw[List.mem_singleton.mp z];exact hx
  refine eW (eY (qN (C:=C) rfl rfl W6 (aX (me ⟨_,rfl, ?_⟩))))
  by_cases fA:jA p1="put"
  ·obtain⟨s,t,rfl⟩: ∃s t,p1= .put s::t:=by
    cases p1 with
    | nil=>exact absurd (show(Str.ofString "")="put" from fA) (by decide)
    | cons p t=>
     cases p with
     | put s=>exact⟨s,t,rfl⟩
     | keep n=>exact absurd (show(Str.ofString "keep")="put" from fA) (by decide)
     | cut n=>exact absurd (show(Str.ofString "cut")="put" from fA) (by decide)
   have nK:=W6.ok _ (.head _)
   refine iT ?_ rfl
   refine ir (bN (kb C) rfl (ar (aC rfl (ar (aC rfl (ar (aC rfl (aR ?_))))))))
   simp only[List.length_cons] at nP nQ
   refine⟨w,L,c,d,s,t,zs,ws,rfl,W6,eK,fD,dF,mf,mh,by omega,by omega,fun a1 a2 H7 b7 qY qZ wQ wR W7=> ?_⟩
   have tt:=Qu iD b7
   have V7:bK C H7 v M p2:=V6.zV b7 eK fD qW qX mj.symm ⟨_,_,_,iD⟩
   rw[cZ] at e1 fa
   have jQ:=wD (.put s)
   have qx:=(iB nK).2
   refine⟨_, ?_,u,zs++ [V.ref a1],ws++ [V.ref a2],r1++ [.put s],r2++ [.keep (s.length:Int)],t,p2,z1++b_ (.put s),z2,l',rfl,rfl,wO fw b7,qY,qZ,aQ.snoc (p:= .put s) (hz.mono tt) ⟨a1,rfl,wQ⟩,aQ.snoc (p:= .keep (s.length:Int)) (tM.mono tt) ⟨a2,rfl,wR⟩,tN o1 nK,tN (x:= .keep (s.length:Int)) o2 (show(1:Int)≤ (s.length:Int) by have:1≤s.length:=qx;omega),W7,V7,by rw[e1,List.append_assoc],e2, ?_,(v_ _ _ _).mp fa,fb,by simp;omega,by simp;omega⟩
   ·rw[cZ,List.length_append];omega
   ·rw[cZ] at kg
    have:=jB.seg (b1:=[]) kg (ahq s.cps.toList)
    rw[List.append_nil] at this
    rw[gB,gB,gC,gC]
    have ek:b_ (.keep (s.length:Int))=rK s.cps.toList.length:=by show rK ((s.length:Int)).toNat=_;rw[Int.toNat_natCast,len_list]
    rw[ek];exact this
  ·refine iF ?_ (beq_eq_false_iff_ne.mpr fA)
   refine eW (eY (qN (C:=C) rfl rfl V6 (aX (me ⟨_,rfl, ?_⟩))))
   by_cases g_:jA p2="put"
   ·obtain⟨s,t,rfl⟩: ∃s t,p2= .put s::t:=by
     cases p2 with
     | nil=>exact absurd (show(Str.ofString "")="put" from g_) (by decide)
     | cons p t=>
      cases p with
      | put s=>exact⟨s,t,rfl⟩
      | keep n=>exact absurd (show(Str.ofString "keep")="put" from g_) (by decide)
      | cut n=>exact absurd (show(Str.ofString "cut")="put" from g_) (by decide)
    have nK:=V6.ok _ (.head _)
    refine iT ?_ rfl
    refine ir (bN (kb C) rfl (ar (aC rfl (ar (aC rfl (ar (aC rfl (aR ?_))))))))
    simp only[List.length_cons] at nP nQ
    refine⟨v,M,d,c,s,t,ws,zs,rfl,V6,fD,eK,dF.symm,qX,qW,by omega,by omega,fun a1 a2 H7 zW qZ qY wQ wR V7=> ?_⟩
    have b7:qO v c d H6 H7:=fun e o he n1 n2 n3=>zW e o he n1 n3 n2
    have tt:=Qu nR b7
    have W7:bK C H7 w L p1:=W6.zV b7 eK fD mf mh mj ⟨_,_,_,nR⟩
    rw[cZ] at e2 fb
    have jQ:=wD (.put s)
    have qx:=(iB nK).2
    refine⟨_, ?_,u,zs++ [V.ref a2],ws++ [V.ref a1],r1++ [.keep (s.length:Int)],r2++ [.put s],p1,t,z1,z2++b_ (.put s),l',rfl,rfl,wO fv b7,qY,qZ,aQ.snoc (p:= .keep (s.length:Int)) (hz.mono tt) ⟨a2,rfl,wR⟩,aQ.snoc (p:= .put s) (tM.mono tt) ⟨a1,rfl,wQ⟩,tN (x:= .keep (s.length:Int)) o1 (show(1:Int)≤ (s.length:Int) by have:1≤s.length:=qx;omega),tN o2 nK,W7,V7,e1,by rw[e2,List.append_assoc], ?_,fa,(v_ _ _ _).mp fb,by simp;omega,by simp;omega⟩
    ·rw[cZ,List.length_append];omega
    ·rw[cZ] at kg
     have:=jB.p2 (s:=s.cps.toList) (ahv W6.ok fA) kg
     rw[gB,gB,gC,gC]
     have ek:b_ (.keep (s.length:Int))=rK s.cps.toList.length:=by show rK ((s.length:Int)).toNat=_;rw[Int.toNat_natCast,len_list]
     rw[ek];exact this
   ·refine iF ?_ (beq_eq_false_iff_ne.mpr g_)
    have q8: ∀{p:Pt} {t:List Pt},jA (p::t)≠"put"→ ∀s,p≠ .put s:=fun {p t} h s z=>by subst z;exact h rfl
    have Qw: ∀{p:Pt} {t:List Pt},bp p→(∀s,p≠ .put s)→ ¬fit [] (ak (p::t)):=by
     intro p t hp hn hf
     have hl:=ma _ _ hf
     rw[cZ,nJ] at hl
     have h1:=(iB hp).2
     have:bb (b_ p)=bz p:=by
      cases p with
      | keep n=>exact wz _
      | put s=>exact absurd rfl (hn s)
      | cut s=>show bb (s.cps.toList.map At.C)=s.length;rw[wA,len_list]
     simp only[List.length_nil] at hl
     omega
    obtain⟨x,t,ex⟩: ∃x t,p1=x::t:=by
     cases p1 with
     | cons x t=>exact⟨x,t,rfl⟩
     | nil=>
      exfalso
      have dy:l'=[]:=fa
      subst dy
      cases p2 with
      | nil=>rcases ahK with z | z<;>exact z rfl
      | cons y t'=>exact Qw (V6.ok y (.head _)) (q8 g_) fb
    subst ex
    obtain⟨y,t',ey⟩: ∃y t',p2=y::t':=by
     cases p2 with
     | cons y t'=>exact⟨y,t',rfl⟩
     | nil=>
      exfalso
      have dy:l'=[]:=fb
      subst dy
      exact Qw (W6.ok x (.head _)) (q8 fA) fa
    subst ey
    have nx:=q8 fA
    have ny:=q8 g_
    have wU:=W6.ok x (.head _)
    have wV:=V6.ok y (.head _)
    obtain⟨px1,px2⟩:=iB wU
    obtain⟨py1,py2⟩:=iB wV
    obtain⟨k,hk⟩: ∃k,k=min (bz x) (bz y):=⟨_,rfl⟩
    have k1:1≤k:=by omega
    have k2:k≤bz x:=by omega
    have k3:k≤bz y:=by omega
    have emin:(if (bz y:Int) < (bz x:Int) then (bz y:Int) else (bz x:Int))=(k:Int):=by split<;>omega
    refine bU (j5 (ar (wF (C:=C) rfl rfl W6 (ar (wF (C:=C) rfl rfl V6 (aR ?_))))))
    show au _ _ _ ([some (.ref a),some (.ref b),some (.ref w),some (.ref v),some (.ref c),some (.ref d),u].set 6 (some (V.int (if (bz y:Int) < (bz x:Int) then (bz y:Int) else (bz x:Int))))) H6
    rw[emin]
    refine ir (bN nN rfl (ar (wG (C:=C) (k:=k) rfl rfl W6 k1 k2 (fun Q' hq=>aC rfl hq) fun a1 H7 b7 eV hf7 W7=> ?_)))
    have V7:bK C H7 v M (y::t'):=V6.keep fun e o he z=>b7 e o he (by
     rcases z with rfl | rfl | ⟨_,rfl⟩
     ·exact mj.symm
     ·obtain⟨_,EL⟩:=lst V6
      exact bC EL iD (by intro z;cases z)
     ·exact bC he iD (by intro z;cases z))
    refine ar (wG (C:=C) (k:=k) rfl rfl V7 k1 k3 (fun Q' hq=>aC rfl hq) fun a2 H8 b8 gP hf8 V8=> ?_)
    obtain⟨_,_,_,hW7⟩:=W7.ob
    obtain⟨_,_,_,nS⟩:=V7.ob
    have W8:bK C H8 w L (cw x t k):=W7.keep fun e o he z=>b8 e o he (by
     rcases z with rfl | rfl | ⟨_,rfl⟩
     ·exact mj
     ·obtain⟨_,EM⟩:=lst W7
      exact bC EM nS (by intro z;cases z)
     ·exact bC he nS (by intro z;cases z))
    have tO:=b8 _ _ eV (bC eV nS (by intro z;cases z))
    have wW:=b8 _ _ (b7 _ _ eK qP) wL
    have wX:=b8 _ _ (b7 _ _ fD qQ) wN
    have tt8:dJ H6 H8:=(b7.Qn iD).trans (b8.Qn nS)
    refine ar (aC rfl (ar (aC rfl (aR ?_))))
    have eA:=wC t k2
    have eB:=wC t' k3
    rw[eA] at fa
    rw[eB] at fb
    obtain⟨la,lb,rfl,g1,g2,g3⟩:=wy _ _ fa
    have zN:la.length=k:=by
     rw[ma _ _ g1]
     have e:=tI x k k2
     cases x with
     | keep n=>exact wz k
     | put s=>exact absurd rfl (nx s)
     | cut s=>
      have e':(⟨(s.cps.toList.take k).toArray⟩:Str).length=k:=e
      rw[iC] at e'
      show bb ((s.cps.toList.take k).map At.C)=k
      rw[wA];exact e'
    have ovy:bb (b_ (aY y k))=k:=by
     have e:=tI y k k3
     cases y with
     | keep n=>exact wz k
     | put s=>exact absurd rfl (ny s)
     | cut s=>
      have e':(⟨(s.cps.toList.take k).toArray⟩:Str).length=k:=e
      rw[iC] at e'
      show bb ((s.cps.toList.take k).map At.C)=k
      rw[wA];exact e'
    obtain⟨g4,g5⟩:=ahc fb (by rw[zN,ovy])
    have wY: ∀{s:Str} {u:List Nat},fit u (b_ (.cut s))→s.cps.toList=u:=by
     intro s u hu
     obtain⟨b,rfl⟩:=Ek s.cps.toList u [] (by rw[List.append_nil];exact hu)
     have h1:=ma _ _ hu
     have e1:bb (b_ (.cut s))=s.cps.toList.length:=wA _
     rw[e1,List.length_append] at h1
     have:b=[]:=List.length_eq_zero_iff.mp (by omega)
     rw[this,List.append_nil]
    have okx:=P5 wU k1 k2
    have oky:=P5 wV k1 k3
    simp only[List.length_cons] at nP nQ
    refine⟨.ref a1, .ref a2,c,d,aY x k,aY y k,zs,ws,rfl,⟨a1,rfl,tO⟩,⟨a2,rfl,gP⟩, ?_, ?_, ?_,wW,wX,dF,by omega,by omega,fun H9 b9 EN EO=> ?_⟩
    ·intro s z
     cases x<;>first | exact absurd rfl (nx _) | cases z
    ·intro s z
     cases y<;>first | exact absurd rfl (ny _) | cases z
    ·intro s s' z z'
     rw[z] at g1
     rw[z'] at g4
     exact gL ((wY g1).trans (wY g4).symm)
    have nU: ∀{e:Addr} {o:HO},H8 e=some o→(e=w∨e=L∨e=v∨e=M∨ ∃vs,o= .tup vs)→H9 e=some o:=by
     intro e o he z
     obtain⟨_,hL8⟩:=lst W8
     obtain⟨_,hM8⟩:=lst V8
     obtain⟨_,_,_,hW8⟩:=W8.ob
     obtain⟨_,_,_,hV8⟩:=V8.ob
     refine b9 e o he ?_ ?_
     ·rcases z with rfl | rfl | rfl | rfl | ⟨vs,rfl⟩
      ·exact qP.symm
      ·exact mf.symm
      ·exact wL.symm
      ·exact qW.symm
      ·exact bC he wW (by intro z;cases z)
     ·rcases z with rfl | rfl | rfl | rfl | ⟨vs,rfl⟩
      ·exact qQ.symm
      ·exact mh.symm
      ·exact wN.symm
      ·exact qX.symm
      ·exact bC he wX (by intro z;cases z)
    have W9:bK C H9 w L (cw x t k):=W8.keep fun e o he z=>nU he (by
     rcases z with z | z | z
     ·exact .inl z
     ·exact .inr (.inl z)
     ·exact .inr (.inr (.inr (.inr z))))
    have V9:bK C H9 v M (cw y t' k):=V8.keep fun e o he z=>nU he (by
     rcases z with z | z | z
     ·exact .inr (.inr (.inl z))
     ·exact .inr (.inr (.inr (.inl z)))
     ·exact .inr (.inr (.inr (.inr z))))
    have zX:dJ H6 H9:=fun e vs he=>nU (tt8 e vs he) (.inr (.inr (.inr (.inr ⟨vs,rfl⟩))))
    have ahY:H9 a1=some (.tup [.str (aY x k).word,(aY x k).val]):=nU tO (.inr (.inr (.inr (.inr ⟨_,rfl⟩))))
    have ahZ:H9 a2=some (.tup [.str (aY y k).word,(aY y k).val]):=nU gP (.inr (.inr (.inr (.inr ⟨_,rfl⟩))))
    have ER:ax H H9:=fun e o he=>b9 e o (b8 e o (b7 e o (j9 e o he) (aW he fw)) (aW he fv)) (aW he fc) (aW he fd)
    have yz:=zU t k1 k2
    have yA:=zU t' k1 k3
    have ah0:(cw x t k).length+ (cw y t' k).length≤t.length+t'.length+1:=by
     have r1:=zT x t k
     have r2:=zT y t' k
     by_cases hz:k=bz x
     ·have e:cw x t k=t:=if_pos hz
      rw[e];omega
     ·have vM:k=bz y:=by omega
      have e:cw y t' k=t':=if_pos vM
      rw[e];omega
    refine⟨_,Nat.add_lt_add yz yA,some (.int (k:Int)),zs++ (if dv (aY y k) then [V.ref a1] else []),ws++ (if dv (aY x k) then [V.ref a2] else []),r1++ (if dv (aY y k) then [aY x k] else []),r2++ (if dv (aY x k) then [aY y k] else []),cw x t k,cw y t' k,z1++b_ (aY x k),z2++b_ (aY y k),lb,rfl,rfl,ER,EN,EO, ?_, ?_, ?_, ?_,W9,V9,by rw[e1,eA,List.append_assoc],by rw[e2,eB,List.append_assoc], ?_,g2,g5, ?_, ?_⟩
    ·split
     ·exact aQ.snoc (hz.mono zX) ⟨a1,rfl,ahY⟩
     ·rw[List.append_nil,List.append_nil];exact hz.mono zX
    ·split
     ·exact aQ.snoc (tM.mono zX) ⟨a2,rfl,ahZ⟩
     ·rw[List.append_nil,List.append_nil];exact tM.mono zX
    ·split
     ·exact tN o1 okx
     ·rw[List.append_nil];exact o1
    ·split
     ·exact tN o2 oky
     ·rw[List.append_nil];exact o2
    ·rw[gB,gB]
     rw[eA,eB] at kg
     refine jB.seg kg ?_
     cases x with
     | put s=>exact absurd rfl (nx s)
     | keep n=>
      have zY:b_ (aY (.keep n) k)=rK k:=by show rK ((k:Nat):Int).toNat=_;rw[Int.toNat_natCast]
      cases y with
      | put s=>exact absurd rfl (ny s)
      | keep n'=>
       have q9:b_ (aY (.keep n') k)=rK k:=by show rK ((k:Nat):Int).toNat=_;rw[Int.toNat_natCast]
       rw[show(if dv (aY (.keep n') k)=true then [aY (.keep n) k] else [])=[aY (.keep n) k] from rfl,show(if dv (aY (.keep n) k)=true then [aY (.keep n') k] else [])=[aY (.keep n') k] from rfl,gC,gC,zY,q9]
       exact ahr k
      | cut s=>
       rw[show(if dv (aY (.cut s) k)=true then [aY (.keep n) k] else [])=[] from rfl,show(if dv (aY (.keep n) k)=true then [aY (.cut s) k] else [])=[aY (.cut s) k] from rfl,gC,zY]
       have ec:b_ (aY (.cut s) k)=la.map At.C:=by
        have:=wY (s:=⟨(s.cps.toList.take k).toArray⟩) g4
        show(s.cps.toList.take k).map At.C=_
        rw[show s.cps.toList.take k=la from this]
       rw[ec,←zN]
       exact ahs la
     | cut s=>
      have ec:b_ (aY (.cut s) k)=la.map At.C:=by
       have:=wY (s:=⟨(s.cps.toList.take k).toArray⟩) g1
       show(s.cps.toList.take k).map At.C=_
       rw[show s.cps.toList.take k=la from this]
      cases y with
      | put s=>exact absurd rfl (ny s)
      | keep n'=>
       have q9:b_ (aY (.keep n') k)=rK k:=by show rK ((k:Nat):Int).toNat=_;rw[Int.toNat_natCast]
       rw[show(if dv (aY (.keep n') k)=true then [aY (.cut s) k] else [])=[aY (.cut s) k] from rfl,show(if dv (aY (.cut s) k)=true then [aY (.keep n') k] else [])=[] from rfl,gC,q9,ec,←zN]
       exact aht la
      | cut s'=>
       have ec':b_ (aY (.cut s') k)=la.map At.C:=by
        have:=wY (s:=⟨(s'.cps.toList.take k).toArray⟩) g4
        show(s'.cps.toList.take k).map At.C=_
        rw[show s'.cps.toList.take k=la from this]
       rw[show(if dv (aY (.cut s') k)=true then [aY (.cut s) k] else [])=[] from rfl,show(if dv (aY (.cut s) k)=true then [aY (.cut s') k] else [])=[] from rfl,ec,ec']
       exact ahu la
    ·have:(r1++ (if dv (aY y k) then [aY x k] else [])).length≤r1.length+1:=by rw[List.length_append];split<;>simp
     omega
    ·have:(r2++ (if dv (aY x k) then [aY y k] else [])).length≤r2.length+1:=by rw[List.length_append];split<;>simp
     omega
 refine Qr (eY (qN (C:=C) rfl rfl W6 (aX (wB ⟨_,rfl, ?_⟩))))
 cases p1 with
 | cons x t=>exact iT (iT (turn (.inl (by simp))) rfl) EG
 | nil=>
  refine iF ?_ rfl
  refine eY (qN (C:=C) rfl rfl V6 (aX (wB ⟨_,rfl, ?_⟩)))
  cases p2 with
  | cons x t=>exact iT (turn (.inr (by simp))) EG
  | nil=>exact iF (fin rfl rfl) rfl
end L2.B
namespace L2.B
theorem tP: ∀(xs:List At) (i:Nat),(res i xs).length=ez xs
 | [],i=>rfl
 | .P c::xs,i=>by simp[res,ez,tP xs i]
 | .K::xs,i=>by simp[res,ez,tP xs (i+1)]
 | .C c::xs,i=>tP xs (i+1)
end L2.B
namespace L2.B
open PySem PySem.Spec PyProof.Rows
abbrev ah2:List (Str×Sp):=[("_law_whole",ze)]
def tQ:Sp:=fun vs H Q E=> ∃a b xs ys ps,vs=[.ref a, .ref b]∧H a=some (.lst xs)∧H b=some (.lst ys)∧aQ H xs ps∧aQ H ys ps∧ ∀H',ax H H'→Q (.bl true) H'
theorem ah3{K:PySem.W.Frag}{a b:Addr}{xs ys:List V}{g:TG}{tb:TS}{D:Ends}{σ:St}{H:Hp}(hl:xs.length=ys.length)(Pv:Nat→St→Hp→Prop)(h0:Pv 0 σ H)(ha: ∀i σ H,Pv i σ H→ao K H a xs∧ao K H b ys)
  (hs: ∀i x y σ H T,xs[i]?=some x→ys[i]?=some y→Pv i σ H→H T=none→g (.ref T) σ (upd H T (.tup [x,y])) fun σ2 H2=>tb {D with nx:=Pv (i+1),ct:=Pv (i+1),bk:=D.nx} σ2 H2) (hd: ∀σ H,Pv xs.length σ H→D.nx σ H):
  ∃W:Nat→Nat→St→Hp→Prop,(∃m,W 0 m σ H)∧ ∀i m σ H,W i m σ H→
   ((uZ K a b).stop i H∧D.nx σ H)∨((uZ K a b).go i H∧ ∃N:St→Hp→Prop,(∀σ' H',N σ' H'→ ∃m',m'<m∧W (i+1) m' σ' H')∧ ∀x H',(uZ K a b).i6 i H x H'→g x σ H' fun σ2 H2=>tb {D with nx:=N,ct:=N,bk:=D.nx} σ2 H2):=by
 refine⟨fun i m σ H=>m=xs.length - i∧i≤xs.length∧Pv i σ H,⟨xs.length,by simp,Nat.zero_le _,h0⟩, ?_⟩
 rintro i m σ H ⟨rfl,hi,p⟩
 obtain⟨q1,q2⟩:=ha i σ H p
 by_cases aP:i<xs.length
 ·have ES:i<ys.length:=by omega
  refine .inr ⟨⟨xs,ys,q1,q2,aP,ES⟩,Pv (i+1),fun σ' H' p'=> ⟨xs.length - (i+1),by omega,rfl,aP,p'⟩,fun x H' y=> ?_⟩
  obtain⟨T,hT,rfl,y⟩:=y
  have e:=y xs ys xs[i] ys[i] q1 q2 (by simp[aP]) (by simp[ES])
  subst e
  exact hs i xs[i] ys[i] σ H T (by simp[aP]) (by simp[ES]) p hT
 ·have e:i=xs.length:=by omega
  subst e
  exact .inl ⟨⟨xs,ys,q1,q2,by omega⟩,hd σ H p⟩
theorem ah4{K:PySem.W.Frag}(vs:List V)(H:Hp)(Q:VK)(E:XK)(h:tQ vs H Q E):au (aU K ah2 [] (E:=E)) C4 {nx:=fun _ H'=>Q .aw H',rt:=Q} (start y8 vs) H:=by
 obtain⟨a,b,xs,ys,ps,rfl,ha,hb,hG,bg,q⟩:=h
 have l1:=Paired.length hG
 have l2:=Paired.length bg
 refine⟨_,rfl,rfl,DE ha ⟨_,rfl, .inl ⟨_,ao.of ha,_,rfl, .inl ⟨_,ao.of hb,_,rfl, ?_⟩⟩⟩⟩
 show if (true ^^ decide (V.int (xs.length:Int)=V.int (ys.length:Int)))=true then _ else _
 rw[show(xs.length:Int)=(ys.length:Int) by omega,decide_eq_true rfl]
 refine⟨_,rfl,_,rfl,a,b,rfl,⟨_,ao.of ha⟩,⟨_,ao.of hb⟩,ah3 (K:=K) (a:=a) (b:=b) (xs:=xs) (ys:=ys) (by omega) (fun i σ H2=> ∃v w,σ=[some (.ref a),some (.ref b),v,w]∧ax H H2) ⟨none,none,rfl,ax.refl _⟩
  (fun i σ H2 ⟨_,_,_,s2⟩=> ⟨ao.of (s2 _ _ ha),ao.of (s2 _ _ hb)⟩) ?_ ?_⟩
 ·rintro i x y σ H2 T hx hy ⟨v,w,rfl,s2⟩ hT
  have s3:ax H (upd H2 T (.tup [x,y])):=s2.trans (sameNew hT)
  obtain⟨p,hp,x1,rfl,h1⟩:=hG.get hx
  obtain⟨p',rZ,y1,rfl,h2⟩:=bg.get hy
  rw[hp] at rZ
  cases rZ
  have k1:=s3 _ _ h1
  have k2:=s3 _ _ h2
  refine⟨T,_,rfl, .inl (aI.of av),rfl,_,_,rfl,_,_,rfl,rfl, ?_⟩
  generalize upd H2 T (.tup [.ref x1, .ref y1])=H3 at s3 k1 k2
  refine⟨_,rfl,rfl,zf k1 ⟨_,rfl, .inr ⟨_,aI.of k1,_,rfl, ?_⟩⟩⟩
  refine⟨_,rfl, .inr (.inl ⟨_,_,_,_,rfl,rfl,aI.of k1,rfl,rfl, ?_⟩)⟩
  refine⟨_,rfl, .inr (.inl ⟨_,_,_,_,rfl,rfl,aI.of k1,rfl,_,rfl, .inr (.inl ⟨_,_,_,_,rfl,rfl,aI.of k2,rfl,_,rfl, ?_⟩)⟩)⟩
  rw[decide_eq_true rfl]
  refine⟨_,rfl, .inr (.inl ⟨_,_,_,_,rfl,rfl,aI.of k2,rfl,rfl, ?_⟩)⟩
  cases p with
  | keep n=>
   refine⟨_,rfl, .inr (.inl ⟨_,_,_,_,rfl,rfl,aI.of k1,rfl,rfl,_,rfl, ?_⟩)⟩
   refine⟨_,rfl, .inr (.inl ⟨_,_,_,_,rfl,rfl,aI.of k1,rfl,_,rfl, .inr (.inl ⟨_,_,_,_,rfl,rfl,aI.of k2,rfl,_,rfl, ?_⟩)⟩)⟩
   rw[decide_eq_true rfl]
   refine⟨_,rfl, .inr (.inl ⟨_,_,_,_,rfl,rfl,aI.of k2,rfl,rfl, ?_⟩)⟩
   refine⟨_,rfl, .inr (.inl ⟨_,_,_,_,rfl,rfl,aI.of k1,rfl,n,rfl, ?_⟩)⟩
   exact⟨_,_,rfl,s3⟩
  | put s=>
   refine⟨_,rfl, .inr (.inl ⟨_,_,_,_,rfl,rfl,aI.of k1,rfl,rfl,_,rfl, ?_⟩)⟩
   refine⟨_,rfl, .inr (.inl ⟨_,_,_,_,rfl,rfl,aI.of k1,rfl,_,rfl, .inr (.inl ⟨_,_,_,_,rfl,rfl,aI.of k2,rfl,_,rfl, ?_⟩)⟩)⟩
   rw[decide_eq_true rfl]
   refine⟨_,rfl, .inr (.inl ⟨_,_,_,_,rfl,rfl,aI.of k2,rfl,rfl, ?_⟩)⟩
   exact⟨_,_,rfl,s3⟩
  | cut s=>
   refine⟨_,rfl, .inr (.inl ⟨_,_,_,_,rfl,rfl,aI.of k1,rfl,rfl,_,rfl, ?_⟩)⟩
   refine⟨_,rfl, .inr (.inl ⟨_,_,_,_,rfl,rfl,aI.of k1,rfl,_,rfl, .inr (.inl ⟨_,_,_,_,rfl,rfl,aI.of k2,rfl,_,rfl, ?_⟩)⟩)⟩
   rw[decide_eq_true rfl]
   refine⟨_,rfl, .inr (.inl ⟨_,_,_,_,rfl,rfl,aI.of k2,rfl,rfl, ?_⟩)⟩
   exact⟨_,_,rfl,s3⟩
 ·rintro σ H2 ⟨v,w,rfl,s2⟩
  exact q H2 s2
structure iY (ps:List Pt) (l r:List Nat):Prop where
 ok: ∀p∈ps,bp p
 ch:chainOk "" ps=true
 run:Run l ps r
theorem Qx{ps qs:List Pt}{l r r':List Nat}(h:iY ps l r)(h':iY qs l r')(e:res 0 (ak ps)=res 0 (ak qs)):ps=qs:=agv h.ch h'.ch h.ok h'.ok h.run h'.run e
def bY(H:Hp)(b:Addr)(ps:List Pt)(l r:List Nat):Prop:= ∃xs,H b=some (.lst xs)∧aQ H xs ps∧iY ps l r
theorem bY.same{H H':Hp}{b:Addr}{ps:List Pt}{l r:List Nat}(h:bY H b ps l r)(s:ax H H'):bY H' b ps l r:=by
 obtain⟨xs,h1,h2,h3⟩:=h
 exact⟨xs,s _ _ h1,h2.mono (aM s),h3⟩
theorem bY.chg{H:Hp}{b:Addr}{ps:List Pt}{l r:List Nat}(h:bY H b ps l r):iY ps l r:=by
 obtain⟨_,_,_,h⟩:=h;exact h
section
variable {H:Hp} {Q:VK} {E:XK}
theorem ET{c m:Int}{x:Str}(hx:good x)(hl:x.length≤10000)(h0:0≤m)(h1:m≤100)
  (q: ∀(b:Addr) (H':Hp) (ps:List Pt) (r:List Nat),ax H H'→H b=none→bY H' b ps x.cps.toList r→ps.length≤305→aG ps≤4000→good ⟨r.toArray⟩→r.length≤x.length+4000→Q (.ref b) H'):nE [.int c, .str x, .int m] H Q E:=by
 refine⟨c,x,m,rfl,hx,hl,h0,h1,fun b H' ys ps r s hb h2 h3 ho hc dy ht hr=> ?_⟩
 have DN:=hr.len
 have:=len_list x
 exact q b H' ps r s hb ⟨ys,h2,h3,ho,hc,hr⟩ dy ht ⟨by rw[iC];omega,hr.good hx.2 fun p hp=>zx (ho p hp)⟩ (by omega)
end
theorem ah5{K:PySem.W.Frag}(vs:List V)(H:Hp)(Q:VK)(E:XK)(h:ze vs H Q E):au (aU K [] [] (E:=E)) C6 (Dn Q) (start C5 vs) H:=by
 obtain⟨i,rfl,q⟩:=h
 exact⟨_,rfl,rfl,_,rfl,fk ⟨_,rfl,rfl,q⟩⟩
end L2.B
namespace L2
open PySem PySem.Spec PyProof.Rows
end L2
namespace L2.B
open PySem PySem.Spec PyProof.Rows
section
variable {H:Hp} {Q:VK} {E:XK}
theorem ah6{a b:Addr}{one other:List Pt}{l m n:List Nat}(h1:bY H a one l m)(h2:bY H b other l n)(hl:one.length+other.length≤30000)(ht:aG one+aG other≤100000)
  (q: ∀(t c d:Addr) (H':Hp) (ps qs:List Pt) (r:List Nat),ax H H'→H c=none→H d=none→H' t=some (.tup [.ref c, .ref d])→bY H' c ps n r→bY H' d qs m r→Passed one other ps qs l m n→Q (.ref t) H'):qR [.ref a, .ref b] H Q E:=by
 obtain⟨xs,a1,a2,a3⟩:=h1
 obtain⟨ys,b1,b2,b3⟩:=h2
 refine⟨a,b,xs,ys,one,other,l,m,n,rfl,a1,b1,a2,b2,a3.ok,b3.ok,a3.ch,b3.ch,hl,ht,a3.run,b3.run,fun t c d H' zs ws ps qs s hc hd _ h3 h4 h5 h6 h7 P=> ?_⟩
 obtain⟨r,r1,r2⟩:=P.runs
 exact q t c d H' ps qs r s hc hd h3 ⟨zs,h4,h6,P.ok1,P.ke,r1⟩ ⟨ws,h5,h7,P.ok2,P.nO,r2⟩ P
end
def gF(r:aq):List Key:=[.inr r.1, .inl (r.2.1:Int)]
def aH(r:aq):Str×Nat:=(r.1,r.2.1)
theorem Qy{r s:aq}:gF r=gF s↔aH r=aH s:=by
 constructor
 ·intro h
  have h1:(Sum.inr r.1:Key)=Sum.inr s.1:=by have:=congrArg (fun l=>l[0]?) h;simpa[gF] using this
  have h2:(Sum.inl (r.2.1:Int):Key)=Sum.inl (s.2.1:Int):=by have:=congrArg (fun l=>l[1]?) h;simpa[gF] using this
  injection h1 with h1
  injection h2 with h2
  unfold aH
  rw[h1,show r.2.1=s.2.1 by omega]
 ·intro h
  have h1:r.1=s.1:=congrArg (fun p:Str×Nat=>p.1) h
  have h2:r.2.1=s.2.1:=congrArg (fun p:Str×Nat=>p.2) h
  unfold gF
  rw[h1,h2]
def idx(O:List aq)(r:aq):Option Nat:=O.findIdx? fun o=>decide (aH o=aH r)
def fV:Nat→List aq→List (List Key×V)
 | _,[]=> []
 | n,r::R=> (gF r, .int (n:Nat))::fV (n+1) R
theorem Qz: ∀(A B:List aq) (n:Nat),fV n (A++B)=fV n A++fV (n+A.length) B
 | [],B,n=>rfl
 | r::A,B,n=>by
  show _::fV (n+1) (A++B)=_::(fV (n+1) A++_)
  rw[Qz A B (n+1),List.length_cons,show n+1+A.length=n+ (A.length+1) by omega]
theorem QC: ∀(A:List aq) (n:Nat),(fV n A).length=A.length
 | [],_=>rfl
 | _::A,n=>by show(fV (n+1) A).length+1=_;rw[QC A (n+1)];rfl
theorem wZ(r:aq): ∀(O:List aq) (n:Nat),cC (fV n O) (gF r)=(idx O r).map fun j=>V.int ((n+j:Nat):Int)
 | [],n=>rfl
 | o::O,n=>by
  unfold cC idx
  show((((gF o,V.int (n:Nat))::fV (n+1) O).find? fun kv=>decide (kv.1=gF r)).map (·.2))=_
  rw[List.find?_cons,List.findIdx?_cons]
  by_cases h:aH o=aH r
  ·rw[decide_eq_true (Qy.mpr h),decide_eq_true h]
   rfl
  ·rw[decide_eq_false (fun z=>h (Qy.mp z)),decide_eq_false h]
   have ih:=wZ r O (n+1)
   unfold cC idx at ih
   simp only[ih]
   rw[if_neg (by simp)]
   cases List.findIdx? (fun o=>decide (aH o=aH r)) O with
   | none=>rfl
   | some j=>simp;omega
theorem zZ{O:List aq}{r:aq}(h:aH r∉O.map aH):idx O r=none:=by
 unfold idx
 rw[List.findIdx?_eq_none_iff]
 intro o ho
 exact decide_eq_false fun z=>h (by rw[←z];exact List.mem_map_of_mem ho)
def aK(R:List aq):List Nat:=R.map (·.2.2)
def e_(O:List aq)(s:List Pt×Nat)(r:aq):List Pt×Nat:=match idx O r with
 | some j=> (s.1++ [.cut ⟨(aK ((O.drop s.2).take (j - s.2))).toArray⟩, .keep 1],j+1)
 | none=> (s.1++ [.put ⟨#[r.2.2]⟩],s.2)
def gU(O N:List aq):List Pt×Nat:=N.foldl (e_ O) ([],0)
def eE(O N:List aq):List Pt:=(gU O N).1++ [.cut ⟨(aK (O.drop (gU O N).2)).toArray⟩]
theorem ah7(xs:List V)(i j:Nat):fJ xs (some (i:Int)) (some (j:Int))=(xs.drop i).take (j - i):=by
 unfold fJ
 rw[HT.jc,HT.jc]
 by_cases h:i≤xs.length
 ·by_cases h2:j≤xs.length
  ·rw[show min i xs.length=i by omega,show min j xs.length=j by omega]
  ·rw[show min i xs.length=i by omega,show min j xs.length=xs.length by omega,List.take_of_length_le (by rw[List.length_drop];omega),List.take_of_length_le (by rw[List.length_drop];omega)]
 ·rw[List.drop_of_length_le (by omega),List.drop_of_length_le (by omega),List.take_nil,List.take_nil]
theorem ah8(xs:List V)(i:Nat):fJ xs (some (i:Int)) none=xs.drop i:=by
 unfold fJ
 rw[HT.jc]
 show(xs.drop (min i xs.length)).take (xs.length - min i xs.length)=_
 by_cases h:i≤xs.length
 ·rw[show min i xs.length=i by omega,List.take_of_length_le (by rw[List.length_drop];omega)]
 ·rw[show min i xs.length=xs.length by omega,List.drop_length,List.take_nil,List.drop_of_length_le (by omega)]
def ones(R:List aq):List Str:=(aK R).map fun c=> ⟨#[c]⟩
theorem QD(R:List aq):cat (ones R)=⟨(aK R).toArray⟩:=by
 refine gL ?_
 rw[qw]
 show _=aK R
 unfold ones
 rw[List.map_map]
 induction aK R with
 | nil=>rfl
 | cons c l ih=>rw[List.map_cons,List.flatten_cons,ih];rfl
theorem ah9(R:List aq):sz (ones R)=R.length:=by
 have e:=DH (ones R)
 rw[←e,QD,len_list]
 show(aK R).length=_
 unfold aK;rw[List.length_map]
theorem QE{Γ:aJ}{σ:St}{H1:Hp}{Q:VK}{p:Addr}{xs:List V}{R:List aq}(hp:H1 p=some (.lst xs))(hR:bj H1 xs R)(hl:R.length≤100000)(q: ∀H',ax H1 H'→Q (.str ⟨(aK R).toArray⟩) H'):
  ∃W:Nat→Nat→List V→Hp→Prop,(∃m,W 0 m [] H1)∧ ∀i m ys H2,W i m ys H2→
   ((iL Γ.K p).stop i H2∧ ∀r,H2 r=none→uY Γ.K .join (.str "") [.ref r] (upd H2 r (.lst ys)) Q)∨
   ((iL Γ.K p).go i H2∧ ∀x H3,(iL Γ.K p).i6 i H2 x H3→oK Γ.K none x H3 fun zs=>oN none (zs.map some++cX σ []) H3 fun b H5=>
    if b=true then ag Γ.calm (.ix (.v 0) (.c (.int 1))) (zs.map some++cX σ []) H5 fun y H6=>ys.length<sizeLine∧ ∃m',m'<m∧W (i+1) m' (ys++ [y]) H6 else ∃m',m'<m∧W (i+1) m' ys H5):=by
 have lx:=Paired.length hR
 refine agi (K:=Γ.K) (σ:=σ) (fv:=[]) (te:=ag Γ.calm (.ix (.v 0) (.c (.int 1)))) (QQ:=fun ys H2 r=>uY Γ.K .join (.str "") [.ref r] (upd H2 r (.lst ys)) Q) hp (by omega) (fun i ys H2=>H2=H1∧ys=(ones (R.take i)).map V.str) ⟨rfl,rfl⟩ ?_ ?_
 ·rintro i x ys H2 hx s2 ⟨rfl,rfl⟩ Q' hq
  obtain⟨r,hr,t,n,rfl,ht,_⟩:=hR.get hx
  refine dE (aC rfl (aX (ka ht rfl (hq _ _ (ax.refl _) ⟨rfl, ?_⟩))))
  have e:R.take (i+1)=R.take i++ [r]:=by rw[List.take_add_one,hr];rfl
  rw[e]
  unfold ones aK
  rw[List.map_append,List.map_append,List.map_append];rfl
 ·rintro ys H2 r s2 ⟨rfl,rfl⟩ hr
  rw[lx,List.take_length]
  refine⟨ones R,ao.of av,joinOk_of (by rw[ah9];omega), ?_⟩
  have e:Txt.join "" (ones R)=⟨(aK R).toArray⟩:=QD R
  rw[e]
  exact q _ (sameNew hr)
theorem ah_{Γ:aJ}{σ:St}{H:Hp}{Q:VK}{a d n:Addr}{ov:List V}{O:List aq}{k j:Nat}(h0:σ[0]?=some (some (.ref a)))(h5:σ[5]?=some (some (.int (k:Nat))))(h2:σ[2]?=some (some (.ref d)))(h6:σ[6]?=some (some (.ref n)))(hg:eo H d (.ref n) (some (V.int ((j:Nat):Int))))(ha:H a=some (.lst ov))(nV:bj H ov O)(hl:O.length≤10000)
  (q: ∀H',ax H H'→Q (.str ⟨(aK ((O.drop k).take (j - k))).toArray⟩) H'):
  ag Γ (.cb .join (.c (.str "")) [(.comp none [] .list [(.sl (.v 0) (some (.v 5)) (some (.uW (.v 2) (.v 6))))] none (.ix (.v 0) (.c (.int 1))))]) σ H Q:=by
 refine⟨rfl, ?_⟩
 refine⟨_,h0,_,h5,_,rfl,_,h2,_,h6,d,_,rfl,hg,_,rfl, .inl ⟨ov,ao.of ha,fun p1 f1=> ?_⟩⟩
 rw[ah7]
 have z1:=sameNew (o:= .lst ((ov.drop k).take (j - k))) f1
 have hR:bj (upd H p1 (.lst ((ov.drop k).take (j - k)))) ((ov.drop k).take (j - k)) ((O.drop k).take (j - k)):=((nV.drop k).take (j - k)).mono (aM z1)
 exact⟨p1,rfl,⟨_,ao.of av⟩,QE (Γ:=Γ) (σ:=σ) (Q:=Q) av hR (by rw[List.length_take,List.length_drop];omega) fun H5 s5=>q _ (z1.trans s5)⟩
theorem aia{Γ:aJ}{σ:St}{H:Hp}{Q:VK}{a:Addr}{ov:List V}{O:List aq}{k:Nat}(h0:σ[0]?=some (some (.ref a)))(h5:σ[5]?=some (some (.int (k:Nat))))(ha:H a=some (.lst ov))(nV:bj H ov O)(hl:O.length≤10000)
  (q: ∀H',ax H H'→Q (.str ⟨(aK (O.drop k)).toArray⟩) H'):
  ag Γ (.cb .join (.c (.str "")) [(.comp none [] .list [(.sl (.v 0) (some (.v 5)) none)] none (.ix (.v 0) (.c (.int 1))))]) σ H Q:=by
 refine⟨rfl, ?_⟩
 refine⟨_,h0,_,h5,_,rfl, .inl ⟨ov,ao.of ha,fun p1 f1=> ?_⟩⟩
 rw[ah8]
 have z1:=sameNew (o:= .lst (ov.drop k)) f1
 have hR:bj (upd H p1 (.lst (ov.drop k))) (ov.drop k) (O.drop k):=(nV.drop k).mono (aM z1)
 exact⟨p1,rfl,⟨_,ao.of av⟩,QE (Γ:=Γ) (σ:=σ) (Q:=Q) av hR (by rw[List.length_drop];omega) fun H5 s5=>q _ (z1.trans s5)⟩
abbrev EU:List (Str×Sp):=[("_law_neat",qz)]
def kh:Sp:=fun vs H Q E=> ∃(a b:Addr) (ov nv:List V) (O N:List aq),vs=[.ref a, .ref b]∧H a=some (.lst ov)∧bj H ov O∧H b=some (.lst nv)∧bj H nv N∧(O.map aH).Nodup∧O.length≤10000∧N.length≤10000∧aG (eE O N)≤100000∧
 ∀(d:Addr) (H':Hp) (ys:List V),ax H H'→H d=none→H' d=some (.lst ys)→aQ H' ys (fQ (eE O N))→Q (.ref d) H'
theorem EV(O:List aq): ∀(N:List aq) (s:List Pt×Nat),(N.foldl (e_ O) s).1.length≤s.1.length+2*N.length
 | [],s=>by simp
 | r::N,s=>by
  have ih:=EV O N (e_ O s r)
  have e:(e_ O s r).1.length≤s.1.length+2:=by
   unfold e_
   cases idx O r<;>simp
  rw[List.foldl_cons,List.length_cons];omega
theorem aib{K:PySem.W.Frag}(vs:List V)(H:Hp)(Q:VK)(E:XK)(h:kh vs H Q E):au (aU K EU [] (E:=E)) Dq (Dn Q) (start Dp vs) H:=by
 obtain⟨a,b,ov,nv,O,N,rfl,ha,nV,hb,QF,jM,sj,QG,tF,q⟩:=h
 have lo:=Paired.length nV
 have ln:=Paired.length QF
 have fresh: ∀{d:Addr} {H9:Hp} (o:HO),H d=none→ax H H9→ax H (upd H9 d o):=fun {d H9} o hd s b o' e=>by rw[aD (aW e hd)];exact s b o' e
 refine bU ?_
 intro d hd
 have s0:=sameNew (o:= .dT []) hd
 refine⟨_,rfl, .inl ⟨ov,ao.of (s0 _ _ ha),(ov.length:Int),rfl,by omega,by omega,xO (lo:=0) (n:=ov.length) (fun i σ H2=> ∃u3:Option V,σ=[some (.ref a),some (.ref b),some (.ref d),u3,none,none,none,none]∧ax H H2∧H2 d=some (.dT (fV 0 (O.take i)))) ⟨none,rfl,s0,av⟩ ?_ ?_⟩⟩
 ·rintro i σ H2 hi ⟨u3,rfl,s2,hd2⟩
  have QH:i<O.length:=by omega
  have EW:ov[i]?=some ov[i]:=List.getElem?_eq_getElem hi
  obtain⟨r,hr,t,n,et,ht,hn⟩:=nV.get EW
  rw[et] at EW
  have ki:eQ ov (0+ (i:Int))=some (.ref t):=by rw[show(0:Int)+ (i:Int)=((i:Nat):Int) by omega];exact kN EW
  have e:O.take (i+1)=O.take i++ [r]:=by rw[List.take_add_one,hr];rfl
  have aic:cC (fV 0 (O.take i)) (gF r)=none:=by
   rw[wZ,zZ];rfl
   intro hm
   have gc:O.map aH=(O.take i).map aH++aH r::(O.drop (i+1)).map aH:=by
    rw[←List.map_cons,←List.map_append]
    congr 1
    conv=>lhs;rw[←List.take_append_drop i O,List.drop_eq_getElem_cons QH]
    rw[Option.some.inj ((List.getElem?_eq_getElem QH).symm.trans hr)]
   rw[gc,List.nodup_append] at jM
   exact jM.2.2 _ hm _ List.mem_cons_self rfl
  refine⟨_,rfl,_,rfl, ?_⟩
  refine dE (Γ:=aU K EU [] (E:=E)) (dE (aC rfl (aC rfl (.inl ⟨a,ov,_,_,rfl,rfl,ao.of (s2 _ _ ha),ki,aX (ka (s2 _ _ ht) rfl ?_)⟩))))
  refine⟨d,_,rfl,mT.t (k:=gF r) hd2 (s2 _ _ hn) (cY (by rw[QC,List.length_take];omega)), ?_⟩
  refine⟨_,rfl,fresh _ hd s2, ?_⟩
  rw[av,Wc _ aic,e,Qz,List.length_take,show min i O.length=i by omega]
  show some (HO.dT (_++ [(gF r,V.int (0+ (i:Int)))]))=some (HO.dT (_++ [(gF r,V.int ((0+i:Nat):Int))]))
  rw[show(0:Int)+ (i:Int)=((0+i:Nat):Int) by omega]
 rintro σ H2 ⟨u3,rfl,s2,hd2⟩
 rw[lo,List.take_length] at hd2
 refine bU (gN (aR ⟨Nat.zero_le _,fun c hc=> ?_⟩))
 have s3:=sameNew (o:= .lst []) hc
 have kf:=s2.trans s3
 have fc:=s2.free hc
 have dF:d≠c:=fun z=>by rw[z] at hd2;rw[hd2] at hc;cases hc
 refine bU (aX ?_)
 refine⟨_,rfl,b,rfl,⟨_,ao.of (kf _ _ hb)⟩,mM (K:=K) (a:=b) (xs:=nv) (fun i σ H4=> ∃(ys:List V) (u6 u7:Option V),σ=[some (.ref a),some (.ref b),some (.ref d),u3,some (.ref c),some (.int ((gU O (N.take i)).2:Nat)),u6,u7]∧ax H H4∧H4 d=some (.dT (fV 0 O))∧H4 c=some (.lst ys)∧aQ H4 ys (gU O (N.take i)).1)
  ⟨[],none,none,rfl,kf,s3 _ _ hd2,av, .nil⟩ (fun i σ H4 _ ⟨_,_,_,_,s4,_⟩=>ao.of (s4 _ _ hb)) ?_ ?_⟩
 ·rintro i y σ H4 hi ⟨ys,u6,u7,rfl,s4,lp,jD,bg⟩
  obtain⟨r,hr,t,n,rfl,ht,hn⟩:=QF.get hi
  have o9:i<N.length:=(List.getElem?_eq_some_iff.mp hr).1
  have e:gU O (N.take (i+1))=e_ O (gU O (N.take i)) r:=by
   unfold gU
   rw[List.take_add_one,hr,List.foldl_append];rfl
  have EX:=Paired.length bg
  have EY:=EV O (N.take i) ([],0)
  rw[List.length_take] at EY
  have QI:(gU O (N.take i)).1.length≤20000:=by
   have:(gU O (N.take i)).1.length≤0+2*min i N.length:=EY
   omega
  generalize gU O (N.take i)=st at bg e EX QI⊢
  obtain⟨ps,k⟩:=st
  simp only at bg EX QI
  refine⟨t,_,rfl, .inl (aI.of (s4 _ _ ht)),rfl,_,_,rfl,_,_,rfl,rfl, ?_⟩
  have hg:eo H4 d (.ref n) ((idx O r).map fun j=>V.int ((0+j:Nat):Int)):=by rw[←wZ];exact eo.t lp (s4 _ _ hn)
  have T: ∀(H9:Hp) (zs QJ:List V),H9 c=some (.lst zs)→dJ H9 (upd H9 c (.lst QJ)):=fun H9 zs QJ e b xs e'=>by
   rw[aD (fun z=>by rw[z,e] at e';cases e')];exact e'
  cases hx:idx O r with
  | none=>
   rw[hx] at hg
   refine eW ?_
   refine⟨_,rfl,_,rfl,d,_,rfl,hg,_,rfl,iF ?_ rfl⟩
   refine ir (qM (aC rfl ⟨.inl ⟨rfl,_,ao.of jD⟩, ?_⟩))
   refine iq (ar (aX (ar (aC rfl (aR ⟨(by show 2≤sizeLine;decide),fun t1 f1=> ?_⟩)))))
   have z1:=sameNew (o:= .tup [V.str "put",V.str ⟨#[r.2.2]⟩]) f1
   refine⟨ys,z1 _ _ jD,cY (by omega), ?_⟩
   refine⟨ys++ [.ref t1],some (.ref n),some (.str ⟨#[r.2.2]⟩), ?_,fresh _ fc (s4.trans z1), ?_,av, ?_⟩
   ·rw[e];unfold e_;rw[hx];rfl
   ·rw[aD dF];exact z1 _ _ lp
   ·rw[e];unfold e_;rw[hx]
    exact aQ.snoc (p:= .put ⟨#[r.2.2]⟩) ((bg.mono (aM z1)).mono (T _ _ _ (z1 _ _ jD))) ⟨t1,rfl,T _ _ _ (z1 _ _ jD) _ _ av⟩
  | some j=>
   rw[hx] at hg
   have sR:j<O.length:=by
    have:=List.findIdx?_eq_some_iff_getElem.mp hx
    exact this.1
   have hg': ∀{H9:Hp},ax H4 H9→eo H9 d (.ref n) (some (V.int ((j:Nat):Int))):=fun {H9} s=>by
    have h1:cC (fV 0 O) (gF r)=some (V.int ((j:Nat):Int)):=by rw[wZ,hx];show some (V.int ((0+j:Nat):Int))=_;rw[Nat.zero_add]
    rw[←h1]
    exact eo.t (s _ _ lp) (s _ _ (s4 _ _ hn))
   refine eW ?_
   refine⟨_,rfl,_,rfl,d,_,rfl,hg,_,rfl,iT ?_ rfl⟩
   refine ir (qM (aC rfl ⟨.inl ⟨rfl,_,ao.of jD⟩, ?_⟩))
   refine iq (ar (aX (ar (ah_ rfl rfl rfl rfl (hg' (ax.refl _)) (s4 _ _ ha) (nV.mono (aM s4)) sj fun H5 s5=>aR ⟨(by show 2≤sizeLine;decide),fun t1 ft=> ?_⟩))))
   have z3:=sameNew (o:= .tup [V.str "cut",V.str ⟨(aK ((O.drop k).take (j - k))).toArray⟩]) ft
   have nW:=s5.trans z3
   refine⟨ys,nW _ _ jD,cY (by omega), ?_⟩
   have y1:=fresh (.lst (ys++ [V.ref t1])) fc (s4.trans nW)
   have QK:=(bg.mono (aM nW)).mono (T _ _ (ys++ [V.ref t1]) (nW _ _ jD))
   have fS:=T _ _ (ys++ [V.ref t1]) (nW _ _ jD) _ _ (av (a:=t1) (o:= .tup [V.str "cut",V.str ⟨(aK ((O.drop k).take (j - k))).toArray⟩]))
   have jC:upd (upd H5 t1 (.tup [V.str "cut",V.str ⟨(aK ((O.drop k).take (j - k))).toArray⟩])) c (.lst (ys++ [V.ref t1])) d=some (.dT (fV 0 O)):=by rw[aD dF];exact nW _ _ lp
   have QL:upd (upd H5 t1 (.tup [V.str "cut",V.str ⟨(aK ((O.drop k).take (j - k))).toArray⟩])) c (.lst (ys++ [V.ref t1])) n=some (.tup [.str r.1, .int (r.2.1:Nat)]):=T _ _ _ (nW _ _ jD) _ _ (nW _ _ (s4 _ _ hn))
   have z0:upd (upd H5 t1 (.tup [V.str "cut",V.str ⟨(aK ((O.drop k).take (j - k))).toArray⟩])) c (.lst (ys++ [V.ref t1])) c=some (.lst (ys++ [V.ref t1])):=av
   generalize upd (upd H5 t1 (.tup [V.str "cut",V.str ⟨(aK ((O.drop k).take (j - k))).toArray⟩])) c (.lst (ys++ [V.ref t1]))=H6 at y1 QK fS jC QL z0⊢
   refine ir (qM (aC rfl ⟨.inl ⟨rfl,_,ao.of z0⟩, ?_⟩))
   refine iq (ar (aX (ar (aX (aR ⟨(by show 2≤sizeLine;decide),fun t2 f2=> ?_⟩)))))
   have z4:=sameNew (o:= .tup [V.str "keep",V.int 1]) f2
   refine⟨_,z4 _ _ z0,cY (by rw[List.length_append];show ys.length+1≤1000000;omega), ?_⟩
   have T2:=T _ _ (ys++ [V.ref t1]++ [V.ref t2]) (z4 _ _ z0)
   have h1:cC (fV 0 O) (gF r)=some (V.int ((j:Nat):Int)):=by rw[wZ,hx];show some (V.int ((0+j:Nat):Int))=_;rw[Nat.zero_add]
   have z8:eo (upd (upd H6 t2 (.tup [V.str "keep",V.int 1])) c (.lst (ys++ [V.ref t1]++ [V.ref t2]))) d (.ref n) (some (V.int ((j:Nat):Int))):=by
    rw[←h1]
    exact eo.t (by rw[aD dF];exact z4 _ _ jC) (T2 _ _ (z4 _ _ QL))
   refine bU (fU ?_)
   refine⟨_,rfl,_,rfl,d,_,rfl,z8,aX (Γ:=aU K EU [] (E:=E)) (ahh ?_)⟩
   refine⟨ys++ [V.ref t1]++ [V.ref t2],some (.ref n),some (.str ⟨#[r.2.2]⟩), ?_,fresh _ fc (y1.trans z4), ?_,av, ?_⟩
   ·rw[e];unfold e_;rw[hx];rfl
   ·rw[aD dF];exact z4 _ _ jC
   ·rw[e];unfold e_;rw[hx]
    have:=aQ.snoc (p:= .keep 1) (aQ.snoc (p:= .cut ⟨(aK ((O.drop k).take (j - k))).toArray⟩) ((QK.mono (aM z4)).mono T2) ⟨t1,rfl,T2 _ _ (z4 _ _ fS)⟩) ⟨t2,rfl,T2 _ _ av⟩
    rw[List.append_assoc] at this
    rw[List.append_assoc] at this
    rw[List.append_assoc]
    exact this
 ·rintro σ H4 ⟨ys,u6,u7,rfl,s4,lp,jD,bg⟩
  rw[ln,List.take_length] at bg
  rw[ln,List.take_length]
  have EX:=Paired.length bg
  have EY:(gU O N).1.length≤0+2*N.length:=EV O N ([],0)
  refine j6 (bN qz rfl (ar (fU (aC rfl (gN (ar (iq (ar (aX (ar (aia rfl rfl (s4 _ _ ha) (nV.mono (aM s4)) sj fun H5 s5=>aR ⟨(by show 2≤sizeLine;decide),fun t1 ft=>aR ⟨(by show 1≤sizeLine;decide),fun t2 f2=> ?_⟩⟩)))))))))))
  have z3:=sameNew (o:= .tup [V.str "cut",V.str ⟨(aK (O.drop (gU O N).2)).toArray⟩]) ft
  have z4:=sameNew (o:= .lst [V.ref t1]) f2
  have EZ:=(s5.trans z3).trans z4
  refine .inl ⟨c,t2,ys,[V.ref t1],rfl,rfl,EZ _ _ jD,av,cz (by show ys.length+1≤1000000;omega),fun p2 f3=> ?_⟩
  have z5:=sameNew (o:= .lst (ys++ [V.ref t1])) f3
  have s:=s4.trans (EZ.trans z5)
  refine aR ?_
  refine⟨p2,_,eE O N,rfl,av,aQ.snoc (p:= .cut ⟨(aK (O.drop (gU O N).2)).toArray⟩) (bg.mono (aM (EZ.trans z5))) ⟨t1,rfl,z5 _ _ (z4 _ _ av)⟩, ?_,tF,fun b' H' zs s' f' mV hz=> ?_⟩
  ·unfold eE;rw[List.length_append];show _+1≤100000;omega
  ·exact q b' H' zs (s.trans s') (s.free f') mV hz
end L2.B
namespace L2.B
end L2.B
namespace L2.B
open PySem PySem.Spec PyProof.Rows
def eL(O:List aq):Nat→List aq→List At
 | k,[]=> (aK (O.drop k)).map .C
 | k,r::N=>match idx O r with
  | some j=> (aK ((O.drop k).take (j - k))).map .C++ .K::eL O (j+1) N
  | none=> .P r.2.2::eL O k N
theorem QM{O N:List aq}{r:aq}{k j:Nat}(h:idx O r=some j):eL O k (r::N)=(aK ((O.drop k).take (j - k))).map .C++ .K::eL O (j+1) N:=by
 conv=>lhs;unfold eL;rw[h]
theorem QN{O N:List aq}{r:aq}{k:Nat}(h:idx O r=none):eL O k (r::N)= .P r.2.2::eL O k N:=by
 conv=>lhs;unfold eL;rw[h]
theorem E1(O:List aq): ∀(N:List aq) (ps:List Pt) (k:Nat),ak ((N.foldl (e_ O) (ps,k)).1++ [.cut ⟨(aK (O.drop (N.foldl (e_ O) (ps,k)).2)).toArray⟩])=ak ps++eL O k N
 | [],ps,k=>by
  show ak (ps++ [_])=_
  rw[gB,gC];rfl
 | r::N,ps,k=>by
  rw[List.foldl_cons]
  cases hx:idx O r with
  | none=>
   have e:e_ O (ps,k) r=(ps++ [.put ⟨#[r.2.2]⟩],k):=by unfold e_;rw[hx]
   rw[e,E1 O N]
   show _=ak ps++eL O k (r::N)
   rw[QN hx,gB,gC,List.append_assoc]
   rfl
  | some j=>
   have e:e_ O (ps,k) r=(ps++ [.cut ⟨(aK ((O.drop k).take (j - k))).toArray⟩, .keep 1],j+1):=by unfold e_;rw[hx]
   rw[e,E1 O N]
   show _=ak ps++eL O k (r::N)
   rw[QM hx]
   rw[gB,List.append_assoc]
   congr 1
   show(b_ (.cut ⟨(aK ((O.drop k).take (j - k))).toArray⟩)++ (b_ (.keep 1)++ []))++_=_
   rw[List.append_assoc]
   rfl
theorem E2(O N:List aq):ak (eE O N)=eL O 0 N:=by
 have:=E1 O N [] 0
 exact this
def cW(O:List aq):Nat→List aq→Prop
 | k,[]=>k≤O.length
 | k,r::N=>match idx O r with
  | some j=>k≤j∧cW O (j+1) N
  | none=>cW O k N
theorem gX{O N:List aq}{r:aq}{k j:Nat}(h:idx O r=some j):cW O k (r::N)↔k≤j∧cW O (j+1) N:=by
 show(match idx O r with | some j=>k≤j∧cW O (j+1) N | none=>cW O k N)↔_
 rw[h]
theorem iZ{O N:List aq}{r:aq}{k:Nat}(h:idx O r=none):cW O k (r::N)↔cW O k N:=by
 show(match idx O r with | some j=>k≤j∧cW O (j+1) N | none=>cW O k N)↔_
 rw[h]
theorem QO{O:List aq}{r:aq}{j:Nat}(h:idx O r=some j): ∃hj:j<O.length,aH O[j]=aH r:=by
 obtain⟨hj,h2,_⟩:=List.findIdx?_eq_some_iff_getElem.mp h
 exact⟨hj,of_decide_eq_true h2⟩
theorem E3{O:List aq}: ∀{N:List aq} {k:Nat},cW O k N→k≤O.length
 | [],k,h=>h
 | r::N,k,h=>by
  cases hx:idx O r with
  | none=>exact E3 ((iZ hx).mp h)
  | some j=>
   obtain⟨h1,h2⟩:=(gX hx).mp h
   have:=E3 h2
   omega
theorem z_{O:List aq}: ∀{N:List aq} {k k':Nat},k≤k'→cW O k' N→cW O k N
 | [],k,k',hk,h=>Nat.le_trans hk h
 | r::N,k,k',hk,h=>by
  cases hx:idx O r with
  | none=>exact(iZ hx).mpr (z_ hk ((iZ hx).mp h))
  | some j=>
   obtain⟨h1,h2⟩:=(gX hx).mp h
   exact(gX hx).mpr ⟨by omega,h2⟩
theorem aie{O N:List aq}{r:aq}{k:Nat}(h:cW O k (r::N)):cW O k N:=by
 cases hx:idx O r with
 | none=>exact(iZ hx).mp h
 | some j=>
  obtain⟨h1,h2⟩:=(gX hx).mp h
  exact z_ (by omega) h2
theorem E4(xs:List At): ∀(s l:List Nat),fit l xs→fit (s++l) (s.map .C++xs)
 | [],l,h=>h
 | c::s,l,h=> ⟨rfl,E4 xs s l h⟩
theorem E5(xs:List At): ∀(s:List Nat) (i:Nat),res i (s.map .C++xs)=res (i+s.length) xs
 | [],i=>rfl
 | c::s,i=>by
  show res (i+1) (s.map .C++xs)=_
  rw[E5 xs s (i+1),List.length_cons,show i+1+s.length=i+ (s.length+1) by omega]
theorem QP(s:List Nat):cnt (s.map .C)=s.length:=by
 induction s with
 | nil=>rfl
 | cons c s ih=>show cnt (s.map .C)+1=_;rw[ih];rfl
def dO(O:List aq)(r:aq):Sg:=match idx O r with | some j=> .inl j | none=> .inr r.2.2
theorem q_{O:List aq}{r:aq}{j:Nat}(h:idx O r=some j):dO O r= .inl j:=by unfold dO;rw[h]
theorem w5{O:List aq}{r:aq}(h:idx O r=none):dO O r= .inr r.2.2:=by unfold dO;rw[h]
theorem aif{O:List aq}{k j:Nat}(hk:k≤j)(hj:j<O.length):O.drop k=(O.drop k).take (j - k)++O[j]::O.drop (j+1):=by
 conv=>lhs;rw[←List.take_append_drop (j - k) (O.drop k)]
 rw[List.drop_drop,show k+ (j - k)=j by omega,List.drop_eq_getElem_cons hj]
theorem Aa{O:List aq}: ∀{N:List aq} {k:Nat},cW O k N→fit (aK (O.drop k)) (eL O k N)∧res k (eL O k N)=N.map (dO O)∧cnt (eL O k N)+k≤O.length+N.length
 | [],k,h=>by
  have h':k≤O.length:=h
  refine⟨?_, ?_, ?_⟩
  ·show fit _ ((aK (O.drop k)).map .C)
   have:=E4 [] (aK (O.drop k)) [] rfl
   rw[List.append_nil,List.append_nil] at this
   exact this
  ·show res k ((aK (O.drop k)).map .C)=[]
   have:=E5 [] (aK (O.drop k)) k
   rw[List.append_nil] at this
   rw[this];rfl
  ·show cnt ((aK (O.drop k)).map .C)+k≤_
   rw[QP];unfold aK
   rw[List.length_map,List.length_drop]
   show O.length - k+k≤O.length+0
   omega
 | r::N,k,h=>by
  cases hx:idx O r with
  | none=>
   obtain⟨h1,h2,h3⟩:=Aa ((iZ hx).mp h)
   rw[QN hx]
   refine⟨h1, ?_, ?_⟩
   ·show .inr r.2.2::res k (eL O k N)=_
    rw[h2,List.map_cons,w5 hx]
   ·show cnt (eL O k N)+1+k≤O.length+ (N.length+1)
    omega
  | some j=>
   obtain⟨hk,hm⟩:=(gX hx).mp h
   obtain⟨hj,_⟩:=QO hx
   obtain⟨h1,h2,h3⟩:=Aa hm
   rw[QM hx]
   have hl:((O.drop k).take (j - k)).length=j - k:=by rw[List.length_take,List.length_drop];omega
   have dy:(aK ((O.drop k).take (j - k))).length=j - k:=by unfold aK;rw[List.length_map,hl]
   refine⟨?_, ?_, ?_⟩
   ·have e:aK (O.drop k)=aK ((O.drop k).take (j - k))++ (O[j].2.2::aK (O.drop (j+1))):=by
     conv=>lhs;rw[aif hk hj]
     unfold aK;rw[List.map_append,List.map_cons]
    rw[e]
    exact E4 _ _ _ h1
   ·rw[E5,dy,show k+ (j - k)=j by omega,List.map_cons,q_ hx]
    show .inl j::res (j+1) (eL O (j+1) N)=_
    rw[h2]
   ·rw[wx,QP,dy]
    show(j - k)+cnt (eL O (j+1) N)+k≤O.length+ (N.length+1)
    omega
def gY(R:List aq):Prop:= ∀r∈R,SG.cps.contains r.2.2=true
theorem E6{R:List aq}(h:gY R)(hl:R.length≤10000):good ⟨(aK R).toArray⟩:=by
 refine⟨?_,fun c hc=> ?_⟩
 ·rw[len_list]
  show(aK R).length≤_
  unfold aK;rw[List.length_map];omega
 ·have eh:c∈aK R:=hc
  obtain⟨r,hr,rfl⟩:=List.mem_map.mp eh
  exact h r hr
theorem QR(R:List aq):(⟨(aK R).toArray⟩:Str).length=R.length:=by
 rw[len_list];show(aK R).length=_;unfold aK;rw[List.length_map]
theorem QS{O:List aq}(hO:gY O)(w_:O.length≤10000): ∀(N:List aq) (s:List Pt×Nat),gY N→(∀p∈s.1,d9 p)→ ∀p∈ (N.foldl (e_ O) s).1,d9 p
 | [],s,_,h=>h
 | r::N,s,hN,h=>by
  rw[List.foldl_cons]
  refine QS hO w_ N _ (fun x hx=>hN x (List.mem_cons_of_mem _ hx)) ?_
  unfold e_
  cases idx O r with
  | none=>
   intro p hp
   rcases List.mem_append.mp hp with z | z
   ·exact h p z
   ·rw[List.mem_singleton.mp z]
    have:=E6 (R:=[r]) (fun x hx=>by rw[List.mem_singleton.mp hx];exact hN r List.mem_cons_self) (by show 1≤10000;decide)
    exact⟨this,by show(1:Nat)≤100000;decide⟩
  | some j=>
   intro p hp
   rcases List.mem_append.mp hp with z | z
   ·exact h p z
   ·simp only[List.mem_cons,List.not_mem_nil,or_false] at z
    have aP:((O.drop s.2).take (j - s.2)).length≤10000:=by rw[List.length_take,List.length_drop];omega
    rcases z with rfl | rfl
    ·exact⟨E6 (fun x hx=>hO x (List.mem_of_mem_drop (List.mem_of_mem_take hx))) aP,by rw[QR];omega⟩
    ·exact(by decide:(0:Int)≤1)
theorem QU{O N:List aq}(hO:gY O)(hN:gY N)(w_:O.length≤10000): ∀p∈eE O N,d9 p:=by
 intro p hp
 rcases List.mem_append.mp hp with z | z
 ·exact QS hO w_ N ([],0) hN (fun p hp=>by cases hp) p z
 ·rw[List.mem_singleton.mp z]
  have aP:(O.drop (gU O N).2).length≤10000:=by rw[List.length_drop];omega
  exact⟨E6 (fun x hx=>hO x (List.mem_of_mem_drop hx)) aP,by rw[QR];omega⟩
theorem Ab{O N:List aq}(h:cW O 0 N):aG (eE O N)≤O.length+N.length:=by
 rw[←ED,E2]
 have:=(Aa h).2.2
 omega
theorem E7{O N:List aq}(h:cW O 0 N)(hO:gY O)(hN:gY N)(w_:O.length≤10000)(hNl:N.length≤10000): ∃r,iY (fQ (eE O N)) (aK O) r∧res 0 (ak (fQ (eE O N)))=N.map (dO O):=by
 obtain⟨h1,h2,_⟩:=Aa h
 have mi:=QU hO hN w_
 have tF:=Ab h
 obtain⟨g1,g2,_⟩:=DW _ mi (by omega)
 have vV: ∀p∈eE O N,eU p:=fun p hp=>agq (mi p hp)
 have gM:=s_ (eE O N) (aK O) vV (by rw[E2];exact h1)
 have QV:=wa (eE O N) vV
 rw[DS _ mi] at QV
 refine⟨_,⟨g2,g1,D4 gM⟩, ?_⟩
 rw[zE QV,E2,h2]
theorem rg{O:List aq}{who:Str}(hw: ∀r∈O,r.1≠who): ∀(xs:List At) (R:List aq) (k m:Nat),cW O k R→cW O k (bf who R m xs)
 | [],R,k,m,h=>E3 h
 | .P c::xs,R,k,m,h=>by
  show cW O k ((who,m,c)::bf who R (m+1) xs)
  refine(iZ (zZ fun hm=> ?_)).mpr (rg hw xs R k (m+1) h)
  obtain⟨r,hr,e⟩:=List.mem_map.mp hm
  exact hw r hr (congrArg (fun p:Str×Nat=>p.1) e)
 | .K::xs,[],k,m,h=>rg hw xs [] k m h
 | .K::xs,r::R,k,m,h=>by
  show cW O k (r::bf who R m xs)
  cases hx:idx O r with
  | none=>exact(iZ hx).mpr (rg hw xs R k m ((iZ hx).mp h))
  | some j=>
   obtain⟨h1,h2⟩:=(gX hx).mp h
   exact(gX hx).mpr ⟨h1,rg hw xs R (j+1) m h2⟩
 | .C c::xs,[],k,m,h=>rg hw xs [] k m h
 | .C c::xs,r::R,k,m,h=>rg hw xs R k m (aie h)
theorem tR{O:List aq}(h:(O.map aH).Nodup){i:Nat}{r:aq}(hr:O[i]?=some r):idx O r=some i:=by
 unfold idx
 obtain⟨hi,e⟩:=List.getElem?_eq_some_iff.mp hr
 rw[List.findIdx?_eq_some_iff_getElem]
 refine⟨hi,by rw[e];exact decide_eq_true rfl,fun j hj=> ?_⟩
 rw[decide_eq_true_eq]
 intro z
 have bT:j<O.length:=by omega
 have e1:(O.map aH)[j]'(by rw[List.length_map];exact bT)=(O.map aH)[i]'(by rw[List.length_map];exact hi):=by
  rw[List.getElem_map,List.getElem_map,z,e]
 exact List.pairwise_iff_getElem.mp h j i _ _ hj e1
theorem QW{O:List aq}(h:(O.map aH).Nodup): ∀(n k:Nat),O.length - k=n→k≤O.length→cW O k (O.drop k)
 | 0,k,hn,hk=>by rw[List.drop_of_length_le (by omega)];exact hk
 | n+1,k,hn,hk=>by
  have aP:k<O.length:=by omega
  rw[List.drop_eq_getElem_cons aP]
  exact(gX (tR h (List.getElem?_eq_getElem aP))).mpr ⟨Nat.le_refl _,QW h n (k+1) (by omega) (by omega)⟩
theorem jE{who:Str}: ∀(xs:List At) (R:List aq) (m:Nat) (r:aq),r∈bf who R m xs→r∈R∨(r.1=who∧m≤r.2.1)
 | [],R,m,r,h=>by cases h
 | .P c::xs,R,m,r,h=>by
  rcases List.mem_cons.mp h with rfl | h
  ·exact .inr ⟨rfl,Nat.le_refl _⟩
  ·rcases jE xs R (m+1) r h with z | z
   ·exact .inl z
   ·exact .inr ⟨z.1,by omega⟩
 | .K::xs,[],m,r,h=>jE xs [] m r h
 | .K::xs,q::R,m,r,h=>by
  rcases List.mem_cons.mp h with rfl | h
  ·exact .inl List.mem_cons_self
  ·exact(jE xs R m r h).imp (List.mem_cons_of_mem _) id
 | .C c::xs,[],m,r,h=>jE xs [] m r h
 | .C c::xs,q::R,m,r,h=> (jE xs R m r h).imp (List.mem_cons_of_mem _) id
theorem rj{who:Str}: ∀(xs:List At) (R:List aq) (m:Nat),(R.map aH).Nodup→(∀r∈R,r.1≠who)→((bf who R m xs).map aH).Nodup
 | [],R,m,h,hw=>List.nodup_nil
 | .P c::xs,R,m,h,hw=>by
  show(aH (who,m,c)::(bf who R (m+1) xs).map aH).Nodup
  refine List.nodup_cons.mpr ⟨fun hm=> ?_,rj xs R (m+1) h hw⟩
  obtain⟨r,hr,e⟩:=List.mem_map.mp hm
  have e1:r.1=who:=congrArg (fun p:Str×Nat=>p.1) e
  have e2:r.2.1=m:=congrArg (fun p:Str×Nat=>p.2) e
  rcases jE xs R (m+1) r hr with z | z
  ·exact hw r z e1
  ·omega
 | .K::xs,[],m,h,hw=>rj xs [] m h hw
 | .K::xs,q::R,m,h,hw=>by
  obtain⟨h1,h2⟩:=List.nodup_cons.mp (show(aH q::R.map aH).Nodup from h)
  show(aH q::(bf who R m xs).map aH).Nodup
  refine List.nodup_cons.mpr ⟨fun hm=> ?_,rj xs R m h2 fun r hr=>hw r (List.mem_cons_of_mem _ hr)⟩
  obtain⟨r,hr,e⟩:=List.mem_map.mp hm
  rcases jE xs R m r hr with z | z
  ·exact h1 (by rw[←e];exact List.mem_map_of_mem z)
  ·have e1:r.1=q.1:=congrArg (fun p:Str×Nat=>p.1) e
   exact hw q List.mem_cons_self (by rw[←e1];exact z.1)
 | .C c::xs,[],m,h,hw=>rj xs [] m h hw
 | .C c::xs,q::R,m,h,hw=>rj xs R m (List.nodup_cons.mp (show(aH q::R.map aH).Nodup from h)).2 fun r hr=>hw r (List.mem_cons_of_mem _ hr)
theorem xa{O:List aq}{who:Str}(hn:(O.map aH).Nodup)(hw: ∀r∈O,r.1≠who): ∀(xs:List At) (i m:Nat),(O.length - i=bb xs)→(bf who (O.drop i) m xs).map (dO O)=res i xs
 | [],i,m,h=>rfl
 | .P c::xs,i,m,h=>by
  show dO O (who,m,c)::(bf who (O.drop i) (m+1) xs).map (dO O)= .inr c::res i xs
  rw[xa hn hw xs i (m+1) h,w5 (zZ fun hm=> ?_)]
  obtain⟨r,hr,e⟩:=List.mem_map.mp hm
  exact hw r hr (congrArg (fun p:Str×Nat=>p.1) e)
 | .K::xs,i,m,h=>by
  have h':O.length - i=bb xs+1:=h
  have aP:i<O.length:=by omega
  rw[List.drop_eq_getElem_cons aP]
  show dO O O[i]::(bf who (O.drop (i+1)) m xs).map (dO O)= .inl i::res (i+1) xs
  rw[xa hn hw xs (i+1) m (by omega),q_ (tR hn (List.getElem?_eq_getElem aP))]
 | .C c::xs,i,m,h=>by
  have h':O.length - i=bb xs+1:=h
  have aP:i<O.length:=by omega
  rw[List.drop_eq_getElem_cons aP]
  show(bf who (O.drop (i+1)) m xs).map (dO O)=res (i+1) xs
  exact xa hn hw xs (i+1) m (by omega)
theorem nX{who:Str}: ∀(xs:List At) (R:List aq) (m:Nat),out (aK R) xs=aK (bf who R m xs)
 | [],R,m=>rfl
 | .P c::xs,R,m=>by show c::out (aK R) xs=c::aK (bf who R (m+1) xs);rw[nX xs R (m+1)]
 | .K::xs,[],m=>nX xs [] m
 | .K::xs,q::R,m=>by show q.2.2::out (aK R) xs=q.2.2::aK (bf who R m xs);rw[nX xs R m]
 | .C c::xs,[],m=>nX xs [] m
 | .C c::xs,q::R,m=>nX xs R m
def flip(c:Nat):Nat:=if c=97 then 98 else 97
theorem aih(c:Nat):flip c≠c:=by unfold flip;split<;>omega
def tell(nm:Str×Nat)(r:aq):aq:=if aH r=nm then (r.1,r.2.1,flip r.2.2) else r
def told(nm:Str×Nat)(R:List aq):List aq:=R.map (tell nm)
theorem E8(nm:Str×Nat)(r:aq):aH (tell nm r)=aH r:=by unfold tell;split<;>rfl
theorem QX(nm:Str×Nat)(r:aq):(tell nm r).1=r.1:=by unfold tell;split<;>rfl
theorem QY(nm:Str×Nat)(R:List aq):(told nm R).map aH=R.map aH:=by
 unfold told;rw[List.map_map];exact List.map_congr_left fun r _=>E8 nm r
theorem nY(nm:Str×Nat)(R:List aq):(told nm R).length=R.length:=by unfold told;rw[List.length_map]
theorem E9(nm:Str×Nat)(O:List aq)(r:aq):idx (told nm O) r=idx O r:=by
 unfold idx told
 rw[List.findIdx?_map]
 congr 1
 funext o
 show decide (aH (tell nm o)=aH r)=_
 rw[E8]
theorem Ac{nm:Str×Nat}{O:List aq}: ∀{N:List aq} {k:Nat},cW O k N→cW (told nm O) k N
 | [],k,h=>by show k≤ (told nm O).length;rw[nY];exact h
 | r::N,k,h=>by
  cases hx:idx O r with
  | none=>exact(iZ (by rw[E9];exact hx)).mpr (Ac ((iZ hx).mp h))
  | some j=>
   obtain⟨h1,h2⟩:=(gX hx).mp h
   exact(gX (by rw[E9];exact hx)).mpr ⟨h1,Ac h2⟩
theorem aii(nm:Str×Nat)(O:List aq)(r:aq):dO (told nm O) r=dO O r:=by unfold dO;rw[E9]
theorem aij{c:Nat}:SG.cps.contains (flip c)=true:=by
 unfold flip
 split
 ·decide+kernel
 ·decide+kernel
theorem Ad{nm:Str×Nat}{R:List aq}(h:gY R):gY (told nm R):=by
 intro r hr
 obtain⟨q,hq,rfl⟩:=List.mem_map.mp hr
 unfold tell
 split
 ·exact aij
 ·exact h q hq
theorem Ae{nm:Str×Nat}{who:Str}(bx:nm.1≠who): ∀(xs:List At) (R:List aq) (m:Nat),(R.map aH).Nodup→fit (aK R) xs→nm∈ (bf who R m xs).map aH→fit (aK (told nm R)) xs
 | [],R,m,hn,h,hm=>by cases hm
 | .P c::xs,R,m,hn,h,hm=>by
  have h':fit (aK R) xs:=h
  rcases List.mem_cons.mp (show nm∈aH (who,m,c)::(bf who R (m+1) xs).map aH from hm) with e | jR
  ·exact absurd (congrArg (fun p:Str×Nat=>p.1) e) bx
  ·exact Ae bx xs R (m+1) hn h' jR
 | .K::xs,[],m,hn,h,hm=>h.elim
 | .K::xs,q::R,m,hn,h,hm=>by
  obtain⟨n1,n2⟩:=List.nodup_cons.mp (show(aH q::R.map aH).Nodup from hn)
  have h':fit (aK R) xs:=h
  show fit ((tell nm q).2.2::aK (told nm R)) (.K::xs)
  show fit (aK (told nm R)) xs
  rcases List.mem_cons.mp (show nm∈aH q::(bf who R m xs).map aH from hm) with e | jR
  ·have:told nm R=R:=by
    unfold told
    conv=>rhs;rw[←List.map_id R]
    refine List.map_congr_left fun r hr=> ?_
    unfold tell
    rw[if_neg (fun z=>n1 (by rw[←e,←z];exact List.mem_map_of_mem hr))];rfl
   rw[this];exact h'
  ·exact Ae bx xs R m n2 h' jR
 | .C c::xs,[],m,hn,h,hm=>h.elim
 | .C c::xs,q::R,m,hn,h,hm=>by
  obtain⟨n1,n2⟩:=List.nodup_cons.mp (show(aH q::R.map aH).Nodup from hn)
  have h':q.2.2=c∧fit (aK R) xs:=h
  have jR:nm∈ (bf who R m xs).map aH:=hm
  show(tell nm q).2.2=c∧fit (aK (told nm R)) xs
  refine⟨?_,Ae bx xs R m n2 h'.2 jR⟩
  have:aH q≠nm:=fun z=>by
   obtain⟨r,hr,e⟩:=List.mem_map.mp jR
   rcases jE xs R m r hr with y | y
   ·exact n1 (by rw[z,←e];exact List.mem_map_of_mem y)
   ·exact bx (by rw[←e];exact y.1)
  unfold tell
  rw[if_neg this];exact h'.1
theorem tU{nm:Str×Nat}{who:Str}(bx:nm.1≠who): ∀(xs:List At) (R:List aq) (m:Nat),bf who (told nm R) m xs=told nm (bf who R m xs)
 | [],R,m=>rfl
 | .P c::xs,R,m=>by
  show(who,m,c)::bf who (told nm R) (m+1) xs=tell nm (who,m,c)::told nm (bf who R (m+1) xs)
  rw[tU bx xs R (m+1)]
  congr 1
  unfold tell
  rw[if_neg (fun z=>bx (by rw[←z];rfl))]
 | .K::xs,[],m=>tU bx xs [] m
 | .K::xs,q::R,m=>by
  show tell nm q::bf who (told nm R) m xs=tell nm q::told nm (bf who R m xs)
  rw[tU bx xs R m]
 | .C c::xs,[],m=>tU bx xs [] m
 | .C c::xs,q::R,m=>tU bx xs R m
def cutAt:List At→Nat→Option Nat
 | [],_=>none
 | .P _::ys,p=>cutAt ys p
 | .K::_,0=>none
 | .K::ys,p+1=>cutAt ys p
 | .C d::_,0=>some d
 | .C _::ys,p+1=>cutAt ys p
theorem Af: ∀(ys:List At) (l:List Nat) (i p:Nat),fit l ys→p<l.length→Sum.inl (i+p)∉res i ys→cutAt ys p=l[p]?
 | [],l,i,p,h,hp,hn=>by cases h;cases hp
 | .P c::ys,l,i,p,h,hp,hn=>Af ys l i p h hp fun z=>hn (List.mem_cons_of_mem _ z)
 | .K::ys,[],i,p,h,hp,hn=>h.elim
 | .K::ys,a::l,i,0,h,hp,hn=>absurd (List.mem_cons_self) (show Sum.inl (i+0)∉Sum.inl i::res (i+1) ys from hn)
 | .K::ys,a::l,i,p+1,h,hp,hn=>by
  have:=Af ys l (i+1) p h (by simpa using hp) fun z=>hn (List.mem_cons_of_mem _ (by rw[show i+ (p+1)=i+1+p by omega];exact z))
  rw[List.getElem?_cons_succ,←this];rfl
 | .C c::ys,[],i,p,h,hp,hn=>h.elim
 | .C c::ys,a::l,i,0,h,hp,hn=>by rw[←h.1];rfl
 | .C c::ys,a::l,i,p+1,h,hp,hn=>by
  have:=Af ys l (i+1) p h.2 (by simpa using hp) fun z=>hn (by rw[show i+ (p+1)=i+1+p by omega];exact z)
  rw[List.getElem?_cons_succ,←this];rfl
end L2.B
namespace L2
open PySem PySem.Spec PyProof.Rows
theorem af{α:Type _}{p:α→Prop}: ∀x∈ ([]:List α),p x:=fun _ h=>nomatch h
theorem aA{α:Type _}{p:α→Prop}{a:α}{l:List α}(h:p a)(t: ∀x∈l,p x): ∀x∈a::l,p x:=List.forall_mem_cons.2 ⟨h,t⟩
section
variable {P:Program} {w:World} {K:PySem.W.Frag}
end
section
variable {P:Program} {w:World} {K:PySem.W.Frag} {mg:Str→Option Value} {base:Heap} {k:Nat}
theorem cB.or{CX:aO}{f:Addr}{fd:FuncData}{ps:List Str}{a b:Sp}(A:cB P w K mg base CX k f fd ps a)(C:cB P w K mg base CX k f fd ps b):cB P w K mg base CX k f fd ps (B.fB a b):=
 ⟨fun vs H Q E h=>h.elim (A.len vs H Q E) (C.len vs H Q E),fun A' outer s H args us vs Q E hr e0 hb hv hs=>hs.elim (A.run A' outer s H args us vs Q E hr e0 hb hv) (C.run A' outer s H args us vs Q E hr e0 hb hv)⟩
theorem cB.weak{CX:aO}{f:Addr}{fd:FuncData}{ps:List Str}{a b:Sp}(A:cB P w K mg base CX k f fd ps b)(h: ∀vs H Q E,a vs H Q E→b vs H Q E):cB P w K mg base CX k f fd ps a:=
 ⟨fun vs H Q E q=>A.len vs H Q E (h _ _ _ _ q),fun A' outer s H args us vs Q E hr e0 hb hv hs=>A.run A' outer s H args us vs Q E hr e0 hb hv (h _ _ _ _ hs)⟩
theorem cf.weak{x:Str}{a b:Sp}(T:cf P w K mg base k x b)(h: ∀vs H Q E,a vs H Q E→b vs H Q E):cf P w K mg base k x a:=by
 obtain⟨f,fd,ps,F,r⟩:=T
 exact⟨f,fd,ps,F.weak h,r⟩
theorem jY.weak{x:Str}{C:Addr}{a b:Sp}(T:jY P w K mg base k (x,C,b))(h: ∀vs H Q E,a vs H Q E→b vs H Q E):jY P w K mg base k (x,C,a):=by
 obtain⟨c,f,fd,ps,m,F,r⟩:=T
 exact⟨c,f,fd,ps,m,F.weak h,r⟩
open PySem.W in
theorem QZ{x:Str}{C:Addr}(X:K.In base)(G:base.Ns mainGlobals mg)(e:nsIn K mainGlobals x=some (some (.ref C)))(q:excIn K C [.type "ValueError", .type "Exception", .type "BaseException", .type "object"] "ValueError.__new__"=true):yT mg base (x,C):=by
 refine⟨_,_,_,_,⟨mg_of X G e, ?_⟩,PySem.F.excBase_ValueError⟩
 unfold excIn at q
 split at q
 ·rename_i dd cd sl ho
  split at q
  ·rename_i C' bm k0 k1 k2 k3 n k5 hm hs
   simp only[Bool.and_eq_true,beq_iff_eq,Bool.not_eq_true'] at q
   obtain⟨⟨⟨⟨⟨rfl,rfl⟩,Q0⟩,ht⟩,aB⟩,yF⟩:=q
   obtain⟨nm,bs,mro,ns,qn,hd,sn,sub,ab,col,del⟩:=cd
   dsimp only at hm Q0 aB yF
   subst hm Q0
   obtain⟨sl⟩:=sl
   have zJ:sl=_:=hs
   subst zJ
   exact⟨bm,ns,nm,qn,bs,hd,sn,sub,ab,col,dd,k0,k1,k2,k3,k5,_,X _ _ ho, .of_isNs (isNs_of_in X aB),nsMap_none_of_in X aB yF,tail_of_in X ht⟩
  ·cases q
 ·cases q
end
namespace B
theorem Q2{K:PySem.W.Frag}{D cK c0 c1 c2 c3 c4 c5 c6 c7 c8 c9 iz gE iA:Addr}{b0 b1 b2 b3 b4 b5 b6 b7 b8 b9 xb E_ tV:Bool}{j:Nat}(h:uS K D)(hi:kitOne K (.ref D) (.ref cK)=some true)(hv:kitOne K (.ref D) (.type "ValueError")=some true)
  (k0:kitOne K (.ref D) (.ref c0)=some b0) (k1:kitOne K (.ref D) (.ref c1)=some b1) (k2:kitOne K (.ref D) (.ref c2)=some b2) (k3:kitOne K (.ref D) (.ref c3)=some b3) (k4:kitOne K (.ref D) (.ref c4)=some b4)
  (k5:kitOne K (.ref D) (.ref c5)=some b5) (k6:kitOne K (.ref D) (.ref c6)=some b6) (k7:kitOne K (.ref D) (.ref c7)=some b7) (k8:kitOne K (.ref D) (.ref c8)=some b8) (k9:kitOne K (.ref D) (.ref c9)=some b9)
  (tW:kitOne K (.ref D) (.ref iz)=some xb) (tX:kitOne K (.ref D) (.ref gE)=some E_) (xf:kitOne K (.ref D) (.ref iA)=some tV)
  (e:[b0,b1,b2,b3,b4,b5,b6,b7,b8,b9,xb,E_,tV]=(List.range 13).map fun i=>decide (i=j):=by decide):j8 K [c0,c1,c2,c3,c4,c5,c6,c7,c8,c9,iz,gE,iA] cK D j:=by
 refine⟨h,fun i c hc=> ?_,hi,hv⟩
 have dX:i<13:=(List.getElem?_eq_some_iff.mp hc).1
 have eb:=congrArg (fun l=>l[i]?) e
 match i,dX with
 | 0,_=>cases hc;have eb:some b0=some (decide (0=j)):=eb;rw[k0,eb]
 | 1,_=>cases hc;have eb:some b1=some (decide (1=j)):=eb;rw[k1,eb]
 | 2,_=>cases hc;have eb:some b2=some (decide (2=j)):=eb;rw[k2,eb]
 | 3,_=>cases hc;have eb:some b3=some (decide (3=j)):=eb;rw[k3,eb]
 | 4,_=>cases hc;have eb:some b4=some (decide (4=j)):=eb;rw[k4,eb]
 | 5,_=>cases hc;have eb:some b5=some (decide (5=j)):=eb;rw[k5,eb]
 | 6,_=>cases hc;have eb:some b6=some (decide (6=j)):=eb;rw[k6,eb]
 | 7,_=>cases hc;have eb:some b7=some (decide (7=j)):=eb;rw[k7,eb]
 | 8,_=>cases hc;have eb:some b8=some (decide (8=j)):=eb;rw[k8,eb]
 | 9,_=>cases hc;have eb:some b9=some (decide (9=j)):=eb;rw[k9,eb]
 | 10,_=>cases hc;have eb:some xb=some (decide (10=j)):=eb;rw[tW,eb]
 | 11,_=>cases hc;have eb:some E_=some (decide (11=j)):=eb;rw[tX,eb]
 | 12,_=>cases hc;have eb:some tV=some (decide (12=j)):=eb;rw[xf,eb]
end B
end L2
namespace L2.B
open PySem PySem.Spec PyProof.Rows
def jF(H:Hp)(v:V)(nm:Str×Nat):Prop:= ∃n,v= .ref n∧H n=some (.tup [.str nm.1, .int (nm.2:Nat)])
abbrev gG(H:Hp):List V→List (Str×Nat)→Prop:=Paired (jF H)
theorem jF.mono{H H':Hp}{v:V}{nm:Str×Nat}(t:dJ H H')(h:jF H v nm):jF H' v nm:=by
 obtain⟨n,e,h⟩:=h
 exact⟨n,e,t _ _ h⟩
theorem gG.mono{H H':Hp}(t:dJ H H'): ∀{vs:List V} {ns:List (Str×Nat)},gG H vs ns→gG H' vs ns
 | _,_, .nil=> .nil
 | _,_, .cons h r=> .cons (h.mono t) (gG.mono t r)
def cA(nm:Str×Nat):PyData:= .tuple [.str nm.1, .int (nm.2:Nat)]
def fW(nm:Str×Nat):Prop:=PyData.strOk nm.1=true
theorem nZ{nm:Str×Nat}(h:fW nm):SeqAt.shaped (cA nm)=true:=by
 unfold SeqAt.shaped
 have e:(cA nm).canLay0=true:=by
  show(PyData.strOk nm.1 && (true && true))=true
  rw[show PyData.strOk nm.1=true from h];rfl
 rw[e];rfl
theorem tY{H:Hp}{v:V}{nm:Str×Nat}(h:jF H v nm):Is H (cA nm) v:=by
 obtain⟨n,e,h⟩:=h
 exact⟨n,_,e,h, .str nm.1,_,rfl,rfl, .int (nm.2:Nat),[],rfl,rfl,rfl⟩
theorem Ag{H:Hp}: ∀{vs:List V} {ns:List (Str×Nat)},gG H vs ns→IsL H (ns.map cA) vs
 | _,_, .nil=>rfl
 | _,_, .cons (a:=v) h r=> ⟨v,_,rfl,tY h,Ag r⟩
theorem Fb(a b:Str×Nat):PyData.eqv (cA a) (cA b)=decide (a=b):=by
 obtain⟨s,i⟩:=a
 obtain⟨t,j⟩:=b
 unfold cA
 simp only[PyData.eqv,PyData.eqvAll]
 by_cases h:s=t
 ·subst h
  by_cases h2:i=j
  ·subst h2;simp
  ·have: ¬((i:Int)=(j:Int)):=by omega
   simp[h2,this]
 ·simp[h]
theorem aik{K:PySem.W.Frag}{H:Hp}{v w:V}{a b:Str×Nat}{Q:VK}(ha:jF H v a)(hb:jF H w b)(oa:fW a)(ob:fW b)(q:Q (.bl (decide (a=b))) H):dr K .Eq v w H Q:=by
 have h1:=tY ha
 have h2:=tY hb
 obtain⟨n,rfl,_⟩:=ha
 obtain⟨m,rfl,_⟩:=hb
 refine⟨cA a,cA b,h1,h2,nZ oa,nZ ob, ?_⟩
 rw[Fb,Bool.false_xor]
 exact q
theorem Q3(ns:List (Str×Nat))(a:Str×Nat):((ns.map cA).any fun e=>PyData.eqv e (cA a))=decide (a∈ns):=by
 rw[List.any_map]
 induction ns with
 | nil=>rfl
 | cons b ns ih=>
  rw[List.any_cons,ih]
  show(PyData.eqv (cA b) (cA a) || _)=_
  rw[Fb]
  by_cases h:b=a
  ·subst h;simp
  ·have h':a≠b:=fun z=>h z.symm
   simp[h,h']
theorem ail{ns:List (Str×Nat)}(h: ∀nm∈ns,fW nm):SeqAt.shaped (.list (ns.map cA))=true:=by
 have go: ∀(l:List (Str×Nat)),(∀nm∈l,fW nm)→PyData.canLayAll0 (l.map cA)=true∧PyData.depthAll (l.map cA)≤1:=by
  intro l
  induction l with
  | nil=>intro _;exact⟨rfl,Nat.zero_le _⟩
  | cons b l ih=>
   intro hl
   obtain⟨c,d⟩:=ih fun x hx=>hl x (List.mem_cons_of_mem _ hx)
   have e:(cA b).canLay0=true:=SeqAt.canLay_of_shaped (nZ (hl b List.mem_cons_self))
   refine⟨?_, ?_⟩
   ·show((cA b).canLay0 && PyData.canLayAll0 (l.map cA))=true
    rw[e,c];rfl
   ·show max (cA b).depth (PyData.depthAll (l.map cA))≤1
    have:(cA b).depth=1:=rfl
    omega
 obtain⟨c,d⟩:=go ns h
 unfold SeqAt.shaped
 have e:(PyData.list (ns.map cA)).canLay0=true:=c
 have e2:(PyData.list (ns.map cA)).depth≤64:=by show PyData.depthAll (ns.map cA)+1≤64;omega
 rw[e,decide_eq_true e2];rfl
theorem aim{K:PySem.W.Frag}{H:Hp}{a b:Addr}{xs:List V}{ns:List (Str×Nat)}{Q:VK}(ha:H a=some (.lst xs))(hb:H b=some (.lst []))(hx:gG H xs ns)(ho: ∀nm∈ns,fW nm)(q:Q (.bl (decide (ns=[]))) H):dr K .Eq (.ref a) (.ref b) H Q:=by
 refine⟨.list (ns.map cA), .list [],⟨a,xs,rfl,ha,Ag hx⟩,⟨b,[],rfl,hb,rfl⟩,ail ho,(by decide), ?_⟩
 have e:(false ^^ PyData.eqv (.list (ns.map cA)) (.list []))=decide (ns=[]):=by
  cases ns with
  | nil=>rfl
  | cons p r=>rfl
 rw[e];exact q
theorem ain(c:Nat):((⟨#[c]⟩:Str)==Str.ofString "a")=decide (c=97):=by
 by_cases h:c=97
 ·subst h;decide
 ·rw[decide_eq_false h]
  exact beq_eq_false_iff_ne.mpr fun z=>h (by have e:[c]=[97]:=congrArg (fun s:Str=>s.cps.toList) z;injection e)
def tZ:Sp:=fun vs H Q E=> ∃(a:Addr) (v:V) (xs:List V) (R:List aq) (nm:Str×Nat),vs=[.ref a,v]∧H a=some (.lst xs)∧bj H xs R∧jF H v nm∧R.length≤10000∧(∀r∈R,fW (aH r))∧fW nm∧
 ∀(d:Addr) (H':Hp) (ys:List V),ax H H'→H d=none→H' d=some (.lst ys)→bj H' ys (told nm R)→Q (.ref d) H'
theorem aio{K:PySem.W.Frag}(vs:List V)(H:Hp)(Q:VK)(E:XK)(h:tZ vs H Q E):au (aU K [] [] (E:=E)) Ds (Dn Q) (start Dr vs) H:=by
 obtain⟨a,v,xs,R,nm,rfl,ha,hR,hv,hl,ho,kJ,q⟩:=h
 have lx:=Paired.length hR
 refine j6 ?_
 refine⟨_,rfl,a,rfl,⟨_,ao.of ha⟩,fun i m ys H2=>m=xs.length - i∧i≤xs.length∧ys.length=i∧ax H H2∧bj H2 ys (told nm (R.take i)),⟨_,rfl,Nat.zero_le _,rfl,ax.refl _, .nil⟩, ?_⟩
 rintro i m ys H2 ⟨rfl,hi,jv,s2,bg⟩
 by_cases aP:i<xs.length
 ·refine .inr ⟨⟨xs,xs[i],ao.of (s2 _ _ ha),by simp[aP]⟩, ?_⟩
  rintro x H3 ⟨rfl,hx⟩
  obtain⟨r,hr,t,n,rfl,ht,hn⟩:=hR.get (hx xs (ao.of (s2 _ _ ha)))
  have rk:=ho r (List.mem_of_getElem? hr)
  refine⟨t,_,rfl,aI.of (s2 _ _ ht),rfl, ?_⟩
  have e:told nm (R.take (i+1))=told nm (R.take i)++ [tell nm r]:=by
   unfold told
   rw[List.take_add_one,hr,List.map_append];rfl
  show ag (aU K [] [] (E:=E)).calm (.tup [(.v 0),(.ix (.lst [(.v 1),(.ix (.c (.str "ab")) (.blt .int [(.cmp .Eq (.v 1) (.c (.str "a")))]))]) (.blt .int [(.cmp .Eq (.v 0) (.v 2))]))]) [some (.ref n),some (.str ⟨#[r.2.2]⟩),some v] H3 fun y H6=>ys.length<sizeLine∧ ∃m',m'<xs.length - i∧(m'=xs.length - (i+1)∧i+1≤xs.length∧(ys++ [y]).length=i+1∧ax H H6∧bj H6 (ys++ [y]) (told nm (R.take (i+1))))
  refine iq (Γ:=(aU K [] [] (E:=E)).calm) (ar (aC rfl (ar (dE (gN (ar (aC rfl (ar (dE (aX (j5 (ar (vZ (aC rfl (aX (me (aR ?_)))))))))))))))))
  rw[ain]
  refine .inr (.inr (.inl ⟨Str.ofString "ab",_,L2.B.flip r.2.2,rfl,rfl,(by decide), ?_, ?_⟩))
  ·unfold L2.B.flip
   by_cases h9:r.2.2=97
   ·rw[decide_eq_true h9,if_pos h9];rfl
   ·rw[decide_eq_false h9,if_neg h9];rfl
  refine aR (Γ:=(aU K [] [] (E:=E)).calm) (σ:=[some (.ref n),some (.str ⟨#[r.2.2]⟩),some v]) ⟨(by show 2≤sizeLine;decide),fun l fl=> ?_⟩
  have z1:=sameNew (o:= .lst [V.str ⟨#[r.2.2]⟩,V.str ⟨#[L2.B.flip r.2.2]⟩]) fl
  refine j5 (Γ:=(aU K [] [] (E:=E)).calm) (ar (vZ (aC rfl (aC rfl (aik (a:=aH r) (b:=nm) ⟨n,rfl,z1 _ _ (s2 _ _ hn)⟩ (hv.mono (aM (s2.trans z1))) rk kJ (aR ?_))))))
  have ki:eQ [V.str ⟨#[r.2.2]⟩,V.str ⟨#[L2.B.flip r.2.2]⟩] (if decide (aH r=nm)=true then 1 else 0)=some (.str ⟨#[(tell nm r).2.2]⟩):=by
   unfold tell
   by_cases h9:aH r=nm
   ·rw[if_pos h9,if_pos (decide_eq_true h9)];rfl
   ·rw[if_neg h9,if_neg (by simpa using h9)];rfl
  refine .inl ⟨l,_,_,_,rfl,rfl,ao.of av,ki, ?_⟩
  refine aR (Γ:=(aU K [] [] (E:=E)).calm) (σ:=[some (.ref n),some (.str ⟨#[r.2.2]⟩),some v]) ⟨(by show 2≤sizeLine;decide),fun t1 ft=> ?_⟩
  have z2:=sameNew (o:= .tup [V.ref n,V.str ⟨#[(tell nm r).2.2]⟩]) ft
  have Fc:=z1.trans z2
  refine⟨cY (by omega),xs.length - (i+1),by omega,rfl,aP,by simp[jv],s2.trans Fc, ?_⟩
  rw[e]
  refine Paired.snoc (bg.mono (aM Fc)) ⟨t1,n,rfl,av, ?_⟩
  have uj:=Fc _ _ (s2 _ _ hn)
  rw[uj,QX]
  congr 3
  have:=congrArg (fun p:Str×Nat=>p.2) (E8 nm r)
  have e2:(tell nm r).2.1=r.2.1:=this
  rw[e2]
 ·have dB:i=xs.length:=by omega
  subst dB
  refine .inl ⟨⟨xs,ao.of (s2 _ _ ha),Nat.le_refl _⟩,fun p hp=> ?_⟩
  rw[lx,List.take_length] at bg
  have z:=sameNew (o:= .lst ys) hp
  exact q p _ ys (s2.trans z) (s2.free hp) av (bg.mono (aM z))
theorem Q4{Γ:aJ}{σ:St}{H:Hp}{Q:VK}{k:Nat}{a:Addr}{xs:List V}{R:List aq}(h0:σ[k]?=some (some (.ref a)))(ha:H a=some (.lst xs))(hR:bj H xs R)(hl:R.length≤10000)(q: ∀(d:Addr) (H':Hp) (ys:List V),ax H H'→H d=none→H' d=some (.lst ys)→gG H' ys (R.map aH)→Q (.ref d) H'):
  ag Γ (.comp (some 2) [] .list [(.v k)] none (.v 0)) σ H Q:=by
 have lx:=Paired.length hR
 refine⟨_,h0,a,rfl,⟨_,ao.of ha⟩,fun i m ys H2=>m=xs.length - i∧i≤xs.length∧ys.length=i∧H2=H∧gG H ys ((R.take i).map aH),⟨_,rfl,Nat.zero_le _,rfl,rfl, .nil⟩, ?_⟩
 rintro i m ys H2 ⟨rfl,hi,jv,rfl,bg⟩
 by_cases aP:i<xs.length
 ·refine .inr ⟨⟨xs,xs[i],ao.of ha,by simp[aP]⟩, ?_⟩
  rintro x H3 ⟨rfl,hx⟩
  obtain⟨r,hr,t,n,rfl,ht,hn⟩:=hR.get (hx xs (ao.of ha))
  refine⟨t,_,rfl,aI.of ht,rfl, ?_⟩
  refine⟨_,rfl,cY (by omega),xs.length - (i+1),by omega,rfl,aP,by simp[jv],rfl, ?_⟩
  rw[List.take_add_one,hr,List.map_append]
  exact Paired.snoc bg ⟨n,rfl,hn⟩
 ·have dB:i=xs.length:=by omega
  subst dB
  refine .inl ⟨⟨xs,ao.of ha,Nat.le_refl _⟩,fun p hp=> ?_⟩
  rw[lx,List.take_length] at bg
  have z:=sameNew (o:= .lst ys) hp
  exact q p _ ys z hp av (bg.mono (aM z))
theorem aip{Γ:aJ}{σ:St}{H:Hp}{Q:VK}{k j:Nat}{a p5:Addr}{xs x5:List V}{R:List aq}{ns:List (Str×Nat)}(h1:σ[k]?=some (some (.ref a)))(h5:cX σ [("_law_there",j)]=[some (.ref p5)])(ha:H a=some (.lst xs))(hR:bj H xs R)(hl:R.length≤10000)(g5:H p5=some (.lst x5))(rW:gG H x5 ns)(ho: ∀r∈R,fW (aH r))(ho5: ∀nm∈ns,fW nm)
  (q: ∀(d:Addr) (H':Hp) (ys:List V),ax H H'→H d=none→H' d=some (.lst ys)→gG H' ys ((R.map aH).filter fun nm=> !decide (nm∈ns))→Q (.ref d) H'):
  ag Γ (.comp (some 2) [("_law_there",j)] .list [(.v k)] (some (.oV (.v 0) (.v 2))) (.v 0)) σ H Q:=by
 have lx:=Paired.length hR
 refine⟨_,h1,a,rfl,⟨_,ao.of ha⟩,fun i m ys H2=>m=xs.length - i∧i≤xs.length∧ys.length≤i∧H2=H∧gG H ys (((R.take i).map aH).filter fun nm=> !decide (nm∈ns)),⟨_,rfl,Nat.zero_le _,Nat.le_refl _,rfl, .nil⟩, ?_⟩
 rintro i m ys H2 ⟨rfl,hi,jv,rfl,bg⟩
 by_cases aP:i<xs.length
 ·refine .inr ⟨⟨xs,xs[i],ao.of ha,by simp[aP]⟩, ?_⟩
  rintro x H3 ⟨rfl,hx⟩
  obtain⟨r,hr,t,n,rfl,ht,hn⟩:=hR.get (hx xs (ao.of ha))
  have rk:=ho r (List.mem_of_getElem? hr)
  refine⟨t,_,rfl,aI.of ht,rfl, ?_⟩
  rw[h5]
  have e:((R.take (i+1)).map aH).filter (fun nm=> !decide (nm∈ns))=(((R.take i).map aH).filter fun nm=> !decide (nm∈ns))++ (if aH r∈ns then [] else [aH r]):=by
   rw[List.take_add_one,hr,List.map_append,List.filter_append]
   congr 1
   show List.filter _ [aH r]=_
   by_cases h9:aH r∈ns
   ·simp[h9]
   ·simp[h9]
  have nv:jF H3 (.ref n) (aH r):=⟨n,rfl,hn⟩
  refine⟨_,rfl,_,rfl,p5,x5,cA (aH r),ns.map cA,rfl,ao.of g5,tY nv,Ag rW,nZ rk,(by show 1≤60;decide),(fun d hd=>by obtain⟨b,hb,rfl⟩:=List.mem_map.mp hd;exact nZ (ho5 b hb)),_,rfl, ?_⟩
  rw[Q3,Bool.true_xor]
  by_cases h9:aH r∈ns
  ·rw[decide_eq_true h9]
   refine⟨xs.length - (i+1),by omega,rfl,aP,by omega,rfl, ?_⟩
   rw[e,if_pos h9,List.append_nil];exact bg
  ·rw[decide_eq_false h9]
   refine⟨_,rfl,cY (by omega),xs.length - (i+1),by omega,rfl,aP,by simp;omega,rfl, ?_⟩
   rw[e,if_neg h9]
   exact Paired.snoc bg nv
 ·have dB:i=xs.length:=by omega
  subst dB
  refine .inl ⟨⟨xs,ao.of ha,Nat.le_refl _⟩,fun p hp=> ?_⟩
  rw[lx,List.take_length] at bg
  have z:=sameNew (o:= .lst ys) hp
  exact q p _ ys z hp av (bg.mono (aM z))
theorem Q5(who:Str): ∀(l:List Nat) (m:Nat),aK (d_ who m l)=l
 | [],m=>rfl
 | c::l,m=>by show c::aK (d_ who (m+1) l)=_;rw[Q5 who l (m+1)]
theorem Fd(who:Str): ∀(l:List Nat) (m:Nat) (r:aq),r∈d_ who m l→r.1=who∧m≤r.2.1
 | [],m,r,h=>by cases h
 | c::l,m,r,h=>by
  rcases List.mem_cons.mp (show r∈ (who,m,c)::d_ who (m+1) l from h) with rfl | h
  ·exact⟨rfl,Nat.le_refl _⟩
  ·obtain⟨a,b⟩:=Fd who l (m+1) r h
   exact⟨a,by omega⟩
theorem names_nodup(who:Str): ∀(l:List Nat) (m:Nat),((d_ who m l).map aH).Nodup
 | [],m=>List.nodup_nil
 | c::l,m=>by
  show(aH (who,m,c)::(d_ who (m+1) l).map aH).Nodup
  refine List.nodup_cons.mpr ⟨fun hm=> ?_,names_nodup who l (m+1)⟩
  obtain⟨r,hr,e⟩:=List.mem_map.mp hm
  have:=(Fd who l (m+1) r hr).2
  have e2:r.2.1=m:=congrArg (fun p:Str×Nat=>p.2) e
  omega
theorem Fe{R:List aq}{l:List Nat}(h:aK R=l)(hl: ∀c∈l,SG.cps.contains c=true):gY R:=fun r hr=>hl _ (by rw[←h];exact List.mem_map_of_mem hr)
theorem Q6{s:Str}(h:s≠""):1≤s.length:=by
 obtain⟨c,r,e⟩:=iy h
 rw[len_list,e];simp
theorem Q7: ∀(ps:List Pt) (w:Str),chainOk w ps=true→(∀p∈ps,bp p)→ps.length≤2*aG ps+1∧(w="keep"→ps.length≤2*aG ps)
 | [],w,_,_=> ⟨Nat.zero_le _,fun _=>Nat.zero_le _⟩
 | p::ps,w,hc,ho=>by
  simp only[chainOk,Bool.and_eq_true] at hc
  have hp:=ho p (.head _)
  obtain⟨i1,i2⟩:=Q7 ps p.word hc.2 fun q hq=>ho q (.tail _ hq)
  have et:aG (p::ps)=cQ p+aG ps:=by simp[aG]
  rw[et,List.length_cons]
  cases p with
  | keep n=>
   have:=i2 rfl
   have ek:cQ (.keep n)=0:=rfl
   exact⟨by omega,fun z=>absurd z (Pz hc.1)⟩
  | put s=>have h1:1≤cQ (.put s):=Q6 hp.2;exact⟨by omega,fun _=>by omega⟩
  | cut s=>have h1:1≤cQ (.cut s):=Q6 hp.2;exact⟨by omega,fun _=>by omega⟩
theorem mq(R:List aq):(aK R).length=R.length:=by unfold aK;rw[List.length_map]
theorem air{R:List aq}{nm:Str×Nat}(h:nm∈R.map aH): ∃(p:Nat) (q:aq),R[p]?=some q∧aH q=nm:=by
 obtain⟨q,hq,e⟩:=List.mem_map.mp h
 obtain⟨p,hp,e2⟩:=List.getElem_of_mem hq
 exact⟨p,q,by rw[←e2];exact List.getElem?_eq_getElem hp,e⟩
theorem gG.get{H:Hp}: ∀{vs:List V} {rs:List (Str×Nat)} {i:Nat} {v:V},gG H vs rs→vs[i]?=some v→ ∃r,rs[i]?=some r∧jF H v r
 | _,_,i,v, .nil,e=>by simp at e
 | _,_,0,v, .cons h r,e=>by simp at e;subst e;exact⟨_,rfl,h⟩
 | _,_,i+1,v, .cons h r,e=>by
  obtain⟨p,a,b⟩:=gG.get (i:=i) r (by simpa using e)
  exact⟨p,by simpa using a,b⟩
theorem ais{Γ:aJ}{σ:St}{H:Hp}{Q:VK}{it:RE}{tk:Option Nat}{cond:Option RE}{elt:RE}(h:ag Γ it σ H fun x H1=>ag Γ (.comp tk [] .list [(.v 0)] cond elt) [some x] H1 Q):ag Γ (.comp tk [] .list [it] cond elt) σ H Q:=by
 have e: ∀(A B:VK),(∀x H1,A x H1↔B x H1)→ag Γ it σ H A→ag Γ it σ H B:=fun A B BB ha=>by
  have:A=B:=funext fun x=>funext fun H1=>propext (BB x H1)
  rw[←this];exact ha
 refine e _ _ (fun x H1=> ⟨?_, ?_⟩) h
 ·rintro⟨v,hv,hq⟩
  cases hv
  exact hq
 ·intro hq
  exact⟨x,rfl,hq⟩
end L2.B
namespace L2.B
inductive bF:List At→List At→Prop
 | here {c d xs ys}:c≠d→bF (.C c::xs) (.C d::ys)
 | p1 {c xs ys}:bF xs ys→bF (.P c::xs) ys
 | p2 {c xs ys}:bF xs ys→bF xs (.P c::ys)
 | kk {xs ys}:bF xs ys→bF (.K::xs) (.K::ys)
 | kc {c xs ys}:bF xs ys→bF (.K::xs) (.C c::ys)
 | ck {c xs ys}:bF xs ys→bF (.C c::xs) (.K::ys)
 | cc {c xs ys}:bF xs ys→bF (.C c::xs) (.C c::ys)
theorem ait{dY ys:List At}(h:bF dY ys): ∀{c:Nat} {xs:List At},dY= .P c::xs→bF xs ys:=by
 induction h with
 | here _=>intro c ys e;cases e
 | p1 h _=>intro c ys e;cases e;exact h
 | p2 _ ih=>intro c ys e;exact .p2 (ih e)
 | kk _ _=>intro c ys e;cases e
 | kc _ _=>intro c ys e;cases e
 | ck _ _=>intro c ys e;cases e
 | cc _ _=>intro c ys e;cases e
theorem aiu{xs ys:List At}{c:Nat}(h:bF (.P c::xs) ys):bF xs ys:=ait h rfl
theorem aiv{xs fm:List At}(h:bF xs fm): ∀{c:Nat} {ys:List At},fm= .P c::ys→bF xs ys:=by
 induction h with
 | here _=>intro c ys e;cases e
 | p2 h _=>intro c ys e;cases e;exact h
 | p1 _ ih=>intro c ys e;exact .p1 (ih e)
 | kk _ _=>intro c ys e;cases e
 | kc _ _=>intro c ys e;cases e
 | ck _ _=>intro c ys e;cases e
 | cc _ _=>intro c ys e;cases e
theorem aiw{xs ys:List At}{c:Nat}(h:bF xs (.P c::ys)):bF xs ys:=aiv h rfl
theorem Q8: ∀{ys:List At},¬bF [] ys
 | _, .p2 h=>Q8 h
theorem Q9: ∀{xs:List At},¬bF xs []
 | _, .p1 h=>Q9 h
theorem Q_{xs ys:List At}: ∀{s:List Nat},bF (s.map .P++xs) ys→bF xs ys
 | [],h=>h
 | _::s,h=>Q_ (s:=s) (aiu h)
theorem Ra{xs ys:List At}: ∀{s:List Nat},bF xs (s.map .P++ys)→bF xs ys
 | [],h=>h
 | _::s,h=>Ra (s:=s) (aiw h)
theorem Rb{xs ys:List At}: ∀{n:Nat},bF (rK n++xs) (rK n++ys)→bF xs ys
 | 0,h=>h
 | n+1,h=>by
  have h':bF (.K::(rK n++xs)) (.K::(rK n++ys)):=h
  cases h' with
  | kk h'=>exact Rb h'
theorem Rc{xs ys:List At}: ∀{u:List Nat},bF (rK u.length++xs) (u.map .C++ys)→bF xs ys
 | [],h=>h
 | c::u,h=>by
  have h':bF (.K::(rK u.length++xs)) (.C c::(u.map .C++ys)):=h
  cases h' with
  | kc h'=>exact Rc h'
theorem Rf{xs ys:List At}: ∀{u:List Nat},bF (u.map .C++xs) (rK u.length++ys)→bF xs ys
 | [],h=>h
 | c::u,h=>by
  have h':bF (.C c::(u.map .C++xs)) (.K::(rK u.length++ys)):=h
  cases h' with
  | ck h'=>exact Rf h'
theorem Rg{xs ys:List At}: ∀{s u:List Nat},s.length=u.length→bF (s.map .C++xs) (u.map .C++ys)→s≠u∨bF xs ys
 | [],[],_,h=> .inr h
 | c::s,d::u,hl,h=>by
  have h':bF (.C c::(s.map .C++xs)) (.C d::(u.map .C++ys)):=h
  cases h' with
  | here ne=>exact .inl fun z=>ne (by injection z)
  | cc h'=>
   rcases Rg (by simpa using hl) h' with z | z
   ·exact .inl fun y=>z (by injection y)
   ·exact .inr z
end L2.B
namespace L2.B
open PySem PySem.Spec PyProof.Rows
def dA(who:Str):Nat→Nat→List At→Nat→List aq
 | _,_,[],_=> []
 | m,i, .P c::xs,k=> (if k=i then [(who,m,c)] else [])++dA who (m+1) i xs k
 | m,i, .K::xs,k=>dA who m (i+1) xs k
 | m,i, .C _::xs,k=>dA who m (i+1) xs k
def kA:Nat→List At→Nat→Bool
 | _,[],_=>false
 | i, .P _::xs,k=>kA i xs k
 | i, .K::xs,k=>if k=i then true else kA (i+1) xs k
 | i, .C _::xs,k=>if k=i then false else kA (i+1) xs k
def fE(d1 d2:Nat→List aq)(kp:Nat→Bool):Nat→List aq→List aq
 | i,[]=>d1 i++d2 i
 | i,r::S=>d1 i++d2 i++ (if kp i=true then [r] else [])++fE d1 d2 kp (i+1) S
theorem rm(who:Str): ∀(xs:List At) (m i k:Nat),k<i→dA who m i xs k=[]
 | [],m,i,k,h=>rfl
 | .P c::xs,m,i,k,h=>by
  show(if k=i then [(who,m,c)] else [])++dA who (m+1) i xs k=[]
  rw[if_neg (by omega),rm who xs (m+1) i k h];rfl
 | .K::xs,m,i,k,h=>rm who xs m (i+1) k (by omega)
 | .C _::xs,m,i,k,h=>rm who xs m (i+1) k (by omega)
theorem aix{who:Str}{xs:List At}{m i:Nat}(h: ∀d zs,xs≠ .P d::zs):dA who m i xs i=[]:=by
 cases xs with
 | nil=>rfl
 | cons x xs=>
  cases x with
  | P c=>exact absurd rfl (h c xs)
  | K=>exact rm who xs m (i+1) i (by omega)
  | C c=>exact rm who xs m (i+1) i (by omega)
theorem Ff{d1 d2 e1 e2:Nat→List aq}{kp kq:Nat→Bool}: ∀(S:List aq) (i:Nat),(∀k,i≤k→d1 k=e1 k∧d2 k=e2 k∧kp k=kq k)→fE d1 d2 kp i S=fE e1 e2 kq i S
 | [],i,h=>by
  obtain⟨a,b,_⟩:=h i (Nat.le_refl _)
  show d1 i++d2 i=e1 i++e2 i
  rw[a,b]
 | r::S,i,h=>by
  obtain⟨a,b,c⟩:=h i (Nat.le_refl _)
  show d1 i++d2 i++ (if kp i=true then [r] else [])++fE d1 d2 kp (i+1) S=e1 i++e2 i++ (if kq i=true then [r] else [])++fE e1 e2 kq (i+1) S
  rw[a,b,c,Ff S (i+1) fun k hk=>h k (by omega)]
theorem Rh{d1 d2 e1 e2:Nat→List aq}{kp:Nat→Bool}{x:aq}: ∀(S:List aq) (i:Nat),d1 i++d2 i=x::(e1 i++e2 i)→(∀k,i<k→d1 k=e1 k∧d2 k=e2 k)→fE d1 d2 kp i S=x::fE e1 e2 kp i S
 | [],i,h,_=>h
 | r::S,i,h,h2=>by
  show d1 i++d2 i++ (if kp i=true then [r] else [])++fE d1 d2 kp (i+1) S=x::(e1 i++e2 i++ (if kp i=true then [r] else [])++fE e1 e2 kp (i+1) S)
  rw[h,Ff S (i+1) fun k hk=> ⟨(h2 k (by omega)).1,(h2 k (by omega)).2,rfl⟩];rfl
def dP(xs ys:List At)(m n i:Nat)(S:List aq):List aq:=fE (dA "one" m i xs) (dA "other" n i ys) (fun k=>kA i xs k && kA i ys k) i S
theorem aiy{xs ys:List At}{m n i c:Nat}{S:List aq}:dP (.P c::xs) ys m n i S=(("one":Str),m,c)::dP xs ys (m+1) n i S:=by
 refine Rh S i ?_ fun k hk=> ⟨?_,rfl⟩
 ·show((if i=i then [(("one":Str),m,c)] else [])++dA "one" (m+1) i xs i)++_=_
  rw[if_pos rfl];rfl
 ·show(if k=i then [(("one":Str),m,c)] else [])++dA "one" (m+1) i xs k=_
  rw[if_neg (by omega)];rfl
theorem aiz{xs ys:List At}{m n i c:Nat}{S:List aq}(h: ∀d zs,xs≠ .P d::zs):dP xs (.P c::ys) m n i S=(("other":Str),n,c)::dP xs ys m (n+1) i S:=by
 refine Rh S i ?_ fun k hk=> ⟨rfl, ?_⟩
 ·show dA "one" m i xs i++ ((if i=i then [(("other":Str),n,c)] else [])++dA "other" (n+1) i ys i)=_::(dA "one" m i xs i++_)
  rw[aix h,if_pos rfl];rfl
 ·show(if k=i then [(("other":Str),n,c)] else [])++dA "other" (n+1) i ys k=_
  rw[if_neg (by omega)];rfl
inductive NP:At→Bool→Prop
 | K:NP .K true
 | C {c}:NP (.C c) false
theorem Ah{who:Str}{x:At}{b:Bool}{xs:List At}{m i k:Nat}(h:NP x b):dA who m i (x::xs) k=dA who m (i+1) xs k:=by cases h<;>rfl
theorem Ai{x:At}{b:Bool}{xs:List At}{i k:Nat}(h:NP x b):kA i (x::xs) k=if k=i then b else kA (i+1) xs k:=by cases h<;>rfl
theorem Aj{x y:At}{a b:Bool}{xs ys:List At}{m n i:Nat}{r:aq}{S:List aq}(hx:NP x a)(hy:NP y b):dP (x::xs) (y::ys) m n i (r::S)=(if (a && b)=true then [r] else [])++dP xs ys m n (i+1) S:=by
 show dA "one" m i (x::xs) i++dA "other" n i (y::ys) i++ (if (kA i (x::xs) i && kA i (y::ys) i)=true then [r] else [])++fE _ _ _ (i+1) S=_
 rw[Ah hx,Ah hy,rm _ _ _ _ _ (by omega),rm _ _ _ _ _ (by omega),Ai hx,Ai hy,if_pos rfl,if_pos rfl]
 show _++fE _ _ _ (i+1) S=_
 congr 1
 refine Ff S (i+1) fun k hk=> ⟨Ah hx,Ah hy, ?_⟩
 show(kA i (x::xs) k && kA i (y::ys) k)=_
 rw[Ai hx,Ai hy,if_neg (by omega),if_neg (by omega)]
theorem t4{L X:List aq}{j:Nat}{r:aq}(h:L.drop j=r::X):L[j]?=some r∧L.drop (j+1)=X∧j+1≤L.length:=by
 have hl:j<L.length:=by
  rcases Nat.lt_or_ge j L.length with z | z
  ·exact z
  ·rw[List.drop_of_length_le z] at h;cases h
 rw[List.drop_eq_getElem_cons hl] at h
 injection h with h1 h2
 exact⟨by rw[List.getElem?_eq_getElem hl,h1],h2,hl⟩
theorem Ri{L:List aq}{who:Str}{m c:Nat}(h: ∀q∈L,q.1≠who):idx L (who,m,c)=none:=by
 refine zZ fun hm=> ?_
 obtain⟨r,hr,e⟩:=List.mem_map.mp hm
 exact h r hr (congrArg (fun p:Str×Nat=>p.1) e)
theorem aiA{xs ys os ts:List At}(h:dN xs ys os ts): ∀{T M:List aq} {S:List aq} {m n i jt jm:Nat},S.length=bb xs→S.length=bb ys→(T.map aH).Nodup→(M.map aH).Nodup→(∀q∈T,q.1≠"one")→(∀q∈M,q.1≠"other")→
  T.drop jt=bf "other" S n ys→M.drop jm=bf "one" S m xs→jt≤T.length→jm≤M.length→
  ((dP xs ys m n i S).map (dO T)=res jt os∧cW T jt (dP xs ys m n i S))∧((dP xs ys m n i S).map (dO M)=res jm ts∧cW M jm (dP xs ys m n i S))∧ ∀q∈dP xs ys m n i S,q∈T∨q∈M:=by
 induction h with
 | nil=>
  intro T M S m n i jt jm h1 h2 nT nM wT wM dT dM lT lM
  have:S=[]:=List.length_eq_zero_iff.mp h1
  subst this
  exact⟨⟨rfl,lT⟩,⟨rfl,lM⟩,fun q hq=>by cases hq⟩
 | @p1 c xs ys os ts _ ih=>
  intro T M S m n i jt jm h1 h2 nT nM wT wM dT dM lT lM
  obtain⟨g1,g2,g3⟩:=t4 (show M.drop jm=(("one":Str),m,c)::bf "one" S (m+1) xs from dM)
  obtain⟨⟨a1,a2⟩,⟨b1,b2⟩,c1⟩:=ih (i:=i) h1 h2 nT nM wT wM dT g2 lT g3
  rw[aiy]
  have e1:idx T (("one":Str),m,c)=none:=Ri wT
  have e2:=tR nM g1
  refine⟨⟨?_,(iZ e1).mpr a2⟩,⟨?_,(gX e2).mpr ⟨Nat.le_refl _,b2⟩⟩, ?_⟩
  ·rw[List.map_cons,a1,w5 e1];rfl
  ·rw[List.map_cons,b1,q_ e2];rfl
  ·intro q hq
   rcases List.mem_cons.mp hq with rfl | hq
   ·exact .inr (List.mem_of_getElem? g1)
   ·exact c1 q hq
 | @p2 c xs ys os ts kJ _ ih=>
  intro T M S m n i jt jm h1 h2 nT nM wT wM dT dM lT lM
  obtain⟨g1,g2,g3⟩:=t4 (show T.drop jt=(("other":Str),n,c)::bf "other" S (n+1) ys from dT)
  obtain⟨⟨a1,a2⟩,⟨b1,b2⟩,c1⟩:=ih (i:=i) h1 h2 nT nM wT wM g2 dM g3 lM
  rw[aiz kJ]
  have e1:idx M (("other":Str),n,c)=none:=Ri wM
  have e2:=tR nT g1
  refine⟨⟨?_,(gX e2).mpr ⟨Nat.le_refl _,a2⟩⟩,⟨?_,(iZ e1).mpr b2⟩, ?_⟩
  ·rw[List.map_cons,a1,q_ e2];rfl
  ·rw[List.map_cons,b1,w5 e1];rfl
  ·intro q hq
   rcases List.mem_cons.mp hq with rfl | hq
   ·exact .inl (List.mem_of_getElem? g1)
   ·exact c1 q hq
 | @kk xs ys os ts _ ih=>
  intro T M S m n i jt jm h1 h2 nT nM wT wM dT dM lT lM
  cases S with
  | nil=>cases h1
  | cons r S=>
   obtain⟨g1,g2,g3⟩:=t4 (show T.drop jt=r::bf "other" S n ys from dT)
   obtain⟨f1,f2,f3⟩:=t4 (show M.drop jm=r::bf "one" S m xs from dM)
   obtain⟨⟨a1,a2⟩,⟨b1,b2⟩,c1⟩:=ih (i:=i+1) (by simpa[bb] using h1) (by simpa[bb] using h2) nT nM wT wM g2 f2 g3 f3
   rw[Aj .K .K]
   have e1:=tR nT g1
   have e2:=tR nM f1
   show((r::dP xs ys m n (i+1) S).map (dO T)=_∧cW T jt (r::dP xs ys m n (i+1) S))∧((r::dP xs ys m n (i+1) S).map (dO M)=_∧cW M jm (r::dP xs ys m n (i+1) S))∧ ∀q∈r::dP xs ys m n (i+1) S,q∈T∨q∈M
   refine⟨⟨?_,(gX e1).mpr ⟨Nat.le_refl _,a2⟩⟩,⟨?_,(gX e2).mpr ⟨Nat.le_refl _,b2⟩⟩, ?_⟩
   ·rw[List.map_cons,a1,q_ e1];rfl
   ·rw[List.map_cons,b1,q_ e2];rfl
   ·intro q hq
    rcases List.mem_cons.mp hq with rfl | hq
    ·exact .inl (List.mem_of_getElem? g1)
    ·exact c1 q hq
 | @kc c xs ys os ts _ ih=>
  intro T M S m n i jt jm h1 h2 nT nM wT wM dT dM lT lM
  cases S with
  | nil=>cases h1
  | cons r S=>
   obtain⟨f1,f2,f3⟩:=t4 (show M.drop jm=r::bf "one" S m xs from dM)
   obtain⟨⟨a1,a2⟩,⟨b1,b2⟩,c1⟩:=ih (i:=i+1) (by simpa[bb] using h1) (by simpa[bb] using h2) nT nM wT wM (show T.drop jt=bf "other" S n ys from dT) f2 lT f3
   rw[Aj .K .C]
   exact⟨⟨a1,a2⟩,⟨b1,z_ (by omega) b2⟩,c1⟩
 | @ck c xs ys os ts _ ih=>
  intro T M S m n i jt jm h1 h2 nT nM wT wM dT dM lT lM
  cases S with
  | nil=>cases h1
  | cons r S=>
   obtain⟨g1,g2,g3⟩:=t4 (show T.drop jt=r::bf "other" S n ys from dT)
   obtain⟨⟨a1,a2⟩,⟨b1,b2⟩,c1⟩:=ih (i:=i+1) (by simpa[bb] using h1) (by simpa[bb] using h2) nT nM wT wM g2 (show M.drop jm=bf "one" S m xs from dM) g3 lM
   rw[Aj .C .K]
   exact⟨⟨a1,z_ (by omega) a2⟩,⟨b1,b2⟩,c1⟩
 | @cc c xs ys os ts _ ih=>
  intro T M S m n i jt jm h1 h2 nT nM wT wM dT dM lT lM
  cases S with
  | nil=>cases h1
  | cons r S=>
   obtain⟨⟨a1,a2⟩,⟨b1,b2⟩,c1⟩:=ih (i:=i+1) (by simpa[bb] using h1) (by simpa[bb] using h2) nT nM wT wM (show T.drop jt=bf "other" S n ys from dT) (show M.drop jm=bf "one" S m xs from dM) lT lM
   rw[Aj .C .C]
   exact⟨⟨a1,a2⟩,⟨b1,b2⟩,c1⟩
theorem xg{who:Str}: ∀(xs:List At) (S:List aq) (m i j:Nat) (r:aq),(S.map aH).Nodup→(∀q∈S,q.1≠who)→S.length=bb xs→S[j]?=some r→(r∈bf who S m xs↔kA i xs (i+j)=true)
 | [],S,m,i,j,r,hn,hw,hl,hr=>by
  have:S=[]:=List.length_eq_zero_iff.mp hl
  subst this;cases hr
 | .P c::xs,S,m,i,j,r,hn,hw,hl,hr=>by
  have ih:=xg xs S (m+1) i j r hn hw hl hr
  show r∈ (who,m,c)::bf who S (m+1) xs↔kA i xs (i+j)=true
  rw[←ih,List.mem_cons]
  refine⟨fun z=>z.resolve_left fun e=>hw r (List.mem_of_getElem? hr) (by rw[e]), .inr⟩
 | .K::xs,[],m,i,j,r,hn,hw,hl,hr=>by cases hr
 | .K::xs,q::S,m,i,0,r,hn,hw,hl,hr=>by
  have:q=r:=by simpa using hr
  subst this
  show q∈q::bf who S m xs↔ (if i+0=i then true else _)=true
  rw[if_pos (by omega)]
  exact⟨fun _=>rfl,fun _=>List.mem_cons_self⟩
 | .K::xs,q::S,m,i,j+1,r,hn,hw,hl,hr=>by
  obtain⟨n1,n2⟩:=List.nodup_cons.mp (show(aH q::S.map aH).Nodup from hn)
  have sV:S[j]?=some r:=by simpa using hr
  have ih:=xg xs S m (i+1) j r n2 (fun x hx=>hw x (List.mem_cons_of_mem _ hx)) (by simpa[bb] using hl) sV
  show r∈q::bf who S m xs↔ (if i+ (j+1)=i then true else kA (i+1) xs (i+ (j+1)))=true
  rw[if_neg (by omega),show i+ (j+1)=i+1+j by omega,←ih,List.mem_cons]
  refine⟨fun z=>z.resolve_left fun e=>n1 (by rw[←e];exact List.mem_map_of_mem (List.mem_of_getElem? sV)), .inr⟩
 | .C c::xs,[],m,i,j,r,hn,hw,hl,hr=>by cases hr
 | .C c::xs,q::S,m,i,0,r,hn,hw,hl,hr=>by
  obtain⟨n1,n2⟩:=List.nodup_cons.mp (show(aH q::S.map aH).Nodup from hn)
  have:q=r:=by simpa using hr
  subst this
  show q∈bf who S m xs↔ (if i+0=i then false else _)=true
  rw[if_pos (by omega)]
  refine⟨fun z=> ?_,fun z=>by cases z⟩
  rcases jE xs S m q z with y | y
  ·exact absurd (List.mem_map_of_mem y) n1
  ·exact absurd y.1 (hw q List.mem_cons_self)
 | .C c::xs,q::S,m,i,j+1,r,hn,hw,hl,hr=>by
  obtain⟨n1,n2⟩:=List.nodup_cons.mp (show(aH q::S.map aH).Nodup from hn)
  have sV:S[j]?=some r:=by simpa using hr
  have ih:=xg xs S m (i+1) j r n2 (fun x hx=>hw x (List.mem_cons_of_mem _ hx)) (by simpa[bb] using hl) sV
  show r∈bf who S m xs↔ (if i+ (j+1)=i then false else kA (i+1) xs (i+ (j+1)))=true
  rw[if_neg (by omega),show i+ (j+1)=i+1+j by omega]
  exact ih
def pn:List At→Nat
 | []=>0
 | .P _::xs=>pn xs+1
 | .K::xs=>pn xs
 | .C _::xs=>pn xs
theorem rn(who:Str): ∀(xs ys:List At) (m i k:Nat),dA who m i (xs++ys) k=dA who m i xs k++dA who (m+pn xs) (i+bb xs) ys k
 | [],ys,m,i,k=>rfl
 | .P c::xs,ys,m,i,k=>by
  show(if k=i then [(who,m,c)] else [])++dA who (m+1) i (xs++ys) k=(if k=i then [(who,m,c)] else [])++dA who (m+1) i xs k++dA who (m+ (pn xs+1)) (i+bb xs) ys k
  rw[rn who xs ys (m+1) i k,List.append_assoc,show m+ (pn xs+1)=m+1+pn xs by omega]
 | .K::xs,ys,m,i,k=>by
  show dA who m (i+1) (xs++ys) k=dA who m (i+1) xs k++dA who (m+pn xs) (i+ (bb xs+1)) ys k
  rw[rn who xs ys m (i+1) k,show i+ (bb xs+1)=i+1+bb xs by omega]
 | .C c::xs,ys,m,i,k=>by
  show dA who m (i+1) (xs++ys) k=dA who m (i+1) xs k++dA who (m+pn xs) (i+ (bb xs+1)) ys k
  rw[rn who xs ys m (i+1) k,show i+ (bb xs+1)=i+1+bb xs by omega]
theorem Rj(who:Str): ∀(s:List Nat) (m i k:Nat),dA who m i (s.map .P) k=if k=i then d_ who m s else []
 | [],m,i,k=>by show[]=_;split<;>rfl
 | c::s,m,i,k=>by
  show(if k=i then [(who,m,c)] else [])++dA who (m+1) i (s.map .P) k=_
  rw[Rj who s (m+1) i k]
  by_cases h:k=i
  ·rw[if_pos h,if_pos h,if_pos h];rfl
  ·rw[if_neg h,if_neg h,if_neg h];rfl
theorem Rk(who:Str): ∀(s:List Nat) (m i k:Nat),dA who m i (s.map .C) k=[]
 | [],m,i,k=>rfl
 | c::s,m,i,k=>Rk who s m (i+1) k
theorem Fg(who:Str): ∀(n m i k:Nat),dA who m i (rK n) k=[]
 | 0,m,i,k=>rfl
 | n+1,m,i,k=>Fg who n m (i+1) k
theorem t_: ∀(xs ys:List At),pn (xs++ys)=pn xs+pn ys
 | [],ys=> (Nat.zero_add _).symm
 | .P c::xs,ys=>by show pn (xs++ys)+1=pn xs+1+pn ys;rw[t_ xs ys];omega
 | .K::xs,ys=>t_ xs ys
 | .C c::xs,ys=>t_ xs ys
theorem aiB(s:List Nat):pn (s.map .P)=s.length:=by
 induction s with
 | nil=>rfl
 | cons c s ih=>show pn (s.map .P)+1=_;rw[ih];rfl
theorem aiC(s:List Nat):pn (s.map .C)=0:=by
 induction s with
 | nil=>rfl
 | cons c s ih=>exact ih
theorem aiD(n:Nat):pn (rK n)=0:=by
 induction n with
 | zero=>rfl
 | succ n ih=>exact ih
theorem rq: ∀(n:Nat) (xs ys:List At) (p c d:Nat),xs.length+ys.length≤n→cutAt xs p=some c→cutAt ys p=some d→c≠d→bF xs ys
 | _,[],ys,p,c,d,_,h,_,_=>by cases h
 | _,_,[],p,c,d,_,_,h,_=>by cases h
 | 0,_::_,_::_,_,_,_,h,_,_,_=>by simp at h
 | n+1, .P a::xs,y::ys,p,c,d,hn,h1,h2,bx=> .p1 (rq n xs (y::ys) p c d (by simp at hn⊢;omega) h1 h2 bx)
 | n+1,x::xs, .P a::ys,p,c,d,hn,h1,h2,bx=> .p2 (rq n (x::xs) ys p c d (by simp at hn⊢;omega) h1 h2 bx)
 | n+1, .K::xs, .K::ys,0,c,d,hn,h1,h2,bx=>by cases h1
 | n+1, .K::xs, .C b::ys,0,c,d,hn,h1,h2,bx=>by cases h1
 | n+1, .C a::xs, .K::ys,0,c,d,hn,h1,h2,bx=>by cases h2
 | n+1, .C a::xs, .C b::ys,0,c,d,hn,h1,h2,bx=>by
  have e1:a=c:=by simpa[cutAt] using h1
  have e2:b=d:=by simpa[cutAt] using h2
  subst e1 e2
  exact .here bx
 | n+1, .K::xs, .K::ys,p+1,c,d,hn,h1,h2,bx=> .kk (rq n xs ys p c d (by simp at hn;omega) h1 h2 bx)
 | n+1, .K::xs, .C b::ys,p+1,c,d,hn,h1,h2,bx=> .kc (rq n xs ys p c d (by simp at hn;omega) h1 h2 bx)
 | n+1, .C a::xs, .K::ys,p+1,c,d,hn,h1,h2,bx=> .ck (rq n xs ys p c d (by simp at hn;omega) h1 h2 bx)
 | n+1, .C a::xs, .C b::ys,p+1,c,d,hn,h1,h2,bx=>by
  by_cases e:a=b
  ·subst e;exact .cc (rq n xs ys p c d (by simp at hn;omega) h1 h2 bx)
  ·exact .here e
def xh(CF:Addr):Sp:=fun vs H Q E=> ∃(v1 v2:V) (c d:V) (s u:Str),vs=[v1,v2,c,d]∧gA H v1 (.cut s)∧gA H v2 (.cut u)∧s≠u∧E (.ref CF) none H
theorem aiE{K:PySem.W.Frag}{CF:Addr}(vs:List V)(H:Hp)(Q:VK)(E:XK)(h:xh CF vs H Q E):au (aU K [] [] (et:=[("BadFit",CF)]) (E:=E)) vH (Dn Q) (start za vs) H:=by
 obtain⟨v1,v2,c,d,s,u,rfl,⟨a1,rfl,h1⟩,⟨a2,rfl,h2⟩,bx,q⟩:=h
 have lW:H a1=some (.tup [.str "cut", .str s]):=h1
 have wb:H a2=some (.tup [.str "cut", .str u]):=h2
 refine eW (agh (eY (dE (aC rfl (aX (ka lW rfl (aX (me ⟨_,rfl,iT ?_ (by decide+kernel)⟩))))))))
 refine eY (dE (aC rfl (aX (ka wb rfl (aX (me ⟨_,rfl,iT ?_ (by decide+kernel)⟩))))))
 refine eW (eY (dE (aC rfl (aX (ka lW rfl (dE (aC rfl (aX (ka wb rfl (wB ⟨_,rfl,iT ?_ (by simpa using bx)⟩))))))))))
 exact⟨(by show 1≤sizeLine;decide),q⟩
def n_(CC CF:Addr):Sp:=fun vs H Q E=> ∃(va vb:V),vs=[va,vb]∧((lY va H∧ ∀H',ax H H'→E (.ref CC) none H')∨
 ∃(a:Addr) (xs:List V) (one:List Pt),va= .ref a∧H a=some (.lst xs)∧aQ H xs one∧(∀p∈one,bp p)∧chainOk "" one=true∧one.length≤30000∧((lY vb H∧ ∀H',ax H H'→E (.ref CC) none H')∨
  ∃(b:Addr) (ys:List V) (other:List Pt),vb= .ref b∧H b=some (.lst ys)∧aQ H ys other∧(∀p∈other,bp p)∧chainOk "" other=true∧other.length≤30000∧(∀H',ax H H'→E (.ref CF) none H')∧
   ((overOf one).sum≠ (overOf other).sum∨((overOf one).sum=(overOf other).sum∧bF (ak one) (ak other)))))
abbrev aiF(C CC CF:Addr):List (Str×Sp):=[("sizes",fB iR (nG CC)),("put_first",kb C),("share",fB nN (xh CF)),("neat",nj)]
theorem aiG{K:PySem.W.Frag}{C CC CF:Addr}(T:pE K C)(vs:List V)(H:Hp)(Q:VK)(E:XK)(h:n_ CC CF vs H Q E):
  au (aU K (aiF C CC CF) [] [] (tL C) [("Walk",C,gR C)] (et:=[("BadFit",CF)]) (E:=E)) vI (Dn Q) (start zb vs) H:=by
 obtain⟨va,vb,rfl,⟨hn,q⟩ | ⟨a,xs,one,rfl,ha,hG,gI,eJ,jQ,h⟩⟩:=h
 ·exact eW (eY (dE (bN (fB iR (nG CC)) rfl (ar (aC rfl (aR (.inr ⟨va,rfl,hn,q⟩)))))))
 refine eW (eY (dE (bN (fB iR (nG CC)) rfl (ar (aC rfl (aR (.inl ⟨a,xs,one,rfl,ha,hG,gI,eJ,by omega,fun t1 H1 s1 fS=> ?_⟩)))))))
 refine aX (.inr (.inl ⟨_,_,_,_,rfl,rfl,aI.of fS,rfl, ?_⟩))
 rcases h with⟨hn,q⟩ | ⟨b,ys,other,rfl,hb,bg,eF,mR,je,qF,aiH⟩
 ·exact dE (bN (fB iR (nG CC)) rfl (ar (aC rfl (aR (.inr ⟨vb,rfl,hn.same s1,fun H' s'=>q _ (s1.trans s')⟩)))))
 refine dE (bN (fB iR (nG CC)) rfl (ar (aC rfl (aR (.inl ⟨b,ys,other,rfl,s1 _ _ hb,bg.mono (aM s1),eF,mR,by omega,fun t2 H2 s2 qB=> ?_⟩)))))
 refine aX (.inr (.inl ⟨_,_,_,_,rfl,rfl,aI.of qB,rfl, ?_⟩))
 have eZ:=s1.trans s2
 refine Qm ⟨_,rfl, ?_⟩
 rcases aiH with bx | ⟨heq,r6⟩
 ·refine iT ?_ (by rw[decide_eq_false bx];rfl)
  exact⟨(by show 1≤sizeLine;decide),qF _ eZ⟩
 refine iF ?_ (by rw[decide_eq_true heq];rfl)
 have lx:=Paired.length hG
 have ly:=Paired.length bg
 refine bU (zS C (gR C) rfl (aC rfl fun w dx hw EI bx=> ?_))
 have s3:ax H2 (upd (upd H2 dx (.own w)) w (.ins C dx [])):=fun b o e=>by rw[aD (aW e hw),aD (aW e EI)];exact e
 have gT:=eZ.trans s3
 refine⟨w,dx,a,xs,one,rfl,av,gT _ _ ha,hG.mono (aM gT),gI,by omega,fun L H3 hL hLw b3 W=> ⟨rfl, ?_⟩⟩
 have kf:ax H H3:=fun b o e=>b3 b o (gT b o e) (aW (eZ b o e) hw)
 have fw:H w=none:=eZ.free hw
 refine bU (zS C (gR C) rfl (aC rfl fun v qS hv EJ ahD=> ?_))
 have s4:ax H3 (upd (upd H3 qS (.own v)) v (.ins C qS [])):=fun b o e=>by rw[aD (aW e hv),aD (aW e EJ)];exact e
 have wI:=kf.trans s4
 refine⟨v,qS,b,ys,other,rfl,av,wI _ _ hb,bg.mono (aM wI),eF,by omega,fun M H5 hM hMv b5 V5=> ⟨rfl, ?_⟩⟩
 have qT:ax H3 H5:=fun b o e=>b5 b o (s4 b o e) (aW e hv)
 have qU:=kf.trans qT
 have fv:H v=none:=kf.free hv
 have W5:=W.same qT
 obtain⟨_,_,_,EK⟩:=W.ob
 have mj:w≠v:=aW EK hv
 refine bU (gN (aR ⟨Nat.zero_le _,fun c hc=> ?_⟩))
 refine bU (gN (aR ⟨Nat.zero_le _,fun d hd=> ?_⟩))
 have dF:c≠d:=fun z=>by rw[←z,av] at hd;cases hd
 have jC:H5 d=none:=by rw[aD dF.symm] at hd;exact hd
 have fc:H c=none:=qU.free hc
 have fd:H d=none:=qU.free jC
 have lst: ∀{H4:Hp} {w' L':Addr} {rs:List Pt},bK C H4 w' L' rs→ ∃zs,H4 L'=some (.lst zs):=fun⟨_,zs,_,_,_,_,h,_⟩=> ⟨zs,h⟩
 obtain⟨_,wJ⟩:=lst W5
 obtain⟨_,wK⟩:=lst V5
 have mf:c≠L:=(aW wJ hc).symm
 have qW:c≠M:=(aW wK hc).symm
 have mh:d≠L:=(aW wJ jC).symm
 have qX:d≠M:=(aW wK jC).symm
 have s6:ax H5 (upd (upd H5 c (.lst [])) d (.lst [])):=(sameNew hc).trans (sameNew hd)
 refine Qk (fun mm σ H6=> ∃(u:Option V) (zs ws:List V) (p1 p2:List Pt),mm=(ak p1).length+ (ak p2).length∧σ=[some (.ref a),some (.ref b),some (.ref w),some (.ref v),some (.ref c),some (.ref d),u]∧ax H H6∧H6 c=some (.lst zs)∧H6 d=some (.lst ws)∧
   bK C H6 w L p1∧bK C H6 v M p2∧bF (ak p1) (ak p2)∧zs.length+p1.length+p2.length≤one.length+other.length∧ws.length+p1.length+p2.length≤one.length+other.length)
  ⟨_,none,[],[],one,other,rfl,rfl,qU.trans s6,(by rw[aD dF,av]),av,W5.same s6,V5.same s6,r6,by simp,by simp⟩ ?_
 rintro mm σ H6 ⟨u,zs,ws,p1,p2,rfl,rfl,j9,eK,fD,W6,V6,gZ,nP,nQ⟩
 obtain⟨dxw,iw,ow,iD⟩:=W6.ob
 obtain⟨dxv,iv,ov,nR⟩:=V6.ob
 have qP:c≠w:=bC eK iD (by intro z;cases z)
 have wL:c≠v:=bC eK nR (by intro z;cases z)
 have qQ:d≠w:=bC fD iD (by intro z;cases z)
 have wN:d≠v:=bC fD nR (by intro z;cases z)
 obtain⟨x,t,ex⟩: ∃x t,p1=x::t:=by
  cases p1 with
  | cons x t=>exact⟨x,t,rfl⟩
  | nil=>exact absurd gZ Q8
 obtain⟨y,t',ey⟩: ∃y t',p2=y::t':=by
  cases p2 with
  | cons y t'=>exact⟨y,t',rfl⟩
  | nil=>exact absurd gZ Q9
 subst ex ey
 have wO: ∀{H7:Hp} {x:Addr},H x=none→qO x c d H6 H7→ax H H7:=fun {H7 x} hx b e o he=>b e o (j9 e o he) (aW he hx) (aW he fc) (aW he fd)
 refine Qr (eY (qN (C:=C) rfl rfl W6 (aX (wB ⟨_,rfl,iT ?_ EG⟩))))
 refine iT ?_ rfl
 refine⟨_,fun σ' H' z=>z, ?_⟩
 have wU:=W6.ok x (.head _)
 have wV:=V6.ok y (.head _)
 simp only[List.length_cons] at nP nQ
 refine eW (eY (qN (C:=C) rfl rfl W6 (aX (me ⟨_,rfl, ?_⟩))))
 by_cases fA:jA (x::t)="put"
 ·obtain⟨s,rfl⟩: ∃s,x= .put s:=by
   cases x with
   | put s=>exact⟨s,rfl⟩
   | keep n=>exact absurd (show(Str.ofString "keep")="put" from fA) (by decide)
   | cut n=>exact absurd (show(Str.ofString "cut")="put" from fA) (by decide)
  refine iT ?_ rfl
  refine ir (bN (kb C) rfl (ar (aC rfl (ar (aC rfl (ar (aC rfl (aR ?_))))))))
  refine⟨w,L,c,d,s,t,zs,ws,rfl,W6,eK,fD,dF,mf,mh,by omega,by omega,fun a1 a2 H7 b7 qY qZ wQ wR W7=> ?_⟩
  have V7:bK C H7 v M (y::t'):=V6.zV b7 eK fD qW qX mj.symm ⟨_,_,_,iD⟩
  have jQ:=wD (.put s)
  have qx:=(iB wU).2
  rw[cZ] at gZ
  refine⟨_, ?_,u,zs++ [V.ref a1],ws++ [V.ref a2],t,y::t',rfl,rfl,wO fw b7,qY,qZ,W7,V7,Q_ gZ,by simp;omega,by simp;omega⟩
  rw[cZ (.put s),List.length_append];omega
 refine iF ?_ (beq_eq_false_iff_ne.mpr fA)
 refine eW (eY (qN (C:=C) rfl rfl V6 (aX (me ⟨_,rfl, ?_⟩))))
 by_cases g_:jA (y::t')="put"
 ·obtain⟨s,rfl⟩: ∃s,y= .put s:=by
   cases y with
   | put s=>exact⟨s,rfl⟩
   | keep n=>exact absurd (show(Str.ofString "keep")="put" from g_) (by decide)
   | cut n=>exact absurd (show(Str.ofString "cut")="put" from g_) (by decide)
  refine iT ?_ rfl
  refine ir (bN (kb C) rfl (ar (aC rfl (ar (aC rfl (ar (aC rfl (aR ?_))))))))
  refine⟨v,M,d,c,s,t',ws,zs,rfl,V6,fD,eK,dF.symm,qX,qW,by omega,by omega,fun a1 a2 H7 b7 qZ qY wQ wR V7=> ?_⟩
  have zW:qO v c d H6 H7:=fun e o he n1 n2 n3=>b7 e o he n1 n3 n2
  have W7:bK C H7 w L (x::t):=W6.zV zW eK fD mf mh mj ⟨_,_,_,nR⟩
  have jQ:=wD (.put s)
  have qx:=(iB wV).2
  rw[cZ (.put s)] at gZ
  refine⟨_, ?_,u,zs++ [V.ref a2],ws++ [V.ref a1],x::t,t',rfl,rfl,wO fv zW,qY,qZ,W7,V7,Ra gZ,by simp;omega,by simp;omega⟩
  rw[cZ (.put s),List.length_append];omega
 refine iF ?_ (beq_eq_false_iff_ne.mpr g_)
 have q8: ∀{p:Pt} {t:List Pt},jA (p::t)≠"put"→ ∀s,p≠ .put s:=fun {p t} h s z=>by subst z;exact h rfl
 have nx:=q8 fA
 have ny:=q8 g_
 obtain⟨px1,px2⟩:=iB wU
 obtain⟨py1,py2⟩:=iB wV
 obtain⟨k,hk⟩: ∃k,k=min (bz x) (bz y):=⟨_,rfl⟩
 have k1:1≤k:=by omega
 have k2:k≤bz x:=by omega
 have k3:k≤bz y:=by omega
 have emin:(if (bz y:Int) < (bz x:Int) then (bz y:Int) else (bz x:Int))=(k:Int):=by split<;>omega
 refine bU (j5 (ar (wF (C:=C) rfl rfl W6 (ar (wF (C:=C) rfl rfl V6 (aR ?_))))))
 show au _ _ _ ([some (.ref a),some (.ref b),some (.ref w),some (.ref v),some (.ref c),some (.ref d),u].set 6 (some (V.int (if (bz y:Int) < (bz x:Int) then (bz y:Int) else (bz x:Int))))) H6
 rw[emin]
 refine ir (bN (fB nN (xh CF)) rfl (ar (wG (C:=C) (k:=k) rfl rfl W6 k1 k2 (fun Q' hq=>aC rfl hq) fun a1 H7 b7 eV hf7 W7=> ?_)))
 have V7:bK C H7 v M (y::t'):=V6.keep fun e o he z=>b7 e o he (by
  rcases z with rfl | rfl | ⟨_,rfl⟩
  ·exact mj.symm
  ·obtain⟨_,EL⟩:=lst V6
   exact bC EL iD (by intro z;cases z)
  ·exact bC he iD (by intro z;cases z))
 refine ar (wG (C:=C) (k:=k) rfl rfl V7 k1 k3 (fun Q' hq=>aC rfl hq) fun a2 H8 b8 gP hf8 V8=> ?_)
 obtain⟨_,_,_,hW7⟩:=W7.ob
 obtain⟨_,_,_,nS⟩:=V7.ob
 have W8:bK C H8 w L (cw x t k):=W7.keep fun e o he z=>b8 e o he (by
  rcases z with rfl | rfl | ⟨_,rfl⟩
  ·exact mj
  ·obtain⟨_,EM⟩:=lst W7
   exact bC EM nS (by intro z;cases z)
  ·exact bC he nS (by intro z;cases z))
 have tO:=b8 _ _ eV (bC eV nS (by intro z;cases z))
 have wW:=b8 _ _ (b7 _ _ eK qP) wL
 have wX:=b8 _ _ (b7 _ _ fD qQ) wN
 have Rl:ax H H8:=fun e o he=>b8 e o (b7 e o (j9 e o he) (aW he fw)) (aW he fv)
 refine ar (aC rfl (ar (aC rfl (aR ?_))))
 have eA:=wC t k2
 have eB:=wC t' k3
 rw[eA,eB] at gZ
 have aiI:(∃s s',aY x k= .cut s∧aY y k= .cut s'∧s≠s')∨((∀s s',aY x k= .cut s→aY y k= .cut s'→s=s')∧bF (ak (cw x t k)) (ak (cw y t' k))):=by
  cases x with
  | put s=>exact absurd rfl (nx s)
  | keep n=>
   have zY:b_ (aY (.keep n) k)=rK k:=by show rK ((k:Nat):Int).toNat=_;rw[Int.toNat_natCast]
   refine .inr ⟨(fun s s' z=>by cases z), ?_⟩
   rw[zY] at gZ
   cases y with
   | put s=>exact absurd rfl (ny s)
   | keep n'=>
    have q9:b_ (aY (.keep n') k)=rK k:=by show rK ((k:Nat):Int).toNat=_;rw[Int.toNat_natCast]
    rw[q9] at gZ
    exact Rb gZ
   | cut s=>
    have hlen:(s.cps.toList.take k).length=k:=by have:=tI (.cut s) k k3;rw[←iC (s.cps.toList.take k)];exact this
    have h':bF (rK (s.cps.toList.take k).length++ak (cw (.keep n) t k)) ((s.cps.toList.take k).map .C++ak (cw (.cut s) t' k)):=by rw[hlen];exact gZ
    exact Rc h'
  | cut s=>
   have hlen:(s.cps.toList.take k).length=k:=by have:=tI (.cut s) k k2;rw[←iC (s.cps.toList.take k)];exact this
   cases y with
   | put s=>exact absurd rfl (ny s)
   | keep n'=>
    have q9:b_ (aY (.keep n') k)=rK k:=by show rK ((k:Nat):Int).toNat=_;rw[Int.toNat_natCast]
    rw[q9] at gZ
    refine .inr ⟨(fun s s' _ z=>by cases z), ?_⟩
    have h':bF ((s.cps.toList.take k).map .C++ak (cw (.cut s) t k)) (rK (s.cps.toList.take k).length++ak (cw (.keep n') t' k)):=by rw[hlen];exact gZ
    exact Rf h'
   | cut s'=>
    have aiJ:(s'.cps.toList.take k).length=k:=by have:=tI (.cut s') k k3;rw[←iC (s'.cps.toList.take k)];exact this
    have h':bF ((s.cps.toList.take k).map .C++ak (cw (.cut s) t k)) ((s'.cps.toList.take k).map .C++ak (cw (.cut s') t' k)):=gZ
    by_cases he:s.cps.toList.take k=s'.cps.toList.take k
    ·refine .inr ⟨fun u u' z z'=> ?_, ?_⟩
     ·cases z;cases z';rw[he]
     ·rcases Rg (by rw[hlen,aiJ]) h' with z | z
      ·exact absurd he z
      ·exact z
    ·exact .inl ⟨_,_,rfl,rfl,fun z=>he (congrArg (fun s:Str=>s.cps.toList) z)⟩
 rcases aiI with⟨s,s',z,z',bx⟩ | ⟨aiK,aiL⟩
 ·rw[z] at tO
  rw[z'] at gP
  exact .inr ⟨.ref a1, .ref a2,_,_,s,s',rfl,⟨a1,rfl,tO⟩,⟨a2,rfl,gP⟩,bx,qF _ Rl⟩
 refine .inl ⟨.ref a1, .ref a2,c,d,aY x k,aY y k,zs,ws,rfl,⟨a1,rfl,tO⟩,⟨a2,rfl,gP⟩, ?_, ?_,aiK,wW,wX,dF,by omega,by omega,fun H9 b9 EN EO=> ?_⟩
 ·intro s z
  cases x<;>first | exact absurd rfl (nx _) | cases z
 ·intro s z
  cases y<;>first | exact absurd rfl (ny _) | cases z
 have nU: ∀{e:Addr} {o:HO},H8 e=some o→(e=w∨e=L∨e=v∨e=M∨ ∃vs,o= .tup vs)→H9 e=some o:=by
  intro e o he z
  obtain⟨_,hL8⟩:=lst W8
  obtain⟨_,hM8⟩:=lst V8
  refine b9 e o he ?_ ?_
  ·rcases z with rfl | rfl | rfl | rfl | ⟨vs,rfl⟩
   ·exact qP.symm
   ·exact mf.symm
   ·exact wL.symm
   ·exact qW.symm
   ·exact bC he wW (by intro z;cases z)
  ·rcases z with rfl | rfl | rfl | rfl | ⟨vs,rfl⟩
   ·exact qQ.symm
   ·exact mh.symm
   ·exact wN.symm
   ·exact qX.symm
   ·exact bC he wX (by intro z;cases z)
 have W9:bK C H9 w L (cw x t k):=W8.keep fun e o he z=>nU he (by
  rcases z with z | z | z
  ·exact .inl z
  ·exact .inr (.inl z)
  ·exact .inr (.inr (.inr (.inr z))))
 have V9:bK C H9 v M (cw y t' k):=V8.keep fun e o he z=>nU he (by
  rcases z with z | z | z
  ·exact .inr (.inr (.inl z))
  ·exact .inr (.inr (.inr (.inl z)))
  ·exact .inr (.inr (.inr (.inr z))))
 have ER:ax H H9:=fun e o he=>b9 e o (Rl e o he) (aW he fc) (aW he fd)
 have yz:=zU t k1 k2
 have yA:=zU t' k1 k3
 have ah0:(cw x t k).length+ (cw y t' k).length≤t.length+t'.length+1:=by
  have r1:=zT x t k
  have r2:=zT y t' k
  by_cases hz:k=bz x
  ·have e:cw x t k=t:=if_pos hz
   rw[e];omega
  ·have vM:k=bz y:=by omega
   have e:cw y t' k=t':=if_pos vM
   rw[e];omega
 refine⟨_,Nat.add_lt_add yz yA,some (.int (k:Int)),zs++ (if dv (aY y k) then [V.ref a1] else []),ws++ (if dv (aY x k) then [V.ref a2] else []),cw x t k,cw y t' k,rfl,rfl,ER,EN,EO,W9,V9,aiL, ?_, ?_⟩
 ·have:(zs++ (if dv (aY y k) then [V.ref a1] else [])).length≤zs.length+1:=by rw[List.length_append];split<;>simp
  omega
 ·have:(ws++ (if dv (aY x k) then [V.ref a2] else [])).length≤ws.length+1:=by rw[List.length_append];split<;>simp
  omega
end L2.B
namespace L2.dz
open PySem PySem.Spec L2.B
def fF(r:aq):PyData:= .tuple [cA (aH r), .str ⟨#[r.2.2]⟩]
def og(r:aq):Prop:=fW (aH r)∧SG.cps.contains r.2.2=true
theorem aiM{c:Nat}(h:SG.cps.contains c=true):PyData.strOk ⟨#[c]⟩=true:=DY fun d hd=>by
 have:d∈ [c]:=hd
 rw[List.mem_singleton.mp this];exact h
theorem Ak{r:aq}(h:og r):SeqAt.shaped (fF r)=true:=by
 unfold SeqAt.shaped
 have e:(fF r).canLay0=true:=by
  show((cA (aH r)).canLay0 && (PyData.strOk ⟨#[r.2.2]⟩ && true))=true
  rw[SeqAt.canLay_of_shaped (nZ h.1),aiM h.2];rfl
 rw[e];rfl
theorem Fh{H:Hp}{v:V}{r:aq}(h:tE H v r):Is H (fF r) v:=by
 obtain⟨t,n,e,h1,h2⟩:=h
 exact⟨t,_,e,h1, .ref n,_,rfl,tY ⟨n,rfl,h2⟩, .str ⟨#[r.2.2]⟩,[],rfl,rfl,rfl⟩
theorem Fi{H:Hp}: ∀{vs:List V} {rs:List aq},bj H vs rs→IsL H (rs.map fF) vs
 | _,_, .nil=>rfl
 | _,_, .cons (a:=v) h r=> ⟨v,_,rfl,Fh h,Fi r⟩
theorem aiN(a b:aq):PyData.eqv (fF a) (fF b)=decide (a=b):=by
 have e:PyData.eqv (fF a) (fF b)=(PyData.eqv (cA (aH a)) (cA (aH b)) && ((⟨#[a.2.2]⟩:Str)==⟨#[b.2.2]⟩ && true)):=by
  unfold fF
  simp only[PyData.eqv,PyData.eqvAll]
 rw[e,Fb]
 obtain⟨w,i,c⟩:=a
 obtain⟨u,j,d⟩:=b
 show(decide ((w,i)=(u,j)) && ((⟨#[c]⟩:Str)==⟨#[d]⟩ && true))=decide ((w,i,c)=(u,j,d))
 have e2:((⟨#[c]⟩:Str)==⟨#[d]⟩)=decide (c=d):=by
  by_cases h:c=d
  ·subst h;rw[decide_eq_true rfl];exact beq_self_eq_true _
  ·rw[decide_eq_false h]
   exact beq_eq_false_iff_ne.mpr fun z=>h (by have e:[c]=[d]:=congrArg (fun s:Str=>s.cps.toList) z;injection e)
 rw[e2,Bool.and_true]
 by_cases h1:(w,i)=(u,j)
 ·rw[decide_eq_true h1,Bool.true_and]
  have hw:w=u:=congrArg Prod.fst h1
  have hi:i=j:=congrArg Prod.snd h1
  subst hw hi
  by_cases h2:c=d
  ·subst h2;rw[decide_eq_true rfl,decide_eq_true rfl]
  ·rw[decide_eq_false h2,decide_eq_false fun z=>h2 (by have:=congrArg (fun p:aq=>p.2.2) z;exact this)]
 ·rw[decide_eq_false h1,Bool.false_and,decide_eq_false fun z=>h1 (by have a1:=congrArg (fun p:aq=>p.1) z;have a2:=congrArg (fun p:aq=>p.2.1) z;exact Prod.ext a1 a2)]
theorem Rm(ns:List aq)(a:aq):((ns.map fF).any fun e=>PyData.eqv e (fF a))=decide (a∈ns):=by
 rw[List.any_map]
 induction ns with
 | nil=>rfl
 | cons b ns ih=>
  rw[List.any_cons,ih]
  show(PyData.eqv (fF b) (fF a) || _)=_
  rw[aiN]
  by_cases h:b=a
  ·subst h;simp
  ·have h':a≠b:=fun z=>h z.symm
   simp[h,h']
def DictAt(H:Hp)(d:Addr)(f:Nat→List aq):Prop:= ∃ah:List (Key×V),H d=some (.dK ah)∧ ∀k:Nat,(cC ah (.inl (k:Int))=none∧f k=[])∨ ∃(b:Addr) (ys:List V),cC ah (.inl (k:Int))=some (.ref b)∧H b=some (.lst ys)∧bj H ys (f k)
theorem DictAt.same{H H':Hp}{d:Addr}{f:Nat→List aq}(h:DictAt H d f)(s:ax H H'):DictAt H' d f:=by
 obtain⟨ah,h1,h2⟩:=h
 refine⟨ah,s _ _ h1,fun k=> ?_⟩
 rcases h2 k with z | ⟨b,ys,z1,z2,z3⟩
 ·exact .inl z
 ·exact .inr ⟨b,ys,z1,s _ _ z2,z3.mono (aM s)⟩
theorem aiO(ah:List (Key×V))(k:Key)(v:V):(putK ah k v).length≤ah.length+1:=by
 unfold putK
 split
 ·rw[List.length_map];omega
 ·simp
theorem Al(who:Str): ∀(xs:List At) (m i k:Nat),i+bb xs<k→dA who m i xs k=[]
 | [],m,i,k,h=>rfl
 | .P c::xs,m,i,k,h=>by
  have h':i+bb xs<k:=h
  show(if k=i then [(who,m,c)] else [])++dA who (m+1) i xs k=[]
  rw[if_neg (by omega),Al who xs (m+1) i k h'];rfl
 | .K::xs,m,i,k,h=>Al who xs m (i+1) k (by have h':i+ (bb xs+1) <k:=h;omega)
 | .C _::xs,m,i,k,h=>Al who xs m (i+1) k (by have h':i+ (bb xs+1) <k:=h;omega)
theorem take_snoc{ps:List Pt}{i:Nat}{p:Pt}(h:ps[i]?=some p):ak (ps.take (i+1))=ak (ps.take i)++b_ p:=by
 rw[List.take_add_one,h,gB]
 show _++ak [p]=_
 rw[gC]
theorem aiP{who:Str}{ps:List Pt}(ho: ∀p∈ps,bp p): ∀{i:Nat},fP "" ps i≠"put"→fP "" ps i≠"cut"→i≤ps.length→dA who 0 0 (ak (ps.take i)) (bb (ak (ps.take i)))=[]
 | 0,_,_,_=>rfl
 | i+1,h1,h2,hl=>by
  have hi:i<ps.length:=by omega
  have hp:ps[i]?=some ps[i]:=List.getElem?_eq_getElem hi
  have ha:fP "" ps (i+1)=ps[i].word:=by
   show(match ps[i]? with | some p=>p.word | none=> "")=_
   rw[hp]
  have aB:=ho ps[i] (List.getElem_mem hi)
  rw[ha] at h1 h2
  rw[take_snoc hp]
  generalize ps[i]=p at h1 h2 aB
  cases p with
  | put s=>exact absurd rfl h1
  | cut s=>exact absurd rfl h2
  | keep n=>
   have hn:1≤n:=aB
   show dA who 0 0 (ak (ps.take i)++rK n.toNat) (bb (ak (ps.take i)++rK n.toNat))=[]
   rw[nJ,wz,rn,Fg,List.append_nil]
   exact Al who _ 0 0 _ (by omega)
theorem aiQ(s:List Nat):bb (s.map .P)=0:=by
 induction s with
 | nil=>rfl
 | cons c s ih=>exact ih
def ua:Sp:=fun vs H Q E=> ∃(a:Addr) (who:Str) (xs:List V) (ps:List Pt),vs=[.ref a, .str who]∧H a=some (.lst xs)∧aQ H xs ps∧(∀p∈ps,bp p)∧chainOk "" ps=true∧ps.length≤30000∧aG ps≤100000∧
 ∀(d:Addr) (H':Hp),ax H H'→DictAt H' d (dA who 0 0 (ak ps))→Q (.ref d) H'
theorem aiR{K:PySem.W.Frag}(vs:List V)(H:Hp)(Q:VK)(E:XK)(h:ua vs H Q E):au (aU K [] [] (E:=E)) Dw (Dn Q) (start Dv vs) H:=by
 obtain⟨a,who,xs,ps,rfl,ha,cv,aB,dq,hl,tF,q⟩:=h
 have lx:=Paired.length cv
 refine bU (ahi fun d hd=> ?_)
 have s0:=sameNew (o:= .dK []) hd
 refine bU (aX (bU (aX ?_)))
 refine⟨_,rfl,a,rfl,⟨_,ao.of (s0 _ _ ha)⟩,mM (K:=K) (a:=a) (xs:=xs) (fun i σ H2=> ∃(ah:List (Key×V)) (w v:Option V),σ=[some (.ref a),some (.str who),some (.ref d),some (.int (bb (ak (ps.take i)):Nat)),some (.int (pn (ak (ps.take i)):Nat)),w,v]∧ax H H2∧H2 d=some (.dK ah)∧ah.length≤i∧
   (∀k:Nat,(cC ah (.inl (k:Int))=none∧dA who 0 0 (ak (ps.take i)) k=[])∨ ∃(b:Addr) (ys:List V),cC ah (.inl (k:Int))=some (.ref b)∧H2 b=some (.lst ys)∧bj H2 ys (dA who 0 0 (ak (ps.take i)) k)))
  ⟨[],none,none,rfl,s0,av,Nat.le_refl _,fun k=> .inl ⟨rfl,rfl⟩⟩
  (fun i σ H2 _ ⟨_,_,_,_,s2,_⟩=>ao.of (s2 _ _ ha)) ?_ ?_⟩
 ·rintro i y σ H2 hi ⟨ah,w,v,rfl,s2,iX,hkl,hD⟩
  obtain⟨pt,eT,ij⟩:=cv.get hi
  obtain⟨pa,rfl,Eu⟩:=ij.mono (aM s2)
  have dX:i<ps.length:=(List.getElem?_eq_some_iff.mp eT).1
  have lZ:=aB pt (List.mem_of_getElem? eT)
  have vQ:=zg ps "" i pt dq eT
  have et:=take_snoc eT
  have tt:=vO ps (i+1)
  have ts:=zl eT
  refine⟨pa,_,rfl, .inl (aI.of Eu),rfl,_,_,rfl,_,_,rfl,rfl, ?_⟩
  cases pt with
  | put s=>
   have ls:=len_list s
   have iJ:s.length≤100000:=by have:cQ (.put s)=s.length:=rfl;omega
   obtain⟨f1,f2⟩:=El vQ
   have Rn:=aiP (who:=who) aB f1 f2 (by omega:i≤ps.length)
   generalize ki:bb (ak (ps.take i))=at' at Rn⊢
   generalize Ro:pn (ak (ps.take i))=m
   refine⟨_,rfl,_,rfl, ?_⟩
   refine⟨_,rfl,cz lZ.1.1,(s.length:Int),rfl,by omega,by omega,Eb (n:=s.length) (by omega) (fun j zs H3=>bj H3 zs ((d_ who m s.cps.toList).take j)) .nil ?_ ?_⟩
   ·intro j zs H3 hj s3 hz Q' hq
    have nt:j<s.cps.toList.length:=by omega
    have hc:s.cps.toList[j]?=some s.cps.toList[j]:=List.getElem?_eq_getElem nt
    refine⟨_,rfl,_,rfl,_,rfl,(by show 2≤sizeLine;decide),fun n hn=> ⟨_,rfl,_,rfl, .inr (.inr (.inl ⟨s,0+ (j:Int),s.cps.toList[j],rfl,rfl,cz (by omega), ?_,(by show 2≤sizeLine;decide),fun t ht=> ?_⟩))⟩⟩
    ·rw[show(0:Int)+ (j:Int)=((j:Nat):Int) by omega];exact Et nt
    ·have s4:=sameNew (o:= .tup [V.str who,V.int ((m:Int)+ (0+ (j:Int)))]) hn
     have s5:=sameNew (o:= .tup [V.ref n,V.str ⟨#[s.cps.toList[j]]⟩]) ht
     refine hq (.ref t) _ (s4.trans s5) ?_
     rw[Es who m _ j _ hc]
     refine Paired.snoc (hz.mono (aM (s4.trans s5))) ⟨t,n,rfl,av, ?_⟩
     rw[s5 _ _ av]
     show some (HO.tup [V.str who,V.int ((m:Int)+ (0+ (j:Int)))])=some (HO.tup [V.str who,V.int ((m+j:Nat):Int)])
     rw[show(m:Int)+ (0+ (j:Int))=((m+j:Nat):Int) by omega]
   ·intro zs H3 p s3 hz hp
    rw[List.take_of_length_le (by rw[qK];omega)] at hz
    have s4:=sameNew (o:= .lst zs) hp
    have wq:=s4 _ _ (s3 _ _ iX)
    refine⟨_,rfl,_,rfl,d,_,rfl,mT.k (k:= .inl (at':Int)) wq (cY (by omega)), ?_⟩
    have Fj:=s3.trans s4
    refine bU (fU (aC rfl (j5 (ar (aC rfl (aR ⟨cz lZ.1.1, ?_⟩))))))
    have fd:H d=none:=hd
    have s5:ax H (upd (upd H3 p (.lst zs)) d (.dK (putK ah (.inl (at':Int)) (.ref p)))):=fun b o hb=>by
     rw[aD (aW hb fd)];exact Fj _ _ (s2 _ _ hb)
    have keep: ∀{b:Addr} {o:HO},H2 b=some o→(∀k,o≠ .dK k)→upd (upd H3 p (.lst zs)) d (.dK (putK ah (.inl (at':Int)) (.ref p))) b=some o:=fun {b o} hb bx=>by
     rw[aD (bC (Fj _ _ hb) wq (bx _))];exact Fj _ _ hb
    have tp:dJ H2 (upd (upd H3 p (.lst zs)) d (.dK (putK ah (.inl (at':Int)) (.ref p)))):=fun b vs hb=>keep hb (by intro k z;cases z)
    have tp3:dJ H3 (upd (upd H3 p (.lst zs)) d (.dK (putK ah (.inl (at':Int)) (.ref p)))):=fun b vs hb=>by
     rw[aD (bC (s4 _ _ hb) wq (by intro z;cases z))];exact s4 _ _ hb
    refine⟨_,some (.str "put"),some (.str s), ?_,s5,av,by have:=aiO ah (.inl (at':Int)) (.ref p);omega,fun k=> ?_⟩
    ·rw[et]
     show[_,_,_,some (V.int (at':Int)),some (V.int ((m:Int)+ (s.length:Int))),_,_]=_
     rw[nJ,t_,ki,Ro]
     show _=[_,_,_,some (V.int ((at'+bb (s.cps.toList.map At.P):Nat):Int)),some (V.int ((m+pn (s.cps.toList.map At.P):Nat):Int)),_,_]
     rw[aiQ,aiB,←ls,Nat.add_zero,Int.natCast_add];rfl
    ·rw[et,rn,ki,Ro,Nat.zero_add,Nat.zero_add]
     show(cC (putK ah (.inl (at':Int)) (.ref p)) (.inl (k:Int))=none∧_++dA who m at' (s.cps.toList.map At.P) k=[])∨ ∃(b:Addr) (ys:List V),cC (putK ah (.inl (at':Int)) (.ref p)) (.inl (k:Int))=some (.ref b)∧_∧bj _ ys (_++dA who m at' (s.cps.toList.map At.P) k)
     rw[Rj,Wb]
     by_cases hk:k=at'
     ·subst hk
      rw[if_pos rfl,if_pos rfl,Rn]
      have np:p≠d:=fun z=>by rw[z] at hp;rw[s3 _ _ iX] at hp;cases hp
      refine .inr ⟨p,zs,rfl,by rw[aD np,av], ?_⟩
      exact hz.mono tp3
     ·have o8: ¬((Sum.inl (k:Int):Key)=Sum.inl (at':Int)):=fun z=>hk (by injection z with z;omega)
      rw[if_neg hk,if_neg o8,List.append_nil]
      rcases hD k with z | ⟨b,ys,z1,z2,z3⟩
      ·exact .inl z
      ·exact .inr ⟨b,ys,z1,keep z2 (by intro k z;cases z),z3.mono tp⟩
  | cut s=>
   have ls:=len_list s
   refine⟨_,rfl,_,rfl,_,rfl,_,rfl, ?_⟩
   refine bU (fU (aC rfl (j5 (ar (aC rfl (aR ⟨cz lZ.1.1, ?_⟩))))))
   refine⟨ah,some (.str "cut"),some (.str s), ?_,s2,iX,by omega,fun k=> ?_⟩
   ·rw[et,nJ,t_]
    show[_,_,_,some (V.int (((bb (ak (ps.take i)):Nat):Int)+ (s.length:Int))),_,_,_]=[_,_,_,some (V.int ((bb (ak (ps.take i))+bb (s.cps.toList.map At.C):Nat):Int)),some (V.int ((pn (ak (ps.take i))+pn (s.cps.toList.map At.C):Nat):Int)),_,_]
    rw[wA,aiC,←ls,Nat.add_zero,Int.natCast_add];rfl
   ·rw[et,rn]
    show(_∧_++dA who _ _ (s.cps.toList.map At.C) k=[])∨ ∃(b:Addr) (ys:List V),_∧_∧bj _ ys (_++dA who _ _ (s.cps.toList.map At.C) k)
    rw[Rk,List.append_nil];exact hD k
  | keep n=>
   have hn:1≤n:=lZ
   refine⟨_,rfl,_,rfl,_,rfl,_,rfl, ?_⟩
   refine bU (fU (aC rfl (aC rfl ?_)))
   refine⟨ah,some (.str "keep"),some (.int n), ?_,s2,iX,by omega,fun k=> ?_⟩
   ·rw[et,nJ,t_]
    show[_,_,_,some (V.int (((bb (ak (ps.take i)):Nat):Int)+n)),_,_,_]=[_,_,_,some (V.int ((bb (ak (ps.take i))+bb (rK n.toNat):Nat):Int)),some (V.int ((pn (ak (ps.take i))+pn (rK n.toNat):Nat):Int)),_,_]
    rw[wz,aiD,Nat.add_zero,Int.natCast_add,show((n.toNat:Nat):Int)=n by omega];rfl
   ·rw[et,rn]
    show(_∧_++dA who _ _ (rK n.toNat) k=[])∨ ∃(b:Addr) (ys:List V),_∧_∧bj _ ys (_++dA who _ _ (rK n.toNat) k)
    rw[Fg,List.append_nil];exact hD k
 ·rintro σ H2 ⟨ah,w,v,rfl,s2,iX,hkl,hD⟩
  rw[lx,List.take_length] at hD
  exact j6 (aC rfl (q d H2 s2 ⟨ah,iX,hD⟩))
structure bw (R:List aq) (m n:List Nat) (one other:List Pt):Prop where
 c1:iY one (aK R) m
 c2:iY other (aK R) n
 nd:(R.map aH).Nodup
 who: ∀q∈R,q.1="old"
 ok:gY R
 gm: ∀c∈m,SG.cps.contains c=true
 gn: ∀c∈n,SG.cps.contains c=true
 lR:R.length≤1000
 lm:m.length≤5000
 ln:n.length≤5000
 n1:one.length≤305
 n2:other.length≤15000
 t1:aG one≤4000
 t2:aG other≤7000
def rM(R:List aq)(one:List Pt):List aq:=bf "one" R 0 (ak one)
def rT(R:List aq)(other:List Pt):List aq:=bf "other" R 0 (ak other)
def rB(R:List aq)(one other:List Pt):List aq:=dP (ak one) (ak other) 0 0 0 R
section
variable {R:List aq} {m n:List Nat} {one other:List Pt}
theorem ne_old{who:Str}(h:("old":Str)≠who)(hw: ∀q∈R,q.1="old"): ∀q∈R,q.1≠who:=fun q hq z=>h (by rw[←hw q hq];exact z)
theorem bw.Am(S:bw R m n one other): ∀q∈R,q.1≠"one":=ne_old (by decide) S.who
theorem bw.An(S:bw R m n one other): ∀q∈R,q.1≠"other":=ne_old (by decide) S.who
theorem bw.sM(S:bw R m n one other):aK (rM R one)=m:=by
 have:=nX (who:="one") (ak one) R 0
 rw[(S.c1.run.fits).2] at this
 exact this.symm
theorem bw.sT(S:bw R m n one other):aK (rT R other)=n:=by
 have:=nX (who:="other") (ak other) R 0
 rw[(S.c2.run.fits).2] at this
 exact this.symm
theorem bw.Ao(S:bw R m n one other):(rM R one).length=m.length:=by rw[←mq,S.sM]
theorem bw.Ap(S:bw R m n one other):(rT R other).length=n.length:=by rw[←mq,S.sT]
theorem bw.nM(S:bw R m n one other):((rM R one).map aH).Nodup:=rj _ _ _ S.nd S.Am
theorem bw.nT(S:bw R m n one other):((rT R other).map aH).Nodup:=rj _ _ _ S.nd S.An
theorem bw.wM(S:bw R m n one other): ∀q∈rM R one,q.1="old"∨q.1="one":=fun q hq=> (jE _ _ _ q hq).imp (S.who q) (·.1)
theorem bw.wT(S:bw R m n one other): ∀q∈rT R other,q.1="old"∨q.1="other":=fun q hq=> (jE _ _ _ q hq).imp (S.who q) (·.1)
theorem bw.o1(S:bw R m n one other):R.length=bb (ak one):=by rw[←mq];exact ma _ _ S.c1.run.fits.1
theorem bw.o2(S:bw R m n one other):R.length=bb (ak other):=by rw[←mq];exact ma _ _ S.c2.run.fits.1
theorem bw.oh(S:bw R m n one other):gY (rM R one):=Fe S.sM S.gm
theorem bw.rA(S:bw R m n one other):gY (rT R other):=Fe S.sT S.gn
theorem ub{q:aq}(h:q.1="old"∨q.1="one"∨q.1="other"):fW (aH q):=by
 show PyData.strOk q.1=true
 rcases h with h | h | h<;>rw[h] <;>decide+kernel
theorem bw.rR(S:bw R m n one other): ∀q∈R,og q:=fun q hq=> ⟨ub (.inl (S.who q hq)),S.ok q hq⟩
theorem bw.rrM(S:bw R m n one other): ∀q∈rM R one,og q:=fun q hq=> ⟨ub ((S.wM q hq).imp_right .inl),S.oh q hq⟩
theorem bw.rrT(S:bw R m n one other): ∀q∈rT R other,og q:=fun q hq=> ⟨ub ((S.wT q hq).imp_right .inr),S.rA q hq⟩
theorem bw.kept(S:bw R m n one other){i:Nat}{r:aq}(h:R[i]?=some r):(decide (r∈rM R one) && decide (r∈rT R other))=(kA 0 (ak one) i && kA 0 (ak other) i):=by
 have k1:=xg (who:="one") (ak one) R 0 0 i r S.nd S.Am S.o1 h
 have k2:=xg (who:="other") (ak other) R 0 0 i r S.nd S.An S.o2 h
 rw[Nat.zero_add] at k1 k2
 congr 1
 ·cases hk:kA 0 (ak one) i with
  | true=>exact decide_eq_true (k1.mpr hk)
  | false=>exact decide_eq_false fun z=>by rw[k1.mp z] at hk;cases hk
 ·cases hk:kA 0 (ak other) i with
  | true=>exact decide_eq_true (k2.mpr hk)
  | false=>exact decide_eq_false fun z=>by rw[k2.mp z] at hk;cases hk
theorem bw.all(S:bw R m n one other){ps qs:List Pt}{r:List Nat}(P:Passed one other ps qs (aK R) m n)(h1:iY ps n r)(h2:iY qs m r):
  ps=fQ (eE (rT R other) (rB R one other))∧qs=fQ (eE (rM R one) (rB R one other))∧(rB R one other).length≤10000∧aG (eE (rT R other) (rB R one other))≤100000∧aG (eE (rM R one) (rB R one other))≤100000:=by
 obtain⟨os,ts,hO,e1,e2⟩:=P.ahz
 have wT: ∀q∈rT R other,q.1≠"one":=fun q hq z=>by rcases S.wT q hq with y | y<;> (rw[y] at z;exact absurd z (by decide))
 have wM: ∀q∈rM R one,q.1≠"other":=fun q hq z=>by rcases S.wM q hq with y | y<;> (rw[y] at z;exact absurd z (by decide))
 obtain⟨⟨a1,a2⟩,⟨b1,b2⟩,c1⟩:=aiA hO (T:=rT R other) (M:=rM R one) (S:=R) (m:=0) (n:=0) (i:=0) (jt:=0) (jm:=0) S.o1 S.o2 S.nT S.nM wT wM rfl rfl (Nat.zero_le _) (Nat.zero_le _)
 have lM:=S.Ao
 have lT:=S.Ap
 have bm:=S.lm
 have bn:=S.ln
 have t1:=P.ahy
 have b1':=S.t1
 have hlen:(rB R one other).length=r.length:=by
  have h:=congrArg List.length a1
  rw[List.length_map,←zE e1,tP,←tK _ _ h1.run.fits.1,h1.run.fits.2] at h
  exact h
 have DN:=h1.run.len
 have lG:(rB R one other).length≤10000:=by omega
 have Rp:gY (rB R one other):=fun q hq=> (c1 q hq).elim (S.rA q) (S.oh q)
 obtain⟨r1,g1,g2⟩:=E7 a2 S.rA Rp (by omega) lG
 obtain⟨r2,g3,g4⟩:=E7 b2 S.oh Rp (by omega) lG
 rw[S.sT] at g1
 rw[S.sM] at g3
 have x1:=Ab a2
 have x2:=Ab b2
 refine⟨Qx h1 g1 ?_,Qx h2 g3 ?_,lG, ?_, ?_⟩
 ·exact(zE e1 0).trans (a1.symm.trans g2.symm)
 ·exact(zE e2 0).trans (b1.symm.trans g4.symm)
 ·show aG (eE (rT R other) (dP (ak one) (ak other) 0 0 0 R))≤_
  have:(dP (ak one) (ak other) 0 0 0 R).length≤10000:=lG
  omega
 ·show aG (eE (rM R one) (dP (ak one) (ak other) 0 0 0 R))≤_
  have:(dP (ak one) (ak other) 0 0 0 R).length≤10000:=lG
  omega
end
theorem aiW{xs:List V}{i:Nat}(h:i≤xs.length):fJ xs (some ((0:Int)+ (i:Int))) (some ((0:Int)+ (i:Int)+1))=(xs.drop i).take 1:=by
 unfold fJ
 rw[show(0:Int)+ (i:Int)+1=((i+1:Nat):Int) by omega,show(0:Int)+ (i:Int)=((i:Nat):Int) by omega,HT.jc,HT.jc]
 have m1:min i xs.length=i:=by omega
 rw[m1]
 by_cases h2:i<xs.length
 ·rw[show min (i+1) xs.length - i=1 by omega]
 ·have:xs.drop i=[]:=List.drop_of_length_le (by omega)
  rw[this];simp
theorem aiX{Γ:aJ}{σ:St}{H:Hp}{Q:VK}{a p3 p4:Addr}{i:Nat}{xs x3 x4:List V}{R M T:List aq}(h0:σ[0]?=some (some (.ref a)))(h8:σ[8]?=some (some (.int ((0:Int)+ (i:Int)))))(hf:cX σ [("_law_mine",3),("_law_theirs",4)]=[some (.ref p3),some (.ref p4)])
  (ha:H a=some (.lst xs)) (hR:bj H xs R) (hi:i≤R.length) (g3:H p3=some (.lst x3)) (v3:bj H x3 M) (g4:H p4=some (.lst x4)) (v4:bj H x4 T) (oR: ∀r∈R,og r) (oM: ∀r∈M,og r) (oT: ∀r∈T,og r)
  (q: ∀(d:Addr) (H':Hp) (ys:List V),ax H H'→H d=none→H' d=some (.lst ys)→bj H' ys (((R.drop i).take 1).filter fun r=>decide (r∈M) && decide (r∈T))→Q (.ref d) H'):
  ag Γ (.comp none [("_law_mine",3),("_law_theirs",4)] .list [(.sl (.v 0) (some (.v 8)) (some (.bin .Add (.v 8) (.c (.int 1)))))] (some (.and [(.inD (.v 0) (.v 1)),(.inD (.v 0) (.v 2))])) (.v 0)) σ H Q:=by
 have lx:=Paired.length hR
 refine⟨_,h0,_,h8,_,rfl,_,h8,_,rfl, .inl ⟨xs,ao.of ha,fun p hp=> ?_⟩⟩
 rw[aiW (by omega)]
 have s1:=sameNew (o:= .lst ((xs.drop i).take 1)) hp
 have hV:bj (upd H p (.lst ((xs.drop i).take 1))) ((xs.drop i).take 1) ((R.drop i).take 1):=((hR.drop i).take 1).mono (aM s1)
 have fj:upd H p (.lst ((xs.drop i).take 1)) p=some (.lst ((xs.drop i).take 1)):=av
 have oS: ∀r∈ (R.drop i).take 1,og r:=fun r hr=>oR r (List.mem_of_mem_drop (List.mem_of_mem_take hr))
 have w3:=s1 _ _ g3
 have w4:=s1 _ _ g4
 have z3:=v3.mono (aM s1)
 have z4:=v4.mono (aM s1)
 have fr: ∀{d:Addr},upd H p (.lst ((xs.drop i).take 1)) d=none→H d=none:=fun h=>s1.free h
 have jQ:((xs.drop i).take 1).length≤1:=by rw[List.length_take];omega
 generalize (xs.drop i).take 1=ws at hV fj s1 w3 w4 z3 z4 fr jQ⊢
 generalize (R.drop i).take 1=S at hV oS q⊢
 generalize upd H p (.lst ws)=H1 at hV fj s1 w3 w4 z3 z4 fr⊢
 have lw:=Paired.length hV
 refine⟨p,rfl,⟨_,ao.of fj⟩,fun i m ys H2=>m=ws.length - i∧i≤ws.length∧ys.length≤i∧H2=H1∧bj H1 ys ((S.take i).filter fun r=>decide (r∈M) && decide (r∈T)),⟨_,rfl,Nat.zero_le _,Nat.le_refl _,rfl, .nil⟩, ?_⟩
 rintro i m ys H2 ⟨rfl,hi,jv,rfl,bg⟩
 by_cases aP:i<ws.length
 ·refine .inr ⟨⟨ws,ws[i],ao.of fj,by simp[aP]⟩, ?_⟩
  rintro x H3 ⟨rfl,hx⟩
  obtain⟨r,hr,nv⟩:=hV.get (hx ws (ao.of fj))
  have rk:=oS r (List.mem_of_getElem? hr)
  have e:(S.take (i+1)).filter (fun r=>decide (r∈M) && decide (r∈T))=((S.take i).filter fun r=>decide (r∈M) && decide (r∈T))++ (if (decide (r∈M) && decide (r∈T))=true then [r] else []):=by
   rw[List.take_add_one,hr,List.filter_append]
   congr 1
   show List.filter _ [r]=_
   rw[List.filter_cons];rfl
  rw[hf]
  refine⟨_,rfl,_,rfl,p3,x3,fF r,M.map fF,rfl,ao.of w3,Fh nv,Fi z3,Ak rk,(by show 2≤60;decide),(fun d hd=>by obtain⟨b,hb,rfl⟩:=List.mem_map.mp hd;exact Ak (oM b hb)),_,rfl, ?_⟩
  rw[Rm,Bool.false_xor]
  by_cases h9:r∈M
  ·rw[decide_eq_true h9] at e⊢
   refine⟨_,rfl,_,rfl,p4,x4,fF r,T.map fF,rfl,ao.of w4,Fh nv,Fi z4,Ak rk,(by show 2≤60;decide),(fun d hd=>by obtain⟨b,hb,rfl⟩:=List.mem_map.mp hd;exact Ak (oT b hb)),_,rfl, ?_⟩
   rw[Rm,Bool.false_xor]
   by_cases h8:r∈T
   ·rw[decide_eq_true h8] at e⊢
    refine⟨_,rfl,cY (by omega),ws.length - (i+1),by omega,rfl,aP,by simp;omega,rfl, ?_⟩
    rw[e]
    exact Paired.snoc bg nv
   ·rw[decide_eq_false h8] at e⊢
    refine⟨ws.length - (i+1),by omega,rfl,aP,by omega,rfl, ?_⟩
    rw[e]
    show bj _ _ (_++ [])
    rw[List.append_nil];exact bg
  ·rw[decide_eq_false h9] at e⊢
   refine⟨ws.length - (i+1),by omega,rfl,aP,by omega,rfl, ?_⟩
   rw[e]
   show bj _ _ (_++ [])
   rw[List.append_nil];exact bg
 ·have dB:i=ws.length:=by omega
  subst dB
  refine .inl ⟨⟨ws,ao.of fj,Nat.le_refl _⟩,fun p hp=> ?_⟩
  rw[lw,List.take_length] at bg
  have z:=sameNew (o:= .lst ys) hp
  exact q p _ ys (s1.trans z) (fr hp) av (bg.mono (aM z))
theorem Rq{Γ:aJ}{σ:St}{H:Hp}{Q:VK}{kd:Nat}{d:Addr}{f:Nat→List aq}{i:Nat}(e1:σ[kd]?=some (some (.ref d)))(e2:σ[8]?=some (some (.int ((0:Int)+ (i:Int)))))(D:DictAt H d f)(q: ∀(b:Addr) (H':Hp) (ys:List V),ax H H'→H' b=some (.lst ys)→bj H' ys (f i)→Q (.ref b) H'):
  ag Γ (.uX (.v kd) (.v 8) (.lst [])) σ H Q:=by
 obtain⟨ah,h1,h2⟩:=D
 refine⟨_,e1,d,rfl, .inl ⟨ah, .inl h1⟩,_,e2,Nat.zero_le _,fun b fb=> ?_⟩
 have s1:=sameNew (o:= .lst []) fb
 rw[Int.zero_add]
 refine⟨_,eo.k (k:= .inl (i:Int)) (s1 _ _ h1), ?_⟩
 rcases h2 i with⟨z1,z2⟩ | ⟨c,ys,z1,z2,z3⟩
 ·rw[z1]
  refine q b _ [] s1 av ?_
  rw[z2];exact .nil
 ·rw[z1]
  exact q c _ ys s1 (s1 _ _ z2) (z3.mono (aM s1))
abbrev aiY:List (Str×Sp):=[("_law_puts",ua)]
def xi:Sp:=fun vs H Q E=> ∃(a a1 a2 a3 a4:Addr) (x0 x1 x2 x3 x4:List V) (R:List aq) (m n:List Nat) (one other:List Pt),vs=[.ref a, .ref a1, .ref a2, .ref a3, .ref a4]∧bw R m n one other∧H a=some (.lst x0)∧bj H x0 R∧H a1=some (.lst x1)∧aQ H x1 one∧H a2=some (.lst x2)∧aQ H x2 other∧H a3=some (.lst x3)∧bj H x3 (rM R one)∧H a4=some (.lst x4)∧bj H x4 (rT R other)∧(rB R one other).length≤10000∧
 ∀(d:Addr) (H':Hp) (ys:List V),ax H H'→H d=none→H' d=some (.lst ys)→bj H' ys (rB R one other)→Q (.ref d) H'
theorem aiZ{K:PySem.W.Frag}(vs:List V)(H:Hp)(Q:VK)(E:XK)(h:xi vs H Q E):au (aU K aiY [] (E:=E)) Dy (Dn Q) (start Dx vs) H:=by
 obtain⟨a,a1,a2,a3,a4,x0,x1,x2,x3,x4,R,m,n,one,other,rfl,S,h0,v0,h1,p1,h2,p2,h3,v3,h4,v4,hBl,q⟩:=h
 have lx:=Paired.length v0
 have n1:=S.n1
 have n2:=S.n2
 have t1:=S.t1
 have t2:=S.t2
 have lR:=S.lR
 refine bU (bN ua rfl (ar (aC rfl (ar (aX (aR ⟨a1,"one",x1,one,rfl,h1,p1,S.c1.ok,S.c1.ch,by omega,by omega,fun d5 H1 s1 D1=> ?_⟩))))))
 refine bU (bN ua rfl (ar (aC rfl (ar (aX (aR ⟨a2,"other",x2,other,rfl,s1 _ _ h2,p2.mono (aM s1),S.c2.ok,S.c2.ch,by omega,by omega,fun d6 H2 s2 D2=> ?_⟩))))))
 have D1:=D1.same s2
 have eZ:=s1.trans s2
 refine bU (gN (aR ⟨Nat.zero_le _,fun d7 f7=> ?_⟩))
 have s3:=sameNew (o:= .lst []) f7
 have gT:=eZ.trans s3
 have D1:=D1.same s3
 have D2:=D2.same s3
 have Rr:upd H2 d7 (.lst []) d7=some (.lst []):=av
 have fd7:H d7=none:=eZ.free f7
 generalize upd H2 d7 (.lst [])=H3 at s3 gT D1 D2 Rr⊢
 generalize EF:dA "one" 0 0 (ak one)=e1 at D1
 generalize hd2:dA "other" 0 0 (ak other)=e2 at D2
 have eB:rB R one other=fE e1 e2 (fun k=>kA 0 (ak one) k && kA 0 (ak other) k) 0 R:=by
  unfold rB dP;rw[EF,hd2]
 generalize hkp:(fun k=>kA 0 (ak one) k && kA 0 (ak other) k)=kp at eB
 refine⟨_,rfl, .inl ⟨x0,ao.of (gT _ _ h0),((x0.length:Int)+1),rfl,by omega,by omega,xO (lo:=0) (n:=x0.length+1) (fun i σ H4=> ∃(d:Addr) (ys:List V) (acc:List aq) (u:Option V),σ=[some (.ref a),some (.ref a1),some (.ref a2),some (.ref a3),some (.ref a4),some (.ref d5),some (.ref d6),some (.ref d),u]∧ax H3 H4∧H d=none∧H4 d=some (.lst ys)∧bj H4 ys acc∧
   rB R one other=acc++ (if i≤R.length then fE e1 e2 kp i (R.drop i) else [])) ⟨d7,[],[],none,rfl,ax.refl _,fd7,Rr, .nil,by rw[if_pos (Nat.zero_le _),List.drop_zero];exact eB⟩ ?_ ?_⟩⟩
 ·rintro i σ H4 hi ⟨d,ys,acc,u,rfl,s4,fd,hd,bg,jk⟩
  have Rt:i≤R.length:=by omega
  rw[if_pos Rt] at jk
  have hal:acc.length≤10000:=by have:=congrArg List.length jk;rw[List.length_append] at this;omega
  have rC:=gT.trans s4
  have jv:=Paired.length bg
  have aqf:acc.length+ (fE e1 e2 kp i (R.drop i)).length≤10000:=by rw[←List.length_append,←jk];exact hBl
  have hes:(e1 i).length+ (e2 i).length≤ (fE e1 e2 kp i (R.drop i)).length:=by
   cases R.drop i with
   | nil=>show _≤ (e1 i++e2 i).length;rw[List.length_append];exact Nat.le_refl _
   | cons r S'=>show _≤ (e1 i++e2 i++_++_).length;rw[List.length_append,List.length_append,List.length_append];omega
  refine bU (fU (fU (aC rfl (Rq rfl rfl (D1.same s4) fun b1 H5 z1 s5 nC w1=> ?_))))
  have l1:=Paired.length w1
  refine .inl ⟨d,b1,ys,z1,rfl,rfl,s5 _ _ hd,nC,cz (by omega),fun g5 fg5=> ?_⟩
  have s6:=sameNew (o:= .lst (ys++z1)) fg5
  have y5:bj (upd H5 g5 (.lst (ys++z1))) (ys++z1) (acc++e1 i):=Paired.app (bg.mono (aM (s5.trans s6))) (w1.mono (aM s6))
  have Ru:upd H5 g5 (.lst (ys++z1)) g5=some (.lst (ys++z1)):=av
  have oi:=s5.trans s6
  generalize upd H5 g5 (.lst (ys++z1))=H6 at s6 oi y5 Ru⊢
  refine Rq rfl rfl (D2.same (s4.trans oi)) fun b2 H7 z2 s7 tw w2=> ?_
  have l2:=Paired.length w2
  refine .inl ⟨g5,b2,ys++z1,z2,rfl,rfl,s7 _ _ Ru,tw,cz (by rw[List.length_append];omega),fun g6 fg6=> ?_⟩
  have s8:=sameNew (o:= .lst (ys++z1++z2)) fg6
  have y6:bj (upd H7 g6 (.lst (ys++z1++z2))) (ys++z1++z2) (acc++e1 i++e2 i):=Paired.app (y5.mono (aM (s7.trans s8))) (w2.mono (aM s8))
  have z8:upd H7 g6 (.lst (ys++z1++z2)) g6=some (.lst (ys++z1++z2)):=av
  have kj:=oi.trans (s7.trans s8)
  generalize upd H7 g6 (.lst (ys++z1++z2))=H8 at s8 kj y6 z8⊢
  have iE:=rC.trans kj
  refine bU (fU (aC rfl (aiX (a:=a) (p3:=a3) (p4:=a4) (i:=i) (R:=R) (M:=rM R one) (T:=rT R other) rfl rfl rfl (iE _ _ h0) (v0.mono (aM iE)) Rt (iE _ _ h3) (v3.mono (aM iE)) (iE _ _ h4) (v4.mono (aM iE)) S.rR S.rrM S.rrT fun b9 H9 z9 s9 f9 hb9 w9=> ?_)))
  have l9:=Paired.length w9
  have l9':z9.length≤1:=by
   rw[l9]
   have:=List.length_filter_le (fun r=>decide (r∈rM R one) && decide (r∈rT R other)) ((R.drop i).take 1)
   rw[List.length_take] at this
   omega
  refine .inl ⟨g6,b9,ys++z1++z2,z9,rfl,rfl,s9 _ _ z8,hb9,cz (by rw[List.length_append,List.length_append];omega),fun g7 Rv=> ?_⟩
  have gi:=sameNew (o:= .lst (ys++z1++z2++z9)) Rv
  have s4a:=kj.trans (s9.trans gi)
  refine⟨g7,_,_,_,rfl,s4.trans s4a,(iE.trans s9).free Rv,av,Paired.app (y6.mono (aM (s9.trans gi))) (w9.mono (aM gi)), ?_⟩
  rw[jk]
  by_cases aP:i<R.length
  ·rw[if_pos (by omega:i+1≤R.length)]
   have hr:R[i]?=some R[i]:=List.getElem?_eq_getElem aP
   have ek:=S.kept hr
   have ekp:kp i=(kA 0 (ak one) i && kA 0 (ak other) i):=by rw[←hkp]
   rw[List.drop_eq_getElem_cons aP]
   show acc++ (e1 i++e2 i++ (if kp i=true then [R[i]] else [])++fE e1 e2 kp (i+1) (R.drop (i+1)))=acc++e1 i++e2 i++List.filter _ [R[i]]++_
   rw[ekp,←ek,List.filter_cons]
   simp only[List.filter_nil,List.append_assoc]
  ·have dB:i=R.length:=by omega
   subst dB
   rw[if_neg (by omega),List.drop_length,List.append_nil]
   show acc++ (e1 R.length++e2 R.length)=acc++e1 R.length++e2 R.length++ []
   simp only[List.append_assoc,List.append_nil]
 ·rintro σ H4 ⟨d,ys,acc,u,rfl,s4,fd,hd,bg,jk⟩
  rw[if_neg (by omega),List.append_nil] at jk
  rw[←jk] at bg
  exact j6 (aC rfl (q d H4 ys (gT.trans s4) fd hd bg))
def Rw(CC CF:Addr)(Q:VK):XK:=fun e o H1=>o=none∧((e= .ref CC∧ ∀H',ax H1 H'→Q (.str "change") H')∨(e= .ref CF∧ ∀H',ax H1 H'→Q (.str "fit") H'))
theorem ai8{CC CF:Addr}{vs:List V}{H:Hp}{Q:VK}{E E':XK}(hE: ∀e o H',ax H H'→E e o H'→E' e o H')(h:n_ CC CF vs H Q E):n_ CC CF vs H Q E':=by
 obtain⟨va,vb,e,⟨hn,q⟩ | ⟨a,xs,one,h1,h2,h3,h4,h5,h6,⟨hn,q⟩ | ⟨b,ys,other,g1,g2,g3,g4,g5,g6,qF,g7⟩⟩⟩:=h
 ·exact⟨va,vb,e, .inl ⟨hn,fun H' s=>hE _ _ _ s (q H' s)⟩⟩
 ·exact⟨va,vb,e, .inr ⟨a,xs,one,h1,h2,h3,h4,h5,h6, .inl ⟨hn,fun H' s=>hE _ _ _ s (q H' s)⟩⟩⟩
 ·exact⟨va,vb,e, .inr ⟨a,xs,one,h1,h2,h3,h4,h5,h6, .inr ⟨b,ys,other,g1,g2,g3,g4,g5,g6,fun H' s=>hE _ _ _ s (qF H' s),g7⟩⟩⟩
def fX(CC CF:Addr):Sp:=fun vs H Q E=> ∃va vb,vs=[va,vb]∧(qR [va,vb] H Q E0∨n_ CC CF [va,vb] H Q (Rw CC CF Q))
theorem ai9{K:PySem.W.Frag}{cs:List Addr}{cK CC CF:Addr}(kC:j8 K cs cK CC 1)(kF:j8 K cs cK CF 2)(xC:exmOne K (.ref CC) (.ref cK)=some true)(xF:exmOne K (.ref CF) (.ref cK)=some true)
  (vs:List V) (H:Hp) (Q:VK) (E:XK) (h:fX CC CF vs H Q E):
  au (aU K [("passed",fB qR (n_ CC CF))] [("InkError", .ref cK)] (ht:=[("_law_word",wk K cs cK)]) (E:=E)) Du (Dn Q) (start Dt vs) H:=by
 obtain⟨va,vb,rfl,h⟩:=h
 have su: ∀(D:Addr) (j:Nat) (w:Str) (H1:Hp),j8 K cs cK D j→j<13→iW.getD j ""=w→exmOne K (.ref D) (.ref cK)=some true→(∀H',ax H1 H'→Q (.str w) H')→
   BG K cK 2 3 (fun ea=>au {aU K [("passed",fB qR (n_ CC CF))] [("InkError", .ref cK)] (ht:=[("_law_word",wk K cs cK)]) (E:=E) with E:=E0,hv:=some ea} [.ret (.yr 0 (.v 2))]) (Dn Q) (.ref D) none H1:=by
  intro D j w H1 hk hj hw hx q
  refine⟨hx,fun ea ob vs σ' lj hl oO=> ?_⟩
  have s1:=sameNew (o:= .bL ob mY) lj
  have he:ExcAt (upd H1 ea (.bL ob mY)) ea D:=⟨ob,vs,av,oO⟩
  refine⟨_,(by rw[List.getElem?_set_self (by omega)]),⟨ea,D,rfl,he⟩,ea,D,j,rfl,he,hk,hj,fun H2 s2=> ?_⟩
  rw[hw]
  exact q _ (s1.trans s2)
 refine⟨cK,rfl,_,rfl,_,rfl, ?_⟩
 rcases h with h | h
 ·exact .inl h
 ·refine .inr (ai8 (E:=Rw CC CF Q) ?_ h)
  rintro e o H1 s1 ⟨rfl,⟨rfl,q⟩ | ⟨rfl,q⟩⟩
  ·exact su CC 1 "change" H1 kC (by decide) rfl xC q
  ·exact su CF 2 "fit" H1 kF (by decide) rfl xF q
section
variable {CC CF:Addr} {H:Hp} {Q:VK} {E:XK}
theorem Rx{a b:Addr}{one other:List Pt}{l m n:List Nat}(h1:bY H a one l m)(h2:bY H b other l n)(hl:one.length+other.length≤30000)(ht:aG one+aG other≤100000)
  (q: ∀(t c d:Addr) (H':Hp) (ps qs:List Pt) (r:List Nat),ax H H'→H c=none→H d=none→H' t=some (.tup [.ref c, .ref d])→bY H' c ps n r→bY H' d qs m r→Passed one other ps qs l m n→Q (.ref t) H'):fX CC CF [.ref a, .ref b] H Q E:=
 ⟨_,_,rfl, .inl (ah6 h1 h2 hl ht q)⟩
theorem Fl{a b:Addr}{one other:List Pt}{l m l' r:List Nat}(h1:bY H a one l m)(h2:bY H b other l' r)(l1:one.length≤30000)(l2:other.length≤30000)(hz:l.length≠l'.length∨bF (ak one) (ak other))(q: ∀H',ax H H'→Q (.str "fit") H'):fX CC CF [.ref a, .ref b] H Q E:=by
 obtain⟨xs,a1,a2,a3⟩:=h1
 obtain⟨ys,b1,b2,b3⟩:=h2
 refine⟨_,_,rfl, .inr ⟨_,_,rfl, .inr ⟨a,xs,one,rfl,a1,a2,a3.ok,a3.ch,l1, .inr ⟨b,ys,other,rfl,b1,b2,b3.ok,b3.ch,l2,fun H1 s1=> ⟨rfl, .inr ⟨rfl,fun H2 s2=>q _ (s1.trans s2)⟩⟩, ?_⟩⟩⟩⟩
 rw[a3.run.over,b3.run.over]
 by_cases e:l.length=l'.length
 ·rcases hz with z | z
  ·exact absurd e z
  ·exact .inr ⟨by rw[e],z⟩
 ·exact .inl (by omega)
theorem ai_{va vb:V}(h:lY va H)(q: ∀H',ax H H'→Q (.str "change") H'):fX CC CF [va,vb] H Q E:=
 ⟨_,_,rfl, .inr ⟨_,_,rfl, .inl ⟨h,fun H1 s1=> ⟨rfl, .inl ⟨rfl,fun H2 s2=>q _ (s1.trans s2)⟩⟩⟩⟩⟩
theorem aja{a:Addr}{vb:V}{one:List Pt}{l m:List Nat}(h1:bY H a one l m)(l1:one.length≤30000)(h:lY vb H)(q: ∀H',ax H H'→Q (.str "change") H'):fX CC CF [.ref a,vb] H Q E:=by
 obtain⟨xs,a1,a2,a3⟩:=h1
 exact⟨_,_,rfl, .inr ⟨_,_,rfl, .inr ⟨a,xs,one,rfl,a1,a2,a3.ok,a3.ch,l1, .inl ⟨h,fun H1 s1=> ⟨rfl, .inl ⟨rfl,fun H2 s2=>q _ (s1.trans s2)⟩⟩⟩⟩⟩⟩
end
abbrev ajb:List (Str×Sp):=[("_law_gone",j_),("_law_both",xi),("_law_same",tQ),("_law_between",kh)]
def oj:Sp:=fun vs H Q E=> ∃(t a a1 a2 c d:Addr) (x0:List V) (R:List aq) (m n r:List Nat) (one other ps qs:List Pt),vs=[.ref t, .ref a, .ref a1, .ref a2]∧bw R m n one other∧H t=some (.tup [.ref c, .ref d])∧bY H c ps n r∧bY H d qs m r∧Passed one other ps qs (aK R) m n∧H a=some (.lst x0)∧bj H x0 R∧bY H a1 one (aK R) m∧bY H a2 other (aK R) n∧
 ∀H',ax H H'→Q (.bl true) H'
theorem ajc{K:PySem.W.Frag}(vs:List V)(H:Hp)(Q:VK)(E:XK)(h:oj vs H Q E):au (aU K ajb [] (E:=E)) DA (Dn Q) (start Dz vs) H:=by
 obtain⟨t,a,a1,a2,c,d,x0,R,m,n,r,one,other,ps,qs,rfl,S,ht,hc,hd,P,h0,v0,h1,h2,q⟩:=h
 obtain⟨ep,eq,bl,tt,tm⟩:=S.all P hc.chg hd.chg
 have lM:=S.Ao
 have lT:=S.Ap
 have bm:=S.lm
 have bn:=S.ln
 have lR:=S.lR
 have t1:=S.t1
 have t2:=S.t2
 have ls:=mq R
 obtain⟨x1,g1,p1,_⟩:=h1
 obtain⟨x2,g2,p2,_⟩:=h2
 refine bU (bN j_ rfl (ar (aC rfl (ar (aC rfl (ar (aX (aR ?_))))))))
 refine⟨a,a1,"one",x0,x1,R,one,aK R,m,rfl,h0,v0,g1,p1,S.c1.ok,S.c1.run,ls,by omega,by omega,fun b4 H4 x4 s4 f4 h4 v4=> ?_⟩
 refine bU (bN j_ rfl (ar (aC rfl (ar (aC rfl (ar (aX (aR ?_))))))))
 refine⟨a,a2,"other",x0,x2,R,other,aK R,n,rfl,s4 _ _ h0,v0.mono (aM s4),s4 _ _ g2,p2.mono (aM s4),S.c2.ok,S.c2.run,ls,by omega,by omega,fun b5 H5 x5 s5 f5 h5 v5=> ?_⟩
 have rD:=s4.trans s5
 refine bU (bN xi rfl (ar (aC rfl (ar (aC rfl (ar (aC rfl (ar (aC rfl (ar (aC rfl (aR ?_))))))))))))
 refine⟨a,a1,a2,b4,b5,x0,x1,x2,x4,x5,R,m,n,one,other,rfl,S,rD _ _ h0,v0.mono (aM rD),rD _ _ g1,p1.mono (aM rD),rD _ _ g2,p2.mono (aM rD),s5 _ _ h4,v4.mono (aM s5),h5,v5,bl,fun b6 H6 x6 s6 f6 h6 v6=> ?_⟩
 have oi:=rD.trans s6
 refine eW (Ql (zC (ahg (aC rfl (zf (oi _ _ ht) (iF ?_ rfl))))))
 refine Ql (eY (j5 (ar (aC rfl (aR (.inr ⟨_,aI.of (oi _ _ ht),aX (Qm ⟨_,rfl,iF ?_ rfl⟩)⟩))))))
 refine ahf (zC (Ea tQ rfl (ar (dE (aC rfl (aX (ka (oi _ _ ht) rfl ?_)))))))
 refine ar (bN kh rfl (ar (aC rfl (ar (aC rfl (aR ?_))))))
 refine⟨b5,b6,x5,x6,rT R other,rB R one other,rfl,s6 _ _ h5,v5.mono (aM s6),h6,v6,S.nT,by omega,bl,tt,fun e7 H7 y7 s7 f7 h7 w7=>aR ?_⟩
 have Ry:=oi.trans s7
 obtain⟨zc,c1,c2,_⟩:=hc.same Ry
 rw[ep] at c2
 refine⟨c,e7,zc,y7,_,rfl,c1,h7,c2,w7,fun H8 s8=>D_ (iF ?_ rfl)⟩
 have kj:=Ry.trans s8
 have Fm:=s7.trans s8
 refine j6 (bN tQ rfl (ar (dE (aC rfl (aX (ka (kj _ _ ht) rfl ?_))))))
 refine ar (bN kh rfl (ar (aC rfl (ar (aC rfl (aR ?_))))))
 have rE:=s6.trans Fm
 refine⟨b4,b6,x4,x6,rM R one,rB R one other,rfl,rE _ _ (s5 _ _ h4),(v4.mono (aM s5)).mono (aM rE),Fm _ _ h6,v6.mono (aM Fm),S.nM,by omega,bl,tm,fun e9 H9 y9 s9 f9 h9 w9=>aR ?_⟩
 obtain⟨zd,d1,d2,_⟩:=hd.same (kj.trans s9)
 rw[eq] at d2
 exact⟨d,e9,zd,y9,_,rfl,d1,h9,d2,w9,fun pb gi=>q _ ((kj.trans s9).trans gi)⟩
section
variable {R:List aq} {m n:List Nat} {one other:List Pt}
def eM(R:List aq)(other:List Pt)(nm:Str×Nat):List Pt:=fQ (eE (told nm R) (rT R other))
theorem bw.mo(S:bw R m n one other):cW R 0 (rT R other):=rg S.An _ _ _ _ (by have:=QW S.nd _ 0 rfl (Nat.zero_le _);rw[List.drop_zero] at this;exact this)
theorem bw.r2(S:bw R m n one other):(rT R other).map (dO R)=res 0 (ak other):=by
 have:=xa S.nd S.An (ak other) 0 0 (by rw[←S.o2];omega)
 rw[List.drop_zero] at this
 exact this
theorem bw.r1(S:bw R m n one other):(rM R one).map (dO R)=res 0 (ak one):=by
 have:=xa S.nd S.Am (ak one) 0 0 (by rw[←S.o1];omega)
 rw[List.drop_zero] at this
 exact this
theorem bw.eM(S:bw R m n one other)(nm:Str×Nat): ∃n',iY (dz.eM R other nm) (aK (told nm R)) n'∧res 0 (ak (dz.eM R other nm))=res 0 (ak other)∧n'.length=n.length∧(dz.eM R other nm).length≤15000∧B.aG (dz.eM R other nm)≤7000∧B.aG (eE (told nm R) (rT R other))≤100000:=by
 have h1:=S.Ap
 have h2:=S.ln
 have h3:=S.lR
 obtain⟨n',hc,hr⟩:=E7 (Ac (nm:=nm) S.mo) (Ad S.ok) S.rA (by rw[nY];omega) (by omega)
 have he:res 0 (ak (dz.eM R other nm))=res 0 (ak other):=by
  unfold dz.eM
  rw[hr,←S.r2]
  exact List.map_congr_left fun q _=>aii nm _ q
 have mi:=QU (O:=told nm R) (N:=rT R other) (Ad S.ok) S.rA (by rw[nY];omega)
 have ht:=Ab (Ac (nm:=nm) S.mo)
 rw[nY] at ht
 have htt:B.aG (dz.eM R other nm)≤6000:=by unfold dz.eM;rw[D9 _ mi];omega
 refine⟨n',hc,he, ?_, ?_,by omega,by omega⟩
 ·have:=congrArg List.length he
  have hc:iY (dz.eM R other nm) (aK (B.told nm R)) n':=hc
  rw[tP,tP,←tK _ _ hc.run.fits.1,←tK _ _ S.c2.run.fits.1,hc.run.fits.2,S.c2.run.fits.2] at this
  exact this
 ·have:=(Q7 _ _ hc.ch hc.ok).1
  unfold dz.eM at htt⊢
  omega
theorem bw.cutAt{xs:List At}{T:List aq}{nm:Str×Nat}{p:Nat}{q:aq}{l:List Nat}(hf:fit l xs)(hp:R[p]?=some q)(hq:aH q=nm)(hl:l.length=R.length)(hr:res 0 xs=T.map (dO R))(hn:nm∉T.map aH):B.cutAt xs p=l[p]?:=by
 have aP:p<R.length:=(List.getElem?_eq_some_iff.mp hp).1
 refine Af _ _ 0 p hf (by omega) ?_
 rw[hr,Nat.zero_add]
 intro hz
 obtain⟨q',oH,e⟩:=List.mem_map.mp hz
 cases hx:idx R q' with
 | none=>rw[w5 hx] at e;cases e
 | some j=>
  rw[q_ hx] at e
  injection e with e
  subst e
  obtain⟨hj,e3⟩:=QO hx
  have e4:R[j]=q:=by
   have:=List.getElem?_eq_getElem hj
   rw[hp] at this
   exact(Option.some.inj this).symm
  rw[e4,hq] at e3
  exact hn (by rw[e3];exact List.mem_map_of_mem oH)
theorem bw.aje(S:bw R m n one other){nm:Str×Nat}(hR:nm∈R.map aH)(hM:nm∉ (rM R one).map aH)(hT:nm∉ (rT R other).map aH):bF (ak one) (ak (dz.eM R other nm)):=by
 obtain⟨n',hc,hr,_⟩:=S.eM nm
 obtain⟨p,q,hp,hq⟩:=air hR
 have e1:=bw.cutAt (T:=rM R one) S.c1.run.fits.1 hp hq (mq R) S.r1.symm hM
 have e2:=bw.cutAt (T:=rT R other) hc.run.fits.1 hp hq (by rw[mq,nY]) (by rw[hr,S.r2]) hT
 have f1:(aK R)[p]?=some q.2.2:=by unfold aK;rw[List.getElem?_map,hp];rfl
 have f2:(aK (told nm R))[p]?=some (B.flip q.2.2):=by
  unfold aK told
  rw[List.map_map,List.getElem?_map,hp]
  show some (tell nm q).2.2=_
  unfold tell
  rw[if_pos hq]
 rw[f1] at e1
 rw[f2] at e2
 exact rq _ _ _ p _ _ (Nat.le_refl _) e1 e2 (aih _).symm
theorem bw.told(S:bw R m n one other){nm:Str×Nat}{n':List Nat}(bx:nm.1≠"one")(hM:nm∈ (rM R one).map aH)(hc:iY (dz.eM R other nm) (aK (B.told nm R)) n')(hl:n'.length=n.length)(h1:(dz.eM R other nm).length≤15000)(h2:B.aG (dz.eM R other nm)≤7000):
  bw (B.told nm R) (aK (B.told nm (rM R one))) n' one (dz.eM R other nm):=by
 have hf:=Ae bx (ak one) R 0 S.nd S.c1.run.fits.1 hM
 have gM:=s_ one _ (fun p hp=>sZ (S.c1.ok p hp)) hf
 rw[nX (who:="one") (ak one) _ 0,tU bx] at gM
 have tl:=nY nm R
 have tm:=nY nm (rM R one)
 have lM:=S.Ao
 have rF:=Ad (nm:=nm) S.ok
 have oh:=Ad (nm:=nm) S.oh
 refine⟨⟨S.c1.ok,S.c1.ch,gM⟩,hc,by rw[QY];exact S.nd, ?_,rF, ?_, ?_, ?_, ?_, ?_,S.n1,h1,S.t1,h2⟩
 ·intro q hq
  obtain⟨r,hr,rfl⟩:=List.mem_map.mp hq
  rw[QX];exact S.who r hr
 ·intro c eh
  obtain⟨r,hr,rfl⟩:=List.mem_map.mp eh
  exact oh r hr
 ·refine hc.run.good ?_ fun p hp=>zx (hc.ok p hp)
  intro c eh
  obtain⟨r,hr,rfl⟩:=List.mem_map.mp eh
  exact rF r hr
 ·have:=S.lR;omega
 ·have:=S.lm;rw[mq];omega
 ·have:=S.ln;omega
end
abbrev Rz(CC CF:Addr):List (Str×Sp):=[("_law_gone",j_),("_law_found",fX CC CF),("_law_between",kh),("_law_told_otherwise",tZ),("_law_right",oj)]
def xj:Sp:=fun vs H Q E=> ∃(a a1 a2:Addr) (c:Int) (x0:List V) (R:List aq) (m n:List Nat) (one other:List Pt),vs=[.ref a, .ref a1, .ref a2, .int c]∧bw R m n one other∧H a=some (.lst x0)∧bj H x0 R∧bY H a1 one (aK R) m∧bY H a2 other (aK R) n∧
 ∀H',ax H H'→Q (.bl true) H'
theorem ajf{K:PySem.W.Frag}{CC CF:Addr}(vs:List V)(H:Hp)(Q:VK)(E:XK)(h:xj vs H Q E):au (aU K (Rz CC CF) [] (E:=E)) DC (Dn Q) (start DB vs) H:=by
 obtain⟨a,a1,a2,c,x0,R,m,n,one,other,rfl,S,h0,v0,h1,h2,q⟩:=h
 have lM:=S.Ao
 have lT:=S.Ap
 have bm:=S.lm
 have bn:=S.ln
 have lR:=S.lR
 have t1:=S.t1
 have t2:=S.t2
 have n1:=S.n1
 have ls:=mq R
 have rF: ∀r∈R,fW (aH r):=fun q hq=>ub (.inl (S.who q hq))
 have rA: ∀nm∈ (rT R other).map aH,fW nm:=fun nm hn=>by
  obtain⟨q,hq,rfl⟩:=List.mem_map.mp hn
  exact ub ((S.wT q hq).imp_right .inr)
 have oh: ∀nm∈ (rM R one).map aH,fW nm:=fun nm hn=>by
  obtain⟨q,hq,rfl⟩:=List.mem_map.mp hn
  exact ub ((S.wM q hq).imp_right .inl)
 obtain⟨x1,g1,p1,k1⟩:=h1
 obtain⟨x2,g2,p2,k2⟩:=h2
 refine Cw (ais (bN j_ rfl (ar (aC rfl (ar (aC rfl (ar (aX (aR ?_)))))))))
 refine⟨a,a1,"one",x0,x1,R,one,aK R,m,rfl,h0,v0,g1,p1,S.c1.ok,S.c1.run,ls,by omega,by omega,fun b3 H3 x3 s3 f3 h3 v3=> ?_⟩
 refine Q4 (a:=b3) (R:=rM R one) (k:=0) rfl h3 v3 (by omega) fun d4 H4 y4 s4 f4 h4 n4=> ?_
 have rC:=s3.trans s4
 refine bU (bN j_ rfl (ar (aC rfl (ar (aC rfl (ar (aX (aR ?_))))))))
 refine⟨a,a2,"other",x0,x2,R,other,aK R,n,rfl,rC _ _ h0,v0.mono (aM rC),rC _ _ g2,p2.mono (aM rC),S.c2.ok,S.c2.run,ls,by omega,by omega,fun b5 H5 x5 s5 f5 h5 v5=> ?_⟩
 have qT:=rC.trans s5
 refine bU (Q4 (a:=b5) (R:=rT R other) (k:=5) rfl h5 v5 (by omega) fun d6 H6 y6 s6 f6 h6 n6=> ?_)
 have rG:=qT.trans s6
 refine Cw (aip (a:=a) (R:=R) (p5:=d6) (k:=0) (j:=6) rfl rfl (rG _ _ h0) (v0.mono (aM rG)) (by omega) h6 n6 rF rA fun d7 H7 y7 s7 f7 h7 n7=> ?_)
 have s37:=rG.trans s7
 generalize Ew:((R.map aH).filter fun nm=> !decide (nm∈ (rT R other).map aH))=cut at n7
 have RA: ∀nm∈cut,nm∈R.map aH∧nm∉ (rT R other).map aH:=by
  intro nm hn
  rw[←Ew] at hn
  obtain⟨i,j⟩:=List.mem_filter.mp hn
  exact⟨i,by simpa using j⟩
 have RB: ∀nm∈cut,fW nm:=fun nm hn=>by
  obtain⟨q,hq,rfl⟩:=List.mem_map.mp (RA nm hn).1
  exact rF q hq
 refine eW (eY (aC rfl (gN (aR ⟨Nat.zero_le _,fun e fe=> ?_⟩))))
 have s8:=sameNew (o:= .lst []) fe
 refine aim (s8 _ _ h7) av (n7.mono (aM s8)) RB ⟨_,rfl, ?_⟩
 have iE:=s37.trans s8
 by_cases hc:cut=[]
 ·rw[decide_eq_true hc]
  exact j6 (aX (q _ iE))
 rw[decide_eq_false hc]
 have hlc:=Paired.length n7
 have vj:0<cut.length:=List.length_pos_iff.mpr hc
 have Fn:=s8 _ _ h7
 have RC:=n7.mono (aM s8)
 have RD:=s7.trans s8
 have rE:=s6.trans RD
 have kj:=s5.trans rE
 generalize upd H7 e (.lst [])=H8 at s8 iE RD rE kj Fn RC⊢
 have j0:0≤c % (y7.length:Int):=Int.emod_nonneg _ (by omega)
 have j1:c % (y7.length:Int) <y7.length:=Int.emod_lt_of_pos _ (by omega)
 obtain⟨v,hv,ki⟩:=pick j0 j1
 obtain⟨k,hk⟩:=List.getElem?_of_mem hv
 obtain⟨nm,hnm,nv⟩:=gG.get RC hk
 have RF:nm∈cut:=List.mem_of_getElem? hnm
 obtain⟨hR,hT⟩:=RA nm RF
 have kJ:=RB nm RF
 refine bU (dE (aC rfl (fU (aC rfl (j5 (ar (aC rfl (aR (.inl ⟨y7,ao.of Fn,⟨(by show(0:Int) < (y7.length:Int);omega), ?_⟩⟩)))))))))
 refine .inl ⟨d7,y7,_,v,rfl,rfl,ao.of Fn,ki, ?_⟩
 obtain⟨w,rfl,hw⟩:=nv
 have nv:jF H8 (.ref w) nm:=⟨w,rfl,hw⟩
 obtain⟨n',Fo,rk,QG,ol,ot,bt⟩:=S.eM nm
 have tl:=nY nm R
 have nn:=S.nd
 rw[←QY nm] at nn
 refine bU (bN (fX CC CF) rfl (ar (aC rfl (ar (bN kh rfl (ar (bN tZ rfl (ar (aC rfl (ar (aC rfl (aR ?_))))))))))))
 refine⟨a,_,x0,R,nm,rfl,iE _ _ h0,v0.mono (aM iE),nv,by omega,rF,kJ,fun b9 H9 y9 s9 f9 h9 v9=> ?_⟩
 have RG:=rE.trans s9
 refine ar (aC rfl (aR ⟨b9,b5,y9,x5,told nm R,rT R other,rfl,h9,v9,RG _ _ h5,v5.mono (aM RG),nn,by omega,by omega,bt,fun xb pb y10 gi xk h10 p10=>aR ?_⟩))
 have uc:=(iE.trans s9).trans gi
 have co:bY pb xb (dz.eM R other nm) (aK (told nm R)) n':=⟨y10,h10,p10,Fo⟩
 have d1:bY pb a1 one (aK R) m:=⟨x1,uc _ _ g1,p1.mono (aM uc),k1⟩
 have o9: ∀{σ:St} {H':Hp} {QT:Bool→Hp→Prop},ax H8 H'→σ[8]?=some (some (.ref w))→σ[4]?=some (some (.ref d4))→QT (!decide (nm∈ (rM R one).map aH)) H'→bq (aU K (Rz CC CF) [] (E:=E)) (.oV (.v 8) (.v 4)) σ H' QT:=by
  intro σ H' QT s' e8 e4 hq
  have RH:=kj.trans s'
  refine⟨_,e8,_,e4,d4,y4,cA nm,((rM R one).map aH).map cA,rfl,ao.of (RH _ _ h4),tY (nv.mono (aM s')),Ag (n4.mono (aM RH)),nZ kJ,(by show 1≤60;decide),(fun d hd=>by obtain⟨b,hb,rfl⟩:=List.mem_map.mp hd;exact nZ (oh b hb)),_,rfl, ?_⟩
  rw[Q3,Bool.true_xor];exact hq
 by_cases hM:nm∈ (rM R one).map aH
 ·have bx:nm.1≠"one":=by
   obtain⟨q,hq,e⟩:=List.mem_map.mp hR
   rw[←e];exact S.Am q hq
  have S':=S.told bx hM Fo QG ol ot
  have RJ:bY pb a1 one (aK (told nm R)) (aK (told nm (rM R one))):=⟨x1,uc _ _ g1,p1.mono (aM uc),S'.c1⟩
  refine Rx RJ co (by omega) (by omega) fun t11 gE e11 H11 ps qs r11 ud xl Aq h11 ke nO P=> ?_
  have xm:=(s9.trans gi).trans ud
  refine eW (o9 xm rfl rfl (iF ?_ (by rw[decide_eq_true hM];rfl)))
  have Fp:=uc.trans ud
  refine bU (bN tZ rfl (ar (aC rfl (ar (aC rfl (aR ?_))))))
  refine⟨a,_,x0,R,nm,rfl,Fp _ _ h0,v0.mono (aM Fp),nv.mono (aM xm),by omega,rF,kJ,fun tV H12 RK eZ Ar RL RM=> ?_⟩
  have RN:=(rE.trans xm).trans eZ
  refine j6 (bN oj rfl (ar (aC rfl (ar (aC rfl (ar (aC rfl (ar (bN kh rfl (ar (aC rfl (ar (aC rfl (aR ?_))))))))))))))
  refine⟨tV,b5,RK,x5,told nm R,rT R other,rfl,RL,RM,RN _ _ h5,v5.mono (aM RN),nn,by omega,by omega,bt,fun b14 H14 y14 om As h14 p14=>aR ?_⟩
  have sE:=eZ.trans om
  exact⟨t11,tV,a1,b14,gE,e11,RK,told nm R,_,n',r11,one,_,ps,qs,rfl,S',sE _ _ h11,ke.same sE,nO.same sE,P,om _ _ RL,RM.mono (aM om),RJ.same (ud.trans sE),⟨y14,h14,p14,Fo⟩,fun H' s'=>q _ ((Fp.trans sE).trans s')⟩
 ·refine Fl d1 co (by omega) (by omega) (.inr (S.aje hR hM hT)) fun H11 ud=> ?_
  have xm:=(s9.trans gi).trans ud
  refine eW (o9 xm rfl rfl (iT ?_ (by rw[decide_eq_false hM];rfl)))
  refine j6 (vZ (aC rfl (aX (me ?_))))
  rw[beq_self_eq_true]
  exact q _ (uc.trans ud)
abbrev ue(K:PySem.W.Frag)(CC CF:Addr):List (Str×Sp):=[("_law_text",qy),("_law_cell_at",vL K),("_law_size",vX),("_law_change",nE),("_law_named",wo),("_law_found",fX CC CF),("_law_right",oj),("_law_mixed",lO),("_law_cut_otherwise",xj)]
def Au(K:PySem.W.Frag):Sp:=fun vs H Q E=> ∃(a:Addr) (ns:List Int),vs=[.ref a]∧ao K H a (ns.map V.int)∧ ∀H',Q (.bl true) H'
theorem aju{Γ:aJ}{σ:St}{H:Hp}{Q:VK}{a b:RE}(h:ag Γ a σ H fun x H1=> ∃c,x= .bl c∧if c=true then ag Γ b σ H1 Q else Q (.bl false) H1):ag Γ (.and [a,b]) σ H Q:=h
theorem RO{K:PySem.W.Frag}{H:Hp}{Q:VK}{x:Str}(q:Q (.bl false) H):dr K .NotEq (.str x) (.str x) H Q:=by
 refine wB ?_
 rw[show(x !=x)=false by simp];exact q
theorem RP{K:PySem.W.Frag}{H:Hp}{Q:VK}{x:Str}(q:Q (.bl true) H):dr K .Eq (.str x) (.str x) H Q:=by
 refine me ?_
 rw[show(x==x)=true by simp];exact q
theorem uf(i:Int):0≤i % 9∧i % 9≤100:=⟨Int.emod_nonneg _ (by decide),by have:=Int.emod_lt_of_pos i (show(0:Int) <9 by decide);omega⟩
theorem Fq:bp (.put "a")∧bp (.put "b"):=by
 refine⟨⟨⟨by decide, ?_⟩,by decide⟩,⟨by decide, ?_⟩,by decide⟩
 ·intro c hc
  have:c∈ [97]:=hc
  rw[List.mem_singleton.mp this];decide+kernel
 ·intro c hc
  have:c∈ [98]:=hc
  rw[List.mem_singleton.mp this];decide+kernel
theorem ajv{K:PySem.W.Frag}{H:Hp}{a b a1 a2 b1 b2:Addr}{p q:List Pt}{l m r l' m' r' s s':List Nat}{Q:VK}(ha:H a=some (.lst [.ref a1, .ref a2]))(hb:H b=some (.lst [.ref b1, .ref b2]))(h1:bY H a1 p l m)(h2:bY H a2 q m' r)(h3:bY H b1 p l' s)(h4:bY H b2 q s' r')(k:Q (.bl false) H):
  dr K .NotEq (.ref a) (.ref b) H Q:=by
 obtain⟨x1,x2,x3,x4⟩:=h1
 obtain⟨y1,y2,y3,y4⟩:=h2
 obtain⟨z1,z2,z3,z4⟩:=h3
 obtain⟨w1,w2,w3,w4⟩:=h4
 have o1: ∀t∈p,sY t:=fun t ht=>zx (x4.ok t ht)
 have o2: ∀t∈q,sY t:=fun t ht=>zx (y4.ok t ht)
 have sh:SeqAt.shaped (.list [.list (p.map toD), .list (q.map toD)])=true:=by
  obtain⟨c1,d1⟩:=DZ p o1
  obtain⟨c2,d2⟩:=DZ q o2
  unfold SeqAt.shaped
  have e:(PyData.list [.list (p.map toD), .list (q.map toD)]).canLay0=true:=by
   show((PyData.canLayAll0 (p.map toD)) && ((PyData.canLayAll0 (q.map toD)) && true))=true
   rw[c1,c2];rfl
  have e2:(PyData.list [.list (p.map toD), .list (q.map toD)]).depth≤64:=by
   show max (PyData.depthAll (p.map toD)+1) (max (PyData.depthAll (q.map toD)+1) 0)+1≤64
   omega
  rw[e,decide_eq_true e2];rfl
 refine⟨.list [.list (p.map toD), .list (q.map toD)], .list [.list (p.map toD), .list (q.map toD)],⟨a,_,rfl,ha,_,_,rfl,⟨a1,x1,rfl,x2,vW x3⟩,_,_,rfl,⟨a2,y1,rfl,y2,vW y3⟩,rfl⟩,⟨b,_,rfl,hb,_,_,rfl,⟨b1,z1,rfl,z2,vW z3⟩,_,_,rfl,⟨b2,w1,rfl,w2,vW w3⟩,rfl⟩,sh,sh, ?_⟩
 rw[SeqAt.eqv_refl _ (SeqAt.canLay_of_shaped sh)]
 exact k
section
variable {K:PySem.W.Frag} {CC CF a:Addr} {ns:List Int} {Q:VK} {E:XK}
theorem mr{H:Hp}{σ:St}{Q':VK}(ha:ao K H a (ns.map V.int))(i:Int)(e0:σ[0]?=some (some (.ref a)))(hi:0≤i)(q:Q' (.int (cell ns i.toNat)) H):ag (aU K (ue K CC CF) [] (E:=E)) (.call 1 [(.v 0),(.c (.int i))]) σ H Q':=
 bN (vL K) rfl (ar (aC e0 (ar (aX (aR ⟨a,ns,i,rfl,ha,hi,q⟩)))))
variable (k: ∀H',Q (.bl true) H')
include k
theorem ajw(b2 b4:Addr)(one:List Pt)(l m:List Nat)(c:Int)(H:Hp)(u1 u4 u5 u6 u7 u9:Option V)(c2:bY H b2 one l m)(n1:one.length≤305):
  au (aU K (ue K CC CF) [] (E:=E)) (cN.drop 10) (Dn Q) [some (.ref a),u1,some (.ref b2),some (.ref b4),u4,u5,u6,u7,some (.int c),u9,none] H:=by
 refine bU (dE (gN (ar (gN (ar (iq (ar (aX (ar (aX (aR ⟨(by show 2≤sizeLine;decide),fun t1 f1=>aR ⟨(by show 1≤sizeLine;decide),fun l1 g1=> ?_⟩⟩)))))))))))
 refine ar (aX (ar (aX (ar (gN (ar (iq (ar (aX (ar (aX (aR ⟨(by show 2≤sizeLine;decide),fun t2 f2=> ?_⟩))))))))))))
 refine ar (iq (ar (aX (ar (aX (aR ⟨(by show 2≤sizeLine;decide),fun t3 f3=>aR ⟨(by show 2≤sizeLine;decide),fun l2 g2=>aR ⟨(by show 4≤sizeLine;decide),fun l3 g3=> ?_⟩⟩⟩))))))
 have s1:=sameNew (o:= .tup [V.str "keep",V.int 0]) f1
 have s2:=sameNew (o:= .lst [V.ref t1]) g1
 have s3:=sameNew (o:= .tup [V.str "put",V.str "a"]) f2
 have s4:=sameNew (o:= .tup [V.str "put",V.str "b"]) f3
 have s5:=sameNew (o:= .lst [V.ref t2,V.ref t3]) g2
 have s6:=sameNew (o:= .lst [V.ref l1,V.aw,V.str "keep",V.ref l2]) g3
 have e1:=s6 _ _ (s5 _ _ (s4 _ _ (s3 _ _ (s2 _ _ (av (H:=H) (a:=t1) (o:= .tup [V.str "keep",V.int 0]))))))
 have e2:=s6 _ _ (s5 _ _ (s4 _ _ (s3 _ _ (av (a:=l1) (o:= .lst [V.ref t1])))))
 have e3:=s6 _ _ (s5 _ _ (s4 _ _ (av (a:=t2) (o:= .tup [V.str "put",V.str "a"]))))
 have e4:=s6 _ _ (s5 _ _ (av (a:=t3) (o:= .tup [V.str "put",V.str "b"])))
 have e5:=s6 _ _ (av (a:=l2) (o:= .lst [V.ref t2,V.ref t3]))
 have Fs:=((((s1.trans s2).trans s3).trans s4).trans s5).trans s6
 generalize hits:[V.ref l1,V.aw,V.str "keep",V.ref l2]=its at e1 e2 e3 e4 e5 Fs⊢
 have e6:=av (H:=upd (upd (upd (upd (upd H t1 (.tup [V.str "keep",V.int 0])) l1 (.lst [V.ref t1])) t2 (.tup [V.str "put",V.str "a"])) t3 (.tup [V.str "put",V.str "b"])) l2 (.lst [V.ref t2,V.ref t3])) (a:=l3) (o:= .lst its)
 generalize upd (upd (upd (upd (upd (upd H t1 (.tup [V.str "keep",V.int 0])) l1 (.lst [V.ref t1])) t2 (.tup [V.str "put",V.str "a"])) t3 (.tup [V.str "put",V.str "b"])) l2 (.lst [V.ref t2,V.ref t3])) l3 (.lst its)=H6 at e1 e2 e3 e4 e5 e6 Fs⊢
 have hit:its.length=4:=by rw[←hits];rfl
 have ajx: ∀v∈its,lY v H6:=by
  intro v hv
  rw[←hits] at hv
  simp only[List.mem_cons,List.not_mem_nil,or_false] at hv
  rcases hv with rfl | rfl | rfl | rfl
  ·exact .inr ⟨l1,_,rfl,e2,[], .ref t1,[],[],rfl, .nil,(fun p hp=>by cases hp),rfl, .inl (.inr ⟨t1,_,rfl,e1,(by show 2≤1000000;decide), .inr ⟨_,_,rfl, .inr (.inr (.inl ⟨rfl, .inr ⟨0,rfl,by decide⟩⟩))⟩⟩)⟩
  ·exact .inl rfl
  ·exact .inl rfl
  ·refine .inr ⟨l2,_,rfl,e5,[.ref t2], .ref t3,[],[.put "a"],rfl, .cons ⟨t2,rfl,e3⟩ .nil,(fun p hp=>by rw[List.mem_singleton.mp hp];exact Fq.1),(by decide), .inr ⟨.put "b",⟨t3,rfl,e4⟩,Fq.2,(by decide)⟩⟩
 obtain⟨v,hv,ki⟩:=pick (its:=its) (j:=c % 4) (Int.emod_nonneg _ (by decide)) (by rw[hit];exact Int.emod_lt_of_pos _ (by decide))
 refine fU (aC rfl (aX ⟨(by show(0:Int) <4;decide), .inl ⟨l3,its,_,v,rfl,rfl,ao.of e6,ki, ?_⟩⟩))
 have hb:=ajx v hv
 refine j6 (aju (vZ (bN (fX CC CF) rfl (ar (aC rfl (ar (aC rfl (aR (ai_ hb fun H7 s7=>aX (RP ⟨_,rfl,fk ?_⟩))))))))))
 refine vZ (bN (fX CC CF) rfl (ar (aC rfl (ar (aC rfl (aR (aja (c2.same (Fs.trans s7)) (by omega) ?_ fun H8 s8=>aX (RP (k _)))))))))
 rcases hb with h | ⟨a',xs,e,h1,h2⟩
 ·exact .inl (h.same s7)
 ·exact .inr ⟨a',xs,e,s7 _ _ h1,h2.same s7⟩
theorem ajy(x:Str)(b2 b3:Addr)(one other:List Pt)(m n:List Nat)(c:Int)(H:Hp)(u4 u5 u6 u7:Option V)(ha:ao K H a (ns.map V.int))(hx:good x)(j4:x.length≤400)(c2:bY H b2 one x.cps.toList m)(c3:bY H b3 other x.cps.toList n)(n1:one.length≤305)(n2:other.length≤305):
  au (aU K (ue K CC CF) [] (E:=E)) (cN.drop 8) (Dn Q) [some (.ref a),some (.str x),some (.ref b2),some (.ref b3),u4,u5,u6,u7,some (.int c),none,none] H:=by
 have lx:=len_list x
 have la:(Str.ofString "a").length=1:=rfl
 have ga:good (x++Str.ofString "a"):=agV hx Fq.1.1 (by omega)
 refine bU (bN nE rfl (ar (mr ha 5 rfl (by decide) (ar (fU (aC rfl (aX ⟨cz (by omega), ?_⟩)))))))
 refine ar (fU (mr ha 4 rfl (by decide) (aX ⟨(by show(0:Int) <9;decide),aR ?_⟩)))
 refine ET ga (by rw[ip];omega) (uf _).1 (uf _).2 fun b9 H1 lon r1 s1 f1 ke l1 t1 g1 lr1=> ?_
 rw[app_list] at ke
 have bx:x.cps.toList.length≠ (x.cps.toList++ (Str.ofString "a").cps.toList).length:=by rw[List.length_append];show x.cps.toList.length≠x.cps.toList.length+1;omega
 refine eW (Pn (eY (bN (fX CC CF) rfl (ar (aC rfl (ar (aC rfl (aR ?_))))))))
 refine Fl (c2.same s1) ke (by omega) (by omega) (.inl bx) fun H4 s4=>aX (RO ⟨_,rfl,iF ?_ rfl⟩)
 have om:=s1.trans s4
 refine eY (bN (fX CC CF) rfl (ar (aC rfl (ar (aC rfl (aR ?_))))))
 refine Fl (ke.same s4) (c3.same om) (by omega) (by omega) (.inl bx.symm) fun H5 s5=>aX (RO ⟨_,rfl,iF ?_ rfl⟩)
 exact ajw k b2 b3 one _ m c H5 _ _ _ _ _ _ (c2.same (om.trans s5)) n1
theorem ajz(x:Str)(b2 b3 b4:Addr)(x4:List V)(R:List aq)(one other:List Pt)(m n:List Nat)(H:Hp)(u5 u6 u7:Option V)(ha:ao K H a (ns.map V.int))(hx:good x)(j4:x.length≤400)(S:bw R m n one other)(eR:aK R=x.cps.toList)(n2:other.length≤305)(c2:bY H b2 one (aK R) m)(c3:bY H b3 other (aK R) n)
  (h4:H b4=some (.lst x4)) (v4:bj H x4 R):
  au (aU K (ue K CC CF) [] (E:=E)) (cN.drop 6) (Dn Q) [some (.ref a),some (.str x),some (.ref b2),some (.ref b3),some (.ref b4),u5,u6,u7,none,none,none] H:=by
 refine bU (bN lO rfl (ar (mr ha 6 rfl (by decide) (ar (aX (aR ⟨_,_,rfl, ?_⟩))))))
 refine eW (zC (Ea xj rfl (ar (aC rfl (ar (aC rfl (ar (aC rfl (ar (fU (aC rfl (aX ⟨⟨by decide,by decide⟩,aR ?_⟩))))))))))))
 refine⟨b4,b2,b3,_,x4,R,m,n,one,other,rfl,S,h4,v4,c2,c3,fun H1 s1=>D_ (iF ?_ rfl)⟩
 have d2:=c2.same s1
 have d3:=c3.same s1
 rw[eR] at d2 d3
 exact ajy k x b2 b3 one other m n _ H1 _ _ _ _ (s1.seq ha) hx j4 d2 d3 S.n1 n2
theorem ajA(x:Str)(b2 b3 b4 b5 p5 q5:Addr)(x4:List V)(R:List aq)(one other:List Pt)(m n:List Nat)(H:Hp)(ha:ao K H a (ns.map V.int))(hx:good x)(j4:x.length≤400)(S:bw R m n one other)(eR:aK R=x.cps.toList)(n2:other.length≤305)(c2:bY H b2 one (aK R) m)(c3:bY H b3 other (aK R) n)
  (h4:H b4=some (.lst x4)) (v4:bj H x4 R) (h5:H b5=some (.lst [.ref p5, .ref q5])) (cp:bY H p5 one (aK R) m) (cq:bY H q5 other (aK R) n):
  au (aU K (ue K CC CF) [] (E:=E)) (cN.drop 5) (Dn Q) [some (.ref a),some (.str x),some (.ref b2),some (.ref b3),some (.ref b4),some (.ref b5),none,none,none,none,none] H:=by
 have n1:=S.n1
 have t1:=S.t1
 have t2:=S.t2
 refine⟨2,rfl,by decide,by decide,xO (lo:=0) (n:=2) (fun i σ H2=> ∃u6 u7:Option V,σ=[some (.ref a),some (.str x),some (.ref b2),some (.ref b3),some (.ref b4),some (.ref b5),u6,u7,none,none,none]∧ax H H2) ⟨_,_,rfl,ax.refl _⟩ ?_ ?_⟩
 ·rintro i σ H2 hi ⟨u6,u7,rfl,s2⟩
  refine bU (bN (fX CC CF) rfl (ar (dE (aC rfl (aX (.inl ⟨b5,_,_, .ref p5,rfl,rfl,ao.of (s2 _ _ h5),rfl, ?_⟩))))))
  refine ar (dE (aC rfl (aX (.inl ⟨b5,_,_, .ref q5,rfl,rfl,ao.of (s2 _ _ h5),rfl,aR ?_⟩))))
  refine Rx (cp.same s2) (cq.same s2) (by omega) (by omega) fun t c d H3 ps qs r s3 f3 g3 ht ke nO P=> ?_
  have xn:=s2.trans s3
  have pl:=P.nP
  have ql:=P.nQ
  refine eW (Pn (zC (Ea oj rfl (ar (aC rfl (ar (aC rfl (ar (aC rfl (ar (aC rfl (aR ?_))))))))))))
  refine⟨t,b4,b2,b3,c,d,x4,R,m,n,r,one,other,ps,qs,rfl,S,ht,ke,nO,P,xn _ _ h4,v4.mono (aM xn),c2.same xn,c3.same xn,fun H5 s5=>D_ (iF ?_ rfl)⟩
  have nH:=xn.trans s5
  refine eY (aC rfl (gN (ar (aC rfl (ar (aC rfl (aR ⟨(by show 2≤sizeLine;decide),fun g fg=> ?_⟩)))))))
  have s6:=sameNew (o:= .lst [V.ref b2,V.ref b3]) fg
  have rH:=nH.trans s6
  refine ajv (rH _ _ h5) av (cp.same rH) (cq.same rH) (c2.same rH) (c3.same rH) ⟨_,rfl,iF ?_ rfl⟩
  generalize upd H5 g (.lst [V.ref b2,V.ref b3])=H6 at s6 rH⊢
  have rG:=s5.trans s6
  obtain⟨zs,z1,z2,_⟩:=ke
  obtain⟨ws,w1,w2,_⟩:=nO
  have lz:=Paired.length z2
  have lw:=Paired.length w2
  have z6:=rG _ _ z1
  have w6:=rG _ _ w1
  have t6:=rG _ _ ht
  have fc:H c=none:=s2.free f3
  have fd:H d=none:=s2.free g3
  refine ir (qM (dE (aC rfl (aX (ka t6 rfl ⟨.inl ⟨rfl,_,ao.of z6⟩, ?_⟩)))))
  refine iq (ar (aX (ar (aX (aR ⟨(by show 2≤sizeLine;decide),fun t7 f7=> ?_⟩)))))
  have s7:=sameNew (o:= .tup [V.str "keep",V.int 1]) f7
  refine⟨zs,s7 _ _ z6,cY (by omega), ?_⟩
  have w7:=s7 _ _ w6
  have Ft:=s7 _ _ t6
  have RQ:=rH.trans s7
  have z7:=s7 _ _ z6
  generalize upd H6 t7 (.tup [V.str "keep",V.int 1])=H7 at s7 RQ w7 Ft z7⊢
  have RT:ax H (upd H7 c (.lst (zs++ [V.ref t7]))):=fun b o hb=>by rw[aD (aW hb fc)];exact RQ _ _ hb
  have t8:upd H7 c (.lst (zs++ [V.ref t7])) t=some (.tup [.ref c, .ref d]):=by rw[aD (bC Ft z7 (by intro z;cases z))];exact Ft
  obtain⟨Av,Fu,lw'⟩: ∃Av,upd H7 c (.lst (zs++ [V.ref t7])) d=some (.lst Av)∧Av.length≤100000:=by
   by_cases fH:d=c
   ·exact⟨_,by rw[fH,av],by rw[List.length_append];show zs.length+1≤_;omega⟩
   ·exact⟨ws,by rw[aD fH];exact w7,by omega⟩
  generalize upd H7 c (.lst (zs++ [V.ref t7]))=H8 at RT t8 Fu⊢
  refine ir (qM (dE (aC rfl (aX (ka t8 rfl ⟨.inl ⟨rfl,_,ao.of Fu⟩, ?_⟩)))))
  refine iq (ar (aX (ar (aX (aR ⟨(by show 2≤sizeLine;decide),fun t9 f9=> ?_⟩)))))
  have s9:=sameNew (o:= .tup [V.str "keep",V.int 1]) f9
  refine⟨Av,s9 _ _ Fu,cY (by omega), ?_⟩
  refine⟨_,_,rfl,fun b o hb=> ?_⟩
  rw[aD (aW hb fd)]
  exact s9 _ _ (RT _ _ hb)
 ·rintro σ H2 ⟨u6,u7,rfl,s2⟩
  exact ajz k x b2 b3 b4 x4 R one other m n H2 _ _ _ (s2.seq ha) hx j4 S eR n2 (c2.same s2) (c3.same s2) (s2 _ _ h4) (v4.mono (aM s2))
end
theorem ajB{K:PySem.W.Frag}{CC CF:Addr}(vs:List V)(H:Hp)(Q:VK)(E:XK)(h:Au K vs H Q E):au (aU K (ue K CC CF) [] (E:=E)) cN (Dn Q) (start gz vs) H:=by
 obtain⟨a,ns,rfl,ha,k⟩:=h
 refine bU (bN qy rfl (ar (mr ha 1 rfl (by decide) (ar (fU (bN vX rfl (ar (mr ha 0 rfl (by decide) (aR ⟨_,rfl,fun n0 sQ gh=>aX ⟨(by show(0:Int) <200;decide),aR ?_⟩⟩)))))))))
 have e0:0≤n0 % 200:=Int.emod_nonneg _ (by decide)
 have e1:n0 % 200<200:=Int.emod_lt_of_pos _ (by decide)
 refine⟨_,n0 % 200,rfl,e0,by omega,fun x H1 hx j4 s1=> ?_⟩
 have lx:=len_list x
 have hx4:x.length≤400:=by omega
 refine bU (bN nE rfl (ar (mr (s1.seq ha) 3 rfl (by decide) (ar (aC rfl (ar (fU (mr (s1.seq ha) 2 rfl (by decide) (aX ⟨(by show(0:Int) <9;decide),aR ?_⟩)))))))))
 refine ET hx (by omega) (uf _).1 (uf _).2 fun b2 H2 one m s2 f2 nO l2 t2 gm lm=> ?_
 have eZ:=s1.trans s2
 refine bU (bN nE rfl (ar (mr (eZ.seq ha) 5 rfl (by decide) (ar (aC rfl (ar (fU (mr (eZ.seq ha) 4 rfl (by decide) (aX ⟨(by show(0:Int) <9;decide),aR ?_⟩)))))))))
 refine ET hx (by omega) (uf _).1 (uf _).2 fun b3 H3 other n s3 f3 ch3 l3 t3 gn ln=> ?_
 have gT:=eZ.trans s3
 refine bU (bN wo rfl (ar (aC rfl (aR ⟨x,rfl,by omega,fun b4 H4 x4 s4 f4 h4 v4=> ?_⟩))))
 have om:=gT.trans s4
 have c2:=nO.same (s3.trans s4)
 have c3:=ch3.same s4
 generalize hR:d_ "old" 0 x.cps.toList=R at v4
 have eR:aK R=x.cps.toList:=by rw[←hR];exact Q5 _ _ _
 have lR:R.length=x.cps.toList.length:=by rw[←hR];exact qK _ _ _
 rw[←eR] at c2 c3
 have S:bw R m n one other:=⟨c2.chg,c3.chg,by rw[←hR];exact names_nodup _ _ _,fun q hq=>by rw[←hR] at hq;exact(Fd _ _ _ q hq).1,Fe eR hx.2,gm.2,gn.2,by omega,by omega,by omega,l2,by omega,t2,by omega⟩
 obtain⟨w2,i2,j2,k2⟩:=c2
 obtain⟨w3,i3,j3,k3⟩:=c3
 refine bU (gN (ar (j5 (ar (aC rfl (aR ⟨w2, .inl (ao.of i2),fun p5 fp=> ?_⟩))))))
 have s8:=sameNew (o:= .lst w2) fp
 refine ar (j5 (ar (aC rfl (aR ⟨w3, .inl (ao.of (s8 _ _ i3)),fun q5 fq=>aR ⟨(by show 2≤sizeLine;decide),fun b5 fb=> ?_⟩⟩))))
 have s9:=sameNew (o:= .lst w3) fq
 have gi:=sameNew (o:= .lst [V.ref p5,V.ref q5]) fb
 have mv:=s8.trans (s9.trans gi)
 have cp:bY (upd (upd (upd H4 p5 (.lst w2)) q5 (.lst w3)) b5 (.lst [V.ref p5,V.ref q5])) p5 one (aK R) m:=⟨w2,gi _ _ (s9 _ _ av),j2.mono (aM mv),k2⟩
 have cq:bY (upd (upd (upd H4 p5 (.lst w2)) q5 (.lst w3)) b5 (.lst [V.ref p5,V.ref q5])) q5 other (aK R) n:=⟨w3,gi _ _ av,j3.mono (aM mv),k3⟩
 exact ajA k x b2 b3 b4 b5 p5 q5 x4 R one other m n _ ((om.trans mv).seq ha) hx hx4 S eR l3 ⟨w2,mv _ _ i2,j2.mono (aM mv),k2⟩ ⟨w3,mv _ _ i3,j3.mono (aM mv),k3⟩ (mv _ _ h4) (v4.mono (aM mv)) av cp cq
end L2.dz
namespace L2.dz
open PySem PySem.Spec PyProof.Rows L2.B
theorem all_mk{l:PySem.W.OpenLaw}{w:World}{K:PySem.W.Frag}{h:Heap}{mg:Str→Option Value}{fa f0 f1 f2 f3 f4 f5 f6 f7 f8 f9 xk xl Aq Ar As Fv Fw Fx Fy Fz FA FC FD FE FF FG FH FI FJ FK FL FN FO FP FQ FR FT FU:Addr}{bG:Addr}{i0:Addr}{mw:Addr}{bO:Addr}{bP:Addr}{mx:Addr}{my:Addr}{mz:Addr}{mB:Addr}{mD:Addr}{mE:Addr}{mF:Addr}{mG:Addr}{mH:Addr}{mI:Addr}(X:K.In h)(G:h.Ns mainGlobals mg)(hfa:mg "law"=some (.ref fa))
  {od0 an0:Option Addr} {sl0:Array (Option Value)} {oc0 kV0 dc0 pm0 RU ct0:Value}
  {od1 an1:Option Addr} {sl1:Array (Option Value)} {oc1 kV1 dc1 pm1 RV ct1:Value}
  {od2 an2:Option Addr} {oI:Array (Option Value)} {oc2 kV2 dc2 pm2 RW ct2:Value}
  {od3 an3:Option Addr} {vi:Array (Option Value)} {oc3 kV3 dc3 pm3 RX ct3:Value}
  {od4 an4:Option Addr} {sl4:Array (Option Value)} {oc4 kV4 dc4 pm4 RY ct4:Value}
  {od5 an5:Option Addr} {sl5:Array (Option Value)} {oc5 kV5 dc5 pm5 RZ ct5:Value}
  {od6 an6:Option Addr} {sl6:Array (Option Value)} {oc6 kV6 dc6 pm6 R0 ct6:Value}
  {od7 an7:Option Addr} {sl7:Array (Option Value)} {oc7 kV7 dc7 pm7 R1 ct7:Value}
  {od8 an8:Option Addr} {sl8:Array (Option Value)} {oc8 kV8 dc8 pm8 R3 ct8:Value}
  {od9 an9:Option Addr} {sl9:Array (Option Value)} {oc9 kV9 dc9 pm9 R4 ct9:Value}
  {akU akV:Option Addr} {akW:Array (Option Value)} {akX akY akZ ak0 R5 ak1:Value}
  {ak2 ak3:Option Addr} {ak4:Array (Option Value)} {ak5 ak6 ak7 ak8 R6 ak9:Value}
  {ak_ ala:Option Addr} {alb:Array (Option Value)} {alc ald ale alf R7 alg:Value}
  {alh ali:Option Addr} {alj:Array (Option Value)} {alk alm aln alo R8 alp:Value}
  {alq alr:Option Addr} {als:Array (Option Value)} {alu alv alw alx R9 aly:Value}
  {alz alA:Option Addr} {alB:Array (Option Value)} {alC alD alE alF R_ alG:Value}
  {alH alI:Option Addr} {alJ:Array (Option Value)} {alK alL alM alN Sa alO:Value}
  {alP alQ:Option Addr} {alR:Array (Option Value)} {alS alT alU alV Sb alW:Value}
  {alX alY:Option Addr} {alZ:Array (Option Value)} {al0 al1 al2 al4 Sd al5:Value}
  {al6 al7:Option Addr} {al8:Array (Option Value)} {al9 al_ ama amb Se amc:Value}
  {amd ame:Option Addr} {amf:Array (Option Value)} {amg amh ami amj Sf amk:Value}
  {aml amm:Option Addr} {amn:Array (Option Value)} {amo amq amr ams Sh amt:Value}
  {amu amv:Option Addr} {amw:Array (Option Value)} {amx amy amz amA Si amB:Value}
  {amC amD:Option Addr} {amE:Array (Option Value)} {amF amG amH amI Sj amJ:Value}
  {amK amL:Option Addr} {amM:Array (Option Value)} {amN amO amP amQ Sk amR:Value}
  {amS amT:Option Addr} {amU:Array (Option Value)} {amV amW amX amY Sl amZ:Value}
  {am0 am1:Option Addr} {am2:Array (Option Value)} {am3 am4 am5 am6 Sm am7:Value}
  {am8 am9:Option Addr} {am_:Array (Option Value)} {ana anb anc ane Sn anf:Value}
  {ang anh:Option Addr} {ani:Array (Option Value)} {anj ank anl anm So ano:Value}
  {anp anq:Option Addr} {anr:Array (Option Value)} {ant anu anv anw Sq anx:Value}
  {anz anA:Option Addr} {anB:Array (Option Value)} {anC anD anE anF Sr anG:Value}
  {anH anI:Option Addr} {anJ:Array (Option Value)} {anK anL anM anN Ss anO:Value}
  {anP anQ:Option Addr} {anR:Array (Option Value)} {anS anT anU anV Su anW:Value}
  {anY anZ:Option Addr} {an_:Array (Option Value)} {aoa aob aoc aod Sv aoe:Value}
  {aof aog:Option Addr} {aoh:Array (Option Value)} {aoi aoj aok aol Sw aom:Value}
  {aon aoo:Option Addr} {aop:Array (Option Value)} {aoq aor aos aot Sx aou:Value}
  {aov aow:Option Addr} {aox:Array (Option Value)} {aoy aoz aoA aoB Sy aoC:Value}
  {aoD Sz:Option Addr} {aoE:Array (Option Value)} {aoF SA SD SE FV SF:Value}
  {aoG:Tok}
  (FW:PySem.W.nsIn K mainGlobals "Walk"=some (some (.ref bG)))
  (FX:plainGet K bG Str.empty=true)
  (FY:hasDictIn K bG=true)
  (FZ:plainOver K bG=true)
  (F_:PySem.W.findIn K (.ref bG) "__setattr__"=some (some (.builtin "object.__setattr__")))
  (Ga:makesIn K bG=true)
  (Gb:keepIn K (.ref bG)=true)
  (Gd:PySem.W.findIn K (.ref bG) "parts"=some none)
  (Ge:PySem.W.findIn K (.ref bG) "passed_by"=some none)
  (Gf:PySem.W.findIn K (.ref bG) "offset"=some none)
  (Gg:PySem.W.nsIn K mainGlobals "InkError"=some (some (.ref i0)))
  (Gh:PySem.W.nsIn K mainGlobals "BadText"=some (some (.ref mw)))
  (Aw:PySem.W.nsIn K mainGlobals "BadChange"=some (some (.ref bO)))
  (Ax:PySem.W.nsIn K mainGlobals "BadFit"=some (some (.ref bP)))
  (Gi:PySem.W.nsIn K mainGlobals "NoPlace"=some (some (.ref mx)))
  (Gj:PySem.W.nsIn K mainGlobals "BadSide"=some (some (.ref my)))
  (Gk:PySem.W.nsIn K mainGlobals "NoMark"=some (some (.ref mz)))
  (Gm:PySem.W.nsIn K mainGlobals "NoNode"=some (some (.ref mB)))
  (Gn:PySem.W.nsIn K mainGlobals "NoCursor"=some (some (.ref mD)))
  (Gp:PySem.W.nsIn K mainGlobals "BadDeed"=some (some (.ref mE)))
  (Gq:PySem.W.nsIn K mainGlobals "BadLetter"=some (some (.ref mF)))
  (Gr:PySem.W.nsIn K mainGlobals "NoLetter"=some (some (.ref mG)))
  (Gs:PySem.W.nsIn K mainGlobals "NoHand"=some (some (.ref mH)))
  (Gu:PySem.W.nsIn K mainGlobals "NoNote"=some (some (.ref mI)))
  (Gv:PySem.W.excIn K bO [.type "ValueError", .type "Exception", .type "BaseException", .type "object"] "ValueError.__new__"=true)
  (Gw:PySem.W.excIn K bP [.type "ValueError", .type "Exception", .type "BaseException", .type "object"] "ValueError.__new__"=true)
  (Gx:PySem.W.findIn K (.ref bO) "__getattribute__"=some (some (.builtin "BaseException.__getattribute__")))
  (Gy:PySem.W.findIn K (.ref bO) "__getattr__"=some none)
  (Gz:(PySem.W.clsIn K bO).isSome=true)
  (GA:PySem.W.findIn K (.ref bO) "__class__"=some (some (.builtin "object.__class__")))
  (GB:PySem.W.mroIn K bO (.type "object")=some true)
  (GC:PySem.W.mroIn K bO (.type "BaseException")=some true)
  (GD:kitOne K (.ref bO) (.ref mw)=some false)
  (GF:kitOne K (.ref bO) (.ref bO)=some true)
  (GG:kitOne K (.ref bO) (.ref bP)=some false)
  (GH:kitOne K (.ref bO) (.ref mx)=some false)
  (GI:kitOne K (.ref bO) (.ref my)=some false)
  (GJ:kitOne K (.ref bO) (.ref mz)=some false)
  (GK:kitOne K (.ref bO) (.ref mB)=some false)
  (GL:kitOne K (.ref bO) (.ref mD)=some false)
  (GN:kitOne K (.ref bO) (.ref mE)=some false)
  (GO:kitOne K (.ref bO) (.ref mF)=some false)
  (GP:kitOne K (.ref bO) (.ref mG)=some false)
  (GQ:kitOne K (.ref bO) (.ref mH)=some false)
  (GR:kitOne K (.ref bO) (.ref mI)=some false)
  (GS:kitOne K (.ref bO) (.ref i0)=some true)
  (GU:kitOne K (.ref bO) (.type "ValueError")=some true)
  (GV:exmOne K (.ref bO) (.ref i0)=some true)
  (GW:PySem.W.findIn K (.ref bP) "__getattribute__"=some (some (.builtin "BaseException.__getattribute__")))
  (GX:PySem.W.findIn K (.ref bP) "__getattr__"=some none)
  (GY:(PySem.W.clsIn K bP).isSome=true)
  (GZ:PySem.W.findIn K (.ref bP) "__class__"=some (some (.builtin "object.__class__")))
  (G0:PySem.W.mroIn K bP (.type "object")=some true)
  (G1:PySem.W.mroIn K bP (.type "BaseException")=some true)
  (G3:kitOne K (.ref bP) (.ref mw)=some false)
  (G4:kitOne K (.ref bP) (.ref bO)=some false)
  (G5:kitOne K (.ref bP) (.ref bP)=some true)
  (G6:kitOne K (.ref bP) (.ref mx)=some false)
  (G7:kitOne K (.ref bP) (.ref my)=some false)
  (G8:kitOne K (.ref bP) (.ref mz)=some false)
  (G9:kitOne K (.ref bP) (.ref mB)=some false)
  (G_:kitOne K (.ref bP) (.ref mD)=some false)
  (Ha:kitOne K (.ref bP) (.ref mE)=some false)
  (Hb:kitOne K (.ref bP) (.ref mF)=some false)
  (Hc:kitOne K (.ref bP) (.ref mG)=some false)
  (He:kitOne K (.ref bP) (.ref mH)=some false)
  (Hf:kitOne K (.ref bP) (.ref mI)=some false)
  (Hg:kitOne K (.ref bP) (.ref i0)=some true)
  (Hh:kitOne K (.ref bP) (.type "ValueError")=some true)
  (Hi:exmOne K (.ref bP) (.ref i0)=some true)
  (e5:PySem.W.specialIn K (.builtin "object.__class__") "__get__"=some (some (.builtin "getset_descriptor.__get__")))
  (e6:PySem.W.takesIn K (.builtin "object.__class__")=some true)
  (a0:PySem.W.nsIn K mainGlobals "is_whole"=some (some (.ref f0)))
  (l0:K.lookup f0=some ⟨oc0,od0, .func (fnOf "is_whole" "is_whole" (bS pG) (aF pG) (ay pG) .none kV0 dc0 pm0 an0 RU ct0),sl0⟩)
  (c0:codeIn K RU "is_whole"=true)
  (k0:keepIn K (.ref f0)=true)
  (a1:PySem.W.nsIn K mainGlobals "is_word"=some (some (.ref f1)))
  (l1:K.lookup f1=some ⟨oc1,od1, .func (fnOf "is_word" "is_word" (bS pH) (aF pH) (ay pH) .none kV1 dc1 pm1 an1 RV ct1),sl1⟩)
  (c1:codeIn K RV "is_word"=true)
  (k1:keepIn K (.ref f1)=true)
  (a2:PySem.W.nsIn K mainGlobals "is_text"=some (some (.ref f2)))
  (l2:K.lookup f2=some ⟨oc2,od2, .func (fnOf "is_text" "is_text" (bS pI) (aF pI) (ay pI) .none kV2 dc2 pm2 an2 RW ct2),oI⟩)
  (c2:codeIn K RW "is_text"=true)
  (k2:keepIn K (.ref f2)=true)
  (a3:PySem.W.nsIn K mainGlobals "is_part"=some (some (.ref f3)))
  (l3:K.lookup f3=some ⟨oc3,od3, .func (fnOf "is_part" "is_part" (bS pJ) (aF pJ) (ay pJ) .none kV3 dc3 pm3 an3 RX ct3),vi⟩)
  (c3:codeIn K RX "is_part"=true)
  (k3:keepIn K (.ref f3)=true)
  (a4:PySem.W.nsIn K mainGlobals "may_follow"=some (some (.ref f4)))
  (l4:K.lookup f4=some ⟨oc4,od4, .func (fnOf "may_follow" "may_follow" (bS pK) (aF pK) (ay pK) .none kV4 dc4 pm4 an4 RY ct4),sl4⟩)
  (c4:codeIn K RY "may_follow"=true)
  (k4:keepIn K (.ref f4)=true)
  (a5:PySem.W.nsIn K mainGlobals "need_change"=some (some (.ref f5)))
  (l5:K.lookup f5=some ⟨oc5,od5, .func (fnOf "need_change" "need_change" (bS pL) (aF pL) (ay pL) .none kV5 dc5 pm5 an5 RZ ct5),sl5⟩)
  (c5:codeIn K RZ "need_change"=true)
  (k5:keepIn K (.ref f5)=true)
  (a6:PySem.W.nsIn K mainGlobals "part_size"=some (some (.ref f6)))
  (l6:K.lookup f6=some ⟨oc6,od6, .func (fnOf "part_size" "part_size" (bS pM) (aF pM) (ay pM) .none kV6 dc6 pm6 an6 R0 ct6),sl6⟩)
  (c6:codeIn K R0 "part_size"=true)
  (k6:keepIn K (.ref f6)=true)
  (a7:PySem.W.nsIn K mainGlobals "sizes"=some (some (.ref f7)))
  (l7:K.lookup f7=some ⟨oc7,od7, .func (fnOf "sizes" "sizes" (bS pN) (aF pN) (ay pN) .none kV7 dc7 pm7 an7 R1 ct7),sl7⟩)
  (c7:codeIn K R1 "sizes"=true)
  (k7:keepIn K (.ref f7)=true)
  (a8:PySem.W.findIn K (.ref bG) "__init__"=some (some (.ref f8)))
  (i8:isFn K (.ref f8)=true)
  (l8:K.lookup f8=some ⟨oc8,od8, .func (fnOf "__init__" "Walk.__init__" (bS pO) (aF pO) (ay pO) .none kV8 dc8 pm8 an8 R3 ct8),sl8⟩)
  (c8:codeIn K R3 "Walk.__init__"=true)
  (k8:keepIn K (.ref f8)=true)
  (a9:PySem.W.findIn K (.ref bG) "word"=some (some (.ref f9)))
  (i9:isFn K (.ref f9)=true)
  (l9:K.lookup f9=some ⟨oc9,od9, .func (fnOf "word" "Walk.word" (bS pP) (aF pP) (ay pP) .none kV9 dc9 pm9 an9 R4 ct9),sl9⟩)
  (c9:codeIn K R4 "Walk.word"=true)
  (k9:keepIn K (.ref f9)=true)
  (Hj:PySem.W.findIn K (.ref bG) "left"=some (some (.ref xk)))
  (Hk:isFn K (.ref xk)=true)
  (Hl:K.lookup xk=some ⟨akX,akU, .func (fnOf "left" "Walk.left" (bS pQ) (aF pQ) (ay pQ) .none akY akZ ak0 akV R5 ak1),akW⟩)
  (iz:codeIn K R5 "Walk.left"=true)
  (tW:keepIn K (.ref xk)=true)
  (Hn:PySem.W.findIn K (.ref bG) "take"=some (some (.ref xl)))
  (Ho:isFn K (.ref xl)=true)
  (Hq:K.lookup xl=some ⟨ak5,ak2, .func (fnOf "take" "Walk.take" (bS pR) (aF pR) (ay pR) .none ak6 ak7 ak8 ak3 R6 ak9),ak4⟩)
  (gE:codeIn K R6 "Walk.take"=true)
  (tX:keepIn K (.ref xl)=true)
  (Hr:PySem.W.nsIn K mainGlobals "add_keep"=some (some (.ref Aq)))
  (Hs:K.lookup Aq=some ⟨alc,ak_, .func (fnOf "add_keep" "add_keep" (bS pS) (aF pS) (ay pS) .none ald ale alf ala R7 alg),alb⟩)
  (iA:codeIn K R7 "add_keep"=true)
  (xf:keepIn K (.ref Aq)=true)
  (Ht:PySem.W.nsIn K mainGlobals "add_texts"=some (some (.ref Ar)))
  (Hu:K.lookup Ar=some ⟨alk,alh, .func (fnOf "add_texts" "add_texts" (bS pT) (aF pT) (ay pT) .none alm aln alo ali R8 alp),alj⟩)
  (sW:codeIn K R8 "add_texts"=true)
  (Hv:keepIn K (.ref Ar)=true)
  (Hw:PySem.W.nsIn K mainGlobals "neat"=some (some (.ref As)))
  (Hx:K.lookup As=some ⟨alu,alq, .func (fnOf "neat" "neat" (bS pU) (aF pU) (ay pU) .none alv alw alx alr R9 aly),als⟩)
  (Hy:codeIn K R9 "neat"=true)
  (Hz:keepIn K (.ref As)=true)
  (HA:PySem.W.nsIn K mainGlobals "put_first"=some (some (.ref Fv)))
  (HB:K.lookup Fv=some ⟨alC,alz, .func (fnOf "put_first" "put_first" (bS pV) (aF pV) (ay pV) .none alD alE alF alA R_ alG),alB⟩)
  (vk:codeIn K R_ "put_first"=true)
  (HC:keepIn K (.ref Fv)=true)
  (HD:PySem.W.nsIn K mainGlobals "share"=some (some (.ref Fw)))
  (HE:K.lookup Fw=some ⟨alK,alH, .func (fnOf "share" "share" (bS pW) (aF pW) (ay pW) .none alL alM alN alI Sa alO),alJ⟩)
  (yG:codeIn K Sa "share"=true)
  (HF:keepIn K (.ref Fw)=true)
  (HG:PySem.W.nsIn K mainGlobals "passed"=some (some (.ref Fx)))
  (HH:K.lookup Fx=some ⟨alS,alP, .func (fnOf "passed" "passed" (bS pX) (aF pX) (ay pX) .none alT alU alV alQ Sb alW),alR⟩)
  (HI:codeIn K Sb "passed"=true)
  (HJ:keepIn K (.ref Fx)=true)
  (HK:PySem.W.nsIn K mainGlobals "_law_cell_at"=some (some (.ref Fy)))
  (HL:K.lookup Fy=some ⟨al0,alX, .func (fnOf "_law_cell_at" "_law_cell_at" (bS pY) (aF pY) (ay pY) .none al1 al2 al4 alY Sd al5),alZ⟩)
  (HM:codeIn K Sd "_law_cell_at"=true)
  (HN:keepIn K (.ref Fy)=true)
  (HP:PySem.W.nsIn K mainGlobals "_law_whole"=some (some (.ref Fz)))
  (HQ:K.lookup Fz=some ⟨al9,al6, .func (fnOf "_law_whole" "_law_whole" (bS pZ) (aF pZ) (ay pZ) .none al_ ama amb al7 Se amc),al8⟩)
  (HR:codeIn K Se "_law_whole"=true)
  (HS:keepIn K (.ref Fz)=true)
  (HU:PySem.W.nsIn K mainGlobals "_law_mixed"=some (some (.ref FA)))
  (HV:K.lookup FA=some ⟨amg,amd, .func (fnOf "_law_mixed" "_law_mixed" (bS p9) (aF p9) (ay p9) .none amh ami amj ame Sf amk),amf⟩)
  (HW:codeIn K Sf "_law_mixed"=true)
  (HX:keepIn K (.ref FA)=true)
  (HY:PySem.W.nsIn K mainGlobals "_law_text"=some (some (.ref FC)))
  (HZ:K.lookup FC=some ⟨amo,aml, .func (fnOf "_law_text" "_law_text" (bS p_) (aF p_) (ay p_) .none amq amr ams amm Sh amt),amn⟩)
  (H0:codeIn K Sh "_law_text"=true)
  (H_:keepIn K (.ref FC)=true)
  (Ia:PySem.W.nsIn K mainGlobals "_law_size"=some (some (.ref FD)))
  (Ib:K.lookup FD=some ⟨amx,amu, .func (fnOf "_law_size" "_law_size" (bS qd) (aF qd) (ay qd) .none amy amz amA amv Si amB),amw⟩)
  (Ic:codeIn K Si "_law_size"=true)
  (Ie:keepIn K (.ref FD)=true)
  (Ig:PySem.W.nsIn K mainGlobals "_law_parts"=some (some (.ref FE)))
  (Ih:K.lookup FE=some ⟨amF,amC, .func (fnOf "_law_parts" "_law_parts" (bS qe) (aF qe) (ay qe) .none amG amH amI amD Sj amJ),amE⟩)
  (sX:codeIn K Sj "_law_parts"=true)
  (Ii:keepIn K (.ref FE)=true)
  (Ij:PySem.W.nsIn K mainGlobals "_law_neat"=some (some (.ref FF)))
  (Ik:K.lookup FF=some ⟨amN,amK, .func (fnOf "_law_neat" "_law_neat" (bS qf) (aF qf) (ay qf) .none amO amP amQ amL Sk amR),amM⟩)
  (Il:codeIn K Sk "_law_neat"=true)
  (Im:keepIn K (.ref FF)=true)
  (Io:PySem.W.nsIn K mainGlobals "_law_change"=some (some (.ref FG)))
  (Ip:K.lookup FG=some ⟨amV,amS, .func (fnOf "_law_change" "_law_change" (bS qg) (aF qg) (ay qg) .none amW amX amY amT Sl amZ),amU⟩)
  (vm:codeIn K Sl "_law_change"=true)
  (Iq:keepIn K (.ref FG)=true)
  (Ir:PySem.W.nsIn K mainGlobals "_law_same"=some (some (.ref FH)))
  (Iu:K.lookup FH=some ⟨am3,am0, .func (fnOf "_law_same" "_law_same" (bS qh) (aF qh) (ay qh) .none am4 am5 am6 am1 Sm am7),am2⟩)
  (vn:codeIn K Sm "_law_same"=true)
  (Iv:keepIn K (.ref FH)=true)
  (Iw:PySem.W.nsIn K mainGlobals "_law_word"=some (some (.ref FI)))
  (Iy:K.lookup FI=some ⟨ana,am8, .func (fnOf "_law_word" "_law_word" (bS cM) (aF cM) (ay cM) .none anb anc ane am9 Sn anf),am_⟩)
  (Iz:codeIn K Sn "_law_word"=true)
  (IA:keepIn K (.ref FI)=true)
  (IB:PySem.W.nsIn K mainGlobals "_law_named"=some (some (.ref FJ)))
  (IC:K.lookup FJ=some ⟨anj,ang, .func (fnOf "_law_named" "_law_named" (bS qi) (aF qi) (ay qi) .none ank anl anm anh So ano),ani⟩)
  (ID:codeIn K So "_law_named"=true)
  (IE:keepIn K (.ref FJ)=true)
  (IF:PySem.W.nsIn K mainGlobals "_law_gone"=some (some (.ref FK)))
  (IG:K.lookup FK=some ⟨ant,anp, .func (fnOf "_law_gone" "_law_gone" (bS qj) (aF qj) (ay qj) .none anu anv anw anq Sq anx),anr⟩)
  (IH:codeIn K Sq "_law_gone"=true)
  (II:keepIn K (.ref FK)=true)
  (IJ:PySem.W.nsIn K mainGlobals "_law_between"=some (some (.ref FL)))
  (IL:K.lookup FL=some ⟨anC,anz, .func (fnOf "_law_between" "_law_between" (bS qk) (aF qk) (ay qk) .none anD anE anF anA Sr anG),anB⟩)
  (IM:codeIn K Sr "_law_between"=true)
  (IP:keepIn K (.ref FL)=true)
  (IQ:PySem.W.nsIn K mainGlobals "_law_found"=some (some (.ref FN)))
  (IS:K.lookup FN=some ⟨anK,anH, .func (fnOf "_law_found" "_law_found" (bS qm) (aF qm) (ay qm) .none anL anM anN anI Ss anO),anJ⟩)
  (IT:codeIn K Ss "_law_found"=true)
  (IU:keepIn K (.ref FN)=true)
  (IV:PySem.W.nsIn K mainGlobals "_law_puts"=some (some (.ref FO)))
  (IW:K.lookup FO=some ⟨anS,anP, .func (fnOf "_law_puts" "_law_puts" (bS qo) (aF qo) (ay qo) .none anT anU anV anQ Su anW),anR⟩)
  (IX:codeIn K Su "_law_puts"=true)
  (IY:keepIn K (.ref FO)=true)
  (IZ:PySem.W.nsIn K mainGlobals "_law_both"=some (some (.ref FP)))
  (I_:K.lookup FP=some ⟨aoa,anY, .func (fnOf "_law_both" "_law_both" (bS qp) (aF qp) (ay qp) .none aob aoc aod anZ Sv aoe),an_⟩)
  (Ja:codeIn K Sv "_law_both"=true)
  (Jb:keepIn K (.ref FP)=true)
  (Jc:PySem.W.nsIn K mainGlobals "_law_right"=some (some (.ref FQ)))
  (Jd:K.lookup FQ=some ⟨aoi,aof, .func (fnOf "_law_right" "_law_right" (bS qq) (aF qq) (ay qq) .none aoj aok aol aog Sw aom),aoh⟩)
  (Je:codeIn K Sw "_law_right"=true)
  (Jf:keepIn K (.ref FQ)=true)
  (Jg:PySem.W.nsIn K mainGlobals "_law_told_otherwise"=some (some (.ref FR)))
  (Jh:K.lookup FR=some ⟨aoq,aon, .func (fnOf "_law_told_otherwise" "_law_told_otherwise" (bS qr) (aF qr) (ay qr) .none aor aos aot aoo Sx aou),aop⟩)
  (Ji:codeIn K Sx "_law_told_otherwise"=true)
  (Jj:keepIn K (.ref FR)=true)
  (Jk:PySem.W.nsIn K mainGlobals "_law_cut_otherwise"=some (some (.ref FT)))
  (Jl:K.lookup FT=some ⟨aoy,aov, .func (fnOf "_law_cut_otherwise" "_law_cut_otherwise" (bS qt) (aF qt) (ay qt) .none aoz aoA aoB aow Sy aoC),aox⟩)
  (Jm:codeIn K Sy "_law_cut_otherwise"=true)
  (Jn:keepIn K (.ref FT)=true)
  (Jo:PySem.W.nsIn K mainGlobals "law"=some (some (.ref FU)))
  (Jp:K.lookup FU=some ⟨aoF,aoD, .func (fnOf "law" "law" (bS bJ) (aF bJ) (ay bJ) .none SA SD SE Sz FV SF),aoE⟩)
  (Jq:codeIn K FV "law"=true)
  (Jr:keepIn K (.ref FU)=true)
  (Js:PySem.W.nsIn K mainGlobals "SIGNS"=some (some (Value.str SG aoG)))
  (Jt:PySem.W.nsIn K mainGlobals "ValueError"=some none)
  (Ju:PySem.W.nsIn K mainGlobals "bool"=some none)
  (Jv:PySem.W.nsIn K mainGlobals "int"=some none)
  (Jw:PySem.W.nsIn K mainGlobals "isinstance"=some none)
  (Jx:PySem.W.nsIn K mainGlobals "len"=some none)
  (Jy:PySem.W.nsIn K mainGlobals "list"=some none)
  (Jz:PySem.W.nsIn K mainGlobals "min"=some none)
  (JA:PySem.W.nsIn K mainGlobals "range"=some none)
  (JB:PySem.W.nsIn K mainGlobals "str"=some none)
  (JC:PySem.W.nsIn K mainGlobals "sum"=some none)
  (JD:PySem.W.nsIn K mainGlobals "tuple"=some none)
  (JE:PySem.W.nsIn K mainGlobals "zip"=some none)
  : ∃fd:FuncData,(∀(s:Shared) (v:Value),BindsTo s fd ⟨[v],[]⟩ [("_law_script",v)])∧ ∀base:Heap,K.In base→base.Ns mainGlobals mg→cB l.prog w K mg base yf 8 fa fd ["_law_script"] (fun vs H Q _=> (Au K) vs H Q E0):=by
 have e:=hfa.symm.trans (PySem.W.mg_of X G Jo)
 cases e
 have aoH:mg "ValueError"=none:=mg_none_of X G Jt
 have y_bool:mg "bool"=none:=mg_none_of X G Ju
 have Ay:mg "int"=none:=mg_none_of X G Jv
 have kl:mg "isinstance"=none:=mg_none_of X G Jw
 have gH:mg "len"=none:=mg_none_of X G Jx
 have xo:mg "list"=none:=mg_none_of X G Jy
 have JF:mg "min"=none:=mg_none_of X G Jz
 have oo:mg "range"=none:=mg_none_of X G JA
 have JG:mg "str"=none:=mg_none_of X G JB
 have SH:mg "sum"=none:=mg_none_of X G JC
 have JH:mg "tuple"=none:=mg_none_of X G JD
 have aoI:mg "zip"=none:=mg_none_of X G JE
 have aoJ:fu mg ("SIGNS", .str SG):=⟨_,PySem.W.mg_of X G Js,⟨_,rfl⟩⟩
 have SI:fu mg ("InkError", .ref i0):=⟨_,PySem.W.mg_of X G Gg,rfl⟩
 have aoK:fu mg ("BadText", .ref mw):=⟨_,PySem.W.mg_of X G Gh,rfl⟩
 have aoL:fu mg ("BadChange", .ref bO):=⟨_,PySem.W.mg_of X G Aw,rfl⟩
 have aoM:fu mg ("BadFit", .ref bP):=⟨_,PySem.W.mg_of X G Ax,rfl⟩
 have aoN:fu mg ("NoPlace", .ref mx):=⟨_,PySem.W.mg_of X G Gi,rfl⟩
 have aoO:fu mg ("BadSide", .ref my):=⟨_,PySem.W.mg_of X G Gj,rfl⟩
 have aoP:fu mg ("NoMark", .ref mz):=⟨_,PySem.W.mg_of X G Gk,rfl⟩
 have aoQ:fu mg ("NoNode", .ref mB):=⟨_,PySem.W.mg_of X G Gm,rfl⟩
 have aoR:fu mg ("NoCursor", .ref mD):=⟨_,PySem.W.mg_of X G Gn,rfl⟩
 have aoS:fu mg ("BadDeed", .ref mE):=⟨_,PySem.W.mg_of X G Gp,rfl⟩
 have aoT:fu mg ("BadLetter", .ref mF):=⟨_,PySem.W.mg_of X G Gq,rfl⟩
 have aoU:fu mg ("NoLetter", .ref mG):=⟨_,PySem.W.mg_of X G Gr,rfl⟩
 have aoV:fu mg ("NoHand", .ref mH):=⟨_,PySem.W.mg_of X G Gs,rfl⟩
 have aoW:fu mg ("NoNote", .ref mI):=⟨_,PySem.W.mg_of X G Gu,rfl⟩
 have aoX:j8 K [mw,bO,bP,mx,my,mz,mB,mD,mE,mF,mG,mH,mI] i0 bO 1:=Q2 ⟨Gx,Gy,Gz,GA,e5,e6,GB,GC⟩ GS GU GD GF GG GH GI GJ GK GL GN GO GP GQ GR
 have aoY:j8 K [mw,bO,bP,mx,my,mz,mB,mD,mE,mF,mG,mH,mI] i0 bP 2:=Q2 ⟨GW,GX,GY,GZ,e5,e6,G0,G1⟩ Hg Hh G3 G4 G5 G6 G7 G8 G9 G_ Ha Hb Hc He Hf
 have mJ:pE K bG:=⟨⟨FX,FY,FZ,F_⟩,Gd,Ge,Gf⟩
 refine⟨fnOf "law" "law" (bS bJ) (aF bJ) (ay bJ) .none SA SD SE Sz FV SF,fun s v=> .of_eq rfl,fun base X2 G2=> ?_⟩
 have SJ:yT mg base ("BadChange",bO):=QZ X2 G2 Aw Gv
 have Az:yT mg base ("BadFit",bP):=QZ X2 G2 Ax Gw
 have F0:=cj (st:=pG) l0 c0 k0
 have B0:=F0.binds (ps:=Nk) fun _ _ _ _ _ _ us hl=>match us,hl with | [_],_=>rfl
 have T0:cf l.prog w K mg base 1 "is_whole" (zF):=⟨_,_,_,(bX (k:=0) F0 ac2 [] [] Nl [] [] [] [] Cz ac3 af af (aA kl (aA Ay (aA y_bool af))) [] af af af af af (by rintro vs H Q E ⟨_,rfl,_⟩;rfl) agA),PySem.W.mg_of X G a0,F0.kp,B0⟩
 have F1:=cj (st:=pH) l1 c1 k1
 have B1:=F1.binds (ps:=Nm) fun _ _ _ _ _ _ us hl=>match us,hl with | [_,_],_=>rfl
 have T1:cf l.prog w K mg base 1 "is_word" (zH K):=⟨_,_,_,(bX (k:=0) F1 ac4 [] [] Nn [] [] [] [] yV ac5 af af (aA kl (aA JG af)) [] af af af af af (by rintro vs H Q E ⟨_,_,_,rfl,_⟩;rfl) agC),PySem.W.mg_of X G a1,F1.kp,B1⟩
 have F2:=cj (st:=pI) l2 c2 k2
 have B2:=F2.binds (ps:=Np) fun _ _ _ _ _ _ us hl=>match us,hl with | [_],_=>rfl
 have T2:cf l.prog w K mg base 1 "is_text" (zG):=⟨_,_,_,(bX (k:=0) F2 ac6 [] [("SIGNS", .str SG)] Nq [] [] [] [] yX ac7 af (aA aoJ af) (aA kl (aA JG af)) [] af af af af af (by rintro vs H Q E ⟨_,rfl,_⟩;rfl) agB),PySem.W.mg_of X G a2,F2.kp,B2⟩
 have F3:=cj (st:=pJ) l3 c3 k3
 have B3:=F3.binds (ps:=Nr) fun _ _ _ _ _ _ us hl=>match us,hl with | [_],_=>rfl
 have T3:cf l.prog w K mg base 2 "is_part" (wg):=⟨_,_,_,(bX (k:=1) F3 ac8 [("is_word",zH K),("is_whole",zF),("is_text",zG)] [] Nt [] [] [] [] vE ac9 (aA (T1.mono (by omega)) (aA (T0.mono (by omega)) (aA (T2.mono (by omega)) af))) af (aA kl (aA JH (aA gH af))) [] af af af af af (by rintro vs H Q E ⟨_,rfl,_⟩;rfl) agD),PySem.W.mg_of X G a3,F3.kp,B3⟩
 have F4:=cj (st:=pK) l4 c4 k4
 have B4:=F4.binds (ps:=Nu) fun _ _ _ _ _ _ us hl=>match us,hl with | [_,_],_=>rfl
 have T4:cf l.prog w K mg base 1 "may_follow" (sH):=⟨_,_,_,(bX (k:=0) F4 ac_ [] [] Nv [] [] [] [] CB ada af af af [] af af af af af (by rintro vs H Q E ⟨_,_,rfl,_⟩;rfl) aeX),PySem.W.mg_of X G a4,F4.kp,B4⟩
 have F5:=cj (st:=pL) l5 c5 k5
 have B5:=F5.binds (ps:=Nw) fun _ _ _ _ _ _ us hl=>match us,hl with | [_],_=>rfl
 have T5:cf l.prog w K mg base 3 "need_change" (fB (zh) (wj bO)):=⟨_,_,_,(cB.or (bX (k:=2) F5 Ol [("is_part",DF),("may_follow",sH)] [] CD [] [] [("BadChange",bO)] [] vF Om (aA ((T3.weak fun _ _ _ _ h=>agF h).mono (by omega)) (aA (T4.mono (by omega)) af)) af (aA kl (aA xo af)) [] af af af (aA SJ af) af (by rintro vs H Q E ⟨_,_,_,rfl,_⟩;rfl) ae8) (bX (k:=2) F5 Ol [("is_part",wg),("may_follow",sH)] [] CD [] [] [("BadChange",bO)] [] vF Om (aA (T3.mono (by omega)) (aA (T4.mono (by omega)) af)) af (aA kl (aA xo af)) [] af af af (aA SJ af) af (by rintro vs H Q E ⟨_,rfl,_⟩;rfl) agH)),PySem.W.mg_of X G a5,F5.kp,B5⟩
 have F6:=cj (st:=pM) l6 c6 k6
 have B6:=F6.binds (ps:=Nx) fun _ _ _ _ _ _ us hl=>match us,hl with | [_],_=>rfl
 have T6:cf l.prog w K mg base 1 "part_size" (js):=⟨_,_,_,(bX (k:=0) F6 adb [] [] Ny [] [] [] [] CH ade af af (aA gH af) [] af af af af af (by rintro vs H Q E ⟨_,_,rfl,_⟩;rfl) aeY),PySem.W.mg_of X G a6,F6.kp,B6⟩
 have F7:=cj (st:=pN) l7 c7 k7
 have B7:=F7.binds (ps:=Nz) fun _ _ _ _ _ _ us hl=>match us,hl with | [_],_=>rfl
 have T7:cf l.prog w K mg base 4 "sizes" (fB (iR) (nG bO)):=⟨_,_,_,(cB.or (bX (k:=3) F7 Oo [("need_change",zh),("part_size",js)] [] CI [] [] [] [] vG Oq (aA ((T5.weak fun _ _ _ _ h=> (.inl h)).mono (by omega)) (aA (T6.mono (by omega)) af)) af (aA SH af) [] af af af af af (by rintro vs H Q E ⟨_,_,_,rfl,_⟩;rfl) ae_) (bX (k:=3) F7 Oo [("need_change",wj bO),("part_size",js)] [] CI [] [] [] [] vG Oq (aA ((T5.weak fun _ _ _ _ h=> (.inr h)).mono (by omega)) (aA (T6.mono (by omega)) af)) af (aA SH af) [] af af af af af (by rintro vs H Q E ⟨_,rfl,_⟩;rfl) agJ)),PySem.W.mg_of X G a7,F7.kp,B7⟩
 have F8:=cj (st:=pO) l8 c8 k8
 have B8:=F8.binds (ps:=N1) fun _ _ _ _ _ _ us hl=>match us,hl with | [_,_],_=>rfl
 have T8:vC l.prog w K mg base 2 ("Walk",bG,gR bG):=⟨0+1,_,_,_,Nat.le_refl _,⟨Ga,a8,i8,Gb⟩,(bX (k:=0) F8 adf [] [] N2 [] [] [] [] C8 adg af af (aA xo af) [] af af af af af (by rintro vs H Q E ⟨_,_,_,_,_,rfl,_⟩;rfl) (ag6 mJ)),PySem.W.mg_of X G FW,B8⟩
 have F9:=cj (st:=pP) l9 c9 k9
 have B9:=F9.binds (ps:=N3) fun _ _ _ _ _ _ us hl=>match us,hl with | [_],_=>rfl
 have T9:jY l.prog w K mg base 1 ("word",bG,qL bG):=⟨mJ.cl,_,_,_,⟨a9,i9,k9⟩,(bX (k:=0) F9 adh [] [] N4 [] [] [] [] C_ adi af af (aA gH af) [] af af af af af (by rintro vs H Q E ⟨_,_,_,rfl,_⟩;rfl) (ag7 mJ)),B9⟩
 have SK:=cj (st:=pQ) Hl iz tW
 have B10:=SK.binds (ps:=N5) fun _ _ _ _ _ _ us hl=>match us,hl with | [_],_=>rfl
 have AA:jY l.prog w K mg base 2 ("left",bG,tJ bG):=⟨mJ.cl,_,_,_,⟨Hj,Hk,tW⟩,(bX (k:=1) SK adj [("part_size",js)] [] N6 [] [] [] [] Dd adk (aA (T6.mono (by omega)) af) af af [] af af af af af (by rintro vs H Q E ⟨_,_,_,_,_,_,_,_,rfl,_⟩;rfl) (ag8 mJ)),B10⟩
 have SM:=cj (st:=pR) Hq gE tX
 have B11:=SM.binds (ps:=N7) fun _ _ _ _ _ _ us hl=>match us,hl with | [_,_],_=>rfl
 have JI:jY l.prog w K mg base 3 ("take",bG,l_ bG):=⟨mJ.cl,_,_,_,⟨Hn,Ho,tX⟩,(bX (k:=2) SM adl [] [] N8 [("left",bG,tJ bG)] [] [] [] y_ adm af af af [] af (aA (AA.mono (by omega)) af) af af af (by rintro vs H Q E ⟨_,_,_,_,_,rfl,_⟩;rfl) (ag9 mJ)),B11⟩
 have JJ:=cj (st:=pS) Hs iA xf
 have B12:=JJ.binds (ps:=NA) fun _ _ _ _ _ _ us hl=>match us,hl with | [_,_],_=>rfl
 have T12:cf l.prog w K mg base 1 "add_keep" (zk):=⟨_,_,_,(bX (k:=0) JJ adn [] [] NB [] [] [] [] CK ado af af (aA gH af) [] af af af af af (by rintro vs H Q E ⟨_,_,_,_,rfl,_⟩;rfl) afg),PySem.W.mg_of X G Hr,JJ.kp,B12⟩
 have JK:=cj (st:=pT) Hu sW Hv
 have B13:=JK.binds (ps:=NC) fun _ _ _ _ _ _ us hl=>match us,hl with | [_,_,_],_=>rfl
 have T13:cf l.prog w K mg base 1 "add_texts" (zi):=⟨_,_,_,(bX (k:=0) JK adp [] [] ND [] [] [] [] CM adq af af af [] af af af af af (by rintro vs H Q E ⟨_,_,_,_,_,_,_,rfl,_⟩;rfl) afc),PySem.W.mg_of X G Ht,JK.kp,B13⟩
 have JL:=cj (st:=pU) Hx Hy Hz
 have B14:=JL.binds (ps:=NF) fun _ _ _ _ _ _ us hl=>match us,hl with | [_],_=>rfl
 have SN:cf l.prog w K mg base 2 "neat" (nj):=⟨_,_,_,(bX (k:=1) JL ads [("add_texts",zi),("add_keep",zk)] [] NG [] [] [] [] CO adt (aA (T13.mono (by omega)) (aA (T12.mono (by omega)) af)) af af [] af af af af af (by rintro vs H Q E ⟨_,_,_,rfl,_⟩;rfl) afi),PySem.W.mg_of X G Hw,JL.kp,B14⟩
 have JM:=cj (st:=pV) HB vk HC
 have B15:=JM.binds (ps:=N9) fun _ _ _ _ _ _ us hl=>match us,hl with | [_,_,_],_=>rfl
 have SO:cf l.prog w K mg base 4 "put_first" (kb bG):=⟨_,_,_,(bX (k:=3) JM adu [("part_size",js)] [] N_ [("take",bG,l_ bG),("left",bG,nI bG)] [] [] [] Dg adv (aA (T6.mono (by omega)) af) af af [] af (aA (JI.mono (by omega)) (aA ((AA.weak fun _ _ _ _ h=>EB h).mono (by omega)) af)) af af af (by rintro vs H Q E ⟨_,_,_,_,_,_,_,_,rfl,_⟩;rfl) ahk),PySem.W.mg_of X G HA,JM.kp,B15⟩
 have AB:=cj (st:=pW) HE yG HF
 have B16:=AB.binds (ps:=Oa) fun _ _ _ _ _ _ us hl=>match us,hl with | [_,_,_,_],_=>rfl
 have SQ:cf l.prog w K mg base 1 "share" (fB (nN) (xh bP)):=⟨_,_,_,(cB.or (bX (k:=0) AB Ot [] [] Dh [] [] [("BadFit",bP)] [] vH Ou af af af [] af af af (aA Az af) af (by rintro vs H Q E ⟨_,_,_,_,_,_,_,_,rfl,_⟩;rfl) ahn) (bX (k:=0) AB Ot [] [] Dh [] [] [("BadFit",bP)] [] vH Ou af af af [] af af af (aA Az af) af (by rintro vs H Q E ⟨_,_,_,_,_,_,rfl,_⟩;rfl) aiE)),PySem.W.mg_of X G HD,AB.kp,B16⟩
 have AD:=cj (st:=pX) HH HI HJ
 have B17:=AD.binds (ps:=Ob) fun _ _ _ _ _ _ us hl=>match us,hl with | [_,_],_=>rfl
 have T17:cf l.prog w K mg base 5 "passed" (fB (qR) (n_ bO bP)):=⟨_,_,_,(cB.or (bX (k:=4) AD Ov [("sizes",iR),("put_first",kb bG),("share",nN),("neat",nj)] [] Di [("word",bG,qL bG),("left",bG,nI bG),("take",bG,l_ bG)] [("Walk",bG,gR bG)] [("BadFit",bP)] [] vI Ow (aA ((T7.weak fun _ _ _ _ h=> (.inl h)).mono (by omega)) (aA (SO.mono (by omega)) (aA ((SQ.weak fun _ _ _ _ h=> (.inl h)).mono (by omega)) (aA (SN.mono (by omega)) af)))) af (aA JF af) [] af (aA (T9.mono (by omega)) (aA ((AA.weak fun _ _ _ _ h=>EB h).mono (by omega)) (aA (JI.mono (by omega)) af))) (aA (T8.mono (by omega)) af) (aA Az af) af (by rintro vs H Q E ⟨_,_,_,_,_,_,_,_,_,rfl,_⟩;rfl) (ahB mJ)) (bX (k:=4) AD Ov [("sizes",fB (iR) (nG bO)),("put_first",kb bG),("share",fB (nN) (xh bP)),("neat",nj)] [] Di [("word",bG,qL bG),("left",bG,nI bG),("take",bG,l_ bG)] [("Walk",bG,gR bG)] [("BadFit",bP)] [] vI Ow (aA (T7.mono (by omega)) (aA (SO.mono (by omega)) (aA (SQ.mono (by omega)) (aA (SN.mono (by omega)) af)))) af (aA JF af) [] af (aA (T9.mono (by omega)) (aA ((AA.weak fun _ _ _ _ h=>EB h).mono (by omega)) (aA (JI.mono (by omega)) af))) (aA (T8.mono (by omega)) af) (aA Az af) af (by rintro vs H Q E ⟨_,_,rfl,_⟩;rfl) (aiG mJ))),PySem.W.mg_of X G HG,AD.kp,B17⟩
 have JN:=cj (st:=pY) HL HM HN
 have B18:=JN.binds (ps:=NH) fun _ _ _ _ _ _ us hl=>match us,hl with | [_,_],_=>rfl
 have T18:cf l.prog w K mg base 1 "_law_cell_at" (vL K):=⟨_,_,_,(bX (k:=0) JN adw [] [] NI [] [] [] [] CQ adx af af (aA gH af) [] af af af af af (by rintro vs H Q E ⟨_,_,_,rfl,_⟩;rfl) aeZ),PySem.W.mg_of X G HK,JN.kp,B18⟩
 have JO:=cj (st:=pZ) HQ HR HS
 have B19:=JO.binds (ps:=NZ) fun _ _ _ _ _ _ us hl=>match us,hl with | [_],_=>rfl
 have T19:cf l.prog w K mg base 1 "_law_whole" (ze):=⟨_,_,_,(bX (k:=0) JO ady [] [] N0 [] [] [] [] C6 adz af af (aA kl (aA Ay (aA y_bool af))) [] af af af af af (by rintro vs H Q E ⟨_,rfl,_⟩;rfl) ah5),PySem.W.mg_of X G HP,JO.kp,B19⟩
 have JP:=cj (st:=p9) HV HW HX
 have B20:=JP.binds (ps:=NJ) fun _ _ _ _ _ _ us hl=>match us,hl with | [_,_],_=>rfl
 have JQ:cf l.prog w K mg base 1 "_law_mixed" (lO):=⟨_,_,_,(bX (k:=0) JP adA [] [] NK [] [] [] [] CT adB af af af [] af af af af af (by rintro vs H Q E ⟨_,_,rfl,_⟩;rfl) ae0),PySem.W.mg_of X G HU,JP.kp,B20⟩
 have JR:=cj (st:=p_) HZ H0 H_
 have B21:=JR.binds (ps:=NL) fun _ _ _ _ _ _ us hl=>match us,hl with | [_,_],_=>rfl
 have SR:cf l.prog w K mg base 2 "_law_text" (qy):=⟨_,_,_,(bX (k:=1) JR adC [("_law_mixed",lO)] [] NM [] [] [] [] CV adD (aA (JQ.mono (by omega)) af) af (aA oo (aA gH af)) [] af af af af af (by rintro vs H Q E ⟨_,_,rfl,_⟩;rfl) afr),PySem.W.mg_of X G HY,JR.kp,B21⟩
 have JS:=cj (st:=qd) Ib Ic Ie
 have B22:=JS.binds (ps:=NN) fun _ _ _ _ _ _ us hl=>match us,hl with | [_],_=>rfl
 have T22:cf l.prog w K mg base 1 "_law_size" (vX):=⟨_,_,_,(bX (k:=0) JS adE [] [] NO [] [] [] [] CY adF af af af [] af af af af af (by rintro vs H Q E ⟨_,rfl,_⟩;rfl) af1),PySem.W.mg_of X G Ia,JS.kp,B22⟩
 have JT:=cj (st:=qe) Ih sX Ii
 have B23:=JT.binds (ps:=NQ) fun _ _ _ _ _ _ us hl=>match us,hl with | [_,_,_],_=>rfl
 have T23:cf l.prog w K mg base 3 "_law_parts" (zz):=⟨_,_,_,(bX (k:=2) JT adG [("_law_mixed",lO),("_law_text",qy)] [] NR [] [] [] [] C0 adH (aA (JQ.mono (by omega)) (aA (SR.mono (by omega)) af)) af (aA oo (aA JF (aA gH af))) [] af af af af af (by rintro vs H Q E ⟨_,_,_,rfl,_⟩;rfl) af5),PySem.W.mg_of X G Ig,JT.kp,B23⟩
 have JU:=cj (st:=qf) Ik Il Im
 have B24:=JU.binds (ps:=NT) fun _ _ _ _ _ _ us hl=>match us,hl with | [_],_=>rfl
 have SS:cf l.prog w K mg base 1 "_law_neat" (qz):=⟨_,_,_,(bX (k:=0) JU adI [] [] NU [] [] [] [] C1 adJ af af (aA Ay af) [] af af af af af (by rintro vs H Q E ⟨_,_,_,rfl,_⟩;rfl) afz),PySem.W.mg_of X G Ij,JU.kp,B24⟩
 have JV:=cj (st:=qg) Ip vm Iq
 have B25:=JV.binds (ps:=NV) fun _ _ _ _ _ _ us hl=>match us,hl with | [_,_,_],_=>rfl
 have T25:cf l.prog w K mg base 4 "_law_change" (nE):=⟨_,_,_,(bX (k:=3) JV adK [("_law_neat",qz),("_law_parts",zz)] [] NW [] [] [] [] C3 adL (aA (SS.mono (by omega)) (aA (T23.mono (by omega)) af)) af af [] af af af af af (by rintro vs H Q E ⟨_,_,_,rfl,_⟩;rfl) age),PySem.W.mg_of X G Io,JV.kp,B25⟩
 have JW:=cj (st:=qh) Iu vn Iv
 have B26:=JW.binds (ps:=Ox) fun _ _ _ _ _ _ us hl=>match us,hl with | [_,_],_=>rfl
 have T26:cf l.prog w K mg base 2 "_law_same" (tQ):=⟨_,_,_,(bX (k:=1) JW adM [("_law_whole",ze)] [] NX [] [] [] [] C4 adN (aA (T19.mono (by omega)) af) af (aA kl (aA xo (aA gH (aA aoI (aA JH (aA JG af)))))) [] af af af af af (by rintro vs H Q E ⟨_,_,_,_,_,rfl,_⟩;rfl) ah4),PySem.W.mg_of X G Ir,JW.kp,B26⟩
 have SU:=cj (st:=cM) Iy Iz IA
 have B27:=SU.binds (ps:=NY) fun _ _ _ _ _ _ us hl=>match us,hl with | [_],_=>rfl
 have T27:sG l.prog w K mg base 1 "_law_word" (wk K [mw,bO,bP,mx,my,mz,mB,mD,mE,mF,mG,mH,mI] i0):=ZZ (k:=0) SU adO (PySem.W.mg_of X G Iw) B27 [("BadText", .ref mw),("BadChange", .ref bO),("BadFit", .ref bP),("NoPlace", .ref mx),("BadSide", .ref my),("NoMark", .ref mz),("NoNode", .ref mB),("NoCursor", .ref mD),("BadDeed", .ref mE),("BadLetter", .ref mF),("NoLetter", .ref mG),("NoHand", .ref mH),("NoNote", .ref mI),("InkError", .ref i0)] jZ dZ adX (aA aoK (aA aoL (aA aoM (aA aoN (aA aoO (aA aoP (aA aoQ (aA aoR (aA aoS (aA aoT (aA aoU (aA aoV (aA aoW (aA SI af)))))))))))))) (aA kl (aA aoH af)) (by rintro vs H Q E ⟨_,_,_,rfl,_⟩;rfl) agU
 have JX:=cj (st:=qi) IC ID IE
 have B28:=JX.binds (ps:=Oc) fun _ _ _ _ _ _ us hl=>match us,hl with | [_],_=>rfl
 have T28:cf l.prog w K mg base 1 "_law_named" (wo):=⟨_,_,_,(bX (k:=0) JX adY [] [] Od [] [] [] [] Dk adZ af af (aA oo (aA gH af)) [] af af af af af (by rintro vs H Q E ⟨_,rfl,_⟩;rfl) agW),PySem.W.mg_of X G IB,JX.kp,B28⟩
 have JY:=cj (st:=qj) IG IH II
 have B29:=JY.binds (ps:=Oe) fun _ _ _ _ _ _ us hl=>match us,hl with | [_,_,_],_=>rfl
 have SV:cf l.prog w K mg base 1 "_law_gone" (j_):=⟨_,_,_,(bX (k:=0) JY ad0 [] [] Of [] [] [] [] Dm ad1 af af (aA oo (aA gH af)) [] af af af af af (by rintro vs H Q E ⟨_,_,_,_,_,_,_,_,_,rfl,_⟩;rfl) agY),PySem.W.mg_of X G IF,JY.kp,B29⟩
 have JZ:=cj (st:=qk) IL IM IP
 have B30:=JZ.binds (ps:=Og) fun _ _ _ _ _ _ us hl=>match us,hl with | [_,_],_=>rfl
 have SW:cf l.prog w K mg base 2 "_law_between" (kh):=⟨_,_,_,(bX (k:=1) JZ ad2 [("_law_neat",qz)] [] Oh [] [] [] [] Dq ad3 (aA (SS.mono (by omega)) af) af (aA oo (aA gH af)) [] af af af af af (by rintro vs H Q E ⟨_,_,_,_,_,_,rfl,_⟩;rfl) aib),PySem.W.mg_of X G IJ,JZ.kp,B30⟩
 have J0:=cj (st:=qm) IS IT IU
 have B31:=J0.binds (ps:=Oy) fun _ _ _ _ _ _ us hl=>match us,hl with | [_,_],_=>rfl
 have SX:cf l.prog w K mg base 6 "_law_found" (fX bO bP):=⟨_,_,_,(bX (k:=5) J0 ad_ [("passed",fB (qR) (n_ bO bP))] [("InkError", .ref i0)] Oz [] [] [] [("_law_word",wk K [mw,bO,bP,mx,my,mz,mB,mD,mE,mF,mG,mH,mI] i0)] Du aea (aA (T17.mono (by omega)) af) (aA SI af) af [] af af af af (aA (T27.mono (by omega)) af) (by rintro vs H Q E ⟨_,_,rfl,_⟩;rfl) (ai9 aoX aoY GV Hi)),PySem.W.mg_of X G IQ,J0.kp,B31⟩
 have J3:=cj (st:=qo) IW IX IY
 have B32:=J3.binds (ps:=OA) fun _ _ _ _ _ _ us hl=>match us,hl with | [_,_],_=>rfl
 have T32:cf l.prog w K mg base 1 "_law_puts" (ua):=⟨_,_,_,(bX (k:=0) J3 aeh [] [] OB [] [] [] [] Dw aei af af (aA oo (aA gH af)) [] af af af af af (by rintro vs H Q E ⟨_,_,_,_,rfl,_⟩;rfl) aiR),PySem.W.mg_of X G IV,J3.kp,B32⟩
 have J4:=cj (st:=qp) I_ Ja Jb
 have B33:=J4.binds (ps:=OC) fun _ _ _ _ _ _ us hl=>match us,hl with | [_,_,_,_,_],_=>rfl
 have T33:cf l.prog w K mg base 2 "_law_both" (xi):=⟨_,_,_,(bX (k:=1) J4 aep [("_law_puts",ua)] [] OD [] [] [] [] Dy aeq (aA (T32.mono (by omega)) af) af (aA oo (aA gH af)) [] af af af af af (by rintro vs H Q E ⟨_,_,_,_,_,_,_,_,_,_,_,_,_,_,_,rfl,_⟩;rfl) aiZ),PySem.W.mg_of X G IZ,J4.kp,B33⟩
 have J5:=cj (st:=qq) Jd Je Jf
 have B34:=J5.binds (ps:=OE) fun _ _ _ _ _ _ us hl=>match us,hl with | [_,_,_,_],_=>rfl
 have SY:cf l.prog w K mg base 3 "_law_right" (oj):=⟨_,_,_,(bX (k:=2) J5 aex [("_law_gone",j_),("_law_both",xi),("_law_same",tQ),("_law_between",kh)] [] OF [] [] [] [] DA aey (aA (SV.mono (by omega)) (aA (T33.mono (by omega)) (aA (T26.mono (by omega)) (aA (SW.mono (by omega)) af)))) af (aA kl (aA JH (aA gH af))) [] af af af af af (by rintro vs H Q E ⟨_,_,_,_,_,_,_,_,_,_,_,_,_,_,_,rfl,_⟩;rfl) ajc),PySem.W.mg_of X G Jc,J5.kp,B34⟩
 have J6:=cj (st:=qr) Jh Ji Jj
 have B35:=J6.binds (ps:=Oi) fun _ _ _ _ _ _ us hl=>match us,hl with | [_,_],_=>rfl
 have T35:cf l.prog w K mg base 1 "_law_told_otherwise" (tZ):=⟨_,_,_,(bX (k:=0) J6 aez [] [] Oj [] [] [] [] Ds aeA af af (aA Ay af) [] af af af af af (by rintro vs H Q E ⟨_,_,_,_,_,rfl,_⟩;rfl) aio),PySem.W.mg_of X G Jg,J6.kp,B35⟩
 have J7:=cj (st:=qt) Jl Jm Jn
 have B36:=J7.binds (ps:=OG) fun _ _ _ _ _ _ us hl=>match us,hl with | [_,_,_,_],_=>rfl
 have T36:cf l.prog w K mg base 7 "_law_cut_otherwise" (xj):=⟨_,_,_,(bX (k:=6) J7 aeH [("_law_gone",j_),("_law_found",fX bO bP),("_law_between",kh),("_law_told_otherwise",tZ),("_law_right",oj)] [] OH [] [] [] [] DC aeI (aA (SV.mono (by omega)) (aA (SX.mono (by omega)) (aA (SW.mono (by omega)) (aA (T35.mono (by omega)) (aA (SY.mono (by omega)) af))))) af (aA gH af) [] af af af af af (by rintro vs H Q E ⟨_,_,_,_,_,_,_,_,_,_,rfl,_⟩;rfl) ajf),PySem.W.mg_of X G Jk,J7.kp,B36⟩
 have S1:=cj (st:=bJ) Jp Jq Jr
 have B37:=S1.binds (ps:=OI) fun _ _ _ _ _ _ us hl=>match us,hl with | [_],_=>rfl
 exact cB.top (bX (k:=7) S1 aeJ [("_law_text",qy),("_law_cell_at",vL K),("_law_size",vX),("_law_change",nE),("_law_named",wo),("_law_found",fX bO bP),("_law_right",oj),("_law_mixed",lO),("_law_cut_otherwise",xj)] [] gK [] [] [] [] cN aeW (aA (SR.mono (by omega)) (aA (T18.mono (by omega)) (aA (T22.mono (by omega)) (aA (T25.mono (by omega)) (aA (T28.mono (by omega)) (aA (SX.mono (by omega)) (aA (SY.mono (by omega)) (aA (JQ.mono (by omega)) (aA (T36.mono (by omega)) af))))))))) af (aA xo (aA oo af)) [] af af af af af (by rintro vs H Q E ⟨_,_,rfl,_⟩;rfl) ajB)
theorem walk{l:PySem.W.OpenLaw}{q:Program}{loose:List Str}{XP:(Str→Option Value)→Heap→Prop}{YP:World→Heap→Prop}{d:DefRec}{K:Params→PySem.W.Frag}(hn:l.most=some 63)(uF:d.params.defaults=[])
  (hY: ∀(w:World) (h:Heap),YP w h→(K w.params).In h)
  (F: ∀(w:World) (mg:Str→Option Value) (fa:Addr) (h:Heap),(K w.params).In h→h.Ns mainGlobals mg→mg d.name=some (.ref fa)→
   ∃fd:FuncData,(∀(s:Shared) (u:Value),BindsTo s fd ⟨[u],[]⟩ [("_law_script",u)])∧ ∀base:Heap,(K w.params).In base→base.Ns mainGlobals mg→cB l.prog w (K w.params) mg base yf 8 fa fd ["_law_script"] ((fun K=> (fun vs H Q _=> (Au K) vs H Q E0)) (K w.params))):
  PySem.W.WalkO q loose XP YP l.row.toRowW d [] (fun f vs=>PySem.call f vs):=
 L2.Wa (n:=63) (k:=8) (x:="_law_script") (CX:=fun _=>yf) (sp:=fun w=> (fun K=> (fun vs H Q _=> (Au K) vs H Q E0)) (K w.params)) hn (by decide) uF ⟨rfl,by decide,by decide⟩ hY F (fun _ _ a ns hl _ hS=> ⟨a,ns,rfl,hS,fun _=>rfl⟩) fun _ _ _ _ _ z=>z
end L2.dz
namespace PySem.W.Fast
def tw15755165188193508664:Unit:=()
def tw13600723582219070053:Unit:=()
def tw16308257266362532925:Unit:=()
def tw12593890291584027236:Unit:=()
def tw3130179612771109489:Unit:=()
def tw3174175146605862296:Unit:=()
def tw4346870325100082669:Unit:=()
def tw2860815904577057430:Unit:=()
def tw1864172569610507823:Unit:=()
def tw3478207108115952327:Unit:=()
def tw5563409072351811634:Unit:=()
def tw8391281558626022271:Unit:=()
def tw10358526291683403853:Unit:=()
def tw11123093882496649143:Unit:=()
def tw6650488800092801339:Unit:=()
def tw17720424841854577054:Unit:=()
def tw2043595955880486119:Unit:=()
def tw11261451686504013723:Unit:=()
def tw12569786960797330236:Unit:=()
def tw1177437858033436139:Unit:=()
def tw10840799294273294048:Unit:=()
def tw17473930955161136018:Unit:=()
def tw10106350269683389107:Unit:=()
def tw7191567661464344409:Unit:=()
def tw12278250733981117742:Unit:=()
def tw9695905230271195783:Unit:=()
def tw15663148175374492350:Unit:=()
def tw16873399436519131598:Unit:=()
def tw8058679749479637349:Unit:=()
def tw3509614825063121316:Unit:=()
def tw5831096173680078717:Unit:=()
def tw15060003823991929564:Unit:=()
def tw8952187890794716296:Unit:=()
def tw14017499582228542260:Unit:=()
def tw11391036280206638637:Unit:=()
def tw10266341732731283870:Unit:=()
def tw5913013997230146279:Unit:=()
def tw4530394816499554783:Unit:=()
def tw341672521010622385:Unit:=()
def tw7004262926283849295:Unit:=()
def tw15439081481944538525:Unit:=()
def tw13096310017985749829:Unit:=()
def tw14605748448903093789:Unit:=()
def tw16593877545413116368:Unit:=()
def tw911007170388734127:Unit:=()
def tw16504653083922825697:Unit:=()
def tw16518444763877695126:Unit:=()
def tw15564039604930678712:Unit:=()
def tw1285225928157893557:Unit:=()
def tw13104062511338650720:Unit:=()
def tw12338057785946604064:Unit:=()
def tw1080069746527363375:Unit:=()
def tw15271592482574590360:Unit:=()
def tw7846468665514171910:Unit:=()
def tw10473889529536124626:Unit:=()
def tw11649999743601659085:Unit:=()
def tw13508793598277199634:Unit:=()
def tw5936797519614607420:Unit:=()
def tw2416152411780289422:Unit:=()
def tw11409039756671102581:Unit:=()
def tw9763412542231525756:Unit:=()
def tw18198431776746667830:Unit:=()
def tw620019764361046723:Unit:=()
def tw1117501016393630649:Unit:=()
def tw17402724056196242364:Unit:=()
def tw652618473339929121:Unit:=()
def tw11792008013047998202:Unit:=()
def tw14232975509290945550:Unit:=()
def tw7328009938134135021:Unit:=()
def tw7922458586524767999:Unit:=()
def tw5570690829426159752:Unit:=()
def tw6558436979804772906:Unit:=()
def tw6804576838470718487:Unit:=()
def tw11457407775252483108:Unit:=()
def tw6767782336535044549:Unit:=()
def tw14530833117352504225:Unit:=()
def tw11609608686872748703:Unit:=()
def tw9178677404303084014:Unit:=()
def tw17866657609915012688:Unit:=()
def tw300461826225449751:Unit:=()
def tw16696326067280212346:Unit:=()
def tw16653345748360194297:Unit:=()
def tw16157128401196947619:Unit:=()
def tw3783277832749474289:Unit:=()
def tw812966149802170540:Unit:=()
def tw15180309990200402777:Unit:=()
def tw11602994738585452838:Unit:=()
end PySem.W.Fast
open PySem PySem.W PyProof.Rows
set_option maxRecDepth 100000 in
set_option maxHeartbeats 0 in
theorem PySem.Challenge.cw_inkloom_k08_past_one_another_holds : PySem.Challenge.rw_inkloom_k08_past_one_another.Holds := by
 w_on;o_law;k_head;(case hw=>w_witness2)
 k_fill
 refine L2.dz.walk (l:=PySem.Challenge.rw_inkloom_k08_past_one_another) rfl rfl (fun w h Y=>PySem.W.kIn_of Y) ?F
 case F=>
  intro w mg fa h KX G kR
  refine' L2.dz.all_mk KX G kR ?FW ?FX ?FY ?FZ ?F_ ?Ga ?Gb ?Gd ?Ge ?Gf ?Gg ?Gh ?Aw ?Ax ?Gi ?Gj ?Gk ?Gm ?Gn ?Gp ?Gq ?Gr ?Gs ?Gu ?Gv ?Gw ?Gx ?Gy ?Gz ?GA ?GB ?GC ?GD ?GF ?GG ?GH ?GI ?GJ ?GK ?GL ?GN ?GO ?GP ?GQ ?GR ?GS ?GU ?GV ?GW ?GX ?GY ?GZ ?G0 ?G1 ?G3 ?G4 ?G5 ?G6 ?G7 ?G8 ?G9 ?G_ ?Ha ?Hb ?Hc ?He ?Hf ?Hg ?Hh ?Hi ?e5 ?e6 ?a0 ?l0 ?c0 ?k0 ?a1 ?l1 ?c1 ?k1 ?a2 ?l2 ?c2 ?k2 ?a3 ?l3 ?c3 ?k3 ?a4 ?l4 ?c4 ?k4 ?a5 ?l5 ?c5 ?k5 ?a6 ?l6 ?c6 ?k6 ?a7 ?l7 ?c7 ?k7 ?a8 ?i8 ?l8 ?c8 ?k8 ?a9 ?i9 ?l9 ?c9 ?k9 ?Hj ?Hk ?Hl ?iz ?tW ?Hn ?Ho ?Hq ?gE ?tX ?Hr ?Hs ?iA ?xf ?Ht ?Hu ?sW ?Hv ?Hw ?Hx ?Hy ?Hz ?HA ?HB ?vk ?HC ?HD ?HE ?yG ?HF ?HG ?HH ?HI ?HJ ?HK ?HL ?HM ?HN ?HP ?HQ ?HR ?HS ?HU ?HV ?HW ?HX ?HY ?HZ ?H0 ?H_ ?Ia ?Ib ?Ic ?Ie ?Ig ?Ih ?sX ?Ii ?Ij ?Ik ?Il ?Im ?Io ?Ip ?vm ?Iq ?Ir ?Iu ?vn ?Iv ?Iw ?Iy ?Iz ?IA ?IB ?IC ?ID ?IE ?IF ?IG ?IH ?II ?IJ ?IL ?IM ?IP ?IQ ?IS ?IT ?IU ?IV ?IW ?IX ?IY ?IZ ?I_ ?Ja ?Jb ?Jc ?Jd ?Je ?Jf ?Jg ?Jh ?Ji ?Jj ?Jk ?Jl ?Jm ?Jn ?Jo ?Jp ?Jq ?Jr ?Js ?Jt ?Ju ?Jv ?Jw ?Jx ?Jy ?Jz ?JA ?JB ?JC ?JD ?JE
  (case FW=>k_is)
  (case FX=>k_is)
  (case FY=>k_is)
  (case FZ=>k_is)
  (case F_=>k_is)
  (case Ga=>k_is)
  (case Gb=>k_is)
  (case Gd=>k_is)
  (case Ge=>k_is)
  (case Gf=>k_is)
  (case Gg=>k_is)
  (case Gh=>k_is)
  (case Aw=>k_is)
  (case Ax=>k_is)
  (case Gi=>k_is)
  (case Gj=>k_is)
  (case Gk=>k_is)
  (case Gm=>k_is)
  (case Gn=>k_is)
  (case Gp=>k_is)
  (case Gq=>k_is)
  (case Gr=>k_is)
  (case Gs=>k_is)
  (case Gu=>k_is)
  (case Gv=>k_exc)
  (case Gw=>k_exc)
  (case Gx=>k_is)
  (case Gy=>k_is)
  (case Gz=>kernel_rfl)
  (case GA=>k_is)
  (case GB=>k_is)
  (case GC=>k_is)
  (case GD=>kernel_rfl)
  (case GF=>kernel_rfl)
  (case GG=>kernel_rfl)
  (case GH=>kernel_rfl)
  (case GI=>kernel_rfl)
  (case GJ=>kernel_rfl)
  (case GK=>kernel_rfl)
  (case GL=>kernel_rfl)
  (case GN=>kernel_rfl)
  (case GO=>kernel_rfl)
  (case GP=>kernel_rfl)
  (case GQ=>kernel_rfl)
  (case GR=>kernel_rfl)
  (case GS=>kernel_rfl)
  (case GU=>kernel_rfl)
  (case GV=>kernel_rfl)
  (case GW=>k_is)
  (case GX=>k_is)
  (case GY=>kernel_rfl)
  (case GZ=>k_is)
  (case G0=>k_is)
  (case G1=>k_is)
  (case G3=>kernel_rfl)
  (case G4=>kernel_rfl)
  (case G5=>kernel_rfl)
  (case G6=>kernel_rfl)
  (case G7=>kernel_rfl)
  (case G8=>kernel_rfl)
  (case G9=>kernel_rfl)
  (case G_=>kernel_rfl)
  (case Ha=>kernel_rfl)
  (case Hb=>kernel_rfl)
  (case Hc=>kernel_rfl)
  (case He=>kernel_rfl)
  (case Hf=>kernel_rfl)
  (case Hg=>kernel_rfl)
  (case Hh=>kernel_rfl)
  (case Hi=>kernel_rfl)
  (case e5=>k_is)
  (case e6=>k_is)
  (case a0=>k_is)
  (case l0=>k_is)
  (case c0=>k_is)
  (case k0=>k_is)
  (case a1=>k_is)
  (case l1=>k_is)
  (case c1=>k_is)
  (case k1=>k_is)
  (case a2=>k_is)
  (case l2=>k_is)
  (case c2=>k_is)
  (case k2=>k_is)
  (case a3=>k_is)
  (case l3=>k_is)
  (case c3=>k_is)
  (case k3=>k_is)
  (case a4=>k_is)
  (case l4=>k_is)
  (case c4=>k_is)
  (case k4=>k_is)
  (case a5=>k_is)
  (case l5=>k_is)
  (case c5=>k_is)
  (case k5=>k_is)
  (case a6=>k_is)
  (case l6=>k_is)
  (case c6=>k_is)
  (case k6=>k_is)
  (case a7=>k_is)
  (case l7=>k_is)
  (case c7=>k_is)
  (case k7=>k_is)
  (case a8=>k_is)
  (case i8=>k_is)
  (case l8=>k_is)
  (case c8=>k_is)
  (case k8=>k_is)
  (case a9=>k_is)
  (case i9=>k_is)
  (case l9=>k_is)
  (case c9=>k_is)
  (case k9=>k_is)
  (case Hj=>k_is)
  (case Hk=>k_is)
  (case Hl=>k_is)
  (case iz=>k_is)
  (case tW=>k_is)
  (case Hn=>k_is)
  (case Ho=>k_is)
  (case Hq=>k_is)
  (case gE=>k_is)
  (case tX=>k_is)
  (case Hr=>k_is)
  (case Hs=>k_is)
  (case iA=>k_is)
  (case xf=>k_is)
  (case Ht=>k_is)
  (case Hu=>k_is)
  (case sW=>k_is)
  (case Hv=>k_is)
  (case Hw=>k_is)
  (case Hx=>k_is)
  (case Hy=>k_is)
  (case Hz=>k_is)
  (case HA=>k_is)
  (case HB=>k_is)
  (case vk=>k_is)
  (case HC=>k_is)
  (case HD=>k_is)
  (case HE=>k_is)
  (case yG=>k_is)
  (case HF=>k_is)
  (case HG=>k_is)
  (case HH=>k_is)
  (case HI=>k_is)
  (case HJ=>k_is)
  (case HK=>k_is)
  (case HL=>k_is)
  (case HM=>k_is)
  (case HN=>k_is)
  (case HP=>k_is)
  (case HQ=>k_is)
  (case HR=>k_is)
  (case HS=>k_is)
  (case HU=>k_is)
  (case HV=>k_is)
  (case HW=>k_is)
  (case HX=>k_is)
  (case HY=>k_is)
  (case HZ=>k_is)
  (case H0=>k_is)
  (case H_=>k_is)
  (case Ia=>k_is)
  (case Ib=>k_is)
  (case Ic=>k_is)
  (case Ie=>k_is)
  (case Ig=>k_is)
  (case Ih=>k_is)
  (case sX=>k_is)
  (case Ii=>k_is)
  (case Ij=>k_is)
  (case Ik=>k_is)
  (case Il=>k_is)
  (case Im=>k_is)
  (case Io=>k_is)
  (case Ip=>k_is)
  (case vm=>k_is)
  (case Iq=>k_is)
  (case Ir=>k_is)
  (case Iu=>k_is)
  (case vn=>k_is)
  (case Iv=>k_is)
  (case Iw=>k_is)
  (case Iy=>k_is)
  (case Iz=>k_is)
  (case IA=>k_is)
  (case IB=>k_is)
  (case IC=>k_is)
  (case ID=>k_is)
  (case IE=>k_is)
  (case IF=>k_is)
  (case IG=>k_is)
  (case IH=>k_is)
  (case II=>k_is)
  (case IJ=>k_is)
  (case IL=>k_is)
  (case IM=>k_is)
  (case IP=>k_is)
  (case IQ=>k_is)
  (case IS=>k_is)
  (case IT=>k_is)
  (case IU=>k_is)
  (case IV=>k_is)
  (case IW=>k_is)
  (case IX=>k_is)
  (case IY=>k_is)
  (case IZ=>k_is)
  (case I_=>k_is)
  (case Ja=>k_is)
  (case Jb=>k_is)
  (case Jc=>k_is)
  (case Jd=>k_is)
  (case Je=>k_is)
  (case Jf=>k_is)
  (case Jg=>k_is)
  (case Jh=>k_is)
  (case Ji=>k_is)
  (case Jj=>k_is)
  (case Jk=>k_is)
  (case Jl=>k_is)
  (case Jm=>k_is)
  (case Jn=>k_is)
  (case Jo=>k_is)
  (case Jp=>k_is)
  (case Jq=>k_is)
  (case Jr=>k_is)
  (case Js=>k_is)
  (case Jt=>k_is)
  (case Ju=>k_is)
  (case Jv=>k_is)
  (case Jw=>k_is)
  (case Jx=>k_is)
  (case Jy=>k_is)
  (case Jz=>k_is)
  (case JA=>k_is)
  (case JB=>k_is)
  (case JC=>k_is)
  (case JD=>k_is)
  (case JE=>k_is)
