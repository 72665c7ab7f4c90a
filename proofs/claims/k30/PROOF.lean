import PyProof.Rows.All
import Wide.All
import OpenK.AllK
import Wide.FinOn
import Lean
import PyProof.EqAt
import PyProof.EqKinds
import PyProof.TupleCall
import PyProof.Rows.EqDataRows
import PyProof.DictList
import PyProof.FactsAll.dict_1
import PyProof.FactsAll.subtypes_4
import KE.KTryMore
import PyProof.WalksEnum
import PyProof.EnumMake
import PyProof.ListStr
import PyProof.TupleOfStr
import PyProof.Dict
import PyProof.ToksMono
import PyProof.StrCalls6
import PyProof.StrWalks
import PyProof.ConsumeWalk
import PyProof.CallStr
import PyProof.MeetsStr
import KE.KIntText
import PyProof.StrCalls2
import PyProof.StrOps2
import KE.KSortTup
import PyProof.WalksMore
import PyProof.TupleIter
import PyProof.ListRange
import KE.KRevIter
import PyProof.StrLawsIn
import PyProof.Rows.StrCut
import PySem.Challenge.RW_inkloom_k30_all_cursors_stepped
set_option Elab.async false
set_option linter.all false
set_option maxRecDepth 100000
set_option compiler.extract_closed false
noncomputable section
open PySem.W (Frag InstAt callWith_K callWith_K0 cellsFrom_some codeRec_of emptyDict exmOne handedIn hasDictIn hideAll hideAll_get instObj kia_one kitOne kitx_dict kitx_list lookIn makesIn methodObj nsIn of_hideAll plainGet plainGet_of plainOver takerIn)
theorem zqT{p:Prop}[Decidable p](h:p):decide p=true:=decide_eq_true h
theorem zqF{p:Prop}[Decidable p](h: ¬p):decide p=false:=decide_eq_false h
theorem zqA{α:Type}{a b:List α}:(a++b).length=a.length+b.length:=List.length_append
theorem zqR(n:Nat):n≤n:=Nat.le_refl n
theorem zqZ(n:Nat):0≤n:=Nat.zero_le n
def zaa:=@List.mem_cons
def zab:=@Bool.and_eq_true
def zac:=@List.not_mem_nil
def zad:=@List.size_toArray
def zae:=@Nat.ne_of_lt
def zaf:=@List.length_take
def zag:=@List.length_map
def zah:=@List.getElem?_eq_some_iff
def zai:=@List.length_drop
def zaj:=@List.mem_of_getElem?
def zak:=@List.getElem?_map
def zal:=@Option.some.inj
def zam:=@Nat.lt_of_lt_of_le
def zan:=@Bool.false_ne_true
def zao:=@List.take_of_length_le
def zap:=@List.map_append
def zaq:=@Nat.le_trans
def zar:=@List.length_cons
def zas:=@List.mem_singleton
def zat:=@Int.toNat_natCast
def zau:=@List.mem_cons_of_mem
def zav:=@List.getElem?_eq_getElem
def zaw:=@Nat.lt_irrefl
def zax:=@List.mem_append
def zay:=@List.mem_cons_self
def zaz:=@List.mem_append_right
def zaA:=@Int.emod_nonneg
def zaB:=@Bool.eq_iff_iff
def zaC:=@List.append_nil
def zaD:=@List.take_append_drop
def zaE:=@Nat.zero_add
def zaF:=@Int.emod_lt_of_pos
def zaG:=@Bool.not_eq_true'
def zaH:=@List.mem_append_left
def zaI:=@List.getElem?_append_right
def zaJ:=@List.getElem?_append_left
def zaK:=@List.all_eq_true
def zaL:=@List.mem_map
def zaM:=@List.drop_zero
def zaN:=@List.takeWhile_cons
def zaO:=@List.map_cons
def zaP:=@Nat.lt_succ_of_lt
def zaQ:=@Nat.min_eq_left
def zaR:=@List.mem_range
def zaS:=@List.all_cons
def zaT:=@List.lookup_cons
def zaU:=@List.count_append
def zaV:=@List.getElem?_set_self
def zaW:=@Bool.false_eq_true
def zaX:=@List.getElem_of_mem
def zaY:=@Array.eq_empty_of_size_eq_zero
def zaZ:=@List.cons_append
def zba:=@List.take_succ_eq_append_getElem
def zbb:=@Array.length_toList
def zbc:=@Nat.ne_of_gt
def zbd:=@Nat.lt_succ_self
def zbe:=@List.nodup_cons
def zbf:=@List.replicate_succ
def zbg:=@List.length_reverse
def zbh:=@Nat.le_add_right
def zbi:=@Int.le_refl
def zbj:=@Nat.pos_of_ne_zero
def zbk:=@Nat.not_lt_zero
def zbl:=@Nat.lt_of_succ_lt_succ
def zbm:=@List.getElem_mem
def zbn:=@Nat.sub_zero
def zbo:=@List.pairwise_iff_getElem
def zbp:=@List.pairwise_cons
def zbq:=@List.drop_of_length_le
def zbr:=@List.take_nil
def zbs:=@List.eq_nil_of_length_eq_zero
def zbt:=@List.of_mem_zip
def zbu:=@Option.isSome_iff_exists
def zbv:=@List.flatten_cons
def zbw:=@List.append_assoc
def zbx:=@List.nil_append
def zby:=@Option.map_some
def zbz:=@Bool.false_xor
def zbA:=@Bool.true_xor
def zbB:=@List.find?_cons
def zbC:=@List.any_eq_true
def zbD:=@List.take_length
def zbE:=@List.mem_of_mem_drop
def zbF:=@List.mem_of_mem_take
def zbG:=@List.count_le_length
def zbH:=@List.take_length_add_append
def zbI:=@Nat.min_eq_right
def zbJ:=@List.dropLast_concat
def zbK:=@List.filterMap_cons
def zbL:=@List.mem_filterMap
def zbM:=@List.length_singleton
def zbN:=@Option.ne_none_iff_exists'
def zbO:=@List.drop_eq_getElem_cons
def zbP:=@List.take_succ_cons
def zbQ:=@List.filter_cons_of_neg
def zbR:=@List.getElem?_drop
def zbS:=@Array.size_extract
def zbT:=@List.take_append_of_le_length
def zbU:=@List.reverse_append
def zbV:=@List.dropLast_subset
def zbW:=@List.mem_of_getLast?
def zbX:=@List.eq_nil_or_concat
def zbY:=@List.concat_eq_append
def zbZ:=@List.replicate_succ'
def zca:=@Bool.or_eq_false_iff
def zcb:=@List.pairwise_singleton
def zcc:=@List.pairwise_append
namespace L2
open PySem PySem.Spec PyProof.Rows
abbrev Key:=Sum Int Str
def oX:Key->Value->Bool
 | .inl k,v=>Value.isInt k v
 | .inr x,v=>Value.isStrOf x v
def Nb(w:World):Key->Int
 | .inl k=>hashInt k
 | .inr x=>hashStr w x
theorem ko: ∀{k:Key} {v:Value},oX k v=true->(∃i t,k=Sum.inl i/\v=Value.int i t)\/(∃x t,k=Sum.inr x/\v=Value.str x t)
 | .inl i,v,h=>by
  obtain⟨t,e⟩:=Value.isInt_shape (k:=i) (v:=v) h
  exact .inl ⟨i,t,rfl,e⟩
 | .inr x,v,h=>by
  obtain⟨t,e⟩:=Value.isStrOf_shape (x:=x) (v:=v) h
  exact .inr ⟨x,t,rfl,e⟩
theorem Nc(i:Int)(t:Tok):oX (.inl i) (.int i t)=true:=by simp[oX,Value.isInt]
theorem Nf(x:Str)(t:Tok):oX (.inr x) (.str x t)=true:=by simp[oX,Value.isStrOf]
theorem Ng(a b:Int):decide ((Sum.inl a:Key)=Sum.inl b)=(a==b):=by
 by_cases e:a=b
 ·subst e;simp
 ·have h: ¬(Sum.inl a:Key)=Sum.inl b:=fun q=>e (Sum.inl.inj q)
  rw[zqF h]
  exact(beq_eq_false_iff_ne.mpr e).symm
theorem Nh(a b:Str):decide ((Sum.inr a:Key)=Sum.inr b)=decide (a=b):=by
 by_cases e:a=b
 ·subst e;simp
 ·have h: ¬(Sum.inr a:Key)=Sum.inr b:=fun q=>e (Sum.inr.inj q)
  rw[zqF h,zqF e]
theorem Ni(a:Int)(b:Str):decide ((Sum.inl a:Key)=Sum.inr b)=false:=zqF (fun q=>nomatch q)
theorem Nj(a:Str)(b:Int):decide ((Sum.inr a:Key)=Sum.inl b)=false:=zqF (fun q=>nomatch q)
def jw(prog:Program)(w:World):PySem.KeyKind prog w Key where
 is:=oX
 hash:=Nb w
 inj:=fun v a b ha hb=>by
  rcases ko ha with⟨i,t,rfl,rfl⟩ | ⟨x,t,rfl,rfl⟩
  ·rcases ko hb with⟨j,u,rfl,e⟩ | ⟨y,u,rfl,e⟩
   ·injection e with e1 _;rw[e1]
   ·exact nomatch e
  ·rcases ko hb with⟨j,u,rfl,e⟩ | ⟨y,u,rfl,e⟩
   ·exact nomatch e
   ·injection e with e1 _;rw[e1]
 byValue:=fun k v h=>by
  rcases ko h with⟨i,t,rfl,rfl⟩ | ⟨x,t,rfl,rfl⟩ <;>rfl
 pyHash:=fun hv h=>by
  rcases ko hv with⟨i,t,rfl,rfl⟩ | ⟨x,t,rfl,rfl⟩
  ·exact wpAny_pyHash_int h
  ·exact wpAny_pyHash_str h
 eqBool:=fun hu hv h=>by
  rcases ko hu with⟨i,t,rfl,rfl⟩ | ⟨x,t,rfl,rfl⟩
  ·rcases ko hv with⟨j,u,rfl,rfl⟩ | ⟨y,u,rfl,rfl⟩
   ·rw[Ng] at h;exact wpAny_eqBool_int h
   ·rw[Ni] at h;exact SeqAt.EqAt.int_str i t y u _ _ _ _ h
  ·rcases ko hv with⟨j,u,rfl,rfl⟩ | ⟨y,u,rfl,rfl⟩
   ·rw[Nj] at h;exact SeqAt.EqAt.str_int x t j u _ _ _ _ h
   ·rw[Nh] at h;exact wpAny_eqBool_str h
 «strs»:=fun k x t v h=>by
  rcases ko h with⟨i,u,rfl,e⟩ | ⟨y,u,rfl,e⟩
  ·exact nomatch e
  ·injection e with e1 _
   subst e1
   cases v<;>rfl
theorem Nk(prog:Program)(w:World)(i:Int)(t:Tok):(jw prog w).is (.inl i) (.int i t)=true:=Nc i t
theorem Nl(prog:Program)(w:World)(x:Str)(t:Tok):(jw prog w).is (.inr x) (.str x t)=true:=Nf x t
inductive V where
 | aA | bl (b:Bool) | int (i:Int) | str (x:Str) | eT (b:Array UInt8) | lP (b:UInt64) | ref (a:Addr) | ty (n:String)
 deriving DecidableEq
def RelV:V->Value->Prop
 | .aA,u=>u=Value.none
 | .bl b,u=>u=Value.bool b
 | .int i,u=> ∃t,u=Value.int i t
 | .str x,u=> ∃t,u=Value.str x t
 | .eT b,u=> ∃t,u=Value.bytes b t
 | .lP b,u=> ∃t,u=Value.float b t
 | .ref a,u=>u=Value.ref a
 | .ty n,u=>u=Value.type n
abbrev Vals:List V->List Value->Prop:=Paired RelV
theorem Vals.length{xs:List V}{us:List Value}(r:Vals xs us):xs.length=us.length:=Paired.length r
theorem Vals.get: ∀{xs:List V} {us:List Value} {i:Nat} {x:V},Vals xs us->xs[i]?=some x-> ∃u,us[i]?=some u/\RelV x u
 | _,_,_,_, .nil,e=>by simp at e
 | _,_,0,_, .cons r _,e=>by simp at e;subst e;exact⟨_,rfl,r⟩
 | _,_,i+1,x, .cons _ t,e=>by
  obtain⟨u,h1,h2⟩:=Vals.get (i:=i) (x:=x) t (by simpa using e)
  exact⟨u,by simpa using h1,h2⟩
theorem Vals.set{x:V}{u:Value}(r:RelV x u): ∀{xs:List V} {us:List Value} (i:Nat),Vals xs us->Vals (xs.set i x) (us.set i u)
 | _,_,_, .nil=> .nil
 | _,_,0, .cons _ t=> .cons r t
 | _,_,i+1, .cons q t=> .cons q (Vals.set r i t)
theorem Vals.append: ∀{xs ys:List V} {us ws:List Value},Vals xs us->Vals ys ws->Vals (xs++ys) (us++ws)
 | _,_,_,_, .nil,s=>s
 | _,_,_,_, .cons r t,s=> .cons r (Vals.append t s)
theorem Vals.take: ∀{xs:List V} {us:List Value} (n:Nat),Vals xs us->Vals (xs.take n) (us.take n)
 | _,_,0,_=> .nil
 | _,_,_+1, .nil=> .nil
 | _,_,n+1, .cons r t=> .cons r (Vals.take n t)
theorem Vals.drop: ∀{xs:List V} {us:List Value} (n:Nat),Vals xs us->Vals (xs.drop n) (us.drop n)
 | _,_,0,r=>r
 | _,_,_+1, .nil=> .nil
 | _,_,n+1, .cons _ t=>Vals.drop n t
def jx:Option V->Option Value->Prop
 | some v,some u=>RelV v u
 | none,none=>True
 | _,_=>False
def KV{κ:Type}:List (κ×V)->List (κ×Value)->Prop:=Paired fun(p:κ×V) (q:κ×Value)=>p.1=q.1/\RelV p.2 q.2
def kV:Key->V
 | .inl i=> .int i
 | .inr x=> .str x
inductive HO where
 | lst (xs:List V)
 | tup (xs:List V)
 | dK (aQ:List (Key×V)) | dT (aQ:List (List Key×V))
 | set (S:Int->Bool) (n:Nat)
 | ins (C dx:Addr) (fs:List (Str×V))
 | own (x:Addr)
 | xd (fs:List (Str×V))
 | met (f x:Addr)
 | gO (lo hi:Int)
 | bE (o:Obj) (u:HO)
 | jy (ps:Array Value)
 | ext (φ:Heap->Prop)
abbrev Hp:=Addr->Option HO
def upd(H:Hp)(a:Addr)(o:HO):Hp:=fun b=>if b=a then some o else H b
theorem aD{H:Hp}{a:Addr}{o:HO}:upd H a o a=some o:=by unfold upd;rw[if_pos rfl]
theorem aR{H:Hp}{a b:Addr}{o:HO}(h:b≠a):upd H a o b=H b:=by unfold upd;rw[if_neg h]
theorem ym{H:Hp}{a b:Addr}{o u:HO}(h:H a=some o)(h':H b=some u)(d:o≠u):a≠b:=by
 intro e;subst e;rw[h] at h';exact d (zal h')
theorem bT{H:Hp}{a b:Addr}{o:HO}(h:H a=some o)(h':H b=none):a≠b:=by
 intro e;subst e;rw[h] at h';cases h'
section
variable (P:Program) (w:World)
def cB(H:Hp)(h:Heap)(a:Addr):HO->Prop
 | .lst xs=>xs.length<=sizeLine/\ ∃(its:List Value) (n:Nat),Vals xs its/\h.get? a=some {cls:= .type "list",data:= .seq its.toArray n}
 | .tup xs=>xs.length<=sizeLine/\ ∃its:List Value,Vals xs its/\IsTup h a its.toArray
 | .dK aQ=>aQ.length<=sizeLine/\(a==sysModules)=false/\ ∃vs,KV aQ vs/\h.DictOf (jw P w) a vs
 | .dT aQ=>aQ.length<=sizeLine/\(a==sysModules)=false/\ ∃xs:List (List Key×Addr×Value),
   Paired (fun(p:List Key×V) (q:List Key×Addr×Value)=>p.1=q.1/\H q.2.1=some (.tup<|p.1.map kV)/\RelV p.2 q.2.2) aQ xs/\
   ∃o es ep,h.get? a=some o/\o.ExactDict/\o.data= .dict es ep/\es.toList=xs.map (entryOfKey<|tupleKind<|jw P w)/\(xs.map (·.1)).Nodup
 | .set S n=>h.SetOf (intKind P w) a S n
 | .ins C dx fs=>H dx=some (.own a)/\fs.length<=1000/\dx≠a/\h.get? a=some (instObj C dx)/\
   ∃mA,h.Ns1 dx mA/\(∀f,jx (fs.lookup f)<|mA f)/\PySem.Within mA (fs.map (·.1))
 | .own _=> ∃o,h.get? a=some o
 | .xd fs=> ∃mA,h.Ns1 a mA/\ ∀f,jx (fs.lookup f) (mA f)
 | .gO lo hi=> ∃t u v,h.get? a=some {cls:= .type "range",data:= .fields #[.int lo t, .int hi u, .int 1 v]}
 | .bE o u=>h.get? a=some o/\cB H h a u
 | .jy ps=>h.get? a=some {cls:= .none,data:= .fields ps}
 | .met f x=>h.get? a=some (methodObj (.ref f)<|.ref x)
 | .ext φ=>φ h/\(∃o,h.get? a=some o)/\ ∀h1 h2:Heap,φ h1->(∀o,h1.get? a=some o->h2.get? a=some o)->φ h2
def bZ(H:Hp)(h:Heap):Prop:= ∀a o,H a=some o->cB P w H h a o
end
section
variable {P:Program} {w:World} {H H':Hp} {h h':Heap} {a:Addr} {o:HO}
theorem cB.lt(x:cB P w H h a o):a<h.objs.size:=by
 cases o with
 | lst xs=>obtain⟨_,_,_,_,e⟩:=x;exact Heap.lt_size e
 | tup xs=>obtain⟨_,_,_,p⟩:=x;exact p.lt
 | dK aQ=>obtain⟨_,_,_,_,o,_,_,e,_⟩:=x;exact Heap.lt_size e
 | dT aQ=>obtain⟨_,_,_,_,o,_,_,e,_⟩:=x;exact Heap.lt_size e
 | set S n=>obtain⟨o,_,_,_,e,_⟩:=x;exact Heap.lt_size e
 | ins C dx fs=>obtain⟨_,_,_,e,_⟩:=x;exact Heap.lt_size e
 | own y=>obtain⟨_,e⟩:=x;exact Heap.lt_size e
 | xd fs=>obtain⟨_,⟨_,_,_,e,_⟩,_⟩:=x;exact Heap.lt_size e
 | gO lo hi=>obtain⟨_,_,_,e⟩:=x;exact Heap.lt_size e
 | bE ob u=>obtain⟨e,_⟩:=x;exact Heap.lt_size e
 | jy ps=>exact Heap.lt_size (show h.get? a=some _ from x)
 | met f y=>exact Heap.lt_size (show h.get? a=some _ from x)
 | ext φ=>obtain⟨_,⟨_,e⟩,_⟩:=x;exact Heap.lt_size e
theorem Paired.eU{α β:Type}{F G:α->β->Prop}: ∀{l₁:List α} {l₂:List β},Paired F l₁ l₂->(∀a b,F a b->G a b)->Paired G l₁ l₂
 | _,_, .nil,_=> .nil
 | _,_, .cons r t,f=> .cons (f _ _ r) (Paired.eU t f)
theorem cB.ia(x:cB P w H h a o)(k: ∀b u,(b=a\/H b=some (.own a))->h.get? b=some u->h'.get? b=some u)
  (ho: ∀b,H b=some (.own a)->H' b=some (.own a)) (ht: ∀b xs,H b=some (.tup xs)->H' b=some (.tup xs)):cB P w H' h' a o:=by
 induction o with
 | lst xs=>obtain⟨z,its,n,r,e⟩:=x;exact⟨z,its,n,r,k _ _ (.inl rfl) e⟩
 | tup xs=>obtain⟨z,its,r,ob,e,c⟩:=x;exact⟨z,its,r,ob,k _ _ (.inl rfl) e,c⟩
 | dK aQ=>obtain⟨z,y,vs,r,ob,es,ep,e,c⟩:=x;exact⟨z,y,vs,r,ob,es,ep,k _ _ (.inl rfl) e,c⟩
 | dT aQ=>
  obtain⟨z,y,xs,r,ob,es,ep,e,c⟩:=x
  exact⟨z,y,xs,Paired.eU r fun p q z=> ⟨z.1,ht _ _ z.2.1,z.2.2⟩,ob,es,ep,k _ _ (.inl rfl) e,c⟩
 | set S n=>obtain⟨ob,es,ep,t,e,c⟩:=x;exact⟨ob,es,ep,t,k _ _ (.inl rfl) e,c⟩
 | ins C dx fs=>
  obtain⟨d,z,ne,e,mA,⟨od,es,ep,e2,c⟩,r⟩:=x
  exact⟨ho _ d,z,ne,k _ _ (.inl rfl) e,mA,⟨od,es,ep,k _ _ (.inr d) e2,c⟩,r⟩
 | own y=>obtain⟨ob,e⟩:=x;exact⟨ob,k _ _ (.inl rfl) e⟩
 | xd fs=>obtain⟨mA,⟨od,es,ep,e,c⟩,r⟩:=x;exact⟨mA,⟨od,es,ep,k _ _ (.inl rfl) e,c⟩,r⟩
 | gO lo hi=>obtain⟨t,u,v,e⟩:=x;exact⟨t,u,v,k _ _ (.inl rfl) e⟩
 | bE ob u ih=>obtain⟨e,q⟩:=x;exact⟨k _ _ (.inl rfl) e,ih q⟩
 | jy ps=>
  have e:h.get? a=some {cls:= .none,data:= .fields ps}:=x
  show h'.get? a=some {cls:= .none,data:= .fields ps}
  exact k a _ (.inl rfl) e
 | met f y=>
  have e:h.get? a=some (methodObj (.ref f)<|.ref y):=x
  show h'.get? a=some (methodObj (.ref f)<|.ref y)
  exact k a _ (.inl rfl) e
 | ext φ=>obtain⟨p,⟨o,e⟩,st⟩:=x;exact⟨st _ _ p fun o q=>k _ _ (.inl rfl) q,⟨o,k _ _ (.inl rfl) e⟩,st⟩
theorem bZ.lt(x:bZ P w H h)(e:H a=some o):a<h.objs.size:=(x a o e).lt
theorem bZ.fresh(x:bZ P w H h)(e:h.objs.size<=a):H a=none:=by
 cases q:H a with
 | none=>rfl
 | some u=>exact absurd (zam (x.lt q) e) (zaw _)
theorem bZ.kept(x:bZ P w H h)(k: ∀b u,h.get? b=some u->h'.get? b=some u):bZ P w H h':=fun a o e=>
 (x a o e).ia (fun b u _ q=>k b u q) (fun _ q=>q) fun _ _ q=>q
theorem bZ.laid(x:bZ P w H h)(k: ∀b u,h.get? b=some u->h'.get? b=some u)(hp:h.objs.size<=a)(new:cB P w (upd H a o) h' a o):bZ P w (upd H a o) h':=fun b u e=>by
 have hn:=x.fresh hp
 by_cases hb:b=a
 ·subst hb;rw[aD] at e;cases e;exact new
 ·rw[aR hb] at e
  exact(x b u e).ia (fun c v _ q=>k c v q) (fun c q=>by rw[aR<|bT q hn];exact q) fun c xs q=>by rw[aR<|bT q hn];exact q
end
def Rd(H:Hp)(a:Addr)(u:HO):Prop:=H a=some u\/ ∃o,H a=some (.bE o u)
theorem Rd.ok{P:Program}{w:World}{H:Hp}{h:Heap}{a:Addr}{u:HO}(r:Rd H a u)(x:bZ P w H h):cB P w H h a u:=by
 rcases r with r | ⟨o,r⟩
 ·exact x a u r
 ·obtain⟨_,q⟩:=x a _ r
  exact q
def uJ:Option HO->Prop
 | some (.lst _)=>True
 | some (.dK _)=>True
 | some (.dT _)=>True
 | some (.set _ _)=>True
 | some (.ins _ _ _)=>True
 | some (.ext _)=>True
 | _=>False
section
variable {P:Program} {w:World} {H:Hp} {h h':Heap} {x e:Addr} {o':HO}
theorem bZ.write(ok:bZ P w H h)(mu:uJ (H x))(he:e=x\/H e=some (.own x))(k: ∀b u,b≠e->h.get? b=some u->h'.get? b=some u)(oY: ∃u,h'.get? e=some u)
  (new:cB P w (upd H x o') h' x o'):bZ P w (upd H x o') h':=fun b u q=>by
 have C2: ∀c y,H c=some (.own y)->c≠x:=fun c y r z=>by subst z;rw[r] at mu;exact mu
 have Nm: ∀c xs,H c=some (.tup xs)->c≠x:=fun c xs r z=>by subst z;rw[r] at mu;exact mu
 by_cases hb:b=x
 ·subst hb;rw[aD] at q;cases q;exact new
 ·rw[aR hb] at q
  by_cases mX:b=e
  ·have q':H b=some (.own x):=by
    rcases he with z | z
    ·exact absurd (mX.trans z) hb
    ·rw[mX];exact z
   rw[q] at q';cases q'
   obtain⟨v,hv⟩:=oY
   exact⟨v,by rw[mX];exact hv⟩
  ·refine(ok b u q).ia (fun c v hc r=>k c v ?_ r) (fun c r=>by rw[aR<|C2 c b r];exact r) fun c xs r=>by rw[aR<|Nm c xs r];exact r
   rcases hc with rfl | hc
   ·exact mX
   ·rintro rfl
    rcases he with z | z
    ·exact C2 c b hc z
    ·rw[hc] at z;cases z;exact hb rfl
end
structure Un (fs ex:List Addr) (H H':Hp) (h h':Heap):Prop where
 keep: ∀b o,h.get? b=some o->H b=none->b∉fs->b∉ex->h'.get? b=some o
 slot: ∀b o,h.get? b=some o->H b=none->b∈fs->b∉ex-> ∃sl,h'.get? b=some {o with slots:=sl}
 free: ∀b o,h.get? b=some o->H b=none->b∉ex->H' b=none
 there: ∀b o,h.get? b=some o->b∉ex-> ∃o',h'.get? b=some o'
 eA: ∀b xs,H b=some (.tup xs)->H' b=some (.tup xs)
 eV: ∀b o u,H b=some (.bE o u)->H' b=some (.bE o u)
 fo: ∀b ps,H b=some (.jy ps)-> ∃more,H' b=some (.jy<|ps++more)
section
variable {fs Nn ex ex':List Addr} {H H1 H2:Hp} {h h1 h2 h':Heap} {a x e:Addr} {o:HO}
theorem Un.any(u:Un fs ex H H1 h h1){b:Addr}{ob:Obj}(q:h.get? b=some ob)(n:H b=none)(hx:b∉ex): ∃sl,h1.get? b=some {ob with slots:=sl}:=by
 by_cases hb:b∈fs
 ·exact u.slot b ob q n hb hx
 ·exact⟨ob.slots,u.keep b ob q n hb hx⟩
theorem Un.kept(k: ∀b u,h.get? b=some u->h'.get? b=some u):Un fs ex H H h h':=
 ⟨fun b ob q _ _ _=>k b ob q,fun b ob q _ _ _=> ⟨ob.slots,k b ob q⟩,fun _ _ _ n _=>n,fun b ob q _=> ⟨ob,k b ob q⟩,fun _ _ q=>q,fun _ _ _ q=>q,fun _ ps q=> ⟨#[],by rw[q];simp⟩⟩
theorem Un.refl:Un fs ex H H h h:=Un.kept fun _ _ q=>q
theorem Un.laid(k: ∀b u,h.get? b=some u->h'.get? b=some u)(hp:h.objs.size<=a)(hn:H a=none):Un fs ex H (upd H a o) h h' where
 keep:=fun b u q _ _ _=>k b u q
 slot:=fun b u q _ _ _=> ⟨u.slots,k b u q⟩
 free:=fun b u q n _=>by rw[aR<|zae<|zam (Heap.lt_size q) hp];exact n
 there:=fun b u q _=> ⟨u,k b u q⟩
 eA:=fun b xs q=>by rw[aR<|bT q hn];exact q
 eV:=fun b u xs q=>by rw[aR<|bT q hn];exact q
 fo:=fun b ps q=> ⟨#[],by rw[aR<|bT q hn,q];simp⟩
theorem Un.write(mu:uJ (H x))(he:e=x\/H e=some (.own x))(k: ∀b u,b≠e->h.get? b=some u->h'.get? b=some u)(oY: ∃u,h'.get? e=some u):Un fs ex H (upd H x o) h h':=by
 have hx: ∀b,H b=none->b≠x:=fun b n z=>by subst z;rw[n] at mu;exact mu
 have hb: ∀b,H b=none->b≠e:=fun b n z=>by
  subst z
  rcases he with r | r
  ·exact hx b n r
  ·rw[n] at r;cases r
 have hm: ∀b u,H b=some u-> ¬uJ (some u)->b≠x:=fun b u q nm z=>by subst z;rw[q] at mu;exact nm mu
 refine⟨fun b u q n _ _=>k b u (hb b n) q,fun b u q n _ _=> ⟨u.slots,k b u (hb b n) q⟩,fun b u q n _=>by rw[aR (hx b n)];exact n,fun b u q _=> ?_,
  fun b xs q=>by rw[aR (hm b _ q fun z=>z)];exact q,fun b u xs q=>by rw[aR (hm b _ q fun z=>z)];exact q,fun b ps q=> ⟨#[],by rw[aR (hm b _ q fun z=>z),q];simp⟩⟩
 by_cases mX:b=e
 ·subst mX;exact oY
 ·exact⟨u,k b u mX q⟩
end
def jz(h:Heap)(H:Hp):List Addr:=(List.range h.objs.size).filter fun a=> (H a).isSome
def kq(h:Heap)(H:Hp):Heap:=hideAll h (jz h H)
theorem Np(h:Heap)(H:Hp):(kq h H).objs.size=h.objs.size:=PySem.W.hideAll_size _ _
theorem Nq{h:Heap}{H:Hp}{b:Addr}{o:Obj}(e:h.get? b=some o)(n:H b=none):(kq h H).get? b=some o:=
 hideAll_get _ e fun hm=>by
  have q:(H b).isSome=true:=(List.mem_filter.mp hm).2
  rw[n] at q;simp at q
theorem Nr{h:Heap}{H:Hp}{b:Addr}{o:Obj}(e:(kq h H).get? b=some o):h.get? b=some o/\H b=none:=by
 have e':h.get? b=some o:=of_hideAll (jz h H) e
 refine⟨e', ?_⟩
 cases q:H b with
 | none=>rfl
 | some x=>
  have hm:b∈jz h H:=List.mem_filter.mpr ⟨zaR.mpr<|Heap.lt_size e',by simp[q]⟩
  have z:(kq h H).get? b=none:=PySem.W.hideAll_none (jz h H) hm
  rw[z] at e;cases e
structure Mod (K:Frag) (mg:Str->Option Value) (base:Heap):Prop where
 mY:K.In base
 glob:base.Ns mainGlobals mg
 blt: ∃mb,base.Ns builtinsNs mb/\ ∀x:Str,x≠"__name__"->mb x=bootBuiltins x
 nolimit:base.NoLimit
structure Cx where
 prog:Program
 w:World
 K:Frag
 mg:Str->Option Value
 base:Heap
 A:Around
 N:List Str
 s₀:Shared
 H₀:Hp
 env:Env
 outer:List Env
 stack:List Env
 ex:List Addr
 fn:Str->Bool
 calm:Bool
 pn:List (Addr×Obj)
 xe:Value->Shared->Prop
def bK(l:List Env):List Addr:=l.filterMap (·.frame)
abbrev Cx.fs(X:Cx):List Addr:=bK X.outer
def uK(sc:Scope)(x:Str):Prop:=sc.names.lookup x=some .local\/sc.names.lookup x=some .cell\/sc.names.lookup x=some .free
def Loc(sc:Scope)(x:Str):Prop:=sc.names.lookup x=some .local\/sc.names.lookup x=some .cell
def Look(env:Env)(h:Heap)(m:Str->Option Value)(x:Str)(u:Value):Prop:=
 (env.kindOf x=some .local/\m x=some u)\/((env.kindOf x=some .cell\/env.kindOf x=some .free)/\ ∃c,env.cells.lookup x=some c/\h.IsCell c (some u))
structure Cx.Ok (X:Cx):Prop where
 mod:Mod X.K X.mg X.base
 kind:X.env.scope.kind= .function
 glob:X.env.globals=mainGlobals
 blt:X.env.builtins=builtinsNs
 above:X.s₀.heap.objs.size<=X.env.locals
 inj: ∀x y c,X.env.cells.lookup x=some c->X.env.cells.lookup y=some c->x=y
 has: ∀x,(X.env.kindOf x=some .cell\/X.env.kindOf x=some .free)-> ∃c,X.env.cells.lookup x=some c
 uL: ∀x c,X.fn x=true->X.env.cells.lookup x=some c->X.s₀.heap.objs.size<=c
 hd:X.calm=true->X.A.handled=none
 frames:X.A.frames=some X.stack
 ib:X.stack=X.outer\/(X.stack=X.env::X.outer/\X.env.frame=some X.env.locals)
 Nt: ∀b∈X.ex,b≠X.env.locals/\ ∀x c,X.env.cells.lookup x=some c->c≠b
 bs: ∀b o,X.base.get? b=some o->X.s₀.heap.get? b=some o/\X.H₀ b=none
 lQ:X.base.objs.size<=X.s₀.heap.objs.size
 uM: ∀b o,X.base.get? b=some o->b∉X.ex
 uN: ∀b∈X.ex,b∉X.fs
 ic:X.s₀.heap.FunFrames X.base X.outer
 mZ: ∀b∈X.fs,X.H₀ b=none
structure Inv (X:Cx) (pins:List (Addr×Obj)) (σ:List (Option V)) (H:Hp) (s:Shared):Prop where
 ok:X.Ok
 os:s.os=X.s₀.os
 bare:AllBare s.gens
 base:Un X.fs X.ex X.H₀ H X.s₀.heap s.heap
 loc: ∃m,s.heap.Ns X.env.locals m/\ ∀(i:Nat) (x:Str) (v:V),X.N[i]?=some x->σ[i]?=some (some v)->uK X.env.scope x-> ∃u,RelV v u/\Look X.env s.heap m x u
 cell: ∀x c,X.env.cells.lookup x=some c-> ∃v,s.heap.IsCell c v
 free:H X.env.locals=none
 fS: ∀x c,X.env.cells.lookup x=some c->H c=none
 pin: ∀p∈X.pn++pins,s.heap.get? p.1=some p.2/\H p.1=none/\p.1≠X.env.locals/\p.1∉X.fs/\ ∀v,p.2.data≠ .cell v
 aL:bZ X.prog X.w H s.heap
 len:σ.length=X.N.length
section
variable {X:Cx} {pins:List (Addr×Obj)} {σ:List (Option V)} {H H':Hp} {s:Shared} {h':Heap}
theorem Cx.Ok.Nu(ok:X.Ok){b:Addr}{o:Obj}(e:X.base.get? b=some o):b∉X.fs:=fun hb=>by
 have:=(ok.ic.mem hb).1
 rw[e] at this;cases this
theorem Inv.bs(I:Inv X pins σ H s): ∀b o,X.base.get? b=some o->s.heap.get? b=some o/\H b=none:=fun b o e=>
 ⟨I.base.keep b o (I.ok.bs b o e).1 (I.ok.bs b o e).2 (I.ok.Nu e)<|I.ok.uM b o e,I.base.free b o (I.ok.bs b o e).1 (I.ok.bs b o e).2<|I.ok.uM b o e⟩
theorem Inv.bk(I:Inv X pins σ H s): ∀b o,X.base.get? b=some o->s.heap.get? b=some o:=fun b o e=> (I.bs b o e).1
theorem Inv.mod(I:Inv X pins σ H s):Mod X.K X.mg X.base:=I.ok.mod
theorem Inv.cj(I:Inv X pins σ H s):X.K.In s.heap:=I.ok.mod.mY.keeps I.bk
theorem Inv.lt(I:Inv X pins σ H s):X.env.locals<s.heap.objs.size:=let ⟨_,hn,_⟩:=I.loc;hn.lt
theorem Inv.sz(I:Inv X pins σ H s):X.s₀.heap.objs.size<=s.heap.objs.size:=zaq I.ok.above (Nat.le_of_lt I.lt)
theorem Inv.C3(I:Inv X pins σ H s){a:Addr}(h:s.heap.objs.size<=a):a∉X.fs:=fun hb=>by
 obtain⟨_,o,ho,_⟩:=I.ok.ic.mem hb
 exact absurd (zam (Heap.lt_size ho)<|zaq I.sz h)<|zaw _
theorem Inv.m4(I:Inv X pins σ H s): ∀x c,X.env.cells.lookup x=some c->c≠X.env.locals:=fun x c e z=>by
 obtain⟨v,o,ho,hd⟩:=I.cell x c e
 obtain⟨m,⟨o',es,ep,dG,oZ,_⟩,_⟩:=I.loc
 rw[z,dG] at ho;cases ho;rw[oZ] at hd;cases hd
theorem Inv.ic(I:Inv X pins σ H s):s.heap.FunFrames X.base X.outer:=by
 have all: ∀(l:List Env),(∀b∈bK l,b∈X.fs)->X.s₀.heap.FunFrames X.base l->s.heap.FunFrames X.base l:=by
  intro l
  induction l with
  | nil=>intro _ _;trivial
  | cons env r ih=>
   intro hs hl
   obtain⟨hk,⟨L,o,hf,hn,ho,hd⟩,hr⟩:=hl
   have hL:L∈X.fs:=hs L (by unfold bK;rw[zbK,hf];exact zay)
   obtain⟨sl,e⟩:=I.base.slot L o ho (I.ok.mZ L hL) hL fun z=>I.ok.uN L z hL
   exact⟨hk,⟨L,_,hf,hn,e,hd⟩,ih (fun b hb=>hs b (by unfold bK;rw[zbK,hf];exact zau _ hb)) hr⟩
 exact all X.outer (fun _ hb=>hb) I.ok.ic
theorem Inv.stack(I:Inv X pins σ H s):s.heap.FunFrames X.base X.stack:=by
 rcases I.ok.ib with e | ⟨e,hf⟩
 ·rw[e];exact I.ic
 ·rw[e]
  obtain⟨m,hn,_⟩:=I.loc
  refine .cons (by rw[I.ok.kind];decide) hf hn ?_ I.ic
  exact Heap.get?_none_of_le<|zaq I.ok.lQ I.ok.above
theorem Inv.uO(I:Inv X pins σ H s): ∀b∈bK X.stack,b∈X.env.locals::X.fs:=fun b hb=>by
 rcases I.ok.ib with e | ⟨e,hf⟩
 ·rw[e] at hb;exact zau _ hb
 ·rw[e] at hb
  unfold bK at hb
  rw[zbK,hf] at hb
  exact hb
theorem Inv.uP(I:Inv X pins σ H s): ∀b∈bK X.stack,H b=none:=fun b hb=>by
 rcases zaa.mp (I.uO b hb) with e | hb
 ·rw[e];exact I.free
 ·obtain⟨_,o,ho,_⟩:=I.ok.ic.mem hb
  exact I.base.free b o ho (I.ok.mZ b hb) fun z=>I.ok.uN b z hb
theorem Inv.step{g':Array GenState}{t':Nat}{d':Drawn}{ch:List Addr}(I:Inv X pins σ H s)
  (jA: ∀b∈ch,(b∈X.ex\/X.s₀.heap.objs.size<=b)/\b≠X.env.locals/\(∀x c,X.env.cells.lookup x=some c->c≠b)/\ ∀p∈X.pn++pins,p.1≠b)
  (keep: ∀b o,b≠X.env.locals->b∉X.fs->b∉ch->s.heap.get? b=some o->H b=none->h'.get? b=some o)
  (slot: ∀b o,b≠X.env.locals->b∈X.fs->b∉ch->s.heap.get? b=some o->H b=none-> ∃sl,h'.get? b=some {o with slots:=sl}) (free: ∀b o,b∉ch->s.heap.get? b=some o->H b=none->H' b=none)
  (there: ∀b o,b∉ch->s.heap.get? b=some o-> ∃o',h'.get? b=some o')
  (eA: ∀b xs,H b=some (.tup xs)->H' b=some (.tup xs)) (eV: ∀b o u,H b=some (.bE o u)->H' b=some (.bE o u)) (fo: ∀b ps,H b=some (.jy ps)-> ∃more,H' b=some (.jy<|ps++more))
  (ns: ∀m,s.heap.Ns X.env.locals m->h'.Ns X.env.locals m) (aL:bZ X.prog X.w H' h') (hg:AllBare g'):
  Inv X pins σ H' {s with heap:=h',gens:=g',drawn:=d',toks:=t'}:=by
 have C4: ∀b o,X.s₀.heap.get? b=some o->b≠X.env.locals:=fun b o e=>zae (zam (Heap.lt_size e) I.ok.above)
 have uQ: ∀b o,X.s₀.heap.get? b=some o->b∉X.ex->b∉ch:=fun b o e hx hb=>by
  rcases (jA b hb).1 with z | z
  ·exact hx z
  ·exact absurd (zam (Heap.lt_size e) z) (zaw _)
 have cellK: ∀x c,X.env.cells.lookup x=some c-> ∀v,s.heap.IsCell c v->h'.IsCell c v:=fun x c e v ⟨o,ho,hd⟩=>by
  have qQ:c∉ch:=fun z=> (jA c z).2.2.1 x c e rfl
  by_cases hc:c∈X.fs
  ·obtain⟨sl,q⟩:=slot c o (I.m4 x c e) hc qQ ho (I.fS x c e)
   exact⟨_,q,hd⟩
  ·exact⟨o,keep c o (I.m4 x c e) hc qQ ho<|I.fS x c e,hd⟩
 refine⟨I.ok,I.os,hg,⟨fun b o e n hb hx=> ?_,fun b o e n hb hx=> ?_,fun b o e n hx=> ?_,fun b o e hx=> ?_,fun b xs e=>eA b xs<|I.base.eA b xs e,fun b o xs e=>eV b o xs<|I.base.eV b o xs e,fun b ps e=> ?_⟩, ?_,fun x c e=> ?_, ?_,fun x c e=> ?_,fun p hp=> ?_,aL,I.len⟩
 ·exact keep b o (C4 b o e) hb (uQ b o e hx) (I.base.keep b o e n hb hx) (I.base.free b o e n hx)
 ·obtain⟨sl,e1⟩:=I.base.slot b o e n hb hx
  obtain⟨yn,e2⟩:=slot b _ (C4 b o e) hb (uQ b o e hx) e1 (I.base.free b o e n hx)
  exact⟨yn,e2⟩
 ·obtain⟨o',e1⟩:=I.base.there b o e hx
  exact free b o' (uQ b o e hx) e1<|I.base.free b o e n hx
 ·obtain⟨o',e1⟩:=I.base.there b o e hx
  exact there b o' (uQ b o e hx) e1
 ·obtain⟨m1,e1⟩:=I.base.fo b ps e
  obtain⟨m2,e2⟩:=fo b _ e1
  exact⟨m1++m2,by rw[e2,Array.append_assoc]⟩
 ·obtain⟨m,hn,hl⟩:=I.loc
  refine⟨m,ns m hn,fun i x v e1 e2 e3=> ?_⟩
  obtain⟨u,r,l⟩:=hl i x v e1 e2 e3
  refine⟨u,r, ?_⟩
  rcases l with l | ⟨k,c,e,z⟩
  ·exact .inl l
  ·exact .inr ⟨k,c,e,cellK x c e _ z⟩
 ·obtain⟨v,z⟩:=I.cell x c e
  exact⟨v,cellK x c e v z⟩
 ·obtain⟨m,⟨o,_,_,ho,_⟩,_⟩:=I.loc
  exact free _ o (fun z=> (jA _ z).2.1 rfl) ho I.free
 ·obtain⟨v,o,ho,hd⟩:=I.cell x c e
  exact free c o (fun z=> (jA c z).2.2.1 x c e rfl) ho<|I.fS x c e
 ·obtain⟨e,n,ne,nf,d⟩:=I.pin p hp
  have qQ:p.1∉ch:=fun z=> (jA p.1 z).2.2.2 p hp rfl
  exact⟨keep p.1 p.2 ne nf qQ e n,free p.1 p.2 qQ e n,ne,nf,d⟩
theorem Inv.un{t':Nat}(I:Inv X pins σ H s)(u:Un X.fs [] H H' s.heap h')(aL:bZ X.prog X.w H' h'):Inv X pins σ H' {s with heap:=h',toks:=t'}:=by
 obtain⟨m,⟨o,es,ep,ho,r⟩,_⟩:=id I.loc
 obtain⟨sl,hL⟩:=u.any ho I.free (by simp)
 exact I.step (g':=s.gens) (d':=s.drawn) (ch:=[]) (fun _ z=>nomatch z) (fun b o _ hb _ e n=>u.keep b o e n hb (by simp)) (fun b o _ hb _ e n=>u.slot b o e n hb (by simp)) (fun b o _ e n=>u.free b o e n (by simp)) (fun b o _ e=>u.there b o e (by simp)) u.eA u.eV u.fo (fun m' hm=>by
  obtain⟨o',yo,yp,dG,r'⟩:=hm
  rw[ho] at dG;cases dG
  exact⟨_,yo,yp,hL,r'⟩) aL I.bare
theorem Inv.call{g':Array GenState}{t':Nat}{d':Drawn}{ch:List Addr}(I:Inv X pins σ H s)(u:Un (bK X.stack) ch H H' s.heap h')(aL:bZ X.prog X.w H' h')(hg:AllBare g')
  (jA: ∀b∈ch,(b∈X.ex\/X.s₀.heap.objs.size<=b)/\b≠X.env.locals/\(∀x c,X.env.cells.lookup x=some c->c≠b)/\ ∀p∈X.pn++pins,p.1≠b):
  Inv X pins σ H' {s with heap:=h',gens:=g',drawn:=d',toks:=t'}:=by
 obtain⟨m,⟨o,es,ep,ho,r⟩,_⟩:=id I.loc
 obtain⟨sl,hL⟩:=u.any ho I.free fun z=> (jA _ z).2.1 rfl
 exact I.step (ch:=ch) jA (fun b o hL hb hc e n=>u.keep b o e n (fun z=> (zaa.mp (I.uO b z)).elim hL hb) hc) (fun b o _ _ hc e n=>u.any e n hc) (fun b o hc e n=>u.free b o e n hc) (fun b o hc e=>u.there b o e hc) u.eA u.eV u.fo (fun m' hm=>by
  obtain⟨o',yo,yp,dG,r'⟩:=hm
  rw[ho] at dG;cases dG
  exact⟨_,yo,yp,hL,r'⟩) aL hg
theorem Inv.turned{t':Nat}{it:Addr}(I:Inv X pins σ H s)(k: ∀b o,b≠it->s.heap.get? b=some o->h'.get? b=some o)(hn:H it=none)(hL:it≠X.env.locals)
  (h1:it∈X.ex\/X.s₀.heap.objs.size<=it) (h2: ∀x c,X.env.cells.lookup x=some c->c≠it) (h3: ∀p∈X.pn++pins,p.1≠it):Inv X pins σ H {s with heap:=h',toks:=t'}:=by
 have C5: ∀b u,H b=some u->b≠it:=fun b u e z=>by rw[z,hn] at e;cases e
 refine I.step (g':=s.gens) (d':=s.drawn) (ch:=[it]) (fun b hb=> ?_) (fun b o _ _ hc e _=>k b o (fun z=>hc (by simp[z])) e) (fun b o _ _ hc e _=> ⟨o.slots,k b o (fun z=>hc (by simp[z])) e⟩) (fun _ _ _ _ n=>n)
  (fun b o hc e=> ⟨o,k b o (fun z=>hc (by simp[z])) e⟩) (fun _ _ e=>e) (fun _ _ _ e=>e) (fun b ps e=> ⟨#[],by rw[e];simp⟩) (fun m hm=> ?_) (fun b u e=> ?_) I.bare
 ·have e:b=it:=by simpa using hb
  subst e
  exact⟨h1,hL,h2,h3⟩
 ·obtain⟨o,es,ep,ho,r⟩:=hm
  exact⟨o,es,ep,k _ o (Ne.symm hL) ho,r⟩
 ·refine(I.aL b u e).ia (fun c v hc q=>k c v ?_ q) (fun _ q=>q) fun _ _ q=>q
  rcases hc with z | z
  ·rw[z];exact C5 b u e
  ·exact C5 c _ z
theorem Inv.tok(I:Inv X pins σ H s)(t:Nat):Inv X pins σ H {s with toks:=t}:=I.un (h':=s.heap) (t':=t) Un.refl I.aL
theorem Inv.kept{t':Nat}(I:Inv X pins σ H s)(k: ∀b u,s.heap.get? b=some u->h'.get? b=some u):Inv X pins σ H {s with heap:=h',toks:=t'}:=I.un (Un.kept k) (I.aL.kept k)
theorem Inv.laid{a:Addr}{o:HO}{t':Nat}(I:Inv X pins σ H s)(k: ∀b u,s.heap.get? b=some u->h'.get? b=some u)(hp:s.heap.objs.size<=a)(new:cB X.prog X.w (upd H a o) h' a o):
  Inv X pins σ (upd H a o) {s with heap:=h',toks:=t'}:=I.un (Un.laid k hp<|I.aL.fresh hp) (I.aL.laid k hp new)
theorem Inv.write{x e:Addr}{o:HO}{t':Nat}(I:Inv X pins σ H s)(mu:uJ (H x))(he:e=x\/H e=some (.own x))(k: ∀b u,b≠e->s.heap.get? b=some u->h'.get? b=some u)(oY: ∃u,h'.get? e=some u)
  (new:cB X.prog X.w (upd H x o) h' x o):Inv X pins σ (upd H x o) {s with heap:=h',toks:=t'}:=I.un (Un.write mu he k oY) (I.aL.write mu he k oY new)
theorem Inv.o5{ie:List (Addr×Obj)}(I:Inv X pins σ H s)(h: ∀p∈ie,s.heap.get? p.1=some p.2/\H p.1=none/\p.1≠X.env.locals/\p.1∉X.fs/\ ∀v,p.2.data≠ .cell v):Inv X ie σ H s:=
 ⟨I.ok,I.os,I.bare,I.base,I.loc,I.cell,I.free,I.fS,fun p hp=> (zax.mp hp).elim (fun z=>I.pin p<|zaH _ z)<|h p,I.aL,I.len⟩
theorem C6{N:List Str}(hN:N.Nodup){i j:Nat}{x:Str}(a:N[i]?=some x)(b:N[j]?=some x):i=j:=by
 obtain⟨h1,e1⟩:=zah.mp a
 obtain⟨h2,e2⟩:=zah.mp b
 exact(List.getElem_inj hN).mp<|e1.trans e2.symm
theorem C8{M:Model}{A:Around}{E:Value->Shared->Prop}{i:Nat}{x:Str}{v:V}{u:Value}{Q:Unit->Shared->Prop}(I:Inv X pins σ H s)(hN:X.N.Nodup)(hi:X.N[i]?=some x)(hx:Loc X.env.scope x)(r:RelV v u)
  (h: ∀s',Inv X pins (σ.set i<|some v) H s'->(∃a,Heap.SameBut a s.heap s'.heap/\(a=X.env.locals\/X.env.cells.lookup x=some a))->Q () s') (hf:X.fn x=true\/X.env.scope.names.lookup x=some .local:=by first | exact .inl rfl | exact .inr rfl | assumption):wpAny M A (storeName X.env x u) Q E s:=by
 obtain⟨m,hn,hl⟩:=id I.loc
 have Nv:(X.env.scope.kind== .class || (X.env.scope.kind== .module && X.env.locals !=X.env.globals))=false:=by rw[I.ok.kind];rfl
 have C_:i<σ.length:=by rw[I.len];exact(zah.mp hi).1
 have m4:=I.m4
 have tracked: ∀{a:Addr} {h':Heap},(∃o,s.heap.get? a=some o/\H a=none)->Heap.SameBut a s.heap h'->bZ X.prog X.w H h':=fun {a h'} ha hs b ob e=>by
  obtain⟨_,_,Dc⟩:=ha
  refine(I.aL b ob e).ia (fun c w' hc q=> (hs.2 c ?_).trans q) (fun _ q=>q) fun _ _ q=>q
  rintro rfl
  rcases hc with rfl | hc
  ·rw[Dc] at e;cases e
  ·rw[Dc] at hc;cases hc
 rcases hx with hk | hk
 ·refine wpAny_storeName_local hk hn (fun h' yq hs=> ?_) Nv
  obtain⟨oL,_,_,uR,_⟩:=id hn
  refine h _ ⟨I.ok,I.os,I.bare,⟨fun b o e n hb hx=> ?_,fun b o e n hb hx=> ?_,I.base.free,fun b o e hx=> ?_,I.base.eA,I.base.eV,I.base.fo⟩,⟨_,yq,fun j y v' e1 e2 e3=> ?_⟩,fun y c e=> ?_,I.free,I.fS,fun p hp=> ?_,tracked ⟨oL,uR,I.free⟩ hs,by simpa using I.len⟩ ⟨_,hs, .inl rfl⟩
  ·exact(hs.2 b<|zae<|zam (Heap.lt_size e) I.ok.above).trans (I.base.keep b o e n hb hx)
  ·obtain⟨sl,e1⟩:=I.base.slot b o e n hb hx
   exact⟨sl,(hs.2 b<|zae<|zam (Heap.lt_size e) I.ok.above).trans e1⟩
  ·obtain⟨o',e1⟩:=I.base.there b o e hx
   exact⟨o',(hs.2 b<|zae<|zam (Heap.lt_size e) I.ok.above).trans e1⟩
  ·by_cases hj:j=i
   ·subst hj
    rw[hi] at e1;cases e1
    rw[zaV C_] at e2
    cases e2
    exact⟨u,r, .inl ⟨hk,by simp⟩⟩
   ·rw[List.getElem?_set_ne<|Ne.symm hj] at e2
    obtain⟨u',r',q⟩:=hl j y v' e1 e2 e3
    refine⟨u',r', ?_⟩
    rcases q with⟨k,e⟩ | ⟨k,c,e,z⟩
    ·refine .inl ⟨k, ?_⟩
     have:y≠x:=fun e=>hj (C6 hN e1<|e ▸ hi)
     simp[this,e]
    ·exact .inr ⟨k,c,e,z.sameBut hs<|m4 y c e⟩
  ·obtain⟨w',z⟩:=I.cell y c e
   exact⟨w',z.sameBut hs<|m4 y c e⟩
  ·obtain⟨e,n,ne,nf,d⟩:=I.pin p hp
   exact⟨(hs.2 p.1 ne).trans e,n,ne,nf,d⟩
 ·have yr:X.fn x=true:=by
   rcases hf with z | z
   ·exact z
   ·rw[z] at hk;cases hk
  obtain⟨c,hc⟩:=I.ok.has x (.inl hk)
  obtain⟨w',z⟩:=I.cell x c hc
  refine wpAny_storeName_cell I.ok.kind hk hc z<|fun h' bU hs=> ?_
  obtain⟨oc,Dd,Nw⟩:=id z
  refine h {s with heap:=h'} ⟨I.ok,I.os,I.bare,⟨fun b o e n hb hx=> ?_,fun b o e n hb hx=> ?_,I.base.free,fun b o e hx=> ?_,I.base.eA,I.base.eV,I.base.fo⟩,⟨m,hn.sameBut hs<|Ne.symm<|m4 x c hc,fun j y v' e1 e2 e3=> ?_⟩,fun y c' e=> ?_,I.free,I.fS,fun p hp=> ?_,tracked ⟨oc,Dd,I.fS x c hc⟩ hs,by simpa using I.len⟩ ⟨c,hs, .inr hc⟩
  ·exact(hs.2 b<|zae<|zam (Heap.lt_size e)<|I.ok.uL x c yr hc).trans (I.base.keep b o e n hb hx)
  ·obtain⟨sl,e1⟩:=I.base.slot b o e n hb hx
   exact⟨sl,(hs.2 b<|zae<|zam (Heap.lt_size e)<|I.ok.uL x c yr hc).trans e1⟩
  ·obtain⟨o',e1⟩:=I.base.there b o e hx
   exact⟨o',(hs.2 b<|zae<|zam (Heap.lt_size e)<|I.ok.uL x c yr hc).trans e1⟩
  ·by_cases hj:j=i
   ·subst hj
    rw[hi] at e1;cases e1
    rw[zaV C_] at e2
    cases e2
    exact⟨u,r, .inr ⟨.inl hk,c,hc,bU⟩⟩
   ·rw[List.getElem?_set_ne<|Ne.symm hj] at e2
    obtain⟨u',r',q⟩:=hl j y v' e1 e2 e3
    refine⟨u',r', ?_⟩
    rcases q with q | ⟨k,c',e,z'⟩
    ·exact .inl q
    ·refine .inr ⟨k,c',e,z'.sameBut hs ?_⟩
     rintro rfl
     exact hj<|C6 hN e1<|I.ok.inj _ _ _ e hc ▸ hi
  ·by_cases m5:c'=c
   ·subst m5;exact⟨_,bU⟩
   ·obtain⟨w2,z2⟩:=I.cell y c' e
    exact⟨w2,z2.sameBut hs m5⟩
  ·obtain⟨e,n,ne,nf,d⟩:=I.pin p hp
   refine⟨(hs.2 p.1 ?_).trans e,n,ne,nf,d⟩
   intro q
   rw[q,Dd] at e
   have q':oc=p.2:=zal e
   exact d w' (by rw[<-q'];exact Nw)
theorem yt{M:Model}{A:Around}{E:Value->Shared->Prop}{i:Nat}{x:Str}{v:V}{u:Value}{Q:Unit->Shared->Prop}(I:Inv X pins σ H s)(hN:X.N.Nodup)(hi:X.N[i]?=some x)(hx:Loc X.env.scope x)(r:RelV v u)
  (h: ∀s',Inv X pins (σ.set i<|some v) H s'->Q () s') (hf:X.fn x=true\/X.env.scope.names.lookup x=some .local:=by first | exact .inl rfl | exact .inr rfl | assumption):wpAny M A (storeName X.env x u) Q E s:=
 C8 I hN hi hx r (fun s' I' _=>h s' I') hf
theorem Inv.yu{s':Shared}{ch:List Addr}(I:Inv X pins σ H s)(ho:s'.os=s.os)(u:Un (bK X.stack) ch H H' s.heap s'.heap)(aL:bZ X.prog X.w H' s'.heap)(hg:AllBare s'.gens)
  (jA: ∀b∈ch,(b∈X.ex\/X.s₀.heap.objs.size<=b)/\b≠X.env.locals/\(∀x c,X.env.cells.lookup x=some c->c≠b)/\ ∀p∈X.pn++pins,p.1≠b):Inv X pins σ H' s':=by
 obtain⟨h',g',d',t',o'⟩:=s'
 have e:o'=s.os:=ho
 subst e
 exact I.call (g':=g') (t':=t') (d':=d') u aL hg jA
end
abbrev XK:=Value->Option Addr->Hp->Prop
abbrev St:=List (Option V)
abbrev VK:=V->Hp->Prop
abbrev TE:=St->Hp->VK->Prop
abbrev TT:=St->Hp->(Bool->Hp->Prop)->Prop
abbrev TA:=St->Hp->(List V->Hp->Prop)->Prop
structure Ends where
 nx:St->Hp->Prop
 rt:VK
 bk:St->Hp->Prop:=fun _ _=>False
 ct:St->Hp->Prop:=fun _ _=>False
abbrev TS:=Ends->St->Hp->Prop
def EP(X:Cx)(pins:List (Addr×Obj))(σ:St)(Q:VK)(u:Value)(s':Shared):Prop:= ∃v H',Inv X pins σ H' s'/\RelV v u/\Q v H'
def TP(X:Cx)(pins:List (Addr×Obj))(σ:St)(Q:Bool->Hp->Prop)(b:Bool)(s':Shared):Prop:= ∃H',Inv X pins σ H' s'/\Q b H'
def AP(X:Cx)(pins:List (Addr×Obj))(σ:St)(Q:List V->Hp->Prop)(us:List Value)(s':Shared):Prop:= ∃vs H',Inv X pins σ H' s'/\Vals vs us/\Q vs H'
def SP(X:Cx)(pins:List (Addr×Obj))(D:Ends)(f:Flow)(s':Shared):Prop:=
 match f with
 | .next=> ∃σ' H',Inv X pins σ' H' s'/\D.nx σ' H'
 | .brk=> ∃σ' H',Inv X pins σ' H' s'/\D.bk σ' H'
 | .cont=> ∃σ' H',Inv X pins σ' H' s'/\D.ct σ' H'
 | .ret u=> ∃v σ' H',Inv X pins σ' H' s'/\RelV v u/\D.rt v H'
def PE(X:Cx)(e:Expr)(t:TE):Prop:=
 ∀(pins:List (Addr×Obj)) (s:Shared) (σ:St) (H:Hp) (Q:VK),Inv X pins σ H s->t σ H Q->wpAny (model X.prog X.w) X.A (eval e X.env) (EP X pins σ Q) X.xe s
def PT(X:Cx)(e:Expr)(t:TT):Prop:=
 ∀(pins:List (Addr×Obj)) (s:Shared) (σ:St) (H:Hp) (Q:Bool->Hp->Prop),Inv X pins σ H s->t σ H Q->wpAny (model X.prog X.w) X.A (isTrue e X.env<|eval e X.env) (TP X pins σ Q) X.xe s
def PW(X:Cx)(e:Expr)(t:TT):Prop:=
 ∀(whole:Sem Value) (pins:List (Addr×Obj)) (s:Shared) (σ:St) (H:Hp) (Q:Bool->Hp->Prop),Inv X pins σ H s->t σ H Q->wpAny (model X.prog X.w) X.A (isTrue e X.env whole) (TP X pins σ Q) X.xe s
theorem PW.pt{X:Cx}{e:Expr}{t:TT}(h:PW X e t):PT X e t:=h _
def PA(X:Cx)(es:List Expr)(t:TA):Prop:=
 ∀(pos:Pos) (pins:List (Addr×Obj)) (s:Shared) (σ:St) (H:Hp) (Q:List V->Hp->Prop),Inv X pins σ H s->t σ H Q->wpAny (model X.prog X.w) X.A (spliced<|backTo pos<|starEach es X.env) (AP X pins σ Q) X.xe s
def PS(X:Cx)(st:Stmt)(t:TS):Prop:=
 ∀(pins:List (Addr×Obj)) (s:Shared) (σ:St) (H:Hp) (D:Ends),Inv X pins σ H s->t D σ H->wpAny (model X.prog X.w) X.A (exec st X.env) (SP X pins D) X.xe s
def cP(X:Cx)(st:List Stmt)(t:TS):Prop:=
 ∀(pins:List (Addr×Obj)) (s:Shared) (σ:St) (H:Hp) (D:Ends),Inv X pins σ H s->t D σ H->wpAny (model X.prog X.w) X.A (execs st X.env) (SP X pins D) X.xe s
theorem aV{α:Type}{t:Sem α}{Q Q':α->Shared->Prop}{M:Model}{A:Around}{E:Value->Shared->Prop}{s:Shared}(h:wpAny M A t Q E s)(hQ: ∀a s,Q a s->Q' a s):wpAny M A t Q' E s:=wpAny_mono h hQ fun _ _ x=>x
section
variable {X:Cx}
def yv(i:Nat):TE:=fun σ H Q=> ∃v,σ[i]?=some (some v)/\Q v H
def tC(v:V):TE:=fun _ H Q=>Q v H
theorem Nx{i:Nat}{x:Str}{pos:Pos}(hN:X.N[i]?=some x)(hv:uK X.env.scope x)(hd:(x==("__debug__":Str))=false:=by decide)(fq:(x==("__classdict__":Str))=false:=by decide):PE X (.Name x pos) (yv i):=by
 intro pins s σ H Q I h
 obtain⟨v,e,h⟩:=h
 obtain⟨m,hn,hl⟩:=I.loc
 obtain⟨u,r,l⟩:=hl i x v hN e hv
 have fin:EP X pins σ Q u s:=⟨v,H,I,r,h⟩
 rcases l with⟨hk,hm⟩ | ⟨hk,c,hc,De⟩
 ·exact wpAny_Name (wpAny_loadName_local I.ok.kind hk hn hm fin) hd
 ·rcases hk with hk | hk
  ·exact wpAny_Name (wpAny_loadName_cell I.ok.kind hk hc De fin) hd
  ·exact wpAny_Name (wpAny_loadName_free I.ok.kind hk hc De fin fq) hd
theorem Ny{i j pos}:PE X (.Constant (.int i) j pos) (tC<|.int i):=fun _ _ _ H _ I h=>wpAny_Constant_int ⟨.int i,H,I.tok _,⟨_,rfl⟩,h⟩
theorem Nz{b j pos}:PE X (.Constant (.bool b) j pos) (tC<|.bl b):=fun _ _ _ H _ I h=>Constant_bool ⟨.bl b,H,I,rfl,h⟩
theorem NA{j pos}:PE X (.Constant .none j pos) (tC .aA):=fun _ _ _ H _ I h=>Constant_none ⟨.aA,H,I,rfl,h⟩
theorem NB{x j pos}:PE X (.Constant (.str x) j pos) (tC<|.str x):=fun _ _ _ H _ I h=>Calls.Constant_str ⟨.str x,H,I.tok _,⟨_,rfl⟩,h⟩
def Gl(X:Cx)(x:Str):Prop:=X.env.kindOf x=some .globalImplicit
theorem o7{E:Value->Shared->Prop}{pins:List (Addr×Obj)}{s:Shared}{σ:St}{H:Hp}{x:Str}{u:Value}{pos:Pos}{Q:Value->Shared->Prop}(I:Inv X pins σ H s)(hg:Gl X x)(hm:X.mg x=some u)(h:Q u s)
  (hd:(x==("__debug__":Str))=false:=by decide):wpAny (model X.prog X.w) X.A (eval (.Name x pos) X.env) Q E s:=
 Calls.Name_function_global I.ok.kind hg (Calls.loadGlobal_global (by rw[I.ok.glob];exact I.mod.glob.keeps I.bk) hm h) hd
theorem o8{E:Value->Shared->Prop}{pins:List (Addr×Obj)}{s:Shared}{σ:St}{H:Hp}{x:Str}{u:Value}{pos:Pos}{Q:Value->Shared->Prop}(I:Inv X pins σ H s)(hg:Gl X x)(hm:X.mg x=none)(hv:bootBuiltins x=some u)(h:Q u s)
  (hn:x≠"__name__":=by decide) (hd:(x==("__debug__":Str))=false:=by decide):wpAny (model X.prog X.w) X.A (eval (.Name x pos) X.env) Q E s:=by
 obtain⟨mb,h1,h2⟩:=I.mod.blt
 exact Calls.Name_function_global I.ok.kind hg (Calls.loadGlobal_builtin (by rw[I.ok.glob];exact I.mod.glob.keeps I.bk) hm (by rw[I.ok.blt];exact h1.keeps I.bk) ((h2 x hn).trans hv) h) hd
theorem Df{x:Str}{v:V}{u:Value}{pos:Pos}(hg:Gl X x)(hm:X.mg x=some u)(r:RelV v u)(hd:(x==("__debug__":Str))=false:=by decide):PE X (.Name x pos) (tC v):=
 fun _ _ _ H _ I h=>o7 I hg hm ⟨v,H,I,r,h⟩ hd
theorem Dg{x:Str}{v:V}{u:Value}{pos:Pos}(hg:Gl X x)(hm:X.mg x=none)(hv:bootBuiltins x=some u)(r:RelV v u)(hn:x≠"__name__":=by decide)(hd:(x==("__debug__":Str))=false:=by decide):PE X (.Name x pos) (tC v):=
 fun _ _ _ H _ I h=>o8 I hg hm hv ⟨v,H,I,r,h⟩ hn hd
variable {a b:Expr} {ta tb:TE} {pos:Pos}
def tB(t:TE):TT:=fun σ H Q=>t σ H fun x H1=> ∃c,x= .bl c/\Q c H1
variable {tA uS:TT} {rest:List Expr}
def Dh(t u:TT):TT:=fun σ H Q=>t σ H fun c H1=>if c=true then u σ H1 Q else Q false H1
def Di(t u:TT):TT:=fun σ H Q=>t σ H fun c H1=>if c=true then Q true H1 else u σ H1 Q
def Dj(t:TT):TT:=fun σ H Q=>t σ H fun c H1=>Q (!c) H1
theorem pw_and1(ha:PT X a tA):PW X (.BoolOp .And [a] pos) tA:=by
 intro wh pins s σ H Q I h
 refine isTrue_and<|aV (ha pins s σ H Q I h) fun c s1 e=> ?_
 cases c with
 | true=>exact isTrue_and_nil e
 | false=>exact e
theorem pw_or1(ha:PT X a tA):PW X (.BoolOp .Or [a] pos) tA:=by
 intro wh pins s σ H Q I h
 refine isTrue_or<|aV (ha pins s σ H Q I h) fun c s1 e=> ?_
 cases c with
 | false=>exact isTrue_or_nil e
 | true=>exact e
theorem pw_and(ha:PT X a tA)(hb:PW X (.BoolOp .And (b::rest) pos) uS):PW X (.BoolOp .And (a::b::rest) pos) (Dh tA uS):=by
 intro wh pins s σ H Q I h
 refine isTrue_and<|aV (ha pins s σ H _ I h) fun c s1 ⟨H1,I1,q1⟩=> ?_
 cases c with
 | true=>exact hb wh pins s1 σ H1 Q I1 q1
 | false=>exact⟨H1,I1,q1⟩
theorem pw_or(ha:PT X a tA)(hb:PW X (.BoolOp .Or (b::rest) pos) uS):PW X (.BoolOp .Or (a::b::rest) pos) (Di tA uS):=by
 intro wh pins s σ H Q I h
 refine isTrue_or<|aV (ha pins s σ H _ I h) fun c s1 ⟨H1,I1,q1⟩=> ?_
 cases c with
 | true=>exact⟨H1,I1,q1⟩
 | false=>exact hb wh pins s1 σ H1 Q I1 q1
theorem NC(ha:PT X a tA):PT X (.UnaryOp .Not a pos) (Dj tA):=by
 intro pins s σ H Q I h
 exact isTrue_not<|ha pins s σ H (fun c H1=>Q (!c) H1) I h
def Dk(ta tb:TE):TE:=fun σ H Q=>ta σ H fun x H1=> ∃c,x= .bl c/\if c=true then tb σ H1 Q else Q (.bl false) H1
def Dl(ta tb:TE):TE:=fun σ H Q=>ta σ H fun x H1=> ∃c,x= .bl c/\if c=true then Q (.bl true) H1 else tb σ H1 Q
theorem Dm{op}{t:TE}(h:PE X a t):PE X (.BoolOp op [a] pos) t:=fun pins s σ H Q I hw=>BoolOp_one (h pins s σ H Q I hw)
theorem ND(ha:PE X a ta)(hb:PE X (.BoolOp .And (b::rest) pos) tb):PE X (.BoolOp .And (a::b::rest) pos) (Dk ta tb):=by
 intro pins s σ H Q I h
 refine BoolOp_and<|aV (ha pins s σ H _ I h) fun v s1 ⟨x,H1,I1,r1,q1⟩=> ?_
 obtain⟨c,rfl,q1⟩:=q1
 cases r1
 refine wpAny_truthy_bool ?_
 cases c with
 | true=>exact hb pins s1 σ H1 Q I1 q1
 | false=>exact⟨.bl false,H1,I1,rfl,q1⟩
theorem NF(ha:PE X a ta)(hb:PE X (.BoolOp .Or (b::rest) pos) tb):PE X (.BoolOp .Or (a::b::rest) pos) (Dl ta tb):=by
 intro pins s σ H Q I h
 refine BoolOp_or<|aV (ha pins s σ H _ I h) fun v s1 ⟨x,H1,I1,r1,q1⟩=> ?_
 obtain⟨c,rfl,q1⟩:=q1
 cases r1
 refine wpAny_truthy_bool ?_
 cases c with
 | false=>exact hb pins s1 σ H1 Q I1 q1
 | true=>exact⟨.bl true,H1,I1,rfl,q1⟩
def Dp(t:TT)(ta tb:TE):TE:=fun σ H Q=>t σ H fun c H1=>if c=true then ta σ H1 Q else tb σ H1 Q
theorem NG{c:Expr}(hc:PT X c tA)(ha:PE X a ta)(hb:PE X b tb):PE X (.IfExp c a b pos) (Dp tA ta tb):=by
 intro pins s σ H Q I h
 refine wpAny_IfExp<|aV (hc pins s σ H _ I h) fun d s1 ⟨H1,I1,q1⟩=> ?_
 cases d with
 | true=>exact ha pins s1 σ H1 Q I1 q1
 | false=>exact hb pins s1 σ H1 Q I1 q1
end
def aB(K:Frag)(H:Hp)(a:Addr)(xs:List V):Prop:=
 Rd H a (.lst xs)\/
  ∃(o:Obj) (its:Array Value) (n:Nat),K.lookup a=some o/\o.cls= .type "list"/\o.dict=none/\o.data= .seq its n/\its.size<=sizeLine/\Vals xs its.toList
def ba(K:Frag)(H:Hp)(a:Addr)(xs:List V):Prop:=
 Rd H a (.tup xs)\/
  ∃(o:Obj) (its:Array Value) (n:Nat),K.lookup a=some o/\o.cls= .type "tuple"/\o.data= .seq its n/\its.size<=sizeLine/\Vals xs its.toList
def NH:Value->Option V
 | .none=>some .aA
 | .bool b=>some (.bl b)
 | .int i _=>some (.int i)
 | .str x _=>some (.str x)
 | .bytes b _=>some (.eT b)
 | .float b _=>some (.lP b)
 | .ref a=>some (.ref a)
 | .type n=>some (.ty n)
 | _=>none
theorem RelV.abs{x:V}{u:Value}(r:RelV x u):NH u=some x:=by
 cases x with
 | aA=>cases r;rfl
 | bl _=>cases r;rfl
 | int _=>obtain⟨t,rfl⟩:=r;rfl
 | str _=>obtain⟨t,rfl⟩:=r;rfl
 | eT _=>obtain⟨t,rfl⟩:=r;rfl
 | lP _=>obtain⟨t,rfl⟩:=r;rfl
 | ref _=>cases r;rfl
 | ty _=>cases r;rfl
theorem RelV.inj{x y:V}{u:Value}(r:RelV x u)(q:RelV y u):x=y:=zal (r.abs.symm.trans q.abs)
theorem Vals.inj: ∀{xs ys:List V} {us:List Value},Vals xs us->Vals ys us->xs=ys
 | _,_,_, .nil, .nil=>rfl
 | _,_,_, .cons r t, .cons r' t'=>by rw[r.inj r',Vals.inj t t']
section
variable {X:Cx} {pins:List (Addr×Obj)} {σ:St} {H:Hp} {s:Shared} {a:Addr} {xs ys:List V}
theorem aB.of{K:Frag}(h:H a=some (.lst xs)):aB K H a xs:= .inl (.inl h)
theorem ba.of{K:Frag}(h:H a=some (.tup xs)):ba K H a xs:= .inl (.inl h)
theorem Inv.list(I:Inv X pins σ H s)(h:aB X.K H a xs): ∃its:List Value,Vals xs its/\PlainL s.heap a its.toArray/\xs.length<=sizeLine:=by
 rcases h with h | ⟨o,its,n,hk,hc,hd,hs,hz,r⟩
 ·obtain⟨z,its,n,r,e⟩:=h.ok I.aL
  exact⟨its,r,⟨_,n,e,rfl,rfl,rfl⟩,z⟩
 ·refine⟨its.toList,r,⟨o,n,I.cj a o hk,hc,hd,by simpa using hs⟩, ?_⟩
  have e:=r.length
  simp only[zbb] at e
  lia
theorem Inv.tuple(I:Inv X pins σ H s)(h:ba X.K H a xs): ∃its:List Value,Vals xs its/\IsTup s.heap a its.toArray/\xs.length<=sizeLine:=by
 rcases h with h | ⟨o,its,n,hk,hc,hs,hz,r⟩
 ·obtain⟨z,its,r,p⟩:=h.ok I.aL
  exact⟨its,r,p,z⟩
 ·refine⟨its.toList,r,⟨o,I.cj a o hk,hc,n,by simpa using hs⟩, ?_⟩
  have e:=r.length
  simp only[zbb] at e
  lia
theorem Inv.uT(I:Inv X pins σ H s)(h:aB X.K H a xs)(h':aB X.K H a ys):xs=ys:=by
 obtain⟨its,r,⟨o,n,e,_,_,d⟩,_⟩:=I.list h
 obtain⟨eW,r',⟨o',n',e',_,_,d'⟩,_⟩:=I.list h'
 rw[e] at e';cases e'
 rw[d] at d'
 injection d' with d1 _
 have:its=eW:=by simpa using congrArg Array.toList d1
 subst this
 exact r.inj r'
theorem Inv.NI(I:Inv X pins σ H s)(h:ba X.K H a xs)(h':ba X.K H a ys):xs=ys:=by
 obtain⟨its,r,⟨o,e,_,n,d⟩,_⟩:=I.tuple h
 obtain⟨eW,r',⟨o',e',_,n',d'⟩,_⟩:=I.tuple h'
 rw[e] at e';cases e'
 rw[d] at d'
 injection d' with d1 _
 have:its=eW:=by simpa using congrArg Array.toList d1
 subst this
 exact r.inj r'
end
section
variable {X:Cx} {pins:List (Addr×Obj)} {σ:St} {H:Hp} {s:Shared} {E:Value->Shared->Prop}
end
section
variable {X:Cx} {st:Stmt} {rest:List Stmt} {t u:TS} {e:Expr} {te:TE} {pos:Pos}
def yw:TS:=fun D σ H=>D.nx σ H
def Dq(t u:TS):TS:=fun D σ H=>t {D with nx:=u D} σ H
theorem Dr:cP X [] yw:=fun _ _ σ H _ I h=>wpAny_execs_nil ⟨σ,H,I,h⟩
theorem NJ(h1:PS X st t)(h2:cP X rest u):cP X (st::rest) (Dq t u):=by
 intro pins s σ H D I h
 refine wpAny_execs_cons<|aV (h1 pins s σ H {D with nx:=u D} I h) fun f s1 q=> ?_
 cases f with
 | next=>
  obtain⟨σ',H',I',q⟩:=q
  exact h2 pins s1 σ' H' D I' q
 | ret v=>exact q
 | brk=>exact q
 | cont=>exact q
def NK:TS:=fun D σ H=>D.bk σ H
def NL:TS:=fun D σ H=>D.ct σ H
theorem Inv.quiet{pins:List (Addr×Obj)}{σ:St}{H:Hp}{s:Shared}(I:Inv X pins σ H s):interactive X.env=false:=by simp[interactive,I.ok.kind]
def Ds(te:TE):TS:=fun D σ H=>te σ H fun _ H1=>D.nx σ H1
theorem NM(he:PE X e te)(hs:swapsWith e none pos.line X.env=pure false:=by rfl):PS X (.Expr e pos) (Ds te):=by
 intro pins s σ H D I h
 exact wpAny_Expr_any (aV (he pins s σ H _ I h) fun v s1 ⟨x,H1,I1,r1,q1⟩=> ⟨σ,H1,I1,q1⟩) I.quiet hs
def Dt(te:TE):TS:=fun D σ H=>te σ H D.rt
theorem NN(he:PE X e te):PS X (.Return (some e) pos) (Dt te):=by
 intro pins s σ H D I h
 exact wpAny_Return_some<|aV (he pins s σ H _ I h) fun v s1 ⟨x,H1,I1,r1,q1⟩=> ⟨x,σ,H1,I1,r1,q1⟩
def NO:TS:=fun D _ H=>D.rt .aA H
def Du(c:TT)(t u:TS):TS:=fun D σ H=>c σ H fun b H1=>if b=true then t D σ H1 else u D σ H1
theorem NP{c:Expr}{a b:List Stmt}{tc:TT}(hc:PT X c tc)(ha:cP X a t)(hb:cP X b u):PS X (.If c a b pos) (Du tc t u):=by
 intro pins s σ H D I h
 refine wpAny_If<|aV (hc pins s σ H _ I h) fun d s1 ⟨H1,I1,q1⟩=> ?_
 cases d with
 | true=>exact ha pins s1 σ H1 D I1 q1
 | false=>exact hb pins s1 σ H1 D I1 q1
def NQ:TS:=fun _ _ _=>False
end
abbrev TG:=V->St->Hp->(St->Hp->Prop)->Prop
abbrev jB:=List V->St->Hp->(St->Hp->Prop)->Prop
def PG(X:Cx)(target:Expr)(t:TG):Prop:=
 ∀(pins:List (Addr×Obj)) (s:Shared) (σ:St) (H:Hp) (v:V) (u:Value) (Q:St->Hp->Prop),Inv X pins σ H s->RelV v u->t v σ H Q->
  wpAny (model X.prog X.w) X.A (assign target X.env u) (fun _ s'=> ∃σ' H',Inv X pins σ' H' s'/\Q σ' H') X.xe s
def o9(X:Cx)(ts:List Expr)(t:jB):Prop:=
 ∀(pins:List (Addr×Obj)) (s:Shared) (σ:St) (H:Hp) (vs:List V) (us:List Value) (Q:St->Hp->Prop),Inv X pins σ H s->Vals vs us->t vs σ H Q->
  wpAny (model X.prog X.w) X.A (assignInOrder ((assignEach ts X.env).map (·.2)) us) (fun _ s'=> ∃σ' H',Inv X pins σ' H' s'/\Q σ' H') X.xe s
abbrev yx:=V->V->V->Hp->(Hp->Prop)->Prop
def Dv(X:Cx)(t:yx):Prop:=
 ∀(pins:List (Addr×Obj)) (s:Shared) (σ:St) (H:Hp) (o i v:V) (ov iv u:Value) (Q:Hp->Prop),Inv X pins σ H s->RelV o ov->RelV i iv->RelV v u->t o i v H Q->
  wpAny (model X.prog X.w) X.A (setItem ov iv u) (fun _ s'=> ∃H',Inv X pins σ H' s'/\Q H') X.xe s
section
variable {X:Cx} {pos:Pos}
def eY(i:Nat):TG:=fun v σ H Q=>Q (σ.set i<|some v) H
theorem uU{i:Nat}{x:Str}(hN:X.N.Nodup)(hi:X.N[i]?=some x)(hx:Loc X.env.scope x)(hf:X.fn x=true\/X.env.scope.names.lookup x=some .local:=by first | exact .inl rfl | exact .inr rfl | assumption):PG X (.Name x pos) (eY i):=by
 intro pins s σ H v u Q I r h
 exact wpAny_assign_Name<|yt I hN hi hx r (fun s' I'=> ⟨_,H,I',h⟩) hf
def yy:jB:=fun vs σ H Q=>vs=[]/\Q σ H
def uV(t:TG)(u:jB):jB:=fun vs σ H Q=> ∃v r,vs=v::r/\t v σ H fun σ' H'=>u r σ' H' Q
theorem Dw:o9 X [] yy:=by
 intro pins s σ H vs us Q I r h
 obtain⟨e,h⟩:=h
 subst e
 cases r
 exact assignInOrder_nil ⟨σ,H,I,h⟩
theorem yz{e:Expr}{es:List Expr}{t:TG}{u:jB}(h1:PG X e t)(h2:o9 X es u)
  (hs:(assignEach (e::es) X.env).map (·.2)=assign e X.env::(assignEach es X.env).map (·.2):=by rfl):o9 X (e::es) (uV t u):=by
 intro pins s σ H vs us Q I r h
 obtain⟨v,vr,e1,h⟩:=h
 subst e1
 cases r with
 | cons r rr=>
  rw[hs]
  refine assignInOrder_cons<|aV (h1 pins s σ H _ _ _ I r h) fun _ s1 ⟨σ1,H1,I1,q1⟩=> ?_
  exact h2 pins s1 σ1 H1 _ _ Q I1 rr q1
def Dx(K:Frag)(n:Nat)(t:jB):TG:=fun v σ H Q=> ∃a xs,v= .ref a/\ba K H a xs/\xs.length=n/\t xs σ H Q
theorem Dy{es:List Expr}{k:Nat}{t:jB}{n:Nat}(hc:X.calm=true)(h:o9 X es t)
  (hn:(assignEach es X.env).length=n:=by rfl) (jC:(assignEach es X.env).findIdx? (·.1)=none:=by rfl):PG X (.Tuple es k pos) (Dx X.K n t):=by
 intro pins s σ H v u Q I r hw
 obtain⟨a,xs,e1,hq,hl,hw⟩:=hw
 subst e1
 cases r
 obtain⟨its,rv,ht,hz⟩:=I.tuple hq
 refine assign_Tuple_tuple (I.ok.hd hc) ht (by simp[hn,<-hl,rv.length]) jC fun h' hx=> ?_
 have I1:Inv X pins σ H {s with heap:=h'}:=I.kept (t':=s.toks) fun b o e=>hx b o (zae<|Heap.lt_size e) e
 exact h pins _ σ H xs _ Q I1 (by simpa using rv) hw
def Dz(to ti:TE)(t:yx):TG:=fun v σ H Q=>to σ H fun o H1=>ti σ H1 fun i H2=>t o i v H2 fun H3=>Q σ H3
theorem NR{o i:Expr}{to ti:TE}{t:yx}(ho:PE X o to)(hi:PE X i ti)(hs:Dv X t)
  (ha: ∀v,assign (.Subscript o i pos) X.env v=(do
   let ov <-holding [v] (eval o X.env)
   let iv <-holding [v,ov] (eval i X.env)
   standAt pos
   holding [v,ov,iv] (setItem ov iv v)
   release [v,ov,iv] []):=by intro _;rfl):PG X (.Subscript o i pos) (Dz to ti t):=by
 intro pins s σ H v u Q I r h
 rw[ha]
 refine wpAny_bind<|wpAny_holding<|aV (ho pins s σ H _ I h) fun ov s1 ⟨x,H1,I1,r1,q1⟩=> ?_
 refine wpAny_bind<|wpAny_holding<|aV (hi pins s1 σ H1 _ I1 q1) fun iv s2 ⟨y,H2,I2,r2,q2⟩=> ?_
 refine wpAny_bind<|wpAny_standAt<|wpAny_bind<|wpAny_holding<|aV (hs pins s2 σ H2 x y v ov iv u _ I2 r1 r2 r q2) fun _ s3 ⟨H3,I3,q3⟩=> ?_
 exact wpAny_release ⟨σ,H3,I3,q3⟩
def iP(te:TE)(g:TG):TS:=fun D σ H=>te σ H fun x H1=>g x σ H1 D.nx
theorem DA{tg e:Expr}{te:TE}{g:TG}(he:PE X e te)(hg:PG X tg g)(hs:swapsWithSole [tg] e pos.line X.env=pure false:=by rfl)(hw:swappedStores [tg] e X.env=pure none:=by rfl)
  (h1:(assignEach [tg] X.env).map (·.2)=[assign tg X.env]:=by rfl):PS X (.Assign [tg] e pos) (iP te g):=by
 intro pins s σ H D I h
 refine wpAny_Assign_stores (aV (he pins s σ H _ I h) fun v s1 ⟨x,H1,I1,r1,q1⟩=> ?_) hs hw
 rw[h1]
 exact aV (hg pins s1 σ H1 x v _ I1 r1 q1) fun _ s2 q=>q
theorem NS{i:Nat}{x:Str}{e:Expr}{te:TE}{pos':Pos}(hN:X.N.Nodup)(hi:X.N[i]?=some x)(hx:Loc X.env.scope x)(he:PE X e te)(hs:swapsWith e (some<|.Name x pos') pos.line X.env=pure false:=by rfl)(hf:X.fn x=true\/X.env.scope.names.lookup x=some .local:=by first | exact .inl rfl | exact .inr rfl | assumption):
  PS X (.Assign [.Name x pos'] e pos) (iP te<|eY i):=by
 intro pins s σ H D I h
 refine wpAny_Assign_Name (aV (he pins s σ H _ I h) fun v s1 ⟨y,H1,I1,r1,q1⟩=> ?_) hs
 exact yt I1 hN hi hx r1 (fun s2 I2=> ⟨_,H1,I2,q1⟩) hf
end
section
variable {X:Cx} {pos:Pos}
def DB(c:TT)(tb:TS):TS:=fun D σ H=> ∃W:Nat->St->Hp->Prop,(∃m,W m σ H)/\ ∀m σ H,W m σ H->
 c σ H fun b H1=>if b=true then ∃N:St->Hp->Prop,(∀σ' H',N σ' H'-> ∃m',m'<m/\W m' σ' H')/\tb {D with nx:=N,ct:=N,bk:=D.nx} σ H1 else D.nx σ H1
theorem NT{c:Expr}{body:List Stmt}{tc:TT}{tb:TS}(hp:PassesOwn (model X.prog X.w) X.A X.env X.xe)(hc:PT X c tc)(hb:cP X body tb):PS X (.While c body [] pos) (DB tc tb):=by
 intro pins s σ H D I h
 obtain⟨W,⟨m0,w0⟩,turn⟩:=h
 refine wpAny_While<|codeAny_whileLoop (fun n s'=> ∃σ' H',Inv X pins σ' H' s'/\W n σ' H') ?_ m0 ⟨σ,H,I,w0⟩
 rintro n s1 ⟨σ1,H1,I1,w1⟩
 refine wpAny_passesOwn hp<|aV (hc pins s1 σ1 H1 _ I1<|turn n σ1 H1 w1) fun b s2 ⟨H2,I2,q2⟩=> ?_
 cases b with
 | true=>
  obtain⟨N,hN,q2⟩:=q2
  rw[if_pos rfl]
  refine wpAny_passesOwn hp<|aV (hb pins s2 σ1 H2 _ I2 q2) fun f s3 q3=> ?_
  cases f with
  | next=>
   obtain⟨σ3,H3,I3,n3⟩:=q3
   obtain⟨m',hm,w3⟩:=hN σ3 H3 n3
   exact⟨m',hm,σ3,H3,I3,w3⟩
  | cont=>
   obtain⟨σ3,H3,I3,n3⟩:=q3
   obtain⟨m',hm,w3⟩:=hN σ3 H3 n3
   exact⟨m',hm,σ3,H3,I3,w3⟩
  | brk=>exact q3
  | ret v=>exact q3
 | false=>
  rw[if_neg zan]
  exact wpAny_execs_nil ⟨σ1,H2,I2,q2⟩
end
structure It where
 go:Nat->Hp->Prop
 fU:Nat->Hp->V->Hp->Prop
 stop:Nat->Hp->Prop
def gP(X:Cx)(pins:List (Addr×Obj))(H:Hp)(b:Addr):Prop:=
 H b=none/\b≠X.env.locals/\b∉X.fs/\(b∈X.ex\/X.s₀.heap.objs.size<=b)/\(∀x c,X.env.cells.lookup x=some c->c≠b)/\ ∀p∈X.pn++pins,p.1≠b
theorem Inv.o_{X:Cx}{pins:List (Addr×Obj)}{σ:St}{H H':Hp}{s:Shared}{b:Addr}(I:Inv X pins σ H s)(hb:s.heap.objs.size<=b)(hn:H' b=none):gP X pins H' b:=by
 refine⟨hn,zbc<|zam I.lt hb,I.C3 hb, .inr<|zaq I.sz hb,fun x c e z=> ?_,fun p hp z=> ?_⟩
 ·obtain⟨v,q⟩:=I.cell x c e
  exact absurd (zam q.lt (by rw[z];exact hb))<|zaw _
 ·exact absurd (zam (Heap.lt_size (I.pin p hp).1) (by rw[z];exact hb)) (zaw _)
structure Turn (P:Program) (w:World) (K:Frag) (tg:Expr) (J:It) (fp:List Addr) (it:Addr) (tn:Nat->Heap->Prop):Prop where
 mem:it∈fp
 obj: ∀i h,tn i h-> ∀b∈fp,∃o,h.get? b=some o/\ ∀v,o.data≠ .cell v
 keep: ∀i h h',tn i h->(∀b∈fp,∀o,h.get? b=some o->h'.get? b=some o)->tn i h'
 item: ∀(X:Cx),X.prog=P->X.w=w->X.K=K->X.calm=true-> ∀(i:Nat) (pins:List (Addr×Obj)) (s:Shared) (σ:St) (H:Hp) (E:Value->Shared->Prop),Inv X pins σ H s->(∀b∈fp,gP X pins H b)->tn i s.heap->J.go i H->
  wpAny (model P w) X.A (pyNext (.ref it)) (fun r s1=> ∃u,r=some u/\
   wpAny (model P w) X.A (letOwnedTupleGo tg (.ref it) u) (fun _ s2=> ∃x H',Inv X pins σ H' s2/\RelV x u/\J.fU i H x H'/\tn (i+1) s2.heap/\ ∀b∈fp,H' b=none) E s1) E s
 done: ∀(X:Cx),X.prog=P->X.w=w->X.K=K->X.calm=true-> ∀(i:Nat) (pins:List (Addr×Obj)) (s:Shared) (σ:St) (H:Hp) (E:Value->Shared->Prop),Inv X pins σ H s->(∀b∈fp,gP X pins H b)->tn i s.heap->J.stop i H->
  wpAny (model P w) X.A (pyNext<|.ref it) (fun r s1=>r=none/\Inv X pins σ H s1) E s
 self: ∀(A:Around) (i:Nat) (s:Shared) (Q:Value->Shared->Prop) (E:Value->Shared->Prop),tn i s.heap->Q (.ref it) s->wpAny (model P w) A (pyIter<|.ref it) Q E s
abbrev TI:=St->Hp->(It->Hp->Prop)->Prop
def DC(X:Cx)(pins:List (Addr×Obj))(σ:St)(tg:Expr)(R:It->Hp->Prop)(m6:Value)(s2:Shared):Prop:=
 ∃(it:Addr) (fp:List Addr) (tn:Nat->Heap->Prop) (J:It) (H':Hp),m6= .ref it/\Inv X pins σ H' s2/\Turn X.prog X.w X.K tg J fp it tn/\tn 0 s2.heap/\(∀b∈fp,gP X pins H' b)/\R J H'
def PI(X:Cx)(tg iter:Expr)(wi:TI):Prop:=
 ∀(pins:List (Addr×Obj)) (s:Shared) (σ:St) (H:Hp) (R:It->Hp->Prop),Inv X pins σ H s->wi σ H R->
  wpAny (model X.prog X.w) X.A (eval iter X.env) (fun v s1=>wpAny (model X.prog X.w) X.A (pyIter v) (DC X pins σ tg R) X.xe s1) X.xe s
theorem uW{M:Model}{A:Around}{E:Value->Shared->Prop}{s:Shared}{tg:Expr}{it:Addr}{u:Value}{o:Obj}{n:String}{vs:Array Value}{Q:Unit->Shared->Prop}(ho:s.heap.get? it=some o)(hc:o.cls= .type n)(hd:o.data= .fields vs)
    (hn:["enumerate","zip","dict_itemiterator","dict_reverseitemiterator","odict_iterator","itertools.zip_longest","itertools.pairwise"].contains n=false) (hQ:Q () s):wpAny M A (letOwnedTupleGo tg (.ref it) u) Q E s:=by
  unfold letOwnedTupleGo
  cases tg<;>first
    | exact wpAny_pure hQ
    | (cases u<;>first
        | exact wpAny_pure hQ
        | (refine wpAny_bind (wpAny_load ho ?_)
           rw[hc,hd]
           show wpAny M A (if (["enumerate","zip","dict_itemiterator","dict_reverseitemiterator","odict_iterator","itertools.zip_longest","itertools.pairwise"].contains n && vs[0]?==some (rawInt _))=true then _ else _) Q E s
           rw[if_neg (by intro h;rw[hn,Bool.false_and] at h;cases h)]
           exact wpAny_pure hQ))
def gB(K:Frag)(a:Addr):It:=
 ⟨fun i H=> ∃xs x,aB K H a xs/\xs[i]?=some x,fun i H x H'=>H'=H/\ ∀xs,aB K H a xs->xs[i]?=some x,fun i H=> ∃xs,aB K H a xs/\xs.length<=i⟩
def DD(K:Frag)(a:Addr):It:=
 ⟨fun i H=> ∃xs x,ba K H a xs/\xs[i]?=some x,fun i H x H'=>H'=H/\ ∀xs,ba K H a xs->xs[i]?=some x,fun i H=> ∃xs,ba K H a xs/\xs.length<=i⟩
def jD(lo:Int)(n:Nat):It:=⟨fun i _=>i<n,fun i H x H'=>H'=H/\x= .int (lo+i),fun i _=>n<=i⟩
theorem NU{P:Program}{w:World}{K:Frag}{tg:Expr}(a it:Addr):Turn P w K tg (gB K a) [it] it (fun i h=>h.IsListIter it a i) where
 mem:=by simp
 obj:=fun i h st b hb=>by
  have e:b=it:=by simpa using hb
  subst e
  obtain⟨o,e,c,d⟩:=st
  exact⟨o,e,fun v z=>by rw[d] at z;cases z⟩
 keep:=fun i h h' st k=>st.at fun o e=>k it (by simp) o e
 item:=by
  intro X hP hw hK hc i pins s σ H E I hf st hg
  subst hP hw hK
  obtain⟨xs,x,hq,hx⟩:=hg
  obtain⟨its,rv,p,hz⟩:=I.list hq
  obtain⟨u,hu,ru⟩:=rv.get hx
  obtain⟨f0,f1,f2,f3,f4,f5⟩:=hf it (by simp)
  refine wpAny_pyNext_list_item st p.isList (x:=u) (by simpa using hu) fun h' ck sb=> ?_
  have I1:Inv X pins σ H {s with heap:=h'}:=I.turned (t':=s.toks) (fun b o hb e=> (sb.2 b hb).trans e) f0 f1 f3 f4 f5
  obtain⟨o,e,c,d⟩:=id ck
  exact⟨u,rfl,uW (s:={s with heap:=h'}) e c d (by decide) ⟨x,H,I1,ru,⟨rfl,fun ys hy=>by rw[I.uT hy hq];exact hx⟩,ck,fun b hb=> (hf b hb).1⟩⟩
 done:=by
  intro X hP hw hK hc i pins s σ H E I hf st hg
  subst hP hw hK
  obtain⟨xs,hq,hx⟩:=hg
  obtain⟨its,rv,p,hz⟩:=I.list hq
  obtain⟨f0,f1,f2,f3,f4,f5⟩:=hf it (by simp)
  have hl:=rv.length
  exact wpAny_pyNext_list_end (I.ok.hd hc) st p.isList (by simp;lia) fun h' eb=> ⟨rfl,I.turned (t':=s.toks) (fun b o hb e=>eb b o hb e) f0 f1 f3 f4 f5⟩
 self:=fun _ _ _ _ _ st h=>wpAny_pyIter_listiter st h
theorem NV{P:Program}{w:World}{K:Frag}{tg:Expr}(a it:Addr):Turn P w K tg (DD K a) [it] it (fun i h=>h.IsTupleIter it a i) where
 mem:=by simp
 obj:=fun i h st b hb=>by
  have e:b=it:=by simpa using hb
  subst e
  obtain⟨o,e,c,d⟩:=st
  exact⟨o,e,fun v z=>by rw[d] at z;cases z⟩
 keep:=fun i h h' st k=>st.at fun o e=>k it (by simp) o e
 item:=by
  intro X hP hw hK hc i pins s σ H E I hf st hg
  subst hP hw hK
  obtain⟨xs,x,hq,hx⟩:=hg
  obtain⟨its,rv,p,hz⟩:=I.tuple hq
  obtain⟨u,hu,ru⟩:=rv.get hx
  obtain⟨f0,f1,f2,f3,f4,f5⟩:=hf it (by simp)
  refine wpAny_pyNext_tuple_item st (show s.heap.IsTuple a its.toArray from p) (x:=u) (by simpa using hu) fun h' ck sb=> ?_
  have I1:Inv X pins σ H {s with heap:=h'}:=I.turned (t':=s.toks) (fun b o hb e=> (sb.2 b hb).trans e) f0 f1 f3 f4 f5
  obtain⟨o,e,c,d⟩:=id ck
  exact⟨u,rfl,uW (s:={s with heap:=h'}) e c d (by decide) ⟨x,H,I1,ru,⟨rfl,fun ys hy=>by rw[I.NI hy hq];exact hx⟩,ck,fun b hb=> (hf b hb).1⟩⟩
 done:=by
  intro X hP hw hK hc i pins s σ H E I hf st hg
  subst hP hw hK
  obtain⟨xs,hq,hx⟩:=hg
  obtain⟨its,rv,p,hz⟩:=I.tuple hq
  obtain⟨f0,f1,f2,f3,f4,f5⟩:=hf it (by simp)
  have hl:=rv.length
  exact wpAny_pyNext_tuple_end (I.ok.hd hc) st (show s.heap.IsTuple a its.toArray from p) (by simp;lia) fun h' eb=> ⟨rfl,I.turned (t':=s.toks) (fun b o hb e=>eb b o hb e) f0 f1 f3 f4 f5⟩
 self:=fun _ _ _ _ _ st h=>wpAny_pyIter_tupleiter st h
theorem NW{P:Program}{w:World}{K:Frag}{tg:Expr}(it:Addr)(lo:Int)(n:Nat):Turn P w K tg (jD lo n) [it] it (fun i h=>IsRangeIter h it (lo+ (i:Nat)*1) ((n:Int) - (i:Nat)) 1) where
 mem:=by simp
 obj:=fun i h st b hb=>by
  have e:b=it:=by simpa using hb
  subst e
  exact⟨_,st,fun v z=>by
   have z':Data.fields _=Data.cell v:=z
   cases z'⟩
 keep:=fun i h h' st k=>k it (by simp) _ st
 item:=by
  intro X hP hw hK hc i pins s σ H E I hf st hg
  subst hP hw hK
  obtain⟨f0,f1,f2,f3,f4,f5⟩:=hf it (by simp)
  have W:=Walks.range (prog:=X.prog) (w:=X.w) (I.ok.hd hc) it lo 1 n
  refine W.item i s _ _ hg st fun v h' tk hv ck kk=> ?_
  obtain⟨t,rfl⟩:=hv
  have I1:Inv X pins σ H {s with heap:=h',toks:=tk}:=I.turned (fun b o hb e=>kk b o (by simpa using hb) e) f0 f1 f3 f4 f5
  refine⟨_,rfl,uW (s:={s with heap:=h',toks:=tk}) (n:="range_iterator") ck rfl rfl (by decide) ⟨.int<|lo+i,H,I1,⟨t, ?_⟩,⟨rfl,rfl⟩,ck,fun b hb=> (hf b hb).1⟩⟩
  rw[Int.mul_one]
 done:=by
  intro X hP hw hK hc i pins s σ H E I hf st hg
  subst hP hw hK
  obtain⟨f0,f1,f2,f3,f4,f5⟩:=hf it (by simp)
  exact wpAny_pyNext_range_end (I.ok.hd hc) st (by have:n<=i:=hg;lia) fun h' eb=> ⟨rfl,I.turned (t':=s.toks) (fun b o hb e=>eb b o hb e) f0 f1 f3 f4 f5⟩
 self:=fun _ _ _ _ _ st h=>wpAny_pyIter_rangeiter st h
section
variable {X:Cx} {tg:Expr}
def yA(K:Frag)(tl:TE):TI:=fun σ H R=>tl σ H fun x H1=> ∃a,x= .ref a/\(∃xs,aB K H1 a xs)/\R (gB K a) H1
def yB(K:Frag)(tl:TE):TI:=fun σ H R=>tl σ H fun x H1=> ∃a,x= .ref a/\(∃xs,ba K H1 a xs)/\R (DD K a) H1
theorem NX{l:Expr}{tl:TE}(hl:PE X l tl):PI X tg l (yA X.K tl):=by
 intro pins s σ H R I h
 refine aV (hl pins s σ H _ I h) fun v s1 ⟨x,H1,I1,r1,q1⟩=> ?_
 obtain⟨a,e,⟨xs,hq⟩,q⟩:=q1
 subst e
 cases r1
 obtain⟨its,rv,p,hz⟩:=I1.list hq
 refine wpAny_pyIter_list p.isList ?_
 refine⟨s1.heap.objs.size,[s1.heap.objs.size],_,_,H1,rfl,I1.kept (t':=s1.toks) fun b o e=>Heap.get?_push_of_some _ e,NU a _,⟨_,Heap.get?_push_size _ rfl,rfl,rfl⟩,fun b hb=> ?_,q⟩
 have e:b=s1.heap.objs.size:=by simpa using hb
 subst e
 exact I1.o_ (zqR _)<|I1.aL.fresh<|zqR _
theorem NY{l:Expr}{tl:TE}(hl:PE X l tl):PI X tg l (yB X.K tl):=by
 intro pins s σ H R I h
 refine aV (hl pins s σ H _ I h) fun v s1 ⟨x,H1,I1,r1,q1⟩=> ?_
 obtain⟨a,e,⟨xs,hq⟩,q⟩:=q1
 subst e
 cases r1
 obtain⟨its,rv,p,hz⟩:=I1.tuple hq
 refine wpAny_pyIter_tuple (show s1.heap.IsTuple a its.toArray from p) ?_
 refine⟨s1.heap.objs.size,[s1.heap.objs.size],_,_,H1,rfl,I1.kept (t':=s1.toks) fun b o e=>Heap.get?_push_of_some _ e,NV a _,⟨_,Heap.get?_push_size _ rfl,rfl,rfl⟩,fun b hb=> ?_,q⟩
 have e:b=s1.heap.objs.size:=by simpa using hb
 subst e
 exact I1.o_ (zqR _)<|I1.aL.fresh<|zqR _
theorem NZ{pins:List (Addr×Obj)}{σ:St}{H:Hp}{s:Shared}{R:It->Hp->Prop}{E:Value->Shared->Prop}{lo hi:Int}{t u v:Tok}{tk:Nat}(I:Inv X pins σ H s)(h1: -(2 ^ 62)<=lo)(h2:lo<2 ^ 62)(h3: -(2 ^ 62)<=hi)(h4:hi<2 ^ 62)
  (q:R (jD lo (hi - lo).toNat) H):wpAny (model X.prog X.w) X.A (pyIter<|.ref s.heap.objs.size) (DC X pins σ tg R) E {s with heap:=s.heap.push {cls:= .type "range",data:= .fields #[.int lo t, .int hi u, .int 1 v]},toks:=tk}:=by
 refine wpAny_pyIter_range (IsRange.new ..) (small_one h1 h2 h3 h4) ?_
 have I1:Inv X pins σ H {s with heap:=s.heap.push {cls:= .type "range",data:= .fields #[.int lo t, .int hi u, .int 1 v]},toks:=tk}:=I.kept fun b o e=>Heap.get?_push_of_some _ e
 refine⟨(s.heap.push {cls:= .type "range",data:= .fields #[.int lo t, .int hi u, .int 1 v]}).objs.size,[(s.heap.push {cls:= .type "range",data:= .fields #[.int lo t, .int hi u, .int 1 v]}).objs.size],_,_,H,rfl,
  I1.kept (t':=tk) fun b o e=>Heap.get?_push_of_some _ e,NW _ lo (hi - lo).toNat, ?_,fun b hb=> ?_,q⟩
 ·have e1:lo+ ((0:Nat):Int)*1=lo:=by simp
  have e2:(((hi - lo).toNat:Nat):Int) - ((0:Nat):Int)=Builtin.Range.rangeSize lo hi 1:=by rw[rangeSize_one];split<;>lia
  show IsRangeIter _ _ (lo+ ((0:Nat):Int)*1) ((((hi - lo).toNat:Nat):Int) - ((0:Nat):Int)) 1
  rw[e1,e2]
  exact Heap.get?_push_size _ rfl
 ·have e:b=(s.heap.push {cls:= .type "range",data:= .fields #[.int lo t, .int hi u, .int 1 v]}).objs.size:=by simpa using hb
  subst e
  exact I1.o_ (zqR _)<|I1.aL.fresh<|zqR _
def DE(ta:TA):TI:=fun σ H R=>ta σ H fun vs H1=> ∃j:Int,vs=[.int j]/\ -(2 ^ 62)<=j/\j<2 ^ 62/\R (jD 0 j.toNat) H1
def N1(ta:TA):TI:=fun σ H R=>ta σ H fun vs H1=> ∃i j:Int,vs=[.int i, .int j]/\(-(2 ^ 62)<=i/\i<2 ^ 62/\ -(2 ^ 62)<=j/\j<2 ^ 62)/\R (jD i (j - i).toNat) H1
theorem N2{a:Expr}{ta:TA}{p pos:Pos}(hg:Gl X "range")(hm:X.mg "range"=none)(ha:PA X [a] ta)(hs:starEach [a] X.env=[(false,eval a X.env)]:=by rfl):PI X tg (.Call (.Name "range" p) [a] [] pos) (DE ta):=by
 intro pins s σ H R I h
 refine Call_<|o8 I hg hm boot_range<|PyProof.Rows.callWith_type1 (aV (ha pos pins s σ H _ I h) fun us s1 ⟨vs,H1,I1,r1,q1⟩=> ?_) hs rfl
 obtain⟨j,e,q1,q2,q⟩:=q1
 subst e
 cases r1 with
 | cons r rr=>
  cases rr
  obtain⟨t,rfl⟩:=r
  exact call_range_1<|NZ I1 (by lia) (by lia) q1 q2 (by simpa using q)
def uX(wi:TI)(g:TG)(tb:TS):TS:=fun D σ H=>wi σ H fun J H1=> ∃W:Nat->Nat->St->Hp->Prop,(∃m,W 0 m σ H1)/\ ∀i m σ H,W i m σ H->
 (J.stop i H/\D.nx σ H)\/(J.go i H/\ ∃N:St->Hp->Prop,(∀σ' H',N σ' H'-> ∃m',m'<m/\W (i+1) m' σ' H')/\ ∀x H',J.fU i H x H'->g x σ H' fun σ2 H2=>tb {D with nx:=N,ct:=N,bk:=D.nx} σ2 H2)
def pb(fp:List Addr)(h:Heap):List (Addr×Obj):=fp.filterMap fun b=> (h.get? b).map fun o=> (b,o)
theorem uY{fp:List Addr}{h:Heap}{b:Addr}{o:Obj}(hb:b∈fp)(e:h.get? b=some o):(b,o)∈pb fp h:=zbL.mpr ⟨b,hb,by rw[e];rfl⟩
theorem N3{fp:List Addr}{h:Heap}{p:Addr×Obj}(hp:p∈pb fp h):p.1∈fp/\h.get? p.1=some p.2:=by
 obtain⟨b,hb,e⟩:=zbL.mp hp
 cases q:h.get? b with
 | none=>rw[q] at e;cases e
 | some o=>
  rw[q] at e
  have e':(b,o)=p:=zal e
  subst e'
  exact⟨hb,q⟩
theorem Inv.pinned{pins:List (Addr×Obj)}{σ:St}{H:Hp}{s:Shared}{fp:List Addr}(I:Inv X pins σ H s)(hf: ∀b∈fp,gP X pins H b)(ho: ∀b∈fp,∃o,s.heap.get? b=some o/\ ∀v,o.data≠ .cell v):Inv X (pins++pb fp s.heap) σ H s:=
 I.o5 fun p hp=> (zax.mp hp).elim (fun z=>I.pin p<|zaz _ z) fun z=>by
  obtain⟨hb,e⟩:=N3 z
  obtain⟨f0,f1,f2,_⟩:=hf p.1 hb
  obtain⟨o,e',d⟩:=ho p.1 hb
  rw[e] at e';cases e'
  exact⟨e,f0,f1,f2,d⟩
theorem Inv.yC{pins pl:List (Addr×Obj)}{σ:St}{H:Hp}{s:Shared}(I:Inv X (pins++pl) σ H s):Inv X pins σ H s:=I.o5 fun p hp=>I.pin p (zaz _<|zaH _ hp)
theorem DF{iter:Expr}{body:List Stmt}{wi:TI}{g:TG}{tb:TS}{pos:Pos}(hp:PassesOwn (model X.prog X.w) X.A X.env X.xe)(hc:X.calm=true)(hi:PI X tg iter wi)(hg:PG X tg g)(hb:cP X body tb)
  (hs: ∀x,foldedSetIterable iter X.env x=pure x:=by intro _;rfl):PS X (.For tg iter body [] pos) (uX wi g tb):=by
 intro pins s σ H D I h
 refine wpAny_For (aV (hi pins s σ H _ I h) fun v s1 h1=>aV h1 fun m6 s2 h2=> ?_) hs
 obtain⟨it,fp,tn,J,H2,e,I2,T,qR,f2,W,⟨m0,w0⟩,turn⟩:=h2
 subst e
 have m7: ∀{H':Hp},(∀b∈fp,H' b=none)-> ∀b∈fp,gP X pins H' b:=fun hn b hb=> ⟨hn b hb,(f2 b hb).2⟩
 refine codeAny_forLoop_any (fun n s'=> ∃i σ' H',Inv X pins σ' H' s'/\tn i s'.heap/\(∀b∈fp,H' b=none)/\W i n σ' H') ?_ m0 ⟨0,σ,H2,I2,qR,fun b hb=> (f2 b hb).1,w0⟩
 rintro n s3 ⟨i,σ3,H3,I3,DG,qS,w3⟩
 rcases turn i n σ3 H3 w3 with⟨stop,qn⟩ | ⟨go,N,hN,step⟩
 ·refine wpAny_passesOwn hp (aV (T.done X rfl rfl rfl hc i pins s3 σ3 H3 X.xe I3 (m7 qS) DG stop) fun r s4 ⟨hr,I4⟩=> ?_)
  subst hr
  exact wpAny_execs_nil ⟨σ3,H3,I4,qn⟩
 ·refine wpAny_passesOwn hp (aV (T.item X rfl rfl rfl hc i pins s3 σ3 H3 X.xe I3 (m7 qS) DG go) fun r s4 ⟨u,hr,h4⟩=> ?_)
  subst hr
  refine wpAny_passesOwn hp<|aV h4 fun _ s5 ⟨x,H5,I5,r5,y5,m8,yD⟩=> ?_
  have qT:=I5.pinned (m7 yD) (T.obj _ _ m8)
  refine wpAny_passesOwn hp<|aV (hg _ s5 σ3 H5 x u _ qT r5<|step x H5 y5) fun _ s6 ⟨σ6,H6,I6,q6⟩=> ?_
  refine wpAny_passesOwn hp<|aV (hb _ s6 σ6 H6 _ I6 q6) fun f s7 q7=> ?_
  have again: ∀{σ7:St} {H7:Hp},Inv X (pins++pb fp s5.heap) σ7 H7 s7->N σ7 H7-> ∃m,m<n/\ ∃i σ' H',Inv X pins σ' H' s7/\tn i s7.heap/\(∀b∈fp,H' b=none)/\W i m σ' H':=fun {σ7 H7} I7 n7=>by
   obtain⟨m',hm,w7⟩:=hN σ7 H7 n7
   refine⟨m',hm,i+1,σ7,H7,I7.yC,T.keep _ _ _ m8 fun b hb o e=> (I7.pin (b,o)<|zaz _<|zaz _<|uY hb e).1,fun b hb=> ?_,w7⟩
   obtain⟨o,e,d⟩:=T.obj _ _ m8 b hb
   exact(I7.pin (b,o)<|zaz _<|zaz _<|uY hb e).2.1
  cases f with
  | next=>obtain⟨σ7,H7,I7,n7⟩:=q7;exact again I7 n7
  | cont=>obtain⟨σ7,H7,I7,n7⟩:=q7;exact again I7 n7
  | brk=>obtain⟨σ7,H7,I7,q7⟩:=q7;exact⟨σ7,H7,I7.yC,q7⟩
  | ret v=>obtain⟨x7,σ7,H7,I7,r7,q7⟩:=q7;exact⟨x7,σ7,H7,I7.yC,r7,q7⟩
end
theorem yE{K:Frag}{a:Addr}{xs:List V}{g:TG}{tb:TS}{D:Ends}{σ:St}{H:Hp}(Pv:Nat->St->Hp->Prop)(h0:Pv 0 σ H)(hl: ∀i σ H,i<=xs.length->Pv i σ H->aB K H a xs)
  (hs: ∀i x σ H,xs[i]?=some x->Pv i σ H->g x σ H fun σ2 H2=>tb {D with nx:=Pv (i+1),ct:=Pv (i+1),bk:=D.nx} σ2 H2) (hd: ∀σ H,Pv xs.length σ H->D.nx σ H):
  ∃W:Nat->Nat->St->Hp->Prop,(∃m,W 0 m σ H)/\ ∀i m σ H,W i m σ H->
   ((gB K a).stop i H/\D.nx σ H)\/((gB K a).go i H/\ ∃N:St->Hp->Prop,(∀σ' H',N σ' H'-> ∃m',m'<m/\W (i+1) m' σ' H')/\ ∀x H',(gB K a).fU i H x H'->g x σ H' fun σ2 H2=>tb {D with nx:=N,ct:=N,bk:=D.nx} σ2 H2):=by
 refine⟨fun i m σ H=>m=xs.length - i/\i<=xs.length/\Pv i σ H,⟨xs.length,by simp,zqZ _,h0⟩, ?_⟩
 rintro i m σ H ⟨rfl,hi,p⟩
 have q:=hl i σ H hi p
 by_cases aW:i<xs.length
 ·refine .inr ⟨⟨xs,xs[i],q,by simp[aW]⟩,Pv<|i+1,fun σ' H' p'=> ⟨xs.length - (i+1),by lia,rfl,aW,p'⟩,fun x H' y=> ?_⟩
  obtain⟨e,y⟩:=y
  subst e
  exact hs i x σ _ (y xs q) p
 ·have e:i=xs.length:=by lia
  subst e
  exact .inl ⟨⟨xs,q,zqR _⟩,hd σ H p⟩
theorem yF{lo:Int}{n:Nat}{g:TG}{tb:TS}{D:Ends}{σ:St}{H:Hp}(Pv:Nat->St->Hp->Prop)(h0:Pv 0 σ H)
  (hs: ∀i σ H,i<n->Pv i σ H->g (.int<|lo+i) σ H fun σ2 H2=>tb {D with nx:=Pv (i+1),ct:=Pv (i+1),bk:=D.nx} σ2 H2) (hd: ∀σ H,Pv n σ H->D.nx σ H):
  ∃W:Nat->Nat->St->Hp->Prop,(∃m,W 0 m σ H)/\ ∀i m σ H,W i m σ H->
   ((jD lo n).stop i H/\D.nx σ H)\/((jD lo n).go i H/\ ∃N:St->Hp->Prop,(∀σ' H',N σ' H'-> ∃m',m'<m/\W (i+1) m' σ' H')/\ ∀x H',(jD lo n).fU i H x H'->g x σ H' fun σ2 H2=>tb {D with nx:=N,ct:=N,bk:=D.nx} σ2 H2):=by
 refine⟨fun i m σ H=>m=n - i/\i<=n/\Pv i σ H,⟨n,by simp,zqZ _,h0⟩, ?_⟩
 rintro i m σ H ⟨rfl,hi,p⟩
 by_cases aW:i<n
 ·refine .inr ⟨aW,Pv<|i+1,fun σ' H' p'=> ⟨n - (i+1),by lia,rfl,aW,p'⟩,fun x H' y=> ?_⟩
  obtain⟨e,y⟩:=y
  subst e y
  exact hs i σ _ aW p
 ·have e:i=n:=by lia
  subst e
  exact .inl ⟨zqR _,hd σ H p⟩
abbrev R2:=V->V->Hp->VK->Prop
def bw(X:Cx)(f:Value->Value->Sem Value)(r:R2):Prop:=
 ∀(pins:List (Addr×Obj)) (s:Shared) (σ:St) (H:Hp) (x y:V) (v u:Value) (Q:VK),Inv X pins σ H s->RelV x v->RelV y u->r x y H Q->
  wpAny (model X.prog X.w) X.A (f v u) (EP X pins σ Q) X.xe s
def uZ(X:Cx)(f:Value->Sem Value)(r:V->Hp->VK->Prop):Prop:=
 ∀(pins:List (Addr×Obj)) (s:Shared) (σ:St) (H:Hp) (x:V) (v:Value) (Q:VK),Inv X pins σ H s->RelV x v->r x H Q->
  wpAny (model X.prog X.w) X.A (f v) (EP X pins σ Q) X.xe s
def bQ(X:Cx)(f:Value)(r:List V->Hp->VK->Prop):Prop:=
 ∀(pins:List (Addr×Obj)) (s:Shared) (σ:St) (H:Hp) (xs:List V) (us:List Value) (Q:VK),Inv X pins σ H s->Vals xs us->r xs H Q->
  wpAny (model X.prog X.w) X.A (call f us) (EP X pins σ Q) X.xe s
def N4(X:Cx)(r:V->Hp->(Bool->Hp->Prop)->Prop):Prop:=
 ∀(pins:List (Addr×Obj)) (s:Shared) (σ:St) (H:Hp) (x:V) (v:Value) (Q:Bool->Hp->Prop),Inv X pins σ H s->RelV x v->r x H Q->
  wpAny (model X.prog X.w) X.A (truthy v) (TP X pins σ Q) X.xe s
def eB(r:R2)(ta tb:TE):TE:=fun σ H Q=>ta σ H fun x H1=>tb σ H1 fun y H2=>r x y H2 Q
def DH(r:V->Hp->VK->Prop)(ta:TE):TE:=fun σ H Q=>ta σ H fun x H1=>r x H1 Q
def rI(C:Int->Int->Prop)(g:Int->Int->V):R2:=fun x y H Q=> ∃i j,x= .int i/\y= .int j/\C i j/\Q (g i j) H
def kr(g:Int->Int->V):R2:=fun x y H Q=> ∃i j,x= .int i/\y= .int j/\Q (g i j) H
def rU(g:Int->V):V->Hp->VK->Prop:=fun x H Q=> ∃i,x= .int i/\Q (g i) H
section
variable {X:Cx} {a b c:Expr} {ta tb tc:TE} {pos:Pos}
theorem yG(ha:PE X a ta)(hb:PE X b tb){pins:List (Addr×Obj)}{s:Shared}{σ:St}{H:Hp}{R:V->V->Hp->Prop}(I:Inv X pins σ H s)
  (h:ta σ H fun x H1=>tb σ H1 fun y H2=>R x y H2) {Q:Value->Shared->Prop} {f:Value->Value->Sem Value}
  (hf: ∀v u s2 x y H2,Inv X pins σ H2 s2->RelV x v->RelV y u->R x y H2->wpAny (model X.prog X.w) X.A (f v u) Q X.xe s2):
  wpAny (model X.prog X.w) X.A (eval a X.env) (fun v s₁=>wpAny (model X.prog X.w) X.A (eval b X.env) (fun u s₂=>wpAny (model X.prog X.w) X.A (f v u) Q X.xe s₂) X.xe s₁) X.xe s:=by
 refine aV (ha pins s σ H _ I h) fun v s1 ⟨x,H1,I1,r1,q1⟩=> ?_
 refine aV (hb pins s1 σ H1 _ I1 q1) fun u s2 ⟨y,H2,I2,r2,q2⟩=> ?_
 exact hf v u s2 x y H2 I2 r1 r2 q2
theorem N5{op:Operator}{r:R2}(ho:bw X (binaryOp op) r)(ha:PE X a ta)(hb:PE X b tb):PE X (.BinOp a op b pos) (eB r ta tb):=by
 intro pins s σ H Q I h
 exact wpAny_BinOp<|yG ha hb I h fun v u s2 x y H2 I2 rx ry q=>ho pins s2 σ H2 x y v u Q I2 rx ry q
theorem N6{op:UnaryOp}{r:V->Hp->VK->Prop}(ho:uZ X (unaryOp op) r)(ha:PE X a ta):PE X (.UnaryOp op a pos) (DH r ta):=by
 intro pins s σ H Q I h
 exact UnaryOp_<|aV (ha pins s σ H _ I h) fun v s1 ⟨x,H1,I1,r1,q1⟩=>ho pins s1 σ H1 x v Q I1 r1 q1
theorem u_{f:Value->Value->Sem Value}{C:Int->Int->Prop}{g:Int->Int->Int}
  (rule: ∀(i j:Int) (t u:Tok) (s:Shared) (Q:Value->Shared->Prop) (E:Value->Shared->Prop),C i j->Q (.int (g i j) s.toks) {s with toks:=s.toks+1}->wpAny (model X.prog X.w) X.A (f (.int i t)<|.int j u) Q E s):
  bw X f (rI C fun i j=> .int (g i j)):=by
 intro pins s σ H x y v u Q I rx ry h
 obtain⟨i,j,rfl,rfl,hc,q⟩:=h
 obtain⟨t,rfl⟩:=rx
 obtain⟨t',rfl⟩:=ry
 exact rule i j t t' s _ _ hc ⟨.int<|g i j,H,I.tok _,⟨_,rfl⟩,q⟩
theorem DI{f:Value->Value->Sem Value}{g:Int->Int->Int}
  (rule: ∀(i j:Int) (t u:Tok) (s:Shared) (Q:Value->Shared->Prop) (E:Value->Shared->Prop),Q (.int (g i j) s.toks) {s with toks:=s.toks+1}->wpAny (model X.prog X.w) X.A (f (.int i t)<|.int j u) Q E s):
  bw X f (kr fun i j=> .int (g i j)):=by
 intro pins s σ H x y v u Q I rx ry h
 obtain⟨i,j,rfl,rfl,q⟩:=h
 obtain⟨t,rfl⟩:=rx
 obtain⟨t',rfl⟩:=ry
 exact rule i j t t' s _ _ ⟨.int<|g i j,H,I.tok _,⟨_,rfl⟩,q⟩
theorem va{f:Value->Value->Sem Value}{g:Int->Int->Bool}
  (rule: ∀(i j:Int) (t u:Tok) (s:Shared) (Q:Value->Shared->Prop) (E:Value->Shared->Prop),Q (.bool<|g i j) s->wpAny (model X.prog X.w) X.A (f (.int i t)<|.int j u) Q E s):
  bw X f (kr fun i j=> .bl (g i j)):=by
 intro pins s σ H x y v u Q I rx ry h
 obtain⟨i,j,rfl,rfl,q⟩:=h
 obtain⟨t,rfl⟩:=rx
 obtain⟨t',rfl⟩:=ry
 exact rule i j t t' s _ _ ⟨.bl<|g i j,H,I,rfl,q⟩
def DJ(i j:Int):Prop:=0<j/\j<1073741824
def DK(i j:Int):Prop:=0<=j/\j<=1000000/\i.natAbs<2 ^ 64
def vc(i j:Int):Prop:=(-(2 ^ 64) <i/\i<2 ^ 64)\/(-(2 ^ 64) <j/\j<2 ^ 64)
theorem vc.ok{i j:Int}(h:vc i j):IntMulOk i j:=by
 rcases h with⟨h1,h2⟩ | ⟨h1,h2⟩
 ·exact .of_left (intBits_le_64 h1 h2)
 ·exact .of_right (intBits_le_64 h1 h2)
theorem N7:bw X (binaryOp .Add) (kr fun i j=> .int (i+j)):=DI fun _ _ _ _ _ _ _ q=>add_int q
theorem N8:bw X (binaryOp .Sub) (kr fun i j=> .int (i - j)):=DI fun _ _ _ _ _ _ _ q=>sub_int q
theorem N9:bw X (binaryOp .Mult) (rI vc fun i j=> .int (i*j)):=u_ fun _ _ _ _ _ _ _ hc q=>mul_int q hc.ok
theorem N_:bw X (binaryOp .FloorDiv) (rI DJ fun i j=> .int (i / j)):=u_ fun i j _ _ _ _ _ hc q=>by
 have h1:(0:Int) <j:=hc.1
 have h2:j<1073741824:=hc.2
 exact floordiv_int (by lia) (by rw[Int.fdiv_eq_ediv_of_nonneg i (by lia)];exact q)<|.inl<|PyProof.noPylong_small (by lia)
theorem Oa:bw X (binaryOp .Mod) (rI (fun _ j=>0<j) fun i j=> .int (i % j)):=u_ fun i j _ _ _ _ _ hc q=>by
 have h1:(0:Int) <j:=hc
 exact mod_int' (by lia) (by rw[Int.fmod_eq_emod_of_nonneg i (by lia)];exact q)
theorem Ob:bw X (binaryOp .Pow) (rI DK fun i j=> .int (i ^ j.toNat)):=u_ fun _ _ _ _ _ _ _ hc q=>pow_int_small hc.1 hc.2.1 hc.2.2 q
theorem Oc{f:Value->Sem Value}{g:Int->Int}
  (rule: ∀(i:Int) (t:Tok) (s:Shared) (Q:Value->Shared->Prop) (E:Value->Shared->Prop),Q (.int (g i) s.toks) {s with toks:=s.toks+1}->wpAny (model X.prog X.w) X.A (f<|.int i t) Q E s):
  uZ X f (rU fun i=> .int (g i)):=by
 intro pins s σ H x v Q I rx h
 obtain⟨i,rfl,q⟩:=h
 obtain⟨t,rfl⟩:=rx
 exact rule i t s _ _ ⟨.int<|g i,H,I.tok _,⟨_,rfl⟩,q⟩
theorem Od:uZ X (unaryOp .USub) (rU fun i=> .int (-i)):=Oc fun _ _ _ _ _ q=>neg_int q
end
def m_:V->V->Bool
 | .aA, .aA=>true | .aA, .int _=>true | .int _, .aA=>true | .aA, .bl _=>true | .bl _, .aA=>true | .aA, .str _=>true | .str _, .aA=>true
 | .int _, .int _=>true | .bl _, .bl _=>true | .str _, .str _=>true | .eT _, .eT _=>true
 | .int _, .str _=>true | .str _, .int _=>true | .bl _, .str _=>true | .str _, .bl _=>true
 | _,_=>false
def Oe:R2:=fun x y H Q=>m_ x y=true/\Q (.bl<|decide<|x=y) H
def Of:R2:=fun x y H Q=>m_ x y=true/\Q (.bl<|!decide (x=y)) H
theorem DL{i j:Int}:decide (V.int i=V.int j)=(i==j):=by
 rw[zaB]
 simp
theorem DM{i j:Bool}:decide (V.bl i=V.bl j)=(i==j):=by
 rw[zaB]
 simp
theorem vd{i j:Str}:decide (V.str i=V.str j)=(i==j):=by
 rw[zaB]
 simp
theorem DN{i j:Array UInt8}:decide (V.eT i=V.eT j)=(i.toList==j.toList):=by
 rw[zaB]
 cases i
 cases j
 simp
section
variable {X:Cx} {a b c:Expr} {ta tb tc:TE} {pos:Pos}
theorem bV{pins:List (Addr×Obj)}{σ:St}{H:Hp}{s:Shared}{Q:VK}{k k':Bool}(I:Inv X pins σ H s)(q:Q (.bl k) H)(e:k=k'):EP X pins σ Q (.bool k') s:=by
 subst e
 exact⟨.bl k,H,I,rfl,q⟩
theorem Og:bw X (compareOp .Eq) Oe:=by
 intro pins s σ H x y v u Q I rx ry h
 obtain⟨hs,q⟩:=h
 cases x with
 | aA=>
  cases rx
  cases y with
  | aA=>cases ry;exact PySem.EqNone.eq_none_none (bV I q (by simp))
  | bl j=>cases ry;exact PySem.EqNone.eq_none_bool (bV I q (by simp))
  | int j=>obtain⟨t',rfl⟩:=ry;exact PySem.EqNone.eq_none_int (bV I q (by simp))
  | str j=>obtain⟨t',rfl⟩:=ry;exact PySem.EqNone.eq_none_str (bV I q (by simp))
  | _=>exact absurd (show false=true from hs) zan
 | bl i=>
  cases rx
  cases y with
  | aA=>cases ry;exact PySem.EqNone.eq_bool_none (bV I q (by simp))
  | bl j=>cases ry;exact eq_bool (bV I q DM)
  | str j=>obtain⟨t',rfl⟩:=ry;exact PySem.EqMixed.eq_bool_str (bV I q (by simp))
  | _=>exact absurd (show false=true from hs) zan
 | int i=>
  obtain⟨t,rfl⟩:=rx
  cases y with
  | aA=>cases ry;exact PySem.EqNone.eq_int_none (bV I q (by simp))
  | int j=>obtain⟨t',rfl⟩:=ry;exact eq_int (bV I q DL)
  | str j=>obtain⟨t',rfl⟩:=ry;exact PySem.EqMixed.eq_int_str (bV I q (by simp))
  | _=>exact absurd (show false=true from hs) zan
 | str i=>
  obtain⟨t,rfl⟩:=rx
  cases y with
  | aA=>cases ry;exact PySem.EqNone.eq_str_none (bV I q (by simp))
  | bl j=>cases ry;exact PySem.EqMixed.eq_str_bool (bV I q (by simp))
  | int j=>obtain⟨t',rfl⟩:=ry;exact PySem.EqMixed.eq_str_int (bV I q (by simp))
  | str j=>obtain⟨t',rfl⟩:=ry;exact eq_str (bV I q vd)
  | _=>exact absurd (show false=true from hs) zan
 | eT i=>
  obtain⟨t,rfl⟩:=rx
  cases y with
  | eT j=>obtain⟨t',rfl⟩:=ry;exact PySem.W.eq_bytes (bV I q DN)
  | _=>exact absurd (show false=true from hs) zan
 | _=>cases y<;>exact absurd (show false=true from hs) zan
theorem Oh:bw X (compareOp .NotEq) Of:=by
 intro pins s σ H x y v u Q I rx ry h
 obtain⟨hs,q⟩:=h
 cases x with
 | aA=>
  cases rx
  cases y with
  | aA=>cases ry;exact PySem.EqNone.ne_none_none (bV I q (by simp))
  | bl j=>cases ry;exact PySem.EqNone.ne_none_bool (bV I q (by simp))
  | int j=>obtain⟨t',rfl⟩:=ry;exact PySem.EqNone.ne_none_int (bV I q (by simp))
  | str j=>obtain⟨t',rfl⟩:=ry;exact PySem.EqNone.ne_none_str (bV I q (by simp))
  | _=>exact absurd (show false=true from hs) zan
 | bl i=>
  cases rx
  cases y with
  | aA=>cases ry;exact PySem.EqNone.ne_bool_none (bV I q (by simp))
  | bl j=>cases ry;exact ne_bool (bV I q<|congrArg not DM)
  | str j=>obtain⟨t',rfl⟩:=ry;exact PySem.EqMixed.ne_bool_str (bV I q (by simp))
  | _=>exact absurd (show false=true from hs) zan
 | int i=>
  obtain⟨t,rfl⟩:=rx
  cases y with
  | aA=>cases ry;exact PySem.EqNone.ne_int_none (bV I q (by simp))
  | int j=>obtain⟨t',rfl⟩:=ry;exact ne_int (bV I q<|congrArg not DL)
  | str j=>obtain⟨t',rfl⟩:=ry;exact PySem.EqMixed.ne_int_str (bV I q (by simp))
  | _=>exact absurd (show false=true from hs) zan
 | str i=>
  obtain⟨t,rfl⟩:=rx
  cases y with
  | aA=>cases ry;exact PySem.EqNone.ne_str_none (bV I q (by simp))
  | bl j=>cases ry;exact PySem.EqMixed.ne_str_bool (bV I q (by simp))
  | int j=>obtain⟨t',rfl⟩:=ry;exact PySem.EqMixed.ne_str_int (bV I q (by simp))
  | str j=>obtain⟨t',rfl⟩:=ry;exact ne_str (bV I q<|congrArg not vd)
  | _=>exact absurd (show false=true from hs) zan
 | eT i=>
  obtain⟨t,rfl⟩:=rx
  cases y with
  | eT j=>obtain⟨t',rfl⟩:=ry;exact PySem.W.ne_bytes (bV I q<|congrArg not DN)
  | _=>exact absurd (show false=true from hs) zan
 | _=>cases y<;>exact absurd (show false=true from hs) zan
theorem Oi:bw X (compareOp .Lt) (kr fun i j=> .bl (decide<|i<j)):=va fun _ _ _ _ _ _ _ q=>lt_int q
theorem Oj:bw X (compareOp .LtE) (kr fun i j=> .bl (decide<|i<=j)):=va fun _ _ _ _ _ _ _ q=>le_int q
theorem Ol:bw X (compareOp .Gt) (kr fun i j=> .bl (decide<|j<i)):=va fun _ _ _ _ _ _ _ q=>gt_int q
theorem Om:bw X (compareOp .GtE) (kr fun i j=> .bl (decide<|j<=i)):=va fun _ _ _ _ _ _ _ q=>ge_int q
theorem Oo:bw X (compareOp .In) (fun x y H Q=> ∃i j,x= .str i/\y= .str j/\Q (.bl<|!(Builtin.Str.occurrences j i 0 j.length 1).isEmpty) H):=by
 intro pins s σ H x y v u Q I rx ry h
 obtain⟨i,j,rfl,rfl,q⟩:=h
 obtain⟨t,rfl⟩:=rx
 obtain⟨t',rfl⟩:=ry
 exact in_str<|bV I q rfl
theorem Oq:bw X (compareOp .Is) (fun x y H Q=>y= .aA/\Q (.bl<|decide<|x= .aA) H):=by
 intro pins s σ H x y v u Q I rx ry h
 obtain⟨rfl,q⟩:=h
 cases ry
 refine is_none_gen<|bV I q ?_
 cases x<;>first
  | (cases rx;rfl)
  | (obtain⟨t,rfl⟩:=rx;rfl)
theorem Ot:bw X (compareOp .IsNot) (fun x y H Q=>y= .aA/\Q (.bl<|!decide (x= .aA)) H):=by
 intro pins s σ H x y v u Q I rx ry h
 obtain⟨rfl,q⟩:=h
 cases ry
 refine isnot_none_gen<|bV I q ?_
 cases x<;>first
  | (cases rx;rfl)
  | (obtain⟨t,rfl⟩:=rx;rfl)
theorem Ou:bw X (compareOp .NotIn) (fun x y H Q=> ∃i j,x= .str i/\y= .str j/\Q (.bl<|!(!(Builtin.Str.occurrences j i 0 j.length 1).isEmpty)) H):=by
 intro pins s σ H x y v u Q I rx ry h
 obtain⟨i,j,rfl,rfl,q⟩:=h
 obtain⟨t,rfl⟩:=rx
 obtain⟨t',rfl⟩:=ry
 exact notIn_str<|bV I q rfl
theorem bw.or{f:Value->Value->Sem Value}{r r':R2}(h:bw X f r)(h':bw X f r'):bw X f (fun x y H Q=>r x y H Q\/r' x y H Q):=by
 intro pins s σ H x y v u Q I rx ry q
 rcases q with q | q
 ·exact h pins s σ H x y v u Q I rx ry q
 ·exact h' pins s σ H x y v u Q I rx ry q
theorem Ov{op:CmpOp}{r:R2}(ho:bw X (compareOp op) r)(ha:PE X a ta)(hb:PE X b tb)(hm:behindInMarks op b=false):PE X (.Compare a [op] [b] pos) (eB r ta tb):=by
 intro pins s σ H Q I h
 exact wpAny_Compare1 (yG ha hb I h fun v u s2 x y H2 I2 rx ry q=>ho pins s2 σ H2 x y v u Q I2 rx ry q) hm
def lR(t:TE):TT:=fun σ H Q=>t σ H fun x H'=> ∃k,x= .bl k/\Q k H'
theorem Ow{op:CmpOp}{r:R2}(ho:bw X (compareOp op) r)(ha:PE X a ta)(hb:PE X b tb)(hm:behindInMarks op b=false):PT X (.Compare a [op] [b] pos) (lR<|eB r ta tb):=by
 intro pins s σ H Q I h
 refine wpAny_isTrue_Compare1 (aV (ha pins s σ H _ I h) fun v s1 ⟨x,H1,I1,r1,q1⟩=>aV (hb pins s1 σ H1 _ I1 q1) fun u s2 ⟨y,H2,I2,r2,q2⟩=>
  aV (ho pins s2 σ H2 x y v u _ I2 r1 r2 q2) fun c s3 ⟨z,H3,I3,r3,k,e,q3⟩=> ?_) hm
 subst e
 cases r3
 exact wpAny_truthy_bool ⟨H3,I3,q3⟩
def pd(r r':R2)(ta tb tc:TE):TE:=fun σ H Q=>ta σ H fun x H1=>tb σ H1 fun y H2=>r x y H2 fun z H3=> ∃k,z= .bl k/\
 (if k=true then tc σ H3 fun w' H4=>r' y w' H4 Q else Q (.bl false) H3)
theorem Ox{op b_:CmpOp}{r r':R2}(ho:bw X (compareOp op) r)(dG:bw X (compareOp b_) r')(ha:PE X a ta)(hb:PE X b tb)(hc:PE X c tc)
  (hm:lastMarks [op,b_] [b,c]=false:=by with_unfolding_all rfl):PE X (.Compare a [op,b_] [b,c] pos) (pd r r' ta tb tc):=by
 intro pins s σ H Q I h
 refine Compare_chain (aV (ha pins s σ H _ I h) fun v s1 ⟨x,H1,I1,r1,q1⟩=>chain_link (aV (hb pins s1 σ H1 _ I1 q1) fun u s2 ⟨y,H2,I2,r2,q2⟩=>
  aV (ho pins s2 σ H2 x y v u _ I2 r1 r2 q2) fun d s3 ⟨z,H3,I3,r3,k,e,q3⟩=> ?_)) hm
 subst e
 cases r3
 refine wpAny_truthy_bool ?_
 cases k with
 | false=>exact ite_ff ⟨.bl false,H3,I3,rfl,q3⟩
 | true=>exact ite_tt (chain_last<|aV (hc pins s3 σ H3 _ I3 q3) fun w' s4 ⟨z',H4,I4,r4,q4⟩=>dG pins s4 σ H4 y z' u w' Q I4 r2 r4 q4)
theorem Oy{op b_:CmpOp}{r r':R2}(ho:bw X (compareOp op) r)(dG:bw X (compareOp b_) r')(ha:PE X a ta)(hb:PE X b tb)(hc:PE X c tc)
  (hm:lastMarks [op,b_] [b,c]=false:=by with_unfolding_all rfl):PT X (.Compare a [op,b_] [b,c] pos) (lR<|pd r r' ta tb tc):=by
 intro pins s σ H Q I h
 refine isTrue_chain (aV (ha pins s σ H _ I h) fun v s1 ⟨x,H1,I1,r1,q1⟩=>test_link (aV (hb pins s1 σ H1 _ I1 q1) fun u s2 ⟨y,H2,I2,r2,q2⟩=>
  aV (ho pins s2 σ H2 x y v u _ I2 r1 r2 q2) fun d s3 ⟨z,H3,I3,r3,k,e,q3⟩=> ?_)) hm
 subst e
 cases r3
 refine wpAny_truthy_bool ?_
 cases k with
 | false=>
  obtain⟨k',e',q'⟩:=q3
  cases e'
  exact ite_ff ⟨H3,I3,q'⟩
 | true=>
  refine ite_tt<|test_last<|aV (hc pins s3 σ H3 _ I3 q3) fun w' s4 ⟨z',H4,I4,r4,q4⟩=>aV (dG pins s4 σ H4 y z' u w' _ I4 r2 r4 q4) fun d' s5 ⟨z2,H5,I5,r5,k2,e2,q5⟩=> ?_
  subst e2
  cases r5
  exact wpAny_truthy_bool ⟨H5,I5,q5⟩
def DO(K:Frag)(x:V)(H:Hp)(k:Bool):Prop:=
 match x with
 | .aA=>k=false
 | .bl b=>k=b
 | .int i=>k=(i !=0)
 | .str y=>y.length<=sizeLine/\k=((y.length:Int) !=0)
 | .eT y=>y.size<=sizeLine/\k=((y.size:Int) !=0)
 | .ref p=> (∃xs,aB K H p xs/\k= !xs.isEmpty)\/(∃xs,ba K H p xs/\k= !xs.isEmpty)\/ ∃aQ,H p=some (.dK aQ)/\k= !aQ.isEmpty
 | _=>False
theorem Oz{κ:Type}{aQ:List (κ×V)}{vs:List (κ×Value)}(r:KV aQ vs):(!vs.isEmpty)= !aQ.isEmpty:=by
 cases r<;>rfl
theorem DP{xs:List V}{its:List Value}(r:Vals xs its):(!its.toArray.isEmpty)= !xs.isEmpty:=by
 cases r<;>simp
theorem lS:(sizeLine:Nat) <2 ^ 63:=by rw[sizeLine_eq];decide
theorem DQ:N4 X (fun x H Q=> ∃k,DO X.K x H k/\Q k H):=by
 intro pins s σ H x v Q I rx h
 obtain⟨k,e,q⟩:=h
 have hl:=lS
 have hs:sizeLine=16777216:=sizeLine_eq
 cases x with
 | aA=>
  cases rx
  have e':k=false:=e
  subst e'
  exact truthy_none ⟨H,I,q⟩
 | bl b=>
  cases rx
  have e':k=b:=e
  subst e'
  exact wpAny_truthy_bool ⟨H,I,q⟩
 | int i=>
  obtain⟨t,rfl⟩:=rx
  have e':k=(i !=0):=e
  subst e'
  exact PySem.P.truthy_int ⟨H,I,q⟩
 | str y=>
  obtain⟨t,rfl⟩:=rx
  obtain⟨hy,e'⟩:y.length<=sizeLine/\k=((y.length:Int) !=0):=e
  subst e'
  exact PySem.P.truthy_str (by lia) ⟨H,I.tok _,q⟩
 | eT y=>
  obtain⟨t,rfl⟩:=rx
  obtain⟨hy,e'⟩:y.size<=sizeLine/\k=((y.size:Int) !=0):=e
  subst e'
  exact PySem.W.truthy_bytes (by lia) ⟨H,I.tok _,q⟩
 | ref p=>
  cases rx
  have e':(∃xs,aB X.K H p xs/\k= !xs.isEmpty)\/(∃xs,ba X.K H p xs/\k= !xs.isEmpty)\/ ∃aQ,H p=some (.dK aQ)/\k= !aQ.isEmpty:=e
  rcases e' with⟨xs,hx,e'⟩ | ⟨xs,hx,e'⟩ | ⟨aQ,hx,e'⟩
  ·subst e'
   obtain⟨its,r,pl,hz⟩:=I.list hx
   have hlen:=r.length
   exact wpAny_truthy_list pl.isList (by simp only[zad];lia) ⟨H,I.tok _,by rw[DP r];exact q⟩
  ·subst e'
   obtain⟨its,r,pl,hz⟩:=I.tuple hx
   have hlen:=r.length
   exact truthy_tuple pl (by simp only[zad];lia) ⟨H,I.tok _,by rw[DP r];exact q⟩
  ·subst e'
   obtain⟨hz,hS,vs,r,m⟩:aQ.length<=sizeLine/\(p==sysModules)=false/\ ∃vs,KV aQ vs/\s.heap.DictOf (jw X.prog X.w) p vs:=I.aL p _ hx
   have hlen:aQ.length=vs.length:=Paired.length r
   exact wpAny_truthy_dict hS m (by lia) ⟨H,I.tok _,by rw[Oz r];exact q⟩
 | _=>exact(show False from e).elim
theorem OA:bw X (binaryOp .Add) (fun x y H Q=> ∃i j,x= .str i/\y= .str j/\i.length+j.length<=sizeLine/\Q (.str<|i++j) H):=by
 intro pins s σ H x y v u Q I rx ry h
 obtain⟨i,j,rfl,rfl,hz,q⟩:=h
 obtain⟨t,rfl⟩:=rx
 obtain⟨t',rfl⟩:=ry
 exact add_str (fun t' tk=> ⟨.str<|i++j,H,I.tok _,⟨_,rfl⟩,q⟩) hz
theorem vals1{x:V}{us:List Value}(r:Vals [x] us): ∃u,us=[u]/\RelV x u:=by
 cases r with
 | cons r1 r2=>cases r2;exact⟨_,rfl,r1⟩
theorem vals2{x y:V}{us:List Value}(r:Vals [x,y] us): ∃u w',us=[u,w']/\RelV x u/\RelV y w':=by
 cases r with
 | cons r1 r2=>
  cases r2 with
  | cons r3 r4=>cases r4;exact⟨_,_,rfl,r1,r3⟩
theorem OB:bQ X (.builtin "abs") (fun xs H Q=> ∃i,xs=[.int i]/\Q (.int (if i<0 then -i else i)) H):=by
 intro pins s σ H xs us Q I r h
 obtain⟨i,rfl,q⟩:=h
 obtain⟨u,rfl,t,rfl⟩:=vals1 r
 exact call_abs_int fun u tk=> ⟨.int (if i<0 then -i else i),H,I.tok _,⟨_,rfl⟩,q⟩
theorem OC(hc:X.calm=true):bQ X (.builtin "max") (fun xs H Q=> ∃i j,xs=[.int i, .int j]/\Q (.int (if j>i then j else i)) H):=by
 intro pins s σ H xs us Q I r h
 obtain⟨i,j,rfl,q⟩:=h
 obtain⟨u,w',rfl,⟨t,rfl⟩,⟨t',rfl⟩⟩:=vals2 r
 refine max_two_ints (I.ok.hd hc) fun h' tk k=> ⟨_,H,I.kept k, ?_,q⟩
 by_cases hj:j>i
 ·rw[if_pos hj,if_pos hj];exact⟨_,rfl⟩
 ·rw[if_neg hj,if_neg hj];exact⟨_,rfl⟩
theorem OD(hc:X.calm=true):bQ X (.builtin "min") (fun xs H Q=> ∃i j,xs=[.int i, .int j]/\Q (.int (if j<i then j else i)) H):=by
 intro pins s σ H xs us Q I r h
 obtain⟨i,j,rfl,q⟩:=h
 obtain⟨u,w',rfl,⟨t,rfl⟩,⟨t',rfl⟩⟩:=vals2 r
 refine min_two_ints (I.ok.hd hc) fun h' tk k=> ⟨_,H,I.kept k, ?_,q⟩
 by_cases hj:j<i
 ·rw[if_pos hj,if_pos hj];exact⟨_,rfl⟩
 ·rw[if_neg hj,if_neg hj];exact⟨_,rfl⟩
theorem OE:bQ X (.type "int") (fun xs H Q=> (∃i,xs=[.int i]/\Q (.int i) H)\/ ∃k,xs=[.bl k]/\Q (.int (if k then 1 else 0)) H):=by
 intro pins s σ H xs us Q I r h
 rcases h with⟨i,rfl,q⟩ | ⟨k,rfl,q⟩
 ·obtain⟨u,rfl,t,rfl⟩:=vals1 r
  exact call_int_int ⟨.int i,H,I,⟨_,rfl⟩,q⟩
 ·obtain⟨u,rfl,r1⟩:=vals1 r
  cases r1
  exact call_int_bool ⟨.int (if k then 1 else 0),H,I.tok _,⟨_,rfl⟩,q⟩
def DR(K:Frag)(x:V)(H:Hp)(n:Nat):Prop:=
 match x with
 | .str y=>y.length<=sizeLine/\n=y.length
 | .eT y=>y.size<=sizeLine/\n=y.size
 | .ref p=> (∃xs,aB K H p xs/\n=xs.length)\/ ∃xs,ba K H p xs/\n=xs.length
 | _=>False
theorem OF:bQ X (.builtin "len") (fun xs H Q=> ∃x n,xs=[x]/\DR X.K x H n/\Q (.int n) H):=by
 intro pins s σ H xs us Q I r h
 obtain⟨x,n,rfl,e,q⟩:=h
 obtain⟨u,rfl,rx⟩:=vals1 r
 have hl:=lS
 have hs:sizeLine=16777216:=sizeLine_eq
 cases x with
 | str y=>
  obtain⟨t,rfl⟩:=rx
  obtain⟨hy,e'⟩:y.length<=sizeLine/\n=y.length:=e
  subst e'
  exact len_str (by lia) ⟨.int _,H,I.tok _,⟨_,rfl⟩,q⟩
 | eT y=>
  obtain⟨t,rfl⟩:=rx
  obtain⟨hy,e'⟩:y.size<=sizeLine/\n=y.size:=e
  subst e'
  exact PySem.W.len_bytes (by lia) ⟨.int _,H,I.tok _,⟨_,rfl⟩,q⟩
 | ref p=>
  cases rx
  have e':(∃xs,aB X.K H p xs/\n=xs.length)\/ ∃xs,ba X.K H p xs/\n=xs.length:=e
  rcases e' with⟨xs,hx,e'⟩ | ⟨xs,hx,e'⟩
  ·subst e'
   obtain⟨its,r',pl,hz⟩:=I.list hx
   have hlen:=r'.length
   exact Calls.call_len_list pl.isList (by simp only[zad];lia) ⟨.int xs.length,H,I.tok _,⟨_,by simp only[zad];rw[hlen]⟩,q⟩
  ·subst e'
   obtain⟨its,r',pl,hz⟩:=I.tuple hx
   have hlen:=r'.length
   exact len_tuple pl (by simp only[zad];lia) ⟨.int xs.length,H,I.tok _,⟨_,by simp only[zad];rw[hlen]⟩,q⟩
 | _=>exact(show False from e).elim
end
structure nc (h:Heap) (x dx C:Addr) (mA:Str->Option Value):Prop where
 obj:h.get? x=some (instObj C dx)
 ns:h.Ns1 dx mA
 ne:dx≠x
theorem OG{h:Heap}{dx:Addr}{mA:Str->Option Value}(n:h.Ns1 dx mA): ∃od,h.get? dx=some od/\ ∀name,lookIn name od=some (mA name):=by
 obtain⟨o,es,ep,ho,hd,hk,_,hm⟩:=n
 refine⟨o,ho,fun name=> ?_⟩
 have e:=hm name
 unfold nsFind findBy at e
 rw[<-Array.find?_toList] at e
 unfold lookIn
 rw[hd]
 dsimp only
 split
 ·rename_i y q
  rw[q] at e
  exact congrArg some e
 ·rename_i q
  rw[q] at e
  have a:es.toList.any (·.refKey)=false:=by
   rw[List.any_eq_false]
   intro y hy
   obtain⟨z,t,OH⟩:=hk y (Array.mem_toList_iff.mp hy)
   simp[DictEntry.refKey,OH]
  have a': ¬es.toList.any (·.refKey)=true:=by rw[a];exact zan
  rw[if_neg a']
  exact congrArg some e
theorem nc.look{h:Heap}{x dx C:Addr}{mA:Str->Option Value}(I:nc h x dx C mA): ∃od,InstAt h x (instObj C dx) C (some od)/\ ∀name,lookIn name od=some (mA name):=
 let ⟨od,ho,hl⟩:=OG I.ns
 ⟨od,⟨I.obj,rfl,rfl,ho⟩,hl⟩
section
variable {prog:Program} {w:World} {A:Around} {E:Value->Shared->Prop} {s:Shared} {K:Frag} {x dx C f:Addr} {mA:Str->Option Value} {name:Str} {v:Value}
theorem get_map{expr:Bool}{Q:Value->Shared->Prop}(X:K.In s.heap)(I:nc s.heap x dx C mA)(hg:plainGet K C name=true)(hh:hasDictIn K C=true)
  (ha:PySem.W.findIn K (.ref C) name=some none) (hv:mA name=some v) (OI:handedIn v=true) (h:Q v {s with toks:=s.toks+1}):
  wpAny (model prog w) A (getAttr (.ref x) name expr) Q E s:=by
 obtain⟨od,J,hl⟩:=I.look
 exact PySem.W.get_value X J (plainGet_of hg).1 (PySem.W.findObj_own hh ha rfl (by rw[hl,hv])) OI h
theorem OJ{pl:Sem Bool}{Q:Value×List Value->Shared->Prop}(X:K.In s.heap)(I:nc s.heap x dx C mA)(hg:plainGet K C name=true)
  (hf:PySem.W.findIn K (.ref C) name=some (some<|.ref f)) (ht:PySem.W.isFn K (.ref f)=true) (hv:mA name=none) (h:Q (.ref f,[.ref x]) s):
  wpAny (model prog w) A (getMethod (.ref x) name pl) Q E s:=by
 obtain⟨od,J,hl⟩:=I.look
 exact PySem.W.method_fn X J (plainGet_of hg).1 (plainGet_of hg).2 hf (beq_iff_eq.mp ht) (by show(lookIn name od).map (·.isSome)=some false;rw[hl,hv];rfl) h
theorem OK{ns:List Str}{Q:Unit->Shared->Prop}(X:K.In s.heap)(I:nc s.heap x dx C mA)
  (hs:PySem.W.findIn K (.ref C) "__setattr__"=some (some<|.builtin "object.__setattr__")) (hp:plainOver K C=true) (ht:takerIn K C name=some none) (hh:hasDictIn K C=true)
  (hw:PySem.Within mA ns) (gQ:ns.length<=sizeLine)
  (h: ∀h',nc h' x dx C (fun y=>if y=name then some v else mA y)->Heap.SameBut dx s.heap h'->Q () {s with heap:=h',toks:=s.toks+2}):
  wpAny (model prog w) A (setAttr (.ref x) name v) Q E s:=by
 obtain⟨od,J,hl⟩:=I.look
 refine PySem.W.set_plain X J hs<|PySem.W.osa_open (s:={s with toks:=s.toks+1}) (r:=none) X J hp ht fun b=> ?_
 obtain⟨cd,hc,oZ⟩:=PySem.W.any_some hh
 have hx:s.heap.get? x=some ⟨.ref C,some dx, .plain,#[]⟩:=I.obj
 refine wpAny_bind<|wpAny_pure<|wpAny_bind<|wpAny_bind<|wpAny_loadPart hx<|wpAny_bind<|PySem.W.Looks.here (s:={s with toks:=s.toks+1}) (PySem.W.looks_clsIn X hc) ?_
 rw[oZ]
 refine wpAny_pure (a:=some dx)<|wpAny_bind<|wpAny_pure<|wpAny_bind ?_
 refine wpAny_nsSet1 (s:={s with toks:=s.toks+1}) I.ns fun h' lT DS=> ?_
 obtain⟨oD,esD,epD,OL,OM,ku⟩:=lT.count (PySem.Within.cons name v hw)
 refine wpAny_bind<|wpAny_lookBehind OL (by rw[OM];exact pastItsLine_dict (zaq ku (by rw[zar];lia))) ?_
 exact wpAny_pure<|h _ ⟨(DS.2 _<|Ne.symm I.ne).trans I.obj,lT,I.ne⟩ DS
theorem ON{R:Result->Shared->Prop}{vs:List Value}{kw:List (Str×Value)}(X:K.In s.heap)(hm:makesIn K C=true)
  (hi:PySem.W.findIn K (.ref C) "__init__"=some (some<|.ref f)) (hf:PySem.W.typeIn K (.ref f)=some (.type "function"))
  (h:codeAny (model prog w) (A.under (.builtin "type.__call__" ⟨.ref C::vs,kw⟩)) (.call (.ref f) ⟨.ref (s.heap.objs.size+1)::vs,kw⟩) (PySem.W.InitBack (s.heap.objs.size+1) R)
   {s with heap:=(s.heap.push emptyDict).push (instObj C s.heap.objs.size)}):
  codeAny (model prog w) A (.call (.ref C) ⟨vs,kw⟩) R s:=by
 obtain⟨hh,g,d,t,os⟩:=s
 exact PySem.W.make_core (PySem.W.makes_of X hm) (PySem.W.looks_findIn X hi) (fun self=>PySem.W.bind_fn X self hf) (.inl rfl) h
end
def b7(f:Str)(v:V):List (Str×V)->List (Str×V)
 | []=> [(f,v)]
 | (g,x)::r=>if g=f then (g,v)::r else (g,x)::b7 f v r
theorem DT(f g:Str)(v:V): ∀fs:List (Str×V),(b7 f v fs).lookup g=if g=f then some v else fs.lookup g
 | []=>by
  show List.lookup g [(f,v)]=_
  by_cases h:g=f
  ·have hb:(g==f)=true:=beq_iff_eq.mpr h
   simp only[List.lookup,hb,if_pos h]
  ·have hb:(g==f)=false:=beq_eq_false_iff_ne.mpr h
   simp only[List.lookup,hb,if_neg h]
 | (k,x)::r=>by
  have ih:=DT f g v r
  rw[show b7 f v ((k,x)::r)=(if k=f then (k,v)::r else (k,x)::b7 f v r) from rfl]
  by_cases hk:k=f
  ·rw[if_pos hk]
   by_cases h:g=k
   ·have hb:(g==k)=true:=beq_iff_eq.mpr h
    simp only[List.lookup,hb,if_pos<|h.trans hk]
   ·have hb:(g==k)=false:=beq_eq_false_iff_ne.mpr h
    simp only[List.lookup,hb,if_neg (fun e:g=f=>h (e.trans hk.symm))]
  ·rw[if_neg hk]
   by_cases h:g=k
   ·have hb:(g==k)=true:=beq_iff_eq.mpr h
    simp only[List.lookup,hb,if_neg (fun e:g=f=>hk (h.symm.trans e))]
   ·have hb:(g==k)=false:=beq_eq_false_iff_ne.mpr h
    simp only[List.lookup,hb]
    exact ih
theorem yH(f:Str)(v:V): ∀fs:List (Str×V),f∈ (b7 f v fs).map (·.1)/\ ∀g,g∈fs.map (·.1)->g∈ (b7 f v fs).map (·.1)
 | []=> ⟨by simp[b7],fun g h=>by simp at h⟩
 | (k,x)::r=>by
  obtain⟨i1,i2⟩:=yH f v r
  rw[show b7 f v ((k,x)::r)=(if k=f then (k,v)::r else (k,x)::b7 f v r) from rfl]
  by_cases hk:k=f
  ·rw[if_pos hk]
   subst hk
   exact⟨by simp,fun g h=>by simpa using h⟩
  ·rw[if_neg hk]
   refine⟨?_,fun g h=> ?_⟩
   ·rw[zaO]
    exact zau _ i1
   ·rw[zaO] at h⊢
    rcases zaa.mp h with e | e
    ·exact zaa.mpr (.inl e)
    ·exact zau _ (i2 g e)
theorem DU(f:Str)(v:V): ∀fs:List (Str×V),(b7 f v fs).length<=fs.length+1
 | []=>by simp[b7]
 | (k,x)::r=>by
  have ih:=DU f v r
  rw[show b7 f v ((k,x)::r)=(if k=f then (k,v)::r else (k,x)::b7 f v r) from rfl]
  by_cases hk:k=f
  ·rw[if_pos hk,zar,zar];lia
  ·rw[if_neg hk,zar,zar];lia
theorem jx.some_of{v:V}{o:Option Value}(r:jx (some v) o): ∃u,o=some u/\RelV v u:=by
 cases o with
 | none=>exact(show False from r).elim
 | some u=>exact⟨u,rfl,r⟩
theorem jx.none_of{o:Option Value}(r:jx none o):o=none:=by
 cases o with
 | none=>rfl
 | some u=>exact(show False from r).elim
theorem OO{v:V}{u:Value}(r:RelV v u):handedIn u=true:=by
 cases v with
 | aA=>cases (show u=Value.none from r);rfl
 | bl b=>cases (show u=Value.bool b from r);rfl
 | int i=>obtain⟨t,e⟩:=(show ∃t,u=Value.int i t from r);cases e;rfl
 | str x=>obtain⟨t,e⟩:=(show ∃t,u=Value.str x t from r);cases e;rfl
 | eT b=>obtain⟨t,e⟩:=(show ∃t,u=Value.bytes b t from r);cases e;rfl
 | lP b=>obtain⟨t,e⟩:=(show ∃t,u=Value.float b t from r);cases e;rfl
 | ref a=>cases (show u=Value.ref a from r);rfl
 | ty n=>cases (show u=Value.type n from r);rfl
section
variable {P:Program} {w:World} {H H':Hp} {h h':Heap} {a C dx:Addr} {fs Nn:List (Str×V)}
theorem ve(aL:bZ P w H h)(e:H a=some (.ins C dx fs)): ∃mA,nc h a dx C mA/\(∀f,jx (fs.lookup f)<|mA f)/\PySem.Within mA (fs.map (·.1))/\fs.length<=1000/\H dx=some (.own a):=by
 obtain⟨d,z,ne,ob,mA,n,r,q⟩:=(show cB P w H h a (.ins C dx fs) from aL a _ e)
 exact⟨mA,⟨ob,n,ne⟩,r,q,z,d⟩
end
structure eZ (K:Frag) (C:Addr):Prop where
 pg:plainGet K C Str.empty=true
 hd:hasDictIn K C=true
 po:plainOver K C=true
 sa:PySem.W.findIn K (.ref C) "__setattr__"=some (some<|.builtin "object.__setattr__")
theorem eZ.get{K:Frag}{C:Addr}(c:eZ K C)(f:Str):plainGet K C f=true:=c.pg
def fV(K:Frag)(C:Addr)(f:Str):Prop:=PySem.W.findIn K (.ref C) f=some none
theorem fV.OP{K:Frag}{C:Addr}{f:Str}(n:fV K C f):takerIn K C f=some none:=by
 unfold takerIn
 rw[show PySem.W.findIn K (.ref C) f=some none from n]
 rfl
structure Meth (K:Frag) (C:Addr) (m:Str) (f:Addr):Prop where
 at_:PySem.W.findIn K (.ref C) m=some (some<|.ref f)
 fn:PySem.W.isFn K (.ref f)=true
 kp:PySem.W.keepIn K (.ref f)=true
section
variable {X:Cx} {pins:List (Addr×Obj)} {σ:St} {H:Hp} {s:Shared} {a C dx:Addr} {fs:List (Str×V)} {f:Str} {v:V} {A:Around} {E:Value->Shared->Prop}
theorem OQ{b:Bool}{Q:Value->Shared->Prop}(I:Inv X pins σ H s)(e:H a=some (.ins C dx fs))(c:eZ X.K C)(n:fV X.K C f)(l:fs.lookup f=some v)
  (h: ∀u s',Inv X pins σ H s'->RelV v u->Q u s'):wpAny (model X.prog X.w) A (getAttr (.ref a) f b) Q E s:=by
 obtain⟨mA,O,r,_,_,_⟩:=ve I.aL e
 obtain⟨u,hu,ru⟩:=jx.some_of (v:=v) (o:=mA f) (by rw[<-l];exact r f)
 exact get_map I.cj O (c.get f) c.hd n hu (OO ru)<|h u _ (I.tok _) ru
theorem DV{m:Str}{g:Addr}{pl:Sem Bool}{Q:Value×List Value->Shared->Prop}(I:Inv X pins σ H s)(e:H a=some (.ins C dx fs))(c:eZ X.K C)(k:Meth X.K C m g)(l:fs.lookup m=none)
  (h:Q (.ref g,[.ref a]) s):wpAny (model X.prog X.w) A (getMethod (.ref a) m pl) Q E s:=by
 obtain⟨mA,O,r,_,_,_⟩:=ve I.aL e
 have hn:mA m=none:=jx.none_of (by rw[<-l];exact r m)
 exact OJ I.cj O (c.get m) k.at_ k.fn hn h
theorem OR{y:V}{u:Value}{Q:Unit->Shared->Prop}(I:Inv X pins σ H s)(e:H a=some (.ins C dx fs))(c:eZ X.K C)(n:fV X.K C f)(hl:fs.length<1000)(ry:RelV y u)
  (h: ∀s',Inv X pins σ (upd H a<|.ins C dx<|b7 f y fs) s'->Q () s'):wpAny (model X.prog X.w) A (setAttr (.ref a) f u) Q E s:=by
 obtain⟨mA,O,r,wi,_,ho⟩:=ve I.aL e
 have hz:(fs.map (·.1)).length<=sizeLine:=by rw[zag,sizeLine_eq];lia
 refine OK I.cj O c.sa c.po n.OP c.hd wi hz fun h' O' sb=>h _ ?_
 have hd: ∃o,h'.get? dx=some o:=let ⟨o,_,_,e',_⟩:=O'.ns;⟨o,e'⟩
 refine I.write (x:=a) (e:=dx) (by rw[e];exact True.intro) (.inr ho) (fun b q hb z=> (sb.2 b hb).trans z) hd ?_
 refine⟨by rw[aR O.ne];exact ho, ?_,O.ne,O'.obj,_,O'.ns,fun g=> ?_,fun g hg=> ?_⟩
 ·have:=DU f y fs;lia
 ·show jx ((b7 f y fs).lookup g) (if g=f then some u else mA g)
  rw[DT]
  by_cases q:g=f
  ·rw[if_pos q,if_pos q];exact ry
  ·rw[if_neg q,if_neg q];exact r g
 ·by_cases q:g=f
  ·rw[q];exact(yH f y fs).1
  ·refine(yH f y fs).2 g (wi g fun z=>hg ?_)
   show(if g=f then some u else mA g)=none
   rw[if_neg q];exact z
theorem Inv.made(I:Inv X pins σ H s):Inv X pins σ (upd (upd H s.heap.objs.size<|.own<|s.heap.objs.size+1) (s.heap.objs.size+1)<|.ins C s.heap.objs.size [])
  {s with heap:=(s.heap.push emptyDict).push (instObj C s.heap.objs.size)}:=by
 have e1:(s.heap.push emptyDict).get? s.heap.objs.size=some emptyDict:=Heap.get?_push_size s.heap rfl
 have e2:((s.heap.push emptyDict).push<|instObj C s.heap.objs.size).get? (s.heap.objs.size+1)=some (instObj C s.heap.objs.size):=by
  have:=Heap.get?_push_size (s.heap.push emptyDict) (o:=instObj C s.heap.objs.size) rfl
  rwa [Heap.size_push] at this
 have e3:(s.heap.push emptyDict).Ns s.heap.objs.size (fun _=>none):=⟨emptyDict,#[],_,e1,rfl,(fun e he=>absurd he (by simp)),fun _=>rfl⟩
 have I1:=I.laid (a:=s.heap.objs.size) (o:= .own (s.heap.objs.size+1)) (h':=s.heap.push emptyDict) (t':=s.toks) (fun b u q=>Heap.get?_push_of_some _ q) (zqR _) ⟨_,e1⟩
 refine I1.laid (a:=s.heap.objs.size+1) (o:= .ins C s.heap.objs.size []) (t':=s.toks) (fun b u q=>Heap.get?_push_of_some _ q) (Nat.le_of_eq<|Heap.size_push _ _) ?_
 have ne:s.heap.objs.size≠s.heap.objs.size+1:=zae (zbd _)
 refine⟨by rw[aR ne,aD],zqZ _,ne,e2,fun _=>none,(Heap.Ns1.of_empty e3).at fun o q=>Heap.get?_push_of_some _ q,fun _=>True.intro,fun y hy=>absurd rfl hy⟩
theorem OT{prog:Program}{w:World}{env:Env}{e:Expr}{f:Str}{pos:Pos}{s:Shared}{Q:Value->Shared->Prop}(hb:attributeBase e f env (eval e env)=eval e env)
  (h:wpAny (model prog w) A (eval e env) (fun o s₁=>wpAny (model prog w) A (getAttr o f true) Q E s₁) E s):wpAny (model prog w) A (eval (.Attribute e f pos) env) Q E s:=
 Attribute_any_ h (by rw[arm_eval_Attribute,hb])
end
def vf(K:Frag)(ta:TE)(f:Str):TE:=fun σ H Q=>ta σ H fun x H1=> ∃a C dx fs v,x= .ref a/\H1 a=some (.ins C dx fs)/\eZ K C/\fV K C f/\fs.lookup f=some v/\Q v H1
def yI(K:Frag)(ta tv:TE)(f:Str):TS:=fun D σ H=>tv σ H fun y H1=>ta σ H1 fun x H2=> ∃a C dx fs,x= .ref a/\H2 a=some (.ins C dx fs)/\eZ K C/\fV K C f/\fs.length<1000/\
 D.nx σ (upd H2 a<|.ins C dx<|b7 f y fs)
section
variable {X:Cx} {o e value:Expr} {f:Str} {pos pos' qU:Pos} {ta tv:TE}
theorem OU(he:PE X e ta)(hb:attributeBase e f X.env (eval e X.env)=eval e X.env):PE X (.Attribute e f pos) (vf X.K ta f):=by
 intro pins s σ H Q I h
 refine OT hb<|aV (he pins s σ H _ I h) fun u s1 ⟨x,H1,I1,rx,a,C,dx,fs,v,ex,ea,c,n,l,q⟩=> ?_
 subst ex
 obtain rfl:u=Value.ref a:=rx
 exact OQ I1 ea c n l fun u' s2 I2 ru=> ⟨v,H1,I2,ru,q⟩
theorem OV(ha:PE X o ta)(hv:PE X value tv)(hs:swapsWith value (some<|.Attribute o f pos') pos.line X.env=pure false):PS X (.Assign [.Attribute o f pos'] value pos) (yI X.K ta tv f):=by
 intro pins s σ H D I h
 refine plainObj_wpAny_Assign_Attribute (aV (hv pins s σ H _ I h) fun u s1 ⟨y,H1,I1,ry,q⟩=>aV (ha pins s1 σ H1 _ I1 q) fun ov s2 ⟨x,H2,I2,rx,a,C,dx,fs,ex,ea,c,n,l,q2⟩=> ?_) hs
 subst ex
 obtain rfl:ov=Value.ref a:=rx
 exact OR I2 ea c n l ry fun s3 I3=> ⟨σ,_,I3,q2⟩
end
section
variable {X:Cx} {pins:List (Addr×Obj)} {σ:St} {H:Hp} {s:Shared} {A:Around} {E:Value->Shared->Prop} {Q:Value->Shared->Prop} {c:Value} {b:Bool}
inductive ig (K:Frag) (H:Hp):V->Value->Prop where
 | aA:ig K H .aA (.type "NoneType")
 | bl (x:Bool):ig K H (.bl x) (.type "bool")
 | int (i:Int):ig K H (.int i) (.type "int")
 | str (x:Str):ig K H (.str x) (.type "str")
 | lP (x:UInt64):ig K H (.lP x) (.type "float")
 | lst {a:Addr} {xs:List V} (e:H a=some (.lst xs)):ig K H (.ref a) (.type "list")
 | bE {a:Addr} {o:Obj} {xs:List V} (e:H a=some (.bE o<|.lst xs)):ig K H (.ref a) (.type "list")
 | tup {a:Addr} {xs:List V} (e:H a=some (.tup xs)):ig K H (.ref a) (.type "tuple")
 | dK {a:Addr} {aQ:List (Key×V)} (e:H a=some (.dK aQ)):ig K H (.ref a) (.type "dict")
 | dT {a:Addr} {aQ:List (List Key×V)} (e:H a=some (.dT aQ)):ig K H (.ref a) (.type "dict")
 | ins {a C dx:Addr} {fs:List (Str×V)} (e:H a=some (.ins C dx fs)) (cl:eZ K C) (ha:PySem.W.findIn K (.ref C) "__class__"=some (some<|.builtin "object.__class__"))
   (hn:PySem.W.specialIn K (.builtin "object.__class__") "__get__"=some (some<|.builtin "getset_descriptor.__get__")) (lU:PySem.W.takesIn K (.builtin "object.__class__")=some true)
   (hm:PySem.W.mroIn K C (.type "object")=some true):ig K H (.ref a) (.ref C)
theorem kx{x:V}{u t:Value}(I:Inv X pins σ H s)(rx:RelV x u)(ty:ig X.K H x t)(e:kitOne X.K t c=some b)(h: ∀tk,Q (.bool b) {s with toks:=tk}):
  wpAny (model X.prog X.w) A (call (.builtin "isinstance") [u,c]) Q E s:=by
 cases ty with
 | aA=>cases (show u=Value.none from rx);exact kia_one PySem.W.kitx_none I.cj True.intro e (fun z=>nomatch z) h
 | bl y=>cases (show u=Value.bool y from rx);exact kia_one PySem.W.kitx_bool I.cj True.intro e (fun z=>nomatch z) h
 | int i=>obtain⟨t,q⟩:=(show ∃t,u=Value.int i t from rx);cases q;exact kia_one PySem.W.kitx_int I.cj True.intro e (fun z=>nomatch z) h
 | str y=>obtain⟨t,q⟩:=(show ∃t,u=Value.str y t from rx);cases q;exact kia_one PySem.W.kitx_str I.cj True.intro e (fun z=>nomatch z) h
 | lP y=>obtain⟨t,q⟩:=(show ∃t,u=Value.float y t from rx);cases q;exact kia_one PySem.W.kitx_float I.cj True.intro e (fun z=>nomatch z) h
 | @lst a xs ea=>
  cases (show u=Value.ref a from rx)
  obtain⟨_,_,n,_,h1⟩:=(show cB X.prog X.w H s.heap a (.lst xs) from I.aL a _ ea)
  exact kia_one kitx_list I.cj ⟨_,h1,rfl⟩ e (fun z=>nomatch z) h
 | @bE a ob xs ea=>
  cases (show u=Value.ref a from rx)
  obtain⟨_,_,_,n,_,h1⟩:=(show cB X.prog X.w H s.heap a (.bE ob<|.lst xs) from I.aL a _ ea)
  exact kia_one kitx_list I.cj ⟨_,h1,rfl⟩ e (fun z=>nomatch z) h
 | @tup a xs ea=>
  cases (show u=Value.ref a from rx)
  obtain⟨_,_,_,p⟩:=(show cB X.prog X.w H s.heap a (.tup xs) from I.aL a _ ea)
  obtain⟨o,h1,h2,_⟩:=p
  exact kia_one PySem.W.kitx_tuple I.cj ⟨o,h1,h2⟩ e (fun z=>nomatch z) h
 | @dK a aQ ea=>
  cases (show u=Value.ref a from rx)
  obtain⟨_,_,vs,_,p⟩:=(show cB X.prog X.w H s.heap a (.dK aQ) from I.aL a _ ea)
  obtain⟨o,es,ep,h1,h2,_⟩:=p
  exact kia_one kitx_dict I.cj ⟨o,h1,h2.1⟩ e (fun z=>nomatch z) h
 | @dT a aQ ea=>
  cases (show u=Value.ref a from rx)
  obtain⟨_,_,xs,_,o,es,ep,h1,h2,_⟩:=(show cB X.prog X.w H s.heap a (.dT aQ) from I.aL a _ ea)
  exact kia_one kitx_dict I.cj ⟨o,h1,h2.1⟩ e (fun z=>nomatch z) h
 | @ins a C dx fs ea cl ha hn lU hm=>
  cases (show u=Value.ref a from rx)
  obtain⟨mA,O,_⟩:=ve I.aL ea
  obtain⟨od,J,_⟩:=O.look
  exact kia_one (PySem.W.kitx_own (cl.get _) cl.hd ha hn lU hm) I.cj J e (fun z=>nomatch z) h
end
structure cJ (k:Nat) (A:Around):Prop where
 hd:A.handled=none
 dp:A.depth+3*k+5<recursionLimit
 un:A.units+16*k+200<cLine
theorem cJ.mono{j k:Nat}{A:Around}(r:cJ k A)(h:j<=k):cJ j A:=⟨r.hd,by have:=r.dp;lia,by have:=r.un;lia⟩
theorem cJ.deeper{k:Nat}{A:Around}(r:cJ (k+1) A)(env:Env):cJ k (A.deeper env):=
 ⟨r.hd,by have:=r.dp;show A.depth+1+3*k+5<_;lia,by have:=r.un;show A.units+3+16*k+200<_;lia⟩
theorem OW{A:Around}{C:Addr}{us:List Value}{kw:List (Str×Value)}:(A.under<|.builtin "type.__call__" ⟨.ref C::us,kw⟩).depth=A.depth+1:=by
 first | rfl | simp[Around.under,Code.weight,Code.isCreation,Code.isGuard,Code.isCaller,Code.frames,Code.isFrame,guardIds]
theorem OX{A:Around}{C:Addr}{us:List Value}{kw:List (Str×Value)}:(A.under<|.builtin "type.__call__" ⟨.ref C::us,kw⟩).units=A.units+1:=by
 first | rfl | simp[Around.under,Code.cUnits,Code.frames,Code.isFrame]
theorem cJ.make{k:Nat}{A:Around}(r:cJ (k+1) A)(C:Addr)(us:List Value)(kw:List (Str×Value)):cJ k (A.under<|.builtin "type.__call__" ⟨.ref C::us,kw⟩):=
 ⟨r.hd,by have:=r.dp;rw[OW];lia,by have:=r.un;rw[OX];lia⟩
theorem cJ.depth{k:Nat}{A:Around}(r:cJ k A):A.depth<recursionLimit:=by have:=r.dp;lia
theorem cJ.units{k:Nat}{A:Around}(r:cJ k A):A.units+64<cLine:=by have:=r.un;lia
def fA:TA:=fun _ H Q=>Q [] H
def cK(ta:TE)(tr:TA):TA:=fun σ H Q=>ta σ H fun x H1=>tr σ H1 fun xs H2=>Q (x::xs) H2
section
variable {X:Cx} {e:Expr} {es:List Expr} {te:TE} {t:TA} {pos:Pos}
theorem ng:PA X [] fA:=fun _ _ _ _ H Q I h=>Calls.spliced_nil ⟨[],H,I, .nil,h⟩
theorem jE(ha:PE X e te)(hr:PA X es t)(hs:starEach (e::es) X.env=(false,eval e X.env)::starEach es X.env:=by rfl):PA X (e::es) (cK te t):=by
 intro pos pins s σ H Q I h
 rw[hs]
 show wpAny _ _ (spliced ((false,eval e X.env)::backTo pos (starEach es X.env))) _ _ s
 refine Calls.spliced_cons<|aV (ha pins s σ H _ I h) fun u s1 ⟨x,H1,I1,r1,q1⟩=> ?_
 exact aV (hr pos pins s1 σ H1 _ I1 q1) fun us s2 ⟨xs,H2,I2,r2,q2⟩=> ⟨x::xs,H2,I2, .cons r1 r2,q2⟩
def DW(t:TA):TE:=fun σ H Q=>t σ H fun xs H1=>xs.length<=sizeLine/\ ∀p,H1 p=none->Q (.ref p) (upd H1 p<|.tup xs)
def DX(t:TA):TE:=fun σ H Q=>t σ H fun xs H1=>xs.length<=sizeLine/\ ∀p,H1 p=none->Q (.ref p) (upd H1 p<|.lst xs)
theorem OY{x1}(h:PA X es t):PE X (.Tuple es x1 pos) (DW t):=by
 intro pins s σ H Q I hq
 refine wpAny_Tuple_spliced<|aV (h pos pins s σ H _ I hq) fun us s1 ⟨xs,H1,I1,r,z,q⟩=> ⟨by rw[<-r.length];exact z, ?_⟩
 have hf:H1 s1.heap.objs.size=none:=I1.aL.fresh (zqR _)
 refine⟨.ref s1.heap.objs.size,upd H1 s1.heap.objs.size<|.tup xs,I1.laid (t':=s1.toks) (fun b u e=>Heap.get?_push_of_some _ e) (zqR _) ?_,rfl,q _ hf⟩
 exact⟨z,us,r,⟨_,Heap.get?_push_size _ rfl,rfl,_,rfl⟩⟩
theorem OZ(h:PA X es t):PE X (.List es pos) (DX t):=by
 intro pins s σ H Q I hq
 refine wpAny_List_spliced<|aV (h pos pins s σ H _ I hq) fun us s1 ⟨xs,H1,I1,r,z,q⟩=> ⟨by rw[<-r.length];exact z, ?_⟩
 have hf:H1 s1.heap.objs.size=none:=I1.aL.fresh (zqR _)
 refine⟨.ref s1.heap.objs.size,upd H1 s1.heap.objs.size<|.lst xs,I1.laid (t':=s1.toks) (fun b u e=>Heap.get?_push_of_some _ e) (zqR _) ?_,rfl,q _ hf⟩
 exact⟨z,us,0,r,Heap.get?_push_size _ rfl⟩
end
abbrev Sp:=List V->Hp->VK->XK->Prop
abbrev bM:=List Env->Hp->Shared->XK->Value->Shared->Prop
structure ky (P:Program) (w:World) (K:Frag) (mg:Str->Option Value) (base:Heap) (A:Around) (outer:List Env) (s:Shared) (H:Hp):Prop where
 frames:A.frames=some outer
 mod:Mod K mg base
 bs: ∀b o,base.get? b=some o->s.heap.get? b=some o/\H b=none
 lQ:base.objs.size<=s.heap.objs.size
 ic:s.heap.FunFrames base outer
 mZ: ∀b∈bK outer,H b=none
 aL:bZ P w H s.heap
 bare:AllBare s.gens
def CE(outer:List Env)(P:Program)(w:World)(H:Hp)(s:Shared)(Q:VK)(u:Value)(s':Shared):Prop:=
 ∃v H',s'.os=s.os/\AllBare s'.gens/\Un (bK outer) [] H H' s.heap s'.heap/\bZ P w H' s'.heap/\RelV v u/\Q v H'
def CR(CX:bM)(outer:List Env)(P:Program)(w:World)(H:Hp)(s:Shared)(Q:VK)(E:XK)(r:Result)(s':Shared):Prop:=
 match r with
 | .ok (.ret u)=>CE outer P w H s Q u s'
 | .ok _=>False
 | .error e=>CX outer H s E e s'
structure cb (P:Program) (w:World) (K:Frag) (mg:Str->Option Value) (base:Heap) (CX:bM) (k:Nat) (f:Addr) (fd:FuncData) (ps:List Str) (sp:Sp):Prop where
 len: ∀vs H Q E,sp vs H Q E->vs.length=ps.length
 run: ∀(A:Around) (outer:List Env) (s:Shared) (H:Hp) (args:Args) (us:List Value) (vs:List V) (Q:VK) (E:XK),cJ k A->ky P w K mg base A outer s H->BindsTo s fd args (ps.zip us)->Vals vs us->sp vs H Q E->
  codeAny (model P w) A (.call (.ref f) args) (CR CX outer P w H s Q E) s
theorem cb.mono{P:Program}{w:World}{K:Frag}{mg:Str->Option Value}{base:Heap}{CX:bM}{j k:Nat}{f:Addr}{fd:FuncData}{ps:List Str}{sp:Sp}(F:cb P w K mg base CX j f fd ps sp)(h:j<=k):
  cb P w K mg base CX k f fd ps sp:=⟨F.len,fun A outer s H args us vs Q E hr=>F.run A outer s H args us vs Q E<|hr.mono h⟩
theorem ky.make{P:Program}{w:World}{K:Frag}{mg:Str->Option Value}{base:Heap}{A:Around}{outer:List Env}{s:Shared}{H:Hp}(e:ky P w K mg base A outer s H)(C:Addr)(us:List Value)(kw:List (Str×Value)):
  ky P w K mg base (A.under<|.builtin "type.__call__" ⟨.ref C::us,kw⟩) outer s H:=⟨by first | exact e.frames | (simpa[Around.under,Code.envs,Code.isFrame,pushEnvs] using e.frames),e.mod,e.bs,e.lQ,e.ic,e.mZ,e.aL,e.bare⟩
section
variable {X:Cx} {pins:List (Addr×Obj)} {σ:St} {H:Hp} {s s':Shared}
theorem Inv.yJ(I:Inv X pins σ H s):ky X.prog X.w X.K X.mg X.base X.A X.stack s H:=
 ⟨I.ok.frames,I.ok.mod,I.bs,zaq I.ok.lQ I.sz,I.stack,I.uP,I.aL,I.bare⟩
theorem Inv.after{Q:VK}{u:Value}(I:Inv X pins σ H s)(h:CE X.stack X.prog X.w H s Q u s'):EP X pins σ Q u s':=by
 obtain⟨v,H',os,bare,un,aL,r,q⟩:=h
 obtain⟨hh,g,d,t,O0⟩:=s'
 obtain rfl:O0=s.os:=os
 exact⟨v,H',I.call (h':=hh) (g':=g) (d':=d) (t':=t) (ch:=[]) un aL bare<|fun b z=>absurd z (by simp),r,q⟩
end
def yK(sp:Sp)(eE:List V)(E:XK)(t:TA):TE:=fun σ H Q=>t σ H fun vs H1=>sp (vs++eE) H1 Q E
def nh(C:Addr)(m:Str)(sp:Sp)(eE:List V)(E:XK)(ta:TE)(t:TA):TE:=fun σ H Q=>ta σ H fun x H1=> ∃a dx fs,x= .ref a/\H1 a=some (.ins C dx fs)/\fs.lookup m=none/\
 t σ H1 fun vs H2=>sp (x::(vs++eE)) H2 Q E
def qW(C:Addr)(sp:Sp)(eE:List V)(E:XK)(t:TA):TE:=fun σ H Q=>t σ H fun vs H1=> ∀x dx,H1 x=none->H1 dx=none->dx≠x->
 sp (.ref x::(vs++eE)) (upd (upd H1 dx<|.own x) x<|.ins C dx []) (fun v H2=>v= .aA/\Q (.ref x) H2) E
def Binds(K:Frag)(fd:FuncData)(ps:List Str)(ds:List Value):Prop:=
 ∀(s:Shared) (us:List Value),K.In s.heap->(us++ds).length=ps.length->BindsTo s fd ⟨us,[]⟩ (ps.zip<|us++ds)
theorem Binds.all{K:Frag}{fd:FuncData}{ps:List Str}(h: ∀us:List Value,us.length=ps.length->bindArgs fd ⟨us,[]⟩=pure (ps.zip us)):Binds K fd ps []:=fun s us _ hl=>by
 rw[zaC] at hl⊢
 exact .of_eq<|h us hl
def Passes(CX:bM)(X:Cx)(E:XK):Prop:= ∀(pins:List (Addr×Obj)) (σ:St) (H:Hp) (s:Shared) (e:Value) (s':Shared),Inv X pins σ H s->CX X.stack H s E e s'->X.xe e s'
section
variable {X:Cx} {CX:bM} {k:Nat} {f C:Addr} {fd:FuncData} {ps:List Str} {sp:Sp} {eE:List V} {ds:List Value} {E:XK} {x m:Str} {p pos apos:Pos} {e o:Expr} {es:List Expr} {ta:TE} {t:TA}
theorem yL{pins:List (Addr×Obj)}{σ:St}{H:Hp}{s:Shared}{Q:VK}{us:List Value}{vs:List V}(F:cb X.prog X.w X.K X.mg X.base CX k f fd ps sp)(hr:cJ k X.A)(hb:Binds X.K fd ps ds)(hd:Vals eE ds)(hx:Passes CX X E)
  (I:Inv X pins σ H s) (r:Vals vs us) (h:sp (vs++eE) H Q E):wpAny (model X.prog X.w) X.A (call (.ref f) us) (EP X pins σ Q) X.xe s:=by
 have r2:Vals (vs++eE) (us++ds):=r.append hd
 have hl:(us++ds).length=ps.length:=by rw[<-r2.length];exact F.len _ _ _ _ h
 refine wpAny_call<|codeAny_mono (F.run X.A X.stack s H ⟨us,[]⟩ (us++ds) (vs++eE) Q E hr I.yJ (hb s us I.cj hl) r2 h) fun r s' hq=> ?_
 cases r with
 | error e=>exact hx pins σ H s e s' I hq
 | ok fl=>
  cases fl with
  | ret u=>exact I.after hq
  | next=>exact False.elim hq
  | brk=>exact False.elim hq
  | cont=>exact False.elim hq
theorem O1(F:cb X.prog X.w X.K X.mg X.base CX k f fd ps sp)(hr:cJ k X.A)(hg:Gl X x)(hm:X.mg x=some (.ref f))(hk:PySem.W.keepIn X.K (.ref f)=true)(hb:Binds X.K fd ps ds)(hd:Vals eE ds)(hx:Passes CX X E)
  (ha:PA X (e::es) t) (iQ:(x==("__debug__":Str))=false:=by decide) (he:starEach (e::es) X.env=(false,eval e X.env)::starEach es X.env:=by rfl) (iR:(backTo pos<|starEach es X.env).any (·.1)=false:=by rfl):
  PE X (.Call (.Name x p) (e::es) [] pos) (yK sp eE E t):=by
 intro pins s σ H Q I h
 refine wpAny_Call_Name_kw<|o7 I hg hm ?_ iQ
 refine callWith_K (h₀:=X.base) I.ok.mod.mY hk (aV (ha pos pins s σ H _ I h) fun us s1 ⟨vs,H1,I1,r,q⟩=> ⟨I1.cj, ?_⟩) he iR
 exact yL F hr hb hd hx I1 r q
structure Mk (K:Frag) (C f:Addr):Prop where
 makes:makesIn K C=true
 init:PySem.W.findIn K (.ref C) "__init__"=some (some<|.ref f)
 fn:PySem.W.isFn K (.ref f)=true
 kp:PySem.W.keepIn K (.ref C)=true
theorem DY{pins:List (Addr×Obj)}{σ:St}{H:Hp}{s:Shared}{Q:VK}{us:List Value}{vs:List V}(M:Mk X.K C f)(F:cb X.prog X.w X.K X.mg X.base CX k f fd ps sp)(hr:cJ (k+1) X.A)(hb:Binds X.K fd ps ds)(hd:Vals eE ds)
  (hx:Passes CX X E) (I:Inv X pins σ H s) (r:Vals vs us)
  (h: ∀x dx,H x=none->H dx=none->dx≠x->sp (.ref x::(vs++eE)) (upd (upd H dx<|.own x) x<|.ins C dx []) (fun v H2=>v= .aA/\Q (.ref x) H2) E):
  wpAny (model X.prog X.w) X.A (call (.ref C) us) (EP X pins σ Q) X.xe s:=by
 have hq:=h (s.heap.objs.size+1) s.heap.objs.size (I.aL.fresh<|Nat.le_succ _) (I.aL.fresh<|zqR _) (zae<|zbd _)
 have I2:=Inv.made (C:=C) I
 have r2:Vals (V.ref (s.heap.objs.size+1)::(vs++eE)) (Value.ref (s.heap.objs.size+1)::(us++ds)):= .cons rfl (r.append hd)
 have hl:(Value.ref (s.heap.objs.size+1)::us++ds).length=ps.length:=by
  have e:=r2.length
  rw[F.len _ _ _ _ hq] at e
  exact e.symm
 refine wpAny_call (ON (f:=f) I.cj M.makes M.init (beq_iff_eq.mp M.fn) (codeAny_mono (F.run _ X.stack _ _ ⟨Value.ref (s.heap.objs.size+1)::us,[]⟩ (Value.ref (s.heap.objs.size+1)::(us++ds)) _ _ E (hr.make C us [])
  (I2.yJ.make C us []) (hb _ (Value.ref (s.heap.objs.size+1)::us) I2.cj hl) r2 hq) fun r s' qX=> ?_))
 cases r with
 | error e=>exact hx pins σ _ _ e s' I2 qX
 | ok fl=>
  cases fl with
  | ret u=>
   obtain⟨v,H',I3,rv,ev,q3⟩:=I2.after qX
   subst ev
   exact⟨rv,⟨V.ref<|s.heap.objs.size+1,H',I3,rfl,q3⟩⟩
  | next=>exact False.elim qX
  | brk=>exact False.elim qX
  | cont=>exact False.elim qX
theorem O2(M:Mk X.K C f)(F:cb X.prog X.w X.K X.mg X.base CX k f fd ps sp)(hr:cJ (k+1) X.A)(hg:Gl X x)(hm:X.mg x=some (.ref C))(hb:Binds X.K fd ps ds)(hd:Vals eE ds)(hx:Passes CX X E)
  (ha:PA X (e::es) t) (iQ:(x==("__debug__":Str))=false:=by decide) (he:starEach (e::es) X.env=(false,eval e X.env)::starEach es X.env:=by rfl) (iR:(backTo pos<|starEach es X.env).any (·.1)=false:=by rfl):
  PE X (.Call (.Name x p) (e::es) [] pos) (qW C sp eE E t):=by
 intro pins s σ H Q I h
 refine wpAny_Call_Name_kw<|o7 I hg hm ?_ iQ
 refine callWith_K (h₀:=X.base) I.ok.mod.mY M.kp (aV (ha pos pins s σ H _ I h) fun us s1 ⟨vs,H1,I1,r,q⟩=> ⟨I1.cj, ?_⟩) he iR
 exact DY M F hr hb hd hx I1 r q
theorem O3(M:Mk X.K C f)(F:cb X.prog X.w X.K X.mg X.base CX k f fd ps sp)(hr:cJ (k+1) X.A)(hg:Gl X x)(hm:X.mg x=some (.ref C))(hb:Binds X.K fd ps ds)(hd:Vals eE ds)(hx:Passes CX X E)
  (iQ:(x==("__debug__":Str))=false:=by decide):PE X (.Call (.Name x p) [] [] pos) (qW C sp eE E fA):=by
 intro pins s σ H Q I h
 refine wpAny_Call_Name_kw<|o7 I hg hm ?_ iQ
 exact callWith_K0 I.cj M.kp<|DY (us:=[]) M F hr hb hd hx I .nil h
end
section
variable {X:Cx} {CX:bM} {k:Nat} {f C:Addr} {fd:FuncData} {ps ks:List Str} {sp:Sp} {E:XK} {x m:Str} {p pos apos aej:Pos} {e o:Expr} {es:List Expr} {kws:List Keyword} {te ta:TE} {t tk:TA} {nm:Option Str}
variable {g:List Value->List Value->List Value} {gV:List V->List V->List V}
end
structure jF (N P:List Str) (sc:Scope):Prop where
 kind:sc.kind= .function
 co:sc.isCoroutine=false
 gen:sc.isGenerator=false
 nd:N.Nodup
 pre:N.take P.length=P
 par: ∀x∈P,sc.names.lookup x=some .local\/sc.names.lookup x=some .cell
 O4: ∀y∈sc.names,y.2≠ .free
theorem DZ{kindOf:Str->Option NameKind}{x:Str}: ∀{binds:List (Str×Value)} {m:Str->Option Value},(∀v,(x,v)∉binds)->bindL kindOf binds m x=m x
 | [],_,_=>rfl
 | (n,v)::r,m,h=>by
  unfold bindL
  rw[DZ fun w hw=>h w (zau _ hw)]
  split
  ·have:x≠n:=by rintro rfl;exact h v zay
   simp[this]
  ·rfl
theorem D0{kindOf:Str->Option NameKind}{x:Str}: ∀{binds:List (Str×Value)} {m:Str->Option Value},(∀v,(x,v)∉binds)->bindC kindOf binds m x=m x
 | [],_,_=>rfl
 | (n,v)::r,m,h=>by
  unfold bindC
  rw[D0 fun w hw=>h w (zau _ hw)]
  split
  ·rfl
  ·have:x≠n:=by rintro rfl;exact h v zay
   simp[this]
theorem D1{kindOf:Str->Option NameKind}{x:Str}{v:Value}: ∀{P:List Str} {vs:List Value} {i:Nat} {m:Str->Option Value},P.Nodup->P[i]?=some x->vs[i]?=some v->kindOf x=some .local->
  bindL kindOf (P.zip vs) m x=some v
 | [],_,_,_,_,h,_,_=>by simp at h
 | _::_,[],_,_,_,_,h,_=>by simp at h
 | p::P,w::vs,0,m,nd,h1,h2,hk=>by
  simp at h1 h2;subst h1;subst h2
  show bindL kindOf ((p,w)::P.zip vs) m p=_
  unfold bindL
  rw[DZ fun v hv=> (zbe.mp nd).1 (zbt hv).1,if_pos hk]
  simp
 | p::P,w::vs,i+1,m,nd,h1,h2,hk=>by
  show bindL kindOf ((p,w)::P.zip vs) m x=_
  unfold bindL
  exact D1 (i:=i) (zbe.mp nd).2 (by simpa using h1) (by simpa using h2) hk
theorem D3{kindOf:Str->Option NameKind}{x:Str}{v:Value}: ∀{P:List Str} {vs:List Value} {i:Nat} {m:Str->Option Value},P.Nodup->P[i]?=some x->vs[i]?=some v->kindOf x≠some .local->
  bindC kindOf (P.zip vs) m x=some v
 | [],_,_,_,_,h,_,_=>by simp at h
 | _::_,[],_,_,_,_,h,_=>by simp at h
 | p::P,w::vs,0,m,nd,h1,h2,hk=>by
  simp at h1 h2;subst h1;subst h2
  show bindC kindOf ((p,w)::P.zip vs) m p=_
  unfold bindC
  rw[D0 fun v hv=> (zbe.mp nd).1 (zbt hv).1,if_neg hk]
  simp
 | p::P,w::vs,i+1,m,nd,h1,h2,hk=>by
  show bindC kindOf ((p,w)::P.zip vs) m x=_
  unfold bindC
  exact D3 (i:=i) (zbe.mp nd).2 (by simpa using h1) (by simpa using h2) hk
def start(N:List Str)(vs:List V):St:=vs.map some++List.replicate (N.length - vs.length) none
def kz(CX:bM)(P:Program)(w:World)(K:Frag)(mg:Str->Option Value)(base:Heap)(N:List Str)(qual:Str)(scope:Scope)(f:Addr)(cd:Value)(A:Around)(outer:List Env)(s:Shared)(H:Hp)(E:XK):Cx where
 prog:=P
 w:=w
 K:=K
 mg:=mg
 base:=base
 A:=A.deeper (envOfC qual scope s.heap.objs.size f cd)
 N:=N
 s₀:=s
 H₀:=H
 env:=envOfC qual scope s.heap.objs.size f cd
 outer:=outer
 stack:=envOfC qual scope s.heap.objs.size f cd::outer
 ex:=[]
 calm:=true
 fn:=fun _=>true
 pn:=[]
 xe:=fun e s'=>wpAny (model P w) (A.deeper<|envOfC qual scope s.heap.objs.size f cd) (leaving (envOfC qual scope s.heap.objs.size f cd) e) (fun _ fW=>CX outer H s E e fW) (fun e' fW=>CX outer H s E e' fW) s'
theorem D4{sc:Scope}{n:Nat}{x:Str}(h:sc.names.lookup x=some .cell): ∃c,(cellsFrom n sc.names []).lookup x=some c:=by
 have q:=cellsFrom_some sc.names n [] (.inl h)
 exact zbu.mp q
theorem D5{CX:bM}{P:Program}{w:World}{K:Frag}{mg:Str->Option Value}{base:Heap}{N ps:List Str}{qual:Str}{scope:Scope}{f:Addr}{cd:Value}{A:Around}{outer:List Env}{s s1:Shared}{H:Hp}{E:XK}{us:List Value}{vs:List V}
  (S:jF N ps scope) (hd:A.handled=none) (e0:ky P w K mg base A outer s H) (hl:vs.length=ps.length) (r:Vals vs us)
  (x:InCallC s s.heap.objs.size (bindL (envOfC qual scope s.heap.objs.size f cd).kindOf (ps.zip us) fun _=>none) (cellsFrom (s.heap.objs.size+1) scope.names []) (bindC (envOfC qual scope s.heap.objs.size f cd).kindOf (ps.zip us) fun _=>none) s1):
  Inv (kz CX P w K mg base N qual scope f cd A outer s H E) [] (start N vs) H s1:=by
 have iR:ps.length<=N.length:=by have:=congrArg List.length S.pre;rw[zaf] at this;lia
 obtain⟨h1,tk,rfl,hk⟩:=x.done
 have qY: ∀b:Addr,b∉ (kz CX P w K mg base N qual scope f cd A outer s H E).ex:=fun b z=>absurd (show b∈ ([]:List Addr) from z) (by simp)
 refine⟨⟨e0.mod,S.kind,rfl,rfl,zqR _,fun y z c h1 h2=> ?_,fun y hy=> ?_,fun y c _ h=> ?_,fun _=>hd,Around.frames_deeper e0.frames, .inr ⟨rfl,rfl⟩,fun b z=>absurd z (qY b),e0.bs,e0.lQ,fun b _ _=>qY b,fun b z=>absurd z (qY b),e0.ic,e0.mZ⟩,
  rfl,e0.bare,Un.kept hk,⟨_,x.toInCall.ns,fun i y v h1 h2 h3=> ?_⟩,fun y c h=> ⟨_,x.cell y c h⟩,e0.aL.fresh (zqR _),fun y c h=> ?_,fun p hp=>absurd (show p∈ ([]:List (Addr×Obj)) from hp) (by simp),e0.aL.kept hk, ?_⟩
 ·exact name_of_addr x.apart (PySem.mem_of_lookup h1) (PySem.mem_of_lookup h2)
 ·have hy:scope.names.lookup y=some .cell\/scope.names.lookup y=some .free:=hy
  rcases hy with hy | hy
  ·exact D4 hy
  ·exact absurd rfl (S.O4 _<|PySem.mem_of_lookup hy)
 ·exact Nat.le_of_lt (x.above y c<|PySem.mem_of_lookup h)
 ·have hi:i<vs.length:=by
   unfold start at h2
   by_cases hi:i<vs.length
   ·exact hi
   ·rw[zaI (by simpa using hi)] at h2
    rw[List.getElem?_replicate] at h2
    split at h2<;>cases h2
  have ha:vs[i]?=some v:=by
   unfold start at h2
   rw[zaJ (by simpa using hi),zak] at h2
   cases e:vs[i]? with
   | none=>rw[e] at h2;cases h2
   | some a=>rw[e] at h2;cases h2;rfl
  obtain⟨u,hu,rv⟩:=r.get ha
  have hp:ps[i]?=some y:=by
   rw[<-S.pre,List.getElem?_take_of_lt (by lia)];exact h1
  have D6:ps.Nodup:=by rw[<-S.pre];exact S.nd.sublist (List.take_sublist _ _)
  refine⟨u,rv, ?_⟩
  rcases S.par y (zaj hp) with k | k
  ·exact .inl ⟨k,D1 D6 hp hu k⟩
  ·obtain⟨c,e⟩:=D4 (n:=s.heap.objs.size+1) k
   refine .inr ⟨.inl k,c,e, ?_⟩
   have q:=x.cell y c e
   rw[D3 D6 hp hu (by show scope.names.lookup y≠_;rw[k];decide)] at q
   exact q
 ·exact e0.aL.fresh (Nat.le_of_lt<|x.above y c<|PySem.mem_of_lookup h)
 ·unfold start
  show _=N.length
  rw[zqA,zag,List.length_replicate]
  lia
theorem D7{CX:bM}{P:Program}{w:World}{K:Frag}{mg:Str->Option Value}{base:Heap}{k:Nat}{f:Addr}{name qual:Str}{params:Arguments}{body:List Stmt}{scope:Scope}{dV kV doc pm bt ct oc:Value}{an od:Option Addr}
  {e7:Array (Option Value)} {N ps:List Str} {sp:Sp} (lk:K.lookup f=some ⟨oc,od, .func<|PySem.W.fnOf name qual params body scope dV kV doc pm an bt ct,e7⟩) (fq:PySem.W.codeIn K bt qual=true) (S:jF N ps scope)
  (len: ∀vs H Q E,sp vs H Q E->vs.length=ps.length)
  (yM: ∀(A:Around) (outer:List Env) (s:Shared) (H:Hp) (vs:List V) (Q:VK) (E:XK),cJ k (A.deeper (envOfC qual scope s.heap.objs.size f bt))->sp vs H Q E->
   ∃t,cP (kz CX P w K mg base N qual scope f bt A outer s H E) body t/\t {nx:=fun _ H'=>Q .aA H',rt:=Q} (start N vs) H):
  cb P w K mg base CX (k+1) f (PySem.W.fnOf name qual params body scope dV kV doc pm an bt ct) ps sp:=by
 refine⟨len,fun A outer s H args us vs Q E hr e0 hb r gR=> ?_⟩
 have hl:=len _ _ _ _ gR
 have KX:K.In s.heap:=e0.mod.mY.keeps fun b o e=> (e0.bs b o e).1
 have lim:s.heap.NoLimit:=e0.mod.nolimit.keeps fun b o e=> (e0.bs b o e).1
 have yN: ∀y∈ps.zip us,scope.names.lookup y.1=some .local\/(scope.names.lookup y.1=some .cell/\((cellsFrom (s.heap.objs.size+1) scope.names []).lookup y.1).isSome=true):=fun⟨n,v⟩ hy=>by
  rcases S.par n (zbt hy).1 with q | q
  ·exact .inl q
  ·exact .inr ⟨q,cellsFrom_some _ _ _<|.inl q⟩
 refine codeAny_call_function hr.depth (KX _ _ lk) rfl S.co S.gen rfl (codeRec_of KX fq)<|hb _ _ _ _ ?_
 refine wpAny_newFunctionEnv_cells S.kind yN fun env he s1 x=> ?_
 subst he
 refine⟨lim.keeps x.toInCall.keep,codeAny_func ?_⟩
 obtain⟨t,ht,hq⟩:=yM A outer s H vs Q E (hr.deeper _) gR
 have I:Inv (kz CX P w K mg base N qual scope f bt A outer s H E) [] (start N vs) H s1:=D5 S hr.hd e0 hl r x
 refine wpAny_mono (ht [] s1 (start N vs) H _ I hq) (fun fl s' hs=> ?_) fun e s' hs=>hs
 have fin: ∀{σ':St} {H':Hp} {v:V} {u:Value},Inv (kz CX P w K mg base N qual scope f bt A outer s H E) [] σ' H' s'->RelV v u->Q v H'->CE outer P w H s Q u s':=
  fun {σ' H' v u} J rv q=> ⟨v,H',J.os,J.bare,J.base,J.aL,rv,q⟩
 cases fl with
 | ret u=>
  obtain⟨v,σ',H',J,rv,q⟩:=hs
  exact fin J rv q
 | next=>
  obtain⟨σ',H',J,q⟩:=hs
  exact fin (v:=V.aA) (u:=Value.none) J rfl q
 | brk=>
  obtain⟨_,_,_,q⟩:=hs
  exact False.elim q
 | cont=>
  obtain⟨_,_,_,q⟩:=hs
  exact False.elim q
section
variable {X:Cx} {x:Str} {p pos:Pos} {e:Expr} {es:List Expr} {t:TA} {id T:String} {r:List V->Hp->VK->Prop}
def dY(r:List V->Hp->VK->Prop)(t:TA):TE:=fun σ H Q=>t σ H fun vs H1=>r vs H1 Q
theorem lV(hc:bQ X (.builtin id) r)(hg:Gl X x)(hm:X.mg x=none)(hv:bootBuiltins x=some (.builtin id))(ha:PA X (e::es) t)(hn:x≠"__name__":=by decide)(iQ:(x==("__debug__":Str))=false:=by decide)
  (he:starEach (e::es) X.env=(false,eval e X.env)::starEach es X.env:=by rfl) (iR:(backTo pos<|starEach es X.env).any (·.1)=false:=by rfl):PE X (.Call (.Name x p) (e::es) [] pos) (dY r t):=by
 intro pins s σ H Q I h
 refine wpAny_Call_Name_kw<|o8 I hg hm hv ?_ hn iQ
 exact PyProof.Rows.callWith_builtin1 (aV (ha pos pins s σ H _ I h) fun us s1 ⟨vs,H1,I1,r1,q1⟩=>hc pins s1 σ H1 vs us Q I1 r1 q1) he iR
theorem O5(hc:bQ X (.type T) r)(hg:Gl X x)(hm:X.mg x=none)(hv:bootBuiltins x=some (.type T))(ha:PA X (e::es) t)(hn:x≠"__name__":=by decide)(iQ:(x==("__debug__":Str))=false:=by decide)
  (he:starEach (e::es) X.env=(false,eval e X.env)::starEach es X.env:=by rfl) (iR:(backTo pos<|starEach es X.env).any (·.1)=false:=by rfl):PE X (.Call (.Name x p) (e::es) [] pos) (dY r t):=by
 intro pins s σ H Q I h
 refine wpAny_Call_Name_kw<|o8 I hg hm hv ?_ hn iQ
 exact PyProof.Rows.callWith_type1 (aV (ha pos pins s σ H _ I h) fun us s1 ⟨vs,H1,I1,r1,q1⟩=>hc pins s1 σ H1 vs us Q I1 r1 q1) he iR
end
end L2
namespace HT
open PySem PyProof.Rows
section
open PySem.SeqAt
open PySem.AutoSeq1 (wpAny_loadPart')
open PySem.MeetsSeq PySem.MeetsSeq2 PySem.MeetsSeq3
end
section
variable {prog:Program} {w:World} {A:Around} {E:Value->Shared->Prop} {s:Shared}
theorem O6{t b:Addr}{vs ws:List Value}{Q:Value->Shared->Prop}(ht:IsTup s.heap t vs.toArray)(hb:IsTup s.heap b ws.toArray)(hv:vs≠ [])
  (h1:ws=[]->Q (.ref t) s) (h2:ws≠ []->Q (.ref s.heap.objs.size) {s with heap:=s.heap.push {cls:= .type "tuple",data:= .seq (vs++ws).toArray}})
  (gQ:vs.length+ws.length<=sizeLine):wpAny (model prog w) A (binaryOp .Add (.ref t)<|.ref b) Q E s:=by
 obtain⟨⟨cls,dd,data,sl⟩,ho,hc,n,hd⟩:=id ht
 obtain⟨⟨ael,D8,data2,qZ⟩,gT,q8,n2,hd2⟩:=id hb
 simp only at hc hd q8 hd2
 subst hc hd q8 hd2
 have e:vs.toArray++ws.toArray=(vs++ws).toArray:=by simp
 by_cases hw:ws=[]
 ·exact concat_meets ⟨_,ho,rfl⟩ ⟨_,gT,rfl⟩ noFill_tuple_add seq_tuple_add PySem.F.slot_tuple_add PySem.F.entry_tuple_add (PySem.F.args_tuple_add_2 _ _)
   (tuple_addW1 t b vs.toArray ws.toArray n n2 dd D8 sl qZ (by simpa using hv) (by simp[hw])) ⟨ho,gT,h1 hw⟩
 ·refine concat_meets ⟨_,ho,rfl⟩ ⟨_,gT,rfl⟩ noFill_tuple_add seq_tuple_add PySem.F.slot_tuple_add PySem.F.entry_tuple_add (PySem.F.args_tuple_add_2 _ _)
   (tuple_addW2 t b vs.toArray ws.toArray n n2 dd D8 sl qZ (by simpa using hv) (by simpa using hw) (by rw[zad,zad];exact gQ)) ⟨ho,gT, ?_⟩
  rw[e]
  exact h2 hw
def bp(n d:Nat):Option Int->Nat
 | none=>d
 | some v=>if v<0 then (v+ (n:Int)).toNat else min v.toNat n
theorem vg(n d:Nat):bp n d none=d:=rfl
theorem lW(n d k:Nat):bp n d (some (k:Int))=min k n:=by
 show(if (k:Int) <0 then ((k:Int)+ (n:Int)).toNat else min (k:Int).toNat n)=min k n
 rw[if_neg (by lia),zat]
theorem yO(n d:Nat)(hd:d<=n)(o:Option Int):bp n d o<=n:=by
 cases o with
 | none=>exact hd
 | some v=>
  show(if v<0 then (v+ (n:Int)).toNat else min v.toNat n)<=n
  by_cases hv:v<0
  ·rw[if_pos hv];lia
  ·rw[if_neg hv];exact Nat.min_le_right _ _
theorem D9(v:Int)(n d:Nat):(if v<0 then max (v+ (n:Int)) 0 else min v (n:Int))=((bp n d (some v):Nat):Int):=by
 show(if v<0 then max (v+ (n:Int)) 0 else min v (n:Int))=(((if v<0 then (v+ (n:Int)).toNat else min v.toNat n):Nat):Int)
 by_cases hv:v<0
 ·simp only[if_pos hv];lia
 ·simp only[if_neg hv];lia
theorem O7(lo hi:Option Int)(n:Nat):Builtin.Slice.sliceAdjust lo hi 1 (n:Int)=(((bp n 0 lo:Nat):Int),((bp n n hi:Nat):Int)):=by
 have h1: ¬((1:Int) <0):=by lia
 unfold Builtin.Slice.sliceAdjust
 simp only[h1,if_false]
 refine Prod.ext ?_ ?_
 ·cases lo with
  | none=>rfl
  | some v=>exact D9 v n 0
 ·cases hi with
  | none=>rfl
  | some v=>exact D9 v n n
theorem O8(i j:Nat):Builtin.Slice.slicePlaces (i:Int) (j:Int) 1=j - i:=by
 unfold Builtin.Slice.slicePlaces
 have h1:(1:Int) >0:=by lia
 simp only[h1,if_true,Int.ediv_one]
 split<;>lia
theorem D_{v:Value}{o:Option Int}{Q:Option Int->Shared->Prop}(p:IsPart v o)(h:Q o s):wpAny (model prog w) A (Builtin.Slice.slicePartIndex v) Q E s:=by
 cases p with
 | none=>exact slicePart_none h
 | int i t=>exact slicePart_int h
theorem O9{sl:Addr}{vl vu:Value}{lo hi:Option Int}{n:Nat}{Q:Int×Int×Nat->Shared->Prop}(hs:s.heap.IsSliceOf sl vl vu .none)(pl:IsPart vl lo)(pu:IsPart vu hi)
  (h:Q (((bp n 0 lo:Nat):Int),1,bp n n hi - bp n 0 lo) s):wpAny (model prog w) A (Builtin.Slice.sliceApplied (.ref sl)<|pure (n:Int)) Q E s:=by
 obtain⟨os,q9,cm,lX⟩:=id hs
 unfold Builtin.Slice.sliceApplied Builtin.Slice.sliceFields
 refine wpAny_bind<|wpAny_bind<|wpAny_field q9 lX (x:=vl) rfl<|wpAny_bind<|wpAny_field q9 lX (x:=vu) rfl<|wpAny_bind<|wpAny_field q9 lX (x:= .none) rfl<|wpAny_pure ?_
 refine wpAny_bind<|slicePart_none ?_
 show wpAny _ _ (if ((1:Int)==0)=true then _ else _) _ _ s
 rw[if_neg (by decide)]
 refine wpAny_bind<|D_ pl<|wpAny_bind<|D_ pu<|wpAny_bind<|wpAny_pure ?_
 show wpAny _ _ (match Builtin.Slice.sliceAdjust lo hi 1 (n:Int) with | (lo,hi)=>pure (lo,(1:Int),Builtin.Slice.slicePlaces lo hi 1)) _ _ s
 rw[O7 lo hi n]
 show wpAny _ _ (pure (((bp n 0 lo:Nat):Int),(1:Int),Builtin.Slice.slicePlaces ((bp n 0 lo:Nat):Int) ((bp n n hi:Nat):Int) 1)) _ _ s
 rw[O8]
 exact wpAny_pure h
theorem O_(xs:Array Value)(i k:Nat):((List.range k).filterMap fun(m:Nat)=>xs[((i:Int)+ (m:Int)*1).toNat]?).toArray=((xs.toList.drop i).take k).toArray:=by
 have e:(fun(m:Nat)=>xs[((i:Int)+ (m:Int)*1).toNat]?)=fun m=>xs[i+m]?:=by
  funext m
  have:((i:Int)+ (m:Int)*1).toNat=i+m:=by lia
  rw[this]
 rw[e]
 have:=pick_run xs i k
 rw[List.filterMap_map] at this
 have e2:((fun x=>xs[x]?)∘fun x=>i+x)=fun m=>xs[i+m]?:=rfl
 rw[e2] at this
 rw[this]
theorem Pa{t sl:Addr}{items:Array Value}{vl vu:Value}{lo hi:Option Int}{Q:Value->Shared->Prop}(ht:IsTup s.heap t items)(hs:s.heap.IsSliceOf sl vl vu .none)(pl:IsPart vl lo)(pu:IsPart vu hi)
  (hw: ¬(bp items.size 0 lo=0/\bp items.size items.size hi=items.size))
  (h:Q (.ref s.heap.objs.size) {s with heap:=s.heap.push {cls:= .type "tuple",data:= .seq ((items.toList.drop<|bp items.size 0 lo).take<|bp items.size items.size hi - bp items.size 0 lo).toArray}})
  (gQ:items.size<=sizeLine):wpAny (model prog w) A (getItem (.ref t)<|.ref sl) Q E s:=by
 have vh:sizeOk (.seq ((items.toList.drop<|bp items.size 0 lo).take<|bp items.size items.size hi - bp items.size 0 lo).toArray):=by
  show((items.toList.drop<|bp items.size 0 lo).take<|bp items.size items.size hi - bp items.size 0 lo).toArray.size<=sizeLine
  rw[zad,zaf,zai,zbb]
  lia
 have hj:bp items.size items.size hi<=items.size:=yO _ _ (zqR _) hi
 obtain⟨os,q9,cm,lX⟩:=id hs
 have Pb:s.TypeIs (.ref sl) "slice":=⟨os,q9,cm⟩
 unfold getItem
 try with_reducible refine wpAny_holding ?_
 first | refine wpAny_bind (wpAny_pure ?_) | skip
 refine wpAny_bind<|wpAny_sequenceKey ht.typeIs (by decide) ?_
 refine wpAny_bind (wpAny_callSpecial?_slot (name:=Str.ofString "__getitem__") ht.typeIs PyProof.Rows.slot_tuple_getitem
  (wpAny_call_entry PyProof.Rows.slot_tuple_getitem ht.typeIs entry_tuple_getitem ?_ (args_tuple_getitem _ _)))
 show wpAny _ _ (Builtin.Tuple.tupleItemsOf (.ref t) >>=_) _ _ s
 refine wpAny_bind<|tupleItemsOf_ ht ?_
 refine wpAny_bind<|wpAny_typeOf Pb ?_
 rw[if_pos (by decide)]
 refine wpAny_bind<|O9 hs pl pu ?_
 have Pd: ¬((((bp items.size 0 lo:Nat):Int)==0 && (1:Int)==1 && (bp items.size items.size hi - bp items.size 0 lo)==items.size)=true):=by
  intro q
  rw[zab,zab] at q
  have q1:((bp items.size 0 lo:Nat):Int)=0:=eq_of_beq q.1.1
  have q2:bp items.size items.size hi - bp items.size 0 lo=items.size:=eq_of_beq q.2
  exact hw ⟨by lia,by lia⟩
 show wpAny _ _ (if (((bp items.size 0 lo:Nat):Int)==0 && (1:Int)==1 && (bp items.size items.size hi - bp items.size 0 lo)==items.size)=true then _ else _) _ _ s
 rw[if_neg Pd,O_]
 first
  | exact wpAny_bind (m:=Builtin.Tuple.tupleExact _) (wpAny_newObj_type (wpAny_pure ⟨_,rfl,wpAny_pure h⟩) vh)
  | exact wpAny_bind (m:=Builtin.Tuple.tupleExact _) (wpAny_newObj_type (wpAny_bind<|wpAny_pure<|wpAny_pure ⟨_,rfl,wpAny_pure h⟩) vh)
  | exact wpAny_bind (wpAny_bind (m:=Builtin.Tuple.tupleExact _)<|wpAny_newObj_type (wpAny_pure<|wpAny_pure ⟨_,rfl,wpAny_pure h⟩) vh)
  | exact wpAny_bind (wpAny_bind (m:=Builtin.Tuple.tupleExact _)<|wpAny_newObj_type (wpAny_pure ⟨_,rfl,wpAny_pure h⟩) vh)
end
end HT
namespace L2
open PySem PySem.Spec PyProof.Rows
abbrev TO:=St->Hp->(Option Int->Hp->Prop)->Prop
def PO(X:Cx)(e:Option Expr)(t:TO):Prop:=
 ∀(pins:List (Addr×Obj)) (s:Shared) (σ:St) (H:Hp) (Q:Option Int->Hp->Prop),Inv X pins σ H s->t σ H Q->
  wpAny (model X.prog X.w) X.A (evalPart e X.env) (fun u s'=> ∃o H',Inv X pins σ H' s'/\IsPart u o/\Q o H') X.xe s
def Ea:TO:=fun _ H Q=>Q none H
def vi(t:TE):TO:=fun σ H Q=>t σ H fun x H1=> ∃i,x= .int i/\Q (some i) H1
theorem intsAre_of{ns:List Int}: ∀{us:List Value},Vals (ns.map V.int) us->IntsAre us ns:=by
 induction ns with
 | nil=>intro us r;rw[List.map_nil] at r;cases r;exact .nil
 | cons n ns ih=>
  intro us r
  rw[zaO] at r
  cases r with
  | cons r1 r2=>
   obtain⟨t,e⟩:=r1
   subst e
   exact .cons n t<|ih r2
section
variable {X:Cx} {e:Expr} {te:TE} {lo hi:Option Expr} {tl th:TO} {pos p2:Pos}
theorem Pe:PO X none Ea:=by
 intro pins s σ H Q I h
 rw[evalPart_none]
 exact wpAny_pure ⟨none,H,I, .none,h⟩
theorem Pf(h:PE X e te):PO X (some e) (vi te):=by
 intro pins s σ H Q I hw
 rw[evalPart_some]
 refine aV (h pins s σ H _ I hw) fun u s1 ⟨x,H1,I1,r1,q1⟩=> ?_
 obtain⟨i,rfl,q⟩:=q1
 obtain⟨t,rfl⟩:=r1
 exact⟨some i,H1,I1, .int i t,q⟩
def vj(X:Cx)(r:V->Option Int->Option Int->Hp->VK->Prop):Prop:=
 ∀(pins:List (Addr×Obj)) (s:Shared) (σ:St) (H:Hp) (x:V) (v vl vu:Value) (lo hi:Option Int) (sl:Addr) (Q:VK),Inv X pins σ H s->RelV x v->s.heap.IsSliceOf sl vl vu .none->IsPart vl lo->IsPart vu hi->r x lo hi H Q->
  ∃T id,typeLookup (.type T) "__getitem__"=pure (some<|.builtin id)/\s.TypeIs v T/\wpAny (model X.prog X.w) X.A (getItem v<|.ref sl) (EP X pins σ Q) X.xe s
def yP(r:V->Option Int->Option Int->Hp->VK->Prop)(te:TE)(tl th:TO):TE:=fun σ H Q=>te σ H fun x H1=>tl σ H1 fun l H2=>th σ H2 fun u H3=>r x l u H3 Q
theorem Pg{r:V->Option Int->Option Int->Hp->VK->Prop}(hr:vj X r)(he:PE X e te)(hl:PO X lo tl)(hu:PO X hi th):PE X (.Subscript e (.Slice lo hi none p2) pos) (yP r te tl th):=by
 intro pins s σ H Q I h
 refine Subscript_<|aV (he pins s σ H _ I h) fun v s1 ⟨x,H1,I1,r1,q1⟩=> ?_
 refine wpAny_Slice<|aV (hl pins s1 σ H1 _ I1 q1) fun vl s2 ⟨l,H2,I2,pl,q2⟩=>aV (hu pins s2 σ H2 _ I2 q2) fun vu s3 ⟨u,H3,I3,pu,q3⟩=> ?_
 rw[evalPart_none]
 refine wpAny_pure ?_
 have I4:Inv X pins σ H3 {s3 with heap:=s3.heap.push {cls:= .type "slice",data:= .fields #[vl,vu, .none]}}:=I3.kept (t':=s3.toks) fun b ob q=>Heap.get?_push_of_some _ q
 obtain⟨T,id,hT,ht,hg⟩:=hr pins {s3 with heap:=s3.heap.push {cls:= .type "slice",data:= .fields #[vl,vu, .none]}} σ H3 x v vl vu l u s3.heap.objs.size Q I4 r1 (Heap.IsSliceOf.new ..) pl pu q3
 show wpAny (model X.prog X.w) X.A (subscriptTail e (.Slice lo hi none p2) v<|.ref s3.heap.objs.size) (EP X pins σ Q) X.xe {s3 with heap:=s3.heap.push {cls:= .type "slice",data:= .fields #[vl,vu, .none]}}
 exact tail_any (ops:=[.ref s3.heap.objs.size,v]) ht hT hg (by with_unfolding_all rfl)
def dJ(xs:List V)(lo hi:Option Int):List V:=(xs.drop<|HT.bp xs.length 0 lo).take (HT.bp xs.length xs.length hi - HT.bp xs.length 0 lo)
theorem Eb(xs:List V)(lo hi:Option Int):(dJ xs lo hi).length<=xs.length:=by
 unfold dJ
 rw[zaf,zai]
 lia
def Ph(K:Frag):V->Option Int->Option Int->Hp->VK->Prop:=fun x lo hi H Q=> ∃a xs,x= .ref a/\ba K H a xs/\
 ¬(HT.bp xs.length 0 lo=0/\HT.bp xs.length xs.length hi=xs.length)/\ ∀p,H p=none->Q (.ref p) (upd H p<|.tup<|dJ xs lo hi)
theorem Pj:vj X (Ph X.K):=by
 intro pins s σ H x v vl vu lo hi sl Q I rx hs pl pu h
 obtain⟨a,xs,rfl,hx,hw,q⟩:=h
 cases rx
 obtain⟨its,r,ht,hz⟩:=I.tuple hx
 have hlen:its.toArray.size=xs.length:=by rw[zad];exact r.length.symm
 refine⟨"tuple",_,PyProof.Rows.slot_tuple_getitem.lookup,ht.typeIs, ?_⟩
 refine HT.Pa ht hs pl pu (by rw[hlen];exact hw) ?_ (by rw[hlen];exact hz)
 rw[hlen]
 refine⟨.ref s.heap.objs.size,_,I.laid (t':=s.toks) (o:= .tup (dJ xs lo hi)) (fun b ob q=>Heap.get?_push_of_some _ q) (zqR _) ?_,rfl,q _<|I.aL.fresh<|zqR _⟩
 exact⟨zaq (Eb xs lo hi) hz,_,(r.drop<|HT.bp xs.length 0 lo).take<|HT.bp xs.length xs.length hi - HT.bp xs.length 0 lo,IsTup.new _ _⟩
def Ec(K:Frag):R2:=fun x y H Q=> ∃a b xs ys,x= .ref a/\y= .ref b/\ba K H a xs/\ba K H b ys/\xs≠ []/\xs.length+ys.length<=sizeLine/\
 (ys=[]->Q (.ref a) H)/\(ys≠ []-> ∀p,H p=none->Q (.ref p) (upd H p<|.tup<|xs++ys))
theorem Vals.yQ{xs:List V}{us:List Value}(r:Vals xs us):us=[]↔xs=[]:=by
 cases r with
 | nil=>simp
 | cons _ _=>simp
theorem Pk:bw X (binaryOp .Add) (Ec X.K):=by
 intro pins s σ H x y v u Q I rx ry h
 obtain⟨a,b,xs,ys,rfl,rfl,ha,hb,hx,hz,q1,q2⟩:=h
 cases rx
 cases ry
 obtain⟨its,r1,p1,_⟩:=I.tuple ha
 obtain⟨fB,r2,p2,_⟩:=I.tuple hb
 refine HT.O6 p1 p2 (fun z=>hx<|r1.yQ.mp z) (fun z=> ⟨.ref a,H,I,rfl,q1<|r2.yQ.mp z⟩) (fun z=> ?_) (by rw[<-r1.length,<-r2.length];exact hz)
 refine⟨.ref s.heap.objs.size,_,I.laid (t':=s.toks) (o:= .tup (xs++ys)) (fun b ob q=>Heap.get?_push_of_some _ q) (zqR _) ?_,rfl,q2 (fun w=>z<|r2.yQ.mpr w) _<|I.aL.fresh<|zqR _⟩
 exact⟨by rw[zqA];exact hz,_,r1.append r2,IsTup.new _ _⟩
end
def iS(n:Nat)(i:Int):Option Nat:=if 0<=i then (if i<n then some i.toNat else none) else if -(n:Int)<=i then some (i+n).toNat else none
def dO{α:Type}(xs:List α)(i:Int):Option α:=(iS xs.length i).bind fun j=>xs[j]?
theorem Ed{n:Nat}{i:Int}{j:Nat}(h:iS n i=some j):seqIndex? i n=some j/\j<n/\ -(n:Int)<=i/\i<n:=by
 unfold iS at h
 by_cases h0:0<=i
 ·rw[if_pos h0] at h
  by_cases h1:i<n
  ·rw[if_pos h1] at h
   have e:i.toNat=j:=zal h
   exact⟨by rw[seqIndex_of h0 h1,e],by lia,by lia,h1⟩
  ·rw[if_neg h1] at h;cases h
 ·rw[if_neg h0] at h
  by_cases h1: -(n:Int)<=i
  ·rw[if_pos h1] at h
   have e:(i+n).toNat=j:=zal h
   exact⟨by rw[seqIndex_neg (by lia) h1,e],by lia,h1,by lia⟩
  ·rw[if_neg h1] at h;cases h
theorem yR{α:Type}{xs:List α}{i:Int}{v:α}(h:dO xs i=some v): ∃j,seqIndex? i xs.length=some j/\xs[j]?=some v/\j<xs.length/\ -(xs.length:Int)<=i/\i<xs.length:=by
 unfold dO at h
 cases e:iS xs.length i with
 | none=>rw[e] at h;cases h
 | some j=>
  rw[e] at h
  obtain⟨h1,h2,h3,h4⟩:=Ed e
  exact⟨j,h1,h,h2,h3,h4⟩
theorem ij{α:Type}{xs:List α}{j:Nat}{v:α}(h:xs[j]?=some v):dO xs (j:Int)=some v:=by
 have hj:j<xs.length:=(zah.mp h).1
 have e:iS xs.length (j:Int)=some j:=by
  unfold iS
  rw[if_pos (by lia),if_pos (by lia)];simp
 unfold dO;rw[e];exact h
def Ee(b:Expr):Prop:= ∀o i,subscripted b false o i=operate [o,i] (getItem o i)
def jG(X:Cx)(r:R2):Prop:=
 ∀(value slice:Expr) (pins:List (Addr×Obj)) (s:Shared) (σ:St) (H:Hp) (x y:V) (v u:Value) (Q:VK),Inv X pins σ H s->RelV x v->RelV y u->r x y H Q->
  subscripted slice false v u=operate [v,u] (getItem v u)->wpAny (model X.prog X.w) X.A (subscriptTail value slice v u) (EP X pins σ Q) X.xe s
def iU(X:Cx)(id:String)(r:V->List V->Hp->VK->Prop):Prop:=
 ∀(pins:List (Addr×Obj)) (s:Shared) (σ:St) (H:Hp) (x:V) (xs:List V) (v:Value) (us:List Value) (Q:VK),Inv X pins σ H s->RelV x v->Vals xs us->r x xs H Q->
  wpAny (model X.prog X.w) X.A (call (.builtin id) (v::us)) (EP X pins σ Q) X.xe s
section
variable {X:Cx} {a b:Expr} {ta tb:TE} {pos:Pos}
theorem jG.or{r r':R2}(h:jG X r)(h':jG X r'):jG X (fun x y H Q=>r x y H Q\/r' x y H Q):=by
 intro value slice pins s σ H x y v u Q I rx ry q hs
 rcases q with q | q
 ·exact h value slice pins s σ H x y v u Q I rx ry q hs
 ·exact h' value slice pins s σ H x y v u Q I rx ry q hs
theorem Pl{r:R2}(hr:jG X r)(ha:PE X a ta)(hb:PE X b tb)(hs:Ee b):PE X (.Subscript a b pos) (eB r ta tb):=by
 intro pins s σ H Q I h
 exact Subscript_<|yG ha hb I h fun v u s2 x y H2 I2 rx ry q=>hr a b pins s2 σ H2 x y v u Q I2 rx ry q (hs _ _)
def Ef(K:Frag):R2:=fun x y H Q=> ∃p xs i v,x= .ref p/\y= .int i/\aB K H p xs/\dO xs i=some v/\Q v H
def Eg(K:Frag):R2:=fun x y H Q=> ∃p xs i v,x= .ref p/\y= .int i/\ba K H p xs/\dO xs i=some v/\Q v H
def Eh:R2:=fun x y H Q=> ∃z i c,x= .str z/\y= .int i/\z.length<=sizeLine/\dO z.cps.toList i=some c/\Q (.str ⟨#[c]⟩) H
theorem Pn:jG X (Ef X.K):=by
 intro value slice pins s σ H x y v u Q I rx ry h hs
 obtain⟨p,xs,i,z,rfl,rfl,hq,he,q⟩:=h
 cases rx
 obtain⟨t,rfl⟩:=ry
 obtain⟨its,r,pl,hz⟩:=I.list hq
 obtain⟨j,h1,h2,h3,h4,h5⟩:=yR he
 obtain⟨w,ew,ni⟩:=r.get h2
 have hl:=r.length
 have hn:=lS
 have fin:EP X pins σ Q w s:=⟨z,H,I,ni,q⟩
 by_cases h0:0<=i
 ·have hj:i.toNat=j:=by
   rw[seqIndex_of h0 h5] at h1
   exact zal h1
  exact item_listR pl.isList h0 (by lia) (by rw[hj];simpa using ew) fin hs
 ·have hj:(i+ (its.toArray.size:Int)).toNat=j:=by
   rw[seqIndex_neg (by lia) h4] at h1
   rw[zad,<-hl]
   exact zal h1
  exact subscriptTail_builtinR (x:=w) pl.isList.typeIs slot_list_getitem.lookup
   (wpAny_getItem_list_neg (Q:=fun r s'=>r=w/\EP X pins σ Q r s') pl.isList (by lia) (by rw[zad] <;>lia) (by lia) (by rw[hj];simpa using ew) ⟨rfl,fin⟩) hs
theorem Po:jG X (Eg X.K):=by
 intro value slice pins s σ H x y v u Q I rx ry h hs
 obtain⟨p,xs,i,z,rfl,rfl,hq,he,q⟩:=h
 cases rx
 obtain⟨t,rfl⟩:=ry
 obtain⟨its,r,pl,hz⟩:=I.tuple hq
 obtain⟨j,h1,h2,h3,h4,h5⟩:=yR he
 obtain⟨w,ew,ni⟩:=r.get h2
 have hl:=r.length
 have hn:=lS
 have fin:EP X pins σ Q w s:=⟨z,H,I,ni,q⟩
 exact subscriptTail_builtinR (x:=w) pl.typeIs slot_tuple_getitem.lookup
  (getItem_tuple (j:=j) (Q:=fun r s'=>r=w/\EP X pins σ Q r s') pl (by lia) (by lia) (by rw[zad,<-hl];exact h1) (by simpa using ew) ⟨rfl,fin⟩) hs
theorem Pp:jG X Eh:=by
 intro value slice pins s σ H x y v u Q I rx ry h hs
 obtain⟨z,i,c,rfl,rfl,hz,he,q⟩:=h
 obtain⟨t,rfl⟩:=rx
 obtain⟨t',rfl⟩:=ry
 obtain⟨j,h1,h2,h3,h4,h5⟩:=yR he
 have hl:z.cps.toList.length=z.length:=by simp[Str.length]
 rw[hl] at h1 h4 h5
 have hn:=lS
 exact tail_any (typeIs_str s z t) slot_str_getitem.lookup (getItem_str (c:=c) (by
  have e1:decide (i< -(2 ^ 63:Int))=false:=zqF (by lia)
  have e2:decide (i≥2 ^ 63)=false:=zqF (by lia)
  rw[e1,e2,Bool.or_false]) (by rw[h1];simpa using h2) ⟨.str ⟨#[c]⟩,H,I.tok _,⟨_,rfl⟩,q⟩) hs
theorem Pq(its:List Value)(n j:Nat)(u:Value):Obj.mapSeq (·.setIfInBounds j u) {cls:= .type "list",data:= .seq its.toArray n}={cls:= .type "list",data:= .seq (its.set j u).toArray n}:=by
 simp[Obj.mapSeq]
theorem Inv.lst{pins:List (Addr×Obj)}{σ:St}{H:Hp}{s:Shared}{p:Addr}{xs:List V}(I:Inv X pins σ H s)(h:H p=some (.lst xs)):
  ∃(its:List Value) (n:Nat),Vals xs its/\s.heap.get? p=some {cls:= .type "list",data:= .seq its.toArray n}/\xs.length<=sizeLine:=by
 obtain⟨z,its,n,r,e⟩:=I.aL p _ h
 exact⟨its,n,r,e,z⟩
theorem Inv.Pr{pins:List (Addr×Obj)}{σ:St}{H:Hp}{s:Shared}{p:Addr}{xs ys:List V}{its eW:List Value}{n n':Nat}{f:Obj->Obj}(I:Inv X pins σ H s)(h:H p=some (.lst xs))
  (ho:s.heap.get? p=some {cls:= .type "list",data:= .seq its.toArray n}) (hf:f {cls:= .type "list",data:= .seq its.toArray n}={cls:= .type "list",data:= .seq eW.toArray n'}) (r:Vals ys eW) (hz:ys.length<=sizeLine) (t:Nat):
  Inv X pins σ (upd H p<|.lst ys) {s with heap:=s.heap.update p f,toks:=t}:=by
 have e:(s.heap.update p f).get? p=some {cls:= .type "list",data:= .seq eW.toArray n'}:=by
  rw[Heap.get?_update_self f ho (by rw[hf] <;>rfl),hf]
 refine I.write (x:=p) (e:=p) (by rw[h];trivial) (.inl rfl) (fun b u hb q=> (Heap.get?_update_other _ _<|Ne.symm hb).trans q) ⟨_,e⟩ ?_
 exact⟨hz,eW,n',r,e⟩
def yS:V->V->V->Hp->(Hp->Prop)->Prop:=fun o i v H Q=> ∃p xs k j,o= .ref p/\i= .int k/\H p=some (.lst xs)/\iS xs.length k=some j/\Q (upd H p<|.lst<|xs.set j v)
theorem set_list:Dv X yS:=by
 intro pins s σ H o i v ov iv u Q I ro ri rv h
 obtain⟨p,xs,k,j,rfl,rfl,hp,hj,q⟩:=h
 cases ro
 obtain⟨t,rfl⟩:=ri
 obtain⟨its,n,r,ho,hz⟩:=I.lst hp
 obtain⟨h1,h2,h3,h4⟩:=Ed hj
 have hl:=r.length
 have hn:=lS
 have I':Inv X pins σ (upd H p<|.lst<|xs.set j v) {s with heap:=s.heap.update p (Obj.mapSeq (·.setIfInBounds j u))}:=
  I.Pr hp ho (Pq its n j u) (r.set rv j) (by rw[List.length_set];exact hz) s.toks
 by_cases h0:0<=k
 ·have hk:k.toNat=j:=by
   rw[seqIndex_of h0 h4] at h1
   exact zal h1
  exact PySem.W.ki_setAt ho h0 (by lia) (by rw[zad,<-hl];exact h4) (by rw[hk];exact⟨_,I',q⟩)
 ·have hk:(k+ (its.toArray.size:Int)).toNat=j:=by
   rw[seqIndex_neg (by lia) h3] at h1
   rw[zad,<-hl]
   exact zal h1
  exact PySem.W.ki_setBack ho (by lia) (by rw[zad,<-hl];exact h3) (by lia) (by rw[hk];exact⟨_,I',q⟩)
theorem yT(lo hi:Option Int)(n:Nat):(sliceBounds lo hi none n).1=((HT.bp n 0 lo:Nat):Int)/\(sliceBounds lo hi none n).2.1=((HT.bp n n hi:Nat):Int)/\(sliceBounds lo hi none n).2.2=1:=by
 refine⟨?_, ?_,rfl⟩
 ·cases lo with
  | none=>simp[sliceBounds,HT.bp]
  | some i=>
   simp only[sliceBounds,HT.bp,Option.getD_none,show(1:Int) >0 by decide,if_true]
   by_cases h:i<0
   ·simp only[h,if_true] <;>lia
   ·simp only[h,if_false] <;>lia
 ·cases hi with
  | none=>simp[sliceBounds,HT.bp]
  | some i=>
   simp only[sliceBounds,HT.bp,Option.getD_none,show(1:Int) >0 by decide,if_true]
   by_cases h:i<0
   ·simp only[h,if_true] <;>lia
   ·simp only[h,if_false] <;>lia
theorem Pu(its:List Value)(lo hi:Option Int):slicePick its.toArray lo hi none=((its.drop<|HT.bp its.length 0 lo).take<|HT.bp its.length its.length hi - HT.bp its.length 0 lo).toArray:=by
 obtain⟨h1,h2,h3⟩:=yT lo hi its.toArray.size
 unfold slicePick
 rw[h1,h2,h3]
 simp only[sliceRange_one,pick_run,zad] <;>rfl
def Pw(K:Frag):V->Option Int->Option Int->Hp->VK->Prop:=fun x lo hi H Q=> ∃a xs,x= .ref a/\aB K H a xs/\ ∀p,H p=none->Q (.ref p) (upd H p<|.lst<|dJ xs lo hi)
theorem Px:vj X (Pw X.K):=by
 intro pins s σ H x v vl vu lo hi sl Q I rx hs pl pu h
 obtain⟨a,xs,rfl,hx,q⟩:=h
 cases rx
 obtain⟨its,r,ht,hz⟩:=I.list hx
 have hlen:=r.length
 refine⟨"list",_,slot_list_getitem.lookup,ht.isList.typeIs, ?_⟩
 refine wpAny_getItem_list_slice ht.isList hs pl pu .none (by simp) ?_ (by rw[zad] <;>lia)
 rw[Pu,<-hlen]
 refine⟨.ref s.heap.objs.size,_,I.laid (t':=s.toks) (o:= .lst (dJ xs lo hi)) (fun b ob q=>Heap.get?_push_of_some _ q) (zqR _) ?_,rfl,q _<|I.aL.fresh<|zqR _⟩
 exact⟨zaq (Eb xs lo hi) hz,_,0,(r.drop<|HT.bp xs.length 0 lo).take<|HT.bp xs.length xs.length hi - HT.bp xs.length 0 lo,Heap.get?_push_size _ rfl⟩
def ei:V->Bool
 | .aA=>true
 | .bl _=>true
 | .int _=>true
 | .str _=>true
 | _=>false
def eF:V->V->Bool
 | .aA, .aA=>true
 | .bl a, .bl b=>a==b
 | .bl a, .int b=> (if a then 1 else 0)==b
 | .int a, .bl b=>a==(if b then 1 else 0)
 | .int a, .int b=>a==b
 | .str a, .str b=>a==b
 | _,_=>false
theorem Py{A:Around}{s:Shared}{y x:V}{u v:Value}(ry:RelV y u)(rx:RelV x v)(fy:ei y=true)(fx:ei x=true):SeqAt.EqAt A s u v (eF y x):=by
 cases y with
 | aA=>
  cases ry
  cases x with
  | aA=>cases rx;exact SeqAt.EqAt.same _
  | bl b=>cases rx;exact SeqAt.EqAt.none_bool b
  | int b=>obtain⟨t,rfl⟩:=rx;exact SeqAt.EqAt.none_int b t
  | str b=>obtain⟨t,rfl⟩:=rx;exact SeqAt.EqAt.none_str b t
  | _=>exact absurd (show false=true from fx) zan
 | bl a=>
  cases ry
  cases x with
  | aA=>cases rx;exact SeqAt.EqAt.bool_none a
  | bl b=>cases rx;exact SeqAt.EqAt.bool_bool a b
  | int b=>obtain⟨t,rfl⟩:=rx;exact SeqAt.EqAt.bool_int a b t
  | str b=>obtain⟨t,rfl⟩:=rx;exact SeqAt.EqAt.bool_str a b t
  | _=>exact absurd (show false=true from fx) zan
 | int a=>
  obtain⟨t',rfl⟩:=ry
  cases x with
  | aA=>cases rx;exact SeqAt.EqAt.int_none a t'
  | bl b=>cases rx;exact SeqAt.EqAt.int_bool a t' b
  | int b=>obtain⟨t,rfl⟩:=rx;exact SeqAt.EqAt.int_int a t' b t
  | str b=>obtain⟨t,rfl⟩:=rx;exact SeqAt.EqAt.int_str a t' b t
  | _=>exact absurd (show false=true from fx) zan
 | str a=>
  obtain⟨t',rfl⟩:=ry
  cases x with
  | aA=>cases rx;exact SeqAt.EqAt.str_none a t'
  | bl b=>cases rx;exact SeqAt.EqAt.str_bool a t' b
  | int b=>obtain⟨t,rfl⟩:=rx;exact SeqAt.EqAt.str_int a t' b t
  | str b=>obtain⟨t,rfl⟩:=rx;exact SeqAt.EqAt.str_str a t' b t
  | _=>exact absurd (show false=true from fx) zan
 | _=>exact absurd (show false=true from fy) zan
def dZ(x:V)(u:Value):Bool:=match u with
 | .none=>eF .aA x
 | .bool b=>eF (.bl b) x
 | .int i _=>eF (.int i) x
 | .str z _=>eF (.str z) x
 | _=>false
theorem vk{x y:V}{u:Value}(r:RelV y u)(f:ei y=true):dZ x u=eF y x:=by
 cases y with
 | aA=>cases r;rfl
 | bl b=>cases r;rfl
 | int i=>obtain⟨t,rfl⟩:=r;rfl
 | str z=>obtain⟨t,rfl⟩:=r;rfl
 | _=>exact absurd (show false=true from f) zan
theorem q_{x:V}: ∀{xs:List V} {us:List Value},Vals xs us->xs.all ei=true->us.any (dZ x)=xs.any fun y=>eF y x
 | _,_, .nil,_=>rfl
 | y::xs,u::us, .cons r t,f=>by
  rw[zaS,zab] at f
  rw[List.any_cons,List.any_cons,vk r f.1,q_ t f.2]
theorem nj{A:Around}{s:Shared}{x:V}{v:Value}(rx:RelV x v)(fx:ei x=true): ∀{xs:List V} {us:List Value},Vals xs us->xs.all ei=true-> ∀u∈us,SeqAt.EqAt A s u v (dZ x u)
 | _,_, .nil,_=>fun u hu=>by cases hu
 | y::xs,u::us, .cons r t,f=>fun u' hu=>by
  rw[zaS,zab] at f
  rcases zaa.mp hu with rfl | hu
  ·rw[vk r f.1];exact Py r rx f.1 fx
  ·exact nj rx fx t f.2 u' hu
def iV(x:V)(xs:List V):Bool:=xs.any fun y=>eF y x
def yU(K:Frag)(neg:Bool):R2:=fun x y H Q=> ∃p xs,y= .ref p/\(aB K H p xs\/ba K H p xs)/\ei x=true/\xs.all ei=true/\Q (.bl (if neg then !iV x xs else iV x xs)) H
theorem Pz:bw X (compareOp .In) (yU X.K false):=by
 intro pins s σ H x y v u Q I rx ry h
 obtain⟨p,xs,rfl,hq,fx,fs,q⟩:=h
 cases ry
 rcases hq with hq | hq
 ·obtain⟨its,r,pl,hz⟩:=I.list hq
  refine SeqAt.in_listAt (dZ x) pl.isList (fun w hw=>nj rx fx r fs w (by simpa using hw)) ⟨.bl _,H,I,rfl, ?_⟩
  rw[show its.toArray.any (dZ x)=its.any (dZ x) by simp,q_ r fs]
  exact q
 ·obtain⟨its,r,pl,hz⟩:=I.tuple hq
  refine SeqAt.in_tupleAt (dZ x) pl (fun w hw=>nj rx fx r fs w (by simpa using hw)) ⟨.bl _,H,I,rfl, ?_⟩
  rw[show its.toArray.any (dZ x)=its.any (dZ x) by simp,q_ r fs]
  exact q
theorem PB:bw X (compareOp .NotIn) (yU X.K true):=by
 intro pins s σ H x y v u Q I rx ry h
 obtain⟨p,xs,rfl,hq,fx,fs,q⟩:=h
 cases ry
 rcases hq with hq | hq
 ·obtain⟨its,r,pl,hz⟩:=I.list hq
  refine SeqAt.notIn_listAt (dZ x) pl.isList (fun w hw=>nj rx fx r fs w (by simpa using hw)) ⟨.bl _,H,I,rfl, ?_⟩
  rw[show its.toArray.any (dZ x)=its.any (dZ x) by simp,q_ r fs]
  exact q
 ·obtain⟨its,r,pl,hz⟩:=I.tuple hq
  refine SeqAt.notIn_tupleAt (dZ x) pl (fun w hw=>nj rx fx r fs w (by simpa using hw)) ⟨.bl _,H,I,rfl, ?_⟩
  rw[show its.toArray.any (dZ x)=its.any (dZ x) by simp,q_ r fs]
  exact q
theorem bQ.or{f:Value}{r r':List V->Hp->VK->Prop}(h:bQ X f r)(h':bQ X f r'):bQ X f (fun xs H Q=>r xs H Q\/r' xs H Q):=by
 intro pins s σ H xs us Q I rs q
 rcases q with q | q
 ·exact h pins s σ H xs us Q I rs q
 ·exact h' pins s σ H xs us Q I rs q
theorem PC:bQ X (.type "list") (fun xs H Q=> ∃p ys,xs=[.ref p]/\(aB X.K H p ys\/ba X.K H p ys)/\ ∀l,H l=none->Q (.ref l) (upd H l<|.lst ys)):=by
 intro pins s σ H xs us Q I r h
 obtain⟨p,ys,rfl,hq,q⟩:=h
 obtain⟨u,rfl,rx⟩:=vals1 r
 cases rx
 have fin: ∀(its:List Value),Vals ys its->ys.length<=sizeLine-> ∀(h':Heap) (c':Nat),(∀b o',s.heap.get? b=some o'->h'.get? b=some o')->
   h'.get? s.heap.objs.size=some {cls:= .type "list",dict:=none,data:= .seq its.toArray c',slots:= #[]}->EP X pins σ Q (.ref s.heap.objs.size) {s with heap:=h'}:=fun its r' hz h' c' kp e=>
  ⟨.ref s.heap.objs.size,_,I.laid (t':=s.toks) kp (zqR _) (show cB X.prog X.w _ h' _ (.lst ys) from⟨hz,its,c',r',e⟩),rfl,q _<|I.aL.fresh<|zqR _⟩
 rcases hq with hq | hq
 ·obtain⟨its,r',pl,hz⟩:=I.list hq
  have hlen:=r'.length
  obtain⟨o,ho,hc,n,hd⟩:=pl.isList
  exact call_list_seq p (.inl rfl) ho hc hd (fun h' c' kp e=>fin its r' hz h' c' kp e) (by simp only[zad] <;>lia)
 ·obtain⟨its,r',pl,hz⟩:=I.tuple hq
  have hlen:=r'.length
  obtain⟨o,ho,hc,n,hd⟩:=pl
  exact call_list_seq p (.inr rfl) ho hc hd (fun h' c' kp e=>fin its r' hz h' c' kp e) (by simp only[zad] <;>lia)
theorem PD:bQ X (.type "tuple") (fun xs H Q=> ∃p ys,xs=[.ref p]/\((aB X.K H p ys/\ ∀l,H l=none->Q (.ref l) (upd H l<|.tup ys))\/(ba X.K H p ys/\Q (.ref p) H))):=by
 intro pins s σ H xs us Q I r h
 obtain⟨p,ys,rfl,h⟩:=h
 obtain⟨u,rfl,rx⟩:=vals1 r
 cases rx
 rcases h with⟨hq,q⟩ | ⟨hq,q⟩
 ·obtain⟨its,r',pl,hz⟩:=I.list hq
  have hlen:=r'.length
  refine call_tuple_list pl.isList (fun h' kp=> ?_) (by simp only[zad] <;>lia)
  have I1:Inv X pins σ H {s with heap:=h'}:=I.kept (t':=s.toks) kp
  have I2:Inv X pins σ (upd H h'.objs.size<|.tup ys) {s with heap:=h'.push {cls:= .type "tuple",data:= .seq its.toArray}}:=
   I1.laid (t':=s.toks) (fun b o e=>Heap.get?_push_of_some _ e) (zqR _) (show cB X.prog X.w _ _ _ (.tup ys) from⟨hz,its,r',IsTup.new _ _⟩)
  exact⟨.ref h'.objs.size,_,I2,rfl,q _<|I1.aL.fresh<|zqR _⟩
 ·obtain⟨its,r',pl,hz⟩:=I.tuple hq
  exact call_tuple_same pl ⟨.ref p,H,I,rfl,q⟩
def nk(K:Frag)(T:String)(x:V)(H:Hp):Prop:=match x with
 | .str _=>T="str"
 | .int _=>T="int"
 | .ref p=> (T="list"/\ ∃xs,aB K H p xs)\/(T="tuple"/\ ∃o,K.lookup p=some o/\o.cls= .type "tuple"/\o.dict=none)\/
   (T="dict"/\((∃aQ,H p=some (.dK aQ))\/ ∃aQ,H p=some (.dT aQ)))\/(T="set"/\ ∃S n,H p=some (.set S n))
 | _=>False
theorem Ei{pins:List (Addr×Obj)}{σ:St}{H:Hp}{s:Shared}{T:String}{x:V}{v:Value}(I:Inv X pins σ H s)(r:RelV x v)(ty:nk X.K T x H):
  s.TypeIs v T/\ ∀a,v= .ref a-> ∃ob,s.heap.get? a=some ob/\ob.dict=none:=by
 cases x with
 | str z=>
  obtain⟨t,rfl⟩:=r
  cases (show T="str" from ty)
  exact⟨typeIs_str s z t,fun _ e=>nomatch e⟩
 | int i=>
  obtain⟨t,rfl⟩:=r
  cases (show T="int" from ty)
  exact⟨typeIs_int s i t,fun _ e=>nomatch e⟩
 | ref p=>
  cases r
  rcases ty with⟨rfl,xs,hq⟩ | ⟨rfl,o,hk,hc,hd⟩ | ⟨rfl,hk⟩ | ⟨rfl,S,n,hk⟩
  ·obtain⟨its,_,pl,_⟩:=I.list hq
   refine⟨pl.isList.typeIs,fun a e=> ?_⟩
   cases e
   obtain⟨o,n,e,c,hd,_⟩:=pl
   exact⟨o,e,hd⟩
  ·refine⟨⟨o,I.cj p o hk,hc⟩,fun a e=> ?_⟩
   cases e
   exact⟨o,I.cj _ o hk,hd⟩
  ·have z: ∃o,s.heap.get? p=some o/\o.ExactDict:=by
    rcases hk with⟨aQ,hk⟩ | ⟨aQ,hk⟩
    ·obtain⟨_,_,_,_,o,_,_,e,ex,_⟩:=I.aL p _ hk
     exact⟨o,e,ex⟩
    ·obtain⟨_,_,_,_,o,_,_,e,ex,_⟩:=I.aL p _ hk
     exact⟨o,e,ex⟩
   obtain⟨o,e,ex⟩:=z
   refine⟨⟨o,e,ex.1⟩,fun a e2=> ?_⟩
   cases e2
   exact⟨o,e,ex.2.1⟩
  ·obtain⟨o,_,_,_,e,ex,_⟩:=I.aL p _ hk
   refine⟨⟨o,e,ex.1⟩,fun a e2=> ?_⟩
   cases e2
   exact⟨o,e,ex.2.1⟩
 | _=>exact False.elim ty
def PF(K:Frag)(T:String)(r:V->List V->Hp->VK->Prop)(to:TE):TE:=fun σ H Q=>to σ H fun x H1=>nk K T x H1/\r x [] H1 Q
def rf(K:Frag)(T:String)(r:V->List V->Hp->VK->Prop)(to:TE)(t:TA):TE:=fun σ H Q=>to σ H fun x H1=>nk K T x H1/\t σ H1 fun xs H2=>r x xs H2 Q
variable {o e:Expr} {es:List Expr} {to:TE} {t:TA} {name:Str} {apos de:Pos} {T id:String} {r:V->List V->Hp->VK->Prop}
theorem PH(pa:PlainAttrs T)(slot:Slot T name id)(yV:typeOf (.builtin id)=pure (.type "method_descriptor"))(hm:iU X id r)(ho:PE X o to)
  (yW:attributeBase o name X.env (eval o X.env)=eval o X.env:=by rfl) (yX:(apos.endLine==de.line)=true:=by rfl):PE X (.Call (.Attribute o name apos) [] [] de) (PF X.K T r to):=by
 intro pins s σ H Q I h
 refine wpAny_Call_method0_late yW yX<|aV (ho pins s σ H _ I h) fun v s1 ⟨x,H1,I1,r1,ty,q1⟩=> ?_
 obtain⟨h1,h2⟩:=Ei I1 r1 ty
 exact⟨T,id,pa,slot,yV,h1,h2,Calls.callWith_builtin rfl<|PySem.evalArgs_none<|hm pins s1 σ H1 x [] v [] Q I1 r1 .nil q1⟩
theorem yY(pa:PlainAttrs T)(slot:Slot T name id)(yV:typeOf (.builtin id)=pure (.type "method_descriptor"))(hm:iU X id r)(ho:PE X o to)(ha:PA X (e::es) t)
  (yW:attributeBase o name X.env (eval o X.env)=eval o X.env:=by rfl)
  (PJ:((backTo de (starEach (e::es) X.env)).all (fun x=> !x.1) && (backToKw de (keywordEach [] X.env)).all (fun x=>x.1.isSome)
   && decide ((e::es).length+ ([]:List Keyword).length+ (if ([]:List Keyword).isEmpty then 0 else 1) <30))=true:=by rfl)
  (yX:(apos.endLine==de.line)=true:=by rfl) (hs:starEach (e::es) X.env=(false,eval e X.env)::starEach es X.env:=by rfl) (PK:(backTo de<|starEach es X.env).any (·.1)=false:=by rfl):
  PE X (.Call (.Attribute o name apos) (e::es) [] de) (rf X.K T r to t):=by
 intro pins s σ H Q I h
 refine wpAny_Call_method_late yW PJ yX rfl<|aV (ho pins s σ H _ I h) fun v s1 ⟨x,H1,I1,r1,ty,q1⟩=> ?_
 obtain⟨h1,h2⟩:=Ei I1 r1 ty
 refine⟨T,id,pa,slot,yV,h1,h2, ?_⟩
 have hA:=ha de pins s1 σ H1 _ I1 q1
 rw[hs] at hA⊢
 refine Calls.callWith_builtin (by show(false || (backTo de<|starEach es X.env).any (·.1))=false;rw[PK] <;>rfl)<|Calls.evalArgs_plain ?_
 exact aV hA fun us s2 ⟨vs,H2,I2,r2,q2⟩=>hm pins s2 σ H2 x vs v us Q I2 r1 r2 q2
end
def rg(X:Cx)(id:String)(r:V->List V->Hp->VK->Prop):Prop:=
 ∀(pins:List (Addr×Obj)) (s:Shared) (σ:St) (H:Hp) (x:V) (xs:List V) (v:Value) (us:List Value) (Q:VK),Inv X pins σ H s->RelV x v->Vals xs us->r x xs H Q->
  wpAny (model X.prog X.w) X.A (call (.builtin id) (v::us)) (EP X pins σ Q) X.xe s
theorem Vals.one: ∀{x:V} {us:List Value},Vals [x] us-> ∃u,us=[u]/\RelV x u
 | _,_, .cons r .nil=> ⟨_,rfl,r⟩
theorem Vals.zero: ∀{us:List Value},Vals [] us->us=[]
 | _, .nil=>rfl
theorem Vals.dropLast{xs:List V}{us:List Value}(h:Vals xs us):Vals xs.dropLast us.dropLast:=by
 induction h with
 | nil=>exact .nil
 | cons r t ih=>
  cases t with
  | nil=>exact .nil
  | cons q t'=>exact .cons r ih
theorem Vals.reverse{xs:List V}{us:List Value}(h:Vals xs us):Vals xs.reverse us.reverse:=by
 induction h with
 | nil=>exact .nil
 | cons r t ih=>rw[List.reverse_cons,List.reverse_cons];exact Vals.append ih (.cons r .nil)
theorem Vals.rep{xs:List V}{us:List Value}(h:Vals xs us): ∀k:Nat,Vals (List.replicate k xs).flatten (List.replicate k us).flatten
 | 0=> .nil
 | k+1=>by
  rw[zbf,zbf,zbv,zbv]
  exact Vals.append h<|Vals.rep h k
theorem PL{α:Type}(l:List α):l.eraseIdx (l.length - 1)=l.dropLast:=by
 induction l with
 | nil=>rfl
 | cons a r ih=>
  cases r with
  | nil=>rfl
  | cons b r=>
   have e:(a::b::r).length - 1=((b::r).length - 1)+1:=by
    have h1:(a::b::r).length=r.length+2:=rfl
    have h2:(b::r).length=r.length+1:=rfl
    lia
   rw[e,List.eraseIdx_cons_succ,ih]
   all_goals rfl
theorem foldl_rep(its:List Value): ∀(k:Nat) (acc:List Value),
  List.foldl (fun x1 x2=>x1++x2) acc.toArray (List.replicate k its.toArray)=(acc++ (List.replicate k its).flatten).toArray
 | 0,acc=>by simp
 | k+1,acc=>by
  have e:acc.toArray++its.toArray=(acc++its).toArray:=by simp
  have e2:(acc++its)++ (List.replicate k its).flatten=acc++ (List.replicate (k+1) its).flatten:=by
   rw[zbf,zbv,zbw]
  rw[<-e2,<-foldl_rep its k (acc++its),<-e,zbf,List.foldl_cons]
section
variable {X:Cx} {pins:List (Addr×Obj)} {σ:St} {H:Hp} {s:Shared} {l b:Addr} {xs ys zs:List V}
theorem Inv.rj{its eW:List Value}{n:Nat}{f:Array Value->Array Value}{t':Nat}(I:Inv X pins σ H s)(hH:H l=some (.lst xs))
  (e:s.heap.get? l=some {cls:= .type "list",data:= .seq its.toArray n}) (hf:f its.toArray=eW.toArray) (hv:Vals ys eW) (hz:ys.length<=sizeLine):
  Inv X pins σ (upd H l<|.lst ys) {s with heap:=s.heap.update l (Obj.mapSeq f),toks:=t'}:=by
 have q:=PySem.IsL.update e f
 rw[hf] at q
 refine I.write (x:=l) (e:=l) (by rw[hH];exact trivial) (.inl rfl) (fun b' u hb hu=> (Heap.get?_update_other s.heap (Obj.mapSeq f)<|Ne.symm hb).trans hu) ⟨_,q⟩ ?_
 exact⟨hz,eW,_,hv,q⟩
theorem Inv.Ej{its:List Value}{t':Nat}(I:Inv X pins σ H s)(hv:Vals ys its)(hz:ys.length<=sizeLine):
  Inv X pins σ (upd H s.heap.objs.size<|.lst ys) {s with heap:=s.heap.push {cls:= .type "list",data:= .seq its.toArray},toks:=t'}:=
 I.laid (fun _ _ q=>Heap.get?_push_of_some _ q) (zqR _) ⟨hz,its,0,hv,Heap.get?_push_size _ rfl⟩
theorem Inv.fresh(I:Inv X pins σ H s):H s.heap.objs.size=none:=I.aL.fresh (zqR _)
theorem Inv.kA(I:Inv X pins σ H s)(hH:H l=some (.lst xs)):xs.length<=sizeLine/\ ∃(its:List Value) (n:Nat),Vals xs its/\xs.length=its.length/\s.heap.get? l=some {cls:= .type "list",data:= .seq its.toArray n}:=by
 obtain⟨z,its,n,r,e⟩:=I.aL l _ hH
 exact⟨z,its,n,r,r.length,e⟩
theorem Ek{n:Nat}(h:n<=sizeLine):Builtin.List.listTooLong n=false:=by
 unfold Builtin.List.listTooLong
 exact zqF (by lia)
end
section
variable {X:Cx}
def PM:V->List V->Hp->VK->Prop:=fun x vs H Q=> ∃l xs y,x= .ref l/\vs=[y]/\H l=some (.lst xs)/\xs.length<sizeLine/\Q .aA (upd H l<|.lst<|xs++ [y])
theorem PN:rg X "list.append" PM:=by
 intro pins s σ H x vs v us Q I rx rv h
 obtain⟨l,xs,y,rfl,rfl,hH,hz,q⟩:=h
 cases rx
 obtain⟨u,rfl,ru⟩:=rv.one
 obtain⟨z,its,n,r,hl,e⟩:=I.kA hH
 refine call_meets F.slot_list_append ⟨_,e,rfl⟩ F.entry_list_append (F.args_list_append_2 _ _) (PySem.list_append l its.toArray n u (by rw[zad];lia)) ⟨e, ?_⟩
 refine⟨.aA,_,I.rj (eW:=its++ [u]) hH e (by simp) (r.append<|.cons ru .nil) ?_,rfl,q⟩
 rw[zqA,zbM]
 lia
def PQ:V->List V->Hp->VK->Prop:=fun x vs H Q=> ∃l b xs zs,x= .ref l/\vs=[.ref b]/\H l=some (.lst xs)/\H b=some (.lst zs)/\xs.length+zs.length<=sizeLine/\Q .aA (upd H l<|.lst<|xs++zs)
theorem PR:rg X "list.extend" PQ:=by
 intro pins s σ H x vs v us Q I rx rv h
 obtain⟨l,b,xs,zs,rfl,rfl,hH,hB,hz,q⟩:=h
 cases rx
 obtain⟨u,rfl,ru⟩:=rv.one
 cases ru
 obtain⟨z,its,n,r,hl,e⟩:=I.kA hH
 obtain⟨z2,fB,n2,r2,vm,e2⟩:=I.kA hB
 have gQ:its.toArray.size+fB.toArray.size<=sizeLine:=by rw[zad,zad];lia
 have yZ: ¬(!its.toArray.isEmpty && Builtin.List.listTooLong (its.toArray.size+fB.toArray.size))=true:=by
  rw[Ek gQ,Bool.and_false]
  exact zan
 refine call_meets F.slot_list_extend ⟨_,e,rfl⟩ F.entry_list_extend (F.args_list_extend_2 _ _)
  (AutoSeq1.list_extend_list_list_0 l its.toArray n b fB.toArray n2 yZ (by rw[zad];lia) (by lia)) ⟨e,e2, ?_⟩
 refine⟨.aA,_,I.rj (eW:=its++fB) hH e (by simp) (r.append r2) ?_,rfl,q⟩
 rw[zqA]
 lia
def PU:V->List V->Hp->VK->Prop:=fun x vs H Q=> ∃l xs y,x= .ref l/\vs=[]/\H l=some (.lst xs)/\xs[xs.length - 1]?=some y/\Q y (upd H l<|.lst xs.dropLast)
theorem PV:rg X "list.pop" PU:=by
 intro pins s σ H x vs v us Q I rx rv h
 obtain⟨l,xs,y,rfl,rfl,hH,hy,q⟩:=h
 cases rx
 have rk:=rv.zero
 subst rk
 obtain⟨z,its,n,r,hl,e⟩:=I.kA hH
 obtain⟨u,hu,ru⟩:=r.get hy
 have nq:its.toArray[its.toArray.size - 1]?=some u:=by
  show its.toArray[its.length - 1]?=some u
  rw[<-Array.getElem?_toList,<-hl]
  exact hu
 refine call_meets F.slot_list_pop ⟨_,e,rfl⟩ F.entry_list_pop (F.args_list_pop_1 _) (MeetsSeq.list_pop_last l its.toArray n u nq (by rw[zad];lia)) ⟨e, ?_⟩
 refine⟨y,_,I.rj (eW:=its.dropLast) hH e ?_ r.dropLast ?_,ru,q⟩
 ·show its.toArray.eraseIdxIfInBounds (its.toArray.size - 1)=its.dropLast.toArray
  rw[zad,List.eraseIdxIfInBounds_toArray,PL]
 ·rw[List.length_dropLast]
  lia
def PX:V->List V->Hp->VK->Prop:=fun x vs H Q=> ∃l xs,x= .ref l/\vs=[]/\H l=some (.lst xs)/\Q .aA (upd H l<|.lst xs.reverse)
theorem PY:rg X "list.reverse" PX:=by
 intro pins s σ H x vs v us Q I rx rv h
 obtain⟨l,xs,rfl,rfl,hH,q⟩:=h
 cases rx
 have rk:=rv.zero
 subst rk
 obtain⟨z,its,n,r,hl,e⟩:=I.kA hH
 refine call_meets F.slot_list_reverse ⟨_,e,rfl⟩ F.entry_list_reverse (F.args_list_reverse_1 _) (AutoSeq1.list_reverse_list_0 l its.toArray n (by rw[zad];lia)) ⟨e, ?_⟩
 refine⟨.aA,_,I.rj (eW:=its.reverse) hH e (by simp) r.reverse ?_,rfl,q⟩
 rw[zbg]
 lia
def PZ:V->List V->Hp->VK->Prop:=fun x vs H Q=> ∃l xs,x= .ref l/\vs=[]/\H l=some (.lst xs)/\Q .aA (upd H l<|.lst [])
theorem P4:rg X "list.clear" PZ:=by
 intro pins s σ H x vs v us Q I rx rv h
 obtain⟨l,xs,rfl,rfl,hH,q⟩:=h
 cases rx
 have rk:=rv.zero
 subst rk
 obtain⟨z,its,n,r,hl,e⟩:=I.kA hH
 refine call_meets F.slot_list_clear ⟨_,e,rfl⟩ F.entry_list_clear (F.args_list_clear_1 _) (AutoSeq1.list_clear_list_0 l its.toArray n (by rw[zad];lia)) ⟨e, ?_⟩
 exact⟨.aA,_,I.rj (eW:=[]) (ys:=[]) hH e rfl .nil<|zqZ _,rfl,q⟩
def El:R2:=fun x y H Q=> ∃l b xs zs,x= .ref l/\y= .ref b/\H l=some (.lst xs)/\H b=some (.lst zs)/\xs.length+zs.length<=sizeLine/\ ∀p,H p=none->Q (.ref p) (upd H p<|.lst<|xs++zs)
theorem P5:bw X (binaryOp .Add) El:=by
 intro pins s σ H x y v u Q I rx ry h
 obtain⟨l,b,xs,zs,rfl,rfl,hH,hB,hz,q⟩:=h
 cases rx
 cases ry
 obtain⟨z,its,n,r,hl,e⟩:=I.kA hH
 obtain⟨z2,fB,n2,r2,vm,e2⟩:=I.kA hB
 refine PySem.P.add_list e e2 ?_ (by rw[zad,zad];lia)
 have ea:its.toArray++fB.toArray=(its++fB).toArray:=by simp
 rw[ea]
 exact⟨.ref _,_,I.Ej (t':=s.toks) (r.append r2) (by rw[zqA];lia),rfl,q _ I.fresh⟩
def Em:R2:=fun x y H Q=> ∃l k xs,x= .ref l/\y= .int k/\H l=some (.lst xs)/\ -(2 ^ 63)<=k/\k<2 ^ 63/\xs.length*k.toNat<=sizeLine/\
 ∀p,H p=none->Q (.ref p) (upd H p<|.lst (List.replicate k.toNat xs).flatten)
theorem len_rep{α:Type}(xs:List α)(k:Nat):(List.replicate k xs).flatten.length=k*xs.length:=by
 induction k with
 | zero=>simp
 | succ k ih=>rw[zbf,zbv,zqA,ih,Nat.succ_mul,Nat.add_comm]
theorem P6:bw X (binaryOp .Mult) Em:=by
 intro pins s σ H x y v u Q I rx ry h
 obtain⟨l,k,xs,rfl,rfl,hH,h1,h2,hz,q⟩:=h
 cases rx
 obtain⟨t,rfl⟩:=ry
 obtain⟨z,its,n,r,hl,e⟩:=I.kA hH
 have hlen:its.toArray.size*k.toNat<=sizeLine:=by rw[zad,<-hl];exact hz
 have P7: ¬its.toArray.size*k.toNat> (2 ^ 63 - 1) / 8:=by
  have:(sizeLine:Nat)<= (2 ^ 63 - 1) / 8:=by decide
  lia
 have P8: ¬(!Builtin.List.listFitsIndex k)=true:=by
  rw[fitsIndex_both h1 h2]
  exact zan
 have yZ: ¬Builtin.List.listTooLong (its.toArray.size*k.toNat)=true:=by
  rw[Ek hlen]
  exact zan
 have P9:List.foldl (fun x1 x2=>x1++x2) #[] (List.replicate (if its.toArray.isEmpty=true then 0 else k.toNat) its.toArray)=(List.replicate k.toNat its).flatten.toArray:=by
  have f0: ∀m:Nat,List.foldl (fun x1 x2=>x1++x2) #[] (List.replicate m its.toArray)=(List.replicate m its).flatten.toArray:=fun m=>by
   have:=foldl_rep its m []
   rw[zbx] at this
   exact this
  rw[f0]
  cases its with
  | nil=>simp
  | cons a r'=>rw[if_neg (by simp)]
 refine wpAny_binaryOp_repeat_ref (T:="list") (U:="int") (by decide) ⟨_,e,rfl⟩ (fun s'=>typeIs_int s' k t) noFill_list_mul F.fills_int_mul F.slot_int_rmul repeat_list F.slot_int_index.lookup
  (call_meets F.slot_int_rmul (typeIs_int s k t) F.entry_int_rmul (F.args_int_rmul_2 _ _) (int___rmul___int_list k t l its.toArray n)
   ⟨e,rfl,⟨_,e,rfl⟩,call_meets F.slot_list_mul ⟨_,e,rfl⟩ F.entry_list_mul (F.args_list_mul_2 _ _) (AutoListH.list___mul___list_int_3 l its.toArray n k t P8 P7 yZ) ⟨e, ?_⟩⟩)
 rw[P9]
 exact⟨.ref _,_,I.Ej (t':=s.toks) (r.rep k.toNat) (by rw[len_rep,Nat.mul_comm];exact hz),rfl,q _ I.fresh⟩
end
section
variable {prog:Program} {w:World} {A:Around} {E:Value->Shared->Prop} {s:Shared}
end
section
variable {X:Cx}
end
end L2
namespace En
open PySem PySem.W PySem.Calls PyProof.Rows
theorem P_{P:Params}{h:Heap}: ∀(ns:List Int) (vs:List Value),WellAll P h vs (ns.map WData.int)->IntsAre vs ns:=by
 intro ns
 induction ns with
 | nil=>
  intro vs w
  rw[List.map_nil] at w
  cases w
  exact .nil
 | cons n ns ih=>
  intro vs w
  rw[zaO] at w
  cases w with
  | cons a b=>
   cases a
   exact .cons _ _<|ih _ b
theorem Qa{l:OpenLaw}{n:Nat}(hn:l.most=some n){P:Params}{h:Heap}{args:List WData}{vals:List Value}
  (pe:l.row.toRowW.claim.pre args=true) (y_:WellAll P h vals args):
  ∃a vs ns,vals=[Value.ref a]/\args=[WData.list<|ns.map WData.int]/\h.get? a=some {cls:= .type "list",data:= .seq vs.toArray}/\IntsAre vs ns/\ns.length<=n:=by
 have Qc:WShape.hasAll [] args [.list .int]=true:=(pre_splitW pe).1
 have hc:l.pre.holds [] {args:=args}=true:=(pre_splitW pe).2
 obtain⟨d,r,rfl,h1,h2⟩:=hasAllW_cons Qc
 obtain rfl:=hasAllW_nil h2
 obtain⟨xs,rfl,h3⟩:=hasW_list h1
 obtain⟨ns,rfl⟩:=items_int h3
 have hlen:ns.length<=n:=by
  unfold OpenLaw.pre at hc
  have h4:(WTm.not<|.lt (.lit<|.int (n:Int))<|.len<|.arg 0).holds [] {args:=[.list<|ns.map .int]}=true:=by
   have h4:=(holds_andW hc).1
   rw[hn] at h4
   exact h4
  have h5:=condW_of h4 (w_not<|w_lt w_lit<|w_len_list<|w_arg rfl)
  rw[zag] at h5
  refine Nat.le_of_not_lt fun q=> ?_
  have q':(n:Int) < ((ns.length:Nat):Int):=by lia
  first
   | (rw[zqT q'] at h5;exact absurd h5 (by decide))
   | (simp at h5;lia)
 cases y_ with
 | cons w1 w2=>
  cases w2
  cases w1 with
  | list ho za=>exact⟨_,_,ns,rfl,rfl,ho,P_ ns _ za,hlen⟩
theorem Qd(l:OpenLaw)(args:List WData):l.row.toRowW.claim.post args (.bool true) args=true:=
 postW_of (r:=l.row.toRowW) (X:=(true==true))
  (show WShape.has [] (.bool true) .bool=true by first | rfl | decide | simp[WShape.has,WShape.arms,WShape.armsAll])
  (show(WTm.eq .res<|.lit<|.bool true).value [] {args:=args,res:=some (.bool true),after:=args}=some (.bool<|true==true) from w_eq_bool (w_res rfl) w_lit) rfl
theorem Qe{l:OpenLaw}{n:Nat}{q:Program}{loose:List Str}{XP:(Str->Option Value)->Heap->Prop}{YP:World->Heap->Prop}{d:DefRec}
  (hn:l.most=some n) (rm:d.params.defaults=[])
  (call: ∀(w:World) (s₀ s₁:Shared) (mg mb:Str->Option Value) (fa:Addr) (o:Obj) (pm cd doc:Value) (a:Addr) (vs:List Value) (ns:List Int),
   Ground q loose [] XP w s₀ mg mb s₁.heap->YP w s₁.heap->
   s₁.heap.get? fa=some o->o.data= .func (docDef d.name d.params d.body d.scope pm cd doc)->s₁.heap.CodeRec cd d.name->mg d.name=some (.ref fa)->
   s₁.heap.get? a=some {cls:= .type "list",data:= .seq vs.toArray}->IntsAre vs ns->ns.length<=n->s₁.gens= #[]->
   codeAny (model l.prog w) callerA (.call (.ref fa) ⟨[.ref a],[]⟩) (fun r s'=>r= .ok (.ret (.bool true))/\OldK s₁.heap s'.heap/\s'.os=s₁.os/\AllBare s'.gens) s₁):
  WalkO q loose XP YP l.row.toRowW d [] (fun f vs=>PySem.call f vs):=by
 intro w s₀ s₁ mg mb G Y fa o pm cd doc dV kV ho hd fq hD iW hg args vals as pe aem hrd y_ ip
 obtain rfl:dV= .none:=Dflts.none hD rm
 obtain rfl:kV= .none:=Dflts.noKw hD
 obtain⟨a,vs,ns,rfl,rfl,zb,hints,hlen⟩:=Qa hn pe y_
 refine enter_call<|codeAny_mono (call w s₀ s₁ mg mb fa o pm cd doc a vs ns G Y ho (fd_plain hd) fq iW zb hints hlen hg) fun r s' hq=> ?_
 obtain⟨rfl,h2,h3,h4⟩:=hq
 exact⟨.inl ⟨.bool true, .bool true,[],rfl,fun _=>rfl, .bool true,Qd l _,fun _=> ⟨List.Pairwise.nil,fun _ hm=> (nomatch hm)⟩⟩,h2,h3,h4⟩
section
variable {prog:Program} {w:World} {A:Around} {E:Value->Shared->Prop} {s:Shared} {K:Frag}
end
end En
namespace L2
open PySem PySem.Spec PyProof.Rows
theorem Eo: ∀{vs:List Value} {ns:List Int},IntsAre vs ns->Vals (ns.map V.int) vs
 | _,_, .nil=> .nil
 | _,_, .cons n t h=> .cons ⟨t,rfl⟩ (Eo h)
def zc(H:Hp):Prop:= ∀b,H b=none\/ ∃o xs,H b=some (.bE o<|.lst xs)
theorem Qf{P:Program}{w:World}{K:Frag}{mg mb:Str->Option Value}{CX:bM}{k:Nat}{fa a:Addr}{fd:FuncData}{x:Str}{sp:Sp}{s₁:Shared}{vs:List Value}{ns:List Int}
  (KX:K.In s₁.heap) (vo:s₁.heap.Ns mainGlobals mg) (hb:s₁.heap.Ns builtinsNs mb) (Qg: ∀x:Str,x≠"__name__"->mb x=bootBuiltins x) (Qh:s₁.heap.NoLimit) (hg:s₁.gens= #[])
  (ha:s₁.heap.get? a=some {cls:= .type "list",data:= .seq vs.toArray}) (hi:IntsAre vs ns) (hl:ns.length<=sizeLine) (hr:cJ k callerA)
  (F: ∀base:Heap,K.In base->base.Ns mainGlobals mg->cb P w K mg base CX k fa fd [x] sp) (Qi: ∀(s:Shared) (u:Value),BindsTo s fd ⟨[u],[]⟩ [(x,u)])
  (gR: ∀H:Hp,zc H->aB K H a (ns.map V.int)->sp [.ref a] H (fun v _=>v= .bl true) fun _ _ _=>False)
  (zd: ∀H e s',CX [] H s₁ (fun _ _ _=>False) e s'->False):
  codeAny (model P w) callerA (.call (.ref fa) ⟨[.ref a],[]⟩) (fun r s'=>r= .ok (.ret<|.bool true)/\OldK s₁.heap s'.heap/\s'.os=s₁.os/\AllBare s'.gens) s₁:=by
 have rv:=Eo hi
 have rn:=hi.length
 have core: ∀H:Hp,zc H->aB K H a (ns.map V.int)->bZ P w H s₁.heap->(∀b,H b≠none->b=a)->(H a≠none->K.lookup a=none)->
   codeAny (model P w) callerA (.call (.ref fa) ⟨[.ref a],[]⟩) (fun r s'=>r= .ok (.ret<|.bool true)/\OldK s₁.heap s'.heap/\s'.os=s₁.os/\AllBare s'.gens) s₁:=by
  intro H hO hS aL hA hK
  have kI: ∀{b:Addr} {o:Obj},s₁.heap.get? b=some o->H b=none->(kq s₁.heap H).get? b=some o:=fun e n=>Nq e n
  have qY: ∀{b:Addr} {o:Obj} {es:Array DictEntry} {ep:Nat},s₁.heap.get? b=some o->o.data= .dict es ep->H b=none:=fun {b o es ep} e d=>by
   cases q:H b with
   | none=>rfl
   | some u=>
    have e':b=a:=hA b (by rw[q];simp)
    subst e'
    rw[ha] at e;cases e
    have d':Data.seq vs.toArray _=Data.dict es ep:=d
    cases d'
  have vp: ∀{b:Addr} {m:Str->Option Value},s₁.heap.Ns b m->(kq s₁.heap H).Ns b m:=fun {b m} ⟨o,es,ep,e,d,r⟩=> ⟨o,es,ep,kI e<|qY e d,d,r⟩
  have Ep:K.In (kq s₁.heap H):=fun b o e=>kI (KX b o e) (by
   cases q:H b with
   | none=>rfl
   | some u=>
    have e':b=a:=hA b (by rw[q];simp)
    subst e'
    rw[hK (by rw[q];simp)] at e;cases e)
  have hM:Mod K mg (kq s₁.heap H):=⟨Ep,vp vo,⟨mb,vp hb,Qg⟩,let ⟨mc,h1,h2⟩:=Qh;⟨mc,vp h1,h2⟩⟩
  have e0:ky P w K mg (kq s₁.heap H) callerA [] s₁ H:=⟨rfl,hM,fun b o e=>Nr e,Nat.le_of_eq<|Np _ _,trivial,fun b hb=>absurd (show b∈ ([]:List Addr) from hb) (by simp),aL, .of_eq hg⟩
  refine codeAny_mono ((F _ Ep<|vp vo).run callerA [] s₁ H ⟨[.ref a],[]⟩ [.ref a] [.ref a] _ _ hr e0 (Qi s₁<|.ref a) (.cons rfl .nil)<|gR H hO hS) fun r s' h=> ?_
  cases r with
  | error e=>exact(zd H e s' h).elim
  | ok fl=>
   cases fl with
   | next=>exact False.elim h
   | brk=>exact False.elim h
   | cont=>exact False.elim h
   | ret u=>
    obtain⟨v,H',os,bare,un,Qj,r',q⟩:=h
    have q':v= .bl true:=q
    subst q'
    obtain rfl:u=Value.bool true:=r'
    refine⟨rfl,OldK.of_keep fun b o e=> ?_,os,bare⟩
    cases q:H b with
    | none=>exact un.keep b o e q (by intro z;exact absurd (show b∈ ([]:List Addr) from z) (by simp)) (by simp)
    | some u=>
     rcases hO b with z | ⟨ob,xs,z⟩
     ·rw[q] at z;cases z
     ·have z2:=un.eV b ob _ z
      obtain⟨e1,_⟩:=aL b _ z
      obtain⟨e2,_⟩:=Qj b _ z2
      rw[e] at e1;cases e1
      exact e2
 cases hk:K.lookup a with
 | some o=>
  have e:=KX a o hk
  rw[ha] at e
  cases e
  refine core (fun _=>none) (fun _=> .inl rfl) (.inr ⟨_,vs.toArray,_,hk,rfl,rfl,rfl,by rw[zad,rn];exact hl,by simpa using rv⟩) (fun b u z=>by have z':(none:Option HO)=some u:=z;cases z') (fun b z=>absurd rfl z) fun z=>absurd rfl z
 | none=>
  refine core (fun b=>if b=a then some (.bE {cls:= .type "list",data:= .seq vs.toArray}<|.lst<|ns.map V.int) else none) (fun b=> ?_) (.inl<|.inr ⟨{cls:= .type "list",data:= .seq vs.toArray},if_pos rfl⟩) (fun b u z=> ?_) (fun b z=> ?_) fun _=>hk
  ·by_cases hb:b=a
   ·exact .inr ⟨_,_,if_pos hb⟩
   ·exact .inl (if_neg hb)
  ·by_cases hb:b=a
   ·have z':=(if_pos hb).symm.trans z
    cases z'
    subst hb
    exact⟨ha,by rw[zag];exact hl,vs,_,rv,ha⟩
   ·have z':=(if_neg hb).symm.trans z
    cases z'
  ·by_cases hb:b=a
   ·exact hb
   ·exact absurd (if_neg hb) z
theorem Qk{l:PySem.W.OpenLaw}{n k:Nat}{q:Program}{loose:List Str}{XP:(Str->Option Value)->Heap->Prop}{YP:World->Heap->Prop}{d:DefRec}{K:Params->Frag}{CX:World->bM}{sp:World->Sp}{x:Str}
  (hn:l.most=some n) (lT:n<=sizeLine) (rm:d.params.defaults=[]) (hr:cJ k callerA)
  (hY: ∀(w:World) (h:Heap),YP w h->(K w.params).In h)
  (F: ∀(w:World) (mg:Str->Option Value) (fa:Addr) (h:Heap),(K w.params).In h->h.Ns mainGlobals mg->mg d.name=some (.ref fa)->
   ∃fd:FuncData,(∀(s:Shared) (u:Value),BindsTo s fd ⟨[u],[]⟩ [(x,u)])/\
    ∀base:Heap,(K w.params).In base->base.Ns mainGlobals mg->cb l.prog w (K w.params) mg base (CX w) k fa fd [x] (sp w))
  (gR: ∀(w:World) (H:Hp) (a:Addr) (ns:List Int),ns.length<=n->zc H->aB (K w.params) H a (ns.map V.int)->sp w [.ref a] H (fun v _=>v= .bl true) fun _ _ _=>False)
  (zd: ∀(w:World) (H:Hp) (s:Shared) (e:Value) (s':Shared),CX w [] H s (fun _ _ _=>False) e s'->False):
  PySem.W.WalkO q loose XP YP l.row.toRowW d [] (fun f vs=>PySem.call f vs):=by
 refine En.Qe hn rm fun w s₀ s₁ mg mb fa o pm cd doc a vs ns G Y ho hd fq iW zb hints hlen hg=> ?_
 have KX:=hY w _ Y
 obtain⟨fd,hb,hF⟩:=F w mg fa _ KX G.T.g iW
 exact Qf KX G.T.g G.T.b G.T.builtins G.T.nolimit hg zb hints (zaq hlen lT) hr hF hb (fun H hO hS=>gR w H a ns hlen hO hS) fun H e s'=>zd w H s₁ e s'
end L2
namespace L2
open PySem PySem.Spec PyProof.Rows
def inClass(s:Stmt)(j:Nat):Stmt:=match s with
 | .ClassDef _ _ _ body _ _ _ _ _ _ _=>body.getD j (.Pass ⟨0,0,0,0⟩)
 | _=> .Pass ⟨0,0,0,0⟩
def gC(s:Stmt):Arguments:=match s with
 | .FunctionDef _ a _ _ _ _ _ _ _ _=>a
 | _=> {posonlyargs:=[],args:=[],vararg:=none,kwonlyargs:=[],kw_defaults:=[],kwarg:=none,defaults:=[]}
def cL(s:Stmt):List Stmt:=match s with
 | .FunctionDef _ _ b _ _ _ _ _ _ _=>b
 | _=> []
def df(s:Stmt):Scope:=match s with
 | .FunctionDef _ _ _ _ _ _ sc _ _ _=>sc
 | _=> {kind:= .function,names:=[],isGenerator:=false,isCoroutine:=false}
abbrev rp:bM:=fun _ _ _ _ _ _=>False
abbrev E0:XK:=fun _ _ _=>False
structure kJ (K:Frag) (x qual:Str) (st:Stmt) (f:Addr) (fd:FuncData):Prop where
 ex: ∃(oc:Value) (od:Option Addr) (kV doc pm:Value) (an:Option Addr) (bt ct:Value) (e7:Array (Option Value)),
  fd=PySem.W.fnOf x qual (gC st) (cL st) (df st) .none kV doc pm an bt ct/\K.lookup f=some ⟨oc,od, .func fd,e7⟩/\PySem.W.codeIn K bt qual=true
 kp:PySem.W.keepIn K (.ref f)=true
section
variable {P:Program} {w:World} {K:Frag} {mg:Str->Option Value} {base:Heap}
theorem kJ.binds{x qual:Str}{st:Stmt}{f:Addr}{fd:FuncData}{ps:List Str}(F:kJ K x qual st f fd)
  (h: ∀(kV doc pm:Value) (an:Option Addr) (bt ct:Value) (us:List Value),us.length=ps.length->bindArgs (PySem.W.fnOf x qual (gC st) (cL st) (df st) .none kV doc pm an bt ct) ⟨us,[]⟩=pure (ps.zip us)):Binds K fd ps []:=by
 obtain⟨oc,od,kV,doc,pm,an,bt,ct,e7,rfl,lk,fq⟩:=F.ex
 exact .all<|h kV doc pm an bt ct
theorem Er{x qual:Str}{st:Stmt}{f:Addr}{oc:Value}{od an:Option Addr}{e7:Array (Option Value)}{kV doc pm bt ct:Value}(l:K.lookup f=some ⟨oc,od, .func<|PySem.W.fnOf x qual (gC st) (cL st) (df st) .none kV doc pm an bt ct,e7⟩)
  (c:PySem.W.codeIn K bt qual=true) (k:PySem.W.keepIn K (.ref f)=true):kJ K x qual st f (PySem.W.fnOf x qual (gC st) (cL st) (df st) .none kV doc pm an bt ct):=⟨⟨oc,od,kV,doc,pm,an,bt,ct,e7,rfl,l,c⟩,k⟩
end
section
variable {X:Cx}
end
theorem rq{A B:Prop}(h:B):if false=true then A else B:=by
 rw[if_neg zan]
 exact h
theorem kN{A B:Prop}(h:A):if true=true then A else B:=by
 rw[if_pos rfl]
 exact h
theorem gE{c A B:Prop}[Decidable c](h1:c->A)(h2: ¬c->B):if c then A else B:=by
 by_cases h:c
 ·rw[if_pos h]
  exact h1 h
 ·rw[if_neg h]
  exact h2 h
def aC(H H':Hp):Prop:= ∀b o,H b=some o->H' b=some o
theorem aC.refl(H:Hp):aC H H:=fun _ _ h=>h
theorem aC.trans{H H1 H2:Hp}(a:aC H H1)(b:aC H1 H2):aC H H2:=fun c o h=>b c o (a c o h)
theorem aC.free{H H':Hp}(e:aC H H'){l:Addr}(h:H' l=Option.none):H l=Option.none:=by
 cases q:H l with
 | none=>rfl
 | some o=>
  rw[e l o q] at h
  cases h
theorem aC.seq{K:Frag}{H H':Hp}{a:Addr}{xs:List V}(e:aC H H')(h:aB K H a xs):aB K H' a xs:=by
 rcases h with(h | ⟨o,h⟩) | h
 ·exact .inl (.inl<|e _ _ h)
 ·exact .inl (.inr ⟨o,e _ _ h⟩)
 ·exact .inr h
section
variable {κ:Type} [DecidableEq κ]
def Es(aQ:List (κ×V))(k:κ):Option V:=(aQ.find? fun kv=>decide (kv.1=k)).map (·.2)
def putK(aQ:List (κ×V))(k:κ)(v:V):List (κ×V):=
 if (aQ.any fun kv=>decide (kv.1=k))=true then aQ.map (fun kv=>if kv.1=k then (kv.1,v) else kv) else aQ++ [(k,v)]
end
section
variable {P:Program} {w:World} {H:Hp} {h:Heap} {a:Addr}
end
def vq(H:Hp)(a:Addr)(y:V)(r:Option V):Prop:=
 (∃aQ k,Rd H a (.dK aQ)/\y=kV k/\r=Es aQ k)\/ ∃aQ k b,Rd H a (.dT aQ)/\y= .ref b/\H b=some (.tup<|k.map kV)/\r=Es aQ k
def Ql(H:Hp)(a:Addr)(y v:V)(H':Hp):Prop:=
 (∃aQ k,H a=some (.dK aQ)/\y=kV k/\aQ.length<sizeLine/\H'=upd H a (.dK<|putK aQ k v))\/
 ∃aQ k b,H a=some (.dT aQ)/\y= .ref b/\H b=some (.tup<|k.map kV)/\aQ.length<sizeLine/\H'=upd H a (.dT<|putK aQ k v)
section
variable {X:Cx} {pins:List (Addr×Obj)} {σ:St} {H:Hp} {s:Shared} {a:Addr} {y v:V} {u r:Value} {o:Option V} {A:Around} {E:Value->Shared->Prop}
end
section
variable {X:Cx} {pins:List (Addr×Obj)} {σ:St} {H:Hp} {s:Shared} {a:Addr} {aQ:List (Key×V)} {k:Key} {u:Value} {A:Around} {E:Value->Shared->Prop}
end
def Qm(td ty:TE):TE:=fun σ H Q=>td σ H fun x H1=>ty σ H1 fun y H2=> ∃a v,x= .ref a/\vq H2 a y (some v)/\Q v H2
def Et(ty td:TE):TE:=fun σ H Q=>ty σ H fun y H1=>td σ H1 fun x H2=> ∃a o,x= .ref a/\vq H2 a y o/\Q (.bl o.isSome) H2
def Eu(ty td:TE):TE:=fun σ H Q=>ty σ H fun y H1=>td σ H1 fun x H2=> ∃a o,x= .ref a/\vq H2 a y o/\Q (.bl<|!o.isSome) H2
def Qn(td ty tv:TE):TS:=fun D σ H=>tv σ H fun v H1=>td σ H1 fun x H2=>ty σ H2 fun y H3=> ∃a H4,x= .ref a/\Ql H3 a y v H4/\D.nx σ H4
section
variable {X:Cx} {o i e value:Expr} {pos pos' qU:Pos} {td ty tv:TE}
end
def Qo:TE:=fun _ H Q=> ∀p,H p=none->Q (.ref p) (upd H p<|.dT [])
section
variable {X:Cx} {pos:Pos}
end
def Qp(H:Hp)(a:Addr):Prop:=(∃aQ,Rd H a<|.dK aQ)\/ ∃aQ,Rd H a (.dT aQ)
section
variable {X:Cx} {pins:List (Addr×Obj)} {σ:St} {H:Hp} {s:Shared} {a:Addr} {y d:V} {u r:Value} {o:Option V} {A:Around} {E:Value->Shared->Prop}
end
def Qq(td ty tx:TE):TE:=fun σ H Q=>td σ H fun x H1=> ∃a,x= .ref a/\Qp H1 a/\ty σ H1 fun y H2=>tx σ H2 fun z H3=> ∃o,vq H3 a y o/\Q (o.getD z) H3
section
variable {X:Cx} {o e f:Expr} {apos de:Pos} {td ty tx:TE}
end
end L2
set_option maxHeartbeats 4000000
namespace L2
open PySem PySem.Spec PyProof.Rows
section
variable {X:Cx} {pins:List (Addr×Obj)} {σ:St} {H:Hp} {s:Shared} {a:Addr} {o:HO}
theorem Inv.ze(I:Inv X pins σ H s)(hn:H a=none)(h0:X.s₀.heap.objs.size<=a)(hL:a≠X.env.locals)(hC: ∀x c,X.env.cells.lookup x=some c->c≠a)
  (hp: ∀p∈X.pn++pins,p.1≠a) (new:cB X.prog X.w (upd H a o) s.heap a o):Inv X pins σ (upd H a o) s:=by
 have Qr: ∀b u,X.s₀.heap.get? b=some u->b≠a:=fun b u e=>zae (zam (Heap.lt_size e) h0)
 have rA: ∀b u,H b=some u->b≠a:=fun b u e=>bT e hn
 refine⟨I.ok,I.os,I.bare,⟨I.base.keep,I.base.slot,fun b u e n hx=> ?_,I.base.there,fun b xs e=> ?_,fun b u xs e=> ?_,fun b ps e=> ?_⟩,I.loc,I.cell, ?_,fun x c e=> ?_,fun p q=> ?_,fun b u e=> ?_,I.len⟩
 ·rw[aR<|Qr b u e];exact I.base.free b u e n hx
 ·have z:=I.base.eA b xs e
  rw[aR<|rA b _ z];exact z
 ·have z:=I.base.eV b u xs e
  rw[aR<|rA b _ z];exact z
 ·obtain⟨m,z⟩:=I.base.fo b ps e
  exact⟨m,by rw[aR<|rA b _ z];exact z⟩
 ·rw[aR<|Ne.symm hL];exact I.free
 ·rw[aR<|hC x c e];exact I.fS x c e
 ·obtain⟨z1,z2,z3⟩:=I.pin p q
  exact⟨z1,by rw[aR<|hp p q];exact z2,z3⟩
 ·by_cases hb:b=a
  ·subst hb;rw[aD] at e;cases e;exact new
  ·rw[aR hb] at e
   exact(I.aL b u e).ia (fun _ _ _ q=>q) (fun c q=>by rw[aR<|rA c _ q];exact q) fun c xs q=>by rw[aR<|rA c _ q];exact q
end
def dz(cells:List (Str×Addr)):List (Str×NameKind)->List (Str×Addr)->List (Str×Addr)
 | [],acc=>acc
 | (n,k)::r,acc=>dz cells r (if k= .free then (n,(cells.lookup n).getD 0)::acc else acc)
theorem Ew(env:Env): ∀(names:List (Str×NameKind)) (acc:List (Str×Addr)),(∀y∈names,y.2= .free-> ∃c,env.cells.lookup y.1=some c)->
  (forIn names acc (fun(x:Str×NameKind) (cs:List (Str×Addr))=>match x with
   | (name,kind)=>if (kind==NameKind.free)=true then do let a <-cellOf env name;pure (ForInStep.yield ((name,a)::cs)) else pure (ForInStep.yield cs)):Sem (List (Str×Addr)))=pure (dz env.cells names acc)
 | [],acc,_=>rfl
 | (n,k)::r,acc,h=>by
  have hr:=fun zf=>Ew env r zf fun y hy=>h y (zau _ hy)
  rw[List.forIn_cons]
  by_cases hk:k= .free
  ·subst hk
   obtain⟨c,e⟩:=h (n, .free) zay rfl
   have e':cellOf env n=pure c:=by unfold cellOf;rw[e]
   have ec:dz env.cells ((n, .free)::r) acc=dz env.cells r ((n,c)::acc):=by simp[dz,e]
   rw[ec,<-hr]
   simp[e']
  ·have hb:(k==NameKind.free)=false:=by simpa using hk
   have ec:dz env.cells ((n,k)::r) acc=dz env.cells r acc:=by simp[dz,hk]
   rw[ec,<-hr]
   simp[hb]
theorem Qs{scope:Scope}{env:Env}(h: ∀y∈scope.names,y.2= .free-> ∃c,env.cells.lookup y.1=some c):closureFor scope env=pure (dz env.cells scope.names []):=by
 have:=Ew env scope.names [] h
 simp only[closureFor]
 rw[<-this]
 simp
theorem Ex{cells:List (Str×Addr)}: ∀(names:List (Str×NameKind)) (acc:List (Str×Addr)) (x:Str) (c:Addr),(dz cells names acc).lookup x=some c->(acc.lookup x=some c)\/((x, .free)∈names/\(cells.lookup x).getD 0=c)
 | [],acc,x,c,h=> .inl h
 | (n,k)::r,acc,x,c,h=>by
  simp only[dz] at h
  rcases Ex r _ x c h with z | ⟨z1,z2⟩
  ·by_cases hk:k= .free
   ·subst hk
    simp only[if_true] at z
    rw[zaT] at z
    by_cases hx:x==n
    ·simp only[hx] at z
     have Qt:x=n:=eq_of_beq hx
     subst Qt
     exact .inr ⟨zay,zal z⟩
    ·have fX:(x==n)=false:=by simpa using hx
     simp only[fX] at z
     exact .inl z
   ·simp only[if_neg hk] at z
    exact .inl z
  ·exact .inr ⟨zau _ z1,z2⟩
theorem zg{cells:List (Str×Addr)}: ∀(names:List (Str×NameKind)) (acc:List (Str×Addr)) (x:Str),((x,NameKind.free)∈names\/ ∃c,acc.lookup x=some c)-> ∃c,(dz cells names acc).lookup x=some c
 | [],acc,x,h=>by
  rcases h with h | h
  ·cases h
  ·exact h
 | (n,k)::r,acc,x,h=>by
  simp only[dz]
  refine zg r _ x ?_
  rcases h with h | ⟨c,h⟩
  ·rcases zaa.mp h with e | h
   ·cases e
    refine .inr ?_
    simp[zaT]
   ·exact .inl h
  ·refine .inr ?_
   by_cases hk:k= .free
   ·simp only[if_pos hk,zaT]
    cases hx:x==n
    ·exact⟨c,h⟩
    ·exact⟨_,rfl⟩
   ·simp only[if_neg hk];exact⟨c,h⟩
theorem Ey{env:Env}: ∀(names:List (Str×NameKind)) (x:Str),
  (names.map fun(n,k)=>if (k==NameKind.free && env.scope.kind== .function && env.kindOf n==some .cell) then (n,NameKind.cell) else (n,k)).lookup x=
   (names.lookup x).map fun k=>if (k==NameKind.free && env.scope.kind== .function && env.kindOf x==some .cell) then NameKind.cell else k
 | [],_=>rfl
 | (n,k)::r,x=>by
  have ih:=Ey (env:=env) r x
  show List.lookup x ((if (k==NameKind.free && env.scope.kind== .function && env.kindOf n==some .cell)=true then (n,NameKind.cell) else (n,k))::_)=_
  cases hx:x==n with
  | true=>
   have e:x=n:=eq_of_beq hx
   subst e
   by_cases hc:(k==NameKind.free && env.scope.kind== .function && env.kindOf x==some .cell)=true
   ·rw[if_pos hc];simp only[zaT,beq_self_eq_true,zby];rw[if_pos hc]
   ·rw[if_neg hc];simp only[zaT,beq_self_eq_true,zby];rw[if_neg hc]
  | false=>
   by_cases hc:(k==NameKind.free && env.scope.kind== .function && env.kindOf n==some .cell)=true
   ·rw[if_pos hc];simp only[zaT,hx];exact ih
   ·rw[if_neg hc];simp only[zaT,hx];exact ih
section
variable {prog:Program} {w:World} {A:Around} {R:Result->Shared->Prop} {s:Shared}
theorem Qu{elt target iter:Expr}{ifs:List Expr}{scope:Scope}{pos:Pos}{it acc:Value}{env:Env}(I:Nat->Shared->Prop)
  (turn: ∀n s,I n s->wpAny (model prog w) A (pyNext it) (fun r s₁=>match r with
   | none=>R (.ok .next) s₁
   | some v=>wpAny (model prog w) A (letOwnedTupleGo target it v) (fun _ Ez=>wpAny (model prog w) A (assign target env v) (fun _ s₂=>
     wpAny (model prog w) A (forIn ifs true fun c r=>if r=true then do let ok <-isTrue c env (eval c env);pure (ForInStep.yield ok) else pure (ForInStep.yield r)) (fun ok s₃=>
      if ok=true then wpAny (model prog w) A (eval elt env) (fun x s₄=>
       wpAny (model prog w) A (call (.builtin "list.append") [acc,x]) (fun _ s₅=> ∃m,m<n/\I m s₅) (fun _ _=>False) s₄) (fun _ _=>False) s₃
      else ∃m,m<n/\I m s₃) (fun _ _=>False) s₂) (fun _ _=>False) Ez) (fun _ _=>False) s₁) (fun _ _=>False) s)
  (n:Nat) (h:I n s):codeAny (model prog w) A (.compLoop (.ListComp elt [⟨target,iter,ifs,0⟩] scope pos) 0 it acc env) R s:=by
 refine codeAny_loop rfl I (fun n s hI=> ?_) n h
 show wpAny _ A ((compTurn (.ListComp elt [⟨target,iter,ifs,0⟩] scope pos) 0 it acc env).onRaise (fun x=>do noteFrame x env;theTreesLotGoes x)) _ _ s
 refine wpAny_noted ?_
 rw[compTurn_list]
 refine wpAny_bind<|wpAny_standAt<|wpAny_bind<|wpAny_mono (turn n s hI) (fun r s₁ h₁=> ?_) fun _ _ h'=>h'.elim
 cases r with
 | none=>exact wpAny_pure h₁
 | some v=>
  refine wpAny_bind<|wpAny_mono h₁ (fun _ Ez Qw=> ?_) fun _ _ h'=>h'.elim
  refine wpAny_bind<|wpAny_mono Qw (fun _ s₂ h₂=>wpAny_bind<|wpAny_mono h₂ (fun ok s₃ h₃=> ?_) fun _ _ h'=>h'.elim) fun _ _ h'=>h'.elim
  cases ok with
  | false=>exact wpAny_pure ⟨rfl,h₃⟩
  | true=>
   exact wpAny_bind<|wpAny_bind<|wpAny_mono h₃ (fun x s₄ h₄=>wpAny_bind<|wpAny_mono h₄ (fun _ s₅ h₅=>wpAny_pure<|wpAny_pure ⟨rfl,h₅⟩) fun _ _ h'=>h'.elim) fun _ _ h'=>h'.elim
end
def fY(X:Cx)(scope:Scope)(N:List Str)(ex:List Addr)(C:Addr)(s:Shared)(H:Hp):Cx where
 prog:=X.prog
 w:=X.w
 K:=X.K
 mg:=X.mg
 base:=X.base
 A:=X.A
 N:=N
 s₀:=s
 H₀:=H
 env:=compEnvC scope (dz X.env.cells scope.names []) C X.env
 outer:=X.stack
 stack:=X.stack
 ex:=ex
 fn:=fun _=>false
 calm:=X.calm
 pn:=[]
 xe:=fun _ _=>False
structure iX (X:Cx) (scope:Scope) (ln:List Str) (fv:List (Str×Nat)):Prop where
 kind:scope.kind= .function
 EA: ∀y∈scope.names,y.2≠ .cell
 locals: ∀y∈scope.names,y.2= .local->scope.names.lookup y.1=some .local
 free: ∀y∈scope.names,y.2= .free->(X.env.kindOf y.1=some .cell\/X.env.kindOf y.1=some .free)
 Qx: ∀p∈fv,X.N[p.2]?=some p.1/\scope.names.lookup p.1=some .free
def cf(σ:St)(fv:List (Str×Nat)):St:=fv.map fun p=> (σ[p.2]?).join
def iY(K:Frag):Option Nat->V->Hp->(List V->Prop)->Prop
 | none,x,_,Q=>Q [x]
 | some n,x,H,Q=>if n=102 then ∃a xs,x= .ref a/\aB K H a xs/\xs.length=2/\Q xs else ∃a xs,x= .ref a/\ba K H a xs/\xs.length=n/\Q xs
theorem Qy{K:Frag}{n:Nat}{x:V}{H:Hp}{P Q:List V->Prop}(h:iY K (some n) x H P)(k: ∀xs,P xs->Q xs):iY K (some n) x H Q:=by
 by_cases e:n=102
 ·have h:if n=102 then ∃a xs,x= .ref a/\aB K H a xs/\xs.length=2/\P xs else ∃a xs,x= .ref a/\ba K H a xs/\xs.length=n/\P xs:=h
  show if n=102 then ∃a xs,x= .ref a/\aB K H a xs/\xs.length=2/\Q xs else ∃a xs,x= .ref a/\ba K H a xs/\xs.length=n/\Q xs
  rw[if_pos e] at h⊢;obtain⟨a,xs,e1,e2,e3,q⟩:=h;exact⟨a,xs,e1,e2,e3,k _ q⟩
 ·have h:if n=102 then ∃a xs,x= .ref a/\aB K H a xs/\xs.length=2/\P xs else ∃a xs,x= .ref a/\ba K H a xs/\xs.length=n/\P xs:=h
  show if n=102 then ∃a xs,x= .ref a/\aB K H a xs/\xs.length=2/\Q xs else ∃a xs,x= .ref a/\ba K H a xs/\xs.length=n/\Q xs
  rw[if_neg e] at h⊢;obtain⟨a,xs,e1,e2,e3,q⟩:=h;exact⟨a,xs,e1,e2,e3,k _ q⟩
def lY:Option TT->TT
 | none=>fun _ H k=>k true H
 | some t=>t
def nr(K:Frag)(wi:TI)(tk:Option Nat)(fv:List (Str×Nat))(tc:Option TT)(te:TE):TE:=fun σ H Q=>
 wi σ H fun J H1=> ∃W:Nat->Nat->List V->Hp->Prop,(∃m,W 0 m [] H1)/\ ∀i m ys H2,W i m ys H2->
  (J.stop i H2/\ ∀p,H2 p=none->Q (.ref p) (upd H2 p<|.lst ys))\/
  (J.go i H2/\ ∀x H3,J.fU i H2 x H3->iY K tk x H3 fun xs=>
   lY tc (xs.map some++cf σ fv) H3 fun b H5=>
    if b=true then te (xs.map some++cf σ fv) H5 fun y H6=>ys.length<sizeLine/\ ∃m',m'<m/\W (i+1) m' (ys++ [y]) H6
    else ∃m',m'<m/\W (i+1) m' ys H5)
section
variable {X:Cx} {pins:List (Addr×Obj)} {σ:St} {H:Hp} {s₂ s₃:Shared} {scope:Scope} {ln:List Str} {fv:List (Str×Nat)} {fp:List Addr} {h₁:Heap} {D C:Addr} {m:Str->Option Value} {t:Nat}
theorem iX.cells(S:iX X scope ln fv)(I:Inv X pins σ H s₂){x:Str}{c:Addr}(h:(dz X.env.cells scope.names []).lookup x=some c):X.env.cells.lookup x=some c/\(x,NameKind.free)∈scope.names:=by
 rcases Ex _ _ _ _ h with z | ⟨z1,z2⟩
 ·cases z
 ·obtain⟨c',e⟩:=I.ok.has x (S.free _ z1 rfl)
  rw[e] at z2
  have z3:c'=c:=z2
  subst z3
  exact⟨e,z1⟩
theorem iX.EB(S:iX X scope ln fv)(I:Inv X pins σ H s₂):closureFor scope X.env=pure (dz X.env.cells scope.names []):=
 Qs fun y hy hk=>I.ok.has y.1 (S.free y hy hk)
theorem Qz(S:iX X scope ln fv)(I:Inv X pins σ H s₂)(f2: ∀b∈fp,gP X pins H b)(gU: ∀b∈fp,∃o,s₂.heap.get? b=some o)
  (os:s₃.os=s₂.os) (gens:s₃.gens=s₂.gens) (k3: ∀b o,s₂.heap.get? b=some o->s₃.heap.get? b=some o) (hD:D=s₂.heap.objs.size) (h3:s₃.heap.objs.size=s₂.heap.objs.size+1) (hC:C=s₃.heap.objs.size)
  (k4: ∀b o,s₃.heap.get? b=some o->h₁.get? b=some o) (vo:h₁.Ns C m):
  Inv (fY X scope (ln++fv.map (·.1)) (D::fp) C s₃ H) [] (ln.map (fun _=>none)++cf σ fv) H {s₃ with heap:=h₁,toks:=t}:=by
 have cl: ∀{x c},(dz X.env.cells scope.names []).lookup x=some c->X.env.cells.lookup x=some c:=fun h=> (S.cells I h).1
 have QC: ∀{x c},(dz X.env.cells scope.names []).lookup x=some c->c<s₂.heap.objs.size:=fun h=>by
  obtain⟨v,q⟩:=I.cell _ _ (cl h)
  exact q.lt
 have QD: ∀b∈fp,b<s₂.heap.objs.size:=fun b hb=>by obtain⟨o,e⟩:=gU b hb;exact Heap.lt_size e
 have QE: ∀b∈D::fp,b<=s₂.heap.objs.size:=fun b hb=>by
  rcases zaa.mp hb with e | hb
  ·rw[e,hD];exact zqR _
  ·exact Nat.le_of_lt (QD b hb)
 have EC: ∀x,(relabel scope X.env).names.lookup x=(scope.names.lookup x).map fun k=>if (k==NameKind.free && X.env.scope.kind== .function && X.env.kindOf x==some .cell) then NameKind.cell else k:=fun x=>Ey scope.names x
 have QF: ∀x,scope.names.lookup x=some .free->((relabel scope X.env).names.lookup x=some .cell\/(relabel scope X.env).names.lookup x=some .free):=fun x e=>by
  rw[EC,e]
  simp only[zby]
  split
  ·exact .inl rfl
  ·exact .inr rfl
 have QG: ∀x,((relabel scope X.env).names.lookup x=some .cell\/(relabel scope X.env).names.lookup x=some .free)->(x,NameKind.free)∈scope.names:=fun x e=>by
  rw[EC] at e
  cases q:scope.names.lookup x with
  | none=>rw[q] at e;rcases e with e | e<;>cases e
  | some k=>
   rw[q] at e
   have hm:(x,k)∈scope.names:=PySem.mem_of_lookup q
   simp only[zby] at e
   by_cases hk:k= .free
   ·rw[hk] at hm;exact hm
   ·have hb:(k==NameKind.free)=false:=by simpa using hk
    simp only[hb,Bool.false_and,zaW,if_false] at e
    rcases e with e | e
    ·exact absurd (zal e) (S.EA _ hm)
    ·exact absurd (zal e) hk
 refine⟨⟨I.ok.mod,S.kind,I.ok.glob,I.ok.blt,Nat.le_of_eq hC.symm,fun x y c h1 h2=>I.ok.inj x y c (cl h1) (cl h2),fun x hx=>zg _ _ x (.inl (QG x hx)),fun x c h _=> (by cases h),I.ok.hd,I.ok.frames, .inl rfl,fun b hb=> ⟨?_,fun x c e=> ?_⟩,fun b o e=> ⟨k3 b o (I.bs b o e).1,(I.bs b o e).2⟩, ?_,fun b o e hb=> ?_,fun b hb hf=> ?_, ?_,I.uP⟩,
  rfl, ?_,Un.kept fun b u e=>k4 b u e,⟨m,vo,fun i x v e1 e2 e3=> ?_⟩,fun x c e=> ?_,I.aL.fresh ?_,fun x c e=>I.fS x c (cl e),fun p hp=>absurd (show p∈ ([]:List (Addr×Obj)) from hp) (by simp),I.aL.kept fun b u e=>k4 b u (k3 b u e), ?_⟩
 ·show b≠C
  have:=QE b hb
  rw[hC,h3];exact zae (Nat.lt_succ_of_le this)
 ·have q1:=QC e
  rcases zaa.mp hb with z | z
  ·rw[z,hD];exact zae q1
  ·exact(f2 b z).2.2.2.2.1 x c (cl e)
 ·show X.base.objs.size<=s₃.heap.objs.size
  have:=zaq I.ok.lQ I.sz
  lia
 ·have e2:=(I.bs b o e).1
  have pf:b∈D::fp:=hb
  rcases zaa.mp pf with z | z
  ·have:=Heap.lt_size e2
   rw[z,hD] at this;exact zaw _ this
  ·rcases (f2 b z).2.2.2.1 with q | q
   ·exact I.ok.uM b o e q
   ·exact absurd (zam (Heap.lt_size (I.ok.bs b o e).1) q) (zaw _)
 ·have ED:b∈bK X.stack:=hf
  have pf:b∈D::fp:=hb
  rcases zaa.mp pf with z | z
  ·rcases zaa.mp (I.uO b ED) with q | q
   ·have:=I.lt
    rw[<-q,z,hD] at this;exact zaw _ this
   ·exact I.C3 (by rw[z,hD];exact zqR _) q
  ·rcases zaa.mp (I.uO b ED) with q | q
   ·exact(f2 b z).2.1 q
   ·exact(f2 b z).2.2.1 q
 ·exact PySem.Heap.FunFrames.of_keeps (fun b o e _=> ⟨o,k3 b o e,rfl⟩) I.stack
 ·show AllBare s₃.gens
  rw[gens];exact I.bare
 ·have hi:ln.length<=i:=by
   by_cases hi:i<ln.length
   ·exfalso
    rw[zaJ (by simpa using hi),zak] at e2
    cases q:ln[i]? with
    | none=>rw[q] at e2;cases e2
    | some y=>rw[q] at e2;cases e2
   ·lia
  have nv:(ln++fv.map (·.1))[i]?=some x:=e1
  rw[zaI hi,zak] at nv
  rw[zaI (by simpa using hi),zag] at e2
  unfold cf at e2
  rw[zak] at e2
  cases q:fv[i - ln.length]? with
  | none=>rw[q] at nv;cases nv
  | some p=>
   rw[q] at nv e2
   have ex:p.1=x:=zal nv
   have ev:(σ[p.2]?).join=some v:=zal e2
   obtain⟨g1,g2⟩:=S.Qx p (zaj q)
   rw[ex] at g1 g2
   have QH:σ[p.2]?=some (some v):=by
    cases z:σ[p.2]? with
    | none=>rw[z] at ev;cases ev
    | some o=>rw[z] at ev;rw[show o=some v from ev]
   have hk:=S.free _ (PySem.mem_of_lookup g2) rfl
   obtain⟨m2,lT,hl⟩:=I.loc
   obtain⟨u,r,l⟩:=hl p.2 x v g1 QH (by rcases hk with k | k;exact .inr (.inl k);exact .inr (.inr k))
   refine⟨u,r, .inr ?_⟩
   rcases l with⟨k,_⟩ | ⟨_,c,ec,z⟩
   ·rcases hk with k' | k'<;> (rw[k] at k';cases k')
   ·refine⟨QF x g2,c, ?_, ?_⟩
    ·obtain⟨c',e'⟩:=zg (cells:=X.env.cells) scope.names [] x (.inl<|PySem.mem_of_lookup g2)
     have:=cl e'
     rw[ec] at this;cases this
     exact e'
    ·obtain⟨o,ho,hd⟩:=z
     exact⟨o,k4 c o<|k3 c o ho,hd⟩
 ·obtain⟨v,o,ho,hd⟩:=I.cell x c (cl e)
  exact⟨v,o,k4 c o<|k3 c o ho,hd⟩
 ·show s₂.heap.objs.size<=C
  rw[hC,h3];exact Nat.le_succ _
 ·show(ln.map (fun _=>none)++cf σ fv).length=(ln++fv.map (·.1)).length
  simp[cf]
end
structure EE (Φ:Cx->Prop) (P:Program) (w:World) (K:Frag) (tg:Expr) (J:It) (fp:List Addr) (it:Addr) (tn:Nat->Heap->Prop):Prop where
 mem:it∈fp
 obj: ∀i h,tn i h-> ∀b∈fp,∃o,h.get? b=some o/\ ∀v,o.data≠ .cell v
 keep: ∀i h h',tn i h->(∀b∈fp,∀o,h.get? b=some o->h'.get? b=some o)->tn i h'
 item: ∀(X:Cx),X.prog=P->X.w=w->X.K=K->Φ X-> ∀(i:Nat) (pins:List (Addr×Obj)) (s:Shared) (σ:St) (H:Hp) (E:Value->Shared->Prop),Inv X pins σ H s->(∀b∈fp,gP X pins H b)->tn i s.heap->J.go i H->
  wpAny (model P w) X.A (pyNext (.ref it)) (fun r s1=> ∃u,r=some u/\
   wpAny (model P w) X.A (letOwnedTupleGo tg (.ref it) u) (fun _ s2=> ∃x H',Inv X pins σ H' s2/\RelV x u/\J.fU i H x H'/\tn (i+1) s2.heap/\ ∀b∈fp,H' b=none) E s1) E s
 done: ∀(X:Cx),X.prog=P->X.w=w->X.K=K->Φ X-> ∀(i:Nat) (pins:List (Addr×Obj)) (s:Shared) (σ:St) (H:Hp) (E:Value->Shared->Prop),Inv X pins σ H s->(∀b∈fp,gP X pins H b)->tn i s.heap->J.stop i H->
  wpAny (model P w) X.A (pyNext<|.ref it) (fun r s1=>r=none/\Inv X pins σ H s1) E s
 self: ∀(A:Around) (i:Nat) (s:Shared) (Q:Value->Shared->Prop) (E:Value->Shared->Prop),tn i s.heap->Q (.ref it) s->wpAny (model P w) A (pyIter<|.ref it) Q E s
def zh(Φ:Cx->Prop)(X:Cx)(tg iter:Expr)(wi:TI):Prop:=
 ∀(pins:List (Addr×Obj)) (s:Shared) (σ:St) (H:Hp) (R:It->Hp->Prop),Inv X pins σ H s->wi σ H R->
  wpAny (model X.prog X.w) X.A (eval iter X.env) (fun v s1=>wpAny (model X.prog X.w) X.A (pyIter v) (fun m6 s2=>
   ∃(it:Addr) (fp:List Addr) (tn:Nat->Heap->Prop) (J:It) (H':Hp),m6= .ref it/\Inv X pins σ H' s2/\EE Φ X.prog X.w X.K tg J fp it tn/\tn 0 s2.heap/\(∀b∈fp,gP X pins H' b)/\R J H') X.xe s1) X.xe s
abbrev Calm(X:Cx):Prop:=X.calm=true
theorem PI.p{X:Cx}{tg iter:Expr}{wi:TI}(h:PI X tg iter wi):zh Calm X tg iter wi:=fun pins s σ H R I q=>
 aV (h pins s σ H R I q) fun v s1 h1=>aV h1 fun m6 s2 ⟨it,fp,tn,J,H',e,I',T,st,f,r⟩=> ⟨it,fp,tn,J,H',e,I',⟨T.mem,T.obj,T.keep,T.item,T.done,T.self⟩,st,f,r⟩
section
variable {X:Cx} {pins:List (Addr×Obj)} {σ:St} {H:Hp} {s₂:Shared} {scope:Scope} {ln:List Str} {fv:List (Str×Nat)} {elt tg iter:Expr} {ifs:List Expr} {pos:Pos}
 {J:It} {fp:List Addr} {it:Addr} {tn:Nat->Heap->Prop} {tk:Option Nat} {tc:Option TT} {te:TE} {Qv:VK} {RR:Value->Addr->Result->Shared->Prop} {E:Value->Shared->Prop}
def zj(Ψ:Hp->Prop)(X:Cx)(scope:Scope)(ln:List Str)(fv:List (Str×Nat))(tg:Expr)(tk:Option Nat):Prop:=
 ∀(ex:List Addr) (C:Addr) (s:Shared) (H:Hp),Ψ H-> ∃g,PG (fY X scope (ln++fv.map (·.1)) ex C s H) tg g/\
  ∀(x:V) (pre φ:St) (H':Hp) (Q:St->Hp->Prop),pre.length=ln.length->iY X.K tk x H' (fun xs=>xs.length=ln.length->Q (xs.map some++φ) H')->g x (pre++φ) H' Q
def rB(X:Cx)(scope:Scope)(ln:List Str)(fv:List (Str×Nat))(tg:Expr)(tk:Option Nat):Prop:=
 ∀(ex:List Addr) (C:Addr) (s:Shared) (H:Hp),∃g,PG (fY X scope (ln++fv.map (·.1)) ex C s H) tg g/\
  ∀(x:V) (pre φ:St) (H':Hp) (Q:St->Hp->Prop),pre.length=ln.length->iY X.K tk x H' (fun xs=>xs.length=ln.length->Q (xs.map some++φ) H')->g x (pre++φ) H' Q
def rC(X:Cx)(scope:Scope)(N:List Str)(ifs:List Expr)(tc:Option TT):Prop:=
 match tc with
 | none=>ifs=[]
 | some t=> ∃c,ifs=[c]/\ ∀(ex:List Addr) (C:Addr) (s:Shared) (H:Hp),PT (fY X scope N ex C s H) c t
theorem EF{Φ:Cx->Prop}{Ψ:Hp->Prop}(S:iX X scope ln fv)(hc: ∀Xc:Cx,Xc.A=X.A->Xc.calm=X.calm->Xc.H₀=H->Φ Xc)(hΨ:Ψ H)(hg:zj Ψ X scope ln fv tg tk)(ht:rC X scope (ln++fv.map (·.1)) ifs tc)
  (he: ∀(ex:List Addr) (C:Addr) (s:Shared) (H:Hp),PE (fY X scope (ln++fv.map (·.1)) ex C s H) elt te)
  (I:Inv X pins σ H s₂) (T:EE Φ X.prog X.w X.K tg J fp it tn) (st:tn 0 s₂.heap) (f2: ∀b∈fp,gP X pins H b)
  (h: ∃W:Nat->Nat->List V->Hp->Prop,(∃m,W 0 m [] H)/\ ∀i m ys H2,W i m ys H2->
   (J.stop i H2/\ ∀p,H2 p=none->Qv (.ref p) (upd H2 p<|.lst ys))\/
   (J.go i H2/\ ∀x H3,J.fU i H2 x H3->iY X.K tk x H3 fun xs=>
    lY tc (xs.map some++cf σ fv) H3 fun b H5=>
     if b=true then te (xs.map some++cf σ fv) H5 fun y H6=>ys.length<sizeLine/\ ∃m',m'<m/\W (i+1) m' (ys++ [y]) H6
     else ∃m',m'<m/\W (i+1) m' ys H5))
  (QI: ∀D C H' s' m,Inv X pins σ H' s'->s'.heap.Ns C m->H' C=none->C≠X.env.locals->X.s₀.heap.objs.size<=C->(∀x c,X.env.cells.lookup x=some c->c≠C)->(∀p∈X.pn++pins,p.1≠C)->Qv (.ref D) H'->RR (.ref D) C (.ok .next) s'):
  wpAny (model X.prog X.w) X.A (newList []) (fun acc s₃=>wpAny (model X.prog X.w) X.A (newFunctionEnv scope X.env.globals (dz X.env.cells scope.names []) [] X.env.qual none .none (some X.env)) (fun EG s₄=>
   codeAny (model X.prog X.w) X.A (.compStart (.ListComp elt [⟨tg,iter,ifs,0⟩] scope pos) 0 (.ref it) acc {EG with scope:=relabel scope X.env}) (RR acc EG.locals) s₄) E s₃) E s₂:=by
 obtain⟨W,⟨m0,w0⟩,turn⟩:=h
 refine wpAny_newObj_type<|wpAny_newFunctionEnv S.EA (by intro y hy;simp at hy) (fun h₁ vt vv=> ?_) S.kind
 dsimp only at vt vv⊢
 generalize vw:({s₂ with heap:=s₂.heap.push {cls:= .type "list",dict:=none,data:= .seq ([]:List Value).toArray}}:Shared)=s₃
 have jH:s₂.heap.push {cls:= .type "list",dict:=none,data:= .seq ([]:List Value).toArray}=s₃.heap:=by rw[<-vw]
 rw[jH] at vt vv⊢
 have EH:s₃.os=s₂.os:=by rw[<-vw]
 have QJ:s₃.gens=s₂.gens:=by rw[<-vw]
 have ny:s₃.heap.objs.size=s₂.heap.objs.size+1:=by rw[<-jH,Heap.size_push]
 have k3: ∀b o,s₂.heap.get? b=some o->s₃.heap.get? b=some o:=fun b o e=>by rw[<-jH];exact Heap.get?_push_of_some _ e
 have k4: ∀b o,s₃.heap.get? b=some o->h₁.get? b=some o:=fun b o e=>vv.extBut b o (zae<|Heap.lt_size e) (Heap.get?_push_of_some _ e)
 have gD:s₃.heap.get? s₂.heap.objs.size=some {cls:= .type "list",dict:=none,data:= .seq ([]:List Value).toArray}:=by rw[<-jH];exact Heap.get?_push_size _ rfl
 generalize eD:s₂.heap.objs.size=D at gD
 generalize eC:s₃.heap.objs.size=C at vt vv⊢
 have vx:D≠C:=by rw[<-eD,<-eC,ny];exact zae (zbd _)
 have gU: ∀b∈fp,∃o,s₂.heap.get? b=some o:=fun b hb=>by obtain⟨o,e,_⟩:=T.obj 0 _ st b hb;exact⟨o,e⟩
 have EI: ∀b∈fp,b≠D:=fun b hb=>by obtain⟨o,e⟩:=gU b hb;rw[<-eD];exact zae (Heap.lt_size e)
 have QK: ∀b∈fp,b≠C:=fun b hb=>by
  obtain⟨o,e⟩:=gU b hb
  have:=Heap.lt_size e
  rw[<-eC,ny];exact zae (zaP this)
 generalize eX:fY X scope (ln++fv.map (·.1)) (D::fp) C s₃ H=Xc
 have I4: ∀t,Inv Xc [] (ln.map (fun _=>none)++cf σ fv) H {s₃ with heap:=h₁,toks:=t}:=fun t=>by
  rw[<-eX]
  exact Qz S I f2 gU EH QJ k3 eD.symm ny eC.symm k4 vt
 have xL:Xc.env.locals=C:=by rw[<-eX];rfl
 have vy:Xc.ex=D::fp:=by rw[<-eX];rfl
 have QL:Xc.fs=bK X.stack:=by rw[<-eX];rfl
 have xP:Xc.prog=X.prog:=by rw[<-eX];rfl
 have xw:Xc.w=X.w:=by rw[<-eX];rfl
 have xK:Xc.K=X.K:=by rw[<-eX];rfl
 have xA:Xc.A=X.A:=by rw[<-eX];rfl
 have xc:Φ Xc:=hc Xc xA (by rw[<-eX];rfl) (by rw[<-eX];rfl)
 have EJ:Xc.pn=[]:=by rw[<-eX];rfl
 have zk:Xc.xe=fun _ _=>False:=by rw[<-eX];rfl
 have EK:Xc.env.cells=dz X.env.cells scope.names []:=by rw[<-eX];rfl
 have zm:Xc.env=compEnvC scope (dz X.env.cells scope.names []) C X.env:=by rw[<-eX];rfl
 have cD: ∀x c,Xc.env.cells.lookup x=some c->c≠D:=fun x c e=>by
  rw[EK] at e
  obtain⟨v,q⟩:=I.cell x c (S.cells I e).1
  rw[<-eD];exact zae q.lt
 have cF: ∀x c,Xc.env.cells.lookup x=some c-> ∀b∈fp,c≠b:=fun x c e b hb=>by
  rw[EK] at e
  exact(f2 b hb).2.2.2.2.1 x c (S.cells I e).1
 have sF: ∀b∈D::fp,b∉Xc.fs:=fun b hb hf=>by
  have:=(I4 0).ok.uN b (by rw[vy];exact hb)
  exact this hf
 have m7: ∀{H':Hp} {oD:Obj},(∀b∈fp,H' b=none)-> ∀b∈fp,gP Xc [(D,oD)] H' b:=fun hn b hb=>
  ⟨hn b hb,by rw[xL];exact QK b hb,sF b (zau _ hb), .inl (by rw[vy];exact zau _ hb),fun x c e=>cF x c e b hb,fun p hp=>by
   rw[EJ] at hp
   rcases zas.mp (show p∈ [(D,_)] from hp) with rfl
   exact(EI b hb).symm⟩
 have loop: ∀s₄:Shared,s₄={s₃ with heap:=h₁,toks:=s₃.toks+ ([]:List (Str×Value)).length}->
   codeAny (model X.prog X.w) X.A (.compLoop (.ListComp elt [⟨tg,iter,ifs,0⟩] scope pos) 0 (.ref it) (.ref D)<|compEnvC scope (dz X.env.cells scope.names []) C X.env) (RR (.ref D) C) s₄:=by
  rintro s₄ rfl
  refine Qu (fun n s'=> ∃i pre ys its nn H',Inv Xc [(D,{cls:= .type "list",data:= .seq (List.toArray its) nn})] (pre++cf σ fv) H' s'/\pre.length=ln.length/\tn i s'.heap/\(∀b∈fp,H' b=none)/\Vals ys its/\ys.length<=sizeLine/\W i n ys H') ?_ m0
   ⟨0,ln.map<|fun _=>none,[],[],0,H,(I4 _).o5<|fun p hp=> ?_,by simp,T.keep 0 _ _ st<|fun b _ o e=>k4 b o<|k3 b o e,fun b hb=> (f2 b hb).1, .nil,zqZ _,w0⟩
  rotate_left
  ·have zo:=zas.mp hp
   subst zo
   refine⟨k4 _ _ gD,I.aL.fresh<|Nat.le_of_eq eD,by rw[xL];exact vx,sF D zay,fun v z=>by cases z⟩
  rintro n s' ⟨i,pre,ys,its,nn,H',I',pe,ck,EL,hv,hz,w'⟩
  have aeo:=I'.pin (D,_) (zaz _ zay)
  rcases turn i n ys H' w' with⟨stop,qn⟩ | ⟨go,step⟩
  ·have td:=T.done Xc xP xw xK xc i _ s' _ H' (fun _ _=>False) I' (m7 EL) ck stop
   rw[xA] at td
   refine aV td fun r s1 ⟨hr,I1⟩=> ?_
   subst hr
   have zp:=I1.pin (D,_) (zaz _ zay)
   have b1:=I1.base
   rw[QL,vy] at b1
   have EM:Xc.s₀=s₃:=by rw[<-eX];rfl
   have QM:Xc.H₀=H:=by rw[<-eX];rfl
   rw[EM,QM] at b1
   have nD: ∀b o,s₂.heap.get? b=some o->b∉fp->b∉D::fp:=fun b o e hb hm=>by
    rcases zaa.mp hm with z | z
    ·have:=Heap.lt_size e
     rw[z,eD] at this;exact zaw _ this
    ·exact hb z
   have un:Un (bK X.stack) fp H H' s₂.heap s1.heap:=⟨fun b o e nb hb hx=>b1.keep b o (k3 b o e) nb hb (nD b o e hx),fun b o e nb hb hx=>b1.slot b o (k3 b o e) nb hb (nD b o e hx),fun b o e nb hx=>b1.free b o (k3 b o e) nb (nD b o e hx),
    fun b o e hx=>b1.there b o (k3 b o e) (nD b o e hx),b1.eA,b1.eV,b1.fo⟩
   have QN:s1.os=s₂.os:=by rw[I1.os,EM,EH]
   have EN:=I1.aL
   rw[xP,xw] at EN
   have J1:Inv X pins σ H' s1:=I.yu QN un EN I1.bare fun b hb=> ⟨(f2 b hb).2.2.2.1,(f2 b hb).2.1,(f2 b hb).2.2.2.2.1,(f2 b hb).2.2.2.2.2⟩
   have QO: ∀x c,X.env.cells.lookup x=some c->c≠D:=fun x c e=>by
    obtain⟨v,q⟩:=I.cell x c e
    rw[<-eD];exact zae q.lt
   have QP: ∀x c,X.env.cells.lookup x=some c->c≠C:=fun x c e=>by
    obtain⟨v,q⟩:=I.cell x c e
    rw[<-eC,ny];exact zae (zaP q.lt)
   have pD: ∀p∈X.pn++pins,p.1≠D:=fun p hp=>by rw[<-eD];exact zae (Heap.lt_size (I.pin p hp).1)
   have pC: ∀p∈X.pn++pins,p.1≠C:=fun p hp=>by
    rw[<-eC,ny];exact zae (zaP<|Heap.lt_size (I.pin p hp).1)
   have lD:D≠X.env.locals:=by rw[<-eD];exact zbc I.lt
   have lC:C≠X.env.locals:=by
    rw[<-eC,ny];exact zbc (zaP I.lt)
   have J2:Inv X pins σ (upd H' D<|.lst ys) s1:=Inv.ze J1 zp.2.1 (by rw[<-eD];exact I.sz) lD QO pD ⟨hz,its,nn,hv,zp.1⟩
   obtain⟨mC,EO,_⟩:=I1.loc
   rw[xL] at EO
   have fC:H' C=none:=by have:=I1.free;rw[xL] at this;exact this
   exact QI D C _ s1 mC J2 EO (by rw[aR<|Ne.symm vx];exact fC) lC (by rw[<-eC,ny];exact Nat.le_succ_of_le I.sz) QP pC<|qn D zp.2.1
  ·have ti:=T.item Xc xP xw xK xc i _ s' _ H' (fun _ _=>False) I' (m7 EL) ck go
   rw[xA] at ti
   refine aV ti fun r s4 ⟨u,hr,h4⟩=> ?_
   subst hr
   refine aV h4 fun _ s5 ⟨x,H5,I5,r5,y5,m8,yD⟩=> ?_
   have qT:=I5.pinned (m7 yD) (T.obj _ _ m8)
   obtain⟨g,pg,gq⟩:=hg (D::fp) C s₃ H hΨ
   rw[eX] at pg
   have rd:=step x H5 y5
   have ER:=pg _ s5 _ H5 x u (fun σ6 H6=> ∃xs:List V,σ6=xs.map some++cf σ fv/\xs.length=ln.length/\H6=H5/\
     lY tc (xs.map some++cf σ fv) H5 fun b H5=>
     if b=true then te (xs.map some++cf σ fv) H5 fun y H6=>ys.length<sizeLine/\ ∃m',m'<n/\W (i+1) m' (ys++ [y]) H6
     else ∃m',m'<n/\W (i+1) m' ys H5) qT r5 (gq x pre (cf σ fv) H5 _ pe (by
      cases tk with
      | none=>exact fun hl=> ⟨_,rfl,hl,rfl,rd⟩
      | some k=>exact Qy rd fun xs rd hl=> ⟨xs,rfl,hl,rfl,rd⟩))
   rw[xA,xP,xw,zk,zm] at ER
   refine aV ER fun _ s6 ⟨σ6,H6,I6,xs,e6,ES,eH,ET⟩=> ?_
   subst e6 eH
   have EU: ∀{H7:Hp} {σ7:St} {s7:Shared},Inv Xc ([(D,{cls:= .type "list",data:= .seq (List.toArray its) nn})]++pb fp s5.heap) σ7 H7 s7->tn (i+1) s7.heap/\(∀b∈fp,H7 b=none)/\s7.heap.get? D=some {cls:= .type "list",data:= .seq (List.toArray its) nn}/\H7 D=none:=fun {H7 σ7 s7} I7=>by
    refine⟨T.keep _ _ _ m8 fun b hb o e=> (I7.pin (b,o)<|zaz _<|zaz _<|uY hb e).1,fun b hb=> ?_, ?_, ?_⟩
    ·obtain⟨o,e,d⟩:=T.obj _ _ m8 b hb
     exact(I7.pin (b,o)<|zaz _<|zaz _<|uY hb e).2.1
    ·exact(I7.pin (D,_)<|zaz _<|zaH _ zay).1
    ·exact(I7.pin (D,_)<|zaz _<|zaH _ zay).2.1
   have tests:wpAny (model X.prog X.w) X.A (forIn ifs true fun c r=>if r=true then do let ok <-isTrue c (compEnvC scope (dz X.env.cells scope.names []) C X.env) (eval c<|compEnvC scope (dz X.env.cells scope.names []) C X.env);pure (ForInStep.yield ok) else pure (ForInStep.yield r))
     (fun ok s7=> ∃H7,Inv Xc ([(D,{cls:= .type "list",data:= .seq (List.toArray its) nn})]++pb fp s5.heap) (xs.map some++cf σ fv) H7 s7/\
      if ok=true then te (xs.map some++cf σ fv) H7 fun y H6=>ys.length<sizeLine/\ ∃m',m'<n/\W (i+1) m' (ys++ [y]) H6
      else ∃m',m'<n/\W (i+1) m' ys H7) (fun _ _=>False) s6:=by
    cases tc with
    | none=>
     have zq:ifs=[]:=ht
     subst zq
     exact wpAny_tests_nil ⟨_,I6,ET⟩
    | some t=>
     obtain⟨c,zq,pt⟩:=(show ∃c,ifs=[c]/\ ∀(ex:List Addr) (C:Addr) (s:Shared) (H:Hp),PT (fY X scope (ln++fv.map (·.1)) ex C s H) c t from ht)
     subst zq
     have EV:=pt (D::fp) C s₃ H
     rw[eX] at EV
     have q:=EV _ s6 _ _ _ I6 ET
     rw[xA,xP,xw,zk,zm] at q
     exact wpAny_tests_one<|aV q fun b s7 ⟨H7,I7,q7⟩=> ⟨H7,I7,q7⟩
   refine aV tests fun ok s7 ⟨H7,I7,q7⟩=> ?_
   cases ok with
   | false=>
    simp only[zaW,if_false] at q7⊢
    obtain⟨m',hm,w7⟩:=q7
    obtain⟨t7,f7,d7,n7⟩:=EU I7
    refine⟨m',hm,i+1,xs.map some,ys,its,nn,H7,I7.o5<|fun p hp=> ?_,by simpa using ES,t7,f7,hv,hz,w7⟩
    exact I7.pin p<|zaz _<|zaH _ hp
   | true=>
    simp only[if_true] at q7⊢
    have q:=he (D::fp) C s₃ H
    rw[eX] at q
    have q:=q _ s7 _ H7 _ I7 q7
    rw[xA,xP,xw,zk,zm] at q
    refine aV q fun uy s8 ⟨y,H8,I8,r8,aW,m',hm,w8⟩=> ?_
    obtain⟨t8,f8,d8,n8⟩:=EU I8
    have hl:=hv.length
    refine call_meets F.slot_list_append ⟨_,d8,rfl⟩ F.entry_list_append (F.args_list_append_2 _ _) (PySem.list_append D its.toArray nn uy (by rw[zad];lia)) ⟨d8, ?_⟩
    have I9: ∀t,Inv Xc [] (xs.map some++cf σ fv) H8 {s8 with heap:=s8.heap.update D (Obj.mapSeq (·.push uy)),toks:=t}:=fun t=>
     (I8.o5 (ie:=[])<|fun p hp=>absurd hp (by simp)).turned (it:=D) (t':=t) (fun b o hb e=> (Heap.get?_update_other s8.heap (Obj.mapSeq (·.push uy))<|Ne.symm hb).trans e) n8 (by rw[xL];exact vx) (.inl (by rw[vy];exact zay)) cD
      (fun p hp=>by rw[EJ] at hp;exact absurd hp (by simp))
    have g9:=PySem.IsL.update d8 (·.push uy)
    obtain⟨n9,QR⟩: ∃n9,(s8.heap.update D (Obj.mapSeq (·.push uy))).get? D=some {cls:= .type "list",data:= .seq (its++ [uy]).toArray n9}:=
     ⟨_,by rw[show(its++ [uy]).toArray=its.toArray.push uy by simp];exact g9⟩
    refine⟨m',hm,i+1,xs.map some,ys++ [y],its++ [uy],n9,H8,(I9 _).o5<|fun p hp=> ?_,by simpa using ES, ?_,f8,hv.append<|.cons r8 .nil, ?_,w8⟩
    ·have zo:=zas.mp hp
     subst zo
     exact⟨QR,n8,by rw[xL];exact vx,sF D zay,fun v z=>by cases z⟩
    ·exact T.keep _ _ _ t8 fun b hb o e=> (Heap.get?_update_other s8.heap (Obj.mapSeq (·.push uy))<|Ne.symm<|EI b hb).trans e
    ·rw[zqA,zbM];lia
 have QS:tn 0 h₁:=T.keep 0 _ _ st fun b _ o e=>k4 b o (k3 b o e)
 have e4:({s₂ with heap:=h₁,toks:=s₂.toks+ ([]:List (Str×Value)).length}:Shared)={s₃ with heap:=h₁,toks:=s₃.toks+ ([]:List (Str×Value)).length}:=by rw[<-vw]
 exact codeAny_compStart_list (loop _ e4)<|T.self X.A 0 _ _ _ QS<|loop _ e4
end
section
variable {X:Cx} {scope:Scope} {ln:List Str} {fv:List (Str×Nat)} {elt tg iter:Expr} {ifs:List Expr} {pos:Pos} {wi:TI} {tk:Option Nat} {tc:Option TT} {te:TE}
theorem QU{Φ:Cx->Prop}{Ψ:Hp->Prop}(S:iX X scope ln fv)(hc: ∀H,Ψ H-> ∀Xc:Cx,Xc.A=X.A->Xc.calm=X.calm->Xc.H₀=H->Φ Xc)(hΨ: ∀pins σ H s,Inv X pins σ H s->Ψ H)(hi:zh Φ X tg iter wi)(hg:zj Ψ X scope ln fv tg tk)(ht:rC X scope (ln++fv.map (·.1)) ifs tc)
  (he: ∀(ex:List Addr) (C:Addr) (s:Shared) (H:Hp),PE (fY X scope (ln++fv.map (·.1)) ex C s H) elt te) (hs: ∀x,foldedSetIterable iter X.env x=pure x:=by intro _;rfl):
  PE X (.ListComp elt [⟨tg,iter,ifs,0⟩] scope pos) (nr X.K wi tk fv tc te):=by
 intro pins s σ H Q I h
 rw[eval_ListComp]
 refine wpAny_comprehension_free (use:=none) rfl hs (S.EB I) S.kind S.locals<|aV (hi pins s σ H _ I h) fun v s1 h1=>aV h1 fun m6 s2 h2=> ?_
 obtain⟨it,fp,tn,J,H2,e,I2,T,qR,f2,hW⟩:=h2
 subst e
 refine EF (RR:=fun acc C=>compPost (model X.prog X.w) X.A X.xe none (EP X pins σ Q) acc C) S (hc H2<|hΨ _ _ _ _ I2) (hΨ _ _ _ _ I2) hg ht he I2 T qR f2 hW ?_
 intro D C H' s' m I' ns hn hL h0 vz hp q
 refine⟨m,ns,fun h' sb=> ⟨.ref D,H', ?_,rfl,q⟩⟩
 exact I'.turned (it:=C) (t':=s'.toks) (fun b o hb e=>sb.extBut b o hb e) hn hL (.inr h0) vz hp
theorem QV{Φ:Cx->Prop}{Ψ:Hp->Prop}{i:Nat}{y:Str}{py rD:Pos}(hN:X.N.Nodup)(cM:X.N[i]?=some y)(hy:Loc X.env.scope y)(zr:swapsWith (.ListComp elt [⟨tg,iter,ifs,0⟩] scope pos) (some<|.Name y py) rD.line X.env=pure true)
  (S:iX X scope ln fv) (hc: ∀H,Ψ H-> ∀Xc:Cx,Xc.A=X.A->Xc.calm=X.calm->Xc.H₀=H->Φ Xc) (hΨ: ∀pins σ H s,Inv X pins σ H s->Ψ H) (hi:zh Φ X tg iter wi) (hg:zj Ψ X scope ln fv tg tk) (ht:rC X scope (ln++fv.map (·.1)) ifs tc)
  (he: ∀(ex:List Addr) (C:Addr) (s:Shared) (H:Hp),PE (fY X scope (ln++fv.map (·.1)) ex C s H) elt te) (hs: ∀x,foldedSetIterable iter X.env x=pure x:=by intro _;rfl)
  (hf:X.fn y=true\/X.env.scope.names.lookup y=some .local:=by first | exact .inl rfl | exact .inr rfl | assumption):
  PS X (.Assign [.Name y py] (.ListComp elt [⟨tg,iter,ifs,0⟩] scope pos) rD) (iP (nr X.K wi tk fv tc te)<|eY i):=by
 intro pins s σ H D I h
 rw[exec_Assign_Name_used _ _ _ _ zr]
 refine wpAny_bind<|wpAny_standAt<|wpAny_bind ?_
 show wpAny _ X.A (do let _ <-comprehension (.ListComp elt [⟨tg,iter,ifs,0⟩] scope pos) scope X.env _ (newList []) false (eval iter X.env) (some<|assign (.Name y py) X.env)) _ _ s
 refine wpAny_bind (wpAny_mono (wpAny_comprehension_free (use:=some (assign (.Name y py) X.env)) (Q:=fun _ s'=>SP X pins D .next s') rfl hs (S.EB I) S.kind S.locals
  (aV (hi pins s σ H _ I h) fun v s1 h1=>aV h1 fun m6 s2 h2=> ?_)) (fun _ s' hq=>wpAny_pure (wpAny_pure hq)) fun _ _ e=>e)
 obtain⟨it,fp,tn,J,H2,e,I2,T,qR,f2,hW⟩:=h2
 subst e
 refine EF (Qv:=fun x H1=>eY i x σ H1 D.nx) (RR:=fun acc C=>compPost (model X.prog X.w) X.A X.xe (some<|assign (.Name y py) X.env) (fun _ s'=>SP X pins D .next s') acc C) S (hc H2<|hΨ _ _ _ _ I2) (hΨ _ _ _ _ I2) hg ht he I2 T qR f2 hW ?_
 intro Da C H' s' m I' ns hn hL h0 vz hp q
 show wpAny _ X.A (assign (.Name y py) X.env<|.ref Da) _ _ _
 refine wpAny_assign_Name<|C8 I' hN cM hy (v:= .ref Da) rfl (fun s4 I4 ⟨a,sb,ha⟩=> ?_) hf
 have QW:C≠a:=by
  rcases ha with z | z
  ·rw[z];exact hL
  ·exact Ne.symm (vz _ _ z)
 refine⟨m,ns.sameBut sb QW,fun h' QX=> ⟨_,H', ?_,q⟩⟩
 exact I4.turned (it:=C) (t':=s4.toks) (fun b o hb e=>QX.extBut b o hb e) hn hL (.inr h0) vz hp
theorem QY(S:iX X scope ln fv)(hc:X.calm=true)(hi:PI X tg iter wi)(hg:rB X scope ln fv tg tk)(ht:rC X scope (ln++fv.map (·.1)) ifs tc)
  (he: ∀(ex:List Addr) (C:Addr) (s:Shared) (H:Hp),PE (fY X scope (ln++fv.map (·.1)) ex C s H) elt te) (hs: ∀x,foldedSetIterable iter X.env x=pure x:=by intro _;rfl):
  PE X (.ListComp elt [⟨tg,iter,ifs,0⟩] scope pos) (nr X.K wi tk fv tc te):=
 QU (Φ:=Calm) (Ψ:=fun _=>True) S (fun _ _ Xc _ e _=>e.trans hc) (fun _ _ _ _ _=>trivial) hi.p (fun ex C s H _=>hg ex C s H) ht he hs
theorem QZ{i:Nat}{y:Str}{py rD:Pos}(hN:X.N.Nodup)(cM:X.N[i]?=some y)(hy:Loc X.env.scope y)(zr:swapsWith (.ListComp elt [⟨tg,iter,ifs,0⟩] scope pos) (some<|.Name y py) rD.line X.env=pure true)
  (S:iX X scope ln fv) (hc:X.calm=true) (hi:PI X tg iter wi) (hg:rB X scope ln fv tg tk) (ht:rC X scope (ln++fv.map (·.1)) ifs tc)
  (he: ∀(ex:List Addr) (C:Addr) (s:Shared) (H:Hp),PE (fY X scope (ln++fv.map (·.1)) ex C s H) elt te) (hs: ∀x,foldedSetIterable iter X.env x=pure x:=by intro _;rfl)
  (hf:X.fn y=true\/X.env.scope.names.lookup y=some .local:=by first | exact .inl rfl | exact .inr rfl | assumption):
  PS X (.Assign [.Name y py] (.ListComp elt [⟨tg,iter,ifs,0⟩] scope pos) rD) (iP (nr X.K wi tk fv tc te)<|eY i):=
 QV (Φ:=Calm) (Ψ:=fun _=>True) hN cM hy zr S (fun _ _ Xc _ e _=>e.trans hc) (fun _ _ _ _ _=>trivial) hi.p (fun ex C s H _=>hg ex C s H) ht he hs hf
end
section
variable {X:Cx} {scope:Scope} {fv:List (Str×Nat)}
theorem Q0{x:Str}{px:Pos}(hl:scope.names.lookup x=some .local)(vA:(x::fv.map (·.1)).Nodup):rB X scope [x] fv (.Name x px) none:=by
 intro ex C s H
 have Q2:Loc (fY X scope ([x]++fv.map (·.1)) ex C s H).env.scope x:= .inl (lookup_relabel_local hl)
 refine⟨eY 0,uU (X:=fY X scope ([x]++fv.map (·.1)) ex C s H) vA rfl Q2<|.inr<|lookup_relabel_local hl,fun v pre φ H' Q hp h=> ?_⟩
 obtain⟨a,rfl⟩: ∃a,pre=[a]:=by
  match pre,hp with
  | [a],_=>exact⟨a,rfl⟩
 exact h rfl
theorem Q3{x y:Str}{px py pos:Pos}{k:Nat}(hc:X.calm=true)(hx:scope.names.lookup x=some .local)(hy:scope.names.lookup y=some .local)(vA:(x::y::fv.map (·.1)).Nodup):rB X scope [x,y] fv (.Tuple [.Name x px, .Name y py] k pos) (some 2):=by
 intro ex C s H
 generalize eX:fY X scope ([x,y]++fv.map (·.1)) ex C s H=Xc
 have xN:Xc.N=x::y::fv.map (·.1):=by rw[<-eX];rfl
 have xc:Xc.calm=true:=by rw[<-eX];exact hc
 have lx:Xc.env.scope.names.lookup x=some .local:=by rw[<-eX];exact lookup_relabel_local hx
 have ly:Xc.env.scope.names.lookup y=some .local:=by rw[<-eX];exact lookup_relabel_local hy
 have p1:PG Xc (.Name x px) (eY 0):=uU (by rw[xN];exact vA) (by rw[xN];rfl) (.inl lx) (.inr lx)
 have p2:PG Xc (.Name y py) (eY 1):=uU (by rw[xN];exact vA) (by rw[xN];rfl) (.inl ly) (.inr ly)
 have xK:Xc.K=X.K:=by rw[<-eX];rfl
 refine⟨Dx Xc.K 2<|uV (eY 0)<|uV (eY 1) yy,Dy xc<|yz p1<|yz p2 Dw,fun v pre φ H' Q hp h=> ?_⟩
 obtain⟨a,b,rfl⟩: ∃a b,pre=[a,b]:=by
  match pre,hp with
  | [a,b],_=>exact⟨a,b,rfl⟩
 obtain⟨a',xs,rfl,e2,e3,q⟩:=h
 obtain⟨v1,v2,rfl⟩: ∃v1 v2,xs=[v1,v2]:=by
  match xs,e3 with
  | [v1,v2],_=>exact⟨v1,v2,rfl⟩
 exact⟨a',_,rfl,by rw[xK];exact e2,rfl,v1,_,rfl,v2,_,rfl,rfl,q rfl⟩
end
section
variable {X:Cx}
theorem bw.imp{f:Value->Value->Sem Value}{r r':R2}(h:bw X f r)(i: ∀x y H Q,r' x y H Q->r x y H Q):bw X f r':=fun pins s σ H x y v u Q I rx ry q=>h pins s σ H x y v u Q I rx ry (i _ _ _ _ q)
theorem bQ.imp{f:Value}{r r':List V->Hp->VK->Prop}(h:bQ X f r)(i: ∀xs H Q,r' xs H Q->r xs H Q):bQ X f r':=fun pins s σ H xs us Q I rv q=>h pins s σ H xs us Q I rv (i _ _ _ q)
def EW(K:Frag):R2:=fun x y H Q=>match x,y with
 | .int i, .int j=>Q (.int<|i+j) H
 | .str i, .str j=>i.length+j.length<=sizeLine/\Q (.str<|i++j) H
 | .ref l, .ref b=>El (.ref l) (.ref b) H Q\/Ec K (.ref l) (.ref b) H Q
 | _,_=>False
theorem Q4:bw X (binaryOp .Add) (EW X.K):=by
 refine bw.imp ((N7.or OA).or<|P5.or Pk) fun x y H Q h=> ?_
 cases x<;>cases y<;>first
  | exact False.elim h
  | exact .inl (.inl ⟨_,_,rfl,rfl,h⟩)
  | exact .inl (.inr ⟨_,_,rfl,rfl,h⟩)
  | exact .inr h
def jI(C:Int->Int->Prop)(g:Int->Int->V):R2:=fun x y H Q=>match x,y with
 | .int i, .int j=>C i j/\Q (g i j) H
 | _,_=>False
theorem zt{C:Int->Int->Prop}{g:Int->Int->V}(x y:V)(H:Hp)(Q:VK)(h:jI C g x y H Q):rI C g x y H Q:=by
 cases x<;>cases y<;>first
  | exact False.elim h
  | exact⟨_,_,rfl,rfl,h⟩
theorem rE{g:Int->Int->V}(x y:V)(H:Hp)(Q:VK)(h:jI (fun _ _=>True) g x y H Q):kr g x y H Q:=by
 cases x<;>cases y<;>first
  | exact False.elim h
  | exact⟨_,_,rfl,rfl,h.2⟩
def EX:R2:=fun x y H Q=>match x,y with
 | .int i, .int j=>vc i j/\Q (.int<|i*j) H
 | .ref l, .int k=>Em (.ref l) (.int k) H Q
 | _,_=>False
theorem Q5:bw X (binaryOp .Mult) EX:=by
 refine bw.imp (N9.or P6) fun x y H Q h=> ?_
 cases x<;>cases y<;>first
  | exact False.elim h
  | exact .inl ⟨_,_,rfl,rfl,h⟩
  | exact .inr h
def lZ(K:Frag):Operator->R2
 | .Add=>EW K
 | .Sub=>jI (fun _ _=>True) fun i j=> .int (i - j)
 | .Mult=>EX
 | .FloorDiv=>jI DJ fun i j=> .int (i / j)
 | .Mod=>jI (fun _ j=>0<j) fun i j=> .int (i % j)
 | .Pow=>jI DK fun i j=> .int (i ^ j.toNat)
 | _=>fun _ _ _ _=>False
theorem Q6(op:Operator):bw X (binaryOp op) (lZ X.K op):=by
 cases op<;>first
  | exact Q4
  | exact bw.imp N8 rE
  | exact Q5
  | exact bw.imp N_ zt
  | exact bw.imp Oa zt
  | exact bw.imp Ob zt
  | exact fun _ _ _ _ _ _ _ _ _ _ _ _ h=>False.elim h
mutual
def Is(H:Hp):PyData->V->Prop
 | .none,v=>v= .aA
 | .bool b,v=>v= .bl b
 | .int i,v=>v= .int i
 | .str x,v=>v= .str x
 | .list xs,v=> ∃a vs,v= .ref a/\H a=some (.lst vs)/\IsL H xs vs
 | .tuple xs,v=> ∃a vs,v= .ref a/\H a=some (.tup vs)/\IsL H xs vs
 | .dict _,_=>False
def IsL(H:Hp):List PyData->List V->Prop
 | [],vs=>vs=[]
 | d::ds,vs=> ∃v r,vs=v::r/\Is H d v/\IsL H ds r
end
mutual
theorem Is.reads{pins:List (Addr×Obj)}{σ:St}{H:Hp}{s:Shared}(I:Inv X pins σ H s): ∀(d:PyData) (v:V) (u:Value),Is H d v->RelV v u-> ∃as,Reads s.heap u d as
 | .none,v,u,h,r=>by rw[show v= .aA from h] at r;rw[show u= .none from r];exact⟨_, .none⟩
 | .bool b,v,u,h,r=>by rw[show v= .bl b from h] at r;rw[show u= .bool b from r];exact⟨_, .bool b⟩
 | .int i,v,u,h,r=>by rw[show v= .int i from h] at r;obtain⟨t,e⟩:=r;rw[e];exact⟨_, .int i t⟩
 | .str x,v,u,h,r=>by rw[show v= .str x from h] at r;obtain⟨t,e⟩:=r;rw[e];exact⟨_, .str x t⟩
 | .list xs,v,u,h,r=>by
  obtain⟨a,vs,e,hH,hl⟩:=(show ∃a vs,v= .ref a/\H a=some (.lst vs)/\IsL H xs vs by simpa only[Is] using h)
  rw[e] at r
  rw[show u= .ref a from r]
  obtain⟨_,its,n,hv,hg⟩:=I.aL a _ hH
  obtain⟨as,q⟩:=IsL.reads I xs vs its hl hv
  exact⟨_, .list hg rfl rfl (by simpa using q)⟩
 | .tuple xs,v,u,h,r=>by
  obtain⟨a,vs,e,hH,hl⟩:=(show ∃a vs,v= .ref a/\H a=some (.tup vs)/\IsL H xs vs by simpa only[Is] using h)
  rw[e] at r
  rw[show u= .ref a from r]
  obtain⟨_,its,hv,o,hg,hc,n,hd⟩:=I.aL a _ hH
  obtain⟨as,q⟩:=IsL.reads I xs vs its hl hv
  exact⟨_, .tuple hg hc hd (by simpa using q)⟩
 | .dict _,v,u,h,r=>by simp only[Is] at h
theorem IsL.reads{pins:List (Addr×Obj)}{σ:St}{H:Hp}{s:Shared}(I:Inv X pins σ H s): ∀(ds:List PyData) (vs:List V) (us:List Value),IsL H ds vs->Vals vs us-> ∃as,ReadsAll s.heap us ds as
 | [],vs,us,h,r=>by
  rw[show vs=[] from h] at r
  cases r
  exact⟨_, .nil⟩
 | d::ds,vs,us,h,r=>by
  obtain⟨v,q,e,h1,h2⟩:=(show ∃v r,vs=v::r/\Is H d v/\IsL H ds r by simpa only[IsL] using h)
  rw[e] at r
  cases r with
  | cons r1 r2=>
   obtain⟨as,q1⟩:=Is.reads I d v _ h1 r1
   obtain⟨bs,q2⟩:=IsL.reads I ds q _ h2 r2
   exact⟨_, .cons q1 q2⟩
end
def Q7:V->Bool
 | .lP _=>false
 | .eT _=>false
 | _=>true
def Q8:R2:=fun x y H Q=> ∃a b xs,x= .ref a/\y= .ref b/\H a=some (.lst xs)/\H b=some (.lst xs)/\xs.all Q7=true/\Q (.bl true) H
def nz(neg:Bool):R2:=fun x y H Q=>match m_ x y with
 | true=>Q (.bl<|neg ^^ decide (x=y)) H
 | false=> ∃d e,Is H d x/\Is H e y/\SeqAt.shaped d=true/\SeqAt.shaped e=true/\Q (.bl<|neg ^^ PyData.eqv d e) H
def Q9:R2:=fun x y H Q=>nz false x y H Q\/Q8 x y H Q
theorem Q_(hu:X.A.units+64<cLine):bw X (compareOp .Eq) (nz false):=by
 intro pins s σ H x y v u Q I rx ry h
 unfold nz at h
 by_cases hs:m_ x y=true
 ·rw[hs] at h
  simp only[zbz] at h
  exact Og pins s σ H x y v u Q I rx ry ⟨hs,h⟩
 ·rw[show m_ x y=false by simpa using hs] at h
  obtain⟨d,e,h1,h2,h3,h4,q⟩:=h
  rw[zbz] at q
  obtain⟨as,r1⟩:=Is.reads I d x v h1 rx
  obtain⟨bs,r2⟩:=Is.reads I e y u h2 ry
  exact eq_dataH r1 r2 h3 h4 hu ⟨.bl _,H,I,rfl,q⟩
theorem Ra(hu:X.A.units+64<cLine):bw X (compareOp .NotEq) (nz true):=by
 intro pins s σ H x y v u Q I rx ry h
 unfold nz at h
 by_cases hs:m_ x y=true
 ·rw[hs] at h
  simp only[zbA] at h
  exact Oh pins s σ H x y v u Q I rx ry ⟨hs,h⟩
 ·rw[show m_ x y=false by simpa using hs] at h
  obtain⟨d,e,h1,h2,h3,h4,q⟩:=h
  rw[zbA] at q
  obtain⟨as,r1⟩:=Is.reads I d x v h1 rx
  obtain⟨bs,r2⟩:=Is.reads I e y u h2 ry
  exact ne_dataH r1 r2 h3 h4 hu ⟨.bl _,H,I,rfl,q⟩
theorem Rb(l:Addr)(o:Obj)(es:Array DictEntry)(ep:Nat)(hc:o.cls= .type "dict")(hd:o.data= .dict es ep)(b:Str)(u:Tok):
  Meets (Builtin.«dict.__eq__» ⟨[.ref l, .str b u],[]⟩) (fun _ R s=>s.heap.get? l=some o/\R (.ok<|.ret .notImplemented) s):=
 .of_wp fun prog w A R s h=>by obtain⟨hp,g,d,tk,os⟩:=s;obtain⟨hl,h⟩:=h;obtain⟨cls,dd,data,sl⟩:=o;simp only at hc hd;subst hc hd;have f1:=F.sub_str_dict;wp_walk using AutoSeq1.wpAny_loadPart' hl;exact⟨_,rfl,h⟩
theorem Rc(b:Str)(u:Tok)(l:Addr)(o:Obj)(es:Array DictEntry)(ep:Nat)(hc:o.cls= .type "dict")(hd:o.data= .dict es ep):
  Meets (Builtin.«str.__eq__» ⟨[.str b u, .ref l],[]⟩) (fun _ R s=>s.heap.get? l=some o/\R (.ok<|.ret .notImplemented) s):=
 .of_wp fun prog w A R s h=>by obtain⟨hp,g,d,tk,os⟩:=s;obtain⟨hl,h⟩:=h;obtain⟨cls,dd,data,sl⟩:=o;simp only at hc hd;subst hc hd;wp_walk using AutoSeq1.wpAny_loadPart' hl,wpAny_load hl;exact⟨_,rfl,h⟩
theorem Rf{A:Around}{s:Shared}{l:Addr}{o:Obj}{es:Array DictEntry}{ep:Nat}(b:Str)(u:Tok)(ho:s.heap.get? l=some o)(hc:o.cls= .type "dict")(hd:o.data= .dict es ep)(hu:A.units<cLine):SeqAt.EqAt A s (.str b u) (.ref l) false:=fun prog w E Q h=>by
 have rc:SeqAt.RcAt A s (.str b u) (.ref l) false:=fun prog w E Q h=>
  SeqAt.rc_eq_decline_or (k:=false) (typeIs_str s b u) ⟨_,ho,hc⟩ (by decide) F.sub_dict_str F.slot_str_eq F.slot_dict_eq_refl
   (fun _ hq=>call_meets F.slot_str_eq (typeIs_str s b u) F.entry_str_eq (F.args_str_eq_2 _ _) (Rc b u l o es ep hc hd) ⟨ho,hq⟩)
   (fun _ hq=>call_meets F.slot_dict_eq_refl ⟨_,ho,hc⟩ F.entry_dict_eq (F.args_dict_eq_2 _ _) (Rb l o es ep hc hd b u) ⟨ho,hq⟩)
   (fun _ hq=>wpAny_of_eq (rfl:isSame (.str b u) (.ref l)=pure false) hq) (.inr hu) h
 unfold eqBool
 refine wpAny_holding ?_
 refine wpAny_ite_split (fun zu=>absurd (eq_of_beq zu) nofun)<|fun _=> ?_
 exact wpAny_bind<|rc prog w E _<|wpAny_truthy_bool h
def EY(K:Frag)(H:Hp)(a:Addr):Prop:=(∃xs,aB K H a xs)\/(∃xs,ba K H a xs)\/ ∃aQ,H a=some (.dK aQ)
theorem rF{pins:List (Addr×Obj)}{σ:St}{H:Hp}{s:Shared}{a:Addr}(I:Inv X pins σ H s)(hc:EY X.K H a)(hu:X.A.units+64<cLine): ∀{ts:List Str} {us:List Value},Vals (ts.map V.str) us-> ∀u∈us,SeqAt.EqAt X.A.in1 s u (.ref a) false
 | [],_, .nil=>fun u hu=>by cases hu
 | t::ts,u::us, .cons r rs=>fun u' rG=>by
  rcases zaa.mp rG with rfl | rG
  ·obtain⟨k,rfl⟩:=(show ∃k,_=Value.str t k from r)
   have zv:X.A.in1.units<cLine:=by show X.A.units+1<cLine;lia
   rcases hc with⟨xs,hc⟩ | ⟨xs,hc⟩ | ⟨aQ,hc⟩
   ·obtain⟨its,_,pl,_⟩:=I.list hc
    exact SeqAt.EqAt.str_list t k pl.isList zv
   ·obtain⟨its,_,pl,_⟩:=I.tuple hc
    exact SeqAt.EqAt.str_tuple t k pl zv
   ·obtain⟨_,_,vs,_,o,es,ep,ho,hx,hd,_⟩:=(show cB X.prog X.w H s.heap a (.dK aQ) from I.aL a _ hc)
    exact Rf t k ho hx.1 hd zv
  ·exact rF I hc hu rs u' rG
def vB(K:Frag)(neg:Bool):R2:=fun x y H Q=>match y with
 | .str j=> ∃i,x= .str i/\Q (.bl (if neg then !(!(Builtin.Str.occurrences j i 0 j.length 1).isEmpty) else !(Builtin.Str.occurrences j i 0 j.length 1).isEmpty)) H
 | .ref p=>match x with
  | .ref a=> ∃ts:List Str,(aB K H p (ts.map V.str)\/ba K H p (ts.map V.str))/\EY K H a/\Q (.bl neg) H
  | x=>yU K neg x (.ref p) H Q
 | _=>False
theorem Rg(hu:X.A.units+64<cLine):bw X (compareOp .In) (vB X.K false):=by
 intro pins s σ H x y v u Q I rx ry h
 cases y with
 | str j=>
  obtain⟨i,e,q⟩:=h
  exact Oo pins s σ H x _ v u Q I rx ry ⟨i,j,e,rfl,q⟩
 | ref p=>
  cases x with
  | ref a=>
   obtain⟨ts,hq,hc,q⟩:=h
   cases rx
   cases ry
   rcases hq with hq | hq
   ·obtain⟨its,r,pl,hz⟩:=I.list hq
    refine SeqAt.in_listAt (fun _=>false) pl.isList (fun w hw=>rF I hc hu r w (by simpa using hw)) ⟨.bl _,H,I,rfl, ?_⟩
    rw[show(its.toArray.any fun _=>false)=false by simp];exact q
   ·obtain⟨its,r,pl,hz⟩:=I.tuple hq
    refine SeqAt.in_tupleAt (fun _=>false) pl (fun w hw=>rF I hc hu r w (by simpa using hw)) ⟨.bl _,H,I,rfl, ?_⟩
    rw[show(its.toArray.any fun _=>false)=false by simp];exact q
  | _=>exact Pz pins s σ H _ _ v u Q I rx ry h
 | _=>exact False.elim h
theorem Rh(hu:X.A.units+64<cLine):bw X (compareOp .NotIn) (vB X.K true):=by
 intro pins s σ H x y v u Q I rx ry h
 cases y with
 | str j=>
  obtain⟨i,e,q⟩:=h
  exact Ou pins s σ H x _ v u Q I rx ry ⟨i,j,e,rfl,q⟩
 | ref p=>
  cases x with
  | ref a=>
   obtain⟨ts,hq,hc,q⟩:=h
   cases rx
   cases ry
   rcases hq with hq | hq
   ·obtain⟨its,r,pl,hz⟩:=I.list hq
    refine SeqAt.notIn_listAt (fun _=>false) pl.isList (fun w hw=>rF I hc hu r w (by simpa using hw)) ⟨.bl _,H,I,rfl, ?_⟩
    rw[show(its.toArray.any fun _=>false)=false by simp];exact q
   ·obtain⟨its,r,pl,hz⟩:=I.tuple hq
    refine SeqAt.notIn_tupleAt (fun _=>false) pl (fun w hw=>rF I hc hu r w (by simpa using hw)) ⟨.bl _,H,I,rfl, ?_⟩
    rw[show(its.toArray.any fun _=>false)=false by simp];exact q
  | _=>exact PB pins s σ H _ _ v u Q I rx ry h
 | _=>exact False.elim h
theorem Ri{M:Model}{A:Around}{E:Value->Shared->Prop}{s:Shared}{Q:Value->Shared->Prop}{v:Value}{d:Bool}(hv: ∀id,v≠ .builtin id)(h:Q (.bool<|v== .bool d) s):wpAny M A (compareOp .Is v<|.bool d) Q E s:=by
 cases v<;>first | exact wpAny_pure h | exact absurd rfl (hv _)
theorem Rj{M:Model}{A:Around}{E:Value->Shared->Prop}{s:Shared}{Q:Value->Shared->Prop}{v:Value}{d:Bool}(hv: ∀id,v≠ .builtin id)(h:Q (.bool<|!(v== .bool d)) s):wpAny M A (compareOp .IsNot v<|.bool d) Q E s:=by
 cases v<;>first | exact wpAny_pure h | exact absurd rfl (hv _)
def EZ:R2:=fun x y H Q=>match y with
 | .bl b=>Q (.bl<|decide<|x= .bl b) H
 | _=>y= .aA/\Q (.bl<|decide<|x= .aA) H
def E1:R2:=fun x y H Q=>match y with
 | .bl b=>Q (.bl<|!decide (x= .bl b)) H
 | _=>y= .aA/\Q (.bl<|!decide (x= .aA)) H
theorem Rk:bw X (compareOp .Is) EZ:=by
 intro pins s σ H x y v u Q I rx ry h
 cases y with
 | bl b=>
  cases ry
  have nb: ∀id,v≠ .builtin id:=fun id z=>by
   subst z
   cases x<;>first
    | (obtain⟨t,e⟩:=rx;cases e;done)
    | (cases rx;done)
  refine Ri nb<|bV I (show Q (.bl<|decide<|x= .bl b) H from h) ?_
  cases x<;>first
   | (cases rx;rfl)
   | (obtain⟨t,rfl⟩:=rx;rfl)
   | (cases rx;rename_i a;cases a<;>cases b<;>rfl)
 | _=>exact Oq pins s σ H x _ v u Q I rx ry h
theorem Rl:bw X (compareOp .IsNot) E1:=by
 intro pins s σ H x y v u Q I rx ry h
 cases y with
 | bl b=>
  cases ry
  have nb: ∀id,v≠ .builtin id:=fun id z=>by
   subst z
   cases x<;>first
    | (obtain⟨t,e⟩:=rx;cases e;done)
    | (cases rx;done)
  refine Rj nb<|bV I (show Q (.bl<|!decide (x= .bl b)) H from h) ?_
  cases x<;>first
   | (cases rx;rfl)
   | (obtain⟨t,rfl⟩:=rx;rfl)
   | (cases rx;rename_i a;cases a<;>cases b<;>rfl)
 | _=>exact Ot pins s σ H x _ v u Q I rx ry h
def b9(K:Frag):CmpOp->R2
 | .Eq=>nz false
 | .NotEq=>nz true
 | .Lt=>jI (fun _ _=>True) fun i j=> .bl (decide<|i<j)
 | .LtE=>jI (fun _ _=>True) fun i j=> .bl (decide<|i<=j)
 | .Gt=>jI (fun _ _=>True) fun i j=> .bl (decide<|j<i)
 | .GtE=>jI (fun _ _=>True) fun i j=> .bl (decide<|j<=i)
 | .In=>vB K false
 | .NotIn=>vB K true
 | .Is=>EZ
 | .IsNot=>E1
theorem ph(hu:X.A.units+64<cLine)(op:CmpOp):bw X (compareOp op) (b9 X.K op):=by
 cases op with
 | Eq=>exact Q_ hu
 | NotEq=>exact Ra hu
 | Lt=>exact bw.imp Oi rE
 | LtE=>exact bw.imp Oj rE
 | Gt=>exact bw.imp Ol rE
 | GtE=>exact bw.imp Om rE
 | In=>exact Rg hu
 | NotIn=>exact Rh hu
 | Is=>exact Rk
 | IsNot=>exact Rl
inductive Ty where | int | str | bool | list | tuple | dict
 deriving DecidableEq
def Ty.nm:Ty->String
 | .int=> "int" | .str=> "str" | .bool=> "bool" | .list=> "list" | .tuple=> "tuple" | .dict=> "dict"
def bN(T:Ty)(x:V)(H:Hp)(Q:Bool->Prop):Prop:=match x with
 | .aA=>Q false
 | .bl _=>Q (T== .bool || T== .int)
 | .int _=>Q (T== .int)
 | .str _=>Q (T== .str)
 | .ref a=>match H a with
  | some (.lst _)=>Q (T== .list)
  | some (.bE _<|.lst _)=>Q (T== .list)
  | some (.tup _)=>Q (T== .tuple)
  | some (.dK _)=>Q (T== .dict)
  | some (.dT _)=>Q (T== .dict)
  | _=>False
 | _=>False
theorem l7(K:Frag)(S T:Ty):kitOne K (.type S.nm) (.type T.nm)=some (S==T || (S== .bool && T== .int)):=by
 cases S<;>cases T<;>rfl
theorem Rm(K:Frag)(T:Ty):kitOne K (.type "NoneType") (.type T.nm)=some false:=by
 cases T<;>rfl
theorem Rn(hc:X.calm=true):bQ X (.builtin "sum") (fun xs H Q=> ∃(p:Addr) (ns:List Int),xs=[.ref p]/\aB X.K H p (ns.map V.int)/\Q (.int ns.sum) H):=by
 intro pins s σ H xs us Q I r h
 obtain⟨p,ns,rfl,hq,q⟩:=h
 obtain⟨u,rfl,ru⟩:=vals1 r
 cases ru
 obtain⟨its,rv,pl,hz⟩:=I.list hq
 have hi:=intsAre_of rv
 obtain⟨xs,hx⟩:=hi.allInts.items
 have E2:s.heap.IsList p (intItems xs):=hx ▸ pl.isList
 refine sum_intListG (I.ok.hd hc) E2 fun h' tk t' hk=> ?_
 have e1:ns=xs.toList.map (·.1):=by
  rw[<-nums_intItems,<-hx]
  exact(show numsOf its.toArray.toList=ns from hi.numsOf).symm
 have e2:preSum (numAt xs) xs.size=ns.sum:=by
  rw[preSum_eq,zao (by simp),e1]
 rw[e2]
 exact⟨.int ns.sum,H,I.kept (t':=tk) hk,⟨t',rfl⟩,q⟩
theorem E3: ∀{ts:List Str} {us:List Value},Vals (ts.map V.str) us-> ∃l:List (Str×Tok),us=strValues l/\l.map (·.1)=ts
 | [],_, .nil=> ⟨[],rfl,rfl⟩
 | x::ts,_, .cons ⟨t,e⟩ r=>by
  obtain⟨l,e1,e2⟩:=E3 r
  subst e e1
  exact⟨(x,t)::l,rfl,by simp[e2]⟩
def rJoin(K:Frag):V->List V->Hp->VK->Prop:=fun x vs H Q=> ∃(sep:Str) (p:Addr) (ts:List Str),x= .str sep/\vs=[.ref p]/\aB K H p (ts.map V.str)/\JoinOk sep ts=true/\Q (.str<|Txt.join sep ts) H
theorem Ro:iU X "str.join" (rJoin X.K):=by
 intro pins s σ H x vs v us Q I rx rv h
 obtain⟨sep,p,ts,rfl,rfl,hq,hj,q⟩:=h
 obtain⟨t,rfl⟩:=rx
 obtain⟨u,rfl,ru⟩:=vals1 rv
 cases ru
 obtain⟨its,rv,pl,hz⟩:=I.list hq
 obtain⟨l,rfl,e2⟩:=E3 rv
 exact SC.join pl.isList e2 hj fun t' k=> ⟨.str _,H,I.tok k,⟨t',rfl⟩,q⟩
def Rp:V->List V->Hp->VK->Prop:=fun x vs H Q=> ∃z y,x= .str z/\vs=[.str y]/\z.length<=sizeLine/\Q (.str<|Txt.lstripChars z y) H
theorem Rq:iU X "str.lstrip" Rp:=by
 intro pins s σ H x vs v us Q I rx rv h
 obtain⟨z,y,rfl,rfl,hz,q⟩:=h
 obtain⟨t,rfl⟩:=rx
 obtain⟨u,rfl,⟨t2,rfl⟩⟩:=vals1 rv
 refine call_gives F.slot_str_lstrip (typeIs_str _ _ _) F.entry_str_lstrip (F.args_str_lstrip_2 _ _) (gives_str_lstrip_chars z y t t2)<|post_val_or_made (fun _=>fits_stripped _ _ _ hz) fun t' k=> ?_
 exact⟨.str _,H,I.tok k,⟨t',rfl⟩,q⟩
def Rr:V->List V->Hp->VK->Prop:=fun x vs H Q=> ∃z y i,x= .str z/\vs=[.str y, .int i]/\Q (.bl<|decide (fromIndex z.length i+y.length<=z.length) && Builtin.Str.subAt z y (fromIndex z.length i)) H
theorem Rt:iU X "str.startswith" Rr:=by
 intro pins s σ H x vs v us Q I rx rv h
 obtain⟨z,y,i,rfl,rfl,q⟩:=h
 obtain⟨t,rfl⟩:=rx
 obtain⟨u,w,rfl,⟨t2,rfl⟩,⟨t3,rfl⟩⟩:=vals2 rv
 exact call_gives F.slot_str_startswith (typeIs_str _ _ _) F.entry_str_startswith (F.args_str_startswith_3 _ _ _) (gives_str_startswith_from z y i t t2 t3) ⟨.bl _,H,I,rfl,q⟩
def iZ{α:Type}(xs:List α)(lo hi:Option Int):List α:=(xs.drop<|HT.bp xs.length 0 lo).take (HT.bp xs.length xs.length hi - HT.bp xs.length 0 lo)
def iq(z:Str)(lo hi:Option Int):Str:=⟨(iZ z.cps.toList lo hi).toArray⟩
theorem Ru(z:Str)(lo hi:Option Int):((Builtin.Str.strSliceIndices lo hi 1 z.length).filterMap (z.cps[·]?))=iZ z.cps.toList lo hi:=by
 obtain⟨h1,h2,h3⟩:=yT lo hi z.length
 have e0:Builtin.Str.strSliceIndices lo hi 1 z.length=sliceRange (sliceBounds lo hi none z.length).1 (sliceBounds lo hi none z.length).2.1 (sliceBounds lo hi none z.length).2.2:=rfl
 have hz:z.cps.toList.length=z.length:=by simp[Str.length]
 rw[e0,h1,h2,h3,sliceRange_one,pick_run]
 unfold iZ
 rw[hz]
end
section
variable {X:Cx}
def vC(K:Frag)(neg:Bool):R2:=fun x y H Q=> ∃p xs d es,y= .ref p/\aB K H p xs/\Is H d x/\IsL H es xs/\SeqAt.shaped d=true/\d.depth<=60/\(∀e∈es,SeqAt.shaped e=true)/\Q (.bl<|neg ^^ es.any fun e=>PyData.eqv e d) H
open Classical in
end
def fZ:HO:= .ext fun _=>True
structure vD (ob:Obj) (cls:Value) (vs:Array Value):Prop where
 cls:ob.cls=cls
 data:ob.data= .fields vs
 aep:vs[2]?=some .none
 dict:ob.dict=none
def ExcAt(H:Hp)(ea D:Addr):Prop:= ∃ob vs,H ea=some (.bE ob fZ)/\vD ob (.ref D) vs
structure pj (K:Frag) (D:Addr):Prop where
 rH:PySem.W.findIn K (.ref D) "__getattribute__"=some (some<|.builtin "BaseException.__getattribute__")
 rJ:PySem.W.findIn K (.ref D) "__getattr__"=some none
 hk:(PySem.W.clsIn K D).isSome=true
 ha:PySem.W.findIn K (.ref D) "__class__"=some (some<|.builtin "object.__class__")
 hn:PySem.W.specialIn K (.builtin "object.__class__") "__get__"=some (some<|.builtin "getset_descriptor.__get__")
 lU:PySem.W.takesIn K (.builtin "object.__class__")=some true
 hm:PySem.W.mroIn K D (.type "object")=some true
 hb:PySem.W.mroIn K D (.type "BaseException")=some true
def cV:V->Value
 | .ref a=> .ref a
 | .ty n=> .type n
 | _=> .none
def jJ(K:Frag):List V->Hp->VK->Prop
 | [.ref ea,c],H,Q=> ∃D b,ExcAt H ea D/\pj K D/\((∃C,c= .ref C)\/ ∃n,c= .ty n)/\kitOne K (.ref D) (cV c)=some b/\Q (.bl b) H
 | _,_,_=>False
def E4(sp:Sp)(hv:Option Addr)(t:TA):TE:=fun σ H Q=>t σ H fun vs H1=> (∃ea D,hv=some ea/\ExcAt H1 ea D)/\sp vs H1 Q E0
def zw(C:Addr)(E:XK)(t:TA):TS:=fun _ σ H=>t σ H fun vs H1=>vs.length<=sizeLine/\E (.ref C) none H1
def E5(K:Frag)(C:Addr)(i n:Nat)(th:Addr->TS)(D:Ends):XK:=fun cls _ H'=>exmOne K cls (.ref C)=some true/\
 ∀(ea:Addr) (ob:Obj) (vs:Array Value) (σ':St),H' ea=none->σ'.length=n->vD ob cls vs->th ea {nx:=fun _ _=>False,rt:=D.rt} (σ'.set i<|some<|.ref ea) (upd H' ea<|.bE ob fZ)
def vE(K:Frag)(C:Addr)(i n:Nat)(tb:XK->TS)(th:Addr->TS):TS:=fun D σ H=>tb (E5 K C i n th D) {nx:=D.nx,rt:=D.rt} σ H
def Rv(K:Frag)(C:Addr)(i:Nat)(th:Addr->TS)(D:Ends)(σ:St):XK:=fun cls _ H'=>exmOne K cls (.ref C)=some true/\
 ∀(ea:Addr) (ob:Obj) (vs:Array Value),H' ea=none->vD ob cls vs->th ea {nx:=fun _ _=>False,rt:=D.rt} (σ.set i<|some<|.ref ea) (upd H' ea<|.bE ob fZ)
def Rw(K:Frag)(C:Addr)(i k:Nat)(sp:Sp)(ta:TA)(th:Addr->TS):TS:=fun D σ H=>ta σ H fun vs H1=>sp vs H1 (fun v H2=>D.nx (σ.set k<|some v) H2) (Rv K C i th D σ)
inductive l8 where | len | min | max | sum | int | list | tuple | abs
 deriving DecidableEq
inductive gW where | append | pop | extend | join | lstrip | starts | reverse | clear | index | find | count | vF | vG
 deriving DecidableEq
inductive IK where | list | tup | gO | Rx | zip | rK | txt | Ry | Rz
 deriving DecidableEq
inductive RE where
 | v (i:Nat) | c (x:V) | g (j:Nat)
 | bin (op:Operator) (a b:RE) | neg (a:RE)
 | cmp (op:CmpOp) (a b:RE) | jK (op b_:CmpOp) (a b d:RE) | E6 (op b_ E7:CmpOp) (a b d f:RE)
 | and (as:List RE) | or (as:List RE) | not (a:RE) | gF (t a b:RE)
 | call (j:Nat) (as:List RE) | blt (b:l8) (as:List RE) | eO (T:Ty) (a:RE)
 | bD (m:gW) (o:RE) (as:List RE)
 | ix (a b:RE) | sl (a:RE) (lo hi:Option RE)
 | tup (as:List RE) | lst (as:List RE)
 | comp (tk:Option Nat) (fv:List (Str×Nat)) (k:IK) (its:List RE) (cond:Option RE) (elt:RE)
 | dg (a c:RE) | zx (j:Nat) (a:RE) | RA | same (a b:RE)
 | RB | RC (a b:RE) | E8 (a b:RE) | E9 (a b:RE) | RD (o a b:RE) | inD (a b:RE) | E_ (a b:RE)
 | xt (T:Frag->TA->TE) (as:List RE) | xm (T:Frag->TE->TA->TE) (o:RE) (as:List RE)
 | fld (o:RE) (f:Str) | bF (j:Nat) (m:Str) (o:RE) (as:List RE) | make (j:Nat) (as:List RE)
inductive RS where
 | asg (i:Nat) (e:RE) | pk (i:Nat) (e:RE) | set (o ix e:RE)
 | drop (e:RE) | ret (e:RE) | RF
 | ite (c:RE) (t e:List RS)
 | pq (i:Nat) (k:IK) (its:List RE) (body:List RS)
 | nA (is:List Nat) (k:IK) (its:List RE) (body:List RS)
 | fD (c:RE) (body:List RS)
 | pass | brk | cont | never
 | RG (o lo hi e:RE) | jL (o:RE) (f:Str) (e:RE)
 | nB (is:List Nat) (e:RE) | dput (o i e:RE) | gX (j:Nat) (as:List RE) | zy (n i j:Nat) (body su:List RS) | RH (k i j f:Nat) (as:List RE) (su:List RS)
structure aX where
 K:Frag
 fs:Nat->Sp
 gv:Nat->V
 E:XK
 sd:Addr->List (Key×V)->Prop
 ms:Nat->Addr×Sp
 kt:Nat->Addr×Sp
 ex:Nat->Addr
 hs:Nat->Sp
 hv:Option Addr
abbrev aX.calm(Γ:aX):aX:={Γ with E:=E0}
def gY(K:Frag)(x:V)(H:Hp)(Q:Bool->Prop):Prop:=match x with
 | .aA=>Q false
 | .bl b=>Q b
 | .int i=>Q (i !=0)
 | .str y=>y.length<=sizeLine/\Q ((y.length:Int) !=0)
 | .ref p=> (∃xs,aB K H p xs/\Q (!xs.isEmpty))\/(∃xs,ba K H p xs/\Q (!xs.isEmpty))\/ ∃aQ,H p=some (.dK aQ)/\Q (!aQ.isEmpty)
 | _=>False
theorem Fb{K:Frag}{x:V}{H:Hp}{Q:Bool->Prop}(h:gY K x H Q): ∃k,DO K x H k/\Q k:=by
 cases x with
 | aA=>exact⟨_,rfl,h⟩
 | bl b=>exact⟨_,rfl,h⟩
 | int i=>exact⟨_,rfl,h⟩
 | str y=>exact⟨_,⟨h.1,rfl⟩,h.2⟩
 | ref p=>
  rcases h with⟨xs,h1,h2⟩ | ⟨xs,h1,h2⟩ | ⟨xs,h1,h2⟩
  ·exact⟨_, .inl ⟨xs,h1,rfl⟩,h2⟩
  ·exact⟨_, .inr<|.inl ⟨xs,h1,rfl⟩,h2⟩
  ·exact⟨_, .inr<|.inr ⟨xs,h1,rfl⟩,h2⟩
 | _=>exact False.elim h
def eG(K:Frag)(t:TE):TT:=fun σ H Q=>t σ H fun x H1=>gY K x H1 fun b=>Q b H1
def zz(K:Frag)(t:TE):TE:=fun σ H Q=>t σ H fun x H1=>gY K x H1 fun b=>Q (.bl<|!b) H1
def Fc:V->Hp->VK->Prop:=fun x H Q=>match x with | .int i=>Q (.int<|-i) H | _=>False
def rn(K:Frag)(x:V)(H:Hp)(Q:Nat->Prop):Prop:=match x with
 | .str y=>y.length<=sizeLine/\Q y.length
 | .ref p=> (∃xs,aB K H p xs/\Q xs.length)\/ ∃xs,ba K H p xs/\Q xs.length
 | _=>False
def signs(x:Str):List V:=x.cps.toList.map fun c=>V.str ⟨#[c]⟩
def RI:TE:=fun _ H Q=> ∀p,H p=none->Q (.ref p) (upd H p<|.dK [])
def pv(K:Frag):l8->List V->Hp->VK->Prop
 | .len,[x],H,Q=>rn K x H fun n=>Q (.int n) H
 | .min,[.int i, .int j],H,Q=>Q (.int (if j<i then j else i)) H
 | .max,[.int i, .int j],H,Q=>Q (.int (if j>i then j else i)) H
 | .min,[.ref p],H,Q=> ∃ns:List Int,aB K H p (ns.map V.int)/\ns≠ []/\ ∀m:Int,m∈ns->(∀n∈ns,m<=n)->Q (.int m) H
 | .max,[.ref p],H,Q=> ∃ns:List Int,aB K H p (ns.map V.int)/\ns≠ []/\ ∀m:Int,m∈ns->(∀n∈ns,n<=m)->Q (.int m) H
 | .sum,[.ref p],H,Q=> ∃ns:List Int,aB K H p (ns.map V.int)/\Q (.int ns.sum) H
 | .int,[.int i],H,Q=>Q (.int i) H
 | .int,[.bl k],H,Q=>Q (.int (if k then 1 else 0)) H
 | .list,[.ref p],H,Q=> ∃ys,(aB K H p ys\/ba K H p ys)/\ ∀l,H l=none->Q (.ref l) (upd H l<|.lst ys)
 | .list,[.str x],H,Q=>x.length<=sizeLine/\ ∀l,H l=none->Q (.ref l) (upd H l<|.lst<|signs x)
 | .tuple,[.str x],H,Q=>x.length<=sizeLine/\ ∀l,H l=none->Q (.ref l) (upd H l<|.tup<|signs x)
 | .abs,[.int i],H,Q=>Q (.int (if i<0 then -i else i)) H
 | .tuple,[.ref p],H,Q=> ∃ys,(aB K H p ys/\ ∀l,H l=none->Q (.ref l) (upd H l<|.tup ys))\/(ba K H p ys/\Q (.ref p) H)
 | _,_,_,_=>False
def l9(T:Ty):List V->Hp->VK->Prop
 | [x, .ty n],H,Q=>n=T.nm/\bN T x H fun b=>Q (.bl b) H
 | _,_,_=>False
def pA(K:Frag):gW->V->List V->Hp->VK->Prop
 | .append, .ref l,[y],H,Q=> ∃xs,H l=some (.lst xs)/\xs.length<sizeLine/\Q .aA (upd H l<|.lst<|xs++ [y])
 | .pop, .ref l,[],H,Q=> ∃xs y,H l=some (.lst xs)/\xs[xs.length - 1]?=some y/\Q y (upd H l<|.lst xs.dropLast)
 | .extend, .ref l,[.ref b],H,Q=> ∃xs zs,H l=some (.lst xs)/\H b=some (.lst zs)/\xs.length+zs.length<=sizeLine/\Q .aA (upd H l<|.lst<|xs++zs)
 | .join, .str sep,[.ref p],H,Q=> ∃ts:List Str,aB K H p (ts.map V.str)/\JoinOk sep ts=true/\Q (.str<|Txt.join sep ts) H
 | .lstrip, .str z,[.str y],H,Q=>z.length<=sizeLine/\Q (.str<|Txt.lstripChars z y) H
 | .starts, .str z,[.str y, .int i],H,Q=>Q (.bl<|decide (fromIndex z.length i+y.length<=z.length) && Builtin.Str.subAt z y (fromIndex z.length i)) H
 | .find, .str z,[.str y],H,Q=>Q (.int (match Builtin.Str.occurrences z y 0 z.length 1 with | i::_=> (i:Int) | []=> -1)) H
 | .find, .str z,[.str y, .int i],H,Q=>Q (.int (match Builtin.Str.occurrences z y (fromIndex z.length i) z.length 1 with | k::_=> (k:Int) | []=> -1)) H
 | .count, .str z,[.str y],H,Q=>Q (.int (Builtin.Str.occurrences z y 0 z.length<|z.length+1).length) H
 | .reverse, .ref l,[],H,Q=> ∃xs,H l=some (.lst xs)/\Q .aA (upd H l<|.lst xs.reverse)
 | .index, .ref l,[.str y],H,Q=> ∃ts:List Str,aB K H l (ts.map V.str)/\y∈ts/\Q (.int (ts.idxOf y:Nat)) H
 | .clear, .ref l,[],H,Q=> ∃xs,H l=some (.lst xs)/\Q .aA (upd H l<|.lst [])
 | .vF, .ref l,[y],H,Q=> ∃xs,aB K H l xs/\ei y=true/\xs.all ei=true/\Q (.int (xs.countP (fun z=>eF z y):Nat)) H
 | .vG, .ref l,[y],H,Q=> ∃xs,aB K H l xs/\ei y=true/\xs.all ei=true/\iV y xs=true/\Q (.int (xs.findIdx (fun z=>eF z y):Nat)) H
 | _,_,_,_,_=>False
def vH:gW->String
 | .join | .lstrip | .starts | .find | .count=> "str"
 | _=> "list"
def pB(K:Frag)(m:gW)(to:TE)(t:TA):TE:=fun σ H Q=>to σ H fun x H1=>nk K (vH m) x H1/\t σ H1 fun xs H2=>pA K m x xs H2 Q
def rM(K:Frag):V->Option Int->Option Int->Hp->VK->Prop:=fun x lo hi H Q=>match x with
 | .str z=>z.length<=sizeLine/\Q (.str<|iq z lo hi) H
 | .ref a=> (∃xs,aB K H a xs/\ ∀p,H p=none->Q (.ref p) (upd H p<|.lst<|dJ xs lo hi))\/
  (∃xs,ba K H a xs/\ ¬(HT.bp xs.length 0 lo=0/\HT.bp xs.length xs.length hi=xs.length)/\ ∀p,H p=none->Q (.ref p) (upd H p<|.tup<|dJ xs lo hi))
 | _=>False
def nC(aQ:List (Key×V))(k:Key):Option V:=(aQ.find? fun kv=>decide (kv.1=k)).map (·.2)
def Fd(sd:Addr->List (Key×V)->Prop):R2:=fun x y H Q=> ∃p aQ k v,x= .ref p/\y=kV k/\sd p aQ/\nC aQ k=some v/\Q v H
def l_(K:Frag)(sd:Addr->List (Key×V)->Prop):R2:=fun x y H Q=>Ef K x y H Q\/Eg K x y H Q\/Eh x y H Q\/Fd sd x y H Q
def RJ(r r' r2:R2)(ta tb tc td:TE):TT:=fun σ H Q=>ta σ H fun x H1=>tb σ H1 fun y H2=>r x y H2 fun z H3=> ∃k,z= .bl k/\
 (if k=true then tc σ H3 fun w H4=>r' y w H4 fun z2 H5=> ∃k2,z2= .bl k2/\(if k2=true then td σ H5 fun u H6=>r2 w u H6 fun z3 H7=> ∃k3,z3= .bl k3/\Q k3 H7 else Q false H5) else Q false H3)
def rN(K:Frag)(a b:Addr):It:=
  ⟨fun i H=> ∃xs ys,aB K H a xs/\aB K H b ys/\i<xs.length/\i<ys.length,
   fun i H x H'=> ∃T,H T=none/\x= .ref T/\ ∀xs ys u v,aB K H a xs->aB K H b ys->xs[i]?=some u->ys[i]?=some v->H'=upd H T (.tup [u,v]),
   fun i H=> ∃xs ys,aB K H a xs/\aB K H b ys/\i=min xs.length ys.length⟩
def ma(K:Frag)(a:Addr):It:=
  ⟨fun i H=> ∃xs,aB K H a xs/\i<xs.length,
   fun i H x H'=> ∃T,H T=none/\x= .ref T/\ ∀xs u,aB K H a xs->xs[i]?=some u->H'=upd H T (.tup [.int (i:Nat),u]),
   fun i H=> ∃xs,aB K H a xs/\i=xs.length⟩
def zA(K:Frag)(ta:TA):TI:=fun σ H R=>ta σ H fun vs H1=> ∃a,vs=[.ref a]/\(∃xs,aB K H1 a xs)/\R (ma K a) H1
def zB(K:Frag)(ta:TA):TI:=fun σ H R=>ta σ H fun vs H1=> ∃a b,vs=[.ref a, .ref b]/\(∃xs,aB K H1 a xs)/\(∃ys,aB K H1 b ys)/\R (rN K a b) H1
def RK(K:Frag)(a b:Addr):It:=
  ⟨fun i H=> ∃xs ys,ba K H a xs/\ba K H b ys/\i<xs.length/\i<ys.length,
   fun i H x H'=> ∃T,H T=none/\x= .ref T/\ ∀xs ys u v,ba K H a xs->ba K H b ys->xs[i]?=some u->ys[i]?=some v->H'=upd H T (.tup [u,v]),
   fun i H=> ∃xs ys,ba K H a xs/\ba K H b ys/\i=min xs.length ys.length⟩
def RL(K:Frag)(ta:TA):TI:=fun σ H R=>ta σ H fun vs H1=> ∃a b,vs=[.ref a, .ref b]/\(∃xs,ba K H1 a xs)/\(∃ys,ba K H1 b ys)/\R (RK K a b) H1
def rO(z:Str):It:=⟨fun i _=>i<z.length,fun i H x H'=>H'=H/\ ∃c,z.cps[i]?=some c/\x= .str ⟨#[c]⟩,fun i _=>i=z.length⟩
def Fe(ta:TE):TI:=fun σ H R=>ta σ H fun x H1=> ∃z,x= .str z/\R (rO z) H1
def RM(lo c:Int)(n:Nat):It:=⟨fun i _=>i<n,fun i H x H'=>H'=H/\x= .int (lo+i*c),fun i _=>n<=i⟩
def RN(ta:TA):TI:=fun σ H R=>ta σ H fun vs H1=> ∃(i j c:Int) (n:Nat),vs=[.int i, .int j, .int c]/\c≠0/\Builtin.Range.small i j c=true/\Builtin.divisionGoesByPylong (j - i) c=false/\Builtin.Range.rangeSize i j c=n/\R (RM i c n) H1
mutual
def aj(Γ:aX):RE->TE
 | .v i=>yv i
 | .c x=>tC x
 | .g j=>tC (Γ.gv j)
 | .bin op a b=>eB (lZ Γ.K op) (aj Γ a) (aj Γ b)
 | .neg a=>DH Fc (aj Γ a)
 | .cmp op a b=>eB (b9 Γ.K op) (aj Γ a) (aj Γ b)
 | .jK op b_ a b d=>pd (b9 Γ.K op) (b9 Γ.K b_) (aj Γ a) (aj Γ b) (aj Γ d)
 | .E6 _ _ _ _ _ _ _=>fun _ _ _=>False
 | .and as=>Ff Γ as
 | .or as=>Fg Γ as
 | .not a=>zz Γ.K (aj Γ a)
 | .gF t a b=>Dp (bf Γ t) (aj Γ a) (aj Γ b)
 | .call j as=>yK (Γ.fs j) [] Γ.E (aZ Γ as)
 | .blt b as=>dY (pv Γ.K b) (aZ Γ as)
 | .eO T a=>dY (l9 T) (cK (aj Γ a)<|cK (tC<|.ty T.nm) fA)
 | .bD m o as=>pB Γ.K m (aj Γ o) (aZ Γ as)
 | .ix a b=>eB (l_ Γ.K Γ.sd) (aj Γ a) (aj Γ b)
 | .sl a lo hi=>yP (rM Γ.K) (aj Γ a) (me Γ lo) (me Γ hi)
 | .tup as=>DW (aZ Γ as)
 | .lst as=>DX (aZ Γ as)
 | .comp tk fv k its cond elt=>nr Γ.K (fE Γ k its) tk fv (zC Γ.calm cond) (aj Γ.calm elt)
 | .dg a c=>dY (jJ Γ.K) (cK (aj Γ a)<|cK (aj Γ c) fA)
 | .RA=>RI
 | .same a b=>eB Q9 (aj Γ a) (aj Γ b)
 | .inD a b=>eB (vC Γ.K false) (aj Γ a) (aj Γ b)
 | .E_ a b=>eB (vC Γ.K true) (aj Γ a) (aj Γ b)
 | .RB=>Qo
 | .RC a b=>Qm (aj Γ a) (aj Γ b)
 | .E8 a b=>Et (aj Γ a) (aj Γ b)
 | .E9 a b=>Eu (aj Γ a) (aj Γ b)
 | .RD o a b=>Qq (aj Γ o) (aj Γ a) (aj Γ b)
 | .xt T as=>T Γ.K (aZ Γ as)
 | .xm T o as=>T Γ.K (aj Γ o) (aZ Γ as)
 | .zx j a=>E4 (Γ.hs j) Γ.hv (cK (aj Γ a) fA)
 | .fld o f=>vf Γ.K (aj Γ o) f
 | .bF j m o as=>nh (Γ.ms j).1 m (Γ.ms j).2 [] Γ.E (aj Γ o) (aZ Γ as)
 | .make j as=>qW (Γ.kt j).1 (Γ.kt j).2 [] Γ.E (aZ Γ as)
def bf(Γ:aX):RE->TT
 | .not a=>Dj (bf Γ a)
 | .inD a b=>lR (eB (vC Γ.K false) (aj Γ a)<|aj Γ b)
 | .E_ a b=>lR (eB (vC Γ.K true) (aj Γ a)<|aj Γ b)
 | .E8 a b=>tB (Et (aj Γ a)<|aj Γ b)
 | .E9 a b=>tB (Eu (aj Γ a)<|aj Γ b)
 | .and as=>Fh Γ as
 | .or as=>Fi Γ as
 | .cmp op a b=>lR (eB (b9 Γ.K op) (aj Γ a)<|aj Γ b)
 | .jK op b_ a b d=>lR (pd (b9 Γ.K op) (b9 Γ.K b_) (aj Γ a) (aj Γ b)<|aj Γ d)
 | .E6 op b_ E7 a b d f=>RJ (b9 Γ.K op) (b9 Γ.K b_) (b9 Γ.K E7) (aj Γ a) (aj Γ b) (aj Γ d) (aj Γ f)
 | .v i=>eG Γ.K (yv i)
 | .call j as=>eG Γ.K (yK (Γ.fs j) [] Γ.E<|aZ Γ as)
 | .eO T a=>eG Γ.K (dY (l9 T)<|cK (aj Γ a)<|cK (tC<|.ty T.nm) fA)
 | .dg a c=>eG Γ.K (dY (jJ Γ.K)<|cK (aj Γ a)<|cK (aj Γ c) fA)
 | .bD m o as=>eG Γ.K (pB Γ.K m (aj Γ o)<|aZ Γ as)
 | .ix a b=>eG Γ.K (eB (l_ Γ.K Γ.sd) (aj Γ a)<|aj Γ b)
 | .bin op a b=>eG Γ.K (eB (lZ Γ.K op) (aj Γ a)<|aj Γ b)
 | .fld o f=>eG Γ.K (vf Γ.K (aj Γ o) f)
 | .xt T as=>eG Γ.K (T Γ.K<|aZ Γ as)
 | .xm T o as=>eG Γ.K (T Γ.K (aj Γ o)<|aZ Γ as)
 | .bF j m o as=>eG Γ.K (nh (Γ.ms j).1 m (Γ.ms j).2 [] Γ.E (aj Γ o)<|aZ Γ as)
 | _=>fun _ _ _=>False
def aZ(Γ:aX):List RE->TA
 | []=>fA
 | a::r=>cK (aj Γ a) (aZ Γ r)
def Ff(Γ:aX):List RE->TE
 | []=>fun _ _ _=>False
 | [a]=>aj Γ a
 | a::r=>Dk (aj Γ a) (Ff Γ r)
def Fg(Γ:aX):List RE->TE
 | []=>fun _ _ _=>False
 | [a]=>aj Γ a
 | a::r=>Dl (aj Γ a) (Fg Γ r)
def Fh(Γ:aX):List RE->TT
 | []=>fun _ _ _=>False
 | [a]=>bf Γ a
 | a::r=>Dh (bf Γ a) (Fh Γ r)
def Fi(Γ:aX):List RE->TT
 | []=>fun _ _ _=>False
 | [a]=>bf Γ a
 | a::r=>Di (bf Γ a) (Fi Γ r)
def me(Γ:aX):Option RE->TO
 | none=>Ea
 | some a=>vi (aj Γ a)
def zC(Γ:aX):Option RE->Option TT
 | none=>none
 | some a=>some (bf Γ a)
def fE(Γ:aX)(k:IK):List RE->TI
 | []=>fun _ _ _=>False
 | a::r=>match k with
  | .list=>yA Γ.K (aj Γ a)
  | .tup=>yB Γ.K (aj Γ a)
  | .gO=>DE (cK (aj Γ a)<|aZ Γ r)
  | .Rx=>N1 (cK (aj Γ a)<|aZ Γ r)
  | .zip=>zB Γ.K (cK (aj Γ a)<|aZ Γ r)
  | .rK=>zA Γ.K (cK (aj Γ a)<|aZ Γ r)
  | .txt=>Fe (aj Γ a)
  | .Ry=>RL Γ.K (cK (aj Γ a)<|aZ Γ r)
  | .Rz=>RN (cK (aj Γ a)<|aZ Γ r)
end
structure cg where
 N:List Str
 sc:Scope
 fn:List Str
 gn:List Str
 bl:List Str
 mn:List Str
 kn:List Str
 en:List Str
 hn:List Str
 md:Nat
def zD(sc:Scope)(x:Str):Bool:=match sc.names.lookup x with
 | some .local=>true | some .cell=>true | some .free=>true | _=>false
def loc(sc:Scope)(x:Str):Bool:=match sc.names.lookup x with
 | some .local=>true | some .cell=>true | _=>false
def kO(sc:Scope)(x:Str):Bool:=match sc.names.lookup x with
 | some .globalImplicit=>true | _=>false
theorem RO{sc:Scope}{x:Str}(h:zD sc x=true):uK sc x:=by
 unfold zD at h
 unfold uK
 cases e:sc.names.lookup x with
 | none=>rw[e] at h;cases h
 | some k=>rw[e] at h;cases k<;>first | exact .inl rfl | exact .inr (.inl rfl) | exact .inr (.inr rfl) | cases h
theorem zE{sc:Scope}{x:Str}(h:loc sc x=true):Loc sc x:=by
 unfold loc at h
 unfold Loc
 cases e:sc.names.lookup x with
 | none=>rw[e] at h;cases h
 | some k=>rw[e] at h;cases k<;>first | exact .inl rfl | exact .inr rfl | cases h
theorem RP{sc:Scope}{x:Str}(h:kO sc x=true):sc.names.lookup x=some .globalImplicit:=by
 unfold kO at h
 cases e:sc.names.lookup x with
 | none=>rw[e] at h;cases h
 | some k=>rw[e] at h;cases k<;>first | rfl | cases h
structure rP where
 elt:Expr
 tg:Expr
 iter:Expr
 ifs:List Expr
 sc:Scope
def l8.nm:l8->Str
 | .len=> "len" | .min=> "min" | .max=> "max" | .sum=> "sum" | .int=> "int" | .list=> "list" | .tuple=> "tuple" | .abs=> "abs"
def gW.nm:gW->Str
 | .append=> "append" | .pop=> "pop" | .extend=> "extend" | .join=> "join" | .lstrip=> "lstrip" | .starts=> "startswith" | .reverse=> "reverse" | .clear=> "clear" | .index=> "index" | .find=> "find" | .count=> "count" | .vF=> "count" | .vG=> "index"
def mf:Expr->Bool
 | .Call (.Name _ _) [] [] _=>false
 | _=>true
def noStar:Expr->Bool
 | .Starred ..=>false
 | _=>true
def rQ:Expr->Bool
 | .Set ..=>false
 | _=>true
def zF(Fj sc:Scope):Scope:=
 {Fj with names:=Fj.names.map fun(n,k)=>if (k== .free && sc.kind== .function && sc.names.lookup n==some .cell) then (n, .cell) else (n,k)}
def zG(tk:Option Nat)(tg:Expr):Option (List Str):=match tk,tg with
 | none, .Name x _=>some [x]
 | some 2, .Tuple [.Name x _, .Name y _] _ _=>some [x,y]
 | _,_=>none
def Fl(S:cg)(c:rP)(ln:List Str)(fv:List (Str×Nat)):cg:={S with N:=ln++fv.map (·.1),sc:=zF c.sc S.sc,en:=[],md:=if S.md=0 then 0 else 2}
def zH(S:cg)(c:rP)(ln:List Str)(fv:List (Str×Nat)):Bool:=
 decide (c.sc.kind= .function) && c.sc.names.all (fun y=>decide<|y.2≠ .cell) && c.sc.names.all (fun y=>decide (y.2≠ .local) || decide (c.sc.names.lookup y.1=some .local))
 && c.sc.names.all (fun y=>decide (y.2≠ .free) || decide (S.sc.names.lookup y.1=some .cell) || decide (S.sc.names.lookup y.1=some .free))
 && fv.all (fun p=>decide (S.N[p.2]?=some p.1) && decide (c.sc.names.lookup p.1=some .free))
 && ln.all (fun x=>decide<|c.sc.names.lookup x=some .local) && decide ((ln++fv.map (·.1)).Nodup) && rQ c.iter
theorem RQ{P:Program}{w:World}{K:Frag}{elts:List Expr}{k:Nat}{pos:Pos}{z TI TO i1 i2 l1 l2:Addr}(D:ZipApart z TI TO i1 i2 l1 l2)(dl:l1≠TI/\l2≠TI):
  Turn P w K (.Tuple elts k pos) (rN K l1 l2) [z,TI,TO,i1,i2] z
   (fun i h=>IsZip h z TI TO .none/\IsPair h TI (.ref i1) (.ref i2)/\(∃a b,IsPair h TO a b)/\h.IsListIter i1 l1 i/\h.IsListIter i2 l2 i) where
 mem:=by simp
 obj:=fun i h st b hb=>by
  obtain⟨hz,kP,⟨a,b',kQ⟩,⟨o1,e1,c1,d1⟩,⟨o2,e2,c2,d2⟩⟩:=st
  simp only[zaa,zac,or_false] at hb
  rcases hb with rfl | rfl | rfl | rfl | rfl
  ·exact⟨_,hz,fun v q=>by cases q⟩
  ·exact⟨_,kP,fun v q=>by cases q⟩
  ·exact⟨_,kQ,fun v q=>by cases q⟩
  ·exact⟨_,e1,fun v q=>by rw[d1] at q;cases q⟩
  ·exact⟨_,e2,fun v q=>by rw[d2] at q;cases q⟩
 keep:=fun i h h' st hk=>by
  obtain⟨hz,kP,⟨a,b',kQ⟩,h1,h2⟩:=st
  exact⟨hk z (by simp) _ hz,hk TI (by simp) _ kP,⟨a,b',hk TO (by simp) _ kQ⟩,h1.at fun o e=>hk i1 (by simp) o e,h2.at fun o e=>hk i2 (by simp) o e⟩
 item:=by
  intro X hP hw hK hc i pins s σ H E I hf st hg
  subst hP hw hK
  obtain⟨xs,ys,hx,hy,RT,Fm⟩:=hg
  obtain⟨f_,r1,p1,z1⟩:=I.list hx
  obtain⟨fB,r2,p2,z2⟩:=I.list hy
  have pE:=r1.length
  have vm:=r2.length
  have W:=WalksT.zip2 (prog:=X.prog) (w:=X.w) (A:=X.A) (I.ok.hd hc) z TI TO i1 i2 l1 l2 D f_.toArray fB.toArray
  obtain⟨hz,kP,kQ,h1,h2⟩:=id st
  have hn:i<min f_.toArray.size fB.toArray.size:=by simp only[zad];lia
  refine W.item i s _ _ hn ⟨hz,kP,kQ,h1,h2,p1.isList,p2.isList⟩ fun T vals h' tk hv hT zI mid hk=> ?_
  refine⟨.ref T,rfl, ?_⟩
  refine W.go elts k pos i T _ _ _ mid fun kR zJ rR=> ?_
  obtain⟨u,v,eu,ev,rfl⟩:=hv
  have fz: ∀b∈ [z,TO,i1,i2],b∈ [z,TI,TO,i1,i2]:=fun b hb=>by
   simp only[zaa,zac,or_false] at hb⊢
   rcases hb with rfl | rfl | rfl | rfl<;>simp
  have kk: ∀b o,b∉ [z,TO,i1,i2]->s.heap.get? b=some o->kR.get? b=some o:=fun b o hb e=>rR b o hb (hk b o hb e)
  have I1:Inv X pins σ H {s with heap:=kR,toks:=tk}:=by
   refine I.step (g':=s.gens) (d':=s.drawn) (ch:=[z,TO,i1,i2]) (fun b hb=> ?_) (fun b o _ _ hc e _=>kk b o hc e) (fun b o _ _ hc e _=> ⟨o.slots,kk b o hc e⟩) (fun _ _ _ _ n=>n)
    (fun b o hc e=> ⟨o,kk b o hc e⟩) (fun _ _ e=>e) (fun _ _ _ e=>e) (fun b ps e=> ⟨#[],by rw[e];simp⟩) (fun m hm=> ?_) (fun b o e=> ?_) I.bare
   ·obtain⟨f0,f1,f2,f3,f4,f5⟩:=hf b (fz b hb)
    exact⟨f3,f1,f4,f5⟩
   ·obtain⟨o,es,ep,ho,r⟩:=hm
    exact⟨o,es,ep,kk _ o (fun hb=> (hf _<|fz _ hb).2.1 rfl) ho,r⟩
   ·have nb: ∀c o',H c=some o'->c∉ [z,TO,i1,i2]:=fun c o' e hb=>by
     rw[(hf c<|fz c hb).1] at e;cases e
    refine(I.aL b o e).ia (fun c q bU e'=>kk c q ?_ e') (fun _ q=>q) fun _ _ q=>q
    rcases bU with rfl | bU
    ·exact nb _ _ e
    ·exact nb _ _ bU
  have gZ:s.heap.objs.size<=T:=hT
  have fT:H T=none:=I.aL.fresh gZ
  have aT:T∉ [z,TO,i1,i2]:=W.apart i T h' mid
  have tT:kR.IsTuple T #[u,v]:=by
   obtain⟨o,ho,q⟩:=zI
   exact⟨o,rR T o aT ho,q⟩
  obtain⟨a,zK,ra⟩: ∃a,xs[i]?=some a/\RelV a u:=by
   have e:f_[i]?=some u:=by simpa using eu
   have:i<xs.length:=by lia
   obtain⟨u',e',r'⟩:=r1.get (i:=i) (x:=xs[i]) (by simp[this])
   rw[e] at e';cases e'
   exact⟨xs[i],by simp[this],r'⟩
  obtain⟨b,RU,rb⟩: ∃b,ys[i]?=some b/\RelV b v:=by
   have e:fB[i]?=some v:=by simpa using ev
   have:i<ys.length:=by lia
   obtain⟨u',e',r'⟩:=r2.get (i:=i) (x:=ys[i]) (by simp[this])
   rw[e] at e';cases e'
   exact⟨ys[i],by simp[this],r'⟩
  have RV:=I.sz
  have I2:Inv X pins σ (upd H T<|.tup [a,b]) {s with heap:=kR,toks:=tk}:=by
   refine Inv.ze I1 fT (zaq I.sz gZ) (zbc<|zam I.lt gZ) (fun x c e q=> ?_) (fun p hp q=> ?_) ⟨by show 2<=sizeLine;decide,[u,v], .cons ra<|.cons rb .nil,tT⟩
   ·obtain⟨v',q'⟩:=I.cell x c e
    have:=q'.lt
    rw[q] at this
    exact absurd (zam this gZ)<|zaw _
   ·have:=Heap.lt_size (I.pin p hp).1
    rw[q] at this
    exact absurd (zam this gZ)<|zaw _
  refine⟨.ref T,_,I2,rfl,⟨T,fT,rfl,fun RW rS a' b' fX nq ea eb=> ?_⟩, ?_,fun c bU=> ?_⟩
  ·rw[I.uT fX hx,zK] at ea
   rw[I.uT nq hy,RU] at eb
   cases ea;cases eb;rfl
  ·obtain⟨q1,q2,q3,q4,q5,_⟩:=zJ
   exact⟨q1,q2,q3,q4,q5⟩
  ·have n0:=(hf c bU).1
   have:c≠T:=fun q=>by
    obtain⟨o,e,_⟩: ∃o,s.heap.get? c=some o/\True:=by
     obtain⟨hz,kP,⟨a',b',kQ⟩,⟨o1,e1,_⟩,⟨o2,e2,_⟩⟩:=st
     simp only[zaa,zac,or_false] at bU
     rcases bU with rfl | rfl | rfl | rfl | rfl
     ·exact⟨_,hz,trivial⟩
     ·exact⟨_,kP,trivial⟩
     ·exact⟨_,kQ,trivial⟩
     ·exact⟨_,e1,trivial⟩
     ·exact⟨_,e2,trivial⟩
    have:=Heap.lt_size e
    rw[q] at this
    exact absurd (zam this gZ)<|zaw _
   rw[aR this];exact n0
 done:=by
  intro X hP hw hK hc i pins s σ H E I hf st hg
  subst hP hw hK
  obtain⟨xs,ys,hx,hy,hi⟩:=hg
  obtain⟨f_,r1,p1,z1⟩:=I.list hx
  obtain⟨fB,r2,p2,z2⟩:=I.list hy
  have pE:=r1.length
  have vm:=r2.length
  have W:=WalksT.zip2 (prog:=X.prog) (w:=X.w) (A:=X.A) (I.ok.hd hc) z TI TO i1 i2 l1 l2 D f_.toArray fB.toArray
  obtain⟨hz,kP,kQ,h1,h2⟩:=id st
  have hn:i=min f_.toArray.size fB.toArray.size:=by simp only[zad];lia
  subst hn
  refine W.done s _ _ ⟨hz,kP,kQ,h1,h2,p1.isList,p2.isList⟩ fun h' tk hk=> ⟨rfl, ?_⟩
  have fz: ∀b∈ [z,TO,i1,i2],b∈ [z,TI,TO,i1,i2]:=fun b hb=>by
   simp only[zaa,zac,or_false] at hb⊢
   rcases hb with rfl | rfl | rfl | rfl<;>simp
  refine I.step (g':=s.gens) (d':=s.drawn) (ch:=[z,TO,i1,i2]) (fun b hb=> ?_) (fun b o _ _ hc e _=>hk b o hc e) (fun b o _ _ hc e _=> ⟨o.slots,hk b o hc e⟩) (fun _ _ _ _ n=>n)
   (fun b o hc e=> ⟨o,hk b o hc e⟩) (fun _ _ e=>e) (fun _ _ _ e=>e) (fun b ps e=> ⟨#[],by rw[e];simp⟩) (fun m hm=> ?_) (fun b o e=> ?_) I.bare
  ·obtain⟨f0,f1,f2,f3,f4,f5⟩:=hf b (fz b hb)
   exact⟨f3,f1,f4,f5⟩
  ·obtain⟨o,es,ep,ho,r⟩:=hm
   exact⟨o,es,ep,hk _ o (fun hb=> (hf _<|fz _ hb).2.1 rfl) ho,r⟩
  ·have nb: ∀c o',H c=some o'->c∉ [z,TO,i1,i2]:=fun c o' e hb=>by
    rw[(hf c<|fz c hb).1] at e;cases e
   refine(I.aL b o e).ia (fun c q bU e'=>hk c q ?_ e') (fun _ q=>q) fun _ _ q=>q
   rcases bU with rfl | bU
   ·exact nb _ _ e
   ·exact nb _ _ bU
 self:=fun A i s Q E st hQ=>wpAny_pyIter_zip st.1 hQ
theorem boot_zip:bootBuiltins "zip"=some (.type "zip"):=by decide+kernel
theorem RX{X:Cx}{elts:List Expr}{k:Nat}{qU:Pos}{a b:Expr}{ta:TA}{p pos:Pos}(hg:Gl X "zip")(hm:X.mg "zip"=none)(ha:PA X [a,b] ta)
  (hs:starEach [a,b] X.env=(false,eval a X.env)::starEach [b] X.env) (iR:(backTo pos<|starEach [b] X.env).any (·.1)=false):
  PI X (.Tuple elts k qU) (.Call (.Name "zip" p) [a,b] [] pos) (zB X.K ta):=by
 intro pins s σ H R I h
 refine Call_<|o8 I hg hm boot_zip<|PyProof.Rows.callWith_type1 (aV (ha pos pins s σ H _ I h) fun us s1 ⟨vs,H1,I1,r1,q1⟩=> ?_) hs iR
 obtain⟨l1,l2,e,⟨xs,hx⟩,⟨ys,hy⟩,q⟩:=q1
 subst e
 obtain⟨u,v,rfl,ru,rv⟩:=vals2 r1
 cases ru
 cases rv
 obtain⟨f_,RY,p1,z1⟩:=I1.list hx
 obtain⟨fB,rr2,p2,z2⟩:=I1.list hy
 refine call_zip_2 p1.isList p2.isList fun h' a1 a2 a3 a4 a5 a6 hk=> ?_
 refine wpAny_pyIter_zip a1 ?_
 have RZ: @LT.lt Nat _ l1 s1.heap.objs.size:=by obtain⟨_,e,_⟩:=p1.isList;exact Heap.lt_size e
 have lt2: @LT.lt Nat _ l2 s1.heap.objs.size:=by obtain⟨_,e,_⟩:=p2.isList;exact Heap.lt_size e
 have D:ZipApart (s1.heap.objs.size+4) (s1.heap.objs.size+2) (s1.heap.objs.size+3) s1.heap.objs.size (s1.heap.objs.size+1) l1 l2:=by
  constructor<;> (show @Ne Nat _ _;lia)
 have I2:Inv X pins σ H1 {s1 with heap:=h'}:=I1.kept (t':=s1.toks) hk
 refine⟨_,_,_,_,H1,rfl,I2,RQ D ⟨by show @Ne Nat _ _;lia,by show @Ne Nat _ _;lia⟩,⟨a1,a2,⟨_,_,a3⟩,a4,a5⟩,fun b' hb=> ?_,q⟩
 have hle:s1.heap.objs.size<=b':=by
  simp only[zaa,zac,or_false] at hb
  rcases hb with rfl | rfl | rfl | rfl | rfl
  ·exact zbh _ _
  ·exact zbh _ _
  ·exact zbh _ _
  ·exact zqR _
  ·exact zbh _ _
 have:=I1.o_ (b:=b') (H':=H1) hle (I1.aL.fresh hle)
 exact this
theorem R0{P:Program}{w:World}{K:Frag}{elts:List Expr}{k:Nat}{pos:Pos}{z it l:Addr}(d1:z≠it)(d2:l≠z)(d3:l≠it):
  Turn P w K (.Tuple elts k pos) (ma K l) [z,it] z
   (fun i h=> (∃old,IsEnum h z it i old)/\h.IsListIter it l i) where
 mem:=by simp
 obj:=fun i h st b hb=>by
  obtain⟨⟨old,hz⟩,⟨o2,e2,c2,d2⟩⟩:=st
  simp only[zaa,zac,or_false] at hb
  rcases hb with rfl | rfl
  ·exact⟨_,hz,fun v q=>by cases q⟩
  ·exact⟨_,e2,fun v q=>by rw[d2] at q;cases q⟩
 keep:=fun i h h' st hk=>by
  obtain⟨⟨old,hz⟩,h1⟩:=st
  exact⟨⟨old,hk z (by simp) _ hz⟩,h1.at fun o e=>hk it (by simp) o e⟩
 item:=by
  intro X hP hw hK hc i pins s σ H E I hf st hg
  subst hP hw hK
  obtain⟨xs,hx,RT⟩:=hg
  obtain⟨f_,r1,p1,z1⟩:=I.list hx
  have pE:=r1.length
  have W:=WalksT.enumerate (prog:=X.prog) (w:=X.w) (A:=X.A) (I.ok.hd hc) z it l d1 d2 d3 f_.toArray
  obtain⟨hz,h1⟩:=id st
  have hn:i<f_.toArray.size:=by simp only[zad];lia
  refine W.item i s _ _ hn ⟨hz,h1,p1.isList⟩ fun T vals h' tk hv hT zI mid hk=> ?_
  refine⟨.ref T,rfl, ?_⟩
  refine W.go elts k pos i T _ _ _ mid fun kR zJ rR=> ?_
  obtain⟨t0,u,eu,rfl⟩:=hv
  have kk: ∀b o,b∉ [z,it]->s.heap.get? b=some o->kR.get? b=some o:=fun b o hb e=>rR b o hb (hk b o hb e)
  have I1:Inv X pins σ H {s with heap:=kR,toks:=tk}:=by
   refine I.step (g':=s.gens) (d':=s.drawn) (ch:=[z,it]) (fun b hb=> ?_) (fun b o _ _ hc e _=>kk b o hc e) (fun b o _ _ hc e _=> ⟨o.slots,kk b o hc e⟩) (fun _ _ _ _ n=>n)
    (fun b o hc e=> ⟨o,kk b o hc e⟩) (fun _ _ e=>e) (fun _ _ _ e=>e) (fun b ps e=> ⟨#[],by rw[e];simp⟩) (fun m hm=> ?_) (fun b o e=> ?_) I.bare
   ·obtain⟨f0,f1,f2,f3,f4,f5⟩:=hf b hb
    exact⟨f3,f1,f4,f5⟩
   ·obtain⟨o,es,ep,ho,r⟩:=hm
    exact⟨o,es,ep,kk _ o (fun hb=> (hf _ hb).2.1 rfl) ho,r⟩
   ·have nb: ∀c o',H c=some o'->c∉ [z,it]:=fun c o' e hb=>by
     rw[(hf c hb).1] at e;cases e
    refine(I.aL b o e).ia (fun c q bU e'=>kk c q ?_ e') (fun _ q=>q) fun _ _ q=>q
    rcases bU with rfl | bU
    ·exact nb _ _ e
    ·exact nb _ _ bU
  have gZ:s.heap.objs.size<=T:=hT
  have fT:H T=none:=I.aL.fresh gZ
  have aT:T∉ [z,it]:=W.apart i T h' mid
  have tT:kR.IsTuple T #[.int (i:Nat) t0,u]:=by
   obtain⟨o,ho,q⟩:=zI
   exact⟨o,rR T o aT ho,q⟩
  obtain⟨a,zK,ra⟩: ∃a,xs[i]?=some a/\RelV a u:=by
   have e:f_[i]?=some u:=by simpa using eu
   have:i<xs.length:=by lia
   obtain⟨u',e',r'⟩:=r1.get (i:=i) (x:=xs[i]) (by simp[this])
   rw[e] at e';cases e'
   exact⟨xs[i],by simp[this],r'⟩
  have RV:=I.sz
  have I2:Inv X pins σ (upd H T<|.tup [.int (i:Nat),a]) {s with heap:=kR,toks:=tk}:=by
   refine Inv.ze I1 fT (zaq I.sz gZ) (zbc<|zam I.lt gZ) (fun x c e q=> ?_) (fun p hp q=> ?_) ⟨by show 2<=sizeLine;decide,[.int (i:Nat) t0,u], .cons ⟨t0,rfl⟩<|.cons ra .nil,tT⟩
   ·obtain⟨v',q'⟩:=I.cell x c e
    have:=q'.lt
    rw[q] at this
    exact absurd (zam this gZ)<|zaw _
   ·have:=Heap.lt_size (I.pin p hp).1
    rw[q] at this
    exact absurd (zam this gZ)<|zaw _
  refine⟨.ref T,_,I2,rfl,⟨T,fT,rfl,fun RW a' fX ea=> ?_⟩, ?_,fun c bU=> ?_⟩
  ·rw[I.uT fX hx,zK] at ea
   cases ea;rfl
  ·obtain⟨⟨q0,q1⟩,q2,_⟩:=zJ
   exact⟨⟨q0,q1⟩,q2⟩
  ·have n0:=(hf c bU).1
   have:c≠T:=fun q=>by
    obtain⟨o,e,_⟩: ∃o,s.heap.get? c=some o/\True:=by
     obtain⟨⟨old,hz⟩,⟨o2,e2,_⟩⟩:=st
     simp only[zaa,zac,or_false] at bU
     rcases bU with rfl | rfl
     ·exact⟨_,hz,trivial⟩
     ·exact⟨_,e2,trivial⟩
    have:=Heap.lt_size e
    rw[q] at this
    exact absurd (zam this gZ)<|zaw _
   rw[aR this];exact n0
 done:=by
  intro X hP hw hK hc i pins s σ H E I hf st hg
  subst hP hw hK
  obtain⟨xs,hx,hi⟩:=hg
  obtain⟨f_,r1,p1,z1⟩:=I.list hx
  have pE:=r1.length
  have W:=WalksT.enumerate (prog:=X.prog) (w:=X.w) (A:=X.A) (I.ok.hd hc) z it l d1 d2 d3 f_.toArray
  obtain⟨hz,h1⟩:=id st
  have hn:i=f_.toArray.size:=by simp only[zad];lia
  subst hn
  refine W.done s _ _ ⟨hz,h1,p1.isList⟩ fun h' tk hk=> ⟨rfl, ?_⟩
  refine I.step (g':=s.gens) (d':=s.drawn) (ch:=[z,it]) (fun b hb=> ?_) (fun b o _ _ hc e _=>hk b o hc e) (fun b o _ _ hc e _=> ⟨o.slots,hk b o hc e⟩) (fun _ _ _ _ n=>n)
   (fun b o hc e=> ⟨o,hk b o hc e⟩) (fun _ _ e=>e) (fun _ _ _ e=>e) (fun b ps e=> ⟨#[],by rw[e];simp⟩) (fun m hm=> ?_) (fun b o e=> ?_) I.bare
  ·obtain⟨f0,f1,f2,f3,f4,f5⟩:=hf b hb
   exact⟨f3,f1,f4,f5⟩
  ·obtain⟨o,es,ep,ho,r⟩:=hm
   exact⟨o,es,ep,hk _ o (fun hb=> (hf _ hb).2.1 rfl) ho,r⟩
  ·have nb: ∀c o',H c=some o'->c∉ [z,it]:=fun c o' e hb=>by
    rw[(hf c hb).1] at e;cases e
   refine(I.aL b o e).ia (fun c q bU e'=>hk c q ?_ e') (fun _ q=>q) fun _ _ q=>q
   rcases bU with rfl | bU
   ·exact nb _ _ e
   ·exact nb _ _ bU
 self:=fun A i s Q E st hQ=>by
  obtain⟨⟨old,hz⟩,_⟩:=st
  exact wpAny_pyIter_enum hz hQ
theorem R1:bootBuiltins "enumerate"=some (.type "enumerate"):=by decide+kernel
theorem R3{X:Cx}{elts:List Expr}{k:Nat}{qU:Pos}{a:Expr}{ta:TA}{p pos:Pos}(hg:Gl X "enumerate")(hm:X.mg "enumerate"=none)(ha:PA X [a] ta)
  (hs:starEach [a] X.env=[(false,eval a X.env)]):PI X (.Tuple elts k qU) (.Call (.Name "enumerate" p) [a] [] pos) (zA X.K ta):=by
 intro pins s σ H R I h
 refine Call_<|o8 I hg hm R1<|PyProof.Rows.callWith_type1 (aV (ha pos pins s σ H _ I h) fun us s1 ⟨vs,H1,I1,r1,q1⟩=> ?_) hs rfl
 obtain⟨l1,e,⟨xs,hx⟩,q⟩:=q1
 subst e
 obtain⟨u,rfl,ru⟩:=vals1 r1
 cases ru
 obtain⟨f_,RY,p1,z1⟩:=I1.list hx
 refine call_enumerate_list p1.isList fun h' a1 a2 a3 hk=> ?_
 refine wpAny_pyIter_enum a1 ?_
 have RZ: @LT.lt Nat _ l1 s1.heap.objs.size:=by obtain⟨_,e,_⟩:=p1.isList;exact Heap.lt_size e
 have I2:Inv X pins σ H1 {s1 with heap:=h'}:=I1.kept (t':=s1.toks) hk
 refine⟨_,_,_,_,H1,rfl,I2,R0 (z:=s1.heap.objs.size+1) (it:=s1.heap.objs.size) (l:=l1) (by show @Ne Nat _ _;lia) (by show @Ne Nat _ _;lia) (by show @Ne Nat _ _;lia),⟨⟨_,a1⟩,a2⟩,fun b' hb=> ?_,q⟩
 have hle:s1.heap.objs.size<=b':=by
  simp only[zaa,zac,or_false] at hb
  rcases hb with rfl | rfl
  ·exact zbh _ _
  ·exact zqR _
 have:=I1.o_ (b:=b') (H':=H1) hle (I1.aL.fresh hle)
 exact this
theorem R4{K:Frag}{a:Addr}{xs:List V}{g:TG}{tb:TS}{D:Ends}{σ:St}{H:Hp}(Pv:Nat->St->Hp->Prop)(h0:Pv 0 σ H)(ha: ∀i σ H,Pv i σ H->aB K H a xs)
  (hs: ∀i x σ H T,xs[i]?=some x->Pv i σ H->H T=none->g (.ref T) σ (upd H T<|.tup [.int (i:Nat),x]) fun σ2 H2=>tb {D with nx:=Pv (i+1),ct:=Pv (i+1),bk:=D.nx} σ2 H2) (hd: ∀σ H,Pv xs.length σ H->D.nx σ H):
  ∃W:Nat->Nat->St->Hp->Prop,(∃m,W 0 m σ H)/\ ∀i m σ H,W i m σ H->
   ((ma K a).stop i H/\D.nx σ H)\/((ma K a).go i H/\ ∃N:St->Hp->Prop,(∀σ' H',N σ' H'-> ∃m',m'<m/\W (i+1) m' σ' H')/\ ∀x H',(ma K a).fU i H x H'->g x σ H' fun σ2 H2=>tb {D with nx:=N,ct:=N,bk:=D.nx} σ2 H2):=by
 refine⟨fun i m σ H=>m=xs.length - i/\i<=xs.length/\Pv i σ H,⟨xs.length,by simp,zqZ _,h0⟩, ?_⟩
 rintro i m σ H ⟨rfl,hi,p⟩
 have q1:=ha i σ H p
 by_cases aW:i<xs.length
 ·refine .inr ⟨⟨xs,q1,aW⟩,Pv<|i+1,fun σ' H' p'=> ⟨xs.length - (i+1),by lia,rfl,aW,p'⟩,fun x H' y=> ?_⟩
  obtain⟨T,hT,rfl,y⟩:=y
  have e:=y xs xs[i] q1 (by simp[aW])
  subst e
  exact hs i xs[i] σ H T (by simp[aW]) p hT
 ·have e:i=xs.length:=by lia
  subst e
  exact .inl ⟨⟨xs,q1,rfl⟩,hd σ H p⟩
end L2
set_option maxHeartbeats 400000
namespace L2
open PySem PySem.Spec PyProof.Rows
section
variable {prog:Program} {w:World} {A:Around} {E:Value->Shared->Prop} {s:Shared}
end
end L2
set_option maxHeartbeats 1000000
namespace L2
open PySem PySem.Spec PyProof.Rows PySem.W
section
variable {prog:Program} {w:World} {A:Around} {E:Value->Shared->Prop} {s:Shared} {K:Frag} {x D:Addr} {ox:Obj}
theorem R5{Q:Option Value->Shared->Prop}(X:K.In s.heap)(I:InstAt s.heap x ox D none)(rH:findIn K (.ref D) "__getattribute__"=some (some<|.builtin "BaseException.__getattribute__"))(rJ:findIn K (.ref D) "__getattr__"=some none)
  (hk:(clsIn K D).isSome=true) (ha:findIn K (.ref D) "__class__"=some (some<|.builtin "object.__class__")) (hn:specialIn K (.builtin "object.__class__") "__get__"=some (some<|.builtin "getset_descriptor.__get__")) (lU:takesIn K (.builtin "object.__class__")=some true)
  (hm:mroIn K D (.type "object")=some true) (hb:mroIn K D (.type "BaseException")=some true)
  (h:Q (some<|.ref D) {s with toks:=s.toks+1}):wpAny (model prog w) A (getAttr? (.ref x) "__class__") Q E s:=by
 have hf:findObj K D none "__class__"=some (.bind (.builtin "getset_descriptor.__get__")<|.builtin "object.__class__"):=by
  obtain⟨cd,hc⟩:=zbu.mp hk
  unfold findObj
  rw[hc,Option.bind_some,ha,Option.bind_some]
  simp only[hn,lU,Option.bind_some]
 obtain⟨hh,g,d,t,os⟩:=s
 have L0:=I.type (M:=model prog w)
 have L1:=looks_findIn (M:=model prog w) X rH
 have L2:=looks_findIn (M:=model prog w) X rJ
 have L3:=looks_find (M:=model prog w) X I hf
 unfold getAttr? getAttrBy? getAttrBy
 refine wpAny_bind<|wpAny_mkText<|wpAny_bind<|wpAny_attempt<|wpAny_holding<|wpAny_bind<|L0.at<|wpAny_bind<|L1.at ?_
 have rT:(Value.builtin "BaseException.__getattribute__"==Value.builtin "object.__getattribute__")=false:=by decide+kernel
 show wpAny _ _ (if (onTheHeap (Value.ref D) && Value.builtin "BaseException.__getattribute__"==Value.builtin "object.__getattribute__")=true then _ else _) _ _ _
 rw[rT,Bool.and_false,if_neg (by decide)]
 unfold getAttrByItsOwn hookBefore
 refine wpAny_bind<|L2.at ?_
 refine wpAny_bind<|wpAny_attempt<|wpAny_holding ?_
 show wpAny _ _ (boundAndCalled _ _ _) _ _ _
 unfold boundAndCalled
 rw[F.excAttr_ValueError.ga.bind<|.ref x]
 refine wpAny_bind<|wpAny_pure ?_
 refine wpAny_call<|codeAny_call_builtin F.excAttr_ValueError.ga.plain F.entry_bexc_ga ?_
 have L4:=looks_mroIn (M:=model prog w) X hb
 have R6:builtinKind "BaseException.__getattribute__"=some .slot:=by decide+kernel
 have R7:splitId "BaseException.__getattribute__"=some ("BaseException","__getattribute__"):=by decide+kernel
 have aes:=F.args_bexc_ga (.ref x) (.str "__class__" t)
 simp only[checkBuiltinCall,R6,R7]
 have L5:Looks (model prog w) hh (isInstance (.ref x)<|.type "BaseException") true:=L0.andThen L4
 refine wpAny_bind<|L5.at ?_
 repeat (any_goals (first | assumption | (with_reducible refine wpAny_loadPart_at I.at_ ?_;rw[I.cls];refine wpAny_pure (wpAny_bind<|L3.at ?_)) | wp_step))
 refine class_get (s:=⟨hh,g,d,t+1,os⟩) (ox:=ox) (od:=none) X I hm ?_
 exact wpAny_pure<|wpAny_pure<|wpAny_pure h
theorem R8(rH:findIn K (.ref D) "__getattribute__"=some (some<|.builtin "BaseException.__getattribute__"))(rJ:findIn K (.ref D) "__getattr__"=some none)
  (hk:(clsIn K D).isSome=true) (ha:findIn K (.ref D) "__class__"=some (some<|.builtin "object.__class__")) (hn:specialIn K (.builtin "object.__class__") "__get__"=some (some<|.builtin "getset_descriptor.__get__")) (lU:takesIn K (.builtin "object.__class__")=some true)
  (hm:mroIn K D (.type "object")=some true) (hb:mroIn K D (.type "BaseException")=some true):KitX K (.ref x) (.ref D) (fun h=>InstAt h x ox D none) where
 ty:=fun _ _ _ I=>I.type
 it:=fun _ _ X _=>by
  obtain⟨R9,ku⟩:=zbu.mp hk
  unfold clsIn at ku
  split at ku
  ·rename_i c' d' R_ yn ho
   intro A' Q' E' s' k q
   unfold isType loadHead
   exact wpAny_bind<|wpAny_loadPart (k _ _<|X _ _ ho)<|wpAny_pure q
  ·cases ku
 ne:=fun h tp dd its n sl X Sa=>by
  obtain⟨R9,ku⟩:=zbu.mp hk
  refine Bool.eq_false_iff.mpr fun q=> ?_
  have e:D=tp:=Value.ref.inj (beq_iff_eq.mp q)
  subst e
  unfold clsIn at ku
  split at ku
  ·rename_i c' d' R_ yn ho
   have z:=(X _ _ ho).symm.trans Sa
   cases z
  ·cases ku
 ca:=fun X I k=>R5 X I rH rJ hk ha hn lU hm hb k
end
end L2
set_option maxHeartbeats 400000
namespace L2
open PySem PySem.Spec PyProof.Rows
inductive bL (J:Shared->Prop) {α:Type}:Sem α->Prop
 | pure (a:α):bL J (.pure a)
 | raise (e:Value):bL J (.raise e)
 | unsupported (w:String):bL J (.unsupported w)
 | rule {t:String} {k:Unit->Sem α}:bL J (k ())->bL J (.rule t k)
 | load {a:Addr} {p:Option Value} {k:Obj->Sem α}:(∀o,bL J<|k o)->bL J (.load a p k)
 | update {a:Addr} {p:Option Value} {f:Obj->Obj} {k:Unit->Sem α}:(∀s,J s->J {s with heap:=s.heap.update a f})->bL J (k ())->bL J (.update a p f k)
 | alloc {o:Obj} {k:Addr->Sem α}:(∀s,J s->J {s with heap:=s.heap.push o})->(∀a,bL J<|k a)->bL J (.alloc o k)
 | stack {k:List (Code×Pos)->Sem α}:(∀t,bL J<|k t)->bL J (.stack k)
theorem Sb{M:Model}{Γ:PySem.Ctx}{J:Shared->Prop}{α:Type}{t:Sem α}(kt:bL J t): ∀{Q:α->Pos->Shared->Prop} {E:Value->Pos->Shared->Prop} {p:Pos} {s:Shared},J s->Sem.wp M Γ t Q E p s->
  Sem.wp M Γ t (fun a p s=>Q a p s/\J s) (fun e p s=>E e p s/\J s) p s:=by
 induction kt with
 | pure a=>intro Q E p s j h;rw[Sem.wp] at h⊢;exact⟨h,j⟩
 | raise e=>intro Q E p s j h;rw[Sem.wp] at h⊢;exact⟨h,j⟩
 | unsupported w=>intro Q E p s j h;rw[Sem.wp] at h;exact h.elim
 | rule _ ih=>intro Q E p s j h;rw[Sem.wp] at h⊢;exact ih j h
 | load _ ih=>intro Q E p s j h;rw[Sem.wp] at h⊢;obtain⟨o,e,h⟩:=h;exact⟨o,e,ih o j h⟩
 | update f _ ih=>intro Q E p s j h;rw[Sem.wp] at h⊢;exact⟨h.1,ih (f _ j) h.2⟩
 | alloc f _ ih=>intro Q E p s j h;rw[Sem.wp] at h⊢;exact ih _ (f _ j) h
 | stack _ ih=>intro Q E p s j h;rw[Sem.wp] at h⊢;exact ih _ j h
theorem rV{M:Model}{A:Around}{J:Shared->Prop}{α:Type}{t:Sem α}{Q:α->Shared->Prop}{E:Value->Shared->Prop}{s:Shared}(k:bL J t)(j:J s)(h:wpAny M A t Q E s):
  wpAny M A t (fun a s=>Q a s/\J s) (fun e s=>E e s/\J s) s:=fun Γ p hΓ=>Sb k j (h Γ p hΓ)
def dP(e:Addr)(s:Shared):Prop:= ∃o vs,s.heap.get? e=some o/\o.data= .fields vs/\vs[2]?=some .none/\o.dict=none
theorem Sd(f:Array Value->Array Value)(o:Obj):(Obj.mapFields f o).dict=o.dict:=by
 unfold Obj.mapFields
 split<;>rfl
theorem Se{e a:Addr}{i:Nat}{v:Value}(hi:i≠2)(s:Shared)(j:dP e s):dP e {s with heap:=s.heap.update a (Obj.mapFields (·.setIfInBounds i v))}:=by
 obtain⟨o,vs,h1,h2,h3,h4⟩:=j
 by_cases z:a=e
 ·subst z
  have d:=Obj.data_mapFields h2 (·.setIfInBounds i v)
  exact⟨_,_,Heap.get?_update_self _ h1<|Obj.isFreed_of_fields d,d,by rw[Array.getElem?_setIfInBounds_ne hi];exact h3,(Sd _ _).trans h4⟩
 ·exact⟨o,vs,(Heap.get?_update_other _ _ z).trans h1,h2,h3,h4⟩
theorem Sf{e a:Addr}{f:Obj->Obj}(hf: ∀o,(f o).data=o.data/\(f o).dict=o.dict)(s:Shared)(j:dP e s):dP e {s with heap:=s.heap.update a f}:=by
 obtain⟨o,vs,h1,h2,h3,h4⟩:=j
 by_cases z:a=e
 ·subst z
  exact⟨_,vs,Heap.get?_update_self _ h1<|Obj.isFreed_of_fields<|(hf o).1.trans h2,(hf o).1.trans h2,h3,(hf o).2.trans h4⟩
 ·exact⟨o,vs,(Heap.get?_update_other _ _ z).trans h1,h2,h3,h4⟩
theorem Sg{e:Addr}{ob:Obj}(s:Shared)(j:dP e s):dP e {s with heap:=s.heap.push ob}:=by
 obtain⟨o,vs,h1,h2,h3,h4⟩:=j
 exact⟨o,vs,Heap.get?_push_of_some _ h1,h2,h3,h4⟩
theorem bL.bind{J:Shared->Prop}{α β:Type}{t:Sem α}{f:α->Sem β}(kt:bL J t)(h: ∀a,bL J<|f a):bL J (t>>=f):=by
 show bL J (t.bind f)
 induction kt with
 | pure a=>exact h a
 | raise e=>exact .raise e
 | unsupported w=>exact .unsupported w
 | rule _ ih=>exact .rule ih
 | load _ ih=>exact .load ih
 | update g _ ih=>exact .update g ih
 | alloc g _ ih=>exact .alloc g ih
 | stack _ ih=>exact .stack ih
section
variable {e:Addr}
theorem zL{a:Addr}:bL (dP e) (load a):= .load fun o=> .pure o
theorem zM{v x:Value}{i:Nat}(hi:i≠2):bL (dP e) (setField v i x):=by
 unfold setField
 split
 ·rename_i a
  unfold updateField
  refine zL.bind fun o=> ?_
  split
  ·split
   ·exact .update (fun s j=>Se hi s j) (.pure ())
   ·exact .unsupported _
  ·exact .unsupported _
 ·exact .unsupported _
theorem Sh{v:Value}:bL (dP e) (fieldsOf v):=by
 unfold fieldsOf
 split
 ·refine zL.bind fun o=> ?_
  split
  ·exact .pure _
  ·exact .unsupported _
 ·exact .unsupported _
theorem vI{v:Value}{i:Nat}:bL (dP e) (field v i):=by
 unfold field
 refine Sh.bind fun vs=> ?_
 split
 ·exact .pure _
 ·exact .unsupported _
theorem zN{v:Value}{f:Option Addr}:bL (dP e) (setFlight v f):=by
 unfold setFlight
 refine vI.bind fun tb=> ?_
 split
 ·exact zM (by decide)
 ·exact .pure _
theorem zO:bL (dP e) stack:= .stack fun t=> .pure t
theorem Si{ty:String}{vs:List Value}:bL (dP e) (newFields ty vs):=by
 unfold newFields newObj newObjAsIs
 show bL (dP e) (if vs.toArray.size>sizeLine+2 then (unsupported "record:memory" >>=_) else _)
 split
 ·exact .unsupported _
 ·exact bL.bind (.alloc (fun s j=>Sg s j) fun a=> .pure a) fun a=> .pure _
theorem Sj{f:Addr}{b:Bool}:bL (dP e) (entryPlaceOf f b):=by
 unfold entryPlaceOf
 refine zO.bind fun aet=> ?_
 split
 ·exact .pure _
 ·exact .pure _
theorem Fn: ∀l:List Env,bL (dP e) (readyFrames l)
 | []=> .pure _
 | env::outer=>by
  unfold readyFrames
  split
  ·refine zL.bind fun o=> ?_
   split
   ·exact .pure _
   ·refine bL.bind ?_ fun im=>bL.bind ?_ fun bk=>bL.bind (.update (fun s j=>Sf (by intro o;exact⟨rfl,rfl⟩) s j)<|.pure ()) fun _=>Fn outer
    ·unfold behindIsImport
     split
     ·exact .pure _
     ·split
      ·exact .pure _
      ·exact vI.bind fun _=> .pure _
    ·unfold keptBack
     split
     ·split
      ·exact .pure _
      ·unfold underTheClaimsCaller
       exact bL.bind (zO.bind fun _=> .pure _) fun _=> .pure _
     ·exact .pure _
  ·exact .unsupported _
theorem Sk{env:Env}:bL (dP e) (PySem.frameOf env):=by
 unfold PySem.frameOf frameEnvs
 refine bL.bind (zO.bind fun _=> .pure _) fun l=> ?_
 refine bL.bind ?_ fun r=> ?_
 ·unfold frameObject
  split
  ·exact .pure _
  ·exact(Fn _).bind fun _=> .pure _
 ·split
  ·exact .pure _
  ·exact .unsupported _
theorem Fo{v:Value}{env:Env}:bL (dP e) (noteFrame v env):=by
 unfold noteFrame
 split
 ·rename_i x d hq
  refine vI.bind fun hd=> ?_
  have tail:bL (dP e) (do let a <-PySem.frameOf env;let pl <-entryPlaceOf d (hd != .none);let b <-EntryCells.newEntry hd a .none (rawInt d) .none pl;setField v 1 b):=
   Sk.bind fun a=>Sj.bind fun pl=>bL.bind Si fun b=>zM (by decide)
  dsimp only
  split
  ·refine vI.bind fun x=> ?_
   split
   ·exact .pure _
   ·exact(zM (by decide)).bind fun _=>tail
  ·exact tail
 ·exact .unsupported _
theorem Fp{v:Value}{env:Env}:bL (dP e) (leaving env v):=by
 unfold leaving
 exact Fo.bind fun _=>zN
end
end L2
set_option maxHeartbeats 4000000
namespace L2
open PySem PySem.Spec PyProof.Rows
theorem cB.vJ{P:Program}{w:World}{H:Hp}{h:Heap}{a:Addr}{o:HO}(x:cB P w H h a o): ∃ob,h.get? a=some ob:=by
 cases o with
 | lst xs=>obtain⟨_,_,_,_,e⟩:=x;exact⟨_,e⟩
 | tup xs=>obtain⟨_,_,_,ob,e,_⟩:=x;exact⟨_,e⟩
 | dK aQ=>obtain⟨_,_,_,_,o,_,_,e,_⟩:=x;exact⟨_,e⟩
 | dT aQ=>obtain⟨_,_,_,_,o,_,_,e,_⟩:=x;exact⟨_,e⟩
 | set S n=>obtain⟨o,_,_,_,e,_⟩:=x;exact⟨_,e⟩
 | ins C dx fs=>obtain⟨_,_,_,e,_⟩:=x;exact⟨_,e⟩
 | own y=>obtain⟨_,e⟩:=x;exact⟨_,e⟩
 | xd fs=>obtain⟨_,⟨_,_,_,e,_⟩,_⟩:=x;exact⟨_,e⟩
 | gO lo hi=>obtain⟨_,_,_,e⟩:=x;exact⟨_,e⟩
 | bE ob u=>obtain⟨e,_⟩:=x;exact⟨_,e⟩
 | jy ps=>exact⟨_,(show h.get? a=some _ from x)⟩
 | met f y=>exact⟨_,(show h.get? a=some _ from x)⟩
 | ext φ=>obtain⟨_,⟨_,e⟩,_⟩:=x;exact⟨_,e⟩
theorem bZ.vK{P:Program}{w:World}{H:Hp}{h h':Heap}(ok:bZ P w H h)(k: ∀b u,H b≠none->h.get? b=some u->h'.get? b=some u):bZ P w H h':=fun a o e=>
 (ok a o e).ia (fun b u hb hu=>k b u (by
  rcases hb with rfl | hb
  ·rw[e];exact Option.some_ne_none _
  ·rw[hb];exact Option.some_ne_none _) hu) (fun _ z=>z) (fun _ _ z=>z)
def ej(P:Program)(w:World):bM:=fun outer H s E e s'=> ∃(ea:Addr) (cls:Value) (t:Addr) (B:Heap) (H':Hp),
 e= .ref ea/\s'.os=s.os/\AllBare s'.gens/\Un (bK outer) [] H H' s.heap s'.heap/\bZ P w H' s'.heap/\Heap.FlyingW B outer ea cls (.ref t) s'.heap/\dP ea s'/\H' ea=none/\
 (∀b,H' b≠none-> ∀o,s'.heap.get? b=some o->B.get? b=some o)/\(∀b o,s.heap.get? b=some o->b∉bK outer-> ∀o',s'.heap.get? b=some o'->B.get? b=some o')/\E cls none H'
theorem vL{P:Program}{w:World}{outer:List Env}{H:Hp}{s:Shared}{e:Value}{s':Shared}(h:ej P w outer H s E0 e s'):False:=by
 obtain⟨_,_,_,_,_,_,_,_,_,_,_,_,_,_,_,h⟩:=h
 exact h
section
variable {P:Program} {w:World} {K:Frag} {mg:Str->Option Value} {base:Heap} {N:List Str} {qual:Str} {scope:Scope} {f:Addr} {cd:Value} {A:Around} {outer:List Env} {s₀:Shared} {H₀:Hp} {E:XK}
theorem Sl:Passes (ej P w) (kz (ej P w) P w K mg base N qual scope f cd A outer s₀ H₀ E) E:=by
 intro pins σ H s e s' I hx
 obtain⟨ea,cls,t,B,H',rfl,os,bare,u,aL,fl,rW,gb,c1,c2,hE⟩:=hx
 have rX:=I.ok.frames
 have hL:s₀.heap.objs.size<= (envOfC qual scope s₀.heap.objs.size f cd).locals:=I.ok.above
 have nL: ∀b o,s₀.heap.get? b=some o->b∉bK outer->b∉bK (envOfC qual scope s₀.heap.objs.size f cd::outer):=fun b o hb hn hm=>by
  have eP:b∈ (envOfC qual scope s₀.heap.objs.size f cd).locals::bK outer:=hm
  rcases zaa.mp eP with rfl | z
  ·exact absurd (Heap.lt_size hb) (Nat.not_lt.mpr hL)
  ·exact hn z
 have ib: ∀b∈bK (envOfC qual scope s₀.heap.objs.size f cd::outer),H' b=none:=fun b hb=>by
  obtain⟨o,ho,_⟩:=(I.stack.mem hb).2
  exact u.free b o ho (I.uP b hb) zac
 refine wpAny_mono (rV Fp rW<|wpAny_leaves_onW (Q:=fun _ fW=> ∃h',fW={s' with heap:=h'}/\Heap.FlyingW B outer ea cls (.ref t) h'/\s'.heap.UpToSlots h') (E:=fun _ _=>False) rX rfl fl fun h' iu up=> ⟨h',rfl,iu,up⟩)
  (fun _ fW hq=> ?_) (fun _ _ z=>z.1.elim)
 obtain⟨⟨h',rfl,iu,up⟩,zP⟩:=hq
 have into: ∀b o,s.heap.get? b=some o->b∉bK (envOfC qual scope s₀.heap.objs.size f cd::outer)-> ∀o',s'.heap.get? b=some o'->h'.get? b=some o':=fun b o hb hn o' dG=>iu.1 b o' (c2 b o hb hn o' dG)
 have jz: ∀b o,H' b≠none->s'.heap.get? b=some o->h'.get? b=some o:=fun b o hb ho=>iu.1 b o (c1 b hb o ho)
 have fH: ∀b∈bK (envOfC qual scope s₀.heap.objs.size f cd::outer),∀o,s'.heap.get? b=some o-> ∃sl,h'.get? b=some {o with slots:=sl}:=fun b hb o ho=>by
  obtain⟨o1,i0,hd⟩:=(fl.2.2.1.mem hb).2
  rw[ho] at i0
  cases i0
  exact up b o ho hd
 refine⟨ea,cls,t,B,H',rfl,os.trans I.os,bare,⟨fun b o q n hn _=> ?_,fun b o q n hn _=> ?_,fun b o q n _=> ?_,fun b o q _=> ?_,fun b xs q=>u.eA b xs (I.base.eA b xs q),fun b o v q=>u.eV b o v (I.base.eV b o v q),fun b ps q=> ?_⟩,
  aL.vK (fun b o hb ho=>jz b o hb ho),iu,zP,gb,fun b hb o ho=> ?_,fun b o q hn o' dG=> ?_,hE⟩
 ·have q1:=I.base.keep b o q n hn zac
  have n1:=I.base.free b o q n zac
  have i5:=nL b o q hn
  exact into b o q1 i5 o<|u.keep b o q1 n1 i5 zac
 ·obtain⟨sl,q1⟩:=I.base.slot b o q n hn zac
  have n1:=I.base.free b o q n zac
  have i5:b∈bK (envOfC qual scope s₀.heap.objs.size f cd::outer):=zau _ hn
  obtain⟨qZ,q2⟩:=u.slot b _ q1 n1 i5 zac
  obtain⟨zQ,q3⟩:=fH b i5 _ q2
  exact⟨zQ,q3⟩
 ·obtain⟨o1,q1⟩:=I.base.there b o q zac
  exact u.free b o1 q1 (I.base.free b o q n zac) zac
 ·obtain⟨o1,q1⟩:=I.base.there b o q zac
  obtain⟨o2,q2⟩:=u.there b o1 q1 zac
  by_cases hm:b∈bK (envOfC qual scope s₀.heap.objs.size f cd::outer)
  ·obtain⟨sl,q3⟩:=fH b hm o2 q2
   exact⟨_,q3⟩
  ·exact⟨o2,into b o1 q1 hm o2 q2⟩
 ·obtain⟨m1,e1⟩:=I.base.fo b ps q
  obtain⟨m2,e2⟩:=u.fo b _ e1
  exact⟨m1++m2,by rw[e2,Array.append_assoc]⟩
 ·obtain⟨gT,hH⟩:=zbN.mp hb
  obtain⟨o2,q2⟩:=(aL b gT hH).vJ
  have q3:=jz b o2 hb q2
  have i7:h'.get? b=some o:=ho
  rw[q3] at i7
  cases i7
  exact c1 b hb _ q2
 ·obtain⟨o1,q1⟩:=I.base.there b o q zac
  obtain⟨o2,q2⟩:=u.there b o1 q1 zac
  have i5:=nL b o q hn
  have q3:=into b o1 q1 i5 o2 q2
  have i7:h'.get? b=some o':=dG
  rw[q3] at i7
  cases i7
  exact c2 b o1 q1 i5 _ q2
def Raises(X:Cx)(E:XK):Prop:= ∀(pins:List (Addr×Obj)) (σ:St) (H:Hp) (s:Shared) (h':Heap) (e:Addr) (cls:Value) (vs:List Value),Inv X pins σ H s->Heap.MadeExcOf s.heap h' e cls vs->E cls none H->X.xe (.ref e) {s with heap:=h'}
theorem Sm:Raises (kz (ej P w) P w K mg base N qual scope f cd A outer s₀ H₀ E) E:=by
 intro pins σ H s h1 e cls vs I hx hE
 have rX:=I.ok.frames
 have hL:s₀.heap.objs.size<= (envOfC qual scope s₀.heap.objs.size f cd).locals:=I.ok.above
 have nL: ∀b o,s₀.heap.get? b=some o->b∉bK outer->b∉bK (envOfC qual scope s₀.heap.objs.size f cd::outer):=fun b o hb hn hm=>by
  have eP:b∈ (envOfC qual scope s₀.heap.objs.size f cd).locals::bK outer:=hm
  rcases zaa.mp eP with rfl | z
  ·exact absurd (Heap.lt_size hb) (Nat.not_lt.mpr hL)
  ·exact hn z
 have cC: ∀env∈ (envOfC qual scope s₀.heap.objs.size f cd::outer),∀b,env.frame=some b->b∈bK (envOfC qual scope s₀.heap.objs.size f cd::outer):=fun env he b hb=>zbL.mpr ⟨env,he,hb⟩
 have rW:dP e {s with heap:=h1}:=by
  obtain⟨t,ht,_,_⟩:=hx.there
  exact⟨_,_,ht,rfl,rfl,rfl⟩
 refine wpAny_mono (rV Fp rW (wpAny_leaves_madeW (Q:=fun _ fW=> ∃h' t,fW={s with heap:=h'}/\Heap.FlyingW (hideAll s.heap (bK (envOfC qual scope s₀.heap.objs.size f cd::outer))) outer e cls (.ref t) h'/\h1.UpToSlots h') (E:=fun _ _=>False)
  rX rfl (fun b o q=>of_hideAll _ q) (PySem.W.funFrames_hide I.stack cC) hx fun h' t iu _ _ up=> ⟨h',t,rfl,iu,up⟩)) (fun _ fW hq=> ?_) (fun _ _ z=>z.1.elim)
 obtain⟨⟨h',t,rfl,iu,up⟩,zP⟩:=hq
 have into: ∀b o,s.heap.get? b=some o->b∉bK (envOfC qual scope s₀.heap.objs.size f cd::outer)->h'.get? b=some o:=fun b o hb hn=>iu.1 b o (hideAll_get _ hb hn)
 have zR: ∀b,H b≠none->b∉bK (envOfC qual scope s₀.heap.objs.size f cd::outer):=fun b hb hm=>hb (I.uP b hm)
 have fH: ∀b∈bK (envOfC qual scope s₀.heap.objs.size f cd::outer),∀o,s.heap.get? b=some o-> ∃sl,h'.get? b=some {o with slots:=sl}:=fun b hb o ho=>by
  obtain⟨o1,i0,hd⟩:=(I.stack.mem hb).2
  rw[ho] at i0
  cases i0
  exact up b o (hx.keeps b o ho) hd
 refine⟨e,cls,t,_,H,rfl,I.os,I.bare,⟨fun b o q n hn _=> ?_,fun b o q n hn _=> ?_,fun b o q n _=>I.base.free b o q n zac,fun b o q _=> ?_,I.base.eA,I.base.eV,I.base.fo⟩,
  I.aL.vK (fun b o hb ho=>into b o ho (zR b hb)),iu,zP, ?_,fun b hb o ho=> ?_,fun b o q hn o' dG=> ?_,hE⟩
 ·exact into b o (I.base.keep b o q n hn zac) (nL b o q hn)
 ·obtain⟨sl,q1⟩:=I.base.slot b o q n hn zac
  obtain⟨zQ,q3⟩:=fH b (zau _ hn) _ q1
  exact⟨zQ,q3⟩
 ·obtain⟨o1,q1⟩:=I.base.there b o q zac
  by_cases hm:b∈bK (envOfC qual scope s₀.heap.objs.size f cd::outer)
  ·obtain⟨sl,q3⟩:=fH b hm o1 q1
   exact⟨_,q3⟩
  ·exact⟨o1,into b o1 q1 hm⟩
 ·cases q:H e with
  | none=>rfl
  | some ho=>
   obtain⟨o2,q2⟩:=(I.aL e ho q).vJ
   rw[hx.new] at q2
   cases q2
 ·obtain⟨gT,hH⟩:=zbN.mp hb
  obtain⟨o2,q2⟩:=(I.aL b gT hH).vJ
  have q3:=into b o2 q2 (zR b hb)
  have i7:h'.get? b=some o:=ho
  rw[q3] at i7
  cases i7
  exact hideAll_get _ q2<|zR b hb
 ·obtain⟨o1,q1⟩:=I.base.there b o q zac
  have i5:=nL b o q hn
  have q3:=into b o1 q1 i5
  have i7:h'.get? b=some o':=dG
  rw[q3] at i7
  cases i7
  exact hideAll_get _ q1 i5
end
section
variable {X:Cx}
theorem Sn{x:Str}{C:Addr}{bm:List Value}{B newId pF:String}{e:Expr}{es:List Expr}{t:TA}{np de pos:Pos}{E:XK}(hc:X.calm=true)(O:OwnCls x C bm newId X.mg X.base)(FB:ExcBaseFacts B newId pF bm)(zS:Gl X x)
  (hd:(x==("__debug__":Str))=false) (ha:PA X (e::es) t) (hs:starEach (e::es) X.env=(false,eval e X.env)::starEach es X.env) (h1:(backTo de<|starEach es X.env).any (·.1)=false) (hR:Raises X E):
  PS X (.Raise (some<|.Call (.Name x np) (e::es) [] de) none pos) (zw C E t):=by
 intro pins s σ H D I h
 obtain⟨tl,N,nm,q,bs,hdct,sn,sub,ab,col,dd,k0,k1,k2,k3,k5,mN,hC,hN,vM,T⟩:=O.obj
 have hg:PE X (.Name x np) (tC<|.ref C):=Df zS O.bound rfl hd
 refine wpAny_Raise_call_subT (C:=C) (nm:=nm) (q:=q) (N:=N) (bs:=bs) (bm:=tl) (hdct:=hdct) (sn:=sn) (sub:=sub) (ab:=ab) (col:=col) (dd:=dd) (k0:=k0) (k1:=k1) (k2:=k2) (k3:=k3) (k5:=k5)
  FB (mN:=mN) (T.hasType FB.hasBase) (I.ok.hd hc) (by rw[hs];show(false || (backTo de<|starEach es X.env).any (·.1))=false;rw[h1];rfl) vM
  (aV (hg pins s σ H (fun v H1=>v= .ref C/\zw C E t D σ H1) I ⟨rfl,h⟩) fun f s1 ⟨v,H1,I1,r1,ev,q1⟩=> ?_)
 subst ev
 obtain rfl:f=Value.ref C:=r1
 refine⟨rfl, ?_⟩
 have hA:=ha de pins s1 σ H1 _ I1 q1
 rw[hs] at hA⊢
 refine Calls.evalArgs_plain<|aV hA fun us s2 ⟨vs,H2,I2,r2,hl,q2⟩=> ⟨rfl, ?_,I2.bk _ _ hC,hN.keeps I2.bk,T.keeps I2.bk,fun h' e' hm=>hR pins σ H2 s2 h' e' _ _ I2 hm q2⟩
 have:=r2.length
 show us.length<=sizeLine
 lia
end
theorem Fq{P:Program}{w:World}{l:List Env}{H H':Hp}{h h1 h' B:Heap}(u:Un (bK l) [] H H' h h1)(aL:bZ P w H' h1)(fr:h1.FunFrames B l)
  (c1: ∀b,H' b≠none-> ∀o,h1.get? b=some o->B.get? b=some o) (c2: ∀b o,h.get? b=some o->b∉bK l-> ∀o',h1.get? b=some o'->B.get? b=some o') (st:B.StaysIn h') (up:h1.UpToSlots h'):
  Un (bK l) [] H H' h h'/\bZ P w H' h'/\(∀b,H' b≠none-> ∀o,h'.get? b=some o->B.get? b=some o)/\(∀b o,h.get? b=some o->b∉bK l-> ∀o',h'.get? b=some o'->B.get? b=some o'):=by
 have jz: ∀b o,H' b≠none->h1.get? b=some o->h'.get? b=some o:=fun b o hb ho=>st b o (c1 b hb o ho)
 have into: ∀b o,h.get? b=some o->b∉bK l-> ∀o',h1.get? b=some o'->h'.get? b=some o':=fun b o hb hn o' dG=>st b o' (c2 b o hb hn o' dG)
 have fH: ∀b∈bK l,∀o,h1.get? b=some o-> ∃sl,h'.get? b=some {o with slots:=sl}:=fun b hb o ho=>by
  obtain⟨o1,i0,hd⟩:=(fr.mem hb).2
  rw[ho] at i0
  cases i0
  exact up b o ho hd
 refine⟨⟨fun b o q n hn _=>into b o q hn o<|u.keep b o q n hn zac,fun b o q n hn _=> ?_,u.free,fun b o q _=> ?_,u.eA,u.eV,u.fo⟩,aL.vK<|fun b o hb ho=>jz b o hb ho,fun b hb o ho=> ?_,fun b o q hn o' dG=> ?_⟩
 ·obtain⟨sl,q1⟩:=u.slot b o q n hn zac
  obtain⟨qZ,q2⟩:=fH b hn _ q1
  exact⟨qZ,q2⟩
 ·obtain⟨o1,q1⟩:=u.there b o q zac
  by_cases hm:b∈bK l
  ·obtain⟨sl,q3⟩:=fH b hm o1 q1
   exact⟨_,q3⟩
  ·exact⟨o1,into b o q hm o1 q1⟩
 ·obtain⟨gT,hH⟩:=zbN.mp hb
  obtain⟨o2,q2⟩:=(aL b gT hH).vJ
  have q3:=jz b o2 hb q2
  rw[q3] at ho
  cases ho
  exact c1 b hb _ q2
 ·obtain⟨o2,q2⟩:=u.there b o q zac
  have q3:=into b o q hn o2 q2
  rw[q3] at dG
  cases dG
  exact c2 b o q hn _ q2
def Cx.alt(X:Cx)(A:Around)(calm:Bool)(pn:List (Addr×Obj))(xe:Value->Shared->Prop):Cx:={X with A:=A,calm:=calm,pn:=pn,xe:=xe}
theorem Inv.alt{X:Cx}{pins ie nE:List (Addr×Obj)}{σ:St}{H:Hp}{s:Shared}{A':Around}{pG:Bool}{zT:Value->Shared->Prop}(I:Inv X pins σ H s)(hf:A'.frames=X.A.frames)(hc:pG=true->A'.handled=none)(hp: ∀p∈nE++ie,p∈X.pn++pins):
  Inv (X.alt A' pG nE zT) ie σ H s where
 ok:=⟨I.ok.mod,I.ok.kind,I.ok.glob,I.ok.blt,I.ok.above,I.ok.inj,I.ok.has,I.ok.uL,hc,hf.trans I.ok.frames,I.ok.ib,I.ok.Nt,I.ok.bs,I.ok.lQ,I.ok.uM,I.ok.uN,I.ok.ic,I.ok.mZ⟩
 os:=I.os
 bare:=I.bare
 base:=I.base
 loc:=I.loc
 cell:=I.cell
 free:=I.free
 fS:=I.fS
 pin:=fun p h=>I.pin p (hp p h)
 aL:=I.aL
 len:=I.len
theorem Inv.zU{X:Cx}{pins ie nE:List (Addr×Obj)}{σ:St}{H:Hp}{s:Shared}{A':Around}{pG:Bool}{zT:Value->Shared->Prop}(ok:X.Ok)(I:Inv (X.alt A' pG nE zT) ie σ H s)(hp: ∀p∈X.pn++pins,p∈nE++ie):
  Inv X pins σ H s where
 ok:=ok
 os:=I.os
 bare:=I.bare
 base:=I.base
 loc:=I.loc
 cell:=I.cell
 free:=I.free
 fS:=I.fS
 pin:=fun p h=>I.pin p (hp p h)
 aL:=I.aL
 len:=I.len
theorem So{P:Program}{w:World}{H:Hp}{h:Heap}{ea:Addr}{ob:Obj}(h1:h.get? ea=some ob):cB P w H h ea (.bE ob fZ):=
 ⟨h1,trivial,⟨ob,h1⟩,fun _ _ _ _=>trivial⟩
theorem bZ.more{P:Program}{w:World}{H:Hp}{h:Heap}{a:Addr}{o:HO}(ok:bZ P w H h)(ha:H a=none)(x:cB P w (upd H a o) h a o):bZ P w (upd H a o) h:=fun b u e=>by
 by_cases z:b=a
 ·subst z
  rw[aD] at e
  cases e
  exact x
 ·rw[aR z] at e
  exact(ok b u e).ia (fun _ _ _ q=>q) (fun c q=>by rw[aR<|bT q ha];exact q) (fun c xs q=>by rw[aR<|bT q ha];exact q)
section
variable {X:Cx}
theorem Inv.Sq{pins:List (Addr×Obj)}{σ:St}{H:Hp}{s:Shared}{h':Heap}{m':Str->Option Value}{tk:Nat}(I:Inv X pins σ H s)(hn:h'.Ns X.env.locals m')(sb:Heap.SameBut X.env.locals s.heap h'):
  Inv X pins (List.replicate X.N.length none) H {s with heap:=h',toks:=tk} where
 ok:=I.ok
 os:=I.os
 bare:=I.bare
 base:=by
  have ne: ∀b o,X.s₀.heap.get? b=some o->b≠X.env.locals:=fun b o q z=>by
   rw[z] at q
   exact absurd (Heap.lt_size q)<|Nat.not_lt.mpr I.ok.above
  refine⟨fun b o q n hn hx=> (sb.2 b<|ne b o q).trans<|I.base.keep b o q n hn hx,fun b o q n hn hx=> ?_,I.base.free,fun b o q hx=> ?_,I.base.eA,I.base.eV,I.base.fo⟩
  ·obtain⟨sl,e⟩:=I.base.slot b o q n hn hx
   exact⟨sl,(sb.2 b<|ne b o q).trans e⟩
  ·obtain⟨o',e⟩:=I.base.there b o q hx
   exact⟨o',(sb.2 b<|ne b o q).trans e⟩
 loc:=⟨m',hn,fun i x v h1 h2=>by
  rw[List.getElem?_replicate] at h2
  split at h2<;>cases h2⟩
 cell:=fun x c h=>by
  obtain⟨v,o,e,d⟩:=I.cell x c h
  refine⟨v,o,(sb.2 c<|fun z=> ?_).trans e,d⟩
  obtain⟨m,⟨o2,es,ep,e2,d2,_⟩,_⟩:=I.loc
  rw[z,e2] at e
  cases e
  rw[d] at d2
  cases d2
 free:=I.free
 fS:=I.fS
 pin:=fun p hp=>by
  obtain⟨a,b,c,d,e⟩:=I.pin p hp
  exact⟨(sb.2 _ c).trans a,b,c,d,e⟩
 aL:=I.aL.vK fun b u hb hu=> (sb.2 b<|fun z=>hb (by rw[z];exact I.free)).trans hu
 len:=List.length_replicate
theorem Sr{x n:Str}{C:Addr}{i:Nat}{body:List Stmt}{b₀:Stmt}{zV:List Stmt}{tb:XK->TS}{th:Addr->TS}{np pH pos:Pos}(jC:X.stack=X.env::X.outer)(rX:X.env.frame=some X.env.locals)(hex:X.ex=[])
  (zS:Gl X x) (hd:(x==("__debug__":Str))=false) (iW:X.mg x=some (.ref C)) (nd:X.N.Nodup) (hN:X.N[i]?=some n) (ip:X.env.scope.names.lookup n=some .local)
  (hb: ∀(pn:List (Addr×Obj)) (xe:Value->Shared->Prop) (E:XK),PassesOwn (model X.prog X.w) X.A X.env xe->Passes (ej X.prog X.w) (X.alt X.A X.calm pn xe) E->cP (X.alt X.A X.calm pn xe) body (tb E))
  (hh: ∀(ea:Addr) (pn:List (Addr×Obj)),cP (X.alt (X.A.mark<|some<|.ref ea) false pn fun _ _=>False) (b₀::zV)<|th ea):
  PS X (.Try body [.ExceptHandler (some<|.Name x np) (some n) (b₀::zV) pH] [] [] pos) (vE X.K C i X.N.length tb th):=by
 intro pins s σ H D I h
 refine wpAny_Try_except ?_
 have P1:Passes (ej X.prog X.w) (X.alt X.A X.calm (X.pn++pins) fun e s₁=>wpAny (model X.prog X.w) X.A (noteFrame e X.env) (fun _ s₂=>wpAny (model X.prog X.w) X.A (setFlight e none) (fun _ s₃=>wpAny (model X.prog X.w) X.A (handleBy e X.env [.ExceptHandler (some<|.Name x np) (some n) (b₀::zV) pH]) (SP X pins D) X.xe s₃) X.xe s₂) X.xe s₁) (E5 X.K C i X.N.length th D):=by
  intro ie σ' H1 s1 e' s' I1 hx
  obtain⟨ea,cls,t,B,H',rfl,os,bare,u,aL,fl,rW,gb,c1,c2,hm,Ss⟩:=hx
  have Su:X.A.frames=some (X.env::X.outer):=by rw[I.ok.frames,jC]
  have iu:Heap.FlyingW B (X.env::X.outer) ea cls (.ref t) s'.heap:=by rw[<-jC];exact fl
  refine wpAny_mono (rV Fo rW<|wpAny_looks_onW (Q:=fun _ fW=> ∃h',fW={s' with heap:=h'}/\Heap.HeldW B (X.env::X.outer) ea cls (.ref t) X.env.locals h'/\s'.heap.UpToSlots h') (E:=fun _ _=>False) Su rX iu fun h4 zW zX=> ⟨h4,rfl,zW,zX⟩)
   (fun _ s4 hq=> ?_) (fun _ _ z=>z.1.elim)
  obtain⟨⟨h4,rfl,zW,zX⟩,zY⟩:=hq
  refine wpAny_mono (rV zN zY<|wpAny_landsW (s:={s' with heap:=h4}) (Q:=fun _ fW=> ∃h',fW={s' with heap:=h'}/\Heap.FlyingW B (X.env::X.outer) ea cls (.ref t) h'/\h4.UpToSlots h') (E:=fun _ _=>False) zW fun h5 pI zZ=> ⟨h5,rfl,pI,zZ⟩)
   (fun _ s5 hq=> ?_) (fun _ _ z=>z.1.elim)
  obtain⟨⟨h5,rfl,Sv,zZ⟩,Sw⟩:=hq
  have pI:Heap.FlyingW B X.stack ea cls (.ref t) h5:=by rw[jC];exact Sv
  obtain⟨u5,Fs,Sx,Sy⟩:=Fq (l:=X.stack) u aL fl.2.2.1 c1 c2 pI.1 (zX.trans zZ)
  obtain⟨oe,ws,Sz,SA,aeu,aev⟩:=pI.first
  have I5:=I1.yu (s':={s' with heap:=h5}) (ch:=[]) os u5 Fs bare (fun b z=>absurd z zac)
  refine wpAny_handleBy_cons (codeAny_handlers_test ?_) (by intro q;cases q)
  have qT:Inv (X.alt (X.A.mark<|some<|.ref ea) false (X.pn++pins) fun _ _=>False) [] σ' H' {s' with heap:=h5}:=I5.alt (A':=X.A.mark (some<|.ref ea)) (pG:=false) (nE:=X.pn++pins) (ie:=[]) rfl (fun z=>nomatch z) (fun p hp=>zax.mpr<|.inl (by rw[zaC] at hp;exact hp))
  refine o7 qT zS iW ?_ hd
  have LT:PySem.W.Looks (model X.prog X.w) h5 (typeOf<|.ref ea) cls:=by
   subst SA
   exact(PySem.W.Looks.ld Sz).andThen .now
  refine(PySem.W.exm_one I5.cj LT hm).here ?_
  refine codeAny_handlers_suite_as ?_
  refine wpAny_mono (rV zN Sw<|lands_againW (s:={s' with heap:=h5}) (Q:=fun _ fW=> ∃h',fW={s' with heap:=h'}/\Heap.FlyingW B X.stack ea cls (.ref t) h'/\h5.UpToSlots h') (E:=fun _ _=>False) pI fun h6 pJ z_=> ⟨h6,rfl,pJ,z_⟩)
   (fun _ s6 hq=> ?_) (fun _ _ z=>z.1.elim)
  obtain⟨⟨h6,rfl,pJ,z_⟩,SD⟩:=hq
  obtain⟨u6,SE,c16,SF⟩:=Fq (l:=X.stack) u5 Fs pI.2.2.1 Sx Sy pJ.1 z_
  obtain⟨pK,Ft,vN,SH,Aa,_⟩:=pJ.first
  have SI:vD pK cls Ft:=by
   obtain⟨o',vs',q1,q2,q3,q4⟩:=SD
   have Fu:h6.get? ea=some o':=q1
   rw[vN] at Fu
   cases Fu
   rw[Aa] at q2
   cases q2
   exact⟨SH,Aa,q3,q4⟩
  have ne1:s1.heap.get? ea=none:=by
   cases q:s1.heap.get? ea with
   | none=>rfl
   | some o1=>
    by_cases Fv:ea∈bK X.stack
    ·obtain⟨o2,gT,hd2⟩:=(pJ.2.2.1.mem Fv).2
     rw[vN] at gT
     cases gT
     exact(hd2 _ Aa).elim
    ·have:=SF ea o1 q Fv pK vN
     rw[pJ.2.1] at this
     cases this
  have u7:Un (bK X.stack) [] H1 (upd H' ea (.bE pK fZ)) s1.heap h6:=⟨u6.keep,u6.slot,fun b o q n hx=>by
    rw[aR (fun z=>by rw[z,ne1] at q;cases q)];exact u6.free b o q n hx,u6.there,fun b xs q=>by
    have q':=u6.eA b xs q
    rw[aR<|bT q' gb];exact q',fun b o v q=>by
    have q':=u6.eV b o v q
    rw[aR<|bT q' gb];exact q',fun b ps q=>by
    obtain⟨more,q'⟩:=u6.fo b ps q
    exact⟨more,by rw[aR (bT q' gb)];exact q'⟩⟩
  have SJ:bZ X.prog X.w (upd H' ea<|.bE pK fZ) h6:=SE.more gb (So vN)
  have I7:=I1.yu (s':={s' with heap:=h6}) (ch:=[]) os u7 SJ bare (fun b z=>absurd z zac)
  have I8:Inv (X.alt (X.A.mark<|some<|.ref ea) false (X.pn++pins) fun _ _=>False) [] σ' (upd H' ea<|.bE pK fZ) {s' with heap:=h6}:=I7.alt (A':=X.A.mark (some<|.ref ea)) (pG:=false) (nE:=X.pn++pins) (ie:=[]) rfl (fun z=>nomatch z) (fun p hp=>zax.mpr<|.inl (by rw[zaC] at hp;exact hp))
  refine yt (X:=X.alt (X.A.mark<|some<|.ref ea) false (X.pn++pins) fun _ _=>False) (v:= .ref ea) I8 nd hN (.inl ip) rfl (fun s9 I9=> ?_)<|.inr ip
  refine wpAny_mono (hh ea (X.pn++pins) [] s9 _ _ {nx:=fun _ _=>False,rt:=D.rt} I9<|Ss ea pK Ft σ' gb I1.len SI) (fun f pL hs=> ?_) fun _ _ z=>z.elim
  cases f with
  | next=>obtain⟨_,_,_,z⟩:=hs;exact z.elim
  | brk=>obtain⟨_,_,_,z⟩:=hs;exact z.elim
  | cont=>obtain⟨_,_,_,z⟩:=hs;exact z.elim
  | ret v=>
   obtain⟨v',SK,pM,SN,r,q⟩:=hs
   have Fw:Inv X pins SK pM pL:=SN.zU I.ok (fun p hp=>by simpa using hp)
   obtain⟨m,hn,_⟩:=Fw.loc
   refine wpAny_nameGoes ip hn (by rw[I.ok.kind];rfl) fun h' m' yq sb=> ?_
   exact⟨v',_,pM,Fw.Sq yq sb,r,q⟩
 refine wpAny_mono (hb _ _ _ PassesOwn.looking P1 [] s σ H {nx:=D.nx,rt:=D.rt} (I.alt rfl I.ok.hd<|fun p hp=>by simpa using hp) h) (fun f s1 hs=> ?_) fun e' s' hx=>hx
 cases f with
 | next=>
  obtain⟨σ',H',I',q⟩:=hs
  exact Dr pins s1 σ' H' D (I'.zU I.ok<|fun p hp=>by simpa using hp) q
 | brk=>obtain⟨_,_,_,z⟩:=hs;exact z.elim
 | cont=>obtain⟨_,_,_,z⟩:=hs;exact z.elim
 | ret v=>
  obtain⟨v',σ',H',I',r,q⟩:=hs
  exact⟨v',σ',H',I'.zU I.ok<|fun p hp=>by simpa using hp,r,q⟩
end
def vO(A:Around)(H:Hp):Prop:= ∃e D,A.handled=some (.ref e)/\ExcAt H e D
def Hd(X:Cx):Prop:=vO X.A X.H₀
theorem ExcAt.keeps{H H':Hp}{e D:Addr}(h:ExcAt H e D)(k: ∀b o u,H b=some (.bE o u)->H' b=some (.bE o u)):ExcAt H' e D:=by
 obtain⟨ob,vs,h1,h2⟩:=h
 exact⟨ob,vs,k _ _ _ h1,h2⟩
section
variable {X:Cx} {pins:List (Addr×Obj)} {σ:St} {H:Hp} {s:Shared}
end
section
variable {X:Cx} {tg:Expr}
theorem SO:bQ X (.builtin "isinstance") (jJ X.K):=by
 intro pins s σ H xs us Q I r h
 match xs,h with
 | [.ref ea,c],h=>
  obtain⟨D,b,⟨ob,vs,h1,h2⟩,hC,hc,hk,hq⟩:=h
  cases r with
  | cons r1 r=>
   cases r with
   | cons r2 r=>
    cases r
    rename_i u1 u2
    cases (show u1=Value.ref ea from r1)
    have e2:u2=cV c:=by
     rcases hc with⟨C,rfl⟩ | ⟨n,rfl⟩
     ·exact r2
     ·exact r2
    subst e2
    have at_:=(I.aL ea _ h1).1
    have inst:InstAt s.heap ea ob D none:=⟨at_,h2.cls,by unfold PySem.W.notCls;rw[h2.data],by rw[h2.dict];trivial⟩
    exact kia_one (R8 hC.rH hC.rJ hC.hk hC.ha hC.hn hC.lU hC.hm hC.hb) I.cj inst hk (fun z=>nomatch z) fun tk=> ⟨.bl b,H,I.tok tk,rfl,hq⟩
end
structure gc (k:Nat) (A:Around):Prop where
 dp:A.depth+3*k+5<recursionLimit
 un:A.units+16*k+200<cLine
theorem cJ.h{k:Nat}{A:Around}(r:cJ k A):gc k A:=⟨r.dp,r.un⟩
theorem gc.mark{k:Nat}{A:Around}(r:gc k A)(v:Option Value):gc k (A.mark v):=⟨r.dp,r.un⟩
theorem gc.deeper{k:Nat}{A:Around}(r:gc (k+1) A)(env:Env):gc k (A.deeper env):=
 ⟨by have:=r.dp;show A.depth+1+3*k+5<_;lia,by have:=r.un;show A.units+3+16*k+200<_;lia⟩
theorem gc.depth{k:Nat}{A:Around}(r:gc k A):A.depth<recursionLimit:=by have:=r.dp;lia
theorem gc.units{k:Nat}{A:Around}(r:gc k A):A.units+64<cLine:=by have:=r.un;lia
def SQ(outer:List Env)(P:Program)(w:World)(H:Hp)(s:Shared)(Q:VK)(r:Result)(s':Shared):Prop:=
 match r with
 | .ok (.ret u)=>CE outer P w H s Q u s'
 | _=>False
structure nF (P:Program) (w:World) (K:Frag) (mg:Str->Option Value) (base:Heap) (k:Nat) (f:Addr) (fd:FuncData) (ps:List Str) (sp:Sp):Prop where
 len: ∀vs H Q E,sp vs H Q E->vs.length=ps.length
 run: ∀(A:Around) (outer:List Env) (s:Shared) (H:Hp) (args:Args) (us:List Value) (vs:List V) (Q:VK),gc k A->vO A H->ky P w K mg base A outer s H->BindsTo s fd args (ps.zip us)->Vals vs us->sp vs H Q E0->
  codeAny (model P w) A (.call (.ref f) args) (SQ outer P w H s Q) s
theorem nF.mono{P:Program}{w:World}{K:Frag}{mg:Str->Option Value}{base:Heap}{j k:Nat}{f:Addr}{fd:FuncData}{ps:List Str}{sp:Sp}(F:nF P w K mg base j f fd ps sp)(h:j<=k):nF P w K mg base k f fd ps sp:=
 ⟨F.len,fun A outer s H args us vs Q hr=>F.run A outer s H args us vs Q ⟨by have:=hr.dp;lia,by have:=hr.un;lia⟩⟩
def vP(CX:bM)(P:Program)(w:World)(K:Frag)(mg:Str->Option Value)(base:Heap)(N:List Str)(qual:Str)(scope:Scope)(f:Addr)(cd:Value)(A:Around)(outer:List Env)(s:Shared)(H:Hp):Cx:=
 (kz CX P w K mg base N qual scope f cd {A with handled:=none} outer s H E0).alt (A.deeper<|envOfC qual scope s.heap.objs.size f cd) false [] fun _ _=>False
theorem SR{CX:bM}{P:Program}{w:World}{K:Frag}{mg:Str->Option Value}{base:Heap}{k:Nat}{f:Addr}{name qual:Str}{params:Arguments}{body:List Stmt}{scope:Scope}{dV kV doc pm bt ct oc:Value}{an od:Option Addr}
  {e7:Array (Option Value)} {N ps:List Str} {sp:Sp} (lk:K.lookup f=some ⟨oc,od, .func<|PySem.W.fnOf name qual params body scope dV kV doc pm an bt ct,e7⟩) (fq:PySem.W.codeIn K bt qual=true) (S:jF N ps scope)
  (len: ∀vs H Q E,sp vs H Q E->vs.length=ps.length)
  (yM: ∀(A:Around) (outer:List Env) (s:Shared) (H:Hp) (vs:List V) (Q:VK),gc k (A.deeper (envOfC qual scope s.heap.objs.size f bt))->vO A H->sp vs H Q E0->
   ∃t,cP (vP CX P w K mg base N qual scope f bt A outer s H) body t/\t {nx:=fun _ H'=>Q .aA H',rt:=Q} (start N vs) H):
  nF P w K mg base (k+1) f (PySem.W.fnOf name qual params body scope dV kV doc pm an bt ct) ps sp:=by
 refine⟨len,fun A outer s H args us vs Q hr hh e0 hb r gR=> ?_⟩
 have hl:=len _ _ _ _ gR
 have KX:K.In s.heap:=e0.mod.mY.keeps fun b o e=> (e0.bs b o e).1
 have lim:s.heap.NoLimit:=e0.mod.nolimit.keeps fun b o e=> (e0.bs b o e).1
 have yN: ∀y∈ps.zip us,scope.names.lookup y.1=some .local\/(scope.names.lookup y.1=some .cell/\((cellsFrom (s.heap.objs.size+1) scope.names []).lookup y.1).isSome=true):=fun⟨n,v⟩ hy=>by
  rcases S.par n (zbt hy).1 with q | q
  ·exact .inl q
  ·exact .inr ⟨q,cellsFrom_some _ _ _<|.inl q⟩
 refine codeAny_call_function hr.depth (KX _ _ lk) rfl S.co S.gen rfl (codeRec_of KX fq)<|hb _ _ _ _ ?_
 refine wpAny_newFunctionEnv_cells S.kind yN fun env he s1 x=> ?_
 subst he
 refine⟨lim.keeps x.toInCall.keep,codeAny_func ?_⟩
 obtain⟨t,ht,hq⟩:=yM A outer s H vs Q (hr.deeper _) hh gR
 have SS:ky P w K mg base {A with handled:=none} outer s H:=⟨e0.frames,e0.mod,e0.bs,e0.lQ,e0.ic,e0.mZ,e0.aL,e0.bare⟩
 have I0:Inv (kz CX P w K mg base N qual scope f bt {A with handled:=none} outer s H E0) [] (start N vs) H s1:=D5 S rfl SS hl r x
 have I:Inv (vP CX P w K mg base N qual scope f bt A outer s H) [] (start N vs) H s1:=I0.alt rfl (fun z=>nomatch z) (fun p hp=>hp)
 refine wpAny_mono (ht [] s1 (start N vs) H _ I hq) (fun fl s' hs=> ?_) fun e s' hs=>hs.elim
 have fin: ∀{σ':St} {H':Hp} {v:V} {u:Value},Inv (vP CX P w K mg base N qual scope f bt A outer s H) [] σ' H' s'->RelV v u->Q v H'->CE outer P w H s Q u s':=
  fun {σ' H' v u} J rv q=> ⟨v,H',J.os,J.bare,J.base,J.aL,rv,q⟩
 cases fl with
 | ret u=>
  obtain⟨v,σ',H',J,rv,q⟩:=hs
  exact fin J rv q
 | next=>
  obtain⟨σ',H',J,q⟩:=hs
  exact fin (v:=V.aA) (u:=Value.none) J rfl q
 | brk=>
  obtain⟨_,_,_,q⟩:=hs
  exact False.elim q
 | cont=>
  obtain⟨_,_,_,q⟩:=hs
  exact False.elim q
theorem SU{CX:bM}{P:Program}{w:World}{K:Frag}{mg:Str->Option Value}{base:Heap}{N:List Str}{qual:Str}{scope:Scope}{f:Addr}{cd:Value}{A:Around}{outer:List Env}{s:Shared}{H:Hp}(h:vO A H):Hd (vP CX P w K mg base N qual scope f cd A outer s H):=h
section
variable {X:Cx} {k:Nat} {f:Addr} {fd:FuncData} {ps:List Str} {sp:Sp} {x:Str} {p pos:Pos} {e:Expr} {ta:TE} {hv:Option Addr}
theorem SV(F:nF X.prog X.w X.K X.mg X.base k f fd ps sp)(hr:gc k X.A)(hg:Gl X x)(hm:X.mg x=some (.ref f))(hk:PySem.W.keepIn X.K (.ref f)=true)(hb:Binds X.K fd ps [])(hh: ∀e,hv=some e->X.A.handled=some (.ref e))
  (ha:PE X e ta) (hs:noStar e=true) (iQ:(x==("__debug__":Str))=false):PE X (.Call (.Name x p) [e] [] pos) (E4 sp hv<|cK ta fA):=by
 intro pins s σ H Q I h
 have he:starEach [e] X.env=(false,eval e X.env)::starEach [] X.env:=by cases e<;>first | rfl | cases hs
 refine wpAny_Call_Name_kw<|o7 I hg hm ?_ iQ
 have hA:PA X [e] (cK ta fA):=jE ha ng he
 refine callWith_K (h₀:=X.base) I.ok.mod.mY hk (aV (hA pos pins s σ H _ I h) fun us s1 ⟨vs,H1,I1,r,⟨ea,D,h1,h2⟩,q⟩=> ⟨I1.cj, ?_⟩) he rfl
 have r2:Vals vs us:=r
 have hl:us.length=ps.length:=by rw[<-r2.length];exact F.len _ _ _ _ q
 have pf:=hb s1 us I1.cj (by rw[zaC];exact hl)
 rw[zaC] at pf
 refine wpAny_call<|codeAny_mono (F.run X.A X.stack s1 H1 ⟨us,[]⟩ us vs Q hr ⟨ea,D,hh ea h1,h2⟩ I1.yJ pf r2 q) fun r s' hq=> ?_
 cases r with
 | error e=>exact False.elim hq
 | ok fl=>
  cases fl with
  | ret u=>exact I1.after hq
  | next=>exact False.elim hq
  | brk=>exact False.elim hq
  | cont=>exact False.elim hq
end
def Fx(CX:bM)(X:Cx)(x:Str)(sp:Sp):Prop:=
 ∃k f fd ps,cb X.prog X.w X.K X.mg X.base CX k f fd ps sp/\cJ k X.A/\X.mg x=some (.ref f)/\PySem.W.keepIn X.K (.ref f)=true/\Binds X.K fd ps []
def vQ(CX:bM)(X:Cx)(C:Addr)(m:Str)(sp:Sp):Prop:=
 eZ X.K C/\ ∃k f fd ps,Meth X.K C m f/\cb X.prog X.w X.K X.mg X.base CX k f fd ps sp/\cJ k X.A/\Binds X.K fd ps []
def Fy(CX:bM)(X:Cx)(x:Str)(C:Addr)(sp:Sp):Prop:=
 ∃k f fd ps,Mk X.K C f/\cb X.prog X.w X.K X.mg X.base CX k f fd ps sp/\cJ (k+1) X.A/\X.mg x=some (.ref C)/\Binds X.K fd ps []
def Fz(X:Cx)(x:Str)(sp:Sp):Prop:=
 ∃k f fd ps,nF X.prog X.w X.K X.mg X.base k f fd ps sp/\gc k X.A/\X.mg x=some (.ref f)/\PySem.W.keepIn X.K (.ref f)=true/\Binds X.K fd ps []
def FA(X:Cx)(x:Str)(C:Addr):Prop:= ∃bm B newId pF,OwnCls x C bm newId X.mg X.base/\ExcBaseFacts B newId pF bm
structure Good (CX:bM) (S:cg) (Γ:aX) (X:Cx):Prop where
 N:X.N=S.N
 sc:X.env.scope=S.sc
 K:X.K=Γ.K
 calm:S.md=0->X.calm=true
 units:X.A.units+64<cLine
 fns:S.md=0-> ∀j x,S.fn[j]?=some x->Fx CX X x (Γ.fs j)
 jM: ∀j x,S.gn[j]?=some x-> ∃u,X.mg x=some u/\RelV (Γ.gv j) u
 cH: ∀x,S.bl.contains x=true->X.mg x=none
 pass:Passes CX X Γ.E
 jN: ∀outer H s e s',CX outer H s E0 e s'->False
 kS: ∀p aQ,Γ.sd p aQ-> ∀h:Heap,X.K.In h-> ∃vs,KV aQ vs/\h.DictOf (jw X.prog X.w) p vs
 kT:S.md=0-> ∀j m,S.mn[j]?=some m->vQ CX X (Γ.ms j).1 m (Γ.ms j).2
 kU:S.md=0-> ∀j x,S.kn[j]?=some x->Fy CX X x (Γ.kt j).1 (Γ.kt j).2
 pN: ∀j x,S.en[j]?=some x->FA X x (Γ.ex j)
 kW: ∀j x,S.hn[j]?=some x->Fz X x (Γ.hs j)
 mh: ∀e,Γ.hv=some e->X.A.handled=some (.ref e)
 pP:S.md=1->Hd X
theorem vR{S:cg}(h:(if S.md=0 then 0 else 2)=0):S.md=0:=by
 split at h
 ·assumption
 ·cases h
section
variable {CX:bM} {S:cg} {Γ:aX} {X:Cx}
theorem Good.inner(G:Good CX S Γ X)(c:rP)(ln:List Str)(fv:List (Str×Nat))(ex:List Addr)(C:Addr)(s:Shared)(H:Hp):
  Good CX (Fl S c ln fv) Γ.calm (fY X c.sc (ln++fv.map (·.1)) ex C s H) where
 N:=rfl
 sc:=by
  show relabel c.sc X.env=zF c.sc S.sc
  rw[<-G.sc];rfl
 K:=G.K
 calm:=fun h=>G.calm (vR h)
 units:=G.units
 fns:=fun m j x h=>G.fns (vR m) j x h
 jM:=G.jM
 cH:=G.cH
 pass:=fun _ _ _ _ _ _ _ h=> (G.jN _ _ _ _ _ h).elim
 jN:=G.jN
 kS:=G.kS
 kT:=fun z j m h=>G.kT (vR z) j m h
 kU:=fun z j x h=>G.kU (vR z) j x h
 pN:=fun j x h=>by simp[Fl] at h
 kW:=fun j x h=>G.kW j x h
 mh:=fun e h=>G.mh e h
 pP:=fun h=>by
  have h':(if S.md=0 then 0 else 2)=1:=h
  split at h'<;>cases h'
theorem Good.gl(G:Good CX S Γ X){x:Str}(h:kO S.sc x=true):Gl X x:=by
 show X.env.scope.names.lookup x=_
 rw[G.sc];exact RP h
theorem cE{e:Expr}{es:List Expr}{env:Env}(h:noStar e=true):starEach (e::es) env=(false,eval e env)::starEach es env:=by
 cases e<;>first | rfl | cases h
theorem kI{o:Expr}{x:Str}{env:Env}(h:mf o=true):attributeBase o x env (eval o env)=eval o env:=by
 unfold attributeBase
 split
 ·cases h
 ·rfl
theorem vS{e:Expr}{env:Env}(h:rQ e=true): ∀x,foldedSetIterable e env x=pure x:=by
 intro x
 cases e<;>first | rfl | cases h
def dQ(es:List Expr):Bool:=es.all noStar
theorem e8(env:Env)(pos:Pos): ∀(es:List Expr),dQ es=true->(backTo pos<|starEach es env).any (·.1)=false
 | [],h=>rfl
 | e::es,h=>by
  simp only[dQ,zaS,zab] at h
  rw[cE h.1]
  have ih:=e8 env pos es h.2
  show(false || (backTo pos<|starEach es env).any (·.1))=false
  rw[ih];rfl
theorem rY(env:Env)(pos:Pos): ∀(es:List Expr),dQ es=true->(backTo pos<|starEach es env).all (fun x=> !x.1)=true
 | [],h=>rfl
 | e::es,h=>by
  simp only[dQ,zaS,zab] at h
  rw[cE h.1]
  have ih:=rY env pos es h.2
  show(!false && (backTo pos<|starEach es env).all (fun x=> !x.1))=true
  rw[ih];rfl
theorem bR{e:Expr}{es:List Expr}(h:dQ (e::es)=true):noStar e=true/\dQ es=true:=by
 simp only[dQ,zaS,zab] at h
 exact h
theorem FC(G:Good CX S Γ X){c:rP}{ln:List Str}{fv:List (Str×Nat)}(h:zH S c ln fv=true):
  iX X c.sc ln fv/\(∀x∈ln,c.sc.names.lookup x=some .local)/\(ln++fv.map (·.1)).Nodup/\rQ c.iter=true:=by
 simp only[zH,zab,decide_eq_true_eq,zaK,Bool.or_eq_true] at h
 obtain⟨⟨⟨⟨⟨⟨⟨h1,h2⟩,h3⟩,h4⟩,h5⟩,h6⟩,h7⟩,h8⟩:=h
 refine⟨⟨h1,fun y hy=>h2 y hy,fun y hy hl=> ?_,fun y hy hf=> ?_,fun p hp=> ?_⟩,h6,h7,h8⟩
 ·rcases h3 y hy with z | z
  ·exact absurd hl z
  ·exact z
 ·show X.env.scope.names.lookup y.1=_\/X.env.scope.names.lookup y.1=_
  rw[G.sc]
  rcases h4 y hy with(z | z) | z
  ·exact absurd hf z
  ·exact .inl z
  ·exact .inr z
 ·rw[G.N];exact h5 p hp
theorem FD(hc:X.calm=true){c:rP}{tk:Option Nat}{ln:List Str}{fv:List (Str×Nat)}(h:zG tk c.tg=some ln)(hl: ∀x∈ln,c.sc.names.lookup x=some .local)(hn:(ln++fv.map (·.1)).Nodup):
  rB X c.sc ln fv c.tg tk:=by
 unfold zG at h
 split at h
 ·rename_i x p he
  cases h
  rw[he]
  exact Q0 (hl x (by simp)) hn
 ·rename_i x p y q k pos he
  cases h
  rw[he]
  exact Q3 hc (hl x (by simp)) (hl y (by simp)) hn
 ·cases h
theorem SW{xs:List V}{H:Hp}{Q:VK}{K:Frag}(h:pv K .int xs H Q):(∃i,xs=[.int i]/\Q (.int i) H)\/ ∃k,xs=[.bl k]/\Q (.int (if k then 1 else 0)) H:=by
 match xs,h with
 | [.int i],h=>exact .inl ⟨i,rfl,h⟩
 | [.bl k],h=>exact .inr ⟨k,rfl,h⟩
theorem SX{K:Frag}{x:V}{H:Hp}{Q:Nat->Prop}(h:rn K x H Q): ∃n,DR K x H n/\Q n:=by
 match x,h with
 | .str y,h=>exact⟨_,⟨h.1,rfl⟩,h.2⟩
 | .ref p, .inl ⟨xs,a,b⟩=>exact⟨_, .inl ⟨xs,a,rfl⟩,b⟩
 | .ref p, .inr ⟨xs,a,b⟩=>exact⟨_, .inr ⟨xs,a,rfl⟩,b⟩
inductive SY (X:Cx) (b:l8):Prop where
 | fn (id:String) (hv:bootBuiltins b.nm=some (.builtin id)) (hc:bQ X (.builtin id) (pv X.K b))
 | ty (T:String) (hv:bootBuiltins b.nm=some (.type T)) (hc:bQ X (.type T) (pv X.K b))
theorem boot_min:bootBuiltins "min"=some (.builtin "min"):=by decide+kernel
theorem boot_max:bootBuiltins "max"=some (.builtin "max"):=by decide+kernel
theorem boot_abs:bootBuiltins "abs"=some (.builtin "abs"):=by decide+kernel
theorem boot_sum:bootBuiltins "sum"=some (.builtin "sum"):=by decide+kernel
theorem FE:bootBuiltins "isinstance"=some (.builtin "isinstance"):=by decide+kernel
theorem S0:bootBuiltins "int"=some (.type "int"):=by decide+kernel
theorem S3:bootBuiltins "list"=some (.type "list"):=by decide+kernel
theorem S5:bootBuiltins "tuple"=some (.type "tuple"):=by decide+kernel
theorem r9(f:Nat->Int)(lt:Nat->Nat->Bool)(h: ∀i j,lt i j=decide (f i<f j)): ∀n,argBest lt n<=n/\ ∀i,i<=n->f (argBest lt n)<=f i
 | 0=> ⟨zqR _,fun i hi=>by
   obtain rfl:i=0:=by lia
   exact zbi _⟩
 | n+1=>by
  obtain⟨a,b⟩:=r9 f lt h n
  have e:argBest lt (n+1)=if lt (n+1) (argBest lt n)=true then n+1 else argBest lt n:=rfl
  rw[e,h]
  split
  ·rename_i q
   have q:=of_decide_eq_true q
   refine⟨zqR _,fun i hi=> ?_⟩
   by_cases z:i=n+1
   ·rw[z];exact zbi _
   ·have:=b i (by lia);lia
  ·rename_i q
   have q: ¬f (n+1) <f (argBest lt n):=fun z=>q (zqT z)
   refine⟨by lia,fun i hi=> ?_⟩
   by_cases z:i=n+1
   ·rw[z];lia
   ·exact b i (by lia)
theorem FF{xs:Array (Int×Tok)}{i:Nat}(h:i<xs.size):numAt xs i=xs[i].1:=by
 unfold numAt
 rw[Array.getElem?_eq_getElem h];rfl
theorem vT{xs:Array (Int×Tok)}{i:Nat}(h:i<xs.size):numAt xs i∈xs.toList.map (·.1):=by
 rw[FF h]
 exact zaL.mpr ⟨xs[i],by simp,rfl⟩
theorem vU{xs:Array (Int×Tok)}{n:Int}(h:n∈xs.toList.map (·.1)): ∃i,i<xs.size/\n=numAt xs i:=by
 obtain⟨y,hy,rfl⟩:=zaL.mp h
 obtain⟨i,hi,rfl⟩:=zaX hy
 have cM:i<xs.size:=by simpa using hi
 exact⟨i,cM,by rw[FF cM];simp⟩
theorem FG{pins:List (Addr×Obj)}{σ:St}{H:Hp}{s:Shared}{p:Addr}{ns:List Int}(I:Inv X pins σ H s)(hq:aB X.K H p (ns.map V.int)): ∃xs:Array (Int×Tok),s.heap.IsList p (intItems xs)/\ns=xs.toList.map (·.1):=by
 obtain⟨its,rv,pl,hz⟩:=I.list hq
 have hi:=intsAre_of rv
 obtain⟨xs,hx⟩:=hi.allInts.items
 refine⟨xs,hx ▸ pl.isList, ?_⟩
 rw[<-nums_intItems,<-hx]
 exact(show numsOf its.toArray.toList=ns from hi.numsOf).symm
theorem S7(hc:X.calm=true):bQ X (.builtin "min") (fun xs H Q=> ∃(p:Addr) (ns:List Int),xs=[.ref p]/\aB X.K H p (ns.map V.int)/\ns≠ []/\ ∀m:Int,m∈ns->(∀n∈ns,m<=n)->Q (.int m) H):=by
 intro pins s σ H xs us Q I r h
 obtain⟨p,ns,rfl,hq,cQ,q⟩:=h
 obtain⟨u,rfl,ru⟩:=vals1 r
 cases ru
 obtain⟨xs,hl,rfl⟩:=FG I hq
 have sz:0<xs.size:=zbj fun z=>cQ (by rw[zaY z];rfl)
 refine min_intList (I.ok.hd hc) hl sz fun v h' tk hv hk=> ?_
 obtain⟨t,rfl⟩:=intItems_at hv
 obtain⟨b1,b2⟩:=r9 (numAt xs) (fun i j=>decide<|numAt xs i<numAt xs j) (fun _ _=>rfl) (xs.size - 1)
 refine⟨.int _,H,I.kept (t':=tk) hk,⟨t,rfl⟩,q _ (vT (by lia)) fun n hn=> ?_⟩
 obtain⟨i,hi,rfl⟩:=vU hn
 exact b2 i (by lia)
theorem S8(hc:X.calm=true):bQ X (.builtin "max") (fun xs H Q=> ∃(p:Addr) (ns:List Int),xs=[.ref p]/\aB X.K H p (ns.map V.int)/\ns≠ []/\ ∀m:Int,m∈ns->(∀n∈ns,n<=m)->Q (.int m) H):=by
 intro pins s σ H xs us Q I r h
 obtain⟨p,ns,rfl,hq,cQ,q⟩:=h
 obtain⟨u,rfl,ru⟩:=vals1 r
 cases ru
 obtain⟨xs,hl,rfl⟩:=FG I hq
 have sz:0<xs.size:=zbj fun z=>cQ (by rw[zaY z];rfl)
 refine max_intList (I.ok.hd hc) hl sz fun v h' tk hv hk=> ?_
 obtain⟨t,rfl⟩:=intItems_at hv
 obtain⟨b1,b2⟩:=r9 (fun i=> - numAt xs i) (fun i j=>decide<|numAt xs i>numAt xs j) (fun i j=>decide_eq_decide.mpr (by lia)) (xs.size - 1)
 refine⟨.int _,H,I.kept (t':=tk) hk,⟨t,rfl⟩,q _ (vT (by lia)) fun n hn=> ?_⟩
 obtain⟨i,hi,rfl⟩:=vU hn
 have:=b2 i (by lia)
 lia
theorem FH{x:Str}{acc:Array Value}(h:ItemsOf (SignAt x) acc x.cps.size):Vals (signs x) acc.toList:=by
 have go: ∀(l:List Nat) (us:List Value),us.length=l.length->(∀(j:Nat) (v:Value),us[j]?=some v-> ∃(c:Nat) (t:Tok),l[j]?=some c/\v=Value.str ⟨#[c]⟩ t)->Vals (l.map fun c=>V.str ⟨#[c]⟩) us:=by
  intro l
  induction l with
  | nil=>
   intro us hl _
   rw[List.length_eq_zero_iff.mp hl]
   exact .nil
  | cons c l ih=>
   intro us hl hv
   cases us with
   | nil=>cases hl
   | cons u us=>
    obtain⟨c',t,e1,e2⟩:=hv 0 u rfl
    have nv:c=c':=by simpa using e1
    subst nv
    exact .cons ⟨t,e2⟩ (ih us (by simpa using hl) fun j v hj=>by
     obtain⟨c2,t2,g1,g2⟩:=hv (j+1) v (by simpa using hj)
     exact⟨c2,t2,by simpa using g1,g2⟩)
 refine go x.cps.toList acc.toList ?_ fun j v hj=> ?_
 ·have:=h.1;simpa using this
 ·obtain⟨c,t,e1,e2⟩:=h.2 j v (by simpa using hj)
  exact⟨c,t,by simpa using e1,e2⟩
theorem FI(x:Str):(signs x).length=x.length:=by simp[signs,Str.length]
theorem S9(hc:X.calm=true):bQ X (.type "list") (fun xs H Q=> ∃x,xs=[.str x]/\x.length<=sizeLine/\ ∀l,H l=none->Q (.ref l) (upd H l<|.lst<|signs x)):=by
 intro pins s σ H xs us Q I r h
 obtain⟨x,rfl,hx,q⟩:=h
 obtain⟨u,rfl,t,rfl⟩:=vals1 r
 refine call_list_str (I.ok.hd hc) x t (fun h' tk zf c' hk e Ab=> ?_) hx
 have rv:=FH Ab
 exact⟨.ref s.heap.objs.size,_,I.laid (t':=tk) hk (zqR _) (show cB X.prog X.w _ h' _ (.lst<|signs x) from⟨by rw[FI];exact hx,zf.toList,c',rv,by simpa using e⟩),rfl,q _<|I.aL.fresh<|zqR _⟩
theorem S_(hc:X.calm=true):bQ X (.type "tuple") (fun xs H Q=> ∃x,xs=[.str x]/\x.length<=sizeLine/\ ∀l,H l=none->Q (.ref l) (upd H l<|.tup<|signs x)):=by
 intro pins s σ H xs us Q I r h
 obtain⟨x,rfl,hx,q⟩:=h
 obtain⟨u,rfl,t,rfl⟩:=vals1 r
 refine call_tuple_str (I.ok.hd hc) x t (fun h' tk acc hk Ab=> ?_) hx
 have rv:=FH Ab
 have I1:Inv X pins σ H {s with heap:=h',toks:=tk}:=I.kept (t':=tk) hk
 have I2:Inv X pins σ (upd H h'.objs.size<|.tup<|signs x) {s with heap:=h'.push {cls:= .type "tuple",data:= .seq acc},toks:=tk}:=
  I1.laid (t':=tk) (fun b o e=>Heap.get?_push_of_some _ e) (zqR _) (show cB X.prog X.w _ _ _ (.tup<|signs x) from⟨by rw[FI];exact hx,acc.toList,rv,by simpa using IsTup.new _ _⟩)
 exact⟨.ref h'.objs.size,_,I2,rfl,q _<|I1.aL.fresh<|zqR _⟩
theorem Tc(hc:X.calm=true)(b:l8):SY X b:=by
 cases b with
 | len=>exact .fn "len" boot_len (bQ.imp OF fun xs H Q h=>by
   rcases xs with _ | ⟨x,_ | ⟨_,_⟩⟩ <;> (try exact False.elim h)
   obtain⟨n,h1,h2⟩:=SX (Q:=fun n=>Q (.int n) H) h;exact⟨x,n,rfl,h1,h2⟩)
 | min=>exact .fn "min" boot_min (bQ.imp ((OD hc).or (S7 hc)) fun xs H Q h=>by
   match xs,h with
   | [.int i, .int j],h=>exact .inl ⟨i,j,rfl,h⟩
   | [.ref p],⟨ns,h1,h2,h3⟩=>exact .inr ⟨p,ns,rfl,h1,h2,h3⟩)
 | max=>exact .fn "max" boot_max (bQ.imp ((OC hc).or (S8 hc)) fun xs H Q h=>by
   match xs,h with
   | [.int i, .int j],h=>exact .inl ⟨i,j,rfl,h⟩
   | [.ref p],⟨ns,h1,h2,h3⟩=>exact .inr ⟨p,ns,rfl,h1,h2,h3⟩)
 | sum=>exact .fn "sum" boot_sum (bQ.imp (Rn hc) fun xs H Q h=>by
   rcases xs with _ | ⟨x,_ | ⟨_,_⟩⟩ <;> (try exact False.elim h) <;>cases x<;> (try exact False.elim h)
   obtain⟨ns,h1,h2⟩:=h;exact⟨_,ns,rfl,h1,h2⟩)
 | abs=>exact .fn "abs" boot_abs (bQ.imp OB fun xs H Q h=>by
   rcases xs with _ | ⟨x,_ | ⟨_,_⟩⟩ <;> (try exact False.elim h) <;>cases x<;> (try exact False.elim h)
   exact⟨_,rfl,h⟩)
 | int=>exact .ty "int" S0 (bQ.imp OE fun xs H Q h=>SW h)
 | list=>exact .ty "list" S3 (bQ.imp (PC.or (S9 hc)) fun xs H Q h=>by
   rcases xs with _ | ⟨x,_ | ⟨_,_⟩⟩ <;> (try exact False.elim h) <;>cases x<;> (try exact False.elim h)
   ·exact .inr ⟨_,rfl,h.1,h.2⟩
   ·obtain⟨ys,h1,h2⟩:=h;exact .inl ⟨_,ys,rfl,h1,h2⟩)
 | tuple=>exact .ty "tuple" S5 (bQ.imp (PD.or (S_ hc)) fun xs H Q h=>by
   rcases xs with _ | ⟨x,_ | ⟨_,_⟩⟩ <;> (try exact False.elim h) <;>cases x<;> (try exact False.elim h)
   ·exact .inr ⟨_,rfl,h.1,h.2⟩
   ·obtain⟨ys,h1⟩:=h;exact .inl ⟨_,ys,rfl,h1⟩)
structure Td (X:Cx) (m:gW) (id:String):Prop where
 pa:PlainAttrs (vH m)
 slot:Slot (vH m) m.nm id
 ty:typeOf (.builtin id)=pure (.type "method_descriptor")
 mt:iU X id (pA X.K m)
theorem Te{P:Program}{w:World}{k:Key}{u:Value}(r:RelV (kV k) u):(jw P w).is k u=true:=by
 cases k with
 | inl i=>obtain⟨t,e⟩:=(show ∃t,u=Value.int i t from r);subst e;exact Nk P w i t
 | inr x=>obtain⟨t,e⟩:=(show ∃t,u=Value.str x t from r);subst e;exact Nl P w x t
theorem Tf{aQ:List (Key×V)}{vs:List (Key×Value)}(r:KV aQ vs)(k:Key){v:V}(h:nC aQ k=some v): ∃u,valueAt vs k=some u/\RelV v u:=by
 unfold KV at r
 induction r with
 | nil=>cases h
 | @cons p q ps qs hh t ih=>
  obtain⟨h1,h2⟩:=hh
  by_cases e:p.1=k
  ·have e':q.1=k:=h1.symm.trans e
   have b:valueAt (q::qs) k=some q.2:=by simp[valueAt,zbB,e']
   have a:nC (p::ps) k=some p.2:=by simp[nC,zbB,e]
   rw[a] at h
   cases h
   exact⟨_,b,h2⟩
  ·have e': ¬q.1=k:=fun z=>e (h1.trans z)
   have b:valueAt (q::qs) k=valueAt qs k:=by simp[valueAt,zbB,e']
   have a:nC (p::ps) k=nC ps k:=by simp[nC,zbB,e]
   rw[a] at h
   rw[b]
   exact ih h
theorem Tg{sd:Addr->List (Key×V)->Prop}(Ac: ∀p aQ,sd p aQ-> ∀h:Heap,X.K.In h-> ∃vs,KV aQ vs/\h.DictOf (jw X.prog X.w) p vs):jG X (Fd sd):=by
 intro value slice pins s σ H x y v u Q I rx ry h hs
 obtain⟨p,aQ,k,z,rfl,rfl,hq,he,q⟩:=h
 cases rx
 obtain⟨vs,r,dd⟩:=Ac p aQ hq s.heap I.cj
 obtain⟨w,ew,ni⟩:=Tf r k he
 exact subscriptTail_builtinR (x:=w) dd.mapOf.typeIs PySem.F.slot_dict_getitem.lookup
  (wpAny_getItem_of (Q:=fun r s'=>r=w/\EP X pins σ Q r s') (Te ry) dd.mapOf ew ⟨rfl,z,H,I.tok _,ni,q⟩) hs
theorem Th{sd:Addr->List (Key×V)->Prop}(Ac: ∀p aQ,sd p aQ-> ∀h:Heap,X.K.In h-> ∃vs,KV aQ vs/\h.DictOf (jw X.prog X.w) p vs):jG X (l_ X.K sd):=Pn.or (Po.or<|Pp.or<|Tg Ac)
theorem vV(y:Str): ∀{ts:List Str} {us:List Value},Vals (ts.map V.str) us-> ∀(j:Nat) (h1:j<us.length) (h2:j<ts.length),(Value.isStrOf y us[j]=(ts[j]==y))
 | [],_, .nil,j,h1,_=>absurd h1 (zbk _)
 | t::ts,_, .cons r rs,0,_,_=>by
  obtain⟨k,rfl⟩:=(show ∃k,_=Value.str t k from r)
  rfl
 | t::ts,_, .cons r rs,j+1,h1,h2=>vV y rs j (zbl h1) (zbl h2)
theorem FJ{y:Str}: ∀{ts:List Str} {j:Nat},j<ts.idxOf y-> ∀(h2:j<ts.length),(ts[j]==y)=false
 | n::r,0,h,_=>by
  by_cases e:n=y
  ·subst e;simp at h
  ·simpa using e
 | n::r,j+1,h,h2=>by
  by_cases e:n=y
  ·subst e;simp at h
  ·have hb:(n==y)=false:=by simpa using e
   have h':j<r.idxOf y:=by
    rw[List.idxOf_cons,hb] at h
    exact zbl h
   exact FJ h'<|zbl h2
theorem Ti:iU X "list.index" (fun x vs H Q=> ∃(l:Addr) (y:Str) (ts:List Str),x= .ref l/\vs=[.str y]/\aB X.K H l (ts.map V.str)/\y∈ts/\Q (.int (ts.idxOf y:Nat)) H):=by
 intro pins s σ H x vs v us Q I rx rv h
 obtain⟨l,y,ts,rfl,rfl,hq,hy,q⟩:=h
 cases rx
 obtain⟨u,rfl,⟨t,rfl⟩⟩:=vals1 rv
 obtain⟨its,r,⟨⟨cls,dd,data,sl⟩,n,ho,hc,FK,hd⟩,hz⟩:=I.list hq
 simp only at hc hd
 subst hc hd
 have hlen:=r.length
 rw[zag] at hlen hz
 have hj:ts.idxOf y<ts.length:=List.idxOf_lt_length_iff.mpr hy
 have hn:=lS
 refine call_meets PySem.F.slot_list_index ⟨_,ho,rfl⟩ PySem.F.entry_list_index (PySem.F.args_list_index_2 _ _)
  (PySem.SeqAt.list_indexAt l its.toArray n dd sl (.str y t) (Value.isStrOf y) (ts.idxOf y) (by simp;lia) (by lia) ?_ ?_) ⟨ho,fun z jO=> ?_,⟨.int _,H,I.tok _,⟨_,rfl⟩,q⟩⟩
 ·show Value.isStrOf y its[ts.idxOf y]=true
  rw[vV y r _ (by lia) hj]
  simpa using List.getElem_idxOf hj
 ·intro j Ad aW
  show Value.isStrOf y its[j]=false
  rw[vV y r j (by simpa using Ad) (by lia)]
  exact FJ aW _
 ·have hm:z∈its:=by simpa using jO
  obtain⟨j,vW,rfl⟩:=zaX hm
  have FL:j<ts.length:=by lia
  have e:=vV y r j vW FL
  obtain⟨k,ek⟩:=(r.get (i:=j) (x:= .str ts[j]) (by simp[FL]))
  obtain⟨Tj,k2,Tn⟩:=ek
  have To:its[j]= .str ts[j] k2:=by
   have:=zav vW
   rw[Tj] at this
   exact(zal this).symm.trans Tn
  rw[e,To]
  exact PySem.SeqAt.EqAt.str_str _ _ _ _
theorem FN{x:V}: ∀{xs:List V} {us:List Value},Vals xs us->xs.all ei=true->us.countP (dZ x)=xs.countP fun y=>eF y x
 | _,_, .nil,_=>rfl
 | y::xs,u::us, .cons r t,f=>by
  rw[zaS,zab] at f
  rw[List.countP_cons,List.countP_cons,vk r f.1,FN t f.2]
theorem Tp:iU X "list.count" (fun x vs H Q=> ∃(l:Addr) (y:V) (xs:List V),x= .ref l/\vs=[y]/\aB X.K H l xs/\ei y=true/\xs.all ei=true/\Q (.int (xs.countP (fun z=>eF z y):Nat)) H):=by
 intro pins s σ H x vs v us Q I rx rv h
 obtain⟨l,y,xs,rfl,rfl,hq,fy,fs,q⟩:=h
 cases rx
 obtain⟨u,rfl,ru⟩:=vals1 rv
 obtain⟨its,r,⟨⟨cls,dd,data,sl⟩,n,ho,hc,FK,hd⟩,hz⟩:=I.list hq
 simp only at hc hd
 subst hc hd
 rw[<-FN r fs] at q
 exact call_meets PySem.F.slot_list_count ⟨_,ho,rfl⟩ PySem.F.entry_list_count (PySem.F.args_list_count_2 _ _)
  (PySem.SeqAt.list_countAt l its.toArray n dd sl u<|dZ y) ⟨ho,fun z jO=>nj ru fy r fs z (by simpa using jO),⟨.int _,H,I.tok _,⟨_,rfl⟩,q⟩⟩
theorem Tq:iU X "list.index" (fun x vs H Q=> ∃(l:Addr) (y:V) (xs:List V),x= .ref l/\vs=[y]/\aB X.K H l xs/\ei y=true/\xs.all ei=true/\iV y xs=true/\Q (.int (xs.findIdx (fun z=>eF z y):Nat)) H):=by
 intro pins s σ H x vs v us Q I rx rv h
 obtain⟨l,y,xs,rfl,rfl,hq,fy,fs,cC,q⟩:=h
 cases rx
 obtain⟨u,rfl,ru⟩:=vals1 rv
 obtain⟨its,r,⟨⟨cls,dd,data,sl⟩,n,ho,hc,FK,hd⟩,hz⟩:=I.list hq
 simp only at hc hd
 subst hc hd
 have hlen:=r.length
 have e: ∀j (h1:j<its.length) (h2:j<xs.length),dZ y its[j]=eF xs[j] y:=fun j h1 h2=>by
  obtain⟨w,e1,r1⟩:=r.get (i:=j) (x:=xs[j]) (by simp[h2])
  have e2:=zav h1
  rw[e1] at e2
  rw[<-zal e2]
  exact vk r1<|zaK.mp fs _<|zbm h2
 have hj:xs.findIdx (fun z=>eF z y) <xs.length:=List.findIdx_lt_length.mpr (zbC.mp cC)
 have hn:=lS
 refine call_meets PySem.F.slot_list_index ⟨_,ho,rfl⟩ PySem.F.entry_list_index (PySem.F.args_list_index_2 _ _)
  (PySem.SeqAt.list_indexAt l its.toArray n dd sl u (dZ y) (xs.findIdx fun z=>eF z y) (by simp;lia) (by lia) ?_ ?_) ⟨ho,fun z jO=>nj ru fy r fs z (by simpa using jO),⟨.int _,H,I.tok _,⟨_,rfl⟩,q⟩⟩
 ·show dZ y its[xs.findIdx fun z=>eF z y]=true
  rw[e _ (by lia) hj]
  exact List.findIdx_getElem (w:=hj)
 ·intro j Ad aW
  show dZ y its[j]=false
  rw[e j (by simpa using Ad) (by lia)]
  simpa using List.not_of_lt_findIdx aW
theorem FO(m:gW): ∃id,Td X m id:=by
 cases m with
 | append=>exact⟨_,F.plainAttrs_list,F.slot_list_append,F.type_list_append,fun pins s σ H x xs v us Q I rx rv h=>by
   cases x<;> (try exact False.elim h) <;>rcases xs with _ | ⟨y0,_ | ⟨_,_⟩⟩ <;> (try exact False.elim h)
   obtain⟨zs,h1,h2,h3⟩:=h
   exact PN pins s σ H _ _ v us Q I rx rv ⟨_,zs,_,rfl,rfl,h1,h2,h3⟩⟩
 | pop=>exact⟨_,F.plainAttrs_list,F.slot_list_pop,F.type_list_pop,fun pins s σ H x xs v us Q I rx rv h=>by
   cases x<;> (try exact False.elim h) <;>rcases xs with _ | ⟨_,_⟩ <;> (try exact False.elim h)
   obtain⟨zs,y,h1,h2,h3⟩:=h
   exact PV pins s σ H _ _ v us Q I rx rv ⟨_,zs,y,rfl,rfl,h1,h2,h3⟩⟩
 | extend=>exact⟨_,F.plainAttrs_list,F.slot_list_extend,F.type_list_extend,fun pins s σ H x xs v us Q I rx rv h=>by
   cases x<;> (try exact False.elim h) <;>rcases xs with _ | ⟨y0,_ | ⟨_,_⟩⟩ <;> (try exact False.elim h) <;>cases y0<;> (try exact False.elim h)
   obtain⟨ys,zs,h1,h2,h3,h4⟩:=h
   exact PR pins s σ H _ _ v us Q I rx rv ⟨_,_,ys,zs,rfl,rfl,h1,h2,h3,h4⟩⟩
 | join=>exact⟨_,F.plainAttrs_str,F.slot_str_join,F.type_str_join,fun pins s σ H x xs v us Q I rx rv h=>by
   cases x<;> (try exact False.elim h) <;>rcases xs with _ | ⟨y0,_ | ⟨_,_⟩⟩ <;> (try exact False.elim h) <;>cases y0<;> (try exact False.elim h)
   obtain⟨ts,h1,h2,h3⟩:=h
   exact Ro pins s σ H _ _ v us Q I rx rv ⟨_,_,ts,rfl,rfl,h1,h2,h3⟩⟩
 | lstrip=>exact⟨_,F.plainAttrs_str,F.slot_str_lstrip,F.type_str_lstrip,fun pins s σ H x xs v us Q I rx rv h=>by
   cases x<;> (try exact False.elim h) <;>rcases xs with _ | ⟨y0,_ | ⟨_,_⟩⟩ <;> (try exact False.elim h) <;>cases y0<;> (try exact False.elim h)
   obtain⟨h1,h2⟩:=h
   exact Rq pins s σ H _ _ v us Q I rx rv ⟨_,_,rfl,rfl,h1,h2⟩⟩
 | starts=>exact⟨_,F.plainAttrs_str,F.slot_str_startswith,F.type_str_startswith,fun pins s σ H x xs v us Q I rx rv h=>by
   cases x<;> (try exact False.elim h) <;>rcases xs with _ | ⟨y0,_ | ⟨y1,_ | ⟨_,_⟩⟩⟩ <;> (try exact False.elim h) <;>cases y0<;> (try exact False.elim h) <;>cases y1<;> (try exact False.elim h)
   exact Rt pins s σ H _ _ v us Q I rx rv ⟨_,_,_,rfl,rfl,h⟩⟩
 | find=>exact⟨_,F.plainAttrs_str,F.slot_str_find,F.type_str_find,fun pins s σ H x xs v us Q I rx rv h=>by
   match x,xs,h with
   | .str z,[.str y],h1=>
    obtain⟨t,rfl⟩:=rx
    obtain⟨u,rfl,⟨t2,rfl⟩⟩:=vals1 rv
    exact call_gives F.slot_str_find (typeIs_str _ _ _) F.entry_str_find (F.args_str_find_2 _ _) (gives_str_find z y t t2) ⟨.int _,H,I.tok _,⟨_,rfl⟩,h1⟩
   | .str z,[.str y, .int i],h1=>
    obtain⟨t,rfl⟩:=rx
    obtain⟨u,w',rfl,⟨t2,rfl⟩,⟨t3,rfl⟩⟩:=vals2 rv
    exact call_gives F.slot_str_find (typeIs_str _ _ _) F.entry_str_find (F.args_str_find_3 _ _ _) (gives_str_find_from z y i t t2 t3) ⟨.int _,H,I.tok _,⟨_,rfl⟩,h1⟩⟩
 | count=>exact⟨_,F.plainAttrs_str,F.slot_str_count,F.type_str_count,fun pins s σ H x xs v us Q I rx rv h=>by
   match x,xs,h with
   | .str z,[.str y],h1=>
    obtain⟨t,rfl⟩:=rx
    obtain⟨u,rfl,⟨t2,rfl⟩⟩:=vals1 rv
    exact call_gives F.slot_str_count (typeIs_str _ _ _) F.entry_str_count (F.args_str_count_2 _ _) (gives_str_count z y t t2) ⟨.int _,H,I.tok _,⟨_,rfl⟩,h1⟩⟩
 | reverse=>exact⟨_,F.plainAttrs_list,F.slot_list_reverse,F.type_list_reverse,fun pins s σ H x xs v us Q I rx rv h=>by
   cases x<;> (try exact False.elim h) <;>rcases xs with _ | ⟨_,_⟩ <;> (try exact False.elim h)
   obtain⟨zs,h1,h2⟩:=h
   exact PY pins s σ H _ _ v us Q I rx rv ⟨_,zs,rfl,rfl,h1,h2⟩⟩
 | index=>exact⟨_,F.plainAttrs_list,F.slot_list_index,F.type_list_index,fun pins s σ H x xs v us Q I rx rv h=>by
   cases x<;> (try exact False.elim h) <;>rcases xs with _ | ⟨y0,_ | ⟨_,_⟩⟩ <;> (try exact False.elim h) <;>cases y0<;> (try exact False.elim h)
   obtain⟨ts,h1,h2,h3⟩:=h
   exact Ti pins s σ H _ _ v us Q I rx rv ⟨_,_,ts,rfl,rfl,h1,h2,h3⟩⟩
 | vF=>exact⟨_,F.plainAttrs_list,F.slot_list_count,F.type_list_count,fun pins s σ H x xs v us Q I rx rv h=>by
   cases x<;> (try exact False.elim h) <;>rcases xs with _ | ⟨y0,_ | ⟨_,_⟩⟩ <;> (try exact False.elim h)
   obtain⟨zs,h1,h2,h3,h4⟩:=h
   exact Tp pins s σ H _ _ v us Q I rx rv ⟨_,_,zs,rfl,rfl,h1,h2,h3,h4⟩⟩
 | vG=>exact⟨_,F.plainAttrs_list,F.slot_list_index,F.type_list_index,fun pins s σ H x xs v us Q I rx rv h=>by
   cases x<;> (try exact False.elim h) <;>rcases xs with _ | ⟨y0,_ | ⟨_,_⟩⟩ <;> (try exact False.elim h)
   obtain⟨zs,h1,h2,h3,h4,h5⟩:=h
   exact Tq pins s σ H _ _ v us Q I rx rv ⟨_,_,zs,rfl,rfl,h1,h2,h3,h4,h5⟩⟩
 | clear=>exact⟨_,F.plainAttrs_list,F.slot_list_clear,F.type_list_clear,fun pins s σ H x xs v us Q I rx rv h=>by
   cases x<;> (try exact False.elim h) <;>rcases xs with _ | ⟨_,_⟩ <;> (try exact False.elim h)
   obtain⟨zs,h1,h2⟩:=h
   exact P4 pins s σ H _ _ v us Q I rx rv ⟨_,zs,rfl,rfl,h1,h2⟩⟩
theorem Ts{pins:List (Addr×Obj)}{σ:St}{H:Hp}{s:Shared}{T:Ty}{x:V}{u:Value}{Qb:Bool->Prop}{Q:Value->Shared->Prop}{E:Value->Shared->Prop}(I:Inv X pins σ H s)(rx:RelV x u)(h:bN T x H Qb)
  (hq: ∀b tk,Qb b->Q (.bool b) {s with toks:=tk}):wpAny (model X.prog X.w) X.A (call (.builtin "isinstance") [u, .type T.nm]) Q E s:=by
 match x,rx,h with
 | .aA,rx,h=>exact kx I rx (.aA) (Rm _ T) fun tk=>hq _ _ h
 | .bl b,rx,h=>exact kx I rx (.bl b) (l7 X.K .bool T) fun tk=>hq _ _ (by cases T<;>exact h)
 | .int i,rx,h=>exact kx I rx (.int i) (l7 X.K .int T) fun tk=>hq _ _ (by cases T<;>exact h)
 | .str i,rx,h=>exact kx I rx (.str i) (l7 X.K .str T) fun tk=>hq _ _ (by cases T<;>exact h)
 | .ref a,rx,h=>
  cases e:H a with
  | none=>simp only[bN,e] at h
  | some o=>
   match o,e with
   | .lst xs,e=>simp only[bN,e] at h;exact kx I rx (.lst e) (l7 X.K .list T) fun tk=>hq _ _ (by cases T<;>exact h)
   | .bE ob (.lst xs),e=>simp only[bN,e] at h;exact kx I rx (.bE e) (l7 X.K .list T) fun tk=>hq _ _ (by cases T<;>exact h)
   | .tup xs,e=>simp only[bN,e] at h;exact kx I rx (.tup e) (l7 X.K .tuple T) fun tk=>hq _ _ (by cases T<;>exact h)
   | .dK xs,e=>simp only[bN,e] at h;exact kx I rx (.dK e) (l7 X.K .dict T) fun tk=>hq _ _ (by cases T<;>exact h)
   | .dT xs,e=>simp only[bN,e] at h;exact kx I rx (.dT e) (l7 X.K .dict T) fun tk=>hq _ _ (by cases T<;>exact h)
   | .set _ _,e=>simp only[bN,e] at h
   | .ins _ _ _,e=>simp only[bN,e] at h
   | .own _,e=>simp only[bN,e] at h
   | .xd _,e=>simp only[bN,e] at h
   | .met _ _,e=>simp only[bN,e] at h
   | .gO _ _,e=>simp only[bN,e] at h
   | .jy _,e=>simp only[bN,e] at h
   | .ext _,e=>simp only[bN,e] at h
   | .bE ob (.tup xs),e=>simp only[bN,e] at h
   | .bE ob (.dK xs),e=>simp only[bN,e] at h
   | .bE ob (.dT xs),e=>simp only[bN,e] at h
   | .bE ob (.set _ _),e=>simp only[bN,e] at h
   | .bE ob (.ins _ _ _),e=>simp only[bN,e] at h
   | .bE ob (.own _),e=>simp only[bN,e] at h
   | .bE ob (.xd _),e=>simp only[bN,e] at h
   | .bE ob (.met _ _),e=>simp only[bN,e] at h
   | .bE ob (.gO _ _),e=>simp only[bN,e] at h
   | .bE ob (.jy _),e=>simp only[bN,e] at h
   | .bE ob (.ext _),e=>simp only[bN,e] at h
   | .bE ob (.bE _ _),e=>simp only[bN,e] at h
theorem Tt(T:Ty):bootBuiltins (Str.ofString T.nm)=some (.type T.nm):=by cases T<;>decide+kernel
theorem Tu(T:Ty):bQ X (.builtin "isinstance") (l9 T):=by
 intro pins s σ H xs us Q I r h
 match xs,r,h with
 | [x, .ty n],r,⟨e,h⟩=>
  subst e
  obtain⟨u,w',rfl,ru,ni⟩:=vals2 r
  cases ni
  exact Ts I ru h fun b tk hb=> ⟨.bl b,H,I.tok tk,rfl,hb⟩
theorem Tv{T:Ty}{a:Expr}{ta:TE}{p q pos:Pos}(ha:PE X a ta)(hs:noStar a=true)(hg:Gl X "isinstance")(hm:X.mg "isinstance"=none)(Tw:Gl X (Str.ofString T.nm))(Tx:X.mg (Str.ofString T.nm)=none):
  PE X (.Call (.Name "isinstance" p) [a, .Name (Str.ofString T.nm) q] [] pos) (dY (l9 T)<|cK ta<|cK (tC<|.ty T.nm) fA):=by
 have hT:PE X (.Name (Str.ofString T.nm) q) (tC<|.ty T.nm):=Dg Tw Tx (Tt T) rfl (by cases T<;>decide) (by cases T<;>decide)
 exact lV (Tu T) hg hm FE (jE ha (jE hT ng rfl)<|cE hs) (by decide) (by decide) (cE hs) rfl
end
section
variable {X:Cx}
theorem Tz:vj X (rM X.K):=by
 intro pins s σ H x v vl vu lo hi sl Q I rx hs pl pu h
 match x,rx,h with
 | .ref a,rx, .inl ⟨xs,h1,h2⟩=>exact Px pins s σ H _ v vl vu lo hi sl Q I rx hs pl pu ⟨a,xs,rfl,h1,h2⟩
 | .ref a,rx, .inr ⟨xs,h1,h2,h3⟩=>exact Pj pins s σ H _ v vl vu lo hi sl Q I rx hs pl pu ⟨a,xs,rfl,h1,h2,h3⟩
 | .str z,rx,⟨h1,h2⟩=>
  obtain⟨t,rfl⟩:=rx
  obtain⟨l,el,ml⟩: ∃l:Option (Int×Tok),vl=partValue l/\l.map (·.1)=lo:=by
   cases pl with
   | none=>exact⟨none,rfl,rfl⟩
   | int i t=>exact⟨some (i,t),rfl,rfl⟩
  obtain⟨u,eu,mu⟩: ∃u:Option (Int×Tok),vu=partValue u/\u.map (·.1)=hi:=by
   cases pu with
   | none=>exact⟨none,rfl,rfl⟩
   | int i t=>exact⟨some (i,t),rfl,rfl⟩
  subst el eu
  refine⟨"str",_,F.slot_str_getitem.lookup,typeIs_str _ _ _, ?_⟩
  refine wpAny_getItem_str_slice (l:=l) (u:=u) (st:=none) hs rfl ?_
  obtain⟨b1,b2,b3⟩:=yT lo hi z.length
  have hp:slicePicked z l u none=(List.range<|HT.bp z.length z.length hi - HT.bp z.length 0 lo).map (HT.bp z.length 0 lo+ ·):=by
   show Builtin.Str.strSliceIndices (l.map (·.1)) (u.map (·.1)) 1 z.length=_
   rw[ml,mu]
   have e0:Builtin.Str.strSliceIndices lo hi 1 z.length=sliceRange (sliceBounds lo hi none z.length).1 (sliceBounds lo hi none z.length).2.1 (sliceBounds lo hi none z.length).2.2:=rfl
   rw[e0,b1,b2,b3,sliceRange_one]
  have hc:((slicePicked z l u none).filterMap (z.cps[·]?))=iZ z.cps.toList lo hi:=by
   show(Builtin.Str.strSliceIndices (l.map (·.1)) (u.map (·.1)) 1 z.length).filterMap (z.cps[·]?)=_
   rw[ml,mu,Ru]
  have hz:z.cps.toList.length=z.length:=by simp[Str.length]
  have hA:=HT.yO z.length 0 (zqZ _) lo
  have hB:=HT.yO z.length z.length (zqR _) hi
  unfold sliceMade
  refine post_val_or_made (fun _=> ?_) fun t' k=> ?_
  ·show(List.toArray ((slicePicked z l u none).filterMap (z.cps[·]?))).size<=sizeLine
   rw[hc,zad]
   have:(iZ z.cps.toList lo hi).length<=z.cps.toList.length:=by unfold iZ;simp only[zaf,zai];lia
   lia
  ·have e:(if (((none:Option (Int×Tok)).map (·.1)).getD 1==1 && (slicePicked z l u none).length==z.length)=true then z else ⟨((slicePicked z l u none).filterMap (z.cps[·]?)).toArray⟩)=iq z lo hi:=by
    split
    ·rename_i hq
     simp only[zab,beq_iff_eq] at hq
     have vX:=hq.2
     rw[hp,zag,List.length_range] at vX
     have a0:HT.bp z.length 0 lo=0:=by lia
     have b0:HT.bp z.length z.length hi=z.length:=by lia
     unfold iq iZ
     rw[hz,a0,b0,<-hz,zbn,zaM,zbD]
    ·rw[hc];rfl
   rw[e]
   exact⟨.str _,H,I.tok k,⟨t',rfl⟩,h2⟩
theorem TB:uZ X (unaryOp .USub) Fc:=by
 intro pins s σ H x v Q I rx h
 match x,rx,h with
 | .int i,rx,h=>exact Od pins s σ H _ v Q I rx ⟨i,rfl,h⟩
theorem TC{a:Expr}{ta:TE}{pos:Pos}(ha:PE X a ta):PE X (.UnaryOp .Not a pos) (zz X.K ta):=by
 intro pins s σ H Q I h
 refine UnaryOp_<|aV (ha pins s σ H _ I h) fun v s1 ⟨x,H1,I1,r1,q1⟩=>not_of ?_
 exact aV (DQ pins s1 σ H1 x v (fun b H2=>Q (.bl<|!b) H2) I1 r1<|Fb q1) fun b s2 ⟨H2,I2,q2⟩=> ⟨.bl<|!b,H2,I2,rfl,q2⟩
theorem pQ{a:Expr}{ta:TE}(ha:PE X a ta)(he: ∀whole,isTrue a X.env whole=(do let v <-whole;standAt a.pos;holding [v] (truthy v))):PT X a (eG X.K ta):=by
 intro pins s σ H Q I h
 exact isTrue_plain (aV (ha pins s σ H _ I h) fun v s1 ⟨x,H1,I1,r1,q1⟩=>DQ pins s1 σ H1 x v Q I1 r1 (Fb q1))<|he _
theorem TF{m:gW}{o e:Expr}{es:List Expr}{to:TE}{t:TA}{apos de:Pos}(ho:PE X o to)(ha:PA X (e::es) t)(hb:mf o=true)(hl:(apos.endLine==de.line)=true)(hn:(e::es).length<29)
  (hs:starEach (e::es) X.env=(false,eval e X.env)::starEach es X.env) (h1:(backTo de<|starEach es X.env).any (·.1)=false) (h2:(backTo de<|starEach (e::es) X.env).all (fun x=> !x.1)=true):
  PE X (.Call (.Attribute o m.nm apos) (e::es) [] de) (pB X.K m to t):=by
 obtain⟨id,M⟩:=FO (X:=X) m
 exact yY M.pa M.slot M.ty M.mt ho ha (kI hb) (by
  rw[h2]
  show(true && true && decide ((e::es).length+0+0<30))=true
  rw[zqT (by lia)];rfl) hl hs h1
theorem TH{m:gW}{o:Expr}{to:TE}{apos de:Pos}(ho:PE X o to)(hb:mf o=true)(hl:(apos.endLine==de.line)=true):
  PE X (.Call (.Attribute o m.nm apos) [] [] de) (pB X.K m to fA):=by
 obtain⟨id,M⟩:=FO (X:=X) m
 exact PH M.pa M.slot M.ty M.mt ho (kI hb) hl
end
section
variable {X:Cx} {CX:bM}
theorem FP{o:Expr}{m:Str}{apos pos:Pos}{args:List Expr}{Q:Value->Shared->Prop}{E:Value->Shared->Prop}{A:Around}{s:Shared}{env:Env}{prog:Program}{w:World}
  (hb:mf o=true) (hl:(apos.endLine==pos.line)=true) (hn:args.length<29) (hf:(backTo pos<|starEach args env).all (fun x=> !x.1)=true)
  (h:wpAny (model prog w) A (eval o env) (fun ov s1=> ∀pl,wpAny (model prog w) A (getMethod ov m pl) (fun fx s2=>wpAny (model prog w) A (callWith pos fx.1 fx.2 (backTo pos<|starEach args env)<|backToKw pos<|keywordEach [] env) Q E s2) E s1) E s):
  wpAny (model prog w) A (eval (.Call (.Attribute o m apos) args [] pos) env) Q E s:=by
 have TJ:methodCallForm (args.length+0) (backTo pos<|starEach args env) (backToKw pos<|keywordEach [] env)=true:=by
  show((backTo pos<|starEach args env).all (fun x=> !x.1) && true && decide (args.length+0+0<30))=true
  rw[hf,zqT (by lia)];rfl
 have line:methodCallPos true o env apos pos=pure pos:=by unfold methodCallPos;simp[hl]
 rw[arm_eval_Call,kI hb]
 refine wpAny_bind<|wpAny_mono h (fun ov s1 h1=>wpAny_bind<|wpAny_standAt ?_) fun _ _ e=>e
 unfold methodCall
 rw[show([]:List Keyword).length=0 from rfl,TJ]
 refine wpAny_bind<|wpAny_holding<|wpAny_mono (h1 _) (fun fx s2 h2=> ?_) fun _ _ e=>e
 exact wpAny_bind<|wpAny_of_eq line h2
theorem TK{o e:Expr}{es:List Expr}{to:TE}{t:TA}{apos pos:Pos}{C:Addr}{m:Str}{sp:Sp}{E:XK}(M:vQ CX X C m sp)(hx:Passes CX X E)(ho:PE X o to)(ha:PA X (e::es) t)(hb:mf o=true)(hl:(apos.endLine==pos.line)=true)(hn:(e::es).length<29)
  (hs:starEach (e::es) X.env=(false,eval e X.env)::starEach es X.env) (h1:(backTo pos<|starEach es X.env).any (·.1)=false) (h2:(backTo pos<|starEach (e::es) X.env).all (fun x=> !x.1)=true):
  PE X (.Call (.Attribute o m apos) (e::es) [] pos) (nh C m sp [] E to t):=by
 obtain⟨c,k,f,fd,ps,hm,F,hr,Ae⟩:=M
 intro pins s σ H Q I h
 refine FP hb hl hn h2<|aV (ho pins s σ H _ I h) fun u s1 ⟨x,H1,I1,rx,a,dx,fs,ex,ea,l,q⟩=>fun pl=> ?_
 subst ex
 obtain rfl:u=Value.ref a:=rx
 refine DV I1 ea c hm l ?_
 refine callWith_K (first:=[.ref a]) (h₀:=X.base) I.ok.mod.mY hm.kp (aV (ha pos pins s1 σ H1 _ I1 q) fun us s2 ⟨vs,H2,I2,r,q2⟩=> ⟨I2.cj, ?_⟩) hs h1
 exact yL (us:= .ref a::us) (vs:= .ref a::vs) F hr Ae .nil hx I2 (.cons rfl r) q2
theorem TL{o:Expr}{to:TE}{apos pos:Pos}{C:Addr}{m:Str}{sp:Sp}{E:XK}(M:vQ CX X C m sp)(hx:Passes CX X E)(ho:PE X o to)(hb:mf o=true)(hl:(apos.endLine==pos.line)=true):
  PE X (.Call (.Attribute o m apos) [] [] pos) (nh C m sp [] E to fA):=by
 obtain⟨c,k,f,fd,ps,hm,F,hr,Ae⟩:=M
 intro pins s σ H Q I h
 refine FP hb hl (by decide) rfl<|aV (ho pins s σ H _ I h) fun u s1 ⟨x,H1,I1,rx,a,dx,fs,ex,ea,l,q⟩=>fun pl=> ?_
 subst ex
 obtain rfl:u=Value.ref a:=rx
 refine DV I1 ea c hm l ?_
 exact callWith_K0 (first:=[.ref a]) I1.cj hm.kp<|yL (us:=[.ref a]) (vs:=[.ref a]) F hr Ae .nil hx I1 (.cons rfl .nil) q
end
section
variable {prog:Program} {w:World} {A:Around} {E:Value->Shared->Prop} {s:Shared}
theorem FQ{it l:Addr}{items:Array Value}(cQ:l≠it): ∀(n i:Nat) (s:Shared) (Q:List Value->Shared->Prop),s.heap.IsListIter it l i->s.heap.IsList l items->i+n<=items.size->
  (∀h',h'.IsListIter it l (i+n)->Heap.SameBut it s.heap h'->Q ((items.toList.drop i).take n) {s with heap:=h'})->wpAny (model prog w) A (draw (.ref it) n) Q E s
 | 0,i,s,Q,hit,_,_,hQ=>by
  show wpAny _ _ (pure []) Q E s
  exact wpAny_pure (by simpa using hQ s.heap hit (Heap.SameBut.refl ..))
 | n+1,i,s,Q,hit,ht,hle,hQ=>by
  have aW:i<items.size:=by lia
  show wpAny _ _ (pyNext (.ref it) >>=_) Q E s
  refine wpAny_bind<|wpAny_pyNext_list_item hit ht (x:=items[i]) (by simp[aW]) fun h₁ Af r_=> ?_
  refine wpAny_bind<|wpAny_holding<|FQ cQ n (i+1) _ _ Af (ht.extBut r_.extBut cQ) (by lia) fun h₂ TM TN=>wpAny_pure ?_
  have hd:items.toList.drop i=items[i]::items.toList.drop (i+1):=by simp[zbO,aW]
  have:=hQ h₂ (by rw[show i+ (n+1)=i+1+n by lia];exact TM) (r_.trans TN)
  rw[hd,zbP] at this
  exact this
theorem TQ{t:Addr}{items:Array Value}{Q:List Value->Shared->Prop}(hh:A.handled=none)(ht:s.heap.IsList t items)
  (hQ: ∀h',Heap.ExtBut s.heap.objs.size s.heap h'->Q items.toList {s with heap:=h'}):wpAny (model prog w) A (unpackItems (.ref t) items.size none) Q E s:=by
 have aW:t≠s.heap.objs.size:=by obtain⟨o,ho,_⟩:=ht;exact zae (Heap.lt_size ho)
 unfold unpackItems
 refine wpAny_bind ?_
 ·unfold notIterableAtAll
  refine wpAny_bind<|wpAny_specialOf ht.typeIs slot_list_iter.lookup ?_
  refine wpAny_pure ?_
  simp only[zaW,if_false]
  refine wpAny_bind<|wpAny_holding<|wpAny_pyIter_list ht ?_
  refine wpAny_bind<|wpAny_holding<|FQ aW items.size 0 _ _ ⟨_,Heap.get?_push_size _ rfl,rfl,rfl⟩ (ht.push _) (by lia) fun h₁ Af r_=> ?_
  have za:List.take items.size (List.drop 0 items.toList)=items.toList:=by
   rw[zaM];exact zao (by simp)
  rw[za]
  rw[if_neg (by simp)]
  have TU:h₁.IsList t items:=(ht.push _).extBut r_.extBut aW
  refine wpAny_bind<|wpAny_holding<|wpAny_pyNext_list_end hh Af TU (by simp) fun h₂ TV=> ?_
  simp only[Option.isSome_none,zaW,if_false]
  refine wpAny_pure<|hQ h₂ fun b o hb e=>TV b o hb (r_.extBut b o hb<|Heap.get?_push_of_some _ e)
theorem TX{env:Env}{elts:List Expr}{x1}{pos:Pos}{t:Addr}{items:Array Value}{Q:Unit->Shared->Prop}(hh:A.handled=none)(ht:s.heap.IsList t items)
  (hn:(assignEach elts env).length=items.size) (TY:(assignEach elts env).findIdx? (·.1)=none)
  (h: ∀h',Heap.ExtBut s.heap.objs.size s.heap h'->wpAny (model prog w) A (assignInOrder ((assignEach elts env).map (·.2)) items.toList) Q E {s with heap:=h'}):
  wpAny (model prog w) A (assign (.Tuple elts x1 pos) env<|.ref t) Q E s:=by
 rw[assign_Tuple]
 refine wpAny_bind<|wpAny_standAt ?_
 unfold unpack
 rw[hn,TY]
 exact wpAny_bind<|wpAny_holding<|TQ hh ht h
end
def jP(K:Frag)(n:Nat)(t:jB):TG:=fun v σ H Q=> ∃a xs,v= .ref a/\(ba K H a xs\/aB K H a xs)/\xs.length=n/\t xs σ H Q
theorem FR{X:Cx}{es:List Expr}{k:Nat}{t:jB}{n:Nat}{pos:Pos}(hc:X.calm=true)(h:o9 X es t)
  (hn:(assignEach es X.env).length=n) (jC:(assignEach es X.env).findIdx? (·.1)=none):PG X (.Tuple es k pos) (jP X.K n t):=by
 intro pins s σ H v u Q I r hw
 obtain⟨a,xs,e1,hq,hl,hw⟩:=hw
 rcases hq with hq | hq
 ·exact Dy hc h hn jC pins s σ H v u Q I r ⟨a,xs,e1,hq,hl,hw⟩
 ·subst e1
  cases r
  obtain⟨its,rv,ht,hz⟩:=I.list hq
  refine TX (I.ok.hd hc) ht.isList (by simp[hn,<-hl,rv.length]) jC fun h' hx=> ?_
  have I1:Inv X pins σ H {s with heap:=h'}:=I.kept (t':=s.toks) fun b o e=>hx b o (zae<|Heap.lt_size e) e
  exact h pins _ σ H xs _ Q I1 (by simpa using rv) hw
def i8:List Nat->jB
 | []=>yy
 | i::r=>uV (eY i) (i8 r)
def TZ(to:TE)(tl th:TO):TG:=fun v σ H Q=>to σ H fun o H1=>tl σ H1 fun i H2=>th σ H2 fun j H3=> ∃l b xs ys a c,o= .ref l/\v= .ref b/\i=some a/\j=some c/\H3 l=some (.lst xs)/\H3 b=some (.lst ys)/\l≠b/\
 0<=a/\a<=c/\c<=xs.length/\xs.length+ys.length<=sizeLine/\Q σ (upd H3 l<|.lst<|xs.take a.toNat++ys++xs.drop c.toNat)
mutual
def bh(Γ:aX):RS->TS
 | .asg i e=>iP (aj Γ e) (eY i)
 | .pk i e=>iP (aj Γ e) (eY i)
 | .set o ix e=>iP (aj Γ e) (Dz (aj Γ o) (aj Γ ix) yS)
 | .dput o i e=>Qn (aj Γ o) (aj Γ i) (aj Γ e)
 | .drop e=>Ds (aj Γ e)
 | .ret e=>Dt (aj Γ e)
 | .RF=>NO
 | .ite c t e=>Du (bf Γ c) (av Γ t) (av Γ e)
 | .pq i k its body=>uX (fE Γ k its) (eY i) (av Γ body)
 | .nA is k its body=>uX (fE Γ k its) (jP Γ.K is.length<|i8 is) (av Γ body)
 | .fD c body=>DB (bf Γ c) (av Γ body)
 | .pass=>yw
 | .brk=>NK
 | .cont=>NL
 | .never=>NQ
 | .RG o lo hi e=>iP (aj Γ e) (TZ (aj Γ o) (vi<|aj Γ lo)<|vi<|aj Γ hi)
 | .jL o f e=>yI Γ.K (aj Γ o) (aj Γ e) f
 | .nB is e=>iP (aj Γ e) (jP Γ.K is.length<|i8 is)
 | .gX j as=>zw (Γ.ex j) Γ.E (aZ Γ as)
 | .zy n i j body su=>fun D σ H=> ∃C,Γ.gv j= .ref C/\vE Γ.K C i n (fun E=>av {Γ with E:=E} body) (fun ea=>av {Γ with E:=E0,hv:=some ea} su) D σ H
 | .RH k i j f as su=>fun D σ H=> ∃C,Γ.gv j= .ref C/\Rw Γ.K C i k (Γ.fs f) (aZ {Γ with E:=E0} as) (fun ea=>av {Γ with E:=E0,hv:=some ea} su) D σ H
def av(Γ:aX):List RS->TS
 | []=>yw
 | s::r=>Dq (bh Γ s) (av Γ r)
end
def Ag:Expr->Bool
 | .Slice ..=>false | _=>true
def sf:Expr->Bool
 | .ListComp ..=>false | .SetComp ..=>false | .DictComp ..=>false | _=>true
def FT(sc:Scope)(x:Str)(line:Nat)(s:Scope)(p:Pos):Bool:=
 decide (sc.kind= .function) && decide (sc.names.lookup x=some .local) && (line==p.line) && !(s.names.any fun(n,k)=>n==x && (k== .local || k== .cell))
def nG(N:List Str)(sc:Scope):List Nat->List Str->Bool
 | [],xs=>xs.isEmpty
 | i::r,xs=>match xs with
  | []=>false
  | x::t=>decide (N[i]?=some x) && loc sc x && nG N sc r t
structure cR (CX:bM) (S:cg) (Γ:aX) (X:Cx):Prop extends Good CX S Γ X where
 nd:S.N.Nodup
 kY: ∀x,X.fn x=true
 own:PassesOwn (model X.prog X.w) X.A X.env X.xe
 nH:X.env.scope.kind= .function
 rs: ∀(j:Nat) (x:Str),S.en[j]?=some x->Raises X Γ.E
 ib:X.stack=X.env::X.outer
 fH:X.env.frame=some X.env.locals
 nI:X.ex=[]
 nJ:CX=ej X.prog X.w
def qV(S:cg)(i:Nat)(x:Str):Bool:=decide (S.N[i]?=some x) && zD S.sc x && !(x==("__debug__":Str)) && !(x==("__classdict__":Str))
def kG(S:cg)(j:Nat)(x:Str):Bool:=decide (S.gn[j]?=some x) && kO S.sc x && !(x==("__debug__":Str))
def kF(S:cg)(j:Nat)(x:Str):Bool:=decide (S.fn[j]?=some x) && kO S.sc x && !(x==("__debug__":Str))
def kK(S:cg)(j:Nat)(x:Str):Bool:=decide (S.kn[j]?=some x) && kO S.sc x && !(x==("__debug__":Str))
def kB(S:cg)(x y:Str):Bool:=decide (x=y) && kO S.sc x && S.bl.contains x
def kM(o:Expr)(m:Str)(x:Str)(n:Nat)(a c:Pos):Bool:=decide (x=m) && mf o && (a.endLine==c.line) && decide (n<29)
def kL(S:cg)(i:Nat)(x:Str):Bool:=decide (S.N[i]?=some x) && loc S.sc x
section
variable {CX:bM} {S:cg} {Γ:aX} {X:Cx} {e e2 a b c d:Expr} {es:List Expr} {x:Str} {p q pos:Pos} {r ra rb rc:RE} {rs:List RE} {i j:Nat}
theorem aa(G:Good CX S Γ X)(h:qV S i x=true:=by kernel_rfl):PE X (.Name x p) (aj Γ<|.v i):=by
 simp only[qV,zab,decide_eq_true_eq,zaG] at h
 exact Nx (by rw[G.N];exact h.1.1.1) (by rw[G.sc];exact RO h.1.1.2) h.1.2 h.2
theorem aq{v:Int}{k:Nat}:PE X (.Constant (.int v) k p) (aj Γ<|.c<|.int v):=Ny
theorem aM{v:Str}{k:Nat}:PE X (.Constant (.str v) k p) (aj Γ<|.c<|.str v):=NB
theorem d0{v:Bool}{k:Nat}:PE X (.Constant (.bool v) k p) (aj Γ<|.c<|.bl v):=Nz
theorem bX{k:Nat}:PE X (.Constant .none k p) (aj Γ<|.c .aA):=NA
theorem dR(G:Good CX S Γ X)(h:kG S j x=true:=by kernel_rfl):PE X (.Name x p) (aj Γ<|.g j):=by
 simp only[kG,zab,decide_eq_true_eq,zaG] at h
 obtain⟨u,hm,r⟩:=G.jM j x h.1.1
 exact Df (G.gl h.1.2) hm r h.2
theorem aG{op:Operator}(G:Good CX S Γ X)(ha:PE X a (aj Γ ra))(hb:PE X b (aj Γ rb)):PE X (.BinOp a op b p) (aj Γ<|.bin op ra rb):=by
 show PE X _ (eB (lZ Γ.K op) (aj Γ ra)<|aj Γ rb)
 rw[<-G.K]
 exact N5 (Q6 op) ha hb
theorem i9(ha:PE X a (aj Γ ra)):PE X (.UnaryOp .USub a p) (aj Γ<|.neg ra):=N6 TB ha
theorem cT{op:CmpOp}(G:Good CX S Γ X)(ha:PE X a (aj Γ ra))(hb:PE X b (aj Γ rb))(hm:behindInMarks op b=false:=by kernel_rfl):PE X (.Compare a [op] [b] p) (aj Γ<|.cmp op ra rb):=by
 show PE X _ (eB (b9 Γ.K op) (aj Γ ra)<|aj Γ rb)
 rw[<-G.K]
 exact Ov (ph G.units op) ha hb hm
theorem T_{op b_:CmpOp}(G:Good CX S Γ X)(ha:PE X a (aj Γ ra))(hb:PE X b (aj Γ rb))(hc:PE X c (aj Γ rc))(hm:lastMarks [op,b_] [b,c]=false:=by kernel_rfl):PE X (.Compare a [op,b_] [b,c] p) (aj Γ<|.jK op b_ ra rb rc):=by
 show PE X _ (pd (b9 Γ.K op) (b9 Γ.K b_) (aj Γ ra) (aj Γ rb)<|aj Γ rc)
 rw[<-G.K]
 exact Ox (ph G.units op) (ph G.units b_) ha hb hc hm
theorem kZ(h:PE X e (aj Γ r)):PE X (.BoolOp .And [e] p) (aj Γ<|.and [r]):=Dm h
theorem jQ{r2:RE}(h:PE X e (aj Γ r))(t:PE X (.BoolOp .And (e2::es) p) (aj Γ<|.and (r2::rs))):PE X (.BoolOp .And (e::e2::es) p) (aj Γ<|.and (r::r2::rs)):=ND h t
theorem si(h:PE X e (aj Γ r)):PE X (.BoolOp .Or [e] p) (aj Γ<|.or [r]):=Dm h
theorem sk{r2:RE}(h:PE X e (aj Γ r))(t:PE X (.BoolOp .Or (e2::es) p) (aj Γ<|.or (r2::rs))):PE X (.BoolOp .Or (e::e2::es) p) (aj Γ<|.or (r::r2::rs)):=NF h t
theorem FU(G:Good CX S Γ X)(ha:PE X a (aj Γ ra)):PE X (.UnaryOp .Not a p) (aj Γ<|.not ra):=by
 show PE X _ (zz Γ.K<|aj Γ ra)
 rw[<-G.K]
 exact TC ha
theorem i_(hc:PT X c (bf Γ rc))(ha:PE X a (aj Γ ra))(hb:PE X b (aj Γ rb)):PE X (.IfExp c a b p) (aj Γ<|.gF rc ra rb):=NG hc ha hb
theorem ak:PA X [] (aZ Γ []):=ng
theorem ae(h:PE X e (aj Γ r))(t:PA X es (aZ Γ rs))(hs:noStar e=true:=by kernel_rfl):PA X (e::es) (aZ Γ (r::rs)):=jE h t (cE hs)
theorem aE(G:Good CX S Γ X)(hA:PA X (e::es) (aZ Γ (r::rs)))(h:kF S j x=true:=by kernel_rfl)(hn:dQ (e::es)=true:=by kernel_rfl)(hq:S.md=0:=by rfl):PE X (.Call (.Name x p) (e::es) [] pos) (aj Γ<|.call j (r::rs)):=by
 simp only[kF,zab,decide_eq_true_eq,zaG] at h
 obtain⟨k,f,fd,ps,F,hr,hm,hk,hb⟩:=G.fns hq j x h.1.1
 exact O1 F hr (G.gl h.1.2) hm hk hb .nil G.pass hA h.2 (cE (bR hn).1)<|e8 _ _ es (bR hn).2
theorem Ua(G:Good CX S Γ X)(h:kK S j x=true:=by kernel_rfl)(hq:S.md=0:=by rfl):PE X (.Call (.Name x p) [] [] pos) (aj Γ<|.make j []):=by
 simp only[kK,zab,decide_eq_true_eq,zaG] at h
 obtain⟨k,f,fd,ps,M,F,hr,hm,hb⟩:=G.kU hq j x h.1.1
 exact O3 M F hr (G.gl h.1.2) hm hb .nil G.pass h.2
theorem Ub(G:Good CX S Γ X)(hA:PA X (e::es) (aZ Γ (r::rs)))(h:kK S j x=true:=by kernel_rfl)(hn:dQ (e::es)=true:=by kernel_rfl)(hq:S.md=0:=by rfl):PE X (.Call (.Name x p) (e::es) [] pos) (aj Γ<|.make j (r::rs)):=by
 simp only[kK,zab,decide_eq_true_eq,zaG] at h
 obtain⟨k,f,fd,ps,M,F,hr,hm,hb⟩:=G.kU hq j x h.1.1
 exact O2 M F hr (G.gl h.1.2) hm hb .nil G.pass hA h.2 (cE (bR hn).1)<|e8 _ _ es (bR hn).2
theorem bz{t:l8}(G:Good CX S Γ X)(hA:PA X (e::es) (aZ Γ (r::rs)))(h:kB S x t.nm=true:=by kernel_rfl)(hn:dQ (e::es)=true:=by kernel_rfl)(hq:S.md=0:=by rfl):PE X (.Call (.Name x p) (e::es) [] pos) (aj Γ<|.blt t (r::rs)):=by
 simp only[kB,zab,decide_eq_true_eq] at h
 obtain⟨⟨rfl,h2⟩,h3⟩:=h
 have n1:t.nm≠"__name__":=by cases t<;>decide
 have n2:(t.nm==("__debug__":Str))=false:=by cases t<;>decide
 show PE X _ (dY (pv Γ.K t)<|aZ Γ (r::rs))
 rw[<-G.K]
 cases Tc (X:=X) (G.calm hq) t with
 | fn id hv hc=>exact lV hc (G.gl h2) (G.cH _ h3) hv hA n1 n2 (cE (bR hn).1) (e8 _ _ es (bR hn).2)
 | ty T hv hc=>exact O5 hc (G.gl h2) (G.cH _ h3) hv hA n1 n2 (cE (bR hn).1) (e8 _ _ es (bR hn).2)
theorem jR{T:Ty}{y:Str}(G:Good CX S Γ X)(ha:PE X a (aj Γ ra))(h:kB S x "isinstance"=true:=by kernel_rfl)(h2:kB S y (Str.ofString T.nm)=true:=by kernel_rfl)(hs:noStar a=true:=by kernel_rfl):PE X (.Call (.Name x p) [a, .Name y q] [] pos) (aj Γ<|.eO T ra):=by
 simp only[kB,zab,decide_eq_true_eq] at h h2
 obtain⟨⟨rfl,g2⟩,g3⟩:=h
 obtain⟨⟨rfl,k2⟩,k3⟩:=h2
 exact Tv ha hs (G.gl g2) (G.cH _ g3) (G.gl k2)<|G.cH _ k3
theorem gG(G:Good CX S Γ X)(ha:PE X a (aj Γ ra))(hb:PE X b (aj Γ rb))(h:kB S x "isinstance"=true:=by kernel_rfl)(hn:dQ [a,b]=true:=by kernel_rfl):PE X (.Call (.Name x p) [a,b] [] pos) (aj Γ<|.dg ra rb):=by
 simp only[kB,zab,decide_eq_true_eq] at h
 obtain⟨⟨rfl,g2⟩,g3⟩:=h
 show PE X _ (dY (jJ Γ.K)<|cK (aj Γ ra)<|cK (aj Γ rb) fA)
 rw[<-G.K]
 exact lV SO (G.gl g2) (G.cH _ g3) FE (jE ha (jE hb ng<|cE (bR (bR hn).2).1)<|cE (bR hn).1) (by decide) (by decide) (cE (bR hn).1)<|e8 _ _ _ (bR hn).2
theorem Uc{n:String}(G:Good CX S Γ X)(hv:bootBuiltins (Str.ofString n)=some (.type n))(h1:Str.ofString n≠"__name__")(h2:(Str.ofString n==("__debug__":Str))=false)(h:kB S x (Str.ofString n)=true:=by kernel_rfl):PE X (.Name x p) (aj Γ<|.c<|.ty n):=by
 simp only[kB,zab,decide_eq_true_eq] at h
 obtain⟨⟨rfl,g2⟩,g3⟩:=h
 exact Dg (G.gl g2) (G.cH _ g3) hv rfl h1 h2
def kH(S:cg)(j:Nat)(x:Str):Bool:=decide (S.hn[j]?=some x) && kO S.sc x && !(x==("__debug__":Str))
theorem Ud(G:Good CX S Γ X)(ha:PE X a (aj Γ ra))(h:kH S j x=true:=by kernel_rfl)(hs:noStar a=true:=by kernel_rfl):PE X (.Call (.Name x p) [a] [] pos) (aj Γ<|.zx j ra):=by
 simp only[kH,zab,decide_eq_true_eq,zaG] at h
 obtain⟨k,f,fd,ps,F,hr,hm,hk,hb⟩:=G.kW j x h.1.1
 exact SV F hr (G.gl h.1.2) hm hk hb G.mh ha hs h.2
theorem vY{m:gW}{o:Expr}{ro:RE}{ap:Pos}(G:Good CX S Γ X)(ho:PE X o (aj Γ ro))(h:kM o m.nm x 0 ap pos=true:=by kernel_rfl):PE X (.Call (.Attribute o x ap) [] [] pos) (aj Γ<|.bD m ro []):=by
 simp only[kM,zab,decide_eq_true_eq] at h
 obtain⟨⟨⟨rfl,h2⟩,h3⟩, -⟩:=h
 show PE X _ (pB Γ.K m (aj Γ ro) fA)
 rw[<-G.K]
 exact TH ho h2 h3
theorem cU{m:gW}{o:Expr}{ro:RE}{ap:Pos}(G:Good CX S Γ X)(ho:PE X o (aj Γ ro))(hA:PA X (e::es) (aZ Γ (r::rs)))(h:kM o m.nm x (es.length+1) ap pos=true:=by kernel_rfl)(hn:dQ (e::es)=true:=by kernel_rfl):PE X (.Call (.Attribute o x ap) (e::es) [] pos) (aj Γ<|.bD m ro (r::rs)):=by
 simp only[kM,zab,decide_eq_true_eq] at h
 obtain⟨⟨⟨rfl,h2⟩,h3⟩,h4⟩:=h
 show PE X _ (pB Γ.K m (aj Γ ro)<|aZ Γ (r::rs))
 rw[<-G.K]
 exact TF ho hA h2 h3 h4 (cE (bR hn).1) (e8 _ _ es (bR hn).2)<|rY _ _ (e::es) hn
theorem dh{f:Str}{ro:RE}(G:Good CX S Γ X)(ho:PE X a (aj Γ ro))(h:mf a=true:=by kernel_rfl):PE X (.Attribute a f p) (aj Γ<|.fld ro f):=by
 show PE X _ (vf Γ.K (aj Γ ro) f)
 rw[<-G.K]
 exact OU ho<|kI h
theorem fI{m:Str}{o:Expr}{ro:RE}{ap:Pos}(G:Good CX S Γ X)(ho:PE X o (aj Γ ro))(h:(kM o m m 0 ap pos && decide (S.mn[j]?=some m))=true:=by kernel_rfl)(hq:S.md=0:=by rfl):PE X (.Call (.Attribute o m ap) [] [] pos) (aj Γ<|.bF j m ro []):=by
 simp only[kM,zab,decide_eq_true_eq] at h
 obtain⟨⟨⟨⟨-,h2⟩,h3⟩, -⟩,h5⟩:=h
 exact TL (G.kT hq j _ h5) G.pass ho h2 h3
theorem eI{m:Str}{o:Expr}{ro:RE}{ap:Pos}(G:Good CX S Γ X)(ho:PE X o (aj Γ ro))(hA:PA X (e::es) (aZ Γ (r::rs)))(h:(kM o m m (es.length+1) ap pos && decide (S.mn[j]?=some m))=true:=by kernel_rfl)(hn:dQ (e::es)=true:=by kernel_rfl)(hq:S.md=0:=by rfl):PE X (.Call (.Attribute o m ap) (e::es) [] pos) (aj Γ<|.bF j m ro (r::rs)):=by
 simp only[kM,zab,decide_eq_true_eq] at h
 obtain⟨⟨⟨⟨-,h2⟩,h3⟩,h4⟩,h5⟩:=h
 exact TK (G.kT hq j _ h5) G.pass ho hA h2 h3 h4 (cE (bR hn).1) (e8 _ _ es (bR hn).2)<|rY _ _ (e::es) hn
theorem Ue(h:Ag b=true):Ee b:=fun o i=>by cases b<;>first | rfl | cases h
theorem aF(G:Good CX S Γ X)(ha:PE X a (aj Γ ra))(hb:PE X b (aj Γ rb))(h:Ag b=true:=by kernel_rfl):PE X (.Subscript a b p) (aj Γ<|.ix ra rb):=by
 show PE X _ (eB (l_ Γ.K Γ.sd) (aj Γ ra)<|aj Γ rb)
 rw[<-G.K]
 exact Pl (Th G.kS) ha hb<|Ue h
theorem jS{lo hi:Option Expr}{rl rh:Option RE}(G:Good CX S Γ X)(ha:PE X a (aj Γ ra))(hl:PO X lo (me Γ rl))(hh:PO X hi (me Γ rh)):PE X (.Subscript a (.Slice lo hi none q) p) (aj Γ<|.sl ra rl rh):=by
 show PE X _ (yP (rM Γ.K) (aj Γ ra) (me Γ rl)<|me Γ rh)
 rw[<-G.K]
 exact Pg Tz ha hl hh
theorem mi:PO X none (me Γ none):=Pe
theorem iw(ha:PE X a (aj Γ ra)):PO X (some a) (me Γ<|some ra):=Pf ha
theorem bY{k}(hA:PA X es (aZ Γ rs)):PE X (.Tuple es k p) (aj Γ<|.tup rs):=OY hA
theorem bG(hA:PA X es (aZ Γ rs)):PE X (.List es p) (aj Γ<|.lst rs):=OZ hA
def vZ(CX:bM)(S:cg)(Γ:aX)(cond:Option RE)(ifs:List Expr):Prop:=match cond with
 | none=>ifs=[]
 | some r=> ∃e0,ifs=[e0]/\ ∀X,Good CX S Γ X->PT X e0 (bf Γ r)
theorem ja:vZ CX S Γ none []:=rfl
theorem Ah(h: ∀X,Good CX S Γ X->PT X e (bf Γ r)):vZ CX S Γ (some r) [e]:=⟨e,rfl,h⟩
def kC(S:cg)(tk:Option Nat)(tg iter:Expr)(sc:Scope)(k:IK)(ln:List Str)(fv:List (Str×Nat)):Bool:=decide (zG tk tg=some ln) && (decide (k≠ .zip) || tk.isSome) && zH S ⟨.Constant .none 0 ⟨0,0,0,0⟩,tg,iter,[],sc⟩ ln fv
abbrev cS(S:cg)(sc:Scope)(ln:List Str)(fv:List (Str×Nat)):cg:={S with N:=ln++fv.map (·.1),sc:=zF sc S.sc,en:=[],md:=if S.md=0 then 0 else 2}
theorem iy{tk:Option Nat}{fv:List (Str×Nat)}{k:IK}{its:List RE}{cond:Option RE}{elt:RE}{el tg iter:Expr}{ifs:List Expr}{sc:Scope}{ln:List Str}(G:Good CX S Γ X)(h:kC S tk tg iter sc k ln fv=true)(hi:PI X tg iter (fE Γ k its))
  (hc:vZ CX (cS S sc ln fv) Γ.calm cond ifs) (he: ∀X,Good CX (cS S sc ln fv) Γ.calm X->PE X el (aj Γ.calm elt)) (hq:S.md=0:=by rfl):PE X (.ListComp el [⟨tg,iter,ifs,0⟩] sc p) (aj Γ<|.comp tk fv k its cond elt):=by
 simp only[kC,zab,decide_eq_true_eq] at h
 obtain⟨⟨h1,h2⟩,h3⟩:=h
 obtain⟨o1,o2,o3,o4⟩:=FC (c:=⟨.Constant .none 0 ⟨0,0,0,0⟩,tg,iter,[],sc⟩) G h3
 show PE X _ (nr Γ.K (fE Γ k its) tk fv (zC Γ.calm cond)<|aj Γ.calm elt)
 rw[<-G.K]
 refine QY o1 (G.calm hq) hi (FD (c:=⟨.Constant .none 0 ⟨0,0,0,0⟩,tg,iter,[],sc⟩) (G.calm hq) h1 o2 o3) ?_ (fun ex C s H=>he _<|G.inner ⟨.Constant .none 0 ⟨0,0,0,0⟩,tg,iter,[],sc⟩ ln fv ex C s H)<|vS o4
 cases cond with
 | none=>exact hc
 | some r=>
  obtain⟨e0,q,hq⟩:=hc
  exact⟨e0,q,fun ex C s H=>hq _<|G.inner ⟨.Constant .none 0 ⟨0,0,0,0⟩,tg,iter,[],sc⟩ ln fv ex C s H⟩
theorem di(h:PT X a (bf Γ ra)):PT X (.UnaryOp .Not a p) (bf Γ<|.not ra):=NC h
theorem mj(h:PT X e (bf Γ r)):PW X (.BoolOp .And [e] p) (bf Γ<|.and [r]):=pw_and1 h
theorem k6{r2:RE}(h:PT X e (bf Γ r))(t:PW X (.BoolOp .And (e2::es) p) (bf Γ<|.and (r2::rs))):PW X (.BoolOp .And (e::e2::es) p) (bf Γ<|.and (r::r2::rs)):=pw_and h t
theorem gf(h:PT X e (bf Γ r)):PW X (.BoolOp .Or [e] p) (bf Γ<|.or [r]):=pw_or1 h
theorem eQ{r2:RE}(h:PT X e (bf Γ r))(t:PW X (.BoolOp .Or (e2::es) p) (bf Γ<|.or (r2::rs))):PW X (.BoolOp .Or (e::e2::es) p) (bf Γ<|.or (r::r2::rs)):=pw_or h t
theorem aS{op:CmpOp}(G:Good CX S Γ X)(ha:PE X a (aj Γ ra))(hb:PE X b (aj Γ rb))(hm:behindInMarks op b=false:=by kernel_rfl):PT X (.Compare a [op] [b] p) (bf Γ<|.cmp op ra rb):=by
 show PT X _ (lR<|eB (b9 Γ.K op) (aj Γ ra)<|aj Γ rb)
 rw[<-G.K]
 exact Ow (ph G.units op) ha hb hm
theorem Ug{op b_:CmpOp}(G:Good CX S Γ X)(ha:PE X a (aj Γ ra))(hb:PE X b (aj Γ rb))(hc:PE X c (aj Γ rc))(hm:lastMarks [op,b_] [b,c]=false:=by kernel_rfl):PT X (.Compare a [op,b_] [b,c] p) (bf Γ<|.jK op b_ ra rb rc):=by
 show PT X _ (lR<|pd (b9 Γ.K op) (b9 Γ.K b_) (aj Γ ra) (aj Γ rb)<|aj Γ rc)
 rw[<-G.K]
 exact Oy (ph G.units op) (ph G.units b_) ha hb hc hm
theorem so(G:Good CX S Γ X)(h:PE X (.Name x p) (aj Γ<|.v i)):PT X (.Name x p) (bf Γ<|.v i):=by
 show PT X _ (eG Γ.K<|aj Γ<|.v i)
 rw[<-G.K]
 exact pQ h fun _=>rfl
theorem fJ(G:Good CX S Γ X)(h:PE X (.Call a es [] p) (aj Γ<|.call j rs)):PT X (.Call a es [] p) (bf Γ<|.call j rs):=by
 show PT X _ (eG Γ.K<|aj Γ<|.call j rs)
 rw[<-G.K]
 exact pQ h fun _=>rfl
theorem FV(G:Good CX S Γ X)(h:PE X (.Call a es [] p) (aj Γ<|.dg ra rb)):PT X (.Call a es [] p) (bf Γ<|.dg ra rb):=by
 show PT X _ (eG Γ.K<|aj Γ<|.dg ra rb)
 rw[<-G.K]
 exact pQ h fun _=>rfl
theorem v5{T:Ty}(G:Good CX S Γ X)(h:PE X (.Call a es [] p) (aj Γ<|.eO T ra)):PT X (.Call a es [] p) (bf Γ<|.eO T ra):=by
 show PT X _ (eG Γ.K<|aj Γ<|.eO T ra)
 rw[<-G.K]
 exact pQ h fun _=>rfl
theorem v7(G:Good CX S Γ X)(h:PE X (.Subscript a b p) (aj Γ<|.ix ra rb)):PT X (.Subscript a b p) (bf Γ<|.ix ra rb):=by
 show PT X _ (eG Γ.K<|aj Γ<|.ix ra rb)
 rw[<-G.K]
 exact pQ h fun _=>rfl
theorem jb{tg:Expr}(G:Good CX S Γ X)(ha:PE X a (aj Γ ra)):PI X tg a (fE Γ .list [ra]):=by
 show PI X tg a (yA Γ.K<|aj Γ ra)
 rw[<-G.K]
 exact NX ha
theorem Uh{tg:Expr}(G:Good CX S Γ X)(ha:PE X a (aj Γ ra)):PI X tg a (fE Γ .tup [ra]):=by
 show PI X tg a (yB Γ.K<|aj Γ ra)
 rw[<-G.K]
 exact NY ha
theorem Ai{tg:Expr}(G:Good CX S Γ X)(ha:PE X a (aj Γ ra))(h:kB S x "range"=true:=by kernel_rfl)(hs:noStar a=true:=by kernel_rfl):PI X tg (.Call (.Name x p) [a] [] pos) (fE Γ .gO [ra]):=by
 simp only[kB,zab,decide_eq_true_eq] at h
 obtain⟨⟨rfl,h2⟩,h3⟩:=h
 exact N2 (G.gl h2) (G.cH _ h3) (jE ha ng<|cE hs)<|cE hs
theorem Aj{ts:List Expr}{k}{tp:Pos}(G:Good CX S Γ X)(ha:PE X a (aj Γ ra))(h:kB S x "enumerate"=true:=by kernel_rfl)(hs:noStar a=true:=by kernel_rfl):PI X (.Tuple ts k tp) (.Call (.Name x p) [a] [] pos) (fE Γ .rK [ra]):=by
 simp only[kB,zab,decide_eq_true_eq] at h
 obtain⟨⟨rfl,h2⟩,h3⟩:=h
 show PI X _ _ (zA Γ.K<|cK (aj Γ ra)<|aZ Γ [])
 rw[<-G.K]
 exact R3 (G.gl h2) (G.cH _ h3) (jE ha ng<|cE hs)<|cE hs
theorem FW{ts:List Expr}{k}{tp:Pos}(G:Good CX S Γ X)(ha:PE X a (aj Γ ra))(hb:PE X b (aj Γ rb))(h:kB S x "zip"=true:=by kernel_rfl)(hn:dQ [a,b]=true:=by kernel_rfl):PI X (.Tuple ts k tp) (.Call (.Name x p) [a,b] [] pos) (fE Γ .zip [ra,rb]):=by
 simp only[kB,zab,decide_eq_true_eq] at h
 obtain⟨⟨rfl,h2⟩,h3⟩:=h
 show PI X _ _ (zB Γ.K<|cK (aj Γ ra)<|aZ Γ [rb])
 rw[<-G.K]
 exact RX (G.gl h2) (G.cH _ h3) (jE ha (jE hb ng<|cE (bR (bR hn).2).1)<|cE (bR hn).1) (cE (bR hn).1)<|e8 _ _ _ (bR hn).2
end
section
variable {CX:bM} {S:cg} {Γ:aX} {X:Cx} {e a b c v:Expr} {es:List Expr} {x:Str} {p q pos:Pos} {r ra rb rc:RE} {i j:Nat} {st:Stmt} {FX:List Stmt} {s:RS} {ss t u:List RS}
theorem v8{v:Expr}{t:Option Expr}{l:Nat}{env:Env}(h:sf v=true):swapsWith v t l env=pure false:=by
 cases v<;>first | rfl | cases h
theorem Ui{v:Expr}{x:Str}{p:Pos}{l:Nat}{env:Env}(h:env.kindOf x=some .cell):swapsWith v (some<|.Name x p) l env=pure false:=by
 cases v<;>first
  | rfl
  | (unfold swapsWith;simp only[h];have q:(some NameKind.cell==some NameKind.local)=false:=rfl;simp only[q,Bool.and_false,Bool.false_and])
theorem Uj{v o i:Expr}{p:Pos}{l:Nat}{env:Env}:swapsWith v (some<|.Subscript o i p) l env=pure false:=by
 cases v<;>rfl
theorem Uk{v o i:Expr}{p:Pos}{env:Env}:swappedStores [.Subscript o i p] v env=pure none:=by
 cases v<;>rfl
theorem cR.name(G:cR CX S Γ X)(h:kL S i x=true):PG X (.Name x p) (eY i):=by
 simp only[kL,zab,decide_eq_true_eq] at h
 exact uU (by rw[G.N];exact G.nd) (by rw[G.N];exact h.1) (by rw[G.sc];exact zE h.2)<|.inl<|G.kY x
theorem ar:cP X [] (av Γ []):=Dr
theorem ai(h:PS X st (bh Γ s))(t:cP X FX (av Γ ss)):cP X (st::FX) (av Γ (s::ss)):=NJ h t
theorem aH(G:cR CX S Γ X)(he:PE X v (aj Γ r))(h:kL S i x=true:=by kernel_rfl)(hc:(sf v || decide (S.sc.names.lookup x=some .cell))=true:=by kernel_rfl):PS X (.Assign [.Name x p] v q) (bh Γ<|.asg i r):=by
 simp only[kL,zab,decide_eq_true_eq,Bool.or_eq_true] at h hc
 refine NS (by rw[G.N];exact G.nd) (by rw[G.N];exact h.1) (by rw[G.sc];exact zE h.2) he ?_<|.inl<|G.kY x
 rcases hc with h4 | h4
 ·exact v8 h4
 ·exact Ui (by show X.env.scope.names.lookup x=_;rw[G.sc];exact h4)
theorem FY{tk:Option Nat}{fv:List (Str×Nat)}{k:IK}{its:List RE}{cond:Option RE}{elt:RE}{el tg iter:Expr}{ifs:List Expr}{sc:Scope}{ln:List Str}{pc:Pos}(G:cR CX S Γ X)(h0:kL S i x=true)(hs:FT S.sc x p.line sc pc=true)(h:kC S tk tg iter sc k ln fv=true)(hi:PI X tg iter (fE Γ k its))
  (hc:vZ CX (cS S sc ln fv) Γ.calm cond ifs) (he: ∀X,Good CX (cS S sc ln fv) Γ.calm X->PE X el (aj Γ.calm elt)) (hq:S.md=0:=by rfl):PS X (.Assign [.Name x p] (.ListComp el [⟨tg,iter,ifs,0⟩] sc pc) q) (bh Γ<|.pk i<|.comp tk fv k its cond elt):=by
 simp only[kC,kL,FT,zab,decide_eq_true_eq,beq_iff_eq,zaG] at h h0 hs
 obtain⟨⟨h1,h2⟩,h3⟩:=h
 obtain⟨o1,o2,o3,o4⟩:=FC (c:=⟨.Constant .none 0 ⟨0,0,0,0⟩,tg,iter,[],sc⟩) G.toGood h3
 show PS X _ (iP (nr Γ.K (fE Γ k its) tk fv (zC Γ.calm cond)<|aj Γ.calm elt)<|eY i)
 rw[<-G.K]
 refine QZ (by rw[G.N];exact G.nd) (by rw[G.N];exact h0.1) (by rw[G.sc];exact zE h0.2) ?_ o1 (G.calm hq) hi (FD (c:=⟨.Constant .none 0 ⟨0,0,0,0⟩,tg,iter,[],sc⟩) (G.calm hq) h1 o2 o3) ?_ (fun ex C s H=>he _<|G.toGood.inner ⟨.Constant .none 0 ⟨0,0,0,0⟩,tg,iter,[],sc⟩ ln fv ex C s H) (vS o4)<|.inl<|G.kY x
 ·have e1:X.env.kindOf x=some .local:=by show X.env.scope.names.lookup x=_;rw[G.sc];exact hs.1.1.2
  have e2:X.env.blockKind= .function:=by unfold Env.blockKind;rw[G.nH];rfl
  unfold swapsWith
  simp only[e1,e2,hs.1.2,hs.2]
  show pure (true && true && (pc.line==pc.line) && !false)=pure true
  rw[beq_self_eq_true];rfl
 ·cases cond with
  | none=>exact hc
  | some r=>
   obtain⟨e0,q,hq⟩:=hc
   exact⟨e0,q,fun ex C s H=>hq _<|G.toGood.inner ⟨.Constant .none 0 ⟨0,0,0,0⟩,tg,iter,[],sc⟩ ln fv ex C s H⟩
theorem Ul(he:PE X v (aj Γ r))(ha:PE X a (aj Γ ra))(hb:PE X b (aj Γ rb))(h:Ag b=true:=by kernel_rfl):PS X (.Assign [.Subscript a b p] v q) (bh Γ<|.set ra rb r):=
 DA he (NR ha hb set_list (by intro w;cases b<;>first | rfl | cases h)) (by exact Uj (o:=a) (i:=b) (p:=p) (l:=q.line) (env:=X.env)) Uk rfl
theorem nK{f:Str}(G:cR CX S Γ X)(ho:PE X a (aj Γ ra))(he:PE X v (aj Γ r))(h:sf v=true:=by kernel_rfl):PS X (.Assign [.Attribute a f p] v q) (bh Γ<|.jL ra f r):=by
 show PS X _ (yI Γ.K (aj Γ ra) (aj Γ r) f)
 rw[<-G.K]
 exact OV ho he<|v8 h
theorem cW(he:PE X v (aj Γ r))(h:sf v=true:=by kernel_rfl):PS X (.Expr v p) (bh Γ<|.drop r):=NM he (v8 h)
theorem aK(he:PE X v (aj Γ r)):PS X (.Return (some v) p) (bh Γ<|.ret r):=NN he
theorem bc{as bs:List Stmt}(hc:PT X c (bf Γ rc))(ha:cP X as (av Γ t))(hb:cP X bs (av Γ u)):PS X (.If c as bs p) (bh Γ<|.ite rc t u):=NP hc ha hb
theorem jc{as:List Stmt}(G:cR CX S Γ X)(hc:PT X c (bf Γ rc))(ha:cP X as (av Γ t)):PS X (.While c as [] p) (bh Γ<|.fD rc t):=NT G.own hc ha
theorem Ak{k:IK}{its:List RE}{iter:Expr}{as:List Stmt}(G:cR CX S Γ X)(hi:PI X (.Name x p) iter (fE Γ k its))(ha:cP X as (av Γ t))(h:kL S i x=true:=by kernel_rfl)(hs:rQ iter=true:=by kernel_rfl)(hq:S.md=0:=by rfl):PS X (.For (.Name x p) iter as [] q) (bh Γ<|.pq i k its t):=
 DF G.own (G.calm hq) hi (G.name h) ha (vS hs)
theorem Al(G:cR CX S Γ X): ∀(is:List Nat) (xs:List (Str×Pos)),nG S.N S.sc is (xs.map (·.1))=true->
  o9 X (xs.map fun y=> .Name y.1 y.2) (i8 is)/\(assignEach (xs.map fun y=>Expr.Name y.1 y.2) X.env).length=is.length/\(assignEach (xs.map fun y=>Expr.Name y.1 y.2) X.env).findIdx? (·.1)=none
 | [],xs,h=>by
  simp only[nG,List.isEmpty_iff,List.map_eq_nil_iff] at h
  subst h;exact⟨Dw,rfl,rfl⟩
 | i::r,[],h=>by simp only[List.map_nil,nG] at h;cases h
 | i::r,y::t,h=>by
  simp only[zaO,nG,zab] at h
  obtain⟨i1,i2,i3⟩:=Al G r t h.2
  refine⟨yz (G.name (by simp only[kL,zab];exact h.1)) i1 rfl, ?_, ?_⟩
  ·show(assignEach _ X.env).length+1=r.length+1
   rw[i2]
  ·show List.findIdx? (·.1) ((false,assign (.Name y.1 y.2) X.env)::assignEach _ X.env)=none
   rw[List.findIdx?_cons,i3];rfl
theorem v9{is:List Nat}{k:IK}{its:List RE}{iter:Expr}{as:List Stmt}{kt}{tp:Pos}(xs:List (Str×Pos))(G:cR CX S Γ X)(hi:PI X (.Tuple (xs.map fun y=> .Name y.1 y.2) kt tp) iter (fE Γ k its))(ha:cP X as (av Γ t))(h:nG S.N S.sc is (xs.map (·.1))=true:=by kernel_rfl)(hs:rQ iter=true:=by kernel_rfl)(hq:S.md=0:=by rfl):
  PS X (.For (.Tuple (xs.map fun y=> .Name y.1 y.2) kt tp) iter as [] q) (bh Γ<|.nA is k its t):=by
 obtain⟨i1,i2,i3⟩:=Al G is xs h
 show PS X _ (uX (fE Γ k its) (jP Γ.K is.length<|i8 is)<|av Γ t)
 rw[<-G.K]
 exact DF G.own (G.calm hq) hi (FR (G.calm hq) i1 i2 i3) ha<|vS hs
def Um:Expr->Bool
 | .Tuple ..=>false | _=>true
theorem Am{is:List Nat}{kt}{tp:Pos}(xs:List (Str×Pos))(G:cR CX S Γ X)(he:PE X v (aj Γ r))(h:nG S.N S.sc is (xs.map (·.1))=true:=by kernel_rfl)(hc:(sf v && Um v)=true:=by kernel_rfl)(hq:S.md=0:=by rfl):
  PS X (.Assign [.Tuple (xs.map fun y=> .Name y.1 y.2) kt tp] v q) (bh Γ<|.nB is r):=by
 simp only[zab] at hc
 obtain⟨i1,i2,i3⟩:=Al G is xs h
 show PS X _ (iP (aj Γ r)<|jP Γ.K is.length<|i8 is)
 rw[<-G.K]
 refine DA he (FR (G.calm hq) i1 i2 i3) (by show swapsWith v (some<|.Tuple (xs.map fun y=>Expr.Name y.1 y.2) kt tp) q.line X.env=pure false;exact v8 hc.1) ?_ rfl
 have h2:=hc.2
 cases v<;>first | rfl | cases h2
def kX(S:cg)(j:Nat)(x:Str):Bool:=decide (S.en[j]?=some x) && kO S.sc x && !(x==("__debug__":Str))
theorem jd{rs:List RE}{np de:Pos}(G:cR CX S Γ X)(hA:PA X (e::es) (aZ Γ (r::rs)))(h:kX S j x=true:=by kernel_rfl)(hn:dQ (e::es)=true:=by kernel_rfl)(hq:S.md=0:=by rfl):PS X (.Raise (some<|.Call (.Name x np) (e::es) [] de) none pos) (bh Γ<|.gX j (r::rs)):=by
 simp only[kX,zab,decide_eq_true_eq,zaG] at h
 obtain⟨bm,B,newId,pF,O,FB⟩:=G.pN j x h.1.1
 exact Sn (G.calm hq) O FB (G.gl h.1.2) h.2 hA (cE (bR hn).1) (e8 _ _ es (bR hn).2)<|G.rs j x h.1.1
abbrev tS(S:cg):cg:={S with en:=[]}
abbrev hS(S:cg):cg:={S with en:=[],md:=2}
theorem cR.Uo(G:cR CX S Γ X)(pn:List (Addr×Obj))(xe:Value->Shared->Prop)(E:XK)(ho:PassesOwn (model X.prog X.w) X.A X.env xe)(hp:Passes (ej X.prog X.w) (X.alt X.A X.calm pn xe) E):
  cR CX (tS S) {Γ with E:=E} (X.alt X.A X.calm pn xe):=
 {N:=G.N,sc:=G.sc,K:=G.K,calm:=G.calm,units:=G.units,fns:=G.fns,jM:=G.jM,cH:=G.cH,pass:=by rw[G.nJ];exact hp,jN:=G.jN,kS:=G.kS,kT:=G.kT,kU:=G.kU,
  pN:=fun _ _ h=> (by simp at h),kW:=G.kW,mh:=G.mh,pP:=G.pP,nd:=G.nd,kY:=G.kY,own:=ho,nH:=G.nH,rs:=fun _ _ h=> (by simp at h),ib:=G.ib,fH:=G.fH,nI:=G.nI,nJ:=G.nJ}
theorem cR.held(G:cR CX S Γ X)(ea:Addr)(pn:List (Addr×Obj)):
  cR CX (hS S) {Γ with E:=E0,hv:=some ea} (X.alt (X.A.mark<|some<|.ref ea) false pn fun _ _=>False):=
 {N:=G.N,sc:=G.sc,K:=G.K,calm:=fun h=> (nomatch h),units:=G.units,fns:=fun h=> (nomatch h),jM:=G.jM,cH:=G.cH,pass:=fun _ _ _ _ _ _ _ h=> (G.jN _ _ _ _ _ h).elim,jN:=G.jN,kS:=G.kS,kT:=fun h=> (nomatch h),kU:=fun h=> (nomatch h),
  pN:=fun _ _ h=> (by simp at h),kW:=fun j x h=> (by
   obtain⟨k,f,fd,ps,F,r,m⟩:=G.kW j x h
   exact⟨k,f,fd,ps,F,r.mark _,m⟩),
  mh:=fun e h=> (by cases h;rfl),pP:=fun h=> (nomatch h),nd:=G.nd,kY:=G.kY,own:=PassesOwn.never,nH:=G.nH,rs:=fun _ _ h=> (by simp at h),ib:=G.ib,fH:=G.fH,nI:=G.nI,nJ:=G.nJ}
theorem Uq{n:Nat}{y:Str}{np pH:Pos}{body su:List Stmt}{b₀:Stmt}{rb sq:List RS}(G:cR CX S Γ X)(h:kG S j x=true)(hn:(decide (S.N.length=n) && decide (S.N[i]?=some y) && decide (S.sc.names.lookup y=some .local))=true)
  (hb: ∀{Γ:aX} {X:Cx},cR CX (tS S) Γ X->cP X body (av Γ rb)) (hs: ∀{Γ:aX} {X:Cx},cR CX (hS S) Γ X->cP X (b₀::su) (av Γ sq)):
  PS X (.Try body [.ExceptHandler (some<|.Name x np) (some y) (b₀::su) pH] [] [] pos) (bh Γ<|.zy n i j rb sq):=by
 simp only[kG,zab,decide_eq_true_eq,zaG] at h hn
 obtain⟨u,hm,hu⟩:=G.jM j x h.1.1
 intro pins s σ H D I q
 obtain⟨C,e,q⟩:=(show ∃C,Γ.gv j= .ref C/\vE Γ.K C i n (fun E=>av {Γ with E:=E} rb) (fun ea=>av {Γ with E:=E0,hv:=some ea} sq) D σ H from q)
 rw[e] at hu
 have rG:u= .ref C:=hu
 subst rG
 have hl:X.N.length=n:=by rw[G.N];exact hn.1.1
 have q':vE X.K C i X.N.length (fun E=>av {Γ with E:=E} rb) (fun ea=>av {Γ with E:=E0,hv:=some ea} sq) D σ H:=by rw[G.K,hl];exact q
 exact Sr (tb:=fun E=>av {Γ with E:=E} rb) (th:=fun ea=>av {Γ with E:=E0,hv:=some ea} sq) G.ib G.fH G.nI (G.gl h.1.2) h.2 hm (by rw[G.N];exact G.nd) (by rw[G.N];exact hn.1.2) (by rw[G.sc];exact hn.2)
  (fun pn xe E ho hp=>hb<|G.Uo pn xe E ho hp) (fun ea pn=>hs<|G.held ea pn) pins s σ H D I q'
end
section
variable {P:Program} {w:World} {K:Frag} {mg:Str->Option Value} {base:Heap}
def d5(P:Program)(w:World)(K:Frag)(mg:Str->Option Value)(base:Heap)(k:Nat)(x:Str)(sp:Sp):Prop:=
 ∃f fd ps,cb P w K mg base (ej P w) k f fd ps sp/\mg x=some (.ref f)/\PySem.W.keepIn K (.ref f)=true/\Binds K fd ps []
theorem d5.mono{j k:Nat}{x:Str}{sp:Sp}(h:d5 P w K mg base j x sp)(hk:j<=k):d5 P w K mg base k x sp:=by
 obtain⟨f,fd,ps,F,r⟩:=h
 exact⟨f,fd,ps,F.mono hk,r⟩
def mm(tab:List (Str×Sp))(j:Nat):Sp:=match tab[j]? with
 | some p=>p.2
 | none=>fun _ _ _ _=>False
def nM(tab:List (Str×V))(j:Nat):V:=match tab[j]? with
 | some p=>p.2
 | none=> .aA
structure sr (mg:Str->Option Value) (p:Str×V):Prop where
 ex: ∃u,mg p.1=some u/\RelV p.2 u
def jT(tab:List (Str×Addr×Sp))(j:Nat):Addr×Sp:=match tab[j]? with
 | some p=>p.2
 | none=> (0,fun _ _ _ _=>False)
def v_(tab:List (Str×Addr))(j:Nat):Addr:=match tab[j]? with
 | some p=>p.2
 | none=>0
abbrev aI(K:Frag)(tab:List (Str×Sp))(gt:List (Str×V))(dk:List (Addr×List (Key×V)):=[])(mt kt:List (Str×Addr×Sp):=[])(et:List (Str×Addr):=[])(ht:List (Str×Sp):=[])(E:XK:=E0):aX:=
 {K:=K,fs:=mm tab,gv:=nM gt,E:=E,sd:=fun p aQ=> (p,aQ)∈dk,ms:=jT mt,kt:=jT kt,ex:=v_ et,hs:=mm ht,hv:=none}
def nN(P:Program)(w:World)(K:Frag)(mg:Str->Option Value)(base:Heap)(k:Nat)(p:Str×Addr×Sp):Prop:=
 eZ K p.2.1/\ ∃f fd ps,Meth K p.2.1 p.1 f/\cb P w K mg base (ej P w) k f fd ps p.2.2/\Binds K fd ps []
def nP(P:Program)(w:World)(K:Frag)(mg:Str->Option Value)(base:Heap)(k:Nat)(p:Str×Addr×Sp):Prop:=
 ∃j f fd ps,j+1<=k/\Mk K p.2.1 f/\cb P w K mg base (ej P w) j f fd ps p.2.2/\mg p.1=some (.ref p.2.1)/\Binds K fd ps []
theorem nN.mono{j k:Nat}{p:Str×Addr×Sp}(h:nN P w K mg base j p)(hk:j<=k):nN P w K mg base k p:=by
 obtain⟨c,f,fd,ps,m,F,b⟩:=h
 exact⟨c,f,fd,ps,m,F.mono hk,b⟩
theorem nP.mono{j k:Nat}{p:Str×Addr×Sp}(h:nP P w K mg base j p)(hk:j<=k):nP P w K mg base k p:=by
 obtain⟨i,f,fd,ps,m,r⟩:=h
 exact⟨i,f,fd,ps,zaq m hk,r⟩
def FZ(P:Program)(w:World)(K:Frag)(q:Addr×List (Key×V)):Prop:= ∀h:Heap,K.In h-> ∃vs,KV q.2 vs/\h.DictOf (jw P w) q.1 vs
abbrev pR(N:List Str)(sc:Scope)(tab:List Str)(gt:List Str)(bl:List Str)(mn kn:List Str:=[])(en hn:List Str:=[])(md:Nat:=0):cg:={N:=N,sc:=sc,fn:=tab,gn:=gt,bl:=bl,mn:=mn,kn:=kn,en:=en,hn:=hn,md:=md}
def wa(mg:Str->Option Value)(base:Heap)(p:Str×Addr):Prop:= ∃bm B newId pF,OwnCls p.1 p.2 bm newId mg base/\ExcBaseFacts B newId pF bm
def mq(P:Program)(w:World)(K:Frag)(mg:Str->Option Value)(base:Heap)(k:Nat)(x:Str)(sp:Sp):Prop:=
 ∃f fd ps,nF P w K mg base k f fd ps sp/\mg x=some (.ref f)/\PySem.W.keepIn K (.ref f)=true/\Binds K fd ps []
theorem mq.mono{P:Program}{w:World}{K:Frag}{mg:Str->Option Value}{base:Heap}{j k:Nat}{x:Str}{sp:Sp}(h:mq P w K mg base j x sp)(hk:j<=k):mq P w K mg base k x sp:=by
 obtain⟨f,fd,ps,F,r⟩:=h
 exact⟨f,fd,ps,F.mono hk,r⟩
theorem Ur{x qual:Str}{st:Stmt}{f:Addr}{fd:FuncData}{N ps:List Str}{k:Nat}{sp:Sp}(F:kJ K x qual st f fd)(S:jF N ps (df st))
  (tab:List (Str×Sp)) (gt:List (Str×V)) (bl:List Str) (mt kt:List (Str×Addr×Sp)) (et:List (Str×Addr)) (ht:List (Str×Sp)) (body:List RS)
  (hm: ∀{CX:bM} {Γ:aX} {X:Cx},cR CX (pR N (df st) (tab.map (·.1)) (gt.map (·.1)) bl (mt.map (·.1)) (kt.map (·.1)) (et.map (·.1)) (ht.map (·.1))) Γ X->cP X (cL st) (av Γ body))
  (An: ∀p∈tab,d5 P w K mg base k p.1 p.2) (nQ: ∀p∈gt,sr mg p) (nR: ∀y∈bl,mg y=none) (dk:List (Addr×List (Key×V))) (Ao: ∀q∈dk,FZ P w K q)
  (Ap: ∀p∈mt,nN P w K mg base k p) (Aq: ∀p∈kt,nP P w K mg base k p) (het: ∀p∈et,wa mg base p) (Ar: ∀p∈ht,mq P w K mg base k p.1 p.2)
  (len: ∀vs H Q E,sp vs H Q E->vs.length=ps.length)
  (nS: ∀vs H Q E,sp vs H Q E->av (aI K tab gt dk mt kt et ht E) body {nx:=fun _ H'=>Q .aA H',rt:=Q} (start N vs) H):cb P w K mg base (ej P w) (k+1) f fd ps sp:=by
 obtain⟨oc,od,kV,doc,pm,an,bt,ct,e7,rfl,lk,fq⟩:=F.ex
 refine D7 lk fq S len fun A outer s H vs Q E hr gR=> ⟨_,hm (CX:=ej P w) (Γ:=aI K tab gt dk mt kt et ht E) ?_,nS vs H Q E gR⟩
 refine {N:=rfl,sc:=rfl,K:=rfl,calm:=fun _=>rfl,units:=hr.units,fns:=fun _ j y hj=> ?_,jM:=fun j y hj=> ?_,cH:=fun y hy=> ?_,pass:=Sl,jN:=fun _ _ _ _ _ h=>vL h,kS:=fun p aQ h=>Ao _ h,kT:=fun _ j y hj=> ?_,kU:=fun _ j y hj=> ?_,pN:=fun j y hj=> ?_,kW:=fun j y hj=> ?_,mh:=fun _ h=> (nomatch h),pP:=fun h=> (nomatch h),nd:=S.nd,kY:=fun _=>rfl,own:=PassesOwn.leaving,nH:=S.kind,rs:=fun _ _ _=>Sm,ib:=rfl,fH:=rfl,nI:=rfl,nJ:=rfl}
 ·have bA:(tab.map (·.1))[j]?=some y:=hj
  rw[zak] at bA
  cases q:tab[j]? with
  | none=>rw[q] at bA;cases bA
  | some p=>
   rw[q] at bA
   have e:p.1=y:=zal bA
   obtain⟨f',nU,nV,F',m',k',b'⟩:=An p (zaj q)
   have es:mm tab j=p.2:=by unfold mm;rw[q]
   show Fx (ej P w) _ y (mm tab j)
   rw[es,<-e]
   exact⟨k,f',nU,nV,F',hr,m',k',b'⟩
 ·have bA:(gt.map (·.1))[j]?=some y:=hj
  rw[zak] at bA
  cases q:gt[j]? with
  | none=>rw[q] at bA;cases bA
  | some p=>
   rw[q] at bA
   have e:p.1=y:=zal bA
   obtain⟨u,h1,h2⟩:=(nQ p<|zaj q).ex
   have es:nM gt j=p.2:=by unfold nM;rw[q]
   show ∃u,mg y=some u/\RelV (nM gt j) u
   rw[es,<-e]
   exact⟨u,h1,h2⟩
 ·exact nR y (by simpa using hy)
 ·have bA:(mt.map (·.1))[j]?=some y:=hj
  rw[zak] at bA
  cases q:mt[j]? with
  | none=>rw[q] at bA;cases bA
  | some p=>
   rw[q] at bA
   have e:p.1=y:=zal bA
   obtain⟨c,f',nU,nV,m',F',b'⟩:=Ap p (zaj q)
   have es:jT mt j=p.2:=by unfold jT;rw[q]
   show vQ (ej P w) _ (jT mt j).1 y (jT mt j).2
   rw[es,<-e]
   exact⟨c,k,f',nU,nV,m',F',hr,b'⟩
 ·have bA:(kt.map (·.1))[j]?=some y:=hj
  rw[zak] at bA
  cases q:kt[j]? with
  | none=>rw[q] at bA;cases bA
  | some p=>
   rw[q] at bA
   have e:p.1=y:=zal bA
   obtain⟨i,f',nU,nV,hi,m',F',g',b'⟩:=Aq p (zaj q)
   have es:jT kt j=p.2:=by unfold jT;rw[q]
   show Fy (ej P w) _ y (jT kt j).1 (jT kt j).2
   rw[es,<-e]
   exact⟨i,f',nU,nV,m',F',hr.mono hi,g',b'⟩
 ·have bA:(et.map (·.1))[j]?=some y:=hj
  rw[zak] at bA
  cases q:et[j]? with
  | none=>rw[q] at bA;cases bA
  | some p=>
   rw[q] at bA
   have e:p.1=y:=zal bA
   have es:v_ et j=p.2:=by unfold v_;rw[q]
   show FA _ y (v_ et j)
   rw[es,<-e]
   exact het p<|zaj q
 ·have bA:(ht.map (·.1))[j]?=some y:=hj
  rw[zak] at bA
  cases q:ht[j]? with
  | none=>rw[q] at bA;cases bA
  | some p=>
   rw[q] at bA
   have e:p.1=y:=zal bA
   obtain⟨f',nU,nV,F',m',k',b'⟩:=Ar p (zaj q)
   have es:mm ht j=p.2:=by unfold mm;rw[q]
   show Fz _ y (mm ht j)
   rw[es,<-e]
   exact⟨k,f',nU,nV,F',hr.h,m',k',b'⟩
section
variable {x qual:Str} {st:Stmt} {f C:Addr} {fd:FuncData} {N ps:List Str} {k:Nat} {sp:Sp}
end
theorem Us{x qual:Str}{st:Stmt}{f:Addr}{fd:FuncData}{N ps:List Str}{k:Nat}{sp:Sp}(F:kJ K x qual st f fd)(S:jF N ps (df st))(iW:mg x=some (.ref f))(hb:Binds K fd ps [])
  (no: ∀vs H Q E,¬sp vs H Q E):d5 P w K mg base (k+1) x sp:=
 by
 obtain⟨oc,od,kV,doc,pm,an,bt,ct,e7,rfl,lk,fq⟩:=F.ex
 exact⟨f,_,ps,D7 lk fq S (fun vs H Q E h=> (no vs H Q E h).elim)<|fun A outer s H vs Q E hr h=> (no vs H Q E h).elim,iW,F.kp,hb⟩
end
section
variable {P:Program} {w:World} {K:Frag} {mg:Str->Option Value} {base:Heap} {x qual:Str} {st:Stmt} {f:Addr} {fd:FuncData} {N ps:List Str} {k:Nat} {sp:Sp}
theorem Ut(F:kJ K x qual st f fd)(S:jF N ps (df st))(iW:mg x=some (.ref f))(hb:Binds K fd ps [])
  (gt:List (Str×V)) (bl:List Str) (body:List RS)
  (hm: ∀{CX:bM} {Γ:aX} {X:Cx},cR CX (pR N (df st) [] (gt.map (·.1)) bl (md:=1)) Γ X->cP X (cL st) (av Γ body))
  (nQ: ∀p∈gt,sr mg p) (nR: ∀y∈bl,mg y=none) (len: ∀vs H Q E,sp vs H Q E->vs.length=ps.length)
  (nS: ∀vs H Q,sp vs H Q E0->av (aI K [] gt) body {nx:=fun _ H'=>Q .aA H',rt:=Q} (start N vs) H):mq P w K mg base (k+1) x sp:=by
 obtain⟨oc,od,kV,doc,pm,an,bt,ct,e7,rfl,lk,fq⟩:=F.ex
 refine⟨f,_,ps,SR (CX:=ej P w) lk fq S len fun A outer s H vs Q hr hh gR=> ⟨_,hm (CX:=ej P w) (Γ:=aI K [] gt) ?_,nS vs H Q gR⟩,iW,F.kp,hb⟩
 refine {N:=rfl,sc:=rfl,K:=rfl,calm:=fun h=> (nomatch h),units:=hr.units,fns:=fun h=> (nomatch h),jM:=fun j y hj=> ?_,cH:=fun y hy=> ?_,pass:=fun _ _ _ _ _ _ _ h=> (vL h).elim,jN:=fun _ _ _ _ _ h=>vL h,kS:=fun p aQ h=> (nomatch h),kT:=fun h=> (nomatch h),kU:=fun h=> (nomatch h),pN:=fun j y hj=> (nomatch hj),kW:=fun j y hj=> (nomatch hj),mh:=fun _ h=> (nomatch h),pP:=fun _=>SU hh,nd:=S.nd,kY:=fun _=>rfl,own:=PassesOwn.never,nH:=S.kind,rs:=fun _ _ hj=> (nomatch hj),ib:=rfl,fH:=rfl,nI:=rfl,nJ:=rfl}
 ·have bA:(gt.map (·.1))[j]?=some y:=hj
  rw[zak] at bA
  cases q:gt[j]? with
  | none=>rw[q] at bA;cases bA
  | some p=>
   rw[q] at bA
   have e:p.1=y:=zal bA
   obtain⟨u,h1,h2⟩:=(nQ p<|zaj q).ex
   have es:nM gt j=p.2:=by unfold nM;rw[q]
   show ∃u,mg y=some u/\RelV (nM gt j) u
   rw[es,<-e]
   exact⟨u,h1,h2⟩
 ·exact nR y (by simpa using hy)
theorem cb.top{k:Nat}(F:cb P w K mg base (ej P w) k f fd ps sp):cb P w K mg base rp k f fd ps (fun vs H Q _=>sp vs H Q E0):=
 ⟨fun vs H Q E h=>F.len vs H Q E0 h,fun A outer s H args us vs Q E hr e0 hb hv hs=>codeAny_mono (F.run A outer s H args us vs Q E0 hr e0 hb hv hs) fun r s' h=>by
  cases r with
  | error e=>exact(vL h).elim
  | ok fl=>cases fl<;>exact h⟩
end
section
variable {Γ:aX} {D:Ends} {σ:St} {H:Hp} {r:List RS} {Q:VK}
end
end L2
namespace L2.B
open PySem PySem.Spec PyProof.Rows
def g4:List Str:=["thing"]
noncomputable def F0:List RS:=
 [.ret<|.and [(.eO .int<|.v 0),(.not<|.eO .bool<|.v 0)]]
def af:List Str:=[]
def F1:List Str:=["isinstance","int","bool"]
def As:List Str:=["thing","words"]
noncomputable def Au:List RS:=
 [.ret<|.and [(.eO .str<|.v 0),(.cmp .In (.v 0)<|.v 1)]]
def F2:List Str:=["isinstance","str"]
noncomputable def Av:List RS:=
 [.ret<|.and [(.eO .str<|.v 0),(.cmp .Eq (.bD .lstrip (.v 0) [(.g 0)])<|.c<|.str "")]]
def Uu:List Str:=["SIGNS"]
noncomputable def F3:List RS:=
 [.ite (.not<|.call 0 [(.v 0)]) [.gX 0 [(.c<|.str "a text is a str of signs from the blank to the tilde, and line feeds")]] []]
def Uv:List Str:=["is_text"]
def Uw:List Str:=["BadText"]
def F4:List Str:=["_law_script","_law_k"]
noncomputable def F5:List RS:=
 [.ite (.cmp .Lt (.v 1) (.blt .len [(.v 0)])) [.ret (.ix (.v 0) (.v 1))] [],
 .ret (.c (.int 0))]
def nW:List Str:=["len"]
def F6:List Str:=["thing","least","most"]
noncomputable def F7:List RS:=
 [.ret<|.and [(.call 0 [(.v 0)]),(.jK .LtE .LtE (.v 1) (.v 0)<|.v 2)]]
def F8:List Str:=["is_whole"]
def Aw:List Str:=["_law_found_here"]
noncomputable def F9:List RS:=
 [.ret<|.and [(.eO .int<|.v 0),(.not<|.eO .bool<|.v 0)]]
def F_:List Str:=["row","most","least","beyond","middle"]
noncomputable def Ga:List RS:=
 [.asg 2 (.c (.int 0)),
 .asg 3 (.blt .len [(.v 0)]),
 .fD (.cmp .Lt (.v 2) (.v 3)) [.asg 4 (.bin .FloorDiv (.bin .Add (.v 2) (.v 3)) (.c (.int 2))),
  .ite (.cmp .LtE (.ix (.v 0) (.v 4)) (.v 1)) [.asg 2 (.bin .Add (.v 4) (.c (.int 1)))] [.asg 3 (.v 4)]],
 .ret (.v 2)]
def mr:List Str:=["self"]
noncomputable def Gb:List RS:=
 [.jL (.v 0) "texts" (.lst []),
 .jL (.v 0) "begins" (.lst []),
 .jL (.v 0) "feeds" (.lst []),
 .jL (.v 0) "signs" (.c (.int 0))]
def Ax:List Str:=["self","text","begin","feed"]
noncomputable def Ge:List RS:=
 [.drop (.call 0 [(.v 1)]),
 .asg 2 (.fld (.v 0) "signs"),
 .drop (.bD .append (.fld (.v 0) "texts") [(.v 1)]),
 .drop (.bD .append (.fld (.v 0) "begins") [(.v 2)]),
 .jL (.v 0) "signs" (.bin .Add (.v 2)<|.blt .len [(.v 1)]),
 .asg 3 (.bD .find (.v 1) [(.c<|.str "\n")]),
 .fD (.cmp .GtE (.v 3) (.c (.int 0))) [.drop (.bD .append (.fld (.v 0) "feeds") [(.bin .Add (.v 2) (.v 3))]),
  .asg 3 (.bD .find (.v 1) [(.c (.str "\n")),(.bin .Add (.v 3) (.c (.int 1)))])],
 .ret (.v 2)]
def Ux:List Str:=["need_text"]
def Gf:List Str:=["self","begin","size","pieces","number","end","offset","piece"]
noncomputable def Gg:List RS:=
 [.ite (.or [(.not (.call 0 [(.v 1),(.c (.int 0)),(.fld (.v 0) "signs")])),(.not (.call 0 [(.v 2),(.c (.int 0)),(.bin .Sub (.fld (.v 0) "signs") (.v 1))]))]) [.gX 0 [(.c (.str "what is read lies within the stock"))]] [],
 .asg 3 (.lst []),
 .asg 4 (.bin .Sub (.call 1 [(.fld (.v 0) "begins"),(.v 1)])<|.c<|.int 1),
 .asg 5 (.bin .Add (.v 1)<|.v 2),
 .fD (.cmp .Lt (.v 1) (.v 5)) [.asg 6 (.bin .Sub (.v 1) (.ix (.fld (.v 0) "begins") (.v 4))),
  .asg 7 (.sl (.ix (.fld (.v 0) "texts")<|.v 4) (some<|.v 6)<|some<|.bin .Sub (.bin .Add (.v 6)<|.v 5)<|.v 1),
  .drop (.bD .append (.v 3) [(.v 7)]),
  .asg 1 (.bin .Add (.v 1)<|.blt .len [(.v 7)]),
  .asg 4 (.bin .Add (.v 4) (.c (.int 1)))],
 .ret (.bD .join (.c (.str "")) [(.v 3)])]
def Uy:List Str:=["is_between","many_upto"]
def sv:List Str:=["NoPlace"]
structure nX (K:Frag) (C:Addr):Prop where
 cl:eZ K C
 sx:fV K C "texts"
 wb:fV K C "begins"
 wc:fV K C "feeds"
 wd:fV K C "signs"
def pS:List Str:=["node"]
noncomputable def Gh:List RS:=
 [.ret<|.gF (.cmp .Is (.v 0)<|.c .aA) (.c<|.int 0)<|.ix (.v 0)<|.c<|.int 3]
noncomputable def Gi:List RS:=
 [.ret<|.gF (.cmp .Is (.v 0)<|.c .aA) (.c<|.int 0)<|.ix (.v 0)<|.c<|.int 4]
noncomputable def Gj:List RS:=
 [.ret<|.gF (.cmp .Is (.v 0)<|.c .aA) (.c<|.int 0)<|.ix (.v 0)<|.c<|.int 5]
def Gk:List Str:=["left","piece","right","height","size"]
noncomputable def Gm:List RS:=
 [.asg 3 (.bin .Add (.c (.int 1)) (.blt .max [(.call 0 [(.v 0)]),(.call 0 [(.v 2)])])),
 .asg 4 (.bin .Add (.bin .Add (.call 1 [(.v 0)])<|.ix (.v 1)<|.c<|.int 1)<|.call 1 [(.v 2)]),
 .ret (.tup [(.v 0),(.v 1),(.v 2),(.v 3),(.v 4),(.bin .Add (.bin .Add (.call 2 [(.v 0)]) (.ix (.v 1) (.c (.int 2)))) (.call 2 [(.v 2)]))])]
def Uz:List Str:=["height_of","size_of","ends_of"]
def Gn:List Str:=["max"]
def we:List Str:=["left","piece","right","inner"]
noncomputable def Gp:List RS:=
 [.asg 3 (.ix (.v 0) (.c (.int 2))),
 .ite (.cmp .GtE (.call 0 [(.ix (.v 0)<|.c<|.int 0)])<|.call 0 [(.v 3)]) [.ret<|.call 1 [(.ix (.v 0)<|.c<|.int 0),(.ix (.v 0)<|.c<|.int 1),(.call 1 [(.v 3),(.v 1),(.v 2)])]] [],
 .ret (.call 1 [(.call 1 [(.ix (.v 0) (.c (.int 0))),(.ix (.v 0) (.c (.int 1))),(.ix (.v 3) (.c (.int 0)))]),(.ix (.v 3) (.c (.int 1))),(.call 1 [(.ix (.v 3) (.c (.int 2))),(.v 1),(.v 2)])])]
def Gq:List Str:=["height_of","made"]
noncomputable def Gs:List RS:=
 [.asg 3 (.ix (.v 2) (.c (.int 0))),
 .ite (.cmp .GtE (.call 0 [(.ix (.v 2)<|.c<|.int 2)])<|.call 0 [(.v 3)]) [.ret<|.call 1 [(.call 1 [(.v 0),(.v 1),(.v 3)]),(.ix (.v 2)<|.c<|.int 1),(.ix (.v 2)<|.c<|.int 2)]] [],
 .ret (.call 1 [(.call 1 [(.v 0),(.v 1),(.ix (.v 3) (.c (.int 0)))]),(.ix (.v 3) (.c (.int 1))),(.call 1 [(.ix (.v 3) (.c (.int 2))),(.ix (.v 2) (.c (.int 1))),(.ix (.v 2) (.c (.int 2)))])])]
def sy:List Str:=["left","piece","right"]
noncomputable def Gu:List RS:=
 [.ite (.cmp .Gt (.call 0 [(.v 0)]) (.bin .Add (.call 0 [(.v 2)]) (.c (.int 1)))) [.ret (.call 1 [(.v 0),(.v 1),(.v 2)])] [],
 .ite (.cmp .Gt (.call 0 [(.v 2)])<|.bin .Add (.call 0 [(.v 0)])<|.c<|.int 1) [.ret<|.call 2 [(.v 0),(.v 1),(.v 2)]] [],
 .ret (.call 3 [(.v 0),(.v 1),(.v 2)])]
def UA:List Str:=["height_of","turned_right","turned_left","made"]
noncomputable def Gv:List RS:=
 [.ite (.cmp .Gt (.call 0 [(.v 0)]) (.bin .Add (.call 0 [(.v 2)]) (.c (.int 1)))) [.ret (.call 1 [(.ix (.v 0) (.c (.int 0))),(.ix (.v 0) (.c (.int 1))),(.call 2 [(.ix (.v 0) (.c (.int 2))),(.v 1),(.v 2)])])] [],
 .ite (.cmp .Gt (.call 0 [(.v 2)])<|.bin .Add (.call 0 [(.v 0)])<|.c<|.int 1) [.ret<|.call 1 [(.call 2 [(.v 0),(.v 1),(.ix (.v 2)<|.c<|.int 0)]),(.ix (.v 2)<|.c<|.int 1),(.ix (.v 2)<|.c<|.int 2)]] [],
 .ret (.call 3 [(.v 0),(.v 1),(.v 2)])]
def UB:List Str:=["height_of","leveled","joined","made"]
def Gw:List Str:=["piece","size","stock","middle","ends"]
noncomputable def Gx:List RS:=
 [.asg 3 (.bin .Add (.ix (.v 0) (.c (.int 0))) (.v 1)),
 .asg 4 (.bin .Sub (.bF 0 "ends_ahead" (.v 2) [(.v 3)])<|.bF 0 "ends_ahead" (.v 2) [(.ix (.v 0)<|.c<|.int 0)]),
 .ret (.tup [(.tup [(.ix (.v 0) (.c (.int 0))),(.v 1),(.v 4)]),(.tup [(.v 3),(.bin .Sub (.ix (.v 0) (.c (.int 1))) (.v 1)),(.bin .Sub (.ix (.v 0) (.c (.int 2))) (.v 4))])])]
def Gy:List Str:=["ends_ahead"]
def Ay:List Str:=["node","place","stock","piece","begin","end","sides","halves"]
noncomputable def Gz:List RS:=
 [.ite (.cmp .Is (.v 0) (.c .aA)) [.ret (.tup [(.c .aA),(.c .aA)])] [],
 .asg 3 (.ix (.v 0)<|.c<|.int 1),
 .asg 4 (.call 0 [(.ix (.v 0)<|.c<|.int 0)]),
 .asg 5 (.bin .Add (.v 4)<|.ix (.v 3)<|.c<|.int 1),
 .ite (.cmp .LtE (.v 1) (.v 4)) [.asg 6 (.call 1 [(.ix (.v 0) (.c (.int 0))),(.v 1),(.v 2)]),
  .ret (.tup [(.ix (.v 6) (.c (.int 0))),(.call 2 [(.ix (.v 6) (.c (.int 1))),(.v 3),(.ix (.v 0) (.c (.int 2)))])])] [],
 .ite (.cmp .GtE (.v 1) (.v 5)) [.asg 6 (.call 1 [(.ix (.v 0) (.c (.int 2))),(.bin .Sub (.v 1) (.v 5)),(.v 2)]),
  .ret (.tup [(.call 2 [(.ix (.v 0) (.c (.int 0))),(.v 3),(.ix (.v 6) (.c (.int 0)))]),(.ix (.v 6) (.c (.int 1)))])] [],
 .asg 7 (.call 3 [(.v 3),(.bin .Sub (.v 1)<|.v 4),(.v 2)]),
 .ret (.tup [(.call 2 [(.ix (.v 0) (.c (.int 0))),(.ix (.v 7) (.c (.int 0))),(.c .aA)]),(.call 2 [(.c .aA),(.ix (.v 7) (.c (.int 1))),(.ix (.v 0) (.c (.int 2)))])])]
def UC:List Str:=["size_of","parted","joined","cut_in_two"]
def Az:List Str:=["node","pieces"]
noncomputable def GA:List RS:=
 [.ite (.cmp .Is (.v 0) (.c .aA)) [.ret (.lst [])] [],
 .asg 1 (.call 0 [(.ix (.v 0)<|.c<|.int 0)]),
 .drop (.bD .append (.v 1) [(.ix (.v 0)<|.c<|.int 1)]),
 .drop (.bD .extend (.v 1) [(.call 0 [(.ix (.v 0)<|.c<|.int 2)])]),
 .ret (.v 1)]
def GB:List Str:=["pieces_of"]
def GC:List Str:=["self","place"]
noncomputable def GD:List RS:=
 [.ret<|.call 0 [(.fld (.v 0) "feeds"),(.bin .Sub (.v 1)<|.c<|.int 1)]]
def UD:List Str:=["many_upto"]
def GF:List Str:=["stock","text"]
noncomputable def GG:List RS:=
 [.ite (.cmp .Eq (.v 1) (.c (.str ""))) [.ret (.c .aA)] [],
 .ret (.call 0 [(.c .aA),(.tup [(.bF 0 "put" (.v 0) [(.v 1)]),(.blt .len [(.v 1)]),(.bD .count (.v 1) [(.c (.str "\n"))])]),(.c .aA)])]
def UE:List Str:=["joined"]
def UG:List Str:=["put"]
def GH:List Str:=["text","stock"]
noncomputable def GJ:List RS:=
 [.drop (.call 0 [(.v 0)]),
 .asg 1 (.make 0 []),
 .ret (.make 1 [(.v 1),(.call 1 [(.v 1),(.v 0)])])]
def UH:List Str:=["need_text","node_put"]
def UI:List Str:=["Stock","Paper"]
def GK:List Str:=["stock","node"]
noncomputable def GN:List RS:=
 [.ret<|.comp none [("stock",0)] .list [(.call 0 [(.v 1)])] none<|.bF 0 "read" (.v 1) [(.ix (.v 0)<|.c<|.int 0),(.ix (.v 0)<|.c<|.int 1)]]
def UJ:List Str:=["read"]
def GO:List Str:=["self","stock","node"]
noncomputable def GP:List RS:=
 [.jL (.v 0) "stock" (.v 1),
 .jL (.v 0) "node" (.v 2)]
noncomputable def GQ:List RS:=
 [.ret<|.call 0 [(.fld (.v 0) "node")]]
def UK:List Str:=["size_of"]
noncomputable def GS:List RS:=
 [.ret<|.bin .Add (.call 0 [(.fld (.v 0) "node")])<|.c<|.int 1]
def UL:List Str:=["ends_of"]
noncomputable def GU:List RS:=
 [.ret<|.bD .join (.c<|.str "") [(.call 0 [(.fld (.v 0) "stock"),(.fld (.v 0) "node")])]]
def UM:List Str:=["texts_of"]
def GV:List Str:=["self","begin","end","ahead"]
noncomputable def GW:List RS:=
 [.ite (.or [(.not (.call 0 [(.v 1),(.c (.int 0)),(.bF 0 "size" (.v 0) [])])),(.not (.call 0 [(.v 2),(.v 1),(.bF 0 "size" (.v 0) [])]))]) [.gX 0 [(.c (.str "a part leads from a place of the text to one that is no less"))]] [],
 .asg 3 (.ix (.call 1 [(.fld (.v 0) "node"),(.v 2),(.fld (.v 0) "stock")])<|.c<|.int 0),
 .ret (.bD .join (.c (.str "")) [(.call 2 [(.fld (.v 0) "stock"),(.ix (.call 1 [(.v 3),(.v 1),(.fld (.v 0) "stock")]) (.c (.int 1)))])])]
def UN:List Str:=["is_between","parted","texts_of"]
def fK:List Str:=["size"]
structure jU (K:Frag) (C:Addr):Prop where
 cl:eZ K C
 mv:fV K C "stock"
 mw:fV K C "node"
end L2.B
namespace L2
open PySem PySem.Spec PyProof.Rows
section
variable {X:Cx}
def wg(K:Frag):List V->Hp->VK->Prop:=fun xs H Q=> ∃(p:Addr) (bs:List Bool),xs=[.ref p]/\aB K H p (bs.map V.bl)/\Q (.bl<|bs.all id) H
theorem AA: ∀{bs:List Bool} {us:List Value},Vals (bs.map V.bl) us->us=bs.map Value.bool
 | [],_, .nil=>rfl
 | b::r,_, .cons e t=>by
  have e':_=Value.bool b:=e
  rw[zaO,<-AA t,e']
theorem all_range(bs:List Bool):((List.range bs.length).all fun i=> (bs[i]?).getD true)=bs.all id:=by
 rw[zaB,zaK,zaK]
 constructor
 ·intro h b hb
  obtain⟨i,hi,rfl⟩:=zaX hb
  have:=h i (zaR.mpr hi)
  simpa[hi] using this
 ·intro h i hi
  have hi:=zaR.mp hi
  have:=h _ (zbm hi)
  simpa[hi] using this
theorem UO(hc:X.calm=true):bQ X (.builtin "all") (wg X.K):=by
 intro pins s σ H xs us Q I r h
 obtain⟨p,bs,rfl,hq,q⟩:=h
 obtain⟨u,rfl,ru⟩:=vals1 r
 cases ru
 obtain⟨its,rv,pl,hz⟩:=I.list hq
 have e:=AA rv
 subst e
 have aW: @LT.lt Nat _ p s.heap.objs.size:=by obtain⟨_,e,_⟩:=pl.isList;exact Heap.lt_size e
 refine call_all_walk<|wpAny_pyIter_list pl.isList ?_
 refine⟨s.heap.objs.size,[s.heap.objs.size,p],[s.heap.objs.size],(bs.map Value.bool).toArray.size,_,_,fun i=> (bs[i]?).getD true,rfl,
  Walks.list (A:=X.A.in1) (I.ok.hd hc) _ p (zae aW) _,⟨⟨_,Heap.get?_push_size _ rfl,rfl,rfl⟩,pl.isList.push _⟩,fun i v s' Q' E' hP hQ=> ?_,fun h' tk hk=> ?_⟩
 ·have je:(bs.map Value.bool)[i]?=some v:=by simpa using hP
  rw[zak] at je
  cases eb:bs[i]? with
  | none=>rw[eb] at je;cases je
  | some b=>
   rw[eb] at je
   cases je
   have sC:Q' ((bs[i]?).getD true) s':=hQ
   rw[eb] at sC
   exact wpAny_truthy_bool sC
 ·have e:((List.range (bs.map Value.bool).toArray.size).all fun i=> (bs[i]?).getD true)=bs.all id:=by
   have e0:(bs.map Value.bool).toArray.size=bs.length:=by simp
   rw[e0];exact all_range bs
  rw[e]
  refine⟨.bl _,H,I.kept (t':=tk) fun b o e=> ?_,rfl,q⟩
  exact hk b o (fun hm=>by rw[zas.mp hm] at e;exact zaw _ (Heap.lt_size e))<|Heap.get?_push_of_some _ e
theorem boot_all:bootBuiltins "all"=some (.builtin "all"):=by decide+kernel
theorem GX{P:Program}{w:World}{K:Frag}{tg:Expr}{ty:String}(z:Str)(t:Tok)(it:Addr)
  (hn:["enumerate","zip","dict_itemiterator","dict_reverseitemiterator","odict_iterator","itertools.zip_longest","itertools.pairwise"].contains ty=false)
  (W: ∀A:Around,A.handled=none->Walks P w A it [it] [it] z.cps.size (SignAt z) (fun i h=>h.IsStrIter it ty z t i))
  (hs: ∀(A:Around) (i:Nat) (s:Shared) (Q:Value->Shared->Prop) (E:Value->Shared->Prop),s.heap.IsStrIter it ty z t i->Q (.ref it) s->wpAny (model P w) A (pyIter<|.ref it) Q E s):
  Turn P w K tg (rO z) [it] it (fun i h=>h.IsStrIter it ty z t i) where
 mem:=by simp
 obj:=fun i h st b hb=>by
  obtain rfl:b=it:=by simpa using hb
  obtain⟨o,e,c,d⟩:=st
  exact⟨o,e,fun v q=>by rw[d] at q;cases q⟩
 keep:=fun i h h' st k=>by
  obtain⟨o,e,c⟩:=st
  exact⟨o,k it (by simp) o e,c⟩
 item:=by
  intro X hP hw hK hc i pins s σ H E I hf st hg
  subst hP hw hK
  obtain⟨f0,f1,f2,f3,f4,f5⟩:=hf it (by simp)
  refine(W X.A<|I.ok.hd hc).item i s _ _ hg st fun v h' tk hv ck kk=> ?_
  obtain⟨c,u,ec,rfl⟩:=hv
  have I1:Inv X pins σ H {s with heap:=h',toks:=tk}:=I.turned (t':=tk) (fun b o hb e=>kk b o (by simpa using hb) e) f0 f1 f3 f4 f5
  obtain⟨o,e,c0,d⟩:=id ck
  exact⟨_,rfl,uW (s:={s with heap:=h',toks:=tk}) e c0 d hn ⟨.str ⟨#[c]⟩,H,I1,⟨u,rfl⟩,⟨rfl,c,ec,rfl⟩,ck,fun b hb=> (hf b hb).1⟩⟩
 done:=by
  intro X hP hw hK hc i pins s σ H E I hf st hg
  subst hP hw hK
  obtain⟨f0,f1,f2,f3,f4,f5⟩:=hf it (by simp)
  have UP:i=z.cps.size:=hg
  subst UP
  exact(W X.A<|I.ok.hd hc).done s _ _ st fun h' tk kk=> ⟨rfl,I.turned (t':=tk) (fun b o hb e=>kk b o (by simpa using hb) e) f0 f1 f3 f4 f5⟩
 self:=fun A i s Q E st h=>hs A i s Q E st h
theorem UQ{tg l:Expr}{tl:TE}(hl:PE X l tl):PI X tg l (Fe tl):=by
 intro pins s σ H R I h
 refine aV (hl pins s σ H _ I h) fun v s1 ⟨x,H1,I1,r1,q1⟩=> ?_
 obtain⟨z,e,q⟩:=q1
 subst e
 obtain⟨t,rfl⟩:=r1
 have fp: ∀b∈ [s1.heap.objs.size],gP X pins H1 b:=fun b hb=>by
  obtain rfl:b=s1.heap.objs.size:=by simpa using hb
  exact I1.o_ (zqR _)<|I1.aL.fresh<|zqR _
 cases ha:z.cps.all (· <128)
 ·exact wpAny_pyIter_wide ha ⟨s1.heap.objs.size,[s1.heap.objs.size],_,_,H1,rfl,I1.kept (t':=s1.toks) fun b o e=>Heap.get?_push_of_some _ e,
   GX z t _ (by decide) (fun A hA=>Walks.strWide hA _ z t) (fun A i s Q E st h=>wpAny_pyIter_striter_wide st h),⟨_,Heap.get?_push_size _ rfl,rfl,rfl⟩,fp,q⟩
 ·exact wpAny_pyIter_ascii ha ⟨s1.heap.objs.size,[s1.heap.objs.size],_,_,H1,rfl,I1.kept (t':=s1.toks) fun b o e=>Heap.get?_push_of_some _ e,
   GX z t _ (by decide) (fun A hA=>Walks.strAscii hA _ z t) (fun A i s Q E st h=>wpAny_pyIter_striter_ascii st h),⟨_,Heap.get?_push_size _ rfl,rfl,rfl⟩,fp,q⟩
end
def AB:Frag->TA->TE:=fun K t=>dY (wg K) t
section
variable {CX:bM} {S:cg} {Γ:aX} {X:Cx} {e e2 a b c d:Expr} {es:List Expr} {x:Str} {p q pos:Pos} {r ra rb rc:RE} {rs:List RE} {i j:Nat}
theorem UR(G:Good CX S Γ X)(hA:PA X (e::es) (aZ Γ (r::rs)))(h:kB S x "all"=true:=by kernel_rfl)(hn:dQ (e::es)=true:=by kernel_rfl)(hq:S.md=0:=by rfl):PE X (.Call (.Name x p) (e::es) [] pos) (aj Γ<|.xt AB (r::rs)):=by
 simp only[kB,zab,decide_eq_true_eq] at h
 obtain⟨⟨rfl,h2⟩,h3⟩:=h
 show PE X _ (dY (wg Γ.K)<|aZ Γ (r::rs))
 rw[<-G.K]
 exact lV (UO<|G.calm hq) (G.gl h2) (G.cH _ h3) boot_all hA (by decide) (by decide) (cE (bR hn).1)<|e8 _ _ es (bR hn).2
theorem GY{n:Nat}(h4:n<29)(hf:(backTo pos (starEach es X.env)).all (fun x=> !x.1)=true)(hn:n=es.length):((backTo pos (starEach es X.env)).all (fun x=> !x.1) && (backToKw pos (keywordEach [] X.env)).all (fun x=>x.1.isSome)
   && decide (es.length+ ([]:List Keyword).length+ (if ([]:List Keyword).isEmpty then 0 else 1) <30))=true:=by
 subst hn
 rw[hf]
 show(true && true && decide (es.length+0+0<30))=true
 rw[zqT (by lia)];rfl
theorem GZ{T:Frag->TA->TE}(G:Good CX S Γ X)(h:PE X (.Call a es [] p) (aj Γ<|.xt T rs)):PT X (.Call a es [] p) (bf Γ<|.xt T rs):=by
 show PT X _ (eG Γ.K<|aj Γ<|.xt T rs)
 rw[<-G.K]
 exact pQ h fun _=>rfl
theorem US{tg:Expr}(ha:PE X a (aj Γ ra)):PI X tg a (fE Γ .txt [ra]):=UQ ha
end
section
variable {CX:bM} {S:cg} {Γ:aX} {X:Cx} {a b:Expr} {x:Str} {p q pos:Pos} {ra rb:RE}
end
end L2
namespace L2.B
open PySem PySem.Spec PyProof.Rows
def G0:List Str:=["_law_cell","_law_k","_law_number"]
noncomputable def G1:List RS:=
 [.asg 2 (.bin .Mod (.bin .Add (.bin .Add (.bin .Mult (.v 0) (.c (.int 48271))) (.bin .Mult (.c (.int 7919)) (.v 1))) (.c (.int 12345))) (.c (.int 2147483647))),
 .ret (.bin .Mod (.bin .Mult (.bin .Mod (.bin .Mult (.v 2) (.v 2)) (.c (.int 2147483647))) (.v 2)) (.c (.int 2147483647)))]
def G3:List Str:=["node","place","stock","ends","piece","begin","end","ahead"]
noncomputable def G4:List RS:=
 [.asg 3 (.c (.int 0)),
 .fD (.cmp .IsNot (.v 0) (.c .aA)) [.asg 4 (.ix (.v 0) (.c (.int 1))),
  .asg 5 (.call 0 [(.ix (.v 0)<|.c<|.int 0)]),
  .asg 6 (.bin .Add (.v 5)<|.ix (.v 4)<|.c<|.int 1),
  .ite (.cmp .LtE (.v 1) (.v 5)) [.asg 0 (.ix (.v 0) (.c (.int 0)))] [.ite (.cmp .Lt (.v 1) (.v 6)) [.asg 7 (.bin .Sub (.bF 0 "ends_ahead" (.v 2) [(.bin .Sub (.bin .Add (.ix (.v 4) (.c (.int 0))) (.v 1)) (.v 5))]) (.bF 0 "ends_ahead" (.v 2) [(.ix (.v 4) (.c (.int 0)))])),
    .ret (.bin .Add (.bin .Add (.v 3) (.call 1 [(.ix (.v 0) (.c (.int 0)))])) (.v 7))] [.asg 3 (.bin .Add (.bin .Add (.v 3) (.call 1 [(.ix (.v 0) (.c (.int 0)))])) (.ix (.v 4) (.c (.int 2)))),
    .asg 1 (.bin .Sub (.v 1)<|.v 6),
    .asg 0 (.ix (.v 0) (.c (.int 2)))]]],
 .ret (.v 3)]
def UT:List Str:=["size_of","ends_of"]
def G5:List Str:=["node","number","stock","place","begin","end"]
noncomputable def G6:List RS:=
 [.asg 3 (.c (.int 0)),
 .fD (.or [(.cmp .Lt (.v 1) (.call 0 [(.ix (.v 0) (.c (.int 0)))])),(.cmp .GtE (.v 1) (.bin .Add (.call 0 [(.ix (.v 0) (.c (.int 0)))]) (.ix (.ix (.v 0) (.c (.int 1))) (.c (.int 2)))))]) [.ite (.cmp .Lt (.v 1) (.call 0 [(.ix (.v 0) (.c (.int 0)))])) [.asg 0 (.ix (.v 0) (.c (.int 0)))] [.asg 1 (.bin .Sub (.bin .Sub (.v 1) (.call 0 [(.ix (.v 0) (.c (.int 0)))])) (.ix (.ix (.v 0) (.c (.int 1))) (.c (.int 2)))),
   .asg 3 (.bin .Add (.bin .Add (.v 3)<|.call 1 [(.ix (.v 0)<|.c<|.int 0)])<|.ix (.ix (.v 0)<|.c<|.int 1)<|.c<|.int 1),
   .asg 0 (.ix (.v 0) (.c (.int 2)))]],
 .asg 4 (.ix (.ix (.v 0)<|.c<|.int 1)<|.c<|.int 0),
 .asg 5 (.bF 0 "end_place" (.v 2) [(.bin .Sub (.bin .Add (.bF 1 "ends_ahead" (.v 2) [(.v 4)])<|.v 1)<|.call 0 [(.ix (.v 0)<|.c<|.int 0)])]),
 .ret (.bin .Sub (.bin .Add (.bin .Add (.v 3) (.call 1 [(.ix (.v 0) (.c (.int 0)))])) (.v 5)) (.v 4))]
def UU:List Str:=["ends_of","size_of"]
def UW:List Str:=["end_place","ends_ahead"]
def G7:List Str:=["self","number"]
noncomputable def G8:List RS:=
 [.ret<|.ix (.fld (.v 0) "feeds")<|.v 1]
def G9:List Str:=["self","line"]
noncomputable def G_:List RS:=
 [.ret<|.gF (.cmp .Eq (.v 1)<|.c<|.int 0) (.c<|.int 0)<|.bin .Add (.call 0 [(.fld (.v 0) "node"),(.bin .Sub (.v 1)<|.c<|.int 1),(.fld (.v 0) "stock")])<|.c<|.int 1]
def UX:List Str:=["place_of_end"]
def Hl:List Str:=["self","line","last","end"]
noncomputable def Hm:List RS:=
 [.ite (.not (.call 0 [(.v 1),(.c (.int 0)),(.bin .Sub (.bF 0 "lines" (.v 0) []) (.c (.int 1)))])) [.gX 0 [(.c (.str "the text has no such line"))]] [],
 .asg 2 (.cmp .Eq (.v 1)<|.bin .Sub (.bF 0 "lines" (.v 0) [])<|.c<|.int 1),
 .asg 3 (.gF (.v 2) (.bF 1 "size" (.v 0) [])<|.call 1 [(.fld (.v 0) "node"),(.v 1),(.fld (.v 0) "stock")]),
 .ret (.bin .Sub (.v 3) (.bF 2 "line_begin" (.v 0) [(.v 1)]))]
def UY:List Str:=["is_between","place_of_end"]
def UZ:List Str:=["lines","size","line_begin"]
def Hn:List Str:=["self","place","line"]
noncomputable def Ho:List RS:=
 [.ite (.not (.call 0 [(.v 1),(.c (.int 0)),(.bF 0 "size" (.v 0) [])])) [.gX 0 [(.c (.str "the text has no such place"))]] [],
 .asg 2 (.call 1 [(.fld (.v 0) "node"),(.v 1),(.fld (.v 0) "stock")]),
 .ret (.tup [(.v 2),(.bin .Sub (.v 1) (.bF 1 "line_begin" (.v 0) [(.v 2)]))])]
def U0:List Str:=["is_between","ends_ahead_of"]
def U1:List Str:=["size","line_begin"]
def Hq:List Str:=["self","line","column"]
noncomputable def Hr:List RS:=
 [.ite (.not (.call 0 [(.v 2),(.c (.int 0)),(.bF 0 "line_size" (.v 0) [(.v 1)])])) [.gX 0 [(.c (.str "the line has no such column"))]] [],
 .ret (.bin .Add (.bF 1 "line_begin" (.v 0) [(.v 1)]) (.v 2))]
def U3:List Str:=["is_between"]
def U4:List Str:=["line_size","line_begin"]
end L2.B
namespace L2
open PySem PySem.Spec PyProof.Rows
section
variable {X:Cx}
def wj:V->List V->Hp->VK->Prop:=fun x vs H Q=> ∃z y,x= .str z/\vs=[.str y]/\(y.length==0)=false/\z.length<=1000000/\ ∀l,H l=none->Q (.ref l) (upd H l<|.lst<|(Txt.split z y).map V.str)
theorem Hs: ∀(l:List (Str×Tok)),Vals ((l.map (·.1)).map V.str) (strValues l)
 | []=> .nil
 | (x,t)::r=> .cons ⟨t,rfl⟩ (Hs r)
theorem U5:iU X "str.split" wj:=by
 intro pins s σ H x vs v us Q I rx rv h
 obtain⟨z,y,rfl,rfl,hy,hz,q⟩:=h
 obtain⟨t,rfl⟩:=rx
 obtain⟨u,rfl,⟨t2,rfl⟩⟩:=vals1 rv
 have hs:z.length<=sizeLine:=zaq hz (by decide)
 have hn:(Builtin.Str.partsBetween z (Builtin.Str.occurrences z y 0 z.length<|z.length+1) y.length).length<=sizeLine:=by
  have e1:=StrLaws.occ_length_le z y 0 z.length (z.length+1)
  rw[length_partsBetween]
  have:z.length+2<=sizeLine:=zaq (Nat.add_le_add_right hz 2) (by decide)
  lia
 have ln:(Txt.split z y).length<=sizeLine:=by
  unfold Txt.split
  split
  ·show 1<=sizeLine;decide
  ·split
   ·show 1<=sizeLine;decide
   ·exact hn
 have qq:=q s.heap.objs.size (I.aL.fresh<|zqR _)
 have fin: ∀(l:List (Str×Tok)) (k:Nat),l.map (·.1)=Txt.split z y->EP X pins σ Q (.ref s.heap.objs.size) {s with toks:=k,heap:=s.heap.push {cls:= .type "list",data:= .seq (strValues l).toArray}}:=fun l k e=>by
  rw[<-e] at qq ln
  exact⟨.ref s.heap.objs.size,_,I.laid (o:= .lst ((l.map (·.1)).map V.str)) (t':=k) (fun b u e=>Heap.get?_push_of_some _ e) (zqR _) ⟨by rw[zag];exact ln,_,_,Hs l,Heap.get?_push_size _ rfl⟩,rfl,qq⟩
 cases h1:(decide (z.length<y.length) || decide (Builtin.Str.strKind z<Builtin.Str.strKind y))
 ·cases hf:(Builtin.Str.occurrences z y 0 z.length<|z.length+1).isEmpty
  ·refine call_meets F.slot_str_split (typeIs_str _ _ _) F.entry_str_split (F.args_str_split_2 _ _) (meets_str_split_sep z y t t2 h1 hy hf hs hn) ?_
   show wants _ _ _ {s with toks:=_,heap:=s.heap.push {cls:= .type "list",data:= .seq (strsFrom s.toks<|Builtin.Str.partsBetween z (Builtin.Str.occurrences z y 0 z.length<|z.length+1) y.length).toArray}}
   rw[strsFrom_eq]
   exact fin (numbered s.toks _) _<|(numbered_texts _ _).trans ((if_neg<|ne_true_of_eq_false h1).trans<|if_neg<|ne_true_of_eq_false hf).symm
  ·exact call_meets F.slot_str_split (typeIs_str _ _ _) F.entry_str_split (F.args_str_split_2 _ _) (meets_str_split_not_found z y t t2 h1 hy hf)
    (fin [(z,t)] s.toks ((if_neg<|ne_true_of_eq_false h1).trans<|if_pos hf).symm)
 ·exact call_meets F.slot_str_split (typeIs_str _ _ _) F.entry_str_split (F.args_str_split_2 _ _) (meets_str_split_cannot_occur z y t t2 h1)
   (fin [(z,t)] s.toks (if_pos h1).symm)
def wk:Frag->TE->TA->TE:=fun K to t=>rf K "str" wj to t
end
section
variable {CX:bM} {S:cg} {Γ:aX} {X:Cx} {e e2 a b c d:Expr} {es:List Expr} {x:Str} {p q pos:Pos} {r ra rb rc:RE} {rs:List RE} {i j:Nat}
theorem Ht{o:Expr}{ro:RE}{ap:Pos}(G:Good CX S Γ X)(ho:PE X o (aj Γ ro))(hA:PA X (e::es) (aZ Γ (r::rs)))(h:kM o "split" x (es.length+1) ap pos=true:=by kernel_rfl)(hn:dQ (e::es)=true:=by kernel_rfl):PE X (.Call (.Attribute o x ap) (e::es) [] pos) (aj Γ<|.xm wk ro (r::rs)):=by
 simp only[kM,zab,decide_eq_true_eq] at h
 obtain⟨⟨⟨rfl,h2⟩,h3⟩,h4⟩:=h
 show PE X _ (rf Γ.K "str" wj (aj Γ ro)<|aZ Γ (r::rs))
 rw[<-G.K]
 exact yY F.plainAttrs_str F.slot_str_split F.type_str_split U5 ho hA (kI h2) (GY h4 (rY _ _ (e::es) hn) rfl) h3 (cE (bR hn).1)<|e8 _ _ es (bR hn).2
end
section
variable {X:Cx}
def wm(K:Frag):List V->Hp->VK->Prop:=fun xs H Q=> ∃(p:Addr) (bs:List Bool),xs=[.ref p]/\aB K H p (bs.map V.bl)/\Q (.bl<|bs.any id) H
theorem any_range(bs:List Bool):((List.range bs.length).any fun i=> (bs[i]?).getD false)=bs.any id:=by
 rw[zaB,zbC,zbC]
 constructor
 ·rintro⟨i,hi,h⟩
  have hi:=zaR.mp hi
  exact⟨_,zbm hi,by simpa[hi] using h⟩
 ·rintro⟨b,hb,h⟩
  obtain⟨i,hi,rfl⟩:=zaX hb
  exact⟨i,zaR.mpr hi,by simpa[hi] using h⟩
theorem U6(hc:X.calm=true):bQ X (.builtin "any") (wm X.K):=by
 intro pins s σ H xs us Q I r h
 obtain⟨p,bs,rfl,hq,q⟩:=h
 obtain⟨u,rfl,ru⟩:=vals1 r
 cases ru
 obtain⟨its,rv,pl,hz⟩:=I.list hq
 have e:=AA rv
 subst e
 have aW: @LT.lt Nat _ p s.heap.objs.size:=by obtain⟨_,e,_⟩:=pl.isList;exact Heap.lt_size e
 refine call_any_walk<|wpAny_pyIter_list pl.isList ?_
 refine⟨s.heap.objs.size,[s.heap.objs.size,p],[s.heap.objs.size],(bs.map Value.bool).toArray.size,_,_,fun i=> (bs[i]?).getD false,rfl,
  Walks.list (A:=X.A.in1) (I.ok.hd hc) _ p (zae aW) _,⟨⟨_,Heap.get?_push_size _ rfl,rfl,rfl⟩,pl.isList.push _⟩,fun i v s' Q' E' hP hQ=> ?_,fun h' tk hk=> ?_⟩
 ·have je:(bs.map Value.bool)[i]?=some v:=by simpa using hP
  rw[zak] at je
  cases eb:bs[i]? with
  | none=>rw[eb] at je;cases je
  | some b=>
   rw[eb] at je
   cases je
   have sC:Q' ((bs[i]?).getD false) s':=hQ
   rw[eb] at sC
   exact wpAny_truthy_bool sC
 ·have e:((List.range (bs.map Value.bool).toArray.size).any fun i=> (bs[i]?).getD false)=bs.any id:=by
   have e0:(bs.map Value.bool).toArray.size=bs.length:=by simp
   rw[e0];exact any_range bs
  rw[e]
  refine⟨.bl _,H,I.kept (t':=tk) fun b o e=> ?_,rfl,q⟩
  exact hk b o (fun hm=>by rw[zas.mp hm] at e;exact zaw _ (Heap.lt_size e))<|Heap.get?_push_of_some _ e
theorem U7:bootBuiltins "any"=some (.builtin "any"):=by decide+kernel
def wo:V->List V->Hp->VK->Prop:=fun x vs H Q=> ∃z y,x= .str z/\vs=[.str y]/\z.length<=sizeLine/\Q (.str<|Txt.rstripChars z y) H
theorem U8:iU X "str.rstrip" wo:=by
 intro pins s σ H x vs v us Q I rx rv h
 obtain⟨z,y,rfl,rfl,hz,q⟩:=h
 obtain⟨t,rfl⟩:=rx
 obtain⟨u,rfl,⟨t2,rfl⟩⟩:=vals1 rv
 refine call_gives F.slot_str_rstrip (typeIs_str _ _ _) F.entry_str_rstrip (F.args_str_rstrip_2 _ _) (gives_str_rstrip_chars z y t t2)<|post_val_or_made (fun _=>fits_stripped _ _ _ hz) fun t' k=> ?_
 exact⟨.str _,H,I.tok k,⟨t',rfl⟩,q⟩
end
def AD:Frag->TA->TE:=fun K t=>dY (wm K) t
def AE:Frag->TE->TA->TE:=fun K to t=>rf K "str" wo to t
section
variable {CX:bM} {S:cg} {Γ:aX} {X:Cx} {e:Expr} {es:List Expr} {x:Str} {p pos:Pos} {r:RE} {rs:List RE}
theorem U9(G:Good CX S Γ X)(hA:PA X (e::es) (aZ Γ (r::rs)))(h:kB S x "any"=true:=by kernel_rfl)(hn:dQ (e::es)=true:=by kernel_rfl)(hq:S.md=0:=by rfl):PE X (.Call (.Name x p) (e::es) [] pos) (aj Γ<|.xt AD (r::rs)):=by
 simp only[kB,zab,decide_eq_true_eq] at h
 obtain⟨⟨rfl,h2⟩,h3⟩:=h
 show PE X _ (dY (wm Γ.K)<|aZ Γ (r::rs))
 rw[<-G.K]
 exact lV (U6<|G.calm hq) (G.gl h2) (G.cH _ h3) U7 hA (by decide) (by decide) (cE (bR hn).1)<|e8 _ _ es (bR hn).2
theorem U_{o:Expr}{ro:RE}{ap:Pos}(G:Good CX S Γ X)(ho:PE X o (aj Γ ro))(hA:PA X (e::es) (aZ Γ (r::rs)))(h:kM o "rstrip" x (es.length+1) ap pos=true:=by kernel_rfl)(hn:dQ (e::es)=true:=by kernel_rfl):PE X (.Call (.Attribute o x ap) (e::es) [] pos) (aj Γ<|.xm AE ro (r::rs)):=by
 simp only[kM,zab,decide_eq_true_eq] at h
 obtain⟨⟨⟨rfl,h2⟩,h3⟩,h4⟩:=h
 show PE X _ (rf Γ.K "str" wo (aj Γ ro)<|aZ Γ (r::rs))
 rw[<-G.K]
 exact yY F.plainAttrs_str F.slot_str_rstrip F.type_str_rstrip U8 ho hA (kI h2) (GY h4 (rY _ _ (e::es) hn) rfl) h3 (cE (bR hn).1)<|e8 _ _ es (bR hn).2
end
end L2
namespace L2.B
open PySem PySem.Spec PyProof.Rows
noncomputable def AF:List RS:=
 [.ret<|.or [(.cmp .Is (.v 0)<|.c<|.bl true),(.cmp .Is (.v 0)<|.c<|.bl false)]]
def my:List Str:=["cursor"]
noncomputable def Hu:List RS:=
 [.ret<|.blt .min [(.ix (.v 0)<|.c<|.int 0),(.ix (.v 0)<|.c<|.int 1)]]
def Hv:List Str:=["min"]
noncomputable def Hw:List RS:=
 [.ret<|.blt .max [(.ix (.v 0)<|.c<|.int 0),(.ix (.v 0)<|.c<|.int 1)]]
noncomputable def Hx:List RS:=
 [.ret<|.cmp .Eq (.ix (.v 0)<|.c<|.int 0)<|.ix (.v 0)<|.c<|.int 1]
noncomputable def AG:List RS:=
 [.ret<|.or [(.cmp .Is (.v 0)<|.c .aA),(.and [(.call 0 [(.v 0)]),(.cmp .GtE (.v 0)<|.c<|.int 0)])]]
def AH:List Str:=["thing","size"]
noncomputable def AI:List RS:=
 [.ite (.or [(.not (.eO .tuple (.v 0))),(.cmp .NotEq (.blt .len [(.v 0)]) (.c (.int 3)))]) [.ret (.c (.bl false))] [],
 .ret (.and [(.call 0 [(.ix (.v 0) (.c (.int 0))),(.c (.int 0)),(.v 1)]),(.call 0 [(.ix (.v 0) (.c (.int 1))),(.c (.int 0)),(.v 1)]),(.call 1 [(.ix (.v 0) (.c (.int 2)))])])]
def Va:List Str:=["is_between","is_goal"]
def Hy:List Str:=["isinstance","tuple","len"]
def Hz:List Str:=["begin","end","cursor"]
noncomputable def HA:List RS:=
 [.ite (.cmp .Eq (.call 0 [(.v 2)]) (.v 1)) [.ret (.or [(.cmp .Eq (.v 0) (.v 1)),(.call 1 [(.v 2)])])] [],
 .ret (.cmp .Lt (.call 0 [(.v 2)]) (.v 1))]
def Vb:List Str:=["begin_of","is_empty"]
def AJ:List Str:=["size","cursors"]
noncomputable def AK:List RS:=
 [.ite (.or [(.not (.eO .list (.v 1))),(.not (.jK .LtE .LtE (.c (.int 1)) (.blt .len [(.v 1)]) (.g 0)))]) [.gX 0 [(.c (.str "cursors are a list of 1 to 40"))]] [],
 .ite (.not<|.xt AB [(.comp none [("size",0)] .list [(.v 1)] none<|.call 0 [(.v 0),(.v 1)])]) [.gX 0 [(.c<|.str "a cursor is a tuple of two places of the text and a goal")]] [],
 .ite (.xt AD [(.comp (some 2) [] .zip [(.v 1),(.sl (.v 1) (some (.c (.int 1))) none)] none (.call 1 [(.call 2 [(.v 0)]),(.call 3 [(.v 0)]),(.v 1)]))]) [.gX 0 [(.c (.str "cursors rise by their begins, and no two neighbours meet"))]] []]
def Vc:List Str:=["is_cursor","meet","begin_of","end_of"]
def Vd:List Str:=["MOST_CURSORS"]
def Ve:List Str:=["isinstance","list","len","all","any","zip"]
def Vf:List Str:=["NoCursor"]
def AL:List Str:=["word","hold"]
noncomputable def AM:List RS:=
 [.ite (.not (.call 0 [(.v 0),(.g 0)])) [.gX 0 [(.c (.str "no cursor steps by this word"))]] [],
 .ite (.not (.call 1 [(.v 1)])) [.gX 0 [(.c (.str "hold is True or False"))]] []]
def Vg:List Str:=["is_word","is_truth"]
def Vh:List Str:=["STEP_WORDS"]
def Vi:List Str:=["BadDeed"]
def HB:List Str:=["paper","place","signs","stride","begin","rest"]
noncomputable def HC:List RS:=
 [.asg 3 (.g 0),
 .fD (.cmp .Gt (.v 1) (.c (.int 0))) [.asg 4 (.blt .max [(.c (.int 0)),(.bin .Sub (.v 1) (.v 3))]),
  .asg 5 (.xm AE (.bF 0 "part" (.v 0) [(.v 4),(.v 1)]) [(.v 2)]),
  .ite (.cmp .NotEq (.v 5)<|.c<|.str "") [.ret<|.bin .Add (.v 4)<|.blt .len [(.v 5)]] [],
  .asg 1 (.v 4),
  .asg 3 (.bin .Mult (.c (.int 2)) (.v 3))],
 .ret (.v 1)]
def HD:List Str:=["FIRST_STRIDE"]
def Vj:List Str:=["max","len"]
def Vk:List Str:=["part"]
def HE:List Str:=["paper","place","signs","stride","end","rest"]
noncomputable def HF:List RS:=
 [.asg 3 (.g 0),
 .fD (.cmp .Lt (.v 1) (.bF 0 "size" (.v 0) [])) [.asg 4 (.blt .min [(.bF 0 "size" (.v 0) []),(.bin .Add (.v 1) (.v 3))]),
  .asg 5 (.bD .lstrip (.bF 1 "part" (.v 0) [(.v 1),(.v 4)]) [(.v 2)]),
  .ite (.cmp .NotEq (.v 5)<|.c<|.str "") [.ret<|.bin .Sub (.v 4)<|.blt .len [(.v 5)]] [],
  .asg 1 (.v 4),
  .asg 3 (.bin .Mult (.c (.int 2)) (.v 3))],
 .ret (.v 1)]
def HG:List Str:=["min","len"]
def Vl:List Str:=["size","part"]
def HH:List Str:=["paper","place","word","spot","begin"]
noncomputable def HI:List RS:=
 [.asg 3 (.bF 0 "line_at" (.v 0) [(.v 1)]),
 .asg 4 (.bin .Sub (.v 1)<|.ix (.v 3)<|.c<|.int 1),
 .ret (.gF (.cmp .Eq (.v 2) (.c (.str "home"))) (.v 4) (.bin .Add (.v 4) (.bF 1 "line_size" (.v 0) [(.ix (.v 3) (.c (.int 0)))])))]
def Vm:List Str:=["line_at","line_size"]
def HJ:List Str:=["paper","place","word"]
noncomputable def HK:List RS:=
 [.ite (.cmp .Eq (.v 2) (.c (.str "left"))) [.ret (.blt .max [(.c (.int 0)),(.bin .Sub (.v 1) (.c (.int 1)))])] [],
 .ite (.cmp .Eq (.v 2)<|.c<|.str "right") [.ret<|.blt .min [(.bF 0 "size" (.v 0) []),(.bin .Add (.v 1)<|.c<|.int 1)]] [],
 .ite (.cmp .Eq (.v 2)<|.c<|.str "top") [.ret<|.c<|.int 0] [],
 .ite (.cmp .Eq (.v 2)<|.c<|.str "bottom") [.ret<|.bF 0 "size" (.v 0) []] [],
 .ite (.cmp .Eq (.v 2)<|.c<|.str "back") [.ret<|.call 0 [(.v 0),(.call 0 [(.v 0),(.v 1),(.g 0)]),(.g 1)]] [],
 .ite (.cmp .Eq (.v 2)<|.c<|.str "on") [.ret<|.call 1 [(.v 0),(.call 1 [(.v 0),(.v 1),(.g 0)]),(.g 1)]] [],
 .ret (.call 2 [(.v 0),(.v 1),(.v 2)])]
def Vn:List Str:=["left_over","right_over","place_in_line"]
def Vo:List Str:=["OTHER_SIGNS","WORD_SIGNS"]
def Vp:List Str:=["max","min"]
def HL:List Str:=["paper","line","goal","word","other"]
noncomputable def nY:List RS:=
 [.asg 4 (.gF (.cmp .Eq (.v 3) (.c (.str "up"))) (.bin .Sub (.v 1) (.c (.int 1))) (.bin .Add (.v 1) (.c (.int 1)))),
 .ite (.cmp .Lt (.v 4)<|.c<|.int 0) [.ret<|.c<|.int 0] [],
 .ite (.cmp .Eq (.v 4)<|.bF 0 "lines" (.v 0) []) [.ret<|.bF 1 "size" (.v 0) []] [],
 .ret (.bF 2 "place_at" (.v 0) [(.v 4),(.blt .min [(.v 2),(.bF 3 "line_size" (.v 0) [(.v 4)])])])]
def Vq:List Str:=["lines","size","place_at","line_size"]
def HM:List Str:=["cursor","head","goal","hold"]
noncomputable def HN:List RS:=
 [.ret<|.tup [(.gF (.v 3) (.ix (.v 0)<|.c<|.int 0)<|.v 1),(.v 1),(.v 2)]]
def HP:List Str:=["paper","cursor","word","hold","spot","goal"]
noncomputable def wq:List RS:=
 [.ite (.cmp .In (.v 2) (.tup [(.c (.str "up")),(.c (.str "down"))])) [.asg 4 (.bF 0 "line_at" (.v 0) [(.ix (.v 1) (.c (.int 1)))]),
  .asg 5 (.gF (.cmp .Is (.ix (.v 1)<|.c<|.int 2)<|.c .aA) (.ix (.v 4)<|.c<|.int 1)<|.ix (.v 1)<|.c<|.int 2),
  .ret (.call 0 [(.v 1),(.call 1 [(.v 0),(.ix (.v 4) (.c (.int 0))),(.v 5),(.v 2)]),(.v 5),(.v 3)])] [],
 .ite (.and [(.cmp .In (.v 2)<|.tup [(.c<|.str "left"),(.c<|.str "right")]),(.not<|.v 3),(.not<|.call 2 [(.v 1)])]) [.ret<|.call 0 [(.v 1),(.gF (.cmp .Eq (.v 2)<|.c<|.str "left") (.call 3 [(.v 1)])<|.call 4 [(.v 1)]),(.c .aA),(.v 3)]] [],
 .ret (.call 0 [(.v 1),(.call 5 [(.v 0),(.ix (.v 1) (.c (.int 1))),(.v 2)]),(.c .aA),(.v 3)])]
def Vr:List Str:=["with_head","place_in_next_line","is_empty","begin_of","end_of","place_by_word"]
def Vs:List Str:=["line_at"]
def HQ:List Str:=["paper","cursor","word","hold"]
noncomputable def HR:List RS:=
 [.drop (.call 0 [(.bF 0 "size" (.v 0) []),(.lst [(.v 1)])]),
 .drop (.call 1 [(.v 2),(.v 3)]),
 .ret (.call 2 [(.v 0),(.v 1),(.v 2),(.v 3)])]
def Vt:List Str:=["need_cursors","need_step","step"]
def HS:List Str:=["_law_text","_law_place","_law_ahead"]
noncomputable def HU:List RS:=
 [.asg 2 (.xm wk (.sl (.v 0) none (some (.v 1))) [(.c (.str "\n"))]),
 .ret (.tup [(.bin .Sub (.blt .len [(.v 2)]) (.c (.int 1))),(.blt .len [(.ix (.v 2) (.neg (.c (.int 1))))])])]
def HV:List Str:=["_law_text","_law_line","_law_column","_law_lines"]
noncomputable def HW:List RS:=
 [.asg 3 (.xm wk (.v 0) [(.c (.str "\n"))]),
 .ret (.bin .Add (.blt .sum [(.comp none [] .list [(.sl (.v 3) none (some (.v 1)))] none (.bin .Add (.blt .len [(.v 0)]) (.c (.int 1))))]) (.blt .min [(.v 2),(.blt .len [(.ix (.v 3) (.v 1))])]))]
def Vu:List Str:=["sum","len","min"]
def AN:List Str:=["_law_text","_law_place","_law_word","_law_some","_law_marks"]
noncomputable def HX:List RS:=
 [.asg 3 (.c (.str "abcdefghijklmnopqrstuvwxyzABCDEFGHIJKLMNOPQRSTUVWXYZ0123456789")),
 .pk 4 (.comp none [("_law_some",3)] .txt [(.v 0)] none<|.cmp .In (.v 0)<|.v 1),
 .ite (.cmp .Eq (.v 2) (.c (.str "on"))) [.fD (.and [(.cmp .Lt (.v 1) (.blt .len [(.v 0)])),(.not (.ix (.v 4) (.v 1)))]) [.asg 1 (.bin .Add (.v 1) (.c (.int 1)))],
  .fD (.and [(.cmp .Lt (.v 1)<|.blt .len [(.v 0)]),(.ix (.v 4)<|.v 1)]) [.asg 1<|.bin .Add (.v 1)<|.c<|.int 1],
  .ret (.v 1)] [],
 .fD (.and [(.cmp .Gt (.v 1)<|.c<|.int 0),(.not<|.ix (.v 4)<|.bin .Sub (.v 1)<|.c<|.int 1)]) [.asg 1<|.bin .Sub (.v 1)<|.c<|.int 1],
 .fD (.and [(.cmp .Gt (.v 1)<|.c<|.int 0),(.ix (.v 4)<|.bin .Sub (.v 1)<|.c<|.int 1)]) [.asg 1<|.bin .Sub (.v 1)<|.c<|.int 1],
 .ret (.v 1)]
def gH:List Str:=["_law_text","_law_cursor_here","_law_word","_law_hold","_law_anchor","_law_head","_law_goal","_law_line","_law_column","_law_other"]
noncomputable def cz:List RS:=
 [.nB [4,5,6] (.v 1),
 .nB [7,8] (.call 0 [(.v 0),(.v 5)]),
 .ite (.or [(.cmp .Eq (.v 2)<|.c<|.str "top"),(.cmp .Eq (.v 2)<|.c<|.str "bottom")]) [.ret<|.ix (.lst [(.c<|.int 0),(.blt .len [(.v 0)])])<|.blt .int [(.cmp .Eq (.v 2)<|.c<|.str "bottom")]] [],
 .ite (.or [(.cmp .Eq (.v 2)<|.c<|.str "home"),(.cmp .Eq (.v 2)<|.c<|.str "end")]) [.ret<|.call 1 [(.v 0),(.v 7),(.ix (.lst [(.c<|.int 0),(.blt .len [(.v 0)])])<|.blt .int [(.cmp .Eq (.v 2)<|.c<|.str "end")])]] [],
 .ite (.or [(.cmp .Eq (.v 2)<|.c<|.str "back"),(.cmp .Eq (.v 2)<|.c<|.str "on")]) [.ret<|.call 2 [(.v 0),(.v 5),(.v 2)]] [],
 .ite (.or [(.cmp .Eq (.v 2) (.c (.str "left"))),(.cmp .Eq (.v 2) (.c (.str "right")))]) [.ite (.and [(.cmp .NotEq (.v 4) (.v 5)),(.not (.v 3))]) [.ret (.ix (.lst [(.blt .min [(.v 4),(.v 5)]),(.blt .max [(.v 4),(.v 5)])]) (.blt .int [(.cmp .Eq (.v 2) (.c (.str "right")))]))] [],
  .ret (.blt .max [(.c (.int 0)),(.blt .min [(.blt .len [(.v 0)]),(.bin .Add (.v 5) (.ix (.lst [(.neg (.c (.int 1))),(.c (.int 1))]) (.blt .int [(.cmp .Eq (.v 2) (.c (.str "right")))])))])])] [],
 .ite (.cmp .IsNot (.v 6)<|.c .aA) [.asg 8<|.v 6] [],
 .asg 9 (.bin .Add (.v 7)<|.ix (.lst [(.neg<|.c<|.int 1),(.c<|.int 1)])<|.blt .int [(.cmp .Eq (.v 2)<|.c<|.str "down")]),
 .ite (.cmp .Lt (.v 9)<|.c<|.int 0) [.ret<|.c<|.int 0] [],
 .ite (.cmp .Gt (.v 9)<|.bD .count (.v 0) [(.c<|.str "\n")]) [.ret<|.blt .len [(.v 0)]] [],
 .ret (.call 1 [(.v 0),(.v 9),(.v 8)])]
def iz:List Str:=["_law_at_line","_law_in_line","_law_word_place"]
def iA:List Str:=["len","int","min","max"]
def nZ:List Str:=["_law_text","_law_cursor_here","_law_word","_law_hold","_law_place","_law_goal"]
noncomputable def iB:List RS:=
 [.asg 4 (.call 0 [(.v 0),(.v 1),(.v 2),(.v 3)]),
 .asg 5 (.c .aA),
 .ite (.or [(.cmp .Eq (.v 2) (.c (.str "up"))),(.cmp .Eq (.v 2) (.c (.str "down")))]) [.asg 5 (.ix (.v 1) (.c (.int 2))),
  .ite (.cmp .Is (.v 5) (.c .aA)) [.asg 5 (.ix (.call 1 [(.v 0),(.ix (.v 1) (.c (.int 1)))]) (.c (.int 1)))] []] [],
 .ret (.tup [(.ix (.lst [(.v 4),(.ix (.v 1) (.c (.int 0)))]) (.blt .int [(.v 3)])),(.v 4),(.v 5)])]
def sD:List Str:=["_law_led","_law_at_line"]
def sE:List Str:=["int"]
def HY:List Str:=["_law_found","_law_due"]
noncomputable def HZ:List RS:=
 [.ite (.or [(.not (.eO .tuple (.v 0))),(.cmp .NotEq (.blt .len [(.v 0)]) (.c (.int 3))),(.cmp .NotEq (.v 0) (.v 1))]) [.ret (.c (.bl false))] [],
 .ret (.cmp .Eq (.comp none [] .tup [(.v 0)] (some (.and [(.cmp .IsNot (.v 0) (.c .aA)),(.not (.call 0 [(.v 0)]))])) (.v 0)) (.lst []))]
def Vv:List Str:=["_law_whole"]
end L2.B
namespace L2.e_
open PySem PySem.W PyProof.Rows
structure Ord (n:Nat) (lt:Nat->Nat->Bool):Prop where
 g5: ∀i j,i<n->j<n->i≠j->lt i j=true\/lt j i=true
 Vw: ∀i j,i<n->j<n->lt i j=true->lt j i=false
 tr: ∀i j k,i<n->j<n->k<n->lt i j=true->lt j k=true->lt i k=true
def at'(p:Array Nat)(i:Nat):Nat:=p.getD i 0
structure Pm (n:Nat) (p:Array Nat):Prop where
 sz:p.size=n
 pm:p.toList.Perm (List.range n)
theorem sG{p:Array Nat}{i:Nat}(h:i<p.size):at' p i=p[i]:=by simp[at',Array.getD,h]
theorem sI{p q:Array Nat}{i j:Nat}(h:p[i]?=q[j]?):at' p i=at' q j:=by
 unfold at'
 rw[Array.getD_eq_getD_getElem?,Array.getD_eq_getD_getElem?,h]
section
variable {n:Nat} {lt:Nat->Nat->Bool} {p:Array Nat}
theorem Pm.inR(P:Pm n p){i:Nat}(h:i<n):at' p i<n:=by
 have hs:i<p.size:=by rw[P.sz];exact h
 rw[sG hs]
 have hm:p[i]∈p.toList:=by simp
 exact zaR.mp<|P.pm.subset hm
theorem Pm.ne(P:Pm n p){i j:Nat}(hi:i<n)(hj:j<n)(h:i≠j):at' p i≠at' p j:=by
 have hs:i<p.size:=by rw[P.sz];exact hi
 have wt:j<p.size:=by rw[P.sz];exact hj
 rw[sG hs,sG wt]
 have nd:p.toList.Nodup:=P.pm.nodup_iff.mpr List.nodup_range
 intro e
 have e2:p.toList[i]'(by simpa using hs)=p.toList[j]'(by simpa using wt):=by simpa using e
 exact h<|(List.getElem_inj nd).mp e2
theorem Pm.perm(P:Pm n p){q:Array Nat}(h:q.Perm p):Pm n q:=⟨by rw[h.size_eq,P.sz],h.toList.trans P.pm⟩
def Up(lt:Nat->Nat->Bool)(p:Array Nat)(k:Nat):Prop:= ∀i j,i<j->j<k->lt (at' p i) (at' p j)=true
def Dn(lt:Nat->Nat->Bool)(p:Array Nat)(k:Nat):Prop:= ∀i j,i<j->j<k->lt (at' p j) (at' p i)=true
theorem Up.snoc(O:Ord n lt)(P:Pm n p){k:Nat}(U:Up lt p k)(hk:k<n)(h1:1<=k)(h:lt (at' p k) (at' p<|k - 1)=false):Up lt p (k+1):=by
 intro i j jf hj
 by_cases e:j=k
 ·subst e
  have l1:lt (at' p<|j - 1) (at' p j)=true:=by
   rcases O.g5 _ _ (P.inR (i:=j - 1) (by lia)) (P.inR hk) (P.ne (by lia) hk (by lia)) with z | z
   ·exact z
   ·rw[z] at h;cases h
  by_cases e2:i=j - 1
  ·rw[e2];exact l1
  ·exact O.tr _ _ _ (P.inR (by lia)) (P.inR (by lia)) (P.inR hk) (U i (j - 1) (by lia) (by lia)) l1
 ·exact U i j jf (by lia)
theorem Dn.snoc(O:Ord n lt)(P:Pm n p){k:Nat}(U:Dn lt p k)(hk:k<n)(h1:1<=k)(h:lt (at' p k) (at' p<|k - 1)=true):Dn lt p (k+1):=by
 intro i j jf hj
 by_cases e:j=k
 ·subst e
  by_cases e2:i=j - 1
  ·rw[e2];exact h
  ·exact O.tr _ _ _ (P.inR hk) (P.inR (by lia)) (P.inR (by lia)) h (U i (j - 1) (by lia) (by lia))
 ·exact U i j jf (by lia)
theorem Up.one:Up lt p 1:=fun i j jf hj=>by lia
variable {cmp:Nat->Nat->(Bool->Shared->Prop)->Shared->Prop} {R:Shared->Prop}
def mz(n:Nat)(lt:Nat->Nat->Bool)(cmp:Nat->Nat->(Bool->Shared->Prop)->Shared->Prop)(R:Shared->Prop):Prop:=
 ∀i j (C:Bool->Shared->Prop),i<n->j<n->i≠j->(∀s,R s->C (lt i j) s)-> ∀s,R s->cmp i j C s
def TR(cmp:Nat->Nat->(Bool->Shared->Prop)->Shared->Prop)(R:Shared->Prop){α:Type}(t:KasT α)(P:α->Prop):Prop:= ∀Q:α->Shared->Prop,(∀a s,P a->R s->Q a s)-> ∀s,R s->t.kasWp cmp Q s
theorem TR.ret{α:Type}{a:α}{P:α->Prop}(h:P a):TR cmp R (.ret a) P:=fun Q q s r=>q a s h r
theorem TR.ask{α:Type}{i j:Nat}{k:Bool->KasT α}{P:α->Prop}(A:mz n lt cmp R)(hi:i<n)(hj:j<n)(ne:i≠j)(h:TR cmp R (k<|lt i j) P):TR cmp R (.ask i j k) P:=fun Q q s r=>A i j _ hi hj ne (fun s' r'=>h Q q s' r') s r
theorem TR.bind{α β:Type}{t:KasT α}{f:α->KasT β}{P1:α->Prop}{P:β->Prop}(h:TR cmp R t P1)(h2: ∀a,P1 a->TR cmp R (f a) P):TR cmp R (t.bind f) P:=fun Q q s r=>by
 rw[KasT.kasWp_bind]
 exact h _ (fun a s' p1 r'=>h2 a p1 Q q s' r') s r
theorem TR.mono{α:Type}{t:KasT α}{P P':α->Prop}(h:TR cmp R t P)(hp: ∀a,P a->P' a):TR cmp R t P':=fun Q q s r=>h Q (fun a s' pa r'=>q a s' (hp a pa) r') s r
theorem AO(O:Ord n lt)(A:mz n lt cmp R)(P:Pm n p): ∀(f k:Nat),1<=k->k+f=n->Up lt p k->TR cmp R (kas_asc p f k) fun m=>k<=m/\m<=n/\Up lt p m/\(m=n\/lt (at' p m) (at' p<|m - 1)=true)
 | 0,k,h1,h2,U=>TR.ret ⟨zqR _,by lia,U, .inl (by lia)⟩
 | f+1,k,h1,h2,U=>by
  refine TR.ask A (P.inR (by lia)) (P.inR (by lia)) (P.ne (by lia) (by lia) (by lia)) ?_
  cases hc:lt (p.getD k 0) (p.getD (k - 1) 0) with
  | true=>exact TR.ret ⟨zqR _,by lia,U, .inr hc⟩
  | false=>exact(AO O A P f (k+1) (by lia) (by lia)<|U.snoc O P (by lia) h1 hc).mono fun m ⟨a,b,c,d⟩=> ⟨by lia,b,c,d⟩
theorem H_(O:Ord n lt)(A:mz n lt cmp R)(P:Pm n p): ∀(f k:Nat),1<=k->k+f=n->Dn lt p k->TR cmp R (kas_desc f p k 0) fun r=>r.1=p/\r.2.2=0/\k<=r.2.1/\r.2.1<=n/\Dn lt p r.2.1
 | 0,k,h1,h2,U=>TR.ret ⟨rfl,rfl,zqR _,by show k<=n;lia,U⟩
 | f+1,k,h1,h2,U=>by
  refine TR.ask A (P.inR (by lia)) (P.inR (by lia)) (P.ne (by lia) (by lia) (by lia)) ?_
  cases hc:lt (p.getD k 0) (p.getD (k - 1) 0) with
  | true=>
   exact(H_ O A P f (k+1) (by lia) (by lia)<|U.snoc O P (by lia) h1 hc).mono fun r ⟨a,b,c,d,e⟩=> ⟨a,b,by lia,d,e⟩
  | false=>
   have l1:lt (p.getD (k - 1) 0) (p.getD k 0)=true:=by
    rcases O.g5 _ _ (P.inR (i:=k - 1) (by lia)) (P.inR (i:=k) (by lia)) (P.ne (by lia) (by lia) (by lia)) with z | z
    ·exact z
    ·have z':lt (p.getD k 0) (p.getD (k - 1) 0)=true:=z
     rw[z'] at hc;cases hc
   show TR cmp R (.ask (p.getD (k - 1) 0) (p.getD k 0) fun d=>if d=true then .ret (p,k,0) else kas_desc f p (k+1) (0+1)) _
   refine TR.ask A (P.inR (by lia)) (P.inR (by lia)) (P.ne (by lia) (by lia) (by lia)) ?_
   rw[l1]
   exact TR.ret ⟨rfl,rfl,zqR _,by show k<=n;lia,U⟩
theorem Ia{p:Array Nat}{m i:Nat}(hm:m<=p.size):at' (kas_rev p 0 m) i=if i<m then at' p (m - 1 - i) else at' p i:=by
 have e:=getElem?_mirror_all (xs:=p) (i:=0) hm i
 by_cases h:i<m
 ·rw[if_pos ⟨zqZ _,h⟩,show 0+m - 1 - i=m - 1 - i by lia] at e
  rw[if_pos h];exact sI e
 ·rw[if_neg fun z=>h z.2] at e
  rw[if_neg h];exact sI e
theorem Dn.rev{m:Nat}(hm:m<=p.size)(U:Dn lt p m):Up lt (kas_rev p 0 m) m:=by
 intro i j jf hj
 rw[Ia hm,Ia hm,if_pos (by lia),if_pos hj]
 exact U (m - 1 - j) (m - 1 - i) (by lia) (by lia)
theorem Pm.rev(P:Pm n p)(m:Nat):Pm n (kas_rev p 0 m):=P.perm (mirror_perm _ _ _ _)
def Good(n:Nat)(lt:Nat->Nat->Bool)(r:Nat×Array Nat):Prop:=1<=r.1/\r.1<=n/\Pm n r.2/\Up lt r.2 r.1
theorem Vx(O:Ord n lt)(A:mz n lt cmp R)(P:Pm n p)(hn:1<=n):TR cmp R (kas_count n p) (Good n lt):=by
 refine TR.bind (AO O A P (n - 1) 1 (zqR _) (by lia) Up.one) fun m ⟨h1,h2,U,h3⟩=> ?_
 by_cases e:m=n
 ·rw[if_pos (by simp[e])]
  exact TR.ret ⟨h1,h2,P,U⟩
 ·rw[if_neg (by simp[e])]
  have hd:lt (at' p m) (at' p<|m - 1)=true:=by rcases h3 with h | h;exact absurd h e;exact h
  by_cases g:m>1
  ·rw[if_pos g]
   refine TR.ask A (P.inR (by lia)) (P.inR (by lia)) (P.ne (by lia) (by lia) (by lia)) ?_
   have c:=U 0 (m - 1) (by lia) (by lia)
   have c':lt (p.getD 0 0) (p.getD (m - 1) 0)=true:=c
   rw[c']
   exact TR.ret ⟨h1,h2,P,U⟩
  ·rw[if_neg g]
   have em:m=1:=by lia
   subst em
   have D2:Dn lt p 2:=by
    intro i j jf hj
    have e1:i=0:=by lia
    have e2:j=1:=by lia
    subst e1 e2;exact hd
   refine TR.bind (H_ O A P (n - (1+1)) (1+1) (by lia) (by lia) D2) fun r ⟨a,b,c,d,f⟩=> ?_
   rw[if_neg (by lia),a]
   have U2:=f.rev (by rw[P.sz];exact d)
   refine TR.bind (AO O A (P.rev r.2.1) (n - r.2.1) r.2.1 (by lia) (by lia) U2) fun m2 ⟨a1,a2,a3,a4⟩=> ?_
   exact TR.ret ⟨by show 1<=m2;lia,a2,P.rev _,a3⟩
theorem AQ(O:Ord n lt)(A:mz n lt cmp R)(P:Pm n p){k:Nat}(hk:k<n)(U:Up lt p k): ∀(f l r:Nat),r<=k->l<=r->r - l<=f->(∀i,i<l->lt (at' p i) (at' p k)=true)->(∀i,r<=i->i<k->lt (at' p k) (at' p i)=true)->
  TR cmp R (kas_place p k f l r) fun m=>m<=k/\(∀i,i<m->lt (at' p i) (at' p k)=true)/\ ∀i,m<=i->i<k->lt (at' p k) (at' p i)=true
 | 0,l,r,h1,h2,h3,ha,hb=>TR.ret ⟨by lia,ha,fun i hi=>hb i (by lia)⟩
 | f+1,l,r,h1,h2,h3,ha,hb=>by
  unfold kas_place
  by_cases e:l≥r
  ·rw[if_pos e]
   exact TR.ret ⟨by lia,ha,fun i hi=>hb i (by lia)⟩
  ·rw[if_neg e]
   have hm:(l+r) / 2<k:=by lia
   refine TR.ask A (P.inR hk) (P.inR (by lia)) (P.ne hk (by lia) (by lia)) ?_
   cases hc:lt (p.getD k 0) (p.getD ((l+r) / 2) 0) with
   | true=>
    refine AQ O A P hk U f l ((l+r) / 2) (by lia) (by lia) (by lia) ha fun i hi Ib=> ?_
    by_cases e2:i=(l+r) / 2
    ·rw[e2];exact hc
    ·exact O.tr _ _ _ (P.inR hk) (P.inR (by lia)) (P.inR (by lia)) hc (U _ i (by lia) Ib)
   | false=>
    have l1:lt (at' p<|(l+r) / 2) (at' p k)=true:=by
     rcases O.g5 _ _ (P.inR (i:=(l+r) / 2) (by lia)) (P.inR hk) (P.ne (by lia) hk (by lia)) with z | z
     ·exact z
     ·have z':lt (p.getD k 0) (p.getD ((l+r) / 2) 0)=true:=z
      rw[z'] at hc;cases hc
    refine AQ O A P hk U f ((l+r) / 2+1) r h1 (by lia) (by lia) (fun i hi=> ?_) hb
    by_cases e2:i=(l+r) / 2
    ·rw[e2];exact l1
    ·exact O.tr _ _ _ (P.inR (by lia)) (P.inR (by lia)) (P.inR hk) (U i _ (by lia) (by lia)) l1
theorem Ic{p:Array Nat}{k m i:Nat}(hk:k<p.size)(hm:m<=k):at' (bubble p k<|k - m) i=if i=m then at' p k else if m<i/\i<=k then at' p (i - 1) else at' p i:=by
 have e:=getElem?_bubble hk (k - m) (by lia) i
 rw[show k - (k - m)=m by lia] at e
 by_cases h:i=m
 ·rw[if_pos h] at e⊢;exact sI e
 ·rw[if_neg h] at e⊢
  by_cases g:m<i/\i<=k
  ·rw[if_pos g] at e⊢;exact sI e
  ·rw[if_neg g] at e⊢;exact sI e
theorem Ie(O:Ord n lt)(A:mz n lt cmp R): ∀(f k:Nat) (p:Array Nat),Pm n p->k+f=n->Up lt p k->TR cmp R (kas_bin f p k) fun q=>Pm n q/\Up lt q n
 | 0,k,p,P,h,U=>TR.ret ⟨P,by rw[show n=k by lia];exact U⟩
 | f+1,k,p,P,h,U=>by
  have hk:k<n:=by lia
  refine TR.bind (AQ O A P hk U k 0 k (zqR _) (zqZ _) (by lia) (fun i hi=>by lia)<|fun i hi Ib=>by lia) fun m ⟨hm,ha,hb⟩=> ?_
  refine Ie O A f (k+1) _ (P.perm<|bubble_perm _ _ _) (by lia) ?_
  intro i j jf hj
  have hs:k<p.size:=by rw[P.sz];exact hk
  rw[Ic hs hm,Ic hs hm]
  by_cases e1:i=m
  ·rw[if_pos e1,if_neg (by lia),if_pos (by lia)]
   exact hb (j - 1) (by lia) (by lia)
  ·rw[if_neg e1]
   by_cases e2:j=m
   ·rw[if_pos e2,if_neg (by lia)]
    exact ha i (by lia)
   ·rw[if_neg e2]
    by_cases e3:m<i/\i<=k
    ·rw[if_pos e3,if_pos (by lia)]
     exact U (i - 1) (j - 1) (by lia) (by lia)
    ·rw[if_neg e3]
     by_cases e4:m<j/\j<=k
     ·rw[if_pos e4]
      exact U i (j - 1) (by lia) (by lia)
     ·rw[if_neg e4]
      exact U i j jf (by lia)
theorem Vy(O:Ord n lt)(A:mz n lt cmp R)(hn:1<=n):TR cmp R (kas_sort n) fun q=>Pm n q/\Up lt q n:=by
 have P0:Pm n (List.toArray<|List.range n):=⟨by simp,List.Perm.refl _⟩
 refine TR.bind (Vx O A P0 hn) fun r ⟨h1,h2,P,U⟩=> ?_
 by_cases e:r.1<n
 ·rw[if_pos e,show max r.1 1=r.1 by lia]
  exact Ie O A _ _ _ P (by lia) U
 ·rw[if_neg e]
  exact TR.ret ⟨P,by rw[show n=r.1 by lia];exact U⟩
end
end L2.e_
namespace L2
open PySem PySem.Spec PyProof.Rows PySem.W L2.e_
abbrev T3:=Int×Int×Int
def dA(a b:T3):Bool:=decide (a.1<b.1) || (a.1==b.1 && (decide (a.2.1<b.2.1) || (a.2.1==b.2.1 && decide (a.2.2<b.2.2))))
def mB(ts:List T3)(i j:Nat):Bool:=dA (ts.getD i (0,0,0)) (ts.getD j (0,0,0))
theorem wu{a b:T3}:dA a b=true↔a.1<b.1\/(a.1=b.1/\(a.2.1<b.2.1\/(a.2.1=b.2.1/\a.2.2<b.2.2))):=by
 unfold dA;simp
theorem Vz{a b c:T3}(h1:dA a b=true)(h2:dA b c=true):dA a c=true:=by
 rw[wu] at*;lia
theorem Ig{a b:T3}(h:dA a b=true):dA b a=false:=by
 cases e:dA b a with
 | false=>rfl
 | true=>rw[wu] at*;lia
theorem VA{a b:T3}(h:a≠b):dA a b=true\/dA b a=true:=by
 rw[wu,wu]
 obtain⟨a1,a2,a3⟩:=a
 obtain⟨b1,b2,b3⟩:=b
 have: ¬(a1=b1/\a2=b2/\a3=b3):=fun⟨x,y,z⟩=>h (by rw[x,y,z])
 simp only
 lia
theorem VB{ts:List T3}(nd:ts.Nodup):Ord ts.length (mB ts) where
 g5 i j hi hj ne:=by
  unfold mB
  refine VA ?_
  have e1:ts.getD i (0,0,0)=ts[i]:=by simp[hi]
  have e2:ts.getD j (0,0,0)=ts[j]:=by simp[hj]
  rw[e1,e2]
  exact fun e=>ne<|(List.getElem_inj nd).mp e
 Vw i j _ _ h:=Ig h
 tr i j k _ _ _ h1 h2:=Vz h1 h2
def TupAt(h:Heap)(v:Value)(t:T3):Prop:= ∃a o n t1 t2 t3,v= .ref a/\h.get? a=some o/\o.cls= .type "tuple"/\o.data= .seq #[.int t.1 t1, .int t.2.1 t2, .int t.2.2 t3] n
theorem TupAt.kept{h h':Heap}{v:Value}{t:T3}(x:TupAt h v t)(k: ∀b o,h.get? b=some o->o.cls= .type "tuple"->h'.get? b=some o):TupAt h' v t:=by
 obtain⟨a,o,n,t1,t2,t3,rfl,e,c,d⟩:=x
 exact⟨a,o,n,t1,t2,t3,rfl,k _ _ e c,c,d⟩
section
variable {prog:Program} {w:World} {A:Around} {E:Value->Shared->Prop} {s:Shared} {vs:List Value} {ts:List T3}
theorem Ih: ∀{vs:List Value} {ts:List T3},Paired (TupAt s.heap) vs ts-> ∃fs,KatTups s.heap vs fs/\fs.length=ts.length/\ ∀v∈fs,∃n t,v= .int n t
 | [],[], .nil=> ⟨[],KatTups.nil,rfl,fun v h=>by cases h⟩
 | v::vs,t::ts, .cons x r=>by
  obtain⟨a,o,n,t1,t2,t3,rfl,e,c,d⟩:=x
  obtain⟨fs,k,l,f⟩:=Ih r
  refine⟨.int t.1 t1::fs,KatTups.cons e c d (by simp) k,by rw[zar,zar,l],fun v hv=> ?_⟩
  rcases zaa.mp hv with rfl | hv
  ·exact⟨_,_,rfl⟩
  ·exact f v hv
theorem AR{h:Heap}: ∀{vs:List Value} {ts:List T3},Paired (TupAt h) vs ts-> ∀i,i<ts.length->TupAt h (vs.getD i Value.none) (ts.getD i (0,0,0))
 | [],[],_,i,hi=>absurd hi (zbk _)
 | v::vs,t::ts, .cons x r,0,_=>x
 | v::vs,t::ts, .cons x r,i+1,hi=>AR r i (by simpa using hi)
theorem VC{x y:Value}{a b:T3}{Q:Bool->Shared->Prop}(hx:TupAt s.heap x a)(hy:TupAt s.heap y b)(q:Q (dA a b) s):wpAny (model prog w) A (keyLt' (tuples' true) x y) Q E s:=by
 obtain⟨ax,ox,n,u1,u2,u3,rfl,ex,cx,dx⟩:=hx
 obtain⟨ay,oy,m,v1,v2,v3,rfl,ey,cy,dy⟩:=hy
 refine kat_lt ex dx ey dy ?_
 have lt: ∀{p r:Int} {t u:Tok} {Q:Bool->Shared->Prop},Q (decide<|p<r) s->wpAny (model prog w) A (oneLt' false (.int p t) (.int r u)) Q (fun _ _=>False) s:=fun h=>kat_one _ _ (PyProof.Rows.lt_int h)
 refine kat_cons<|wpAny_eqBool_int<|kat_go (fun e=>kat_yes ?_) fun e=>kat_no (oneLt_int ?_)
 ·have e1:a.1=b.1:=by simpa using e
  refine kat_cons<|wpAny_eqBool_int<|kat_go (fun e=>kat_yes ?_) fun e=>kat_no (lt ?_)
  ·have e2:a.2.1=b.2.1:=by simpa using e
   refine kat_cons<|wpAny_eqBool_int<|kat_go (fun e=>kat_yes<|kat_nil ?_) fun e=>kat_no (lt ?_)
   ·have e3:a.2.2=b.2.2:=by simpa using e
    have:dA a b=false:=by unfold dA;simp[e1,e2,e3]
    rw[this] at q;exact q
   ·have:dA a b=decide (a.2.2<b.2.2):=by unfold dA;simp[e1,e2]
    rw[this] at q;exact q
  ·have e2: ¬a.2.1=b.2.1:=by simpa using e
   have:dA a b=decide (a.2.1<b.2.1):=by unfold dA;simp[e1,e2]
   rw[this] at q;exact q
 ·have e1: ¬a.1=b.1:=by simpa using e
  have:dA a b=decide (a.1<b.1):=by unfold dA;simp[e1]
  rw[this] at q;exact q
def sJ(vs:List Value)(p:Array Nat):List Value:=p.toList.map fun i=>vs.getD i Value.none
theorem VD{a:Addr}{n:Nat}{P:PySem.Fin->Shared->Prop}(ho:s.heap.get? a=some (seqObj "list" vs.toArray n))(ht:Paired (TupAt s.heap) vs ts)(nd:ts.Nodup)(wx:vs.length<64)
  (h: ∀p,Pm ts.length p->Up (mB ts) p ts.length->P (.done<|.ret .none) {s with heap:=sortedHeap s.heap a vs (sJ vs p).toArray}):
  wpAny (model prog w) A (Builtin.«list.sort» ⟨[.ref a],[]⟩) P E s:=by
 have hlen:vs.length=ts.length:=Paired.length ht
 rw[list_sort_plain]
 have ha:a<s.heap.objs.size:=Heap.lt_size ho
 refine wpAny_bind<|listItems_at ho rfl ?_
 refine wpAny_bind<|listUpdate_at ho rfl ?_ (by rw[zad,sizeLine_eq];lia)<|zqZ _
 obtain⟨e1,i0⟩: ∃e1,(s.heap.update a<|Obj.mapSeq fun _=> #[]).get? a=some (seqObj "list" #[] e1):=⟨_,get?_update_seq ho<|fun _=> #[]⟩
 refine wpAny_bind<|seqEpoch_at i0 rfl ?_
 refine wpAny_bind<|wpAny_newTuple ?_ (by show vs.length<=_;rw[sizeLine_eq];lia)
 refine wpAny_bind<|wpAny_newList ?_<|zqZ _
 refine wpAny_holding ?_
 have wy:(((s.heap.update a<|Obj.mapSeq fun _=> #[]).push<|seqObj "tuple" vs.toArray 0).push<|seqObj "list" #[] 0).get? a=some (seqObj "list" #[] e1):=by
  rw[Heap.get?_push_ne _ _ _ (by rw[size_push',Heap.size_update];exact zae (zaP ha)),Heap.get?_push_ne _ _ _ (by rw[Heap.size_update];exact zae ha)]
  exact i0
 have keep: ∀b o,s.heap.get? b=some o->o.cls= .type "tuple"->(((s.heap.update a<|Obj.mapSeq fun _=> #[]).push<|seqObj "tuple" vs.toArray 0).push<|seqObj "list" #[] 0).get? b=some o:=fun b o e c=>by
  have hb:b≠a:=fun z=>by
   subst z
   rw[ho] at e
   cases e
   exact absurd c (by show Value.type "list"≠Value.type "tuple";decide+kernel)
  have aW:b<s.heap.objs.size:=Heap.lt_size e
  rw[Heap.get?_push_ne _ _ _ (by rw[size_push',Heap.size_update];exact zae (zaP aW)),Heap.get?_push_ne _ _ _ (by rw[Heap.size_update];exact zae aW),Heap.get?_update_ne _ _ _ _ hb]
  exact e
 show wpAny (model prog w) A _ P E {s with heap:=((s.heap.update a<|Obj.mapSeq fun _=> #[]).push<|seqObj "tuple" vs.toArray 0).push (seqObj "list" #[] 0)}
 dsimp only
 have gQ:vs.toArray.size=vs.length:=by simp
 by_cases h2:vs.toArray.size<2
 ·rw[if_pos h2,if_pos h2]
  refine wpAny_bind<|wpAny_pure ?_
  rw[StateT.run_pure]
  refine wpAny_bind<|wpAny_pure ?_
  dsimp only
  refine wpAny_bind<|seqEpoch_at wy rfl ?_
  refine wpAny_bind<|listUpdate_at wy rfl ?_ (hsz2:=by rw[Array.size_map];show(pairsOf vs).size<=_;rw[pairsOf_size,sizeLine_eq];lia)
  simp only[bne_self_eq_false,zaW,if_false]
  refine wpAny_pure ?_
  have h':=h (List.toArray<|List.range ts.length) ⟨by simp,List.Perm.refl _⟩ (fun i j jf hj=>by lia)
  have e:(arrOf<|SortSt.mk' general' (vs.toArray.zip vs.toArray) #[] 7 none).map (·.2)=(sJ vs<|List.toArray<|List.range ts.length).toArray:=by
   have hz:(vs.toArray.zip vs.toArray).size=ts.length:=by rw[<-hlen];simp
   have hr:=kas_range (vs.toArray.zip vs.toArray)
   rw[hz] at hr
   exact kat_snds (ks:=vs) (vs:=vs) (st:=SortSt.mk' general' (vs.toArray.zip vs.toArray) #[] 7 none) rfl hr.symm
  rw[e]
  exact h'
 ·rw[if_neg h2,if_neg h2]
  have jg:Paired (TupAt<|((s.heap.update a<|Obj.mapSeq fun _=> #[]).push<|seqObj "tuple" vs.toArray 0).push<|seqObj "list" #[] 0) vs ts:=L2.Paired.eU ht fun v t x=>x.kept keep
  obtain⟨fs,kt,kl,kf⟩:=Ih (s:={s with heap:=((s.heap.update a<|Obj.mapSeq fun _=> #[]).push<|seqObj "tuple" vs.toArray 0).push (seqObj "list" #[] 0)}) jg
  refine wpAny_bind<|kat_kind kt (by lia) (T:= .type "int") (fun v hv=> ?_) (by rfl) ?_
  ·obtain⟨k,t,rfl⟩:=kf v hv
   exact Looks.now
  have as:mz ts.length (mB ts) (kas_ask prog w A (tuples' true) vs) (fun z=>z={s with heap:=((s.heap.update a<|Obj.mapSeq fun _=> #[]).push<|seqObj "tuple" vs.toArray 0).push (seqObj "list" #[] 0)}):=by
   rintro i j C hi hj ne hC z rfl
   exact VC (AR jg i hi) (AR jg j hj)<|hC _ rfl
  have VE:=Vy (VB nd) as (by lia)
  refine wpAny_bind (wpAny_mono (kat_run (κ:=tuples' true) (ks:=vs) (Q:=fun ck s'=> ∃p,Pm ts.length p/\Up (mB ts) p ts.length/\arrOf ck=p.map (kas_item (vs.toArray.zip vs.toArray))/\failedOf ck=none/\s'={s with heap:=((s.heap.update a (Obj.mapSeq fun _=> #[])).push (seqObj "tuple" vs.toArray 0)).push (seqObj "list" #[] 0)})
   (G:=fun p s'=> (Pm ts.length p/\Up (mB ts) p ts.length)/\s'={s with heap:=((s.heap.update a<|Obj.mapSeq fun _=> #[]).push<|seqObj "tuple" vs.toArray 0).push (seqObj "list" #[] 0)})
   rfl (by lia) wx (fun p ck s' a1 a2 a3 a4=> ⟨p,a4.1.1,a4.1.2,a2,a3,a4.2⟩) (by rw[hlen];exact VE _ (fun p s' hp hs=> ⟨hp,hs⟩) _ rfl)) ?_ fun _ _ e=>e)
  rintro⟨⟨⟩,ck⟩ s' ⟨p,pm,up,VF,hf,rfl⟩
  dsimp only
  have VG:=kat_snds (ks:=vs) (vs:=vs) rfl VF
  rw[VG]
  refine wpAny_bind<|seqEpoch_at wy rfl ?_
  refine wpAny_bind<|listUpdate_at wy rfl ?_ (hsz2:=by rw[zad,zag,zbb,pm.sz,sizeLine_eq];lia)
  rw[hf]
  simp only[bne_self_eq_false,zaW,if_false]
  exact wpAny_pure<|h p pm up
theorem VH{l:Addr}{Q:Value->Shared->Prop}(hl:s.heap.IsList l vs.toArray)(ht:Paired (TupAt s.heap) vs ts)(nd:ts.Nodup)(wx:vs.length<64)
  (h: ∀p,Pm ts.length p->Up (mB ts) p ts.length->Q (.ref<|s.heap.objs.size+1) {s with heap:=sortedAll s.heap vs (sJ vs p).toArray}):
  wpAny (model prog w) A (call (.builtin "sorted") [.ref l]) Q E s:=by
 refine Calls.call_function_entry kind_sorted plain_sorted entry_sorted (args_sorted1 _) ?_
 unfold Builtin.«sorted»
 refine wpAny_bind (m:=checkCount "sorted" 1 1 _)<|wpAny_pure ?_
 refine wpAny_bind<|collect_list hl ?_ (by rw[sizeLine_eq];lia)
 refine wpAny_bind<|wpAny_newList ?_ (by rw[sizeLine_eq];lia)
 have gQ:((s.heap.push<|seqObj "list" #[] 0).update s.heap.objs.size (Obj.mapSeq (· ++vs.toArray))).objs.size=s.heap.objs.size+1:=by
  rw[Heap.size_update,size_push']
 have uR:(((s.heap.push<|seqObj "list" #[] 0).update s.heap.objs.size (Obj.mapSeq (· ++vs.toArray))).push<|seqObj "list" vs.toArray 0).get? (s.heap.objs.size+1)=some (seqObj "list" vs.toArray 0):=by
  rw[<-gQ];exact Heap.get?_push_size _ rfl
 have keep: ∀b o,s.heap.get? b=some o->o.cls= .type "tuple"->(((s.heap.push<|seqObj "list" #[] 0).update s.heap.objs.size (Obj.mapSeq (· ++vs.toArray))).push<|seqObj "list" vs.toArray 0).get? b=some o:=fun b o q _=>by
  have aW:b<s.heap.objs.size:=Heap.lt_size q
  rw[Heap.get?_push_ne _ _ _ (by rw[gQ];exact zae (zaP aW)),Heap.get?_update_ne _ _ _ _<|zae aW,Heap.get?_push_ne _ _ _<|zae aW]
  exact q
 show wpAny _ _ _ _ _ {s with heap:=((s.heap.push<|seqObj "list" #[] 0).update s.heap.objs.size (Obj.mapSeq (· ++vs.toArray))).push (seqObj "list" vs.toArray 0)}
 rw[gQ]
 refine wpAny_bind<|wpAny_holding<|wpAny_call_entry slot_list_sort ⟨_,uR,rfl⟩ entry_list_sort (VD uR (L2.Paired.eU ht fun v t x=>x.kept keep) nd wx fun p a1 a2=> ⟨_,rfl, ?_⟩)<|args_list_sort _
 exact wpAny_pure ⟨_,rfl,h p a1 a2⟩
end
def V3(H:Hp)(v:V)(t:T3):Prop:= ∃a,v= .ref a/\H a=some (.tup [.int t.1, .int t.2.1, .int t.2.2])
def wz(K:Frag):List V->Hp->VK->Prop:=fun xs H Q=> ∃(p:Addr) (vs:List V) (ts:List T3),xs=[.ref p]/\aB K H p vs/\Paired (V3 H) vs ts/\ts.Nodup/\ts.length<64/\
 ∀(q:Addr) (zs:List V) (us:List T3),H q=none->Paired (V3 H) zs us->us.Perm ts->us.Pairwise (fun a b=>dA a b=true)->Q (.ref q) (upd H q<|.lst zs)
section
variable {X:Cx}
theorem Ii: ∀{vs:List V} {its:List Value},Vals vs its-> ∀i,RelV (vs.getD i .aA) (its.getD i Value.none)
 | [],[], .nil,i=>rfl
 | v::vs,u::us, .cons x r,0=>x
 | v::vs,u::us, .cons x r,i+1=>Ii r i
theorem Ij{vs:List V}{its:List Value}(h:Vals vs its): ∀l:List Nat,Vals (l.map fun i=>vs.getD i .aA) (l.map fun i=>its.getD i Value.none)
 | []=> .nil
 | i::l=> .cons (Ii h i) (Ij h l)
theorem Ik{H:Hp}: ∀{vs:List V} {ts:List T3},Paired (V3 H) vs ts-> ∀i,i<ts.length->V3 H (vs.getD i .aA) (ts.getD i (0,0,0))
 | [],[],_,i,hi=>absurd hi (zbk _)
 | v::vs,t::ts, .cons x r,0,_=>x
 | v::vs,t::ts, .cons x r,i+1,hi=>Ik r i (by simpa using hi)
theorem Il{H:Hp}{vs:List V}{ts:List T3}(h:Paired (V3 H) vs ts): ∀l:List Nat,(∀i∈l,i<ts.length)->Paired (V3 H) (l.map fun i=>vs.getD i .aA) (l.map fun i=>ts.getD i (0,0,0))
 | [],_=> .nil
 | i::l,hl=> .cons (Ik h i<|hl i<|.head _) (Il h l fun j hj=>hl j (.tail _ hj))
theorem VI(ts:List T3):((List.range ts.length).map fun i=>ts.getD i (0,0,0))=ts:=by
 refine List.ext_getElem (by simp) fun i h1 h2=> ?_
 have AS:i<ts.length:=h2
 simp[AS]
theorem Im{pins:List (Addr×Obj)}{σ:St}{H:Hp}{s:Shared}(I:Inv X pins σ H s): ∀{vs:List V} {its:List Value} {ts:List T3},Vals vs its->Paired (V3 H) vs ts->Paired (TupAt s.heap) its ts
 | [],[],[],_,_=> .nil
 | v::vs,u::us,t::ts, .cons x r, .cons y r'=>by
  refine .cons ?_<|Im I r r'
  obtain⟨a,rfl,ha⟩:=y
  cases x
  obtain⟨_,its,rv,o,e,c,n,d⟩:=I.aL a _ ha
  obtain⟨u1,r1,rfl,x1,rv⟩: ∃u r,its=u::r/\RelV (.int t.1) u/\Vals [.int t.2.1, .int t.2.2] r:=by cases rv with | cons x r=>exact⟨_,_,rfl,x,r⟩
  obtain⟨u2,r2,rfl,x2,rv⟩: ∃u r,r1=u::r/\RelV (.int t.2.1) u/\Vals [.int t.2.2] r:=by cases rv with | cons x r=>exact⟨_,_,rfl,x,r⟩
  obtain⟨u3,r3,rfl,x3,rv⟩: ∃u r,r2=u::r/\RelV (.int t.2.2) u/\Vals [] r:=by cases rv with | cons x r=>exact⟨_,_,rfl,x,r⟩
  cases rv
  obtain⟨t1,rfl⟩:=x1
  obtain⟨t2,rfl⟩:=x2
  obtain⟨t3,rfl⟩:=x3
  exact⟨a,o,n,t1,t2,t3,rfl,e,c,d⟩
theorem VJ:bQ X (.builtin "sorted") (wz X.K):=by
 intro pins s σ H xs us Q I r h
 obtain⟨p,vs,ts,rfl,hq,h3,nd,wx,q⟩:=h
 obtain⟨u,rfl,ru⟩:=vals1 r
 cases ru
 obtain⟨its,rv,pl,hz⟩:=I.list hq
 have l1:=rv.length
 have l2:=Paired.length h3
 refine VH pl.isList (Im I rv h3) nd (by lia) fun pr pm up=> ?_
 obtain⟨e,he⟩:=sortedAll_at s.heap its (sJ its pr).toArray
 have hlp:pr.toList.length=ts.length:=by rw[zbb,pm.sz]
 have cC: ∀i∈pr.toList,i<ts.length:=fun i hi=>zaR.mp (pm.pm.subset hi)
 refine⟨.ref<|s.heap.objs.size+1,_,I.laid (t':=s.toks) (fun b o e=>sortedAll_old e) (Nat.le_succ _) (show cB X.prog X.w _ _ _ (.lst<|pr.toList.map fun i=>vs.getD i .aA) from⟨by rw[zag];lia,sJ its pr,e,Ij rv _,he⟩),rfl, ?_⟩
 refine q _ _ (pr.toList.map fun i=>ts.getD i (0,0,0)) (I.aL.fresh<|Nat.le_succ _) (Il h3 _ cC) ?_ ?_
 ·have:=pm.pm.map fun i=>ts.getD i ((0,0,0):T3)
  rwa [VI] at this
 ·rw[List.pairwise_map]
  rw[zbo]
  intro i j hi hj jf
  have cM:i<pr.size:=by simpa using hi
  have bA:j<pr.size:=by simpa using hj
  have:=up i j jf (by rw[<-pm.sz];exact bA)
  rw[sG cM,sG bA] at this
  simpa[mB] using this
theorem VL:bootBuiltins "sorted"=some (.builtin "sorted"):=by decide+kernel
end
def wA:Frag->TA->TE:=fun K t=>dY (wz K) t
section
variable {CX:bM} {S:cg} {Γ:aX} {X:Cx} {e:Expr} {es:List Expr} {x:Str} {p pos:Pos} {r:RE} {rs:List RE}
theorem Io(G:Good CX S Γ X)(hA:PA X (e::es) (aZ Γ (r::rs)))(h:kB S x "sorted"=true:=by kernel_rfl)(hn:dQ (e::es)=true:=by kernel_rfl):PE X (.Call (.Name x p) (e::es) [] pos) (aj Γ<|.xt wA (r::rs)):=by
 simp only[kB,zab,decide_eq_true_eq] at h
 obtain⟨⟨rfl,h2⟩,h3⟩:=h
 show PE X _ (dY (wz Γ.K)<|aZ Γ (r::rs))
 rw[<-G.K]
 exact lV VJ (G.gl h2) (G.cH _ h3) VL hA (by decide) (by decide) (cE (bR hn).1)<|e8 _ _ es (bR hn).2
end
end L2
namespace L2
open PySem PySem.Spec PyProof.Rows
section
variable {prog:Program} {w:World} {A:Around} {E:Value->Shared->Prop} {s:Shared} {l:Addr} {xs:Array (Int×Tok)}
theorem Ip{Q:Value->Shared->Prop}(hl:s.heap.IsTuple l (intItems xs))
  (h: ∀s₂:Shared,s₂={s with heap:=s.heap.push {cls:= .type "tuple_iterator",data:= .fields #[.ref l, .int 0 0]}}->
   (s₂.heap.IsTupleIter s.heap.objs.size l 0/\s₂.heap.IsTuple l (intItems xs))->(∀b∈ [s.heap.objs.size,l],b<s₂.heap.objs.size)->l≠s.heap.objs.size->Q (.ref s.heap.objs.size) s₂):
  wpAny (model prog w) A (pyIter<|.ref l) Q E s:=by
 have aW:l<s.heap.objs.size:=by obtain⟨_,e,_⟩:=hl;exact Heap.lt_size e
 refine wpAny_pyIter_tuple hl<|h _ rfl ⟨⟨_,Heap.get?_push_size _ rfl,rfl,rfl⟩,hl.push _⟩ (fun b hb=> ?_)<|zae aW
 show b< (s.heap.push _).objs.size
 rw[Heap.size_push]
 rcases zaa.mp hb with rfl | hb
 ·exact zbd _
 ·rcases zaa.mp hb with rfl | hb
  ·exact zaP aW
  ·cases hb
theorem Iq{h':Heap}(hk: ∀b o,b∉ [s.heap.objs.size]->(s.heap.push {cls:= .type "tuple_iterator",data:= .fields #[.ref l, .int 0 0]}).get? b=some o->h'.get? b=some o):
  ∀b o,s.heap.get? b=some o->h'.get? b=some o:=fun b o e=>by
 refine hk b o (fun hm=> ?_)<|Heap.get?_push_of_some _ e
 rcases zaa.mp hm with e1 | hm
 ·exact absurd (e1 ▸ Heap.lt_size e) (zaw _)
 ·cases hm
theorem VM{Q:Value->Shared->Prop}(hh:A.handled=none)(hl:s.heap.IsTuple l (intItems xs))(cQ:0<xs.size)
  (h: ∀v h' tk,(intItems xs)[argBest (fun i j=>decide<|numAt xs i>numAt xs j)<|xs.size - 1]?=some v->(∀b o,s.heap.get? b=some o->h'.get? b=some o)->Q v {s with heap:=h',toks:=tk}):
  wpAny (model prog w) A (call (.builtin "max") [.ref l]) Q E s:=by
 refine call_max_walk<|Ip hl fun s₂ e st AU AV=> ?_
 subst e
 refine⟨_,_,_,_,_,_,_,rfl,Walks.tuple (A:=A.in1) hh _ l AV<|intItems xs,st,AU,by simpa[intItems] using cQ,CmpOf.ints_gt (numAt xs)<|fun _ _=>intItems_at,fun v h' tk hP hk=> ?_⟩
 exact h v h' tk (by simpa[intItems] using hP)<|Iq hk
theorem VN{Q:Value->Shared->Prop}(hh:A.handled=none)(hl:s.heap.IsTuple l (intItems xs))(cQ:0<xs.size)
  (h: ∀v h' tk,(intItems xs)[argBest (fun i j=>decide<|numAt xs i<numAt xs j)<|xs.size - 1]?=some v->(∀b o,s.heap.get? b=some o->h'.get? b=some o)->Q v {s with heap:=h',toks:=tk}):
  wpAny (model prog w) A (call (.builtin "min") [.ref l]) Q E s:=by
 refine call_min_walk<|Ip hl fun s₂ e st AU AV=> ?_
 subst e
 refine⟨_,_,_,_,_,_,_,rfl,Walks.tuple (A:=A.in1) hh _ l AV<|intItems xs,st,AU,by simpa[intItems] using cQ,CmpOf.ints_lt (numAt xs)<|fun _ _=>intItems_at,fun v h' tk hP hk=> ?_⟩
 exact h v h' tk (by simpa[intItems] using hP)<|Iq hk
end
section
variable {X:Cx}
theorem Ir{pins:List (Addr×Obj)}{σ:St}{H:Hp}{s:Shared}{p:Addr}{ns:List Int}(I:Inv X pins σ H s)(hq:ba X.K H p (ns.map V.int)): ∃xs:Array (Int×Tok),s.heap.IsTuple p (intItems xs)/\ns=xs.toList.map (·.1):=by
 obtain⟨its,rv,pl,hz⟩:=I.tuple hq
 have hi:=intsAre_of rv
 obtain⟨xs,hx⟩:=hi.allInts.items
 refine⟨xs,hx ▸ pl, ?_⟩
 rw[<-nums_intItems,<-hx]
 exact(show numsOf its.toArray.toList=ns from hi.numsOf).symm
def wB(K:Frag):List V->Hp->VK->Prop:=fun xs H Q=> ∃(p:Addr) (ns:List Int),xs=[.ref p]/\ba K H p (ns.map V.int)/\ns≠ []/\ ∀m:Int,m∈ns->(∀n∈ns,m<=n)->Q (.int m) H
def wC(K:Frag):List V->Hp->VK->Prop:=fun xs H Q=> ∃(p:Addr) (ns:List Int),xs=[.ref p]/\ba K H p (ns.map V.int)/\ns≠ []/\ ∀m:Int,m∈ns->(∀n∈ns,n<=m)->Q (.int m) H
theorem VO(hc:X.calm=true):bQ X (.builtin "min") (wB X.K):=by
 intro pins s σ H xs us Q I r h
 obtain⟨p,ns,rfl,hq,cQ,q⟩:=h
 obtain⟨u,rfl,ru⟩:=vals1 r
 cases ru
 obtain⟨xs,hl,rfl⟩:=Ir I hq
 have sz:0<xs.size:=zbj fun z=>cQ (by rw[zaY z];rfl)
 refine VN (I.ok.hd hc) hl sz fun v h' tk hv hk=> ?_
 obtain⟨t,rfl⟩:=intItems_at hv
 obtain⟨b1,b2⟩:=r9 (numAt xs) (fun i j=>decide<|numAt xs i<numAt xs j) (fun _ _=>rfl) (xs.size - 1)
 refine⟨.int _,H,I.kept (t':=tk) hk,⟨t,rfl⟩,q _ (vT (by lia)) fun n hn=> ?_⟩
 obtain⟨i,hi,rfl⟩:=vU hn
 exact b2 i (by lia)
theorem VP(hc:X.calm=true):bQ X (.builtin "max") (wC X.K):=by
 intro pins s σ H xs us Q I r h
 obtain⟨p,ns,rfl,hq,cQ,q⟩:=h
 obtain⟨u,rfl,ru⟩:=vals1 r
 cases ru
 obtain⟨xs,hl,rfl⟩:=Ir I hq
 have sz:0<xs.size:=zbj fun z=>cQ (by rw[zaY z];rfl)
 refine VM (I.ok.hd hc) hl sz fun v h' tk hv hk=> ?_
 obtain⟨t,rfl⟩:=intItems_at hv
 obtain⟨b1,b2⟩:=r9 (fun i=> - numAt xs i) (fun i j=>decide<|numAt xs i>numAt xs j) (fun i j=>decide_eq_decide.mpr (by lia)) (xs.size - 1)
 refine⟨.int _,H,I.kept (t':=tk) hk,⟨t,rfl⟩,q _ (vT (by lia)) fun n hn=> ?_⟩
 obtain⟨i,hi,rfl⟩:=vU hn
 have:=b2 i (by lia)
 lia
end
def AW:Frag->TA->TE:=fun K t=>dY (wB K) t
def AX:Frag->TA->TE:=fun K t=>dY (wC K) t
section
variable {CX:bM} {S:cg} {Γ:aX} {X:Cx} {e:Expr} {es:List Expr} {x:Str} {p pos:Pos} {r:RE} {rs:List RE}
theorem VQ(G:Good CX S Γ X)(hA:PA X (e::es) (aZ Γ (r::rs)))(h:kB S x "min"=true:=by kernel_rfl)(hn:dQ (e::es)=true:=by kernel_rfl)(hq:S.md=0:=by rfl):PE X (.Call (.Name x p) (e::es) [] pos) (aj Γ<|.xt AW (r::rs)):=by
 simp only[kB,zab,decide_eq_true_eq] at h
 obtain⟨⟨rfl,h2⟩,h3⟩:=h
 show PE X _ (dY (wB Γ.K)<|aZ Γ (r::rs))
 rw[<-G.K]
 exact lV (VO<|G.calm hq) (G.gl h2) (G.cH _ h3) boot_min hA (by decide) (by decide) (cE (bR hn).1)<|e8 _ _ es (bR hn).2
theorem VR(G:Good CX S Γ X)(hA:PA X (e::es) (aZ Γ (r::rs)))(h:kB S x "max"=true:=by kernel_rfl)(hn:dQ (e::es)=true:=by kernel_rfl)(hq:S.md=0:=by rfl):PE X (.Call (.Name x p) (e::es) [] pos) (aj Γ<|.xt AX (r::rs)):=by
 simp only[kB,zab,decide_eq_true_eq] at h
 obtain⟨⟨rfl,h2⟩,h3⟩:=h
 show PE X _ (dY (wC Γ.K)<|aZ Γ (r::rs))
 rw[<-G.K]
 exact lV (VP<|G.calm hq) (G.gl h2) (G.cH _ h3) boot_max hA (by decide) (by decide) (cE (bR hn).1)<|e8 _ _ es (bR hn).2
end
end L2
namespace L2.B
open PySem PySem.Spec PyProof.Rows
noncomputable def Iu:List RS:=
 [.ret<|.cmp .Lt (.ix (.v 0)<|.c<|.int 1)<|.ix (.v 0)<|.c<|.int 0]
def Iv:List Str:=["cursors","order","groups","begin","end","number","group"]
noncomputable def Iw:List RS:=
 [.asg 1 (.xt wA [(.comp (some 2) [] .rK [(.v 0)] none (.tup [(.call 0 [(.v 1)]),(.call 1 [(.v 1)]),(.v 0)]))]),
 .asg 2 (.lst []),
 .nA [3,4,5] .list [(.v 1)] [.ite (.and [(.cmp .Gt (.blt .len [(.v 2)]) (.c (.int 0))),(.call 2 [(.ix (.ix (.v 2) (.neg (.c (.int 1)))) (.c (.int 0))),(.ix (.ix (.v 2) (.neg (.c (.int 1)))) (.c (.int 1))),(.ix (.v 0) (.v 5))])]) [.asg 6 (.bD .pop (.v 2) []),
   .drop (.bD .append (.v 2) [(.tup [(.ix (.v 6) (.c (.int 0))),(.blt .max [(.ix (.v 6) (.c (.int 1))),(.v 4)]),(.bin .Add (.ix (.v 6) (.c (.int 2))) (.lst [(.v 5)]))])])] [.drop (.bD .append (.v 2) [(.tup [(.v 3),(.v 4),(.lst [(.v 5)])])])]],
 .ret (.v 2)]
def VS:List Str:=["begin_of","end_of","meet"]
def VT:List Str:=["sorted","enumerate","len","max"]
def Iy:List Str:=["cursors","group","first"]
noncomputable def Iz:List RS:=
 [.asg 2 (.ix (.v 0) (.blt .min [(.ix (.v 1) (.c (.int 2)))])),
 .ite (.cmp .Eq (.blt .len [(.ix (.v 1)<|.c<|.int 2)])<|.c<|.int 1) [.ret<|.v 2] [],
 .ret (.gF (.call 0 [(.v 2)]) (.tup [(.ix (.v 1) (.c (.int 1))),(.ix (.v 1) (.c (.int 0))),(.c .aA)]) (.tup [(.ix (.v 1) (.c (.int 0))),(.ix (.v 1) (.c (.int 1))),(.c .aA)]))]
def VU:List Str:=["is_backward"]
def IA:List Str:=["cursors"]
noncomputable def IB:List RS:=
 [.ret<|.comp none [("cursors",0)] .list [(.call 0 [(.v 0)])] none<|.call 1 [(.v 1),(.v 0)]]
def VV:List Str:=["gathered","as_one"]
def AY:List Str:=["paper","cursors","word","hold"]
noncomputable def AZ:List RS:=
 [.drop (.call 0 [(.bF 0 "size" (.v 0) []),(.v 1)]),
 .drop (.call 1 [(.v 2),(.v 3)]),
 .ret (.call 2 [(.comp none [("paper",0),("word",2),("hold",3)] .list [(.v 1)] none (.call 3 [(.v 1),(.v 0),(.v 2),(.v 3)]))])]
def VW:List Str:=["need_cursors","need_step","settled","step"]
def n_:List Str:=["_law_cursors_here","_law_rows_now","_law_begin","_law_end","_law_k","_law_touch","_law_low","_law_high","_law_some","_law_found","_law_first"]
noncomputable def g6:List RS:=
 [.asg 1 (.lst []),
 .nA [2,3,4] .list [(.xt wA [(.comp (some 2) [] .rK [(.v 0)] none (.tup [(.xt AW [(.sl (.v 1) none (some (.c (.int 2))))]),(.xt AX [(.sl (.v 1) none (some (.c (.int 2))))]),(.v 0)]))])] [.asg 5 (.c (.bl false)),
  .ite (.cmp .NotEq (.v 1) (.lst [])) [.nB [6,7,8] (.ix (.v 1) (.neg (.c (.int 1)))),
   .asg 5 (.or [(.cmp .Lt (.v 2) (.v 7)),(.and [(.cmp .Eq (.v 2) (.v 7)),(.or [(.cmp .Eq (.v 6) (.v 7)),(.cmp .Eq (.v 2) (.v 3))])])])] [],
  .ite (.v 5) [.set (.v 1) (.neg (.c (.int 1))) (.lst [(.v 6),(.blt .max [(.v 7),(.v 3)]),(.bin .Add (.v 8) (.lst [(.v 4)]))])] [.drop (.bD .append (.v 1) [(.lst [(.v 2),(.v 3),(.lst [(.v 4)])])])]],
 .asg 9 (.lst []),
 .nA [2,3,8] .list [(.v 1)] [.asg 10 (.ix (.v 0) (.blt .min [(.v 8)])),
  .ite (.cmp .Eq (.blt .len [(.v 8)]) (.c (.int 1))) [.drop (.bD .append (.v 9) [(.v 10)])] [.ite (.cmp .Lt (.ix (.v 10) (.c (.int 1))) (.ix (.v 10) (.c (.int 0)))) [.drop (.bD .append (.v 9) [(.tup [(.v 3),(.v 2),(.c .aA)])])] [.drop (.bD .append (.v 9) [(.tup [(.v 2),(.v 3),(.c .aA)])])]]],
 .ret (.v 9)]
def pT:List Str:=["sorted","enumerate","min","max","len"]
end L2.B
namespace L2
open PySem PySem.Spec PyProof.Rows
section
variable {prog:Program} {w:World} {A:Around} {E:Value->Shared->Prop} {s:Shared}
end
section
variable {CX:bM} {S:cg} {Γ:aX} {X:Cx} {e:Expr} {es:List Expr} {x y:Str} {p p2 pos aez:Pos} {r:RE} {rs:List RE}
end
end L2
namespace L2.oa
open PySem PySem.Spec PyProof.Rows L2.B
def a_(i:Nat):Stmt:=(PySem.Challenge.pw_inkloom_k30_all_cursors_stepped.main.body).getD i (.Pass ⟨0,0,0,0⟩)
def IC:Stmt:=a_ 18
abbrev bB(s:Stmt)(k:Nat):Stmt:=(cL s).getD k (.Pass ⟨0,0,0,0⟩)
abbrev bC(b:List RS)(k:Nat):RS:=b.getD k (.ret<|.c .aA)
abbrev MX(N:List Str)(s:Stmt)(f g l mn kn en hn:List Str)(b:List RS)(md:Nat):Prop:= ∀{CX:bM} {Γ:aX} {X:Cx},cR CX (pR N (df s) f g l mn kn en hn md) Γ X->cP X (cL s) (av Γ b)
abbrev MY(N:List Str)(s:Stmt)(f g l mn kn en hn:List Str)(b:List RS)(md k:Nat):Prop:= ∀{CX:bM} {Γ:aX} {X:Cx},cR CX (pR N (df s) f g l mn kn en hn md) Γ X->PS X (bB s k) (bh Γ<|bC b k)
theorem VX:MX g4 IC af af F1 af af af af F0 0:=fun G=>have g:=G.toGood;(ai (aK<|jQ (jR g<|aa g)<|kZ<|FU g<|jR g<|aa g) ar)
def ID:Stmt:=a_ 19
theorem VY:MX F6 ID F8 af af af af af af F7 0:=fun G=>have g:=G.toGood;(ai (aK<|jQ (aE g<|ae (aa g) ak)<|kZ<|T_ g (aa g) (aa g)<|aa g) ar)
def IE:Stmt:=a_ 20
theorem IF:MX g4 IE af af af af af af af AF 0:=fun G=>have g:=G.toGood;(ai (aK<|sk (cT g (aa g) d0)<|si<|cT g (aa g) d0) ar)
def IG:Stmt:=a_ 21
theorem VZ:MX As IG af af F2 af af af af Au 0:=fun G=>have g:=G.toGood;(ai (aK<|jQ (jR g<|aa g)<|kZ<|cT g (aa g)<|aa g) ar)
def IH:Stmt:=a_ 22
theorem V0:MX g4 IH af Uu F2 af af af af Av 0:=fun G=>have g:=G.toGood;(ai (aK<|jQ (jR g<|aa g)<|kZ<|cT g (cU g (aa g)<|ae (dR g) ak) aM) ar)
def II:Stmt:=a_ 23
theorem V1:MX g4 II Uv af af af af Uw af F3 0:=fun G=>have g:=G.toGood;(ai (bc (di<|fJ g<|aE g<|ae (aa g) ak) (ai (jd G<|ae aM ak) ar) ar) ar)
def IJ:Stmt:=a_ 25
theorem V2:MX F_ IJ af af nW af af af af Ga 0:=fun G=>have g:=G.toGood;(ai (aH G aq)<|ai (aH G<|bz g<|ae (aa g) ak)<|ai (jc G (aS g (aa g)<|aa g)<|ai (aH G<|aG g (aG g (aa g)<|aa g) aq)<|ai (bc (aS g (aF g (aa g)<|aa g)<|aa g) (ai (aH G<|aG g (aa g) aq) ar)<|ai (aH G<|aa g) ar) ar)<|ai (aK<|aa g) ar)
def IL:Stmt:=a_ 28
theorem V4:MX my IL af af Hv af af af af Hu 0:=fun G=>have g:=G.toGood;(ai (aK<|bz g<|ae (aF g (aa g) aq)<|ae (aF g (aa g) aq) ak) ar)
def IM:Stmt:=a_ 29
theorem V5:MX my IM af af Gn af af af af Hw 0:=fun G=>have g:=G.toGood;(ai (aK<|bz g<|ae (aF g (aa g) aq)<|ae (aF g (aa g) aq) ak) ar)
def IP:Stmt:=a_ 30
theorem V6:MX my IP af af af af af af af Hx 0:=fun G=>have g:=G.toGood;(ai (aK<|cT g (aF g (aa g) aq)<|aF g (aa g) aq) ar)
def IQ:Stmt:=a_ 31
theorem V7:MX my IQ af af af af af af af Iu 0:=fun G=>have g:=G.toGood;(ai (aK<|cT g (aF g (aa g) aq)<|aF g (aa g) aq) ar)
def IS:Stmt:=a_ 32
theorem IT:MX g4 IS F8 af af af af af af AG 0:=fun G=>have g:=G.toGood;(ai (aK<|sk (cT g (aa g) bX)<|si<|jQ (aE g<|ae (aa g) ak)<|kZ<|cT g (aa g) aq) ar)
def IU:Stmt:=a_ 33
theorem IV:MX AH IU Va af Hy af af af af AI 0:=fun G=>have g:=G.toGood;(ai (bc (PW.pt<|eQ (di<|v5 g<|jR g<|aa g)<|gf<|aS g (bz g<|ae (aa g) ak) aq) (ai (aK d0) ar) ar)<|ai (aK<|jQ (aE g<|ae (aF g (aa g) aq)<|ae aq<|ae (aa g) ak)<|jQ (aE g<|ae (aF g (aa g) aq)<|ae aq<|ae (aa g) ak)<|kZ<|aE g<|ae (aF g (aa g) aq) ak) ar)
def IW:Stmt:=a_ 34
theorem V8:MX Hz IW Vb af af af af af af HA 0:=fun G=>have g:=G.toGood;(ai (bc (aS g (aE g<|ae (aa g) ak)<|aa g) (ai (aK<|sk (cT g (aa g)<|aa g)<|si<|aE g<|ae (aa g) ak) ar) ar)<|ai (aK<|cT g (aE g<|ae (aa g) ak)<|aa g) ar)
def IX:Stmt:=a_ 35
theorem IY:MX AJ IX Vc Vd Ve af af Vf af AK 0:=fun G=>have g:=G.toGood;(ai (bc (PW.pt<|eQ (di<|v5 g<|jR g<|aa g)<|gf<|di<|Ug g aq (bz g<|ae (aa g) ak)<|dR g) (ai (jd G<|ae aM ak) ar) ar)<|ai (bc (di<|GZ g<|UR g<|ae (iy (ln:=["cursor"]) g (by kernel_rfl) (jb g<|aa g) ja<|fun _ g=> (aE g<|ae (aa g)<|ae (aa g) ak)) ak) (ai (jd G<|ae aM ak) ar) ar)<|ai (bc (GZ g<|U9 g<|ae (iy (ln:=["one","other"]) g (by kernel_rfl) (FW g (aa g)<|jS g (aa g) (iw aq) mi) ja<|fun _ g=> (aE g<|ae (aE g<|ae (aa g) ak)<|ae (aE g<|ae (aa g) ak)<|ae (aa g) ak)) ak) (ai (jd G<|ae aM ak) ar) ar) ar)
def IZ:Stmt:=a_ 36
theorem V9:MX Iv IZ VS af VT af af af af Iw 0:=fun G=>have g:=G.toGood;(ai (aH G<|Io g<|ae (iy (ln:=["number","cursor"]) g (by kernel_rfl) (Aj g<|aa g) ja<|fun _ g=> (bY<|ae (aE g<|ae (aa g) ak)<|ae (aE g<|ae (aa g) ak)<|ae (aa g) ak)) ak)<|ai (aH G<|bG ak)<|ai (v9 [(_,_),(_,_),(_,_)] G (jb g<|aa g)<|ai (bc (PW.pt<|k6 (aS g (bz g<|ae (aa g) ak) aq)<|mj<|fJ g<|aE g<|ae (aF g (aF g (aa g)<|i9 aq) aq)<|ae (aF g (aF g (aa g)<|i9 aq) aq)<|ae (aF g (aa g)<|aa g) ak) (ai (aH G<|vY g<|aa g)<|ai (cW<|cU g (aa g)<|ae (bY<|ae (aF g (aa g) aq)<|ae (bz g<|ae (aF g (aa g) aq)<|ae (aa g) ak)<|ae (aG g (aF g (aa g) aq)<|bG<|ae (aa g) ak) ak) ak) ar)<|ai (cW<|cU g (aa g)<|ae (bY<|ae (aa g)<|ae (aa g)<|ae (bG<|ae (aa g) ak) ak) ak) ar) ar)<|ai (aK<|aa g) ar)
def I_:Stmt:=a_ 37
theorem V_:MX Iy I_ VU af HG af af af af Iz 0:=fun G=>have g:=G.toGood;(ai (aH G<|aF g (aa g)<|bz g<|ae (aF g (aa g) aq) ak)<|ai (bc (aS g (bz g<|ae (aF g (aa g) aq) ak) aq) (ai (aK<|aa g) ar) ar)<|ai (aK<|i_ (fJ g<|aE g<|ae (aa g) ak) (bY<|ae (aF g (aa g) aq)<|ae (aF g (aa g) aq)<|ae bX ak)<|bY<|ae (aF g (aa g) aq)<|ae (aF g (aa g) aq)<|ae bX ak) ar)
def Ja:Stmt:=a_ 38
theorem Wa:MX IA Ja VV af af af af af af IB 0:=fun G=>have g:=G.toGood;(ai (aK<|iy (ln:=["group"]) g (by kernel_rfl) (jb g<|aE g<|ae (aa g) ak) ja<|fun _ g=> (aE g<|ae (aa g)<|ae (aa g) ak)) ar)
def Jb:Stmt:=a_ 44
theorem Jc:MX AL Jb Vg Vh af af af Vi af AM 0:=fun G=>have g:=G.toGood;(ai (bc (di<|fJ g<|aE g<|ae (aa g)<|ae (dR g) ak) (ai (jd G<|ae aM ak) ar) ar)<|ai (bc (di<|fJ g<|aE g<|ae (aa g) ak) (ai (jd G<|ae aM ak) ar) ar) ar)
def Jd:Stmt:=a_ 45
theorem Wb:MX HB Jd af HD Vj Vk af af af HC 0:=fun G=>have g:=G.toGood;(ai (aH G<|dR g)<|ai (jc G (aS g (aa g) aq)<|ai (aH G<|bz g<|ae aq<|ae (aG g (aa g)<|aa g) ak)<|ai (aH G<|U_ g (eI g (aa g)<|ae (aa g)<|ae (aa g) ak)<|ae (aa g) ak)<|ai (bc (aS g (aa g) aM) (ai (aK<|aG g (aa g)<|bz g<|ae (aa g) ak) ar) ar)<|ai (aH G<|aa g)<|ai (aH G<|aG g aq<|aa g) ar)<|ai (aK<|aa g) ar)
def Je:Stmt:=a_ 46
theorem Wc:MX HE Je af HD HG Vl af af af HF 0:=fun G=>have g:=G.toGood;(ai (aH G<|dR g)<|ai (jc G (aS g (aa g)<|fI g<|aa g)<|ai (aH G<|bz g<|ae (fI g<|aa g)<|ae (aG g (aa g)<|aa g) ak)<|ai (aH G<|cU g (eI g (aa g)<|ae (aa g)<|ae (aa g) ak)<|ae (aa g) ak)<|ai (bc (aS g (aa g) aM) (ai (aK<|aG g (aa g)<|bz g<|ae (aa g) ak) ar) ar)<|ai (aH G<|aa g)<|ai (aH G<|aG g aq<|aa g) ar)<|ai (aK<|aa g) ar)
def Jf:Stmt:=a_ 47
theorem We:MX HH Jf af af af Vm af af af HI 0:=fun G=>have g:=G.toGood;(ai (aH G<|eI g (aa g)<|ae (aa g) ak)<|ai (aH G<|aG g (aa g)<|aF g (aa g) aq)<|ai (aK<|i_ (aS g (aa g) aM) (aa g)<|aG g (aa g)<|eI g (aa g)<|ae (aF g (aa g) aq) ak) ar)
def Jg:Stmt:=a_ 48
theorem Wf:MX HJ Jg Vn Vo Vp fK af af af HK 0:=fun G=>have g:=G.toGood;(ai (bc (aS g (aa g) aM) (ai (aK<|bz g<|ae aq<|ae (aG g (aa g) aq) ak) ar) ar)<|ai (bc (aS g (aa g) aM) (ai (aK<|bz g<|ae (fI g<|aa g)<|ae (aG g (aa g) aq) ak) ar) ar)<|ai (bc (aS g (aa g) aM) (ai (aK aq) ar) ar)<|ai (bc (aS g (aa g) aM) (ai (aK<|fI g<|aa g) ar) ar)<|ai (bc (aS g (aa g) aM) (ai (aK<|aE g<|ae (aa g)<|ae (aE g<|ae (aa g)<|ae (aa g)<|ae (dR g) ak)<|ae (dR g) ak) ar) ar)<|ai (bc (aS g (aa g) aM) (ai (aK<|aE g<|ae (aa g)<|ae (aE g<|ae (aa g)<|ae (aa g)<|ae (dR g) ak)<|ae (dR g) ak) ar) ar)<|ai (aK<|aE g<|ae (aa g)<|ae (aa g)<|ae (aa g) ak) ar)
def Jh:Stmt:=a_ 49
theorem Wg:MX HL Jh af af Hv Vq af af af nY 0:=fun G=>have g:=G.toGood;(ai (aH G<|i_ (aS g (aa g) aM) (aG g (aa g) aq)<|aG g (aa g) aq)<|ai (bc (aS g (aa g) aq) (ai (aK aq) ar) ar)<|ai (bc (aS g (aa g)<|fI g<|aa g) (ai (aK<|fI g<|aa g) ar) ar)<|ai (aK<|eI g (aa g)<|ae (aa g)<|ae (bz g<|ae (aa g)<|ae (eI g (aa g)<|ae (aa g) ak) ak) ak) ar)
def Ji:Stmt:=a_ 50
theorem Wh:MX HM Ji af af af af af af af HN 0:=fun G=>have g:=G.toGood;(ai (aK<|bY<|ae (i_ (so g<|aa g) (aF g (aa g) aq)<|aa g)<|ae (aa g)<|ae (aa g) ak) ar)
def Jj:Stmt:=a_ 51
theorem Wi:MX HP Jj Vr af af Vs af af af wq 0:=fun G=>have g:=G.toGood;(ai (bc (aS g (aa g)<|bY<|ae aM<|ae aM ak) (ai (aH G<|eI g (aa g)<|ae (aF g (aa g) aq) ak)<|ai (aH G<|i_ (aS g (aF g (aa g) aq) bX) (aF g (aa g) aq)<|aF g (aa g) aq)<|ai (aK<|aE g<|ae (aa g)<|ae (aE g<|ae (aa g)<|ae (aF g (aa g) aq)<|ae (aa g)<|ae (aa g) ak)<|ae (aa g)<|ae (aa g) ak) ar) ar)<|ai (bc (PW.pt<|k6 (aS g (aa g)<|bY<|ae aM<|ae aM ak)<|k6 (di<|so g<|aa g)<|mj<|di<|fJ g<|aE g<|ae (aa g) ak) (ai (aK<|aE g<|ae (aa g)<|ae (i_ (aS g (aa g) aM) (aE g<|ae (aa g) ak)<|aE g<|ae (aa g) ak)<|ae bX<|ae (aa g) ak) ar) ar)<|ai (aK<|aE g<|ae (aa g)<|ae (aE g<|ae (aa g)<|ae (aF g (aa g) aq)<|ae (aa g) ak)<|ae bX<|ae (aa g) ak) ar)
def Jk:Stmt:=a_ 52
theorem Wj:MX HQ Jk Vt af af fK af af af HR 0:=fun G=>have g:=G.toGood;(ai (cW<|aE g<|ae (fI g<|aa g)<|ae (bG<|ae (aa g) ak) ak)<|ai (cW<|aE g<|ae (aa g)<|ae (aa g) ak)<|ai (aK<|aE g<|ae (aa g)<|ae (aa g)<|ae (aa g)<|ae (aa g) ak) ar)
def Jl:Stmt:=a_ 53
theorem Jm:MX AY Jl VW af af fK af af af AZ 0:=fun G=>have g:=G.toGood;(ai (cW<|aE g<|ae (fI g<|aa g)<|ae (aa g) ak)<|ai (cW<|aE g<|ae (aa g)<|ae (aa g) ak)<|ai (aK<|aE g<|ae (iy (ln:=["cursor"]) g (by kernel_rfl) (jb g<|aa g) ja<|fun _ g=> (aE g<|ae (aa g)<|ae (aa g)<|ae (aa g)<|ae (aa g) ak)) ak) ar)
def Jo:Stmt:=a_ 55
theorem Wk:MX pS Jo af af af af af af af Gh 0:=fun G=>have g:=G.toGood;(ai (aK<|i_ (aS g (aa g) bX) aq<|aF g (aa g) aq) ar)
def Jp:Stmt:=a_ 56
theorem Wl:MX pS Jp af af af af af af af Gi 0:=fun G=>have g:=G.toGood;(ai (aK<|i_ (aS g (aa g) bX) aq<|aF g (aa g) aq) ar)
def Jq:Stmt:=a_ 57
theorem Wm:MX pS Jq af af af af af af af Gj 0:=fun G=>have g:=G.toGood;(ai (aK<|i_ (aS g (aa g) bX) aq<|aF g (aa g) aq) ar)
def Jr:Stmt:=a_ 58
theorem Wn:MX Gk Jr Uz af Gn af af af af Gm 0:=fun G=>have g:=G.toGood;(ai (aH G<|aG g aq<|bz g<|ae (aE g<|ae (aa g) ak)<|ae (aE g<|ae (aa g) ak) ak)<|ai (aH G<|aG g (aG g (aE g<|ae (aa g) ak)<|aF g (aa g) aq)<|aE g<|ae (aa g) ak)<|ai (aK<|bY<|ae (aa g)<|ae (aa g)<|ae (aa g)<|ae (aa g)<|ae (aa g)<|ae (aG g (aG g (aE g<|ae (aa g) ak)<|aF g (aa g) aq)<|aE g<|ae (aa g) ak) ak) ar)
def Js:Stmt:=a_ 59
theorem Wo:MX we Js Gq af af af af af af Gp 0:=fun G=>have g:=G.toGood;(ai (aH G<|aF g (aa g) aq)<|ai (bc (aS g (aE g<|ae (aF g (aa g) aq) ak)<|aE g<|ae (aa g) ak) (ai (aK<|aE g<|ae (aF g (aa g) aq)<|ae (aF g (aa g) aq)<|ae (aE g<|ae (aa g)<|ae (aa g)<|ae (aa g) ak) ak) ar) ar)<|ai (aK<|aE g<|ae (aE g<|ae (aF g (aa g) aq)<|ae (aF g (aa g) aq)<|ae (aF g (aa g) aq) ak)<|ae (aF g (aa g) aq)<|ae (aE g<|ae (aF g (aa g) aq)<|ae (aa g)<|ae (aa g) ak) ak) ar)
def Jt:Stmt:=a_ 60
theorem Wq:MX we Jt Gq af af af af af af Gs 0:=fun G=>have g:=G.toGood;(ai (aH G<|aF g (aa g) aq)<|ai (bc (aS g (aE g<|ae (aF g (aa g) aq) ak)<|aE g<|ae (aa g) ak) (ai (aK<|aE g<|ae (aE g<|ae (aa g)<|ae (aa g)<|ae (aa g) ak)<|ae (aF g (aa g) aq)<|ae (aF g (aa g) aq) ak) ar) ar)<|ai (aK<|aE g<|ae (aE g<|ae (aa g)<|ae (aa g)<|ae (aF g (aa g) aq) ak)<|ae (aF g (aa g) aq)<|ae (aE g<|ae (aF g (aa g) aq)<|ae (aF g (aa g) aq)<|ae (aF g (aa g) aq) ak) ak) ar)
def Ju:Stmt:=a_ 61
theorem Wr:MX sy Ju UA af af af af af af Gu 0:=fun G=>have g:=G.toGood;(ai (bc (aS g (aE g<|ae (aa g) ak)<|aG g (aE g<|ae (aa g) ak) aq) (ai (aK<|aE g<|ae (aa g)<|ae (aa g)<|ae (aa g) ak) ar) ar)<|ai (bc (aS g (aE g<|ae (aa g) ak)<|aG g (aE g<|ae (aa g) ak) aq) (ai (aK<|aE g<|ae (aa g)<|ae (aa g)<|ae (aa g) ak) ar) ar)<|ai (aK<|aE g<|ae (aa g)<|ae (aa g)<|ae (aa g) ak) ar)
def Jv:Stmt:=a_ 62
theorem Ws:MX sy Jv UB af af af af af af Gv 0:=fun G=>have g:=G.toGood;(ai (bc (aS g (aE g<|ae (aa g) ak)<|aG g (aE g<|ae (aa g) ak) aq) (ai (aK<|aE g<|ae (aF g (aa g) aq)<|ae (aF g (aa g) aq)<|ae (aE g<|ae (aF g (aa g) aq)<|ae (aa g)<|ae (aa g) ak) ak) ar) ar)<|ai (bc (aS g (aE g<|ae (aa g) ak)<|aG g (aE g<|ae (aa g) ak) aq) (ai (aK<|aE g<|ae (aE g<|ae (aa g)<|ae (aa g)<|ae (aF g (aa g) aq) ak)<|ae (aF g (aa g) aq)<|ae (aF g (aa g) aq) ak) ar) ar)<|ai (aK<|aE g<|ae (aa g)<|ae (aa g)<|ae (aa g) ak) ar)
def Jw:Stmt:=a_ 63
theorem Wt:MX Gw Jw af af af Gy af af af Gx 0:=fun G=>have g:=G.toGood;(ai (aH G<|aG g (aF g (aa g) aq)<|aa g)<|ai (aH G<|aG g (eI g (aa g)<|ae (aa g) ak)<|eI g (aa g)<|ae (aF g (aa g) aq) ak)<|ai (aK<|bY<|ae (bY<|ae (aF g (aa g) aq)<|ae (aa g)<|ae (aa g) ak)<|ae (bY<|ae (aa g)<|ae (aG g (aF g (aa g) aq)<|aa g)<|ae (aG g (aF g (aa g) aq)<|aa g) ak) ak) ar)
def Jx:Stmt:=a_ 64
theorem Wu:MX Ay Jx UC af af af af af af Gz 0:=fun G=>have g:=G.toGood;(ai (bc (aS g (aa g) bX) (ai (aK<|bY<|ae bX<|ae bX ak) ar) ar)<|ai (aH G<|aF g (aa g) aq)<|ai (aH G<|aE g<|ae (aF g (aa g) aq) ak)<|ai (aH G<|aG g (aa g)<|aF g (aa g) aq)<|ai (bc (aS g (aa g)<|aa g) (ai (aH G<|aE g<|ae (aF g (aa g) aq)<|ae (aa g)<|ae (aa g) ak)<|ai (aK<|bY<|ae (aF g (aa g) aq)<|ae (aE g<|ae (aF g (aa g) aq)<|ae (aa g)<|ae (aF g (aa g) aq) ak) ak) ar) ar)<|ai (bc (aS g (aa g)<|aa g) (ai (aH G<|aE g<|ae (aF g (aa g) aq)<|ae (aG g (aa g)<|aa g)<|ae (aa g) ak)<|ai (aK<|bY<|ae (aE g<|ae (aF g (aa g) aq)<|ae (aa g)<|ae (aF g (aa g) aq) ak)<|ae (aF g (aa g) aq) ak) ar) ar)<|ai (aH G<|aE g<|ae (aa g)<|ae (aG g (aa g)<|aa g)<|ae (aa g) ak)<|ai (aK<|bY<|ae (aE g<|ae (aF g (aa g) aq)<|ae (aF g (aa g) aq)<|ae bX ak)<|ae (aE g<|ae bX<|ae (aF g (aa g) aq)<|ae (aF g (aa g) aq) ak) ak) ar)
def Jy:Stmt:=a_ 65
theorem Wv:MX Az Jy GB af af af af af af GA 0:=fun G=>have g:=G.toGood;(ai (bc (aS g (aa g) bX) (ai (aK<|bG ak) ar) ar)<|ai (aH G<|aE g<|ae (aF g (aa g) aq) ak)<|ai (cW<|cU g (aa g)<|ae (aF g (aa g) aq) ak)<|ai (cW<|cU g (aa g)<|ae (aE g<|ae (aF g (aa g) aq) ak) ak)<|ai (aK<|aa g) ar)
def Jz:Stmt:=a_ 66
theorem Ww:MX G3 Jz UT af af Gy af af af G4 0:=fun G=>have g:=G.toGood;(ai (aH G aq)<|ai (jc G (aS g (aa g) bX)<|ai (aH G<|aF g (aa g) aq)<|ai (aH G<|aE g<|ae (aF g (aa g) aq) ak)<|ai (aH G<|aG g (aa g)<|aF g (aa g) aq)<|ai (bc (aS g (aa g)<|aa g) (ai (aH G<|aF g (aa g) aq) ar)<|ai (bc (aS g (aa g)<|aa g) (ai (aH G<|aG g (eI g (aa g)<|ae (aG g (aG g (aF g (aa g) aq)<|aa g)<|aa g) ak)<|eI g (aa g)<|ae (aF g (aa g) aq) ak)<|ai (aK<|aG g (aG g (aa g)<|aE g<|ae (aF g (aa g) aq) ak)<|aa g) ar)<|ai (aH G<|aG g (aG g (aa g)<|aE g<|ae (aF g (aa g) aq) ak)<|aF g (aa g) aq)<|ai (aH G<|aG g (aa g)<|aa g)<|ai (aH G<|aF g (aa g) aq) ar) ar) ar)<|ai (aK<|aa g) ar)
def JA:Stmt:=a_ 67
theorem Wx:MX G5 JA UU af af UW af af af G6 0:=fun G=>have g:=G.toGood;(ai (aH G aq)<|ai (jc G (PW.pt<|eQ (aS g (aa g)<|aE g<|ae (aF g (aa g) aq) ak)<|gf<|aS g (aa g)<|aG g (aE g<|ae (aF g (aa g) aq) ak)<|aF g (aF g (aa g) aq) aq)<|ai (bc (aS g (aa g)<|aE g<|ae (aF g (aa g) aq) ak) (ai (aH G<|aF g (aa g) aq) ar)<|ai (aH G<|aG g (aG g (aa g)<|aE g<|ae (aF g (aa g) aq) ak)<|aF g (aF g (aa g) aq) aq)<|ai (aH G<|aG g (aG g (aa g)<|aE g<|ae (aF g (aa g) aq) ak)<|aF g (aF g (aa g) aq) aq)<|ai (aH G<|aF g (aa g) aq) ar) ar)<|ai (aH G<|aF g (aF g (aa g) aq) aq)<|ai (aH G<|eI g (aa g)<|ae (aG g (aG g (eI g (aa g)<|ae (aa g) ak)<|aa g)<|aE g<|ae (aF g (aa g) aq) ak) ak)<|ai (aK<|aG g (aG g (aG g (aa g)<|aE g<|ae (aF g (aa g) aq) ak)<|aa g)<|aa g) ar)
def JB:Stmt:=inClass (a_ 69) 0
theorem Wy:MX mr JB af af af af af af af Gb 0:=fun G=>have g:=G.toGood;(ai (nK G (aa g)<|bG ak)<|ai (nK G (aa g)<|bG ak)<|ai (nK G (aa g)<|bG ak)<|ai (nK G (aa g) aq) ar)
def JC:Stmt:=inClass (a_ 69) 1
theorem Wz:MX Ax JC Ux af nW af af af af Ge 0:=fun G=>have g:=G.toGood;(ai (cW<|aE g<|ae (aa g) ak)<|ai (aH G<|dh g<|aa g)<|ai (cW<|cU g (dh g<|aa g)<|ae (aa g) ak)<|ai (cW<|cU g (dh g<|aa g)<|ae (aa g) ak)<|ai (nK G (aa g)<|aG g (aa g)<|bz g<|ae (aa g) ak)<|ai (aH G<|cU g (aa g)<|ae aM ak)<|ai (jc G (aS g (aa g) aq)<|ai (cW<|cU g (dh g<|aa g)<|ae (aG g (aa g)<|aa g) ak)<|ai (aH G<|cU g (aa g)<|ae aM<|ae (aG g (aa g) aq) ak) ar)<|ai (aK<|aa g) ar)
def JD:Stmt:=inClass (a_ 69) 2
theorem WA:MX Gf JD Uy af nW af af sv af Gg 0:=fun G=>have g:=G.toGood;(ai (bc (PW.pt<|eQ (di<|fJ g<|aE g<|ae (aa g)<|ae aq<|ae (dh g<|aa g) ak)<|gf<|di<|fJ g<|aE g<|ae (aa g)<|ae aq<|ae (aG g (dh g<|aa g)<|aa g) ak) (ai (jd G<|ae aM ak) ar) ar)<|ai (aH G<|bG ak)<|ai (aH G<|aG g (aE g<|ae (dh g<|aa g)<|ae (aa g) ak) aq)<|ai (aH G<|aG g (aa g)<|aa g)<|ai (jc G (aS g (aa g)<|aa g)<|ai (aH G<|aG g (aa g)<|aF g (dh g<|aa g)<|aa g)<|ai (aH G<|jS g (aF g (dh g<|aa g)<|aa g) (iw<|aa g)<|iw<|aG g (aG g (aa g)<|aa g)<|aa g)<|ai (cW<|cU g (aa g)<|ae (aa g) ak)<|ai (aH G<|aG g (aa g)<|bz g<|ae (aa g) ak)<|ai (aH G<|aG g (aa g) aq) ar)<|ai (aK<|cU g aM<|ae (aa g) ak) ar)
def JE:Stmt:=inClass (a_ 69) 4
theorem WB:MX GC JE UD af af af af af af GD 0:=fun G=>have g:=G.toGood;(ai (aK<|aE g<|ae (dh g<|aa g)<|ae (aG g (aa g) aq) ak) ar)
def JF:Stmt:=inClass (a_ 69) 5
theorem WC:MX G7 JF af af af af af af af G8 0:=fun G=>have g:=G.toGood;(ai (aK<|aF g (dh g<|aa g)<|aa g) ar)
def JG:Stmt:=a_ 71
theorem WD:MX GF JG UE af nW UG af af af GG 0:=fun G=>have g:=G.toGood;(ai (bc (aS g (aa g) aM) (ai (aK bX) ar) ar)<|ai (aK<|aE g<|ae bX<|ae (bY<|ae (eI g (aa g)<|ae (aa g) ak)<|ae (bz g<|ae (aa g) ak)<|ae (cU g (aa g)<|ae aM ak) ak)<|ae bX ak) ar)
def JH:Stmt:=a_ 72
theorem WE:MX GH JH UH af af af UI af af GJ 0:=fun G=>have g:=G.toGood;(ai (cW<|aE g<|ae (aa g) ak)<|ai (aH G<|Ua g)<|ai (aK<|Ub g<|ae (aa g)<|ae (aE g<|ae (aa g)<|ae (aa g) ak) ak) ar)
def JI:Stmt:=a_ 73
theorem WG:MX GK JI GB af af UJ af af af GN 0:=fun G=>have g:=G.toGood;(ai (aK<|iy (ln:=["piece"]) g (by kernel_rfl) (jb g<|aE g<|ae (aa g) ak) ja<|fun _ g=> (eI g (aa g)<|ae (aF g (aa g) aq)<|ae (aF g (aa g) aq) ak)) ar)
def JJ:Stmt:=inClass (a_ 74) 0
theorem WH:MX GO JJ af af af af af af af GP 0:=fun G=>have g:=G.toGood;(ai (nK G (aa g)<|aa g)<|ai (nK G (aa g)<|aa g) ar)
def JK:Stmt:=inClass (a_ 74) 1
theorem WI:MX mr JK UK af af af af af af GQ 0:=fun G=>have g:=G.toGood;(ai (aK<|aE g<|ae (dh g<|aa g) ak) ar)
def JL:Stmt:=inClass (a_ 74) 2
theorem WJ:MX mr JL UL af af af af af af GS 0:=fun G=>have g:=G.toGood;(ai (aK<|aG g (aE g<|ae (dh g<|aa g) ak) aq) ar)
def JM:Stmt:=inClass (a_ 74) 3
theorem WK:MX mr JM UM af af af af af af GU 0:=fun G=>have g:=G.toGood;(ai (aK<|cU g aM<|ae (aE g<|ae (dh g<|aa g)<|ae (dh g<|aa g) ak) ak) ar)
def JN:Stmt:=inClass (a_ 74) 6
theorem WL:MX GV JN UN af af fK af sv af GW 0:=fun G=>have g:=G.toGood;(ai (bc (PW.pt<|eQ (di<|fJ g<|aE g<|ae (aa g)<|ae aq<|ae (fI g<|aa g) ak)<|gf<|di<|fJ g<|aE g<|ae (aa g)<|ae (aa g)<|ae (fI g<|aa g) ak) (ai (jd G<|ae aM ak) ar) ar)<|ai (aH G<|aF g (aE g<|ae (dh g<|aa g)<|ae (aa g)<|ae (dh g<|aa g) ak) aq)<|ai (aK<|cU g aM<|ae (aE g<|ae (dh g<|aa g)<|ae (aF g (aE g<|ae (aa g)<|ae (aa g)<|ae (dh g<|aa g) ak) aq) ak) ak) ar)
def JO:Stmt:=inClass (a_ 74) 8
theorem WM:MX G9 JO UX af af af af af af G_ 0:=fun G=>have g:=G.toGood;(ai (aK<|i_ (aS g (aa g) aq) aq<|aG g (aE g<|ae (dh g<|aa g)<|ae (aG g (aa g) aq)<|ae (dh g<|aa g) ak) aq) ar)
def JP:Stmt:=inClass (a_ 74) 9
theorem WN:MX Hl JP UY af af UZ af sv af Hm 0:=fun G=>have g:=G.toGood;(ai (bc (di<|fJ g<|aE g<|ae (aa g)<|ae aq<|ae (aG g (fI g<|aa g) aq) ak) (ai (jd G<|ae aM ak) ar) ar)<|ai (aH G<|cT g (aa g)<|aG g (fI g<|aa g) aq)<|ai (aH G<|i_ (so g<|aa g) (fI g<|aa g)<|aE g<|ae (dh g<|aa g)<|ae (aa g)<|ae (dh g<|aa g) ak)<|ai (aK<|aG g (aa g)<|eI g (aa g)<|ae (aa g) ak) ar)
def JQ:Stmt:=inClass (a_ 74) 10
theorem WO:MX Hn JQ U0 af af U1 af sv af Ho 0:=fun G=>have g:=G.toGood;(ai (bc (di<|fJ g<|aE g<|ae (aa g)<|ae aq<|ae (fI g<|aa g) ak) (ai (jd G<|ae aM ak) ar) ar)<|ai (aH G<|aE g<|ae (dh g<|aa g)<|ae (aa g)<|ae (dh g<|aa g) ak)<|ai (aK<|bY<|ae (aa g)<|ae (aG g (aa g)<|eI g (aa g)<|ae (aa g) ak) ak) ar)
def JR:Stmt:=inClass (a_ 74) 11
theorem WQ:MX Hq JR U3 af af U4 af sv af Hr 0:=fun G=>have g:=G.toGood;(ai (bc (di<|fJ g<|aE g<|ae (aa g)<|ae aq<|ae (eI g (aa g)<|ae (aa g) ak) ak) (ai (jd G<|ae aM ak) ar) ar)<|ai (aK<|aG g (eI g (aa g)<|ae (aa g) ak)<|aa g) ar)
def JS:Stmt:=a_ 76
theorem WR:MX F4 JS af af nW af af af af F5 0:=fun G=>have g:=G.toGood;(ai (bc (aS g (aa g)<|bz g<|ae (aa g) ak) (ai (aK<|aF g (aa g)<|aa g) ar) ar)<|ai (aK aq) ar)
def Aw:List Str:=["_law_found"]
def JT:Stmt:=a_ 77
theorem WT:MX Aw JT af af F1 af af af af F9 0:=fun G=>have g:=G.toGood;(ai (aK<|jQ (jR g<|aa g)<|kZ<|FU g<|jR g<|aa g) ar)
def JU:Stmt:=a_ 78
theorem WU:MX G0 JU af af af af af af af G1 0:=fun G=>have g:=G.toGood;(ai (aH G<|aG g (aG g (aG g (aG g (aa g) aq)<|aG g aq<|aa g) aq) aq)<|ai (aK<|aG g (aG g (aG g (aG g (aa g)<|aa g) aq)<|aa g) aq) ar)
def JV:Stmt:=a_ 80
theorem WV:MX HS JV af af nW af af af af HU 0:=fun G=>have g:=G.toGood;(ai (aH G<|Ht g (jS g (aa g) mi<|iw<|aa g)<|ae aM ak)<|ai (aK<|bY<|ae (aG g (bz g<|ae (aa g) ak) aq)<|ae (bz g<|ae (aF g (aa g)<|i9 aq) ak) ak) ar)
def JW:Stmt:=a_ 81
theorem WW:MX HV JW af af Vu af af af af HW 0:=fun G=>have g:=G.toGood;(ai (aH G<|Ht g (aa g)<|ae aM ak)<|ai (aK<|aG g (bz g<|ae (iy (ln:=["_law_row"]) g (by kernel_rfl) (jb g<|jS g (aa g) mi<|iw<|aa g) ja<|fun _ g=> (aG g (bz g<|ae (aa g) ak) aq)) ak)<|bz g<|ae (aa g)<|ae (bz g<|ae (aF g (aa g)<|aa g) ak) ak) ar)
def AN:List Str:=["_law_text","_law_place","_law_word_here","_law_some","_law_marks"]
def JX:Stmt:=a_ 82
theorem WX:MX AN JX af af nW af af af af HX 0:=fun G=>have g:=G.toGood;(ai (aH G aM)<|ai (FY (ln:=["_law_sign"]) G (by kernel_rfl) (by kernel_rfl) (by kernel_rfl) (US<|aa g) ja<|fun _ g=> (cT g (aa g)<|aa g))<|ai (bc (aS g (aa g) aM) (ai (jc G (PW.pt<|k6 (aS g (aa g)<|bz g<|ae (aa g) ak)<|mj<|di<|v7 g<|aF g (aa g)<|aa g)<|ai (aH G<|aG g (aa g) aq) ar)<|ai (jc G (PW.pt<|k6 (aS g (aa g)<|bz g<|ae (aa g) ak)<|mj<|v7 g<|aF g (aa g)<|aa g)<|ai (aH G<|aG g (aa g) aq) ar)<|ai (aK<|aa g) ar) ar)<|ai (jc G (PW.pt<|k6 (aS g (aa g) aq)<|mj<|di<|v7 g<|aF g (aa g)<|aG g (aa g) aq)<|ai (aH G<|aG g (aa g) aq) ar)<|ai (jc G (PW.pt<|k6 (aS g (aa g) aq)<|mj<|v7 g<|aF g (aa g)<|aG g (aa g) aq)<|ai (aH G<|aG g (aa g) aq) ar)<|ai (aK<|aa g) ar)
def gH:List Str:=["_law_text","_law_cursor_here","_law_word_here","_law_hold","_law_anchor","_law_head","_law_goal","_law_line","_law_column","_law_other"]
def dj:Stmt:=a_ 83
theorem WY:MY gH dj iz af iA af af af af cz 0 0:=fun G=>have g:=G.toGood;(Am [(_,_),(_,_),(_,_)] G<|aa g)
theorem WZ:MY gH dj iz af iA af af af af cz 0 1:=fun G=>have g:=G.toGood;(Am [(_,_),(_,_)] G<|aE g<|ae (aa g)<|ae (aa g) ak)
theorem W0:MY gH dj iz af iA af af af af cz 0 2:=fun G=>have g:=G.toGood;(bc (PW.pt<|eQ (aS g (aa g) aM)<|gf<|aS g (aa g) aM) (ai (aK<|aF g (bG<|ae aq<|ae (bz g<|ae (aa g) ak) ak)<|bz g<|ae (cT g (aa g) aM) ak) ar) ar)
theorem W2:MY gH dj iz af iA af af af af cz 0 3:=fun G=>have g:=G.toGood;(bc (PW.pt<|eQ (aS g (aa g) aM)<|gf<|aS g (aa g) aM) (ai (aK<|aE g<|ae (aa g)<|ae (aa g)<|ae (aF g (bG<|ae aq<|ae (bz g<|ae (aa g) ak) ak)<|bz g<|ae (cT g (aa g) aM) ak) ak) ar) ar)
theorem W3:MY gH dj iz af iA af af af af cz 0 4:=fun G=>have g:=G.toGood;(bc (PW.pt<|eQ (aS g (aa g) aM)<|gf<|aS g (aa g) aM) (ai (aK<|aE g<|ae (aa g)<|ae (aa g)<|ae (aa g) ak) ar) ar)
theorem W4:MY gH dj iz af iA af af af af cz 0 5:=fun G=>have g:=G.toGood;(bc (PW.pt<|eQ (aS g (aa g) aM)<|gf<|aS g (aa g) aM) (ai (bc (PW.pt<|k6 (aS g (aa g)<|aa g)<|mj<|di<|so g<|aa g) (ai (aK<|aF g (bG<|ae (bz g<|ae (aa g)<|ae (aa g) ak)<|ae (bz g<|ae (aa g)<|ae (aa g) ak) ak)<|bz g<|ae (cT g (aa g) aM) ak) ar) ar)<|ai (aK<|bz g<|ae aq<|ae (bz g<|ae (bz g<|ae (aa g) ak)<|ae (aG g (aa g)<|aF g (bG<|ae (i9 aq)<|ae aq ak)<|bz g<|ae (cT g (aa g) aM) ak) ak) ak) ar) ar)
theorem W5:MY gH dj iz af iA af af af af cz 0 6:=fun G=>have g:=G.toGood;(bc (aS g (aa g) bX) (ai (aH G<|aa g) ar) ar)
theorem W6:MY gH dj iz af iA af af af af cz 0 7:=by
 intro CX Γ X G
 have g:=G.toGood
 show PS X (.Assign [.Name "_law_other" _] _ _) (bh Γ<|.asg 9 _)
 with_reducible exact(aH G<|aG g (aa g)<|aF g (bG<|ae (i9 aq)<|ae aq ak)<|bz g<|ae (cT g (aa g) aM) ak)
theorem W7:MY gH dj iz af iA af af af af cz 0 8:=fun G=>have g:=G.toGood;(bc (aS g (aa g) aq) (ai (aK aq) ar) ar)
theorem W8:MY gH dj iz af iA af af af af cz 0 9:=fun G=>have g:=G.toGood;(bc (aS g (aa g)<|cU g (aa g)<|ae aM ak) (ai (aK<|bz g<|ae (aa g) ak) ar) ar)
theorem W9:MY gH dj iz af iA af af af af cz 0 10:=by
 intro CX Γ X G
 have g:=G.toGood
 show PS X (.Return (some _) _) (bh Γ<|.ret _)
 with_reducible exact(aK<|aE g<|ae (aa g)<|ae (aa g)<|ae (aa g) ak)
theorem W_:MX gH dj iz af iA af af af af cz 0:=by
 intro CX Γ X G
 have e:cL dj=[bB dj 0,bB dj 1,bB dj 2,bB dj 3,bB dj 4,bB dj 5,bB dj 6,bB dj 7,bB dj 8,bB dj 9,bB dj 10]:=by kernel_rfl
 have e2:cz=[bC cz 0,bC cz 1,bC cz 2,bC cz 3,bC cz 4,bC cz 5,bC cz 6,bC cz 7,bC cz 8,bC cz 9,bC cz 10]:=by kernel_rfl
 rw[e,e2]
 with_reducible exact ai (WY G) (ai (WZ G)<|ai (W0 G)<|ai (W2 G)<|ai (W3 G)<|ai (W4 G)<|ai (W5 G)<|ai (W6 G)<|ai (W7 G)<|ai (W8 G)<|ai (W9 G)<|ar)
def nZ:List Str:=["_law_text","_law_cursor_here","_law_word_here","_law_hold","_law_place","_law_goal"]
def jh:Stmt:=a_ 84
theorem Xa:MY nZ jh sD af sE af af af af iB 0 0:=by
 intro CX Γ X G
 have g:=G.toGood
 show PS X (.Assign [.Name "_law_place" _] _ _) (bh Γ<|.asg 4 _)
 with_reducible exact(aH G<|aE g<|ae (aa g)<|ae (aa g)<|ae (aa g)<|ae (aa g) ak)
theorem Xb:MY nZ jh sD af sE af af af af iB 0 1:=by
 intro CX Γ X G
 have g:=G.toGood
 show PS X (.Assign [.Name "_law_goal" _] _ _) (bh Γ<|.asg 5 _)
 with_reducible exact(aH G bX)
theorem Xd:MY nZ jh sD af sE af af af af iB 0 2:=fun G=>have g:=G.toGood;(bc (PW.pt<|eQ (aS g (aa g) aM)<|gf<|aS g (aa g) aM) (ai (aH G<|aF g (aa g) aq)<|ai (bc (aS g (aa g) bX) (ai (aH G<|aF g (aE g<|ae (aa g)<|ae (aF g (aa g) aq) ak) aq) ar) ar) ar) ar)
theorem Xe:MY nZ jh sD af sE af af af af iB 0 3:=by
 intro CX Γ X G
 have g:=G.toGood
 show PS X (.Return (some _) _) (bh Γ<|.ret _)
 with_reducible exact(aK<|bY<|ae (aF g (bG<|ae (aa g)<|ae (aF g (aa g) aq) ak)<|bz g<|ae (aa g) ak)<|ae (aa g)<|ae (aa g) ak)
theorem Xf:MX nZ jh sD af sE af af af af iB 0:=by
 intro CX Γ X G
 have e:cL jh=[bB jh 0,bB jh 1,bB jh 2,bB jh 3]:=by kernel_rfl
 have e2:iB=[bC iB 0,bC iB 1,bC iB 2,bC iB 3]:=by kernel_rfl
 rw[e,e2]
 with_reducible exact ai (Xa G) (ai (Xb G)<|ai (Xd G)<|ai (Xe G)<|ar)
def JY:Stmt:=a_ 85
theorem Xg:MX HY JY Vv af Hy af af af af HZ 0:=fun G=>have g:=G.toGood;(ai (bc (PW.pt<|eQ (di<|v5 g<|jR g<|aa g)<|eQ (aS g (bz g<|ae (aa g) ak) aq)<|gf<|aS g (aa g)<|aa g) (ai (aK d0) ar) ar)<|ai (aK<|cT g (iy (ln:=["_law_one"]) g (by kernel_rfl) (Uh g<|aa g) (Ah fun _ g=> (PW.pt<|k6 (aS g (aa g) bX)<|mj<|di<|fJ g<|aE g<|ae (aa g) ak))<|fun _ g=> (aa g))<|bG ak) ar)
def g7:Stmt:=a_ 86
theorem Xh:MY n_ g7 af af pT af af af af g6 0 0:=by
 intro CX Γ X G
 have g:=G.toGood
 show PS X (.Assign [.Name "_law_rows_now" _] _ _) (bh Γ<|.asg 1 _)
 with_reducible exact(aH G<|bG ak)
theorem Xi:MY n_ g7 af af pT af af af af g6 0 1:=fun G=>have g:=G.toGood;(v9 [(_,_),(_,_),(_,_)] G (jb g<|Io g<|ae (iy (ln:=["_law_k","_law_one"]) g (by kernel_rfl) (Aj g<|aa g) ja<|fun _ g=> (bY<|ae (VQ g<|ae (jS g (aa g) mi<|iw aq) ak)<|ae (VR g<|ae (jS g (aa g) mi<|iw aq) ak)<|ae (aa g) ak)) ak)<|ai (aH G d0)<|ai (bc (aS g (aa g)<|bG ak) (ai (Am [(_,_),(_,_),(_,_)] G<|aF g (aa g)<|i9 aq)<|ai (aH G<|sk (cT g (aa g)<|aa g)<|si<|jQ (cT g (aa g)<|aa g)<|kZ<|sk (cT g (aa g)<|aa g)<|si<|cT g (aa g)<|aa g) ar) ar)<|ai (bc (so g<|aa g) (ai (Ul (bG<|ae (aa g)<|ae (bz g<|ae (aa g)<|ae (aa g) ak)<|ae (aG g (aa g)<|bG<|ae (aa g) ak) ak) (aa g)<|i9 aq) ar)<|ai (cW<|cU g (aa g)<|ae (bG<|ae (aa g)<|ae (aa g)<|ae (bG<|ae (aa g) ak) ak) ak) ar) ar)
theorem Xj:MY n_ g7 af af pT af af af af g6 0 2:=by
 intro CX Γ X G
 have g:=G.toGood
 show PS X (.Assign [.Name "_law_found" _] _ _) (bh Γ<|.asg 9 _)
 with_reducible exact(aH G<|bG ak)
theorem Xk:MY n_ g7 af af pT af af af af g6 0 3:=fun G=>have g:=G.toGood;(v9 [(_,_),(_,_),(_,_)] G (jb g<|aa g)<|ai (aH G<|aF g (aa g)<|bz g<|ae (aa g) ak)<|ai (bc (aS g (bz g<|ae (aa g) ak) aq) (ai (cW<|cU g (aa g)<|ae (aa g) ak) ar)<|ai (bc (aS g (aF g (aa g) aq)<|aF g (aa g) aq) (ai (cW<|cU g (aa g)<|ae (bY<|ae (aa g)<|ae (aa g)<|ae bX ak) ak) ar)<|ai (cW<|cU g (aa g)<|ae (bY<|ae (aa g)<|ae (aa g)<|ae bX ak) ak) ar) ar) ar)
theorem Xl:MY n_ g7 af af pT af af af af g6 0 4:=by
 intro CX Γ X G
 have g:=G.toGood
 show PS X (.Return (some _) _) (bh Γ<|.ret _)
 with_reducible exact(aK<|aa g)
theorem Xm:MX n_ g7 af af pT af af af af g6 0:=by
 intro CX Γ X G
 have e:cL g7=[bB g7 0,bB g7 1,bB g7 2,bB g7 3,bB g7 4]:=by kernel_rfl
 have e2:g6=[bC g6 0,bC g6 1,bC g6 2,bC g6 3,bC g6 4]:=by kernel_rfl
 rw[e,e2]
 with_reducible exact ai (Xh G) (ai (Xi G)<|ai (Xj G)<|ai (Xk G)<|ai (Xl G)<|ar)
def og:List Str:=["_law_e","_law_some"]
noncomputable def gI:List RS:=
 [.asg 1 (.lst [(.dg (.v 0) (.g 0)),(.dg (.v 0) (.g 1)),(.dg (.v 0) (.g 2)),(.dg (.v 0) (.g 3))]),
 .asg 1 (.bin .Add (.v 1)<|.lst [(.dg (.v 0)<|.g 4),(.dg (.v 0)<|.g 5),(.dg (.v 0)<|.g 6),(.dg (.v 0)<|.g 7)]),
 .asg 1 (.bin .Add (.v 1)<|.lst [(.dg (.v 0)<|.g 8),(.dg (.v 0)<|.g 9),(.dg (.v 0)<|.g 10),(.dg (.v 0)<|.g 11)]),
 .ite (.or [(.not<|.dg (.v 0)<|.c<|.ty "ValueError"),(.cmp .NotEq (.bD .vF (.v 1) [(.c<|.bl true)])<|.c<|.int 1),(.dg (.v 0)<|.g 12)]) [.ret<|.c<|.str "other"] [],
 .ret (.ix (.lst [(.c (.str "text")),(.c (.str "change")),(.c (.str "fit")),(.c (.str "place")),(.c (.str "s")),(.c (.str "m")),(.c (.str "n")),(.c (.str "c")),(.c (.str "d")),(.c (.str "l")),(.c (.str "x")),(.c (.str "h"))]) (.bD .vG (.v 1) [(.c (.bl true))]))]
def pU:List Str:=["BadText","BadChange","BadFit","NoPlace","BadSide","NoMark","NoNode","NoCursor","BadDeed","BadLetter","NoLetter","NoHand","NoNote"]
def pV:List Str:=["isinstance","ValueError"]
def g8:Stmt:=a_ 87
theorem Xn:MY og g8 af pU pV af af af af gI 1 0:=by
 intro CX Γ X G
 have g:=G.toGood
 show PS X (.Assign [.Name "_law_some" _] _ _) (bh Γ<|.asg 1 _)
 with_reducible exact(aH G<|bG<|ae (gG g (aa g)<|dR g)<|ae (gG g (aa g)<|dR g)<|ae (gG g (aa g)<|dR g)<|ae (gG g (aa g)<|dR g) ak)
theorem Xo:MY og g8 af pU pV af af af af gI 1 1:=by
 intro CX Γ X G
 have g:=G.toGood
 show PS X (.Assign [.Name "_law_some" _] _ _) (bh Γ<|.asg 1 _)
 with_reducible exact(aH G<|aG g (aa g)<|bG<|ae (gG g (aa g)<|dR g)<|ae (gG g (aa g)<|dR g)<|ae (gG g (aa g)<|dR g)<|ae (gG g (aa g)<|dR g) ak)
theorem Xp:MY og g8 af pU pV af af af af gI 1 2:=by
 intro CX Γ X G
 have g:=G.toGood
 show PS X (.Assign [.Name "_law_some" _] _ _) (bh Γ<|.asg 1 _)
 with_reducible exact(aH G<|aG g (aa g)<|bG<|ae (gG g (aa g)<|dR g)<|ae (gG g (aa g)<|dR g)<|ae (gG g (aa g)<|dR g)<|ae (gG g (aa g)<|dR g) ak)
theorem Xq:MY og g8 af pU pV af af af af gI 1 3:=fun G=>have g:=G.toGood;(bc (PW.pt<|eQ (di<|FV g<|gG g (aa g)<|Uc g (by decide+kernel) (by decide) (by decide))<|eQ (aS g (cU g (aa g)<|ae d0 ak) aq)<|gf<|FV g<|gG g (aa g)<|dR g) (ai (aK aM) ar) ar)
theorem Xr:MY og g8 af pU pV af af af af gI 1 4:=by
 intro CX Γ X G
 have g:=G.toGood
 show PS X (.Return (some _) _) (bh Γ<|.ret _)
 with_reducible exact(aK<|aF g (bG<|ae aM<|ae aM<|ae aM<|ae aM<|ae aM<|ae aM<|ae aM<|ae aM<|ae aM<|ae aM<|ae aM<|ae aM ak)<|cU g (aa g)<|ae d0 ak)
theorem Xs:MX og g8 af pU pV af af af af gI 1:=by
 intro CX Γ X G
 have e:cL g8=[bB g8 0,bB g8 1,bB g8 2,bB g8 3,bB g8 4]:=by kernel_rfl
 have e2:gI=[bC gI 0,bC gI 1,bC gI 2,bC gI 3,bC gI 4]:=by kernel_rfl
 rw[e,e2]
 with_reducible exact ai (Xn G) (ai (Xo G)<|ai (Xp G)<|ai (Xq G)<|ai (Xr G)<|ar)
def sM:List Str:=["_law_cell","_law_size","_law_text","_law_k","_law_number"]
noncomputable def k7:List RS:=
 [.asg 2 (.c (.str "")),
 .pq 3 .gO [(.v 1)] [.asg 4 (.call 0 [(.v 0),(.bin .Add (.bin .Mult (.c (.int 3)) (.v 3)) (.c (.int 2)))]),
  .asg 2 (.bin .Add (.v 2) (.ix (.lst [(.c (.str "a")),(.c (.str "Z")),(.c (.str "0")),(.c (.str "m9")),(.c (.str " ")),(.c (.str "  ")),(.c (.str ".")),(.c (.str "\n"))]) (.bin .Mod (.v 4) (.c (.int 8)))))],
 .ret (.sl (.v 2) none (some (.v 1)))]
def wD:List Str:=["_law_mixed"]
def wF:List Str:=["range"]
def k8:Stmt:=a_ 88
theorem Xt:MY sM k8 wD af wF af af af af k7 0 0:=by
 intro CX Γ X G
 have g:=G.toGood
 show PS X (.Assign [.Name "_law_text" _] _ _) (bh Γ<|.asg 2 _)
 with_reducible exact(aH G aM)
theorem Xu:MY sM k8 wD af wF af af af af k7 0 1:=by
 intro CX Γ X G
 have g:=G.toGood
 refine(Ak G (Ai g<|aa g) ?_)
 refine ai ?_ ?_
 ·show PS X (.Assign [.Name "_law_number" _] _ _) (bh Γ<|.asg 4 _)
  with_reducible exact(aH G<|aE g<|ae (aa g)<|ae (aG g (aG g aq<|aa g) aq) ak)
 refine ai ?_ ?_
 ·show PS X (.Assign [.Name "_law_text" _] _ _) (bh Γ<|.asg 2 _)
  with_reducible exact(aH G<|aG g (aa g)<|aF g (bG<|ae aM<|ae aM<|ae aM<|ae aM<|ae aM<|ae aM<|ae aM<|ae aM ak)<|aG g (aa g) aq)
 exact ar
theorem Xv:MY sM k8 wD af wF af af af af k7 0 2:=by
 intro CX Γ X G
 have g:=G.toGood
 show PS X (.Return (some _) _) (bh Γ<|.ret _)
 with_reducible exact(aK<|jS g (aa g) mi<|iw<|aa g)
theorem Xw:MX sM k8 wD af wF af af af af k7 0:=by
 intro CX Γ X G
 have e:cL k8=[bB k8 0,bB k8 1,bB k8 2]:=by kernel_rfl
 have e2:k7=[bC k7 0,bC k7 1,bC k7 2]:=by kernel_rfl
 rw[e,e2]
 with_reducible exact ai (Xt G) (ai (Xu G)<|ai (Xv G)<|ar)
def oh:List Str:=["_law_cell","_law_size","_law_many","_law_found","_law_k","_law_number","_law_anchor","_law_head"]
noncomputable def gJ:List RS:=
 [.asg 2 (.bin .Add (.c (.int 1)) (.bin .Mod (.v 0) (.c (.int 6)))),
 .ite (.cmp .Eq (.bin .Mod (.bin .FloorDiv (.v 0)<|.c<|.int 6)<|.c<|.int 9)<|.c<|.int 1) [.asg 2<|.c<|.int 40] [],
 .asg 3 (.lst []),
 .pq 4 .gO [(.v 2)] [.asg 5 (.call 0 [(.v 0),(.bin .Add (.bin .Mult (.c (.int 17)) (.v 4)) (.c (.int 5)))]),
  .asg 6 (.bin .Mod (.v 5)<|.bin .Add (.v 1)<|.c<|.int 1),
  .asg 7 (.blt .max [(.c<|.int 0),(.blt .min [(.v 1),(.bin .Add (.v 6)<|.ix (.lst [(.c<|.int 0),(.c<|.int 0),(.c<|.int 1),(.neg<|.c<|.int 1),(.c<|.int 3),(.neg<|.c<|.int 4),(.c<|.int 9)])<|.bin .Mod (.bin .FloorDiv (.v 5)<|.c<|.int 1009)<|.c<|.int 7)])]),
  .drop (.bD .append (.v 3) [(.tup [(.v 6),(.v 7),(.ix (.lst [(.c .aA),(.c .aA),(.bin .Mod (.bin .FloorDiv (.v 5) (.c (.int 5))) (.c (.int 9)))]) (.bin .Mod (.bin .FloorDiv (.v 5) (.c (.int 7))) (.c (.int 3))))])])],
 .ret (.call 1 [(.v 3)])]
def pX:List Str:=["_law_mixed","_law_settled"]
def pY:List Str:=["range","max","min"]
def g_:Stmt:=a_ 89
theorem Xx:MY oh g_ pX af pY af af af af gJ 0 0:=by
 intro CX Γ X G
 have g:=G.toGood
 show PS X (.Assign [.Name "_law_many" _] _ _) (bh Γ<|.asg 2 _)
 with_reducible exact(aH G<|aG g aq<|aG g (aa g) aq)
theorem Xy:MY oh g_ pX af pY af af af af gJ 0 1:=by
 intro CX Γ X G
 have g:=G.toGood
 show PS X (.If _ _ _ _) (bh Γ<|.ite _ _ _)
 refine bc ?_ ?_ ?_
 ·exact(aS g (aG g (aG g (aa g) aq) aq) aq)
 ·refine ai ?_ ?_
  ·show PS X (.Assign [.Name "_law_many" _] _ _) (bh Γ<|.asg 2 _)
   with_reducible exact(aH G aq)
  exact ar
 ·exact ar
theorem Xz:MY oh g_ pX af pY af af af af gJ 0 2:=by
 intro CX Γ X G
 have g:=G.toGood
 show PS X (.Assign [.Name "_law_found" _] _ _) (bh Γ<|.asg 3 _)
 with_reducible exact(aH G<|bG ak)
theorem XA:MY oh g_ pX af pY af af af af gJ 0 3:=by
 intro CX Γ X G
 have g:=G.toGood
 refine(Ak G (Ai g<|aa g) ?_)
 refine ai ?_ ?_
 ·show PS X (.Assign [.Name "_law_number" _] _ _) (bh Γ<|.asg 5 _)
  with_reducible exact(aH G<|aE g<|ae (aa g)<|ae (aG g (aG g aq<|aa g) aq) ak)
 refine ai ?_ ?_
 ·show PS X (.Assign [.Name "_law_anchor" _] _ _) (bh Γ<|.asg 6 _)
  with_reducible exact(aH G<|aG g (aa g)<|aG g (aa g) aq)
 refine ai ?_ ?_
 ·show PS X (.Assign [.Name "_law_head" _] _ _) (bh Γ<|.asg 7 _)
  with_reducible exact(aH G<|bz g<|ae aq<|ae (bz g<|ae (aa g)<|ae (aG g (aa g)<|aF g (bG<|ae aq<|ae aq<|ae aq<|ae (i9 aq)<|ae aq<|ae (i9 aq)<|ae aq ak)<|aG g (aG g (aa g) aq) aq) ak) ak)
 refine ai ?_ ?_
 ·exact(cW<|cU g (aa g)<|ae (bY<|ae (aa g)<|ae (aa g)<|ae (aF g (bG<|ae bX<|ae bX<|ae (aG g (aG g (aa g) aq) aq) ak)<|aG g (aG g (aa g) aq) aq) ak) ak)
 exact ar
theorem XB:MY oh g_ pX af pY af af af af gJ 0 4:=by
 intro CX Γ X G
 have g:=G.toGood
 show PS X (.Return (some _) _) (bh Γ<|.ret _)
 with_reducible exact(aK<|aE g<|ae (aa g) ak)
theorem XC:MX oh g_ pX af pY af af af af gJ 0:=by
 intro CX Γ X G
 have e:cL g_=[bB g_ 0,bB g_ 1,bB g_ 2,bB g_ 3,bB g_ 4]:=by kernel_rfl
 have e2:gJ=[bC gJ 0,bC gJ 1,bC gJ 2,bC gJ 3,bC gJ 4]:=by kernel_rfl
 rw[e,e2]
 with_reducible exact ai (Xx G) (ai (Xy G)<|ai (Xz G)<|ai (XA G)<|ai (XB G)<|ar)
def JZ:List Str:=["_law_paper","_law_cursors_here","_law_word_here","_law_hold","_law_way","_law_e"]
noncomputable def J0:List RS:=
 [.zy 6 5 0 [.ite (.cmp .Eq (.v 4) (.c (.int 0))) [.drop (.call 0 [(.v 0),(.ix (.v 1) (.c (.int 0))),(.v 2),(.v 3)])] [.drop (.call 1 [(.v 0),(.v 1),(.v 2),(.v 3)])]] [.ret (.zx 0 (.v 5))],
 .ret (.c (.str ""))]
def XD:List Str:=["stepped","all_stepped"]
def XE:List Str:=["InkError"]
def XF:List Str:=["_law_word"]
def J3:Stmt:=a_ 90
theorem XG:MX JZ J3 XD XE af af af af XF J0 0:=fun G=>have g:=G.toGood;(ai (Uq G (by kernel_rfl) (by kernel_rfl) (fun G=> (fun g=> (ai (bc (aS g (aa g) aq) (ai (cW<|aE g<|ae (aa g)<|ae (aF g (aa g) aq)<|ae (aa g)<|ae (aa g) ak) ar)<|ai (cW<|aE g<|ae (aa g)<|ae (aa g)<|ae (aa g)<|ae (aa g) ak) ar) ar)) G.toGood)<|fun G=> (fun g=> (ai (aK<|Ud g<|aa g) ar)) G.toGood)<|ai (aK aM) ar)
def hJ:List Str:=["_law_paper","_law_cursors_here","_law_cell","_law_size","_law_words_here","_law_word_here","_law_hold","_law_some","_law_odd","_law_way","_law_spot","_law_many"]
noncomputable def cN:List RS:=
 [.asg 3 (.bF 0 "size" (.v 0) []),
 .asg 4 (.lst [(.c<|.str "Left"),(.c<|.str ""),(.c<|.str "upp"),(.c .aA),(.c<|.int 5),(.lst [(.c<|.str "up")]),(.c<|.str "lef"),(.c<|.str "left "),(.tup [(.c<|.str "on")])]),
 .asg 5 (.ix (.v 4)<|.bin .Mod (.bin .FloorDiv (.v 2)<|.c<|.int 3)<|.c<|.int 9),
 .asg 6 (.ix (.lst [(.c<|.int 0),(.c<|.int 1),(.c .aA),(.c<|.str "True")])<|.bin .Mod (.bin .FloorDiv (.v 2)<|.c<|.int 3)<|.c<|.int 4),
 .asg 7 (.lst [(.tup [(.c<|.int 0),(.bin .Add (.v 3)<|.c<|.int 1),(.c .aA)]),(.tup [(.neg<|.c<|.int 1),(.c<|.int 0),(.c .aA)]),(.tup [(.c<|.int 0),(.c<|.int 0)]),(.tup [(.c<|.int 0),(.c<|.int 0),(.neg<|.c<|.int 1)]),(.tup [(.c<|.int 0),(.c<|.bl true),(.c .aA)]),(.lst [(.c<|.int 0),(.c<|.int 0),(.c .aA)]),(.c .aA),(.tup [(.c<|.int 0),(.c<|.int 0),(.c<|.str "1")])]),
 .asg 8 (.ix (.bin .Add (.v 7)<|.lst [(.tup [(.c<|.int 0),(.c<|.int 0),(.c<|.bl false)])])<|.bin .Mod (.bin .FloorDiv (.v 2)<|.c<|.int 3)<|.c<|.int 9),
 .pq 9 .gO [(.c (.int 2))] [.ite (.cmp .NotEq (.call 0 [(.v 0),(.v 1),(.v 5),(.c (.bl false)),(.v 9)]) (.c (.str "d"))) [.ret (.c (.bl false))] [],
  .ite (.cmp .NotEq (.call 0 [(.v 0),(.v 1),(.c<|.str "up"),(.v 6),(.v 9)])<|.c<|.str "d") [.ret<|.c<|.bl false] [],
  .ite (.cmp .NotEq (.call 0 [(.v 0),(.lst [(.v 8)]),(.v 5),(.c (.bl false)),(.v 9)]) (.c (.str "c"))) [.ret (.c (.bl false))] []],
 .asg 10 (.bin .Mod (.bin .FloorDiv (.v 2)<|.c<|.int 27)<|.bin .Add (.blt .len [(.v 1)])<|.c<|.int 1),
 .ite (.cmp .NotEq (.call 0 [(.v 0),(.bin .Add (.bin .Add (.sl (.v 1) none<|some<|.v 10)<|.lst [(.v 8)])<|.sl (.v 1) (some<|.v 10) none),(.c<|.str "up"),(.v 6),(.c<|.int 1)])<|.c<|.str "c") [.ret<|.c<|.bl false] [],
 .asg 11 (.bin .Mult (.lst [(.tup [(.c<|.int 0),(.c<|.int 0),(.c .aA)])])<|.c<|.int 41),
 .ret (.and [(.cmp .Eq (.call 0 [(.v 0),(.lst []),(.c (.str "on")),(.c (.bl true)),(.c (.int 1))]) (.c (.str "c"))),(.cmp .Eq (.call 0 [(.v 0),(.v 11),(.c (.str "on")),(.c (.bl true)),(.c (.int 1))]) (.c (.str "c")))])]
def iC:List Str:=["_law_refusal"]
def iD:List Str:=["range","len"]
def dm:Stmt:=a_ 91
theorem XH:MY hJ dm iC af iD fK af af af cN 0 0:=by
 intro CX Γ X G
 have g:=G.toGood
 show PS X (.Assign [.Name "_law_size" _] _ _) (bh Γ<|.asg 3 _)
 with_reducible exact(aH G<|fI g<|aa g)
theorem XI:MY hJ dm iC af iD fK af af af cN 0 1:=by
 intro CX Γ X G
 have g:=G.toGood
 show PS X (.Assign [.Name "_law_words_here" _] _ _) (bh Γ<|.asg 4 _)
 with_reducible exact(aH G<|bG<|ae aM<|ae aM<|ae aM<|ae bX<|ae aq<|ae (bG<|ae aM ak)<|ae aM<|ae aM<|ae (bY<|ae aM ak) ak)
theorem XJ:MY hJ dm iC af iD fK af af af cN 0 2:=by
 intro CX Γ X G
 have g:=G.toGood
 show PS X (.Assign [.Name "_law_word_here" _] _ _) (bh Γ<|.asg 5 _)
 with_reducible exact(aH G<|aF g (aa g)<|aG g (aG g (aa g) aq) aq)
theorem XM:MY hJ dm iC af iD fK af af af cN 0 3:=by
 intro CX Γ X G
 have g:=G.toGood
 show PS X (.Assign [.Name "_law_hold" _] _ _) (bh Γ<|.asg 6 _)
 with_reducible exact(aH G<|aF g (bG<|ae aq<|ae aq<|ae bX<|ae aM ak)<|aG g (aG g (aa g) aq) aq)
theorem XN:MY hJ dm iC af iD fK af af af cN 0 4:=by
 intro CX Γ X G
 have g:=G.toGood
 show PS X (.Assign [.Name "_law_some" _] _ _) (bh Γ<|.asg 7 _)
 with_reducible exact(aH G<|bG<|ae (bY<|ae aq<|ae (aG g (aa g) aq)<|ae bX ak)<|ae (bY<|ae (i9 aq)<|ae aq<|ae bX ak)<|ae (bY<|ae aq<|ae aq ak)<|ae (bY<|ae aq<|ae aq<|ae (i9 aq) ak)<|ae (bY<|ae aq<|ae d0<|ae bX ak)<|ae (bG<|ae aq<|ae aq<|ae bX ak)<|ae bX<|ae (bY<|ae aq<|ae aq<|ae aM ak) ak)
theorem XO:MY hJ dm iC af iD fK af af af cN 0 5:=by
 intro CX Γ X G
 have g:=G.toGood
 show PS X (.Assign [.Name "_law_odd" _] _ _) (bh Γ<|.asg 8 _)
 with_reducible exact(aH G<|aF g (aG g (aa g)<|bG<|ae (bY<|ae aq<|ae aq<|ae d0 ak) ak)<|aG g (aG g (aa g) aq) aq)
theorem XQ:MY hJ dm iC af iD fK af af af cN 0 6:=fun G=>have g:=G.toGood;(Ak G (Ai g aq)<|ai (bc (aS g (aE g<|ae (aa g)<|ae (aa g)<|ae (aa g)<|ae d0<|ae (aa g) ak) aM) (ai (aK d0) ar) ar)<|ai (bc (aS g (aE g<|ae (aa g)<|ae (aa g)<|ae aM<|ae (aa g)<|ae (aa g) ak) aM) (ai (aK d0) ar) ar)<|ai (bc (aS g (aE g<|ae (aa g)<|ae (bG<|ae (aa g) ak)<|ae (aa g)<|ae d0<|ae (aa g) ak) aM) (ai (aK d0) ar) ar) ar)
theorem XR:MY hJ dm iC af iD fK af af af cN 0 7:=by
 intro CX Γ X G
 have g:=G.toGood
 show PS X (.Assign [.Name "_law_spot" _] _ _) (bh Γ<|.asg 10 _)
 with_reducible exact(aH G<|aG g (aG g (aa g) aq)<|aG g (bz g<|ae (aa g) ak) aq)
theorem XS:MY hJ dm iC af iD fK af af af cN 0 8:=fun G=>have g:=G.toGood;(bc (aS g (aE g<|ae (aa g)<|ae (aG g (aG g (jS g (aa g) mi<|iw<|aa g)<|bG<|ae (aa g) ak)<|jS g (aa g) (iw<|aa g) mi)<|ae aM<|ae (aa g)<|ae aq ak) aM) (ai (aK d0) ar) ar)
theorem XT:MY hJ dm iC af iD fK af af af cN 0 9:=by
 intro CX Γ X G
 have g:=G.toGood
 show PS X (.Assign [.Name "_law_many" _] _ _) (bh Γ<|.asg 11 _)
 with_reducible exact(aH G<|aG g (bG<|ae (bY<|ae aq<|ae aq<|ae bX ak) ak) aq)
theorem XU:MY hJ dm iC af iD fK af af af cN 0 10:=by
 intro CX Γ X G
 have g:=G.toGood
 show PS X (.Return (some _) _) (bh Γ<|.ret _)
 with_reducible exact(aK<|jQ (cT g (aE g<|ae (aa g)<|ae (bG ak)<|ae aM<|ae d0<|ae aq ak) aM)<|kZ<|cT g (aE g<|ae (aa g)<|ae (aa g)<|ae aM<|ae d0<|ae aq ak) aM)
theorem XW:MX hJ dm iC af iD fK af af af cN 0:=by
 intro CX Γ X G
 have e:cL dm=[bB dm 0,bB dm 1,bB dm 2,bB dm 3,bB dm 4,bB dm 5,bB dm 6,bB dm 7,bB dm 8,bB dm 9,bB dm 10]:=by kernel_rfl
 have e2:cN=[bC cN 0,bC cN 1,bC cN 2,bC cN 3,bC cN 4,bC cN 5,bC cN 6,bC cN 7,bC cN 8,bC cN 9,bC cN 10]:=by kernel_rfl
 rw[e,e2]
 with_reducible exact ai (XH G) (ai (XI G)<|ai (XJ G)<|ai (XM G)<|ai (XN G)<|ai (XO G)<|ai (XQ G)<|ai (XR G)<|ai (XS G)<|ai (XT G)<|ai (XU G)<|ar)
def ji:List Str:=["_law_script","_law_size","_law_text","_law_paper","_law_cursors_here","_law_held","_law_k","_law_cell","_law_number","_law_some","_law_word_here","_law_hold","_law_handed","_law_found","_law_due","_law_told","_law_again","_law_later"]
noncomputable def dB:List RS:=
 [.asg 1 (.bin .Mod (.call 0 [(.v 0),(.c (.int 0))]) (.c (.int 25))),
 .ite (.cmp .Eq (.bin .Mod (.bin .FloorDiv (.call 0 [(.v 0),(.c<|.int 0)])<|.c<|.int 25)<|.c<|.int 8)<|.c<|.int 1) [.asg 1<|.bin .Add (.c<|.int 60)<|.bin .Mod (.bin .FloorDiv (.call 0 [(.v 0),(.c<|.int 0)])<|.c<|.int 200)<|.c<|.int 140] [],
 .asg 2 (.call 1 [(.call 0 [(.v 0),(.c<|.int 1)]),(.v 1)]),
 .asg 3 (.call 2 [(.v 2)]),
 .asg 4 (.call 3 [(.call 0 [(.v 0),(.c<|.int 2)]),(.blt .len [(.v 2)])]),
 .asg 5 (.lst []),
 .nA [6,7] .rK [(.sl (.v 0) (some (.c (.int 4))) (some (.c (.int 10))))] [.asg 8 (.call 4 [(.v 7),(.bin .Add (.c (.int 700)) (.v 6))]),
  .asg 9 (.lst [(.c<|.str "left"),(.c<|.str "right"),(.c<|.str "up"),(.c<|.str "down"),(.c<|.str "home"),(.c<|.str "end"),(.c<|.str "top"),(.c<|.str "bottom"),(.c<|.str "back"),(.c<|.str "on"),(.c<|.str "back"),(.c<|.str "on")]),
  .asg 10 (.ix (.v 9)<|.bin .Mod (.v 8)<|.c<|.int 12),
  .asg 11 (.cmp .Eq (.bin .Mod (.bin .FloorDiv (.v 8)<|.c<|.int 12)<|.c<|.int 2)<|.c<|.int 1),
  .asg 12 (.blt .list [(.v 4)]),
  .asg 13 (.call 5 [(.v 3),(.v 12),(.v 10),(.v 11)]),
  .asg 14 (.call 6 [(.comp none [("_law_text",2),("_law_word_here",10),("_law_hold",11)] .list [(.v 4)] none<|.call 7 [(.v 1),(.v 0),(.v 2),(.v 3)])]),
  .ite (.or [(.not<|.eO .list<|.v 13),(.cmp .NotEq (.v 13)<|.v 14),(.cmp .NotEq (.v 12)<|.v 4)]) [.ret<|.c<|.bl false] [],
  .ite (.cmp .NotEq (.comp (some 2) [] .zip [(.v 13),(.v 14)] (some<|.not<|.call 8 [(.v 0),(.v 1)])<|.v 0)<|.lst []) [.ret<|.c<|.bl false] [],
  .drop (.bD .clear (.v 13) []),
  .asg 15 (.call 5 [(.v 3),(.v 12),(.v 10),(.v 11)]),
  .drop (.bD .clear (.v 12) []),
  .drop (.bD .extend (.v 12) [(.v 14)]),
  .asg 16 (.call 5 [(.v 3),(.v 12),(.v 10),(.v 11)]),
  .drop (.bD .clear (.v 12) []),
  .pk 17 (.comp none [("_law_text",2),("_law_word_here",10),("_law_hold",11)] .list [(.v 14)] none<|.call 7 [(.v 1),(.v 0),(.v 2),(.v 3)]),
  .ite (.or [(.cmp .NotEq (.v 15)<|.v 14),(.cmp .NotEq (.v 16)<|.call 6 [(.v 17)])]) [.ret<|.c<|.bl false] [],
  .drop (.bD .extend (.v 5) [(.lst [(.tup [(.v 15),(.blt .list [(.v 15)])]),(.tup [(.v 16),(.blt .list [(.v 16)])])])]),
  .asg 4 (.v 14)],
 .ite (.or [(.not<|.call 9 [(.v 3),(.v 4),(.bin .Mod (.call 0 [(.v 0),(.c<|.int 3)])<|.c<|.int 1000003)]),(.cmp .NotEq (.bF 0 "text" (.v 3) [])<|.v 2)]) [.ret<|.c<|.bl false] [],
 .ret (.cmp .Eq (.comp (some 2) [] .list [(.v 5)] (some (.cmp .NotEq (.v 0) (.v 1))) (.v 0)) (.lst []))]
def jV:List Str:=["_law_cell_at","_law_words","paper_of","_law_cursors","_law_mixed","all_stepped","_law_settled","_law_stepped","_law_cursor","_law_refused"]
def jW:List Str:=["len","enumerate","list","isinstance","zip"]
def jX:List Str:=["text"]
def d6:Stmt:=a_ 92
theorem XX:MY ji d6 jV af jW jX af af af dB 0 0:=by
 intro CX Γ X G
 have g:=G.toGood
 show PS X (.Assign [.Name "_law_size" _] _ _) (bh Γ<|.asg 1 _)
 with_reducible exact(aH G<|aG g (aE g<|ae (aa g)<|ae aq ak) aq)
theorem XY:MY ji d6 jV af jW jX af af af dB 0 1:=by
 intro CX Γ X G
 have g:=G.toGood
 show PS X (.If _ _ _ _) (bh Γ<|.ite _ _ _)
 refine bc ?_ ?_ ?_
 ·exact(aS g (aG g (aG g (aE g<|ae (aa g)<|ae aq ak) aq) aq) aq)
 ·refine ai ?_ ?_
  ·show PS X (.Assign [.Name "_law_size" _] _ _) (bh Γ<|.asg 1 _)
   with_reducible exact(aH G<|aG g aq<|aG g (aG g (aE g<|ae (aa g)<|ae aq ak) aq) aq)
  exact ar
 ·exact ar
theorem XZ:MY ji d6 jV af jW jX af af af dB 0 2:=by
 intro CX Γ X G
 have g:=G.toGood
 show PS X (.Assign [.Name "_law_text" _] _ _) (bh Γ<|.asg 2 _)
 with_reducible exact(aH G<|aE g<|ae (aE g<|ae (aa g)<|ae aq ak)<|ae (aa g) ak)
theorem X0:MY ji d6 jV af jW jX af af af dB 0 3:=by
 intro CX Γ X G
 have g:=G.toGood
 show PS X (.Assign [.Name "_law_paper" _] _ _) (bh Γ<|.asg 3 _)
 with_reducible exact(aH G<|aE g<|ae (aa g) ak)
theorem X1:MY ji d6 jV af jW jX af af af dB 0 4:=by
 intro CX Γ X G
 have g:=G.toGood
 show PS X (.Assign [.Name "_law_cursors_here" _] _ _) (bh Γ<|.asg 4 _)
 with_reducible exact(aH G<|aE g<|ae (aE g<|ae (aa g)<|ae aq ak)<|ae (bz g<|ae (aa g) ak) ak)
theorem X3:MY ji d6 jV af jW jX af af af dB 0 5:=by
 intro CX Γ X G
 have g:=G.toGood
 show PS X (.Assign [.Name "_law_held" _] _ _) (bh Γ<|.asg 5 _)
 with_reducible exact(aH G<|bG ak)
theorem X4:MY ji d6 jV af jW jX af af af dB 0 6:=by
 intro CX Γ X G
 have g:=G.toGood
 refine(v9 [(_,_),(_,_)] G (Aj g<|jS g (aa g) (iw aq)<|iw aq) ?_)
 refine ai ?_ ?_
 ·show PS X (.Assign [.Name "_law_number" _] _ _) (bh Γ<|.asg 8 _)
  with_reducible exact(aH G<|aE g<|ae (aa g)<|ae (aG g aq<|aa g) ak)
 refine ai ?_ ?_
 ·show PS X (.Assign [.Name "_law_some" _] _ _) (bh Γ<|.asg 9 _)
  with_reducible exact(aH G<|bG<|ae aM<|ae aM<|ae aM<|ae aM<|ae aM<|ae aM<|ae aM<|ae aM<|ae aM<|ae aM<|ae aM<|ae aM ak)
 refine ai ?_ ?_
 ·show PS X (.Assign [.Name "_law_word_here" _] _ _) (bh Γ<|.asg 10 _)
  with_reducible exact(aH G<|aF g (aa g)<|aG g (aa g) aq)
 refine ai ?_ ?_
 ·show PS X (.Assign [.Name "_law_hold" _] _ _) (bh Γ<|.asg 11 _)
  with_reducible exact(aH G<|cT g (aG g (aG g (aa g) aq) aq) aq)
 refine ai ?_ ?_
 ·show PS X (.Assign [.Name "_law_handed" _] _ _) (bh Γ<|.asg 12 _)
  with_reducible exact(aH G<|bz g<|ae (aa g) ak)
 refine ai ?_ ?_
 ·show PS X (.Assign [.Name "_law_found" _] _ _) (bh Γ<|.asg 13 _)
  with_reducible exact(aH G<|aE g<|ae (aa g)<|ae (aa g)<|ae (aa g)<|ae (aa g) ak)
 refine ai ?_ ?_
 ·show PS X (.Assign [.Name "_law_due" _] _ _) (bh Γ<|.asg 14 _)
  with_reducible exact(aH G<|aE g<|ae (iy (ln:=["_law_one"]) g (by kernel_rfl) (jb g<|aa g) ja<|fun _ g=> (aE g (ae (aa g)<|ae (aa g)<|ae (aa g)<|ae (aa g) ak) (hq:=by kernel_rfl))) ak)
 refine ai ?_ ?_
 ·exact(bc (PW.pt<|eQ (di<|v5 g<|jR g<|aa g)<|eQ (aS g (aa g)<|aa g)<|gf<|aS g (aa g)<|aa g) (ai (aK d0) ar) ar)
 refine ai ?_ ?_
 ·exact(bc (aS g (iy (ln:=["_law_one","_law_other"]) g (by kernel_rfl) (FW g (aa g)<|aa g) (Ah fun _ g=> (di<|fJ g<|aE g<|ae (aa g)<|ae (aa g) ak))<|fun _ g=> (aa g))<|bG ak) (ai (aK d0) ar) ar)
 refine ai ?_ ?_
 ·exact(cW<|vY g<|aa g)
 refine ai ?_ ?_
 ·show PS X (.Assign [.Name "_law_told" _] _ _) (bh Γ<|.asg 15 _)
  with_reducible exact(aH G<|aE g<|ae (aa g)<|ae (aa g)<|ae (aa g)<|ae (aa g) ak)
 refine ai ?_ ?_
 ·exact(cW<|vY g<|aa g)
 refine ai ?_ ?_
 ·exact(cW<|cU g (aa g)<|ae (aa g) ak)
 refine ai ?_ ?_
 ·show PS X (.Assign [.Name "_law_again" _] _ _) (bh Γ<|.asg 16 _)
  with_reducible exact(aH G<|aE g<|ae (aa g)<|ae (aa g)<|ae (aa g)<|ae (aa g) ak)
 refine ai ?_ ?_
 ·exact(cW<|vY g<|aa g)
 refine ai ?_ ?_
 ·exact(FY (ln:=["_law_one"]) G (by kernel_rfl) (by kernel_rfl) (by kernel_rfl) (jb g<|aa g) ja<|fun _ g=> (aE g<|ae (aa g)<|ae (aa g)<|ae (aa g)<|ae (aa g) ak))
 refine ai ?_ ?_
 ·exact(bc (PW.pt<|eQ (aS g (aa g)<|aa g)<|gf<|aS g (aa g)<|aE g<|ae (aa g) ak) (ai (aK d0) ar) ar)
 refine ai ?_ ?_
 ·exact(cW<|cU g (aa g)<|ae (bG<|ae (bY<|ae (aa g)<|ae (bz g<|ae (aa g) ak) ak)<|ae (bY<|ae (aa g)<|ae (bz g<|ae (aa g) ak) ak) ak) ak)
 refine ai ?_ ?_
 ·show PS X (.Assign [.Name "_law_cursors_here" _] _ _) (bh Γ<|.asg 4 _)
  with_reducible exact(aH G<|aa g)
 exact ar
theorem X5:MY ji d6 jV af jW jX af af af dB 0 7:=by
 intro CX Γ X G
 have g:=G.toGood
 show PS X (.If _ _ _ _) (bh Γ<|.ite _ _ _)
 refine bc ?_ ?_ ?_
 ·exact(PW.pt<|eQ (di<|fJ g<|aE g<|ae (aa g)<|ae (aa g)<|ae (aG g (aE g<|ae (aa g)<|ae aq ak) aq) ak)<|gf<|aS g (fI g<|aa g)<|aa g)
 ·refine ai ?_ ?_
  ·show PS X (.Return (some _) _) (bh Γ<|.ret _)
   with_reducible exact(aK d0)
  exact ar
 ·exact ar
theorem X6:MY ji d6 jV af jW jX af af af dB 0 8:=by
 intro CX Γ X G
 have g:=G.toGood
 show PS X (.Return (some _) _) (bh Γ<|.ret _)
 with_reducible exact(aK<|cT g (iy (ln:=["_law_one","_law_copy"]) g (by kernel_rfl) (jb g<|aa g) (Ah fun _ g=> (aS g (aa g)<|aa g))<|fun _ g=> (aa g))<|bG ak)
theorem X7:MX ji d6 jV af jW jX af af af dB 0:=by
 intro CX Γ X G
 have e:cL d6=[bB d6 0,bB d6 1,bB d6 2,bB d6 3,bB d6 4,bB d6 5,bB d6 6,bB d6 7,bB d6 8]:=by kernel_rfl
 have e2:dB=[bC dB 0,bC dB 1,bC dB 2,bC dB 3,bC dB 4,bC dB 5,bC dB 6,bC dB 7,bC dB 8]:=by kernel_rfl
 rw[e,e2]
 with_reducible exact ai (XX G) (ai (XY G)<|ai (XZ G)<|ai (X0 G)<|ai (X1 G)<|ai (X3 G)<|ai (X4 G)<|ai (X5 G)<|ai (X6 G)<|ar)
end L2.oa
namespace L2.N
inductive Tr where
 | nil | node (l:Tr) (a b c:Int) (r:Tr)
namespace Tr
def h:Tr->Int
 | nil=>0
 | node l _ _ _ r=>1+ (if r.h>l.h then r.h else l.h)
def sz:Tr->Int
 | nil=>0
 | node l _ b _ r=>l.sz+b+r.sz
def en:Tr->Int
 | nil=>0
 | node l _ _ c r=>l.en+c+r.en
def aw:Tr->List (Int×Int×Int)
 | nil=> []
 | node l a b c r=>l.aw++ (a,b,c)::r.aw
def ok:Tr->Prop
 | nil=>True
 | node l _ _ _ r=>l.ok/\r.ok/\l.h<=r.h+1/\r.h<=l.h+1
theorem h0: ∀t:Tr,0<=t.h
 | nil=>zbi _
 | node l _ _ _ r=>by
  have:=h0 l
  have:=h0 r
  show 0<=1+ (if r.h>l.h then r.h else l.h)
  split<;>lia
theorem pZ: ∀{t:Tr},0<t.h-> ∃l a b c r,t=node l a b c r
 | nil,h=>absurd h (by decide)
 | node l a b c r,_=> ⟨l,a,b,c,r,rfl⟩
theorem dq(l:Tr)(a b c:Int)(r:Tr):(node l a b c r).h=1+ (if r.h>l.h then r.h else l.h):=rfl
theorem A0: ∀{t:Tr} (n:Nat),t.ok->(n:Int)<=t.h->2 ^ (n / 2)<=t.aw.length+1
 | nil,n,_,hn=>by
  have:n=0:=by
   have:(n:Int)<=0:=hn
   lia
  subst this;decide
 | node l a b c r,n,ho,hn=>by
  obtain⟨o1,o2,o3,o4⟩:=ho
  rw[dq] at hn
  simp only[aw,zqA,zar]
  match n with
  | 0=>simp
  | 1=>simp
  | n+2=>
   have e:(n+2) / 2=n / 2+1:=by lia
   rw[e,Nat.pow_succ]
   have k1:(n:Int)<=l.h:=by split at hn<;>lia
   have k2:(n:Int)<=r.h:=by split at hn<;>lia
   have i1:=A0 n o1 k1
   have i2:=A0 n o2 k2
   lia
theorem oi{t:Tr}(ho:t.ok)(hn:t.aw.length<=1000):t.h<=19:=by
 by_cases hh:t.h<=19
 ·exact hh
 ·have:=A0 20 ho (by lia)
  lia
structure jY (l:Tr) (a b c:Int) (r t:Tr):Prop where
 ok:t.ok
 aw:t.aw=l.aw++ (a,b,c)::r.aw
 near:l.h<=r.h+1->r.h<=l.h+1->t.h=1+ (if r.h>l.h then r.h else l.h)
 lo:l.h<=t.h/\r.h<=t.h
 hi:t.h<=l.h+1\/t.h<=r.h+1
theorem J4{l r:Tr}{a b c:Int}(o1:l.ok)(o2:r.ok)(h1:l.h<=r.h+1)(h2:r.h<=l.h+1):jY l a b c r (node l a b c r):=by
 refine⟨⟨o1,o2,h1,h2⟩,rfl,fun _ _=>rfl, ?_, ?_⟩
 all_goals rw[dq];split<;>lia
theorem X8{ll lr r:Tr}{a b c a' b' c':Int}(o1:(node ll a b c lr).ok)(o2:r.ok)(h1:(node ll a b c lr).h=r.h+2)(hh:lr.h<=ll.h):
  jY (node ll a b c lr) a' b' c' r (node ll a b c<|node lr a' b' c' r):=by
 obtain⟨p1,p2,p3,p4⟩:=o1
 have e1:=dq ll a b c lr
 have e2:=dq lr a' b' c' r
 have e3:=dq ll a b c (node lr a' b' c' r)
 rw[h1] at e1
 have k:r.h+1=ll.h:=by rw[if_neg (by lia)] at e1;lia
 refine⟨⟨p1,⟨p2,o2,by lia,by lia⟩, ?_, ?_⟩,by simp[aw],fun q1 q2=>absurd h1 (by lia), ?_, ?_⟩
 ·rw[e2];split<;>lia
 ·rw[e2];split<;>lia
 ·rw[e3,e2,h1];constructor<;> ((repeat' split) <;>lia)
 ·rw[e3,e2,h1];left;(split<;>split<;>lia)
theorem X9{ll il ir r:Tr}{a b c a' b' c' x y z:Int}(o1:(node ll a b c<|node il x y z ir).ok)(o2:r.ok)(h1:(node ll a b c<|node il x y z ir).h=r.h+2)(hh:ll.h< (node il x y z ir).h):
  jY (node ll a b c<|node il x y z ir) a' b' c' r (node (node ll a b c il) x y z<|node ir a' b' c' r):=by
 obtain⟨p1,⟨p5,p6,p7,p8⟩,p3,p4⟩:=o1
 have e1:=dq ll a b c (node il x y z ir)
 have e2:=dq il x y z ir
 have e3:=dq ll a b c il
 have e4:=dq ir a' b' c' r
 have e5:=dq (node ll a b c il) x y z (node ir a' b' c' r)
 rw[h1,if_pos (by lia)] at e1
 have k1:ll.h=r.h:=by lia
 have k2:il.h<=r.h/\ir.h<=r.h:=by rw[e2] at e1;split at e1<;>lia
 have k3:r.h - 1<=il.h/\r.h - 1<=ir.h:=by rw[e2] at e1;split at e1<;>lia
 have f3:(node ll a b c il).h=r.h+1:=by rw[e3];split<;>lia
 have f4:(node ir a' b' c' r).h=r.h+1:=by rw[e4];split<;>lia
 have f5:(node (node ll a b c il) x y z<|node ir a' b' c' r).h=r.h+2:=by rw[e5,f3,f4];split<;>lia
 refine⟨⟨⟨p1,p5,by lia,by lia⟩,⟨p6,o2,by lia,by lia⟩,by lia,by lia⟩,by simp[aw],fun q1 q2=>absurd h1 (by lia),by lia,by lia⟩
theorem X_{l rl rr:Tr}{a b c a' b' c':Int}(o1:l.ok)(o2:(node rl a' b' c' rr).ok)(h1:(node rl a' b' c' rr).h=l.h+2)(hh:rl.h<=rr.h):
  jY l a b c (node rl a' b' c' rr) (node (node l a b c rl) a' b' c' rr):=by
 obtain⟨p1,p2,p3,p4⟩:=o2
 have e1:=dq rl a' b' c' rr
 have e2:=dq l a b c rl
 have e3:=dq (node l a b c rl) a' b' c' rr
 rw[h1] at e1
 have k:l.h+1=rr.h:=by split at e1<;>lia
 refine⟨⟨⟨o1,p1,by lia,by lia⟩,p2, ?_, ?_⟩,by simp[aw],fun q1 q2=>absurd h1 (by lia), ?_, ?_⟩
 ·rw[e2];split<;>lia
 ·rw[e2];split<;>lia
 ·rw[e3,e2,h1];constructor<;> ((repeat' split) <;>lia)
 ·rw[e3,e2,h1];right;(split<;>split<;>lia)
theorem Ya{l il ir rr:Tr}{a b c a' b' c' x y z:Int}(o1:l.ok)(o2:(node (node il x y z ir) a' b' c' rr).ok)(h1:(node (node il x y z ir) a' b' c' rr).h=l.h+2)(hh:rr.h< (node il x y z ir).h):
  jY l a b c (node (node il x y z ir) a' b' c' rr) (node (node l a b c il) x y z<|node ir a' b' c' rr):=by
 obtain⟨⟨p5,p6,p7,p8⟩,p2,p3,p4⟩:=o2
 have e1:=dq (node il x y z ir) a' b' c' rr
 have e2:=dq il x y z ir
 have e3:=dq l a b c il
 have e4:=dq ir a' b' c' rr
 have e5:=dq (node l a b c il) x y z (node ir a' b' c' rr)
 rw[h1,if_neg (by lia)] at e1
 have k1:l.h=rr.h:=by lia
 have k2:il.h<=l.h/\ir.h<=l.h:=by rw[e2] at e1;split at e1<;>lia
 have k3:l.h - 1<=il.h/\l.h - 1<=ir.h:=by rw[e2] at e1;split at e1<;>lia
 have f3:(node l a b c il).h=l.h+1:=by rw[e3];split<;>lia
 have f4:(node ir a' b' c' rr).h=l.h+1:=by rw[e4];split<;>lia
 have f5:(node (node l a b c il) x y z<|node ir a' b' c' rr).h=l.h+2:=by rw[e5,f3,f4];split<;>lia
 refine⟨⟨⟨o1,p5,by lia,by lia⟩,⟨p6,p2,by lia,by lia⟩,by lia,by lia⟩,by simp[aw],fun q1 q2=>absurd h1 (by lia),by lia,by lia⟩
structure Jn (l:Tr) (a b c:Int) (r t:Tr):Prop where
 ok:t.ok
 aw:t.aw=l.aw++ (a,b,c)::r.aw
 lo:l.h<=t.h/\r.h<=t.h
 hi:t.h<=l.h+1\/t.h<=r.h+1
theorem Yb{l r:Tr}{a b c:Int}(o1:l.ok)(o2:r.ok)(h1:l.h<=r.h+1)(h2:r.h<=l.h+1):Jn l a b c r (node l a b c r):=
 let L:=J4 (a:=a) (b:=b) (c:=c) o1 o2 h1 h2
 ⟨L.ok,L.aw,L.lo,L.hi⟩
theorem Yc{ll lr r j t:Tr}{a b c a' b' c':Int}(o1:(node ll a b c lr).ok)(hh:r.h+1< (node ll a b c lr).h)(J:Jn lr a' b' c' r j)(L:jY ll a b c j t):
  Jn (node ll a b c lr) a' b' c' r t:=by
 obtain⟨p1,p2,p3,p4⟩:=o1
 have e1:=dq ll a b c lr
 have j1:=J.lo
 have j2:=J.hi
 have l1:=L.lo
 have l2:=L.hi
 have l3:=L.near
 have k9:r.h<=lr.h:=by rw[e1] at hh;split at hh<;>lia
 have hj:j.h=lr.h\/j.h=lr.h+1:=by lia
 refine⟨L.ok,by rw[L.aw,J.aw];simp[aw], ?_, ?_⟩
 ·rw[e1]
  by_cases q:ll.h<=j.h+1/\j.h<=ll.h+1
  ·have:=l3 q.1 q.2
   rw[this]
   constructor<;> ((repeat' split) <;>lia)
  ·constructor<;> ((repeat' split) <;>lia)
 ·rw[e1]
  left
  by_cases q:ll.h<=j.h+1/\j.h<=ll.h+1
  ·have:=l3 q.1 q.2
   rw[this]
   split<;>split<;>lia
  ·split<;>lia
theorem Yd{l rl rr j t:Tr}{a b c a' b' c':Int}(o2:(node rl a' b' c' rr).ok)(hh:l.h+1< (node rl a' b' c' rr).h)(J:Jn l a b c rl j)(L:jY j a' b' c' rr t):
  Jn l a b c (node rl a' b' c' rr) t:=by
 obtain⟨p1,p2,p3,p4⟩:=o2
 have e1:=dq rl a' b' c' rr
 have j1:=J.lo
 have j2:=J.hi
 have l1:=L.lo
 have l2:=L.hi
 have l3:=L.near
 have k9:l.h<=rl.h:=by rw[e1] at hh;split at hh<;>lia
 have hj:j.h=rl.h\/j.h=rl.h+1:=by lia
 refine⟨L.ok,by rw[L.aw,J.aw];simp[aw], ?_, ?_⟩
 ·rw[e1]
  by_cases q:j.h<=rr.h+1/\rr.h<=j.h+1
  ·have:=l3 q.1 q.2
   rw[this]
   constructor<;> ((repeat' split) <;>lia)
  ·constructor<;> ((repeat' split) <;>lia)
 ·rw[e1]
  right
  by_cases q:j.h<=rr.h+1/\rr.h<=j.h+1
  ·have:=l3 q.1 q.2
   rw[this]
   split<;>split<;>lia
  ·split<;>lia
theorem Ye{ll lr r j:Tr}{a b c a' b' c':Int}(o1:(node ll a b c lr).ok)(hh:r.h+1< (node ll a b c lr).h)(J:Jn lr a' b' c' r j):ll.h<=j.h+2/\j.h<=ll.h+2:=by
 obtain⟨p1,p2,p3,p4⟩:=o1
 have e1:=dq ll a b c lr
 have j1:=J.lo
 have j2:=J.hi
 have k9:r.h<=lr.h:=by rw[e1] at hh;split at hh<;>lia
 lia
theorem Yf{l rl rr j:Tr}{a b c a' b' c':Int}(o2:(node rl a' b' c' rr).ok)(hh:l.h+1< (node rl a' b' c' rr).h)(J:Jn l a b c rl j):j.h<=rr.h+2/\rr.h<=j.h+2:=by
 obtain⟨p1,p2,p3,p4⟩:=o2
 have e1:=dq rl a' b' c' rr
 have j1:=J.lo
 have j2:=J.hi
 have k9:l.h<=rl.h:=by rw[e1] at hh;split at hh<;>lia
 lia
end Tr
abbrev P3:=Int×Int×Int
def cX(ps:List P3):Int:=(ps.map fun p=>p.2.1).sum
def d9(F:Int->Int):List P3->Int->List P3
 | [],_=> []
 | p::ps,n=>if n<=0 then [] else if p.2.1<=n then p::d9 F ps (n - p.2.1) else [(p.1,n,F (p.1+n) - F p.1)]
def d_(F:Int->Int):List P3->Int->List P3
 | [],_=> []
 | p::ps,n=>if n<=0 then p::ps else if p.2.1<=n then d_ F ps (n - p.2.1) else (p.1+n,p.2.1 - n,p.2.2 - (F (p.1+n) - F p.1))::ps
theorem J5:cX []=0:=rfl
theorem oj(p:P3)(ps:List P3):cX (p::ps)=p.2.1+cX ps:=by simp[cX]
theorem J6(a b:List P3):cX (a++b)=cX a+cX b:=by simp[cX]
theorem J7(F:Int->Int){n:Int}(h:n<=0): ∀ps:List P3,d9 F ps n=[]/\d_ F ps n=ps
 | []=> ⟨rfl,rfl⟩
 | p::ps=>by simp[d9,d_,h]
theorem J8: ∀{ps:List P3},(∀p∈ps,1<=p.2.1)->0<=cX ps
 | [],_=>zbi _
 | p::ps,h=>by
  have:=J8 (ps:=ps) fun q hq=>h q (zau _ hq)
  have:=h p zay
  rw[oj];lia
theorem J9(F:Int->Int)(ys:List P3): ∀(xs:List P3) (n:Int),(∀p∈xs,1<=p.2.1)->n<=cX xs->d9 F (xs++ys) n=d9 F xs n/\d_ F (xs++ys) n=d_ F xs n++ys
 | [],n,_,h=>by
  have h:n<=0:=h
  obtain⟨a,b⟩:=J7 F h ys
  exact⟨a,b⟩
 | p::xs,n,hp,h=>by
  rw[oj] at h
  have ih:=J9 F ys xs (n - p.2.1) (fun q hq=>hp q<|zau _ hq) (by lia)
  simp only[zaZ,d9,d_]
  rw[ih.1,ih.2]
  constructor
  ·rfl
  ·split
   ·rfl
   ·split<;>rfl
theorem A3(F:Int->Int)(ys:List P3): ∀(xs:List P3) (n:Int),(∀p∈xs,1<=p.2.1)->cX xs<=n->d9 F (xs++ys) n=xs++d9 F ys (n - cX xs)/\d_ F (xs++ys) n=d_ F ys (n - cX xs)
 | [],n,_,h=>by rw[J5,Int.sub_zero];exact⟨rfl,rfl⟩
 | p::xs,n,hp,h=>by
  have h1:=hp p zay
  have h2:=J8 fun q hq=>hp q (zau _ hq)
  rw[oj] at h⊢
  have ih:=A3 F ys xs (n - p.2.1) (fun q hq=>hp q<|zau _ hq) (by lia)
  have e:n - p.2.1 - cX xs=n - (p.2.1+cX xs):=by lia
  rw[e] at ih
  simp only[zaZ,d9,d_]
  rw[if_neg (by lia),if_pos (by lia),if_neg (by lia),if_pos (by lia),ih.1,ih.2]
  exact⟨rfl,rfl⟩
theorem sN(F:Int->Int): ∀(xs:List P3) (n:Int),(d9 F xs n).length<=xs.length/\(d_ F xs n).length<=xs.length
 | [],n=> ⟨zqR _,zqR _⟩
 | p::xs,n=>by
  obtain⟨a,b⟩:=sN F xs (n - p.2.1)
  simp only[d9,d_]
  split
  ·exact⟨zqZ _,zqR _⟩
  ·split<;>simp<;>lia
end L2.N
namespace L2.B
def cY(xs:List Int)(most:Int):Nat:=(xs.filter fun x=>decide (x<=most)).length
def p9(xs:List Int):Prop:=xs.Pairwise (· <= ·)
theorem A4(xs:List Int)(most:Int):cY xs most<=xs.length:=List.length_filter_le _ _
theorem A6(a b:List Int)(most:Int):cY (a++b) most=cY a most+cY b most:=by simp[cY]
theorem J_{xs:List Int}{most:Int}(h: ∀x∈xs,x<=most):cY xs most=xs.length:=by
 unfold cY
 rw[List.filter_eq_self.mpr fun x hx=>by simpa using h x hx]
theorem Ka{xs:List Int}{most:Int}(h: ∀x∈xs,most<x):cY xs most=0:=by
 unfold cY
 rw[List.length_eq_zero_iff,List.filter_eq_nil_iff]
 intro x hx
 have:=h x hx
 simp;lia
theorem A8{xs:List Int}{most x:Int}{m:Nat}(h:p9 xs)(g:xs[m]?=some x)(hx:x<=most):m+1<=cY xs most:=by
 have hm:=(zah.mp g).1
 have e:xs=xs.take (m+1)++xs.drop (m+1):=(zaD _ _).symm
 have a: ∀y∈xs.take (m+1),y<=most:=by
  intro y hy
  obtain⟨j,hj,rfl⟩:=zaX hy
  rw[zaf] at hj
  rw[List.getElem_take]
  have e2:xs[m]=x:=(zah.mp g).2
  by_cases q:j=m
  ·subst q;lia
  ·have:=zbo.mp h j m (by lia) hm (by lia)
   lia
 have:cY xs most=cY (xs.take<|m+1) most+cY (xs.drop<|m+1) most:=by rw[<-A6,<-e]
 rw[this,J_ a,zaf]
 lia
theorem Kb{xs:List Int}{most x:Int}{m:Nat}(h:p9 xs)(g:xs[m]?=some x)(hx: ¬x<=most):cY xs most<=m:=by
 have hm:=(zah.mp g).1
 have e:xs=xs.take m++xs.drop m:=(zaD _ _).symm
 have a: ∀y∈xs.drop m,most<y:=by
  intro y hy
  obtain⟨j,hj,rfl⟩:=zaX hy
  rw[zai] at hj
  rw[List.getElem_drop]
  have e2:xs[m]=x:=(zah.mp g).2
  by_cases q:j=0
  ·subst q;simp;lia
  ·have:=zbo.mp h m (m+j) hm (by lia) (by lia)
   lia
 have:cY xs most=cY (xs.take m) most+cY (xs.drop m) most:=by rw[<-A6,<-e]
 have l:=A4 (xs.take m) most
 rw[this,Ka a]
 rw[zaf] at l
 lia
end L2.B
namespace L2.B
open PySem PySem.StrLaws
def pos(c:Nat):List Nat->Nat->List Nat
 | [],_=> []
 | d::r,k=>if d=c then k::pos c r (k+1) else pos c r (k+1)
theorem k_(c:Nat): ∀(a b:List Nat) (k:Nat),pos c (a++b) k=pos c a k++pos c b (k+a.length)
 | [],b,k=>by simp[pos]
 | d::r,b,k=>by
  have ih:=k_ c r b (k+1)
  rw[show k+1+r.length=k+ (d::r).length by simp;lia] at ih
  simp only[zaZ,pos]
  split
  ·rw[ih];rfl
  ·rw[ih]
theorem fc(c:Nat): ∀(a:List Nat) (k:Nat),(pos c a k).length=a.count c
 | [],k=>rfl
 | d::r,k=>by
  simp only[pos]
  rw[List.count_cons]
  split
  ·rename_i h;subst h;simp[fc d r<|k+1]
  ·rename_i h
   have:(d==c)=false:=by simpa using h
   rw[fc c r<|k+1,this];simp
theorem jZ(c:Nat): ∀(a:List Nat) (k i:Nat),i∈pos c a k->k<=i/\i<k+a.length
 | [],k,i,h=>by simp[pos] at h
 | d::r,k,i,h=>by
  simp only[pos] at h
  have go:i∈pos c r (k+1)->k<=i/\i<k+ (d::r).length:=fun z=>by
   have:=jZ c r (k+1) i z
   simp;lia
  split at h
  ·rcases zaa.mp h with rfl | z
   ·simp
   ·exact go z
  ·exact go h
theorem wG(c:Nat): ∀(a:List Nat) (k:Nat),(pos c a k).Pairwise (· < ·)
 | [],k=>by simp[pos]
 | d::r,k=>by
  simp only[pos]
  split
  ·rw[zbp]
   exact⟨fun i hi=>by have:=jZ c r (k+1) i hi;lia,wG c r<|k+1⟩
  ·exact wG c r (k+1)
def fM(c:Nat)(a:List Nat):List Int:=(pos c a 0).map fun(i:Nat)=> (i:Int)
theorem Yg(c:Nat)(a:List Nat):p9 (fM c a):=by
 unfold p9 fM
 rw[List.pairwise_map]
 exact(wG c a 0).imp fun h=>by lia
theorem Yh(c:Nat)(a:List Nat)(n:Nat):cY (fM c a) ((n:Int) - 1)=(a.take n).count c:=by
 have e:a=a.take n++a.drop n:=(zaD _ _).symm
 have e1:fM c a=fM c (a.take n)++ ((pos c (a.drop n) (a.take n).length).map fun(i:Nat)=> (i:Int)):=by
  unfold fM
  conv=>lhs;rw[e]
  rw[k_,zap,zaE]
 rw[e1,A6,J_,Ka]
 ·unfold fM
  rw[zag,fc];simp
 ·intro x hx
  obtain⟨i,hi,rfl⟩:=zaL.mp hx
  have h:=jZ _ _ _ _ hi
  rw[zaf,zai] at h
  lia
 ·intro x hx
  obtain⟨i,hi,rfl⟩:=zaL.mp hx
  have h:=jZ _ _ _ _ hi
  rw[zaf] at h
  lia
theorem Kc(c:Nat): ∀(l:List Nat) (k i:Nat) (done rest:List Nat),pos c l k=done++i::rest->pos c (l.drop<|i+1 - k) (i+1)=rest
 | [],k,i,done,rest,h=>by
  simp[pos] at h
 | d::r,k,i,done,rest,h=>by
  have hi:=jZ c (d::r) k i (by rw[h];simp)
  simp only[pos] at h
  have go: ∀dn,pos c r (k+1)=dn++i::rest->pos c ((d::r).drop<|i+1 - k) (i+1)=rest:=fun dn hd=>by
   have h2:=jZ c r (k+1) i (by rw[hd];simp)
   have ih:=Kc c r (k+1) i dn rest hd
   rw[show i+1 - k=(i+1 - (k+1))+1 by lia,List.drop_succ_cons]
   exact ih
  split at h
  ·cases done with
   | nil=>
    simp only[zbx,List.cons.injEq] at h
    obtain⟨rfl,h⟩:=h
    rw[show k+1 - k=1 by lia,List.drop_succ_cons,zaM]
    exact h
   | cons e dn=>
    simp only[zaZ,List.cons.injEq] at h
    exact go dn h.2
  ·exact go done h
theorem sO(c:Nat): ∀(l:List Nat) (k j:Nat),pos c l (k+j)=(pos c l j).map (k+ ·)
 | [],k,j=>rfl
 | d::r,k,j=>by
  have ih:=sO c r k (j+1)
  rw[<-Nat.add_assoc] at ih
  simp only[pos]
  split
  ·rw[ih];rfl
  ·exact ih
theorem Yi(c:Nat)(a b:List Nat):fM c (a++b)=fM c a++ ((pos c b 0).map fun(i:Nat)=> ((a.length:Nat):Int)+ (i:Int)):=by
 unfold fM
 rw[k_,zap,zaE]
 congr 1
 have:=sO c b a.length 0
 rw[Nat.add_zero] at this
 rw[this,List.map_map]
 apply List.map_congr_left
 intro i _
 show((a.length+i:Nat):Int)=_
 lia
theorem wH(x y:Str)(hy:y.length=1)(hi lim:Nat): ∀(n lo:Nat) (acc:Array Nat) (free:Nat),free<=lo->
  ((forIn (List.range' lo n) (acc,free)<|occBody x y hi lim).run.fst.toList=acc.toList++ ((List.range' lo n).filter fun i=>decide (i+1<=hi) && Builtin.Str.subAt x y i).take (lim - acc.size))
 | 0,lo,acc,free,hf=>by simp
 | n+1,lo,acc,free,hf=>by
  rw[List.range'_succ,List.forIn_cons]
  unfold occBody
  rw[hy]
  by_cases hp:lo+1<=hi/\Builtin.Str.subAt x y lo=true
  ·have e:(decide (lo+1<=hi) && Builtin.Str.subAt x y lo)=true:=by simp[hp.1,hp.2]
   by_cases hs:acc.size<lim
   ·rw[if_pos ⟨⟨⟨hs,hf⟩,hp.1⟩,hp.2⟩]
    have ih:=wH x y hy hi lim n (lo+1) (acc.push lo) (lo+1) (zqR _)
    unfold occBody at ih
    rw[hy] at ih
    refine Eq.trans ih ?_
    rw[List.filter_cons_of_pos (by exact e)]
    have e2:lim - acc.size=(lim - (acc.push lo).size)+1:=by rw[Array.size_push];lia
    rw[e2,zbP]
    simp
   ·rw[if_neg<|fun z=>hs z.1.1.1]
    have ih:=wH x y hy hi lim n (lo+1) acc free (by lia)
    unfold occBody at ih
    rw[hy] at ih
    refine Eq.trans ih ?_
    have e2:lim - acc.size=0:=by lia
    rw[e2];simp
  ·rw[if_neg<|fun z=>hp ⟨z.1.2,z.2⟩]
   have e: ¬(decide (lo+1<=hi) && Builtin.Str.subAt x y lo)=true:=by
    intro z
    simp only[zab,decide_eq_true_eq] at z
    exact hp z
   have ih:=wH x y hy hi lim n (lo+1) acc free (by lia)
   unfold occBody at ih
   rw[hy] at ih
   refine Eq.trans ih ?_
   rw[zbQ (by exact e)]
theorem Yj(x:Str)(c i:Nat):Builtin.Str.subAt x ⟨#[c]⟩ i=decide (x.cps[i]?=some c):=by
 unfold Builtin.Str.subAt
 have e:(⟨#[c]⟩:Str).length=1:=rfl
 rw[e,show(⟨#[c]⟩:Str).cps= #[c] from rfl]
 by_cases h:i<x.cps.size
 ·have e2:x.cps.extract i (i+1)= #[x.cps[i]]:=by
   apply Array.ext
   ·simp;lia
   ·intro j h1 h2
    simp at h1 h2⊢
    have:j=0:=by lia
    subst this;rfl
  rw[e2,Array.getElem?_eq_getElem h]
  by_cases q:x.cps[i]=c
  ·subst q;simp
  ·have: ¬(#[x.cps[i]]= #[c]):=fun z=>q (by injection z with z;injection z)
   simp[q]
 ·have e2:x.cps.extract i (i+1)= #[]:=by
   apply zaY
   simp;lia
  rw[e2,Array.getElem?_eq_none (by lia)]
  simp
theorem Kd(c:Nat): ∀(l:List Nat) (k:Nat) (p:Nat->Bool),(∀i,i<l.length->p (k+i)=decide (l[i]?=some c))->(List.range' k l.length).filter p=pos c l k
 | [],k,p,h=>rfl
 | d::r,k,p,h=>by
  rw[zar,List.range'_succ]
  have h0:p k=decide (d=c):=by
   have:=h 0 (Nat.zero_lt_succ _)
   simpa using this
  have ih:=Kd c r (k+1) p fun i hi=>by
   have:=h (i+1) (Nat.succ_lt_succ hi)
   rw[show k+1+i=k+ (i+1) by lia,this];simp
  by_cases e:d=c
  ·rw[List.filter_cons_of_pos (by rw[h0];simpa using e),ih,pos,if_pos e]
  ·rw[zbQ (by rw[h0];simpa using e),ih,pos,if_neg e]
theorem wI(x:Str)(c lo lim:Nat)(hl:lo<=x.length):Builtin.Str.occurrences x ⟨#[c]⟩ lo x.length lim=(pos c (x.cps.toList.drop lo) lo).take lim:=by
 have hx:x.cps.toList.length=x.length:=by simp[Str.length]
 rw[occ_eq,wH x _ rfl x.length lim _ lo #[] lo (zqR _)]
 simp only[zbx,Array.size_empty,zbn]
 congr 1
 have e:x.length+1 - lo=(x.cps.toList.drop lo).length+1:=by rw[zai,hx];lia
 rw[e,List.range'_concat,List.filter_append]
 rw[Kd c (x.cps.toList.drop lo) lo]
 ·have: ¬(lo+1* (x.cps.toList.drop lo).length+1<=x.length):=by rw[zai,hx];lia
  rw[zbQ (by rw[zqF this];simp)]
  simp
 ·intro i hi
  rw[Yj]
  rw[zai,hx] at hi
  rw[zqT (show lo+i+1<=x.length by lia),Bool.true_and,zbR,Array.getElem?_toList]
end L2.B
namespace L2.B
open PySem PySem.Spec PyProof.Rows
def sP(H H':Hp):Prop:= ∀b xs,H b=some (.tup xs)->H' b=some (.tup xs)
theorem cA{H H':Hp}(h:aC H H'):sP H H':=fun b xs e=>h b _ e
theorem sameNew{H:Hp}{p:Addr}{o:HO}(h:H p=none):aC H (upd H p o):=fun b u e=>by rw[aR<|bT e h];exact e
def bo(c:Addr)(H H':Hp):Prop:= ∀b o,H b=some o->b≠c->H' b=some o
theorem bo.upd{H:Hp}{c:Addr}{o:HO}:bo c H (upd H c o):=fun b u e n=>by rw[aR n];exact e
theorem bo.trans{c:Addr}{H H1 H2:Hp}(a:bo c H H1)(b:bo c H1 H2):bo c H H2:=fun d o e n=>b d o (a d o e n) n
theorem Ke{c:Addr}{H H1 H2:Hp}(a:aC H H1)(hc:H c=none)(b:bo c H1 H2):aC H H2:=fun d o e=>b d o (a d o e) (bT e hc)
theorem bo.eA{c:Addr}{H H':Hp}{xs:List V}(h:bo c H H')(hc:H c=some (.lst xs)):sP H H':=fun b ys e=>h b _ e (fun z=>by rw[z,hc] at e;cases e)
theorem iF{c:Bool}{A B:Prop}(q:B)(h:c=false:=by first | rfl | decide):if c=true then A else B:=by
 rw[h];exact rq q
theorem iT{c:Bool}{A B:Prop}(q:A)(h:c=true:=by first | rfl | decide):if c=true then A else B:=by
 rw[h];exact kN q
def wJ:Sp:=fun vs H Q E=> ∃i,vs=[.int i]/\Q (.bl true) H
theorem cp{n:Nat}(h:n<=1000000):n<=sizeLine:=zaq h (by decide)
theorem gg{n:Nat}(h:n<=1000000):n<sizeLine:=Nat.lt_of_le_of_lt h (by decide)
def cell(ns:List Int)(k:Nat):Int:=ns.getD k 0
def A9(K:Frag):Sp:=fun vs H Q E=> ∃(a:Addr) (ns:List Int) (k:Int),vs=[.ref a, .int k]/\aB K H a (ns.map V.int)/\0<=k/\Q (.int<|cell ns k.toNat) H
theorem Yk{K:Frag}(vs:List V)(H:Hp)(Q:VK)(E:XK)(h:A9 K vs H Q E):av (aI K [] [] (E:=E)) F5 {nx:=fun _ H'=>Q .aA H',rt:=Q} (start F4 vs) H:=by
 obtain⟨a,ns,k,rfl,ha,hk,q⟩:=h
 refine⟨_,rfl,_,rfl, .inl ⟨_,ha,trivial,_,rfl, ?_⟩⟩
 rw[zag]
 refine gE (fun h=> ?_)<|fun h=> ?_
 ·have aW:k< (ns.length:Int):=of_decide_eq_true h
  refine⟨_,rfl,_,rfl, .inl ⟨_,_,_,_,rfl,rfl,ha, ?_,q⟩⟩
  have e:=ij (xs:=ns.map V.int) (j:=k.toNat) (v:= .int (cell ns k.toNat)) (by
   have:k.toNat<ns.length:=by lia
   simp[cell,this])
  rw[show((k.toNat:Nat):Int)=k by lia] at e
  exact e
 ·have om: ¬k< (ns.length:Int):=fun z=>h (zqT z)
  have e:cell ns k.toNat=0:=by
   have z:ns[k.toNat]?=none:=List.getElem?_eq_none_iff.mpr (by lia)
   unfold cell
   rw[List.getD_eq_getElem?_getD,z];rfl
  rw[e] at q
  exact q
def SG:Str:=" !\"#$&'()*+,-./0123456789:;<=>?@ABCDEFGHIJKLMNOPQRSTUVWXYZ[\\]^_`abcdefghijklmnopqrstuvwxyz{|}~\n"
def good(x:Str):Prop:=x.length<=1000000/\ ∀c∈x.cps.toList,SG.cps.contains c=true
theorem takeWhile_all{α:Type}(p:α->Bool): ∀l:List α,(∀c∈l,p c=true)->l.takeWhile p=l
 | [],_=>rfl
 | c::l,h=>by rw[zaN,h c zay,takeWhile_all p l fun d hd=>h d (zau _ hd)];rfl
theorem Yl(x y:Str)(h: ∀c∈x.cps.toList,y.cps.contains c=true):Txt.lstripChars x y="":=by
 have e0:stripLo y.cps.contains true x=x.length:=by
  unfold stripLo
  rw[if_pos rfl,takeWhile_all _ _ h]
  simp[Str.length]
 have e1:stripHi y.cps.contains false x x.length=x.length:=rfl
 unfold Txt.lstripChars Txt.stripBy stripSame stripped
 rw[e0,e1]
 split
 ·rename_i hq
  simp only[zab,beq_iff_eq] at hq
  have:x.cps= #[]:=zaY hq.1
  obtain⟨c⟩:=x
  have e:c= #[]:=this
  subst e
  rfl
 ·show(⟨x.cps.extract x.length x.length⟩:Str)=_
  have:x.cps.extract x.length x.length= #[]:=by simp[Str.length]
  rw[this];rfl
theorem wK{H:Hp}{a:Addr}{xs:List V}{T:Ty}{k:Bool->Prop}(h:H a=some (.tup xs))(q:k (T== .tuple)):bN T (.ref a) H k:=by
 show(match H a with | some (.lst _)=>k (T== .list) | some (.bE _<|.lst _)=>k (T== .list) | some (.tup _)=>k (T== .tuple) | some (.dK _)=>k (T== .dict) | some (.dT _)=>k (T== .dict) | _=>False)
 rw[h];exact q
theorem sQ{H:Hp}{a:Addr}{xs:List V}{T:Ty}{k:Bool->Prop}(h:H a=some (.lst xs))(q:k (T== .list)):bN T (.ref a) H k:=by
 show(match H a with | some (.lst _)=>k (T== .list) | some (.bE _<|.lst _)=>k (T== .list) | some (.tup _)=>k (T== .tuple) | some (.dK _)=>k (T== .dict) | some (.dT _)=>k (T== .dict) | _=>False)
 rw[h];exact q
abbrev gS:List (Str×V):=[("SIGNS", .str SG)]
def Ym:Sp:=fun vs H Q E=> ∃x,vs=[.str x]/\good x/\Q (.bl true) H
theorem Yn{K:Frag}(vs:List V)(H:Hp)(Q:VK)(E:XK)(h:Ym vs H Q E):av (aI K [] gS (E:=E)) Av {nx:=fun _ H'=>Q .aA H',rt:=Q} (start g4 vs) H:=by
 obtain⟨x,rfl,hx,q⟩:=h
 refine⟨_,rfl,rfl,_,rfl,kN ⟨_,rfl,rfl,cp hx.1, ?_⟩⟩
 show Q (.bl<|false ^^ decide (V.str (Txt.lstripChars x SG)=V.str "")) H
 rw[Yl x SG hx.2,zqT rfl]
 exact q
def sS(K:Frag):Sp:=fun vs H Q E=> ∃w p xs,vs=[.str w, .ref p]/\ba K H p xs/\xs.all ei=true/\Q (.bl<|iV (.str w) xs) H
theorem A_{K:Frag}(vs:List V)(H:Hp)(Q:VK)(E:XK)(h:sS K vs H Q E):av (aI K [] [] (E:=E)) Au {nx:=fun _ H'=>Q .aA H',rt:=Q} (start As vs) H:=by
 obtain⟨w,p,xs,rfl,hp,hf,q⟩:=h
 exact⟨_,rfl,rfl,_,rfl,kN ⟨_,rfl,_,rfl,p,xs,rfl,(.inr hp),rfl,hf,q⟩⟩
def cat(ts:List Str):Str:=Txt.join "" ts
def sz(ts:List Str):Nat:=(ts.map Str.length).sum
theorem p_(ts:List Str):(cat ts).cps.toList=(ts.map fun t=>t.cps.toList).flatten:=by
 have e:(Str.ofString "").cps= #[]:=rfl
 cases ts with
 | nil=>rfl
 | cons t r=>
  show(r.foldl (fun acc p=>acc++ (Str.ofString "").cps++p.cps) t.cps).toList=_
  rw[e]
  have go: ∀(r:List Str) (acc:Array Nat),(r.foldl (fun acc p=>acc++ #[]++p.cps) acc).toList=acc.toList++ (r.map fun t=>t.cps.toList).flatten:=by
   intro r
   induction r with
   | nil=>intro acc;simp
   | cons q r ih=>
    intro acc
    show(r.foldl (fun acc p=>acc++ #[]++p.cps)<|acc++ #[]++q.cps).toList=_
    rw[ih];simp
  rw[go];simp
theorem mD{x y:Str}(h:x.cps.toList=y.cps.toList):x=y:=by
 obtain⟨x⟩:=x
 obtain⟨y⟩:=y
 exact congrArg Str.mk<|Array.toList_inj.mp h
theorem app_list(x y:Str):(x++y).cps.toList=x.cps.toList++y.cps.toList:=by
 show(x.cps++y.cps).toList=_
 simp
theorem Yo(a b:List Str):cat (a++b)=cat a++cat b:=mD (by rw[app_list,p_,p_,p_];simp)
theorem Yp(x:Str):cat [x]=x:=mD (by rw[p_];simp)
theorem Yq:cat []="":=rfl
theorem len_list(x:Str):x.length=x.cps.toList.length:=by simp[Str.length]
theorem Kf(ts:List Str):(cat ts).length=sz ts:=by
 rw[len_list,p_,List.length_flatten]
 unfold sz
 rw[List.map_map]
 congr 1
theorem joinOk_of{ts:List Str}(h:sz ts<=1000000):JoinOk "" ts=true:=by
 have go: ∀(l:List Str) (n:Nat),l.foldl (· + ·.length+ (Str.ofString "").length) n=n+sz l:=by
  intro l
  induction l with
  | nil=>intro n;rfl
  | cons t r ih=>
   intro n
   show r.foldl _ (n+t.length+0)=_
   rw[ih]
   show n+t.length+0+sz r=n+ (t.length+sz r)
   lia
 unfold JoinOk
 have e:ts.toArray.foldl (· + ·.length+ (Str.ofString "").length) 0=sz ts:=by
  rw[List.foldl_toArray,go,zaE]
 rw[e]
 show(!decide (sz ts>sizeLine))=true
 rw[zqF (by have:=cp h;lia)]
 rfl
abbrev Dn(Q:VK):Ends:={nx:=fun _ H'=>Q .aA H',rt:=Q}
theorem Kg(x y:Str):(x++y).length=x.length+y.length:=by rw[len_list,app_list,zqA,<-len_list,<-len_list]
theorem qa{k:Str}{v:V}{r:List (Str×V)}:((k,v)::r).lookup k=some v:=by simp[List.lookup]
theorem hU{k j:Str}{v:V}{r:List (Str×V)}(h: ¬k=j):((j,v)::r).lookup k=r.lookup k:=by
 have:(k==j)=false:=by simpa using h
 simp[List.lookup,this]
theorem Yr{k:Str}{v w:V}{r:List (Str×V)}:b7 k v ((k,w)::r)=(k,v)::r:=by simp[b7]
theorem j0{k j:Str}{v w:V}{r:List (Str×V)}(h: ¬j=k):b7 k v ((j,w)::r)=(j,w)::b7 k v r:=by simp[b7,h]
end L2.B
namespace L2.B
end L2.B
namespace L2.B
end L2.B
namespace L2.B
open PySem PySem.Spec PyProof.Rows
theorem cI{K:Frag}{sd:Addr->List (Key×V)->Prop}{H:Hp}{a:Addr}{xs:List V}{i:Int}{v:V}{Q:VK}(h:H a=some (.lst xs))(e:dO xs i=some v)(q:Q v H):l_ K sd (.ref a) (.int i) H Q:=
 .inl ⟨_,_,_,_,rfl,rfl,aB.of h,e,q⟩
def wL:Sp:=fun vs H Q E=> ∃(a:Addr) (xs:List Int) (most:Int),vs=[.ref a, .int most]/\H a=some (.lst<|xs.map V.int)/\p9 xs/\Q (.int<|cY xs most) H
theorem Ys{K:Frag}(vs:List V)(H:Hp)(Q:VK)(E:XK)(h:wL vs H Q E):av (aI K [] [] (E:=E)) Ga {nx:=fun _ H'=>Q .aA H',rt:=Q} (start F_ vs) H:=by
 obtain⟨a,xs,most,rfl,ha,hr,q⟩:=h
 have hc:=A4 xs most
 refine⟨_,rfl, .inl ⟨_,aB.of ha, ?_⟩⟩
 rw[zag]
 refine⟨fun m σ H'=> ∃(lo hi:Nat) (w:Option V),m=hi - lo/\σ=[some (.ref a),some (.int most),some (.int lo),some (.int hi),w]/\lo<=cY xs most/\cY xs most<=hi/\hi<=xs.length/\H'=H,
  ⟨_,0,xs.length,none,rfl,rfl,zqZ _,hc,zqR _,rfl⟩, ?_⟩
 rintro m σ H' ⟨lo,hi,w,rfl,rfl,h1,h2,h3,rfl⟩
 refine⟨_,rfl,_,rfl,trivial,_,rfl, ?_⟩
 refine gE (fun h=> ?_)<|fun h=> ?_
 ·have aW:(lo:Int) < (hi:Int):=of_decide_eq_true h
  refine⟨_,fun σ' Kh q=>q, ?_⟩
  refine⟨_,rfl,_,rfl,⟨by decide,by decide⟩, ?_⟩
  have hk:(lo+hi) / 2<xs.length:=by lia
  generalize hkk:(lo+hi) / 2=k at hk
  have hm:((lo:Int)+ (hi:Int)) / 2=(k:Int):=by lia
  show av _ _ _ [some<|V.ref a,some<|V.int most,some<|V.int lo,some<|V.int hi,some<|V.int<|((lo:Int)+ (hi:Int)) / 2] _
  rw[hm]
  have gk:xs[k]?=some xs[k]:=zav hk
  have ik:dO (xs.map V.int) (k:Int)=some (.int xs[k]):=ij (by rw[zak,gk];rfl)
  refine⟨_,rfl,_,rfl,cI ha ik ⟨_,rfl,trivial,_,rfl, ?_⟩⟩
  refine gE (fun g=> ?_)<|fun g=> ?_
  ·have hle:xs[k]<=most:=of_decide_eq_true g
   exact⟨_,rfl,hi - (k+1),by lia,k+1,hi,some<|V.int k,rfl,rfl,A8 hr gk hle,h2,h3,rfl⟩
  ·have hle: ¬xs[k]<=most:=fun z=>g (zqT z)
   exact⟨_,rfl,k - lo,by lia,lo,k,some<|V.int k,rfl,rfl,h1,Kb hr gk hle,by lia,rfl⟩
 ·have hle: ¬(lo:Int) < (hi:Int):=fun z=>h (zqT z)
  have e:cY xs most=lo:=by lia
  rw[e] at q
  exact⟨_,rfl,q⟩
def Yt(K:Frag)(p:Addr)(xs:List V):Prop:= ∀H,ba K H p xs
theorem Yu{T:Ty}{v:V}{H:Hp}{P Q:Bool->Prop}(h:bN T v H P)(i: ∀b,P b->Q b):bN T v H Q:=by
 cases v with
 | ref a=>
  unfold bN at h⊢
  simp only at h⊢
  split at h
  all_goals first | exact i _ h | exact h.elim
 | aA=>exact i _ h
 | bl b=>exact i _ h
 | int _=>exact i _ h
 | str _=>exact i _ h
 | _=>exact False.elim h
theorem Yv{T:Ty}{v:V}{H H':Hp}{P:Bool->Prop}(h:bN T v H P)(s:aC H H'):bN T v H' P:=by
 cases v with
 | ref a=>
  unfold bN at h⊢
  simp only at h⊢
  cases e:H a with
  | none=>rw[e] at h;exact h.elim
  | some o=>rw[e] at h;rw[s _ _ e];exact h
 | aA=>exact h
 | bl b=>exact h
 | int _=>exact h
 | str _=>exact h
 | _=>exact False.elim h
def iE(T:Ty)(v:V)(H:Hp):Prop:=bN T v H fun b=>b=false
theorem iE.same{T:Ty}{v:V}{H H':Hp}(h:iE T v H)(s:aC H H'):iE T v H':=Yv h s
theorem iE.go{T:Ty}{v:V}{H:Hp}{Q:Bool->Prop}(h:iE T v H)(q:Q false):bN T v H Q:=Yu h fun b e=>by rw[e];exact q
def Yw(x:Str):Bool:=x.cps.toList.all fun c=>SG.cps.contains c
theorem Ki{α:Type}(p:α->Bool): ∀l:List α,l.all p=false->(l.takeWhile p).length<l.length
 | [],h=>by cases h
 | c::l,h=>by
  rw[zaN]
  cases hc:p c with
  | false=>simp
  | true=>
   rw[zaS,hc,Bool.true_and] at h
   have:=Ki p l h
   simp;lia
theorem Yx(x y:Str)(h:(x.cps.toList.all fun c=>y.cps.contains c)=false):Txt.lstripChars x y≠"":=by
 have lt:=Ki _ _ h
 have e0:stripLo y.cps.contains true x=(x.cps.toList.takeWhile y.cps.contains).length:=by
  unfold stripLo
  rw[if_pos rfl]
 have e1: ∀n,stripHi y.cps.contains false x n=x.length:=fun n=>rfl
 intro z
 have z2:=congrArg Str.length z
 have l0:(Str.ofString "").length=0:=rfl
 rw[l0] at z2
 unfold Txt.lstripChars Txt.stripBy stripSame stripped at z2
 rw[e0,e1] at z2
 have hx:x.cps.size=x.cps.toList.length:=by simp
 split at z2
 ·have:x.cps.size=0:=z2
  lia
 ·have z3:(x.cps.extract (x.cps.toList.takeWhile y.cps.contains).length x.cps.size).size=0:=z2
  rw[zbS,Nat.min_self] at z3
  have z4:x.cps.size - (List.takeWhile (fun c=>y.cps.contains c) x.cps.toList).length=0:=z3
  lia
def Ba(v:V)(H:Hp):Prop:=(∃x,v= .str x/\x.length<=1000000/\Yw x=false)\/iE .str v H
def sT(v:V)(H:Hp):Prop:=(∃b,v= .bl b)\/iE .int v H
theorem sT.same{v:V}{H H':Hp}(h:sT v H)(s:aC H H'):sT v H':=by
 rcases h with h | h
 ·exact .inl h
 ·exact .inr (h.same s)
def lj:Sp:=fun vs H Q E=> ∃v,vs=[v]/\((∃i,v= .int i/\Q (.bl true) H)\/(sT v H/\Q (.bl false) H))
theorem Yy{K:Frag}(vs:List V)(H:Hp)(Q:VK)(E:XK)(h:lj vs H Q E):av (aI K [] [] (E:=E)) F0 (Dn Q) (start g4 vs) H:=by
 obtain⟨v,rfl,⟨i,rfl,q⟩ | ⟨⟨b,rfl⟩ | hn,q⟩⟩:=h
 ·exact⟨_,rfl,rfl,_,rfl,kN ⟨_,rfl,rfl,q⟩⟩
 ·exact⟨_,rfl,rfl,_,rfl,kN ⟨_,rfl,rfl,q⟩⟩
 ·exact⟨_,rfl,rfl,hn.go ⟨_,rfl,rq q⟩⟩
def Kj:Sp:=fun vs H Q E=> ∃v,vs=[v]/\((∃x,v= .str x/\good x/\Q (.bl true) H)\/(Ba v H/\Q (.bl false) H))
theorem Yz{K:Frag}(vs:List V)(H:Hp)(Q:VK)(E:XK)(h:Kj vs H Q E):av (aI K [] gS (E:=E)) Av (Dn Q) (start g4 vs) H:=by
 obtain⟨v,rfl,⟨x,rfl,hx,q⟩ | ⟨⟨x,rfl,hl,hx⟩ | hn,q⟩⟩:=h
 ·exact Yn _ _ _ _ ⟨x,rfl,hx,q⟩
 ·refine⟨_,rfl,rfl,_,rfl,kN ⟨_,rfl,rfl,cp hl, ?_⟩⟩
  show Q (.bl<|false ^^ decide (V.str (Txt.lstripChars x SG)=V.str "")) H
  rw[zqF<|fun z=>Yx x SG hx (by injection z)]
  exact q
 ·exact⟨_,rfl,rfl,hn.go ⟨_,rfl,rq q⟩⟩
abbrev YA:List (Str×Sp):=[("is_text",Kj)]
def wM(C:Addr):Sp:=fun vs H Q E=> ∃v,vs=[v]/\((∃x,v= .str x/\good x/\Q .aA H)\/(Ba v H/\E (.ref C) none H))
theorem YB{K:Frag}{C:Addr}(vs:List V)(H:Hp)(Q:VK)(E:XK)(h:wM C vs H Q E):av (aI K YA [] (et:=[("BadText",C)]) (E:=E)) F3 (Dn Q) (start g4 vs) H:=by
 obtain⟨v,rfl,⟨x,rfl,hx,q⟩ | ⟨hn,q⟩⟩:=h
 ·exact⟨_,rfl,_,rfl, .inl ⟨x,rfl,hx,q⟩⟩
 ·exact⟨_,rfl,_,rfl, .inr ⟨hn,(by show 1<=sizeLine;decide),q⟩⟩
def oo(K:Frag):Sp:=fun vs H Q E=> ∃v p xs,vs=[v, .ref p]/\ba K H p xs/\xs.all ei=true/\((∃w,v= .str w/\Q (.bl<|iV (.str w) xs) H)\/(iE .str v H/\Q (.bl false) H))
theorem YC{K:Frag}(vs:List V)(H:Hp)(Q:VK)(E:XK)(h:oo K vs H Q E):av (aI K [] [] (E:=E)) Au (Dn Q) (start As vs) H:=by
 obtain⟨v,p,xs,rfl,hp,hf,⟨w,rfl,q⟩ | ⟨hn,q⟩⟩:=h
 ·exact A_ _ _ _ _ ⟨w,p,xs,rfl,hp,hf,q⟩
 ·exact⟨_,rfl,rfl,hn.go ⟨_,rfl,rq q⟩⟩
def fN(a b:Sp):Sp:=fun vs H Q E=>a vs H Q E\/b vs H Q E
end L2.B
namespace L2
open PySem PySem.Spec PyProof.Rows
section
variable {Γ:aX} {D:Ends} {σ:St} {H:Hp} {r:List RS} {Q:VK} {QA:List V->Hp->Prop} {QT:Bool->Hp->Prop}
theorem ag{i:Nat}{v:V}(h:σ[i]?=some (some v))(q:Q v H):aj Γ (.v i) σ H Q:=⟨_,h,q⟩
theorem ao{v:V}(q:Q v H):aj Γ (.c v) σ H Q:=q
theorem gh{j:Nat}(q:Q (Γ.gv j) H):aj Γ (.g j) σ H Q:=q
theorem aN{op:Operator}{a b:RE}(h:aj Γ a σ H fun x H1=>aj Γ b σ H1 fun y H2=>lZ Γ.K op x y H2 Q):aj Γ (.bin op a b) σ H Q:=h
theorem cZ{op:CmpOp}{a b:RE}(h:aj Γ a σ H fun x H1=>aj Γ b σ H1 fun y H2=>b9 Γ.K op x y H2 Q):aj Γ (.cmp op a b) σ H Q:=h
theorem aU{a b:RE}(h:aj Γ a σ H fun x H1=>aj Γ b σ H1 fun y H2=>l_ Γ.K Γ.sd x y H2 Q):aj Γ (.ix a b) σ H Q:=h
theorem YD{j:Nat}{as:List RE}(h:aZ Γ as σ H fun vs H1=>Γ.fs j (vs++ []) H1 Q Γ.E):aj Γ (.call j as) σ H Q:=h
theorem aP{j:Nat}{as:List RE}(sp:Sp)(hs:Γ.fs j=sp)(h:aZ Γ as σ H fun vs H1=>sp vs H1 Q Γ.E):aj Γ (.call j as) σ H Q:=by
 subst hs
 refine YD ?_
 have e:(fun(vs:List V) (H1:Hp)=>Γ.fs j (vs++ []) H1 Q Γ.E)=fun vs H1=>Γ.fs j vs H1 Q Γ.E:=by
  funext vs H1;rw[zaC]
 rw[e];exact h
theorem dr{b:l8}{as:List RE}(h:aZ Γ as σ H fun vs H1=>pv Γ.K b vs H1 Q):aj Γ (.blt b as) σ H Q:=h
theorem dS{as:List RE}(h:aZ Γ as σ H fun xs H1=>xs.length<=sizeLine/\ ∀p,H1 p=none->Q (.ref p) (upd H1 p<|.tup xs)):aj Γ (.tup as) σ H Q:=h
theorem bS{as:List RE}(h:aZ Γ as σ H fun xs H1=>xs.length<=sizeLine/\ ∀p,H1 p=none->Q (.ref p) (upd H1 p<|.lst xs)):aj Γ (.lst as) σ H Q:=h
theorem YE{a c:RE}(h:aj Γ a σ H fun x H1=>aj Γ c σ H1 fun y H2=>jJ Γ.K [x,y] H2 Q):aj Γ (.dg a c) σ H Q:=h
theorem Kk{a c:RE}(h:aj Γ a σ H fun x H1=>aj Γ c σ H1 fun y H2=>jJ Γ.K [x,y] H2 fun z H3=>gY Γ.K z H3 fun b=>QT b H3):bf Γ (.dg a c) σ H QT:=h
theorem az(q:QA [] H):aZ Γ [] σ H QA:=q
theorem ah{a:RE}{as:List RE}(h:aj Γ a σ H fun x H1=>aZ Γ as σ H1 fun xs H2=>QA (x::xs) H2):aZ Γ (a::as) σ H QA:=h
theorem aO{i:Nat}{e:RE}(h:aj Γ e σ H fun x H1=>av Γ r D (σ.set i<|some x) H1):av Γ (.asg i e::r) D σ H:=h
theorem eJ{e:RE}(h:aj Γ e σ H fun _ H1=>av Γ r D σ H1):av Γ (.drop e::r) D σ H:=h
theorem aY{e:RE}(h:aj Γ e σ H D.rt):av Γ (.ret e::r) D σ H:=h
end
end L2
namespace L2.B
open PySem PySem.Spec PyProof.Rows
structure qb (K:Frag) (cs:List Addr) (c_:Addr) (D:Addr) (j:Nat):Prop where
 cls:pj K D
 Kl: ∀i c,cs[i]?=some c->kitOne K (.ref D) (.ref c)=some (decide<|i=j)
 c_:kitOne K (.ref D) (.ref c_)=some true
 val:kitOne K (.ref D) (.type "ValueError")=some true
theorem _root_.L2.ExcAt.same{H H':Hp}{ea D:Addr}(h:ExcAt H ea D)(s:aC H H'):ExcAt H' ea D:=ExcAt.keeps h fun b o u e=>s b _ e
section
variable {Γ:aX} {cs:List Addr} {c_ ea D:Addr} {j:Nat}
end
theorem YF{Γ:aX}{i g:Nat}{ea D C:Addr}{b:Bool}{σ:St}{H:Hp}{Q:Bool->Hp->Prop}(h0:σ[i]?=some (some<|.ref ea))(he:ExcAt H ea D)(hc:pj Γ.K D)(hg:Γ.gv g= .ref C)(hk:kitOne Γ.K (.ref D) (.ref C)=some b)(q:Q b H):bf Γ (.dg (.v i)<|.g g) σ H Q:=by
 have key: ∀k:VK,jJ Γ.K [.ref ea, .ref C] H k->jJ Γ.K [.ref ea,Γ.gv g] H k:=by
  intro k;rw[hg];exact id
 exact Kk<|ag h0<|gh<|key _ ⟨D,b,he,hc, .inl ⟨_,rfl⟩,hk,q⟩
theorem YG{Γ:aX}{i:Nat}{ea D:Addr}{n:String}{b:Bool}{σ:St}{H:Hp}{Q:Bool->Hp->Prop}(h0:σ[i]?=some (some<|.ref ea))(he:ExcAt H ea D)(hc:pj Γ.K D)(hk:kitOne Γ.K (.ref D) (.type n)=some b)(q:Q b H):bf Γ (.dg (.v i)<|.c<|.ty n) σ H Q:=
 Kk (ag h0<|ao ⟨D,b,he,hc, .inr ⟨_,rfl⟩,hk,q⟩)
theorem YH{x:Str}(k:Nat)(n:Int)(m:Nat)(hn:n=m):iq x (some (k:Int)) (some<|(k:Int)+n)=⟨((x.cps.toList.drop k).take m).toArray⟩:=by
 have e1:(k:Int)+n=((k+m:Nat):Int):=by rw[hn];simp
 unfold iq iZ
 rw[e1,HT.lW,HT.lW]
 congr 1
 by_cases h:k<=x.cps.toList.length
 ·rw[show min k x.cps.toList.length=k by lia]
  by_cases h2:k+m<=x.cps.toList.length
  ·rw[show min (k+m) x.cps.toList.length=k+m by lia,Nat.add_sub_cancel_left]
  ·rw[show min (k+m) x.cps.toList.length=x.cps.toList.length by lia,zao (by rw[zai];lia),zao (by rw[zai];lia)]
 ·rw[show min k x.cps.toList.length=x.cps.toList.length by lia,List.drop_length,zbq (by lia),zbr,zbr]
theorem YI{x:Str}(h:good x)(lo hi:Option Int):good (iq x lo hi)/\(iq x lo hi).length<=x.length:=by
 have e:(iq x lo hi).cps.toList=iZ x.cps.toList lo hi:=rfl
 have hl:(iq x lo hi).length<=x.length:=by
  rw[len_list,e,len_list]
  unfold iZ
  exact zaq (List.length_take_le' _ _) (by rw[zai];lia)
 refine⟨⟨zaq hl h.1,fun c hc=> ?_⟩,hl⟩
 rw[e] at hc
 exact h.2 c<|zbE<|zbF hc
theorem YJ{x y:Str}(hx:good x)(hy:good y)(hl:x.length+y.length<=1000000):good (x++y):=by
 refine⟨by rw[Kg];exact hl,fun c hc=> ?_⟩
 rw[app_list] at hc
 rcases zax.mp hc with z | z
 ·exact hx.2 c z
 ·exact hy.2 c z
end L2.B
namespace L2
open PySem PySem.Spec PyProof.Rows
theorem j3{α:Type _}{p:α->Prop}: ∀x∈ ([]:List α),p x:=fun _ h=>nomatch h
theorem j4{α:Type _}{p:α->Prop}{a:α}{l:List α}(h:p a)(t: ∀x∈l,p x): ∀x∈a::l,p x:=List.forall_mem_cons.2 ⟨h,t⟩
section
variable {P:Program} {w:World} {K:Frag}
end
section
variable {P:Program} {w:World} {K:Frag} {mg:Str->Option Value} {base:Heap} {k:Nat}
theorem cb.or{CX:bM}{f:Addr}{fd:FuncData}{ps:List Str}{a b:Sp}(A:cb P w K mg base CX k f fd ps a)(C:cb P w K mg base CX k f fd ps b):cb P w K mg base CX k f fd ps (B.fN a b):=
 ⟨fun vs H Q E h=>h.elim (A.len vs H Q E)<|C.len vs H Q E,fun A' outer s H args us vs Q E hr e0 hb hv hs=>hs.elim (A.run A' outer s H args us vs Q E hr e0 hb hv)<|C.run A' outer s H args us vs Q E hr e0 hb hv⟩
theorem cb.weak{CX:bM}{f:Addr}{fd:FuncData}{ps:List Str}{a b:Sp}(A:cb P w K mg base CX k f fd ps b)(h: ∀vs H Q E,a vs H Q E->b vs H Q E):cb P w K mg base CX k f fd ps a:=
 ⟨fun vs H Q E q=>A.len vs H Q E<|h _ _ _ _ q,fun A' outer s H args us vs Q E hr e0 hb hv hs=>A.run A' outer s H args us vs Q E hr e0 hb hv<|h _ _ _ _ hs⟩
theorem d5.weak{x:Str}{a b:Sp}(T:d5 P w K mg base k x b)(h: ∀vs H Q E,a vs H Q E->b vs H Q E):d5 P w K mg base k x a:=by
 obtain⟨f,fd,ps,F,r⟩:=T
 exact⟨f,fd,ps,F.weak h,r⟩
open PySem.W in
theorem YK{x:Str}{C:Addr}(X:K.In base)(G:base.Ns mainGlobals mg)(e:nsIn K mainGlobals x=some (some<|.ref C))(q:excIn K C [.type "ValueError", .type "Exception", .type "BaseException", .type "object"] "ValueError.__new__"=true):wa mg base (x,C):=by
 refine⟨_,_,_,_,⟨mg_of X G e, ?_⟩,PySem.F.excBase_ValueError⟩
 unfold excIn at q
 split at q
 ·rename_i dd cd sl ho
  split at q
  ·rename_i C' bm k0 k1 k2 k3 n k5 hm hs
   simp only[zab,beq_iff_eq,zaG] at q
   obtain⟨⟨⟨⟨⟨rfl,rfl⟩,Km⟩,ht⟩,aL⟩,vM⟩:=q
   obtain⟨nm,bs,mro,ns,qn,hd,sn,sub,ab,col,del⟩:=cd
   dsimp only at hm Km aL vM
   subst hm Km
   obtain⟨sl⟩:=sl
   have wt:sl=_:=hs
   subst wt
   exact⟨bm,ns,nm,qn,bs,hd,sn,sub,ab,col,dd,k0,k1,k2,k3,k5,_,X _ _ ho, .of_isNs<|isNs_of_in X aL,nsMap_none_of_in X aL vM,tail_of_in X ht⟩
  ·cases q
 ·cases q
end
namespace B
end B
end L2
namespace L2.B
end L2.B
namespace L2.B
open PySem PySem.Spec PyProof.Rows
end L2.B
namespace L2.B
end L2.B
namespace L2
open PySem PySem.Spec PyProof.Rows
section
variable {Γ:aX} {D:Ends} {σ:St} {H:Hp} {r:List RS} {Q:VK} {QA:List V->Hp->Prop} {QT:Bool->Hp->Prop}
theorem gi{j:Nat}{m:Str}{o:RE}(C:Addr)(sp:Sp)(hm:Γ.ms j=(C,sp))(h:aj Γ o σ H fun x H1=> ∃a dx fs,x= .ref a/\H1 a=some (.ins C dx fs)/\fs.lookup m=none/\sp [x] H1 Q Γ.E):aj Γ (.bF j m o []) σ H Q:=by
 show nh (Γ.ms j).1 m (Γ.ms j).2 [] Γ.E (aj Γ o) (aZ Γ []) σ H Q
 rw[hm];exact h
theorem hV{j:Nat}{m:Str}{o a:RE}(C:Addr)(sp:Sp)(hm:Γ.ms j=(C,sp))(h:aj Γ o σ H fun x H1=> ∃p dx fs,x= .ref p/\H1 p=some (.ins C dx fs)/\fs.lookup m=none/\aj Γ a σ H1 fun y H2=>sp [x,y] H2 Q Γ.E):aj Γ (.bF j m o [a]) σ H Q:=by
 show nh (Γ.ms j).1 m (Γ.ms j).2 [] Γ.E (aj Γ o) (aZ Γ [a]) σ H Q
 rw[hm];exact h
theorem oq{c:RE}{body:List RS}(W:Nat->St->Hp->Prop)(h0: ∃m,W m σ H)
  (h: ∀m σ H,W m σ H->bf Γ c σ H fun b H1=>if b=true then ∃N:St->Hp->Prop,(∀σ' H',N σ' H'-> ∃m',m'<m/\W m' σ' H')/\av Γ body {{D with nx:=av Γ r D} with nx:=N,ct:=N,bk:=av Γ r D} σ H1 else av Γ r D σ H1):av Γ (.fD c body::r) D σ H:=⟨W,h0,h⟩
theorem bj{c:RE}{t e:List RS}(h:bf Γ c σ H fun b H1=>if b=true then av Γ t {D with nx:=av Γ r D} σ H1 else av Γ e {D with nx:=av Γ r D} σ H1):av Γ (.ite c t e::r) D σ H:=h
theorem bq{op:CmpOp}{a b:RE}(h:aj Γ a σ H fun x H1=>aj Γ b σ H1 fun y H2=>b9 Γ.K op x y H2 fun z H3=> ∃k,z= .bl k/\QT k H3):bf Γ (.cmp op a b) σ H QT:=h
theorem gj{o:RE}{f:Str}(h:aj Γ o σ H fun x H1=> ∃a C dx fs v,x= .ref a/\H1 a=some (.ins C dx fs)/\eZ Γ.K C/\fV Γ.K C f/\fs.lookup f=some v/\Q v H1):aj Γ (.fld o f) σ H Q:=h
theorem eR{m:gW}{o a:RE}(h:aj Γ o σ H fun x H1=>nk Γ.K (vH m) x H1/\aj Γ a σ H1 fun y H2=>pA Γ.K m x [y] H2 Q):aj Γ (.bD m o [a]) σ H Q:=h
theorem wN{K:Frag}{x y:Str}{Q:VK}(q:Q (.bl<|x==y) H):b9 K .Eq (.str x) (.str y) H Q:=by
 show Q (.bl<|false ^^ decide (V.str x=V.str y)) H
 rw[zbz,vd];exact q
theorem ot{K:Frag}{x y:Str}{Q:VK}(q:Q (.bl<|x !=y) H):b9 K .NotEq (.str x) (.str y) H Q:=by
 show Q (.bl<|true ^^ decide (V.str x=V.str y)) H
 rw[zbA,vd];exact q
end
end L2
namespace L2.B
open PySem PySem.Spec PyProof.Rows
def j5(v:V)(lo hi:Int)(H:Hp):Prop:=sT v H\/ ∃i,v= .int i/\(i<lo\/hi<i)
theorem j5.same{v:V}{lo hi:Int}{H H':Hp}(h:j5 v lo hi H)(s:aC H H'):j5 v lo hi H':=by
 rcases h with h | h
 ·exact .inl (h.same s)
 ·exact .inr h
def dt:Sp:=fun vs H Q E=> ∃(v:V) (lo hi:Int),vs=[v, .int lo, .int hi]/\((∃i,v= .int i/\lo<=i/\i<=hi/\Q (.bl true) H)\/(j5 v lo hi H/\Q (.bl false) H))
theorem YL{K:Frag}(vs:List V)(H:Hp)(Q:VK)(E:XK)(h:dt vs H Q E):av (aI K [("is_whole",lj)] [] (E:=E)) F7 (Dn Q) (start F6 vs) H:=by
 have chain: ∀(i lo hi:Int) (b:Bool) (H:Hp),decide (lo<=i/\i<=hi)=b->Q (.bl b) H->aj (aI K [("is_whole",lj)] [] (E:=E)) (.jK .LtE .LtE (.v 1) (.v 0)<|.v 2) [some<|.int i,some<|.int lo,some<|.int hi] H Q:=by
  intro i lo hi b H hb q
  refine⟨_,rfl,_,rfl,trivial,_,rfl, ?_⟩
  refine gE (fun h1=> ?_)<|fun h1=> ?_
  ·refine⟨_,rfl,trivial, ?_⟩
   have lp:lo<=i:=of_decide_eq_true h1
   have e:decide (i<=hi)=b:=by rw[<-hb];simp[lp]
   show Q (.bl<|decide<|i<=hi) H
   rw[e];exact q
  ·have lp: ¬lo<=i:=fun z=>h1 (zqT z)
   have e:b=false:=by rw[<-hb];simp[lp]
   have e2:decide (lo<=i)=false:=zqF lp
   rw[e] at q
   first
    | exact q
    | (show Q (.bl<|decide<|lo<=i) H;rw[e2];exact q)
 obtain⟨v,lo,hi,rfl,⟨i,rfl,h1,h2,q⟩ | ⟨hn | ⟨i,rfl,hb⟩,q⟩⟩:=h
 ·exact⟨_,rfl,_,rfl, .inl ⟨i,rfl,_,rfl,kN<|chain i lo hi true H (by simp[h1,h2]) q⟩⟩
 ·exact⟨_,rfl,_,rfl, .inr ⟨hn,_,rfl,rq q⟩⟩
 ·exact⟨_,rfl,_,rfl, .inl ⟨i,rfl,_,rfl,kN<|chain i lo hi false H (by rw[zqF];rintro⟨a,b⟩;lia) q⟩⟩
def eK(lt lb lf:Addr)(n:Int):List (Str×V):=[("texts", .ref lt),("begins", .ref lb),("feeds", .ref lf),("signs", .int n)]
theorem wO{lt lb lf:Addr}{n:Int}:(eK lt lb lf n).lookup ("texts":Str)=some (V.ref lt):=qa
theorem Bb{lt lb lf:Addr}{n:Int}:(eK lt lb lf n).lookup ("begins":Str)=some (V.ref lb):=(hU (by decide+kernel)).trans qa
theorem Bc{lt lb lf:Addr}{n:Int}:(eK lt lb lf n).lookup ("feeds":Str)=some (V.ref lf):=(hU (by decide+kernel)).trans ((hU (by decide+kernel)).trans qa)
theorem Kn{lt lb lf:Addr}{n:Int}:(eK lt lb lf n).lookup ("signs":Str)=some (V.int n):=(hU (by decide+kernel)).trans ((hU (by decide+kernel)).trans<|(hU (by decide+kernel)).trans qa)
theorem sU{lt lb lf:Addr}{n:Int}{m:Str}(h1: ¬m="texts")(h2: ¬m="begins")(h3: ¬m="feeds")(h4: ¬m="signs"):(eK lt lb lf n).lookup m=none:=
 (hU h1).trans ((hU h2).trans<|(hU h3).trans<|(hU h4).trans rfl)
theorem YM{lt lb lf:Addr}{n k:Int}:b7 "signs" (.int k) (eK lt lb lf n)=eK lt lb lf k:=by
 unfold eK
 rw[j0 (by decide+kernel),j0 (by decide+kernel),j0 (by decide+kernel),Yr]
theorem YN{lt lb lf:Addr}{n:Int}:b7 "signs" (.int n) (b7 "feeds" (.ref lf)<|b7 "begins" (.ref lb)<|b7 "texts" (.ref lt) [])=eK lt lb lf n:=by
 have e1:b7 "texts" (V.ref lt) []=[(("texts":Str),V.ref lt)]:=rfl
 have e2:b7 "begins" (V.ref lb) []=[(("begins":Str),V.ref lb)]:=rfl
 have e3:b7 "feeds" (V.ref lf) []=[(("feeds":Str),V.ref lf)]:=rfl
 unfold eK
 rw[e1,j0 (by decide+kernel),e2,j0 (by decide+kernel),j0 (by decide+kernel),j0 (by decide+kernel),e3,j0 (by decide+kernel),j0 (by decide+kernel)]
 rfl
def au(ts:List Str):List Nat:=(ts.map fun t=>t.cps.toList).flatten
theorem ou(a b:List Str):au (a++b)=au a++au b:=by simp[au]
theorem qc(t:Str):au [t]=t.cps.toList:=by simp[au]
def dC:List Str->Nat->List Int
 | [],_=> []
 | t::r,k=> (k:Int)::dC r (k+t.length)
theorem Ko: ∀(a b:List Str) (k:Nat),dC (a++b) k=dC a k++dC b (k+ (au a).length)
 | [],b,k=>by simp[dC,au]
 | t::a,b,k=>by
  have ih:=Ko a b (k+t.length)
  have e:k+t.length+ (au a).length=k+ (au (t::a)).length:=by
   simp[au,Str.length];lia
  rw[e] at ih
  simp only[zaZ,dC,ih]
structure du (C:Addr) (H:Hp) (p dx lt lb lf:Addr) (ts:List Str):Prop where
 ob:H p=some (.ins C dx<|eK lt lb lf (au ts).length)
 tx:H lt=some (.lst<|ts.map V.str)
 bg:H lb=some (.lst<|(dC ts 0).map V.int)
 fd:H lf=some (.lst<|(fM 10<|au ts).map V.int)
 n1:lt≠lb
 n2:lt≠lf
 n3:lb≠lf
def lq(p lt lb lf:Addr)(H H':Hp):Prop:= ∀b o,H b=some o->b≠p->b≠lt->b≠lb->b≠lf->H' b=some o
theorem lq.trans{p lt lb lf:Addr}{H H1 H2:Hp}(a:lq p lt lb lf H H1)(b:lq p lt lb lf H1 H2):lq p lt lb lf H H2:=fun c o e n1 n2 n3 n4=>b c o (a c o e n1 n2 n3 n4) n1 n2 n3 n4
theorem du.same{C:Addr}{H H':Hp}{p dx lt lb lf:Addr}{ts:List Str}(S:du C H p dx lt lb lf ts)(s:aC H H'):du C H' p dx lt lb lf ts:=
 ⟨s _ _ S.ob,s _ _ S.tx,s _ _ S.bg,s _ _ S.fd,S.n1,S.n2,S.n3⟩
def Be(C:Addr):Sp:=fun vs H Q E=> ∃(p dx:Addr),vs=[.ref p]/\H p=some (.ins C dx [])/\ ∀(lt lb lf:Addr) (H':Hp),du C H' p dx lt lb lf []->H lt=none->H lb=none->H lf=none->(∀b o,H b=some o->b≠p->H' b=some o)->Q .aA H'
theorem YO{K:Frag}{C:Addr}(T:nX K C)(vs:List V)(H:Hp)(Q:VK)(E:XK)(h:Be C vs H Q E):av (aI K [] [] (E:=E)) Gb {nx:=fun _ H'=>Q .aA H',rt:=Q} (start mr vs) H:=by
 obtain⟨p,dx,rfl,hp,k⟩:=h
 refine⟨zqZ _,fun lt f1=> ?_⟩
 have mE:p≠lt:=bT hp f1
 refine⟨_,rfl,p,C,dx,[],rfl,(by rw[aR mE];exact hp),T.cl,T.sx,(by show 0<1000;decide), ?_⟩
 refine⟨zqZ _,fun lb f2=> ?_⟩
 have qd:p≠lb:=fun z=>by rw[<-z,aD] at f2;cases f2
 have wQ:lt≠lb:=fun z=>by rw[<-z,aR mE.symm,aD] at f2;cases f2
 refine⟨_,rfl,p,C,dx,_,rfl,(by rw[aR qd,aD]),T.cl,T.wb,(by show 1<1000;decide), ?_⟩
 refine⟨zqZ _,fun lf f3=> ?_⟩
 have sV:p≠lf:=fun z=>by rw[<-z,aD] at f3;cases f3
 have Bf:lb≠lf:=fun z=>by rw[<-z,aR qd.symm,aD] at f3;cases f3
 have Bg:lt≠lf:=fun z=>by rw[<-z,aR mE.symm,aR wQ,aR mE.symm,aD] at f3;cases f3
 refine⟨_,rfl,p,C,dx,_,rfl,(by rw[aR sV,aD]),T.cl,T.wc,(by show 2<1000;decide), ?_⟩
 refine⟨_,rfl,p,C,dx,_,rfl,aD,T.cl,T.wd,(by show 3<1000;decide), ?_⟩
 have fb:H lb=none:=by
  rw[aR qd.symm,aR wQ.symm] at f2;exact f2
 have ff:H lf=none:=by
  rw[aR sV.symm,aR Bf.symm,aR sV.symm,aR Bg.symm] at f3;exact f3
 refine k lt lb lf _ ⟨?_, ?_, ?_, ?_,wQ,Bg,Bf⟩ f1 fb ff fun b o e nb=> ?_
 ·rw[aD]
  exact congrArg (fun l=>some<|HO.ins C dx l) YN
 ·rw[aR mE.symm,aR mE.symm,aR Bg,aR mE.symm,aR wQ,aR mE.symm,aD];rfl
 ·rw[aR qd.symm,aR qd.symm,aR Bf,aR qd.symm,aD];rfl
 ·rw[aR sV.symm,aR sV.symm,aD];rfl
 ·rw[aR nb,aR nb,aR<|bT e ff,aR nb,aR<|bT e fb,aR nb,aR<|bT e f1];exact e
theorem YQ:(Str.ofString "\n")=⟨#[10]⟩:=by rfl
def mF(l:List Nat):Int:=match l with | i::_=> (i:Int) | []=> -1
theorem Kp(x:Str)(lo:Nat)(hl:lo<=x.length):(match Builtin.Str.occurrences x (Str.ofString "\n") lo x.length 1 with | i::_=> (i:Int) | []=> -1)=mF (pos 10 (x.cps.toList.drop lo) lo):=by
 rw[YQ,wI x 10 lo 1 hl]
 cases pos 10 (x.cps.toList.drop lo) lo<;>rfl
def Bh(CT C:Addr):Sp:=fun vs H Q E=> ∃(p dx lt lb lf:Addr) (ts:List Str) (v:V),vs=[.ref p,v]/\du C H p dx lt lb lf ts/\((Ba v H/\E (.ref CT) none H)\/ ∃x,v= .str x/\good x/\ts.length<=100000/\(au ts).length<=1000000/\
 ∀H',lq p lt lb lf H H'->du C H' p dx lt lb lf (ts++ [x])->Q (.int (au ts).length) H')
theorem Bi: ∀(ts:List Str) (k:Nat),(dC ts k).length=ts.length
 | [],_=>rfl
 | t::r,k=>by simp[dC,Bi r]
theorem Kq(c:Nat)(a:List Nat)(k:Nat):(pos c a k).length<=a.length:=by
 rw[fc];exact zbG
theorem YR{K:Frag}{CT C:Addr}(T:nX K C)(vs:List V)(H:Hp)(Q:VK)(E:XK)(h:Bh CT C vs H Q E):av (aI K [("need_text",wM CT)] [] (E:=E)) Ge {nx:=fun _ H'=>Q .aA H',rt:=Q} (start Ax vs) H:=by
 obtain⟨p,dx,lt,lb,lf,ts,v,rfl,S,⟨hb,q⟩ | ⟨x,rfl,hx,ht,hs,k⟩⟩:=h
 ·exact⟨_,rfl,_,rfl, .inr ⟨hb,q⟩⟩
 have Kr:p≠lt:=ym S.ob S.tx (by intro z;cases z)
 have Ks:p≠lb:=ym S.ob S.bg (by intro z;cases z)
 have Kt:p≠lf:=ym S.ob S.fd (by intro z;cases z)
 refine⟨_,rfl,_,rfl, .inl ⟨x,rfl,hx, ?_⟩⟩
 refine⟨_,rfl,p,C,dx,_,_,rfl,S.ob,T.cl,T.wd,Kn, ?_⟩
 refine⟨_,rfl,p,C,dx,_,_,rfl,S.ob,T.cl,T.sx,wO, .inl ⟨rfl,_,aB.of S.tx⟩,_,rfl,_,S.tx,gg (by simp;lia), ?_⟩
 have o1:upd H lt (.lst<|ts.map V.str++ [V.str x]) p=some (.ins C dx<|eK lt lb lf (au ts).length):=by rw[aR Kr];exact S.ob
 have o2:upd H lt (.lst<|ts.map V.str++ [V.str x]) lb=some (.lst<|(dC ts 0).map V.int):=by rw[aR S.n1.symm];exact S.bg
 refine⟨_,rfl,p,C,dx,_,_,rfl,o1,T.cl,T.wb,Bb, .inl ⟨rfl,_,aB.of o2⟩,_,rfl,_,o2,gg (by rw[zag,Bi];lia), ?_⟩
 refine⟨_,rfl,_,rfl,cp hx.1,_,rfl,p,C,dx,_,rfl,(by rw[aR Ks];exact o1),T.cl,T.wd,(by show 4<1000;decide), ?_⟩
 generalize jH:upd (upd (upd H lt<|.lst<|ts.map V.str++ [V.str x]) lb<|.lst<|(dC ts 0).map V.int++ [V.int ((au ts).length:Int)]) p (.ins C dx<|b7 "signs" (.int<|((au ts).length:Int)+ (x.length:Int))<|eK lt lb lf ((au ts).length:Int))=H3
 have b3:lq p lt lb lf H H3:=fun b o e n1 n2 n3 n4=>by
  rw[<-jH,aR n1,aR n3,aR n2];exact e
 have YS:H3 p=some (.ins C dx<|eK lt lb lf<|((au ts).length:Int)+ (x.length:Int)):=by
  rw[<-jH,aD]
  exact congrArg (fun l=>some<|HO.ins C dx l) YM
 have YT:H3 lt=some (.lst<|ts.map V.str++ [V.str x]):=by rw[<-jH,aR Kr.symm,aR S.n1,aD]
 have YU:H3 lb=some (.lst<|(dC ts 0).map V.int++ [V.int ((au ts).length:Int)]):=by rw[<-jH,aR Ks.symm,aD]
 have YV:H3 lf=some (.lst<|(fM 10<|au ts).map V.int):=by rw[<-jH,aR Kt.symm,aR S.n3.symm,aR S.n2.symm];exact S.fd
 have YW:=len_list x
 have l0:=Kq 10 (au ts) 0
 have l1:=Kq 10 x.cps.toList 0
 refine⟨_,rfl,rfl, ?_⟩
 show av _ _ _ ((start Ax [V.ref p,V.str x]).set 2 _ |>.set 3 (some<|V.int (match Builtin.Str.occurrences x (Str.ofString "\n") 0 x.length 1 with | i::_=> (i:Int) | []=> -1))) H3
 rw[Kp x 0<|zqZ _,zaM]
 refine⟨fun m σ H'=> ∃(done rest:List Nat),m=rest.length/\pos 10 x.cps.toList 0=done++rest/\σ=[some (.ref p),some (.str x),some (.int ((au ts).length:Int)),some (.int (mF rest))]/\bo lf H3 H'/\H' lf=some (.lst ((fM 10 (au ts)++done.map fun(i:Nat)=> ((au ts).length:Int)+ (i:Int)).map V.int)),
  ⟨_,[],pos 10 x.cps.toList 0,rfl,rfl,rfl,fun b o e _=>e,by rw[List.map_nil,zaC];exact YV⟩, ?_⟩
 rintro m σ H' ⟨done,rest,rfl,hd,rfl,b4,f4⟩
 have Ku:=b4 _ _ YS Kt
 refine⟨_,rfl,trivial,_,rfl, ?_⟩
 cases rest with
 | nil=>
  refine iF ⟨_,rfl, ?_⟩
  rw[zaC] at hd
  refine k H' (fun b o e n1 n2 n3 n4=>b4 b o (b3 b o e n1 n2 n3 n4) n4) ⟨?_, ?_, ?_, ?_,S.n1,S.n2,S.n3⟩
  ·rw[ou,qc,zqA,<-YW,Int.natCast_add];exact Ku
  ·rw[zap];exact b4 _ _ YT S.n2
  ·rw[Ko,zap,zaE];exact b4 _ _ YU S.n3
  ·rw[ou,qc,Yi,hd];exact f4
 | cons i rest=>
  have hi:=jZ 10 x.cps.toList 0 i (by rw[hd];simp)
  have hl:done.length+ (rest.length+1)<=x.cps.toList.length:=by
   have:=congrArg List.length hd
   simp at this
   lia
  have om:decide ((0:Int)<=mF (i::rest))=true:=zqT (by show(0:Int)<= (i:Int);lia)
  refine iT ?_ om
  refine⟨_,fun σ' Kh q=>q, ?_⟩
  refine⟨_,rfl,p,C,dx,_,_,rfl,Ku,T.cl,T.wc,Bc, .inl ⟨rfl,_,aB.of f4⟩,_,rfl,_,rfl,_,f4,(by have e:sizeLine=16777216:=rfl;have:=hx.1;simp[fM];lia), ?_⟩
  refine⟨_,rfl,rfl,_,rfl, ?_⟩
  have e1:fromIndex x.length (mF (i::rest)+1)=i+1:=by
   show fromIndex x.length ((i:Int)+1)=i+1
   unfold fromIndex
   rw[if_neg (by lia)];lia
  have nx:=Kc 10 x.cps.toList 0 i done rest hd
  rw[zbn] at nx
  have e2:=Kp x (i+1) (by lia)
  rw[nx] at e2
  rw[<-e1] at e2
  refine⟨rest.length,zbd _,done++ [i],rest,rfl,by rw[hd];simp, ?_,b4.trans bo.upd, ?_⟩
  ·show[_,_,_,some<|V.int (match Builtin.Str.occurrences x (Str.ofString "\n") (fromIndex x.length<|mF (i::rest)+1) x.length 1 with | k::_=> (k:Int) | []=> -1)]=_
   rw[e2]
  ·rw[aD]
   simp[mF]
end L2.B
namespace L2
open PySem PySem.Spec PyProof.Rows
section
variable {Γ:aX} {D:Ends} {σ:St} {H:Hp} {r:List RS} {Q:VK} {QA:List V->Hp->Prop} {QT:Bool->Hp->Prop}
theorem cq{K:Frag}{b:Bool}{QB:Bool->Prop}(h:QB b):gY K (.bl b) H QB:=h
theorem bO{a:RE}(h:bf Γ a σ H fun b H1=>QT (!b) H1):bf Γ (.not a) σ H QT:=h
theorem dU{j:Nat}{as:List RE}(sp:Sp)(hs:Γ.fs j=sp)(h:aZ Γ as σ H fun vs H1=>sp vs H1 (fun x H2=>gY Γ.K x H2 fun b=>QT b H2) Γ.E):bf Γ (.call j as) σ H QT:=by
 subst hs
 show aZ Γ as σ H fun vs H1=>Γ.fs j (vs++ []) H1 (fun x H2=>gY Γ.K x H2 fun b=>QT b H2) Γ.E
 have e:(fun(vs:List V) (H1:Hp)=>Γ.fs j (vs++ []) H1 (fun x H2=>gY Γ.K x H2 fun b=>QT b H2) Γ.E)=fun vs H1=>Γ.fs j vs H1 (fun x H2=>gY Γ.K x H2 fun b=>QT b H2) Γ.E:=by
  funext vs H1;rw[zaC]
 rw[e];exact h
theorem gK{a b:RE}(h:bf Γ a σ H fun c H1=>if c=true then QT true H1 else bf Γ b σ H1 QT):bf Γ (.or [a,b]) σ H QT:=h
theorem sW{a b:RE}(h:bf Γ a σ H fun c H1=>if c=true then bf Γ b σ H1 QT else QT false H1):bf Γ (.and [a,b]) σ H QT:=h
end
end L2
namespace L2.B
open PySem PySem.Spec PyProof.Rows
section
variable {Γ:aX} {σ:St} {H:Hp} {Q:VK} {QT:Bool->Hp->Prop} {K:Frag}
theorem qe{a b:RE}{r:List RE}(h:bf Γ a σ H fun c H1=>if c=true then QT true H1 else bf Γ (.or (b::r)) σ H1 QT):bf Γ (.or (a::b::r)) σ H QT:=h
theorem Bj{a:RE}(h:bf Γ a σ H QT):bf Γ (.or [a]) σ H QT:=h
theorem Kv{a b:RE}{r:List RE}(h:bf Γ a σ H fun c H1=>if c=true then bf Γ (.and (b::r)) σ H1 QT else QT false H1):bf Γ (.and (a::b::r)) σ H QT:=h
theorem YX{a:RE}(h:bf Γ a σ H QT):bf Γ (.and [a]) σ H QT:=h
theorem mG{T:Ty}{a:RE}(h:aj Γ a σ H fun x H1=>bN T x H1 fun b=>QT b H1):bf Γ (.eO T a) σ H QT:=by
 show eG Γ.K (dY (l9 T)<|cK (aj Γ a)<|cK (tC<|.ty T.nm) fA) σ H QT
 have e: ∀(q:VK),(fun(x:V) (H1:Hp)=>bN T x H1 fun b=>q (.bl b) H1)=fun x H1=>l9 T [x, .ty T.nm] H1 q:=by
  intro q;funext x H1;simp[l9]
 show aj Γ a σ H fun x H1=>l9 T [x, .ty T.nm] H1 fun v H2=>gY Γ.K v H2 fun b=>QT b H2
 rw[<-e];exact h
theorem aJ{sd:Addr->List (Key×V)->Prop}{a:Addr}{xs:List V}{i:Int}{v:V}(h:H a=some (.tup xs))(e:dO xs i=some v)(q:Q v H):l_ K sd (.ref a) (.int i) H Q:=
 .inr (.inl ⟨_,_,_,_,rfl,rfl,ba.of h,e,q⟩)
theorem fg{x y:Int}(q:Q (.bl<|decide<|x=y) H):b9 K .Eq (.int x) (.int y) H Q:=by
 show Q (.bl<|false ^^ decide (V.int x=V.int y)) H
 rw[zbz,show decide (V.int x=V.int y)=decide (x=y) from decide_eq_decide.mpr ⟨fun z=>by injection z,fun z=>by rw[z]⟩];exact q
theorem qf{x y:Int}(q:Q (.bl<|!decide (x=y)) H):b9 K .NotEq (.int x) (.int y) H Q:=by
 show Q (.bl<|true ^^ decide (V.int x=V.int y)) H
 rw[zbA,show decide (V.int x=V.int y)=decide (x=y) from decide_eq_decide.mpr ⟨fun z=>by injection z,fun z=>by rw[z]⟩];exact q
theorem bP{i j:Int}(h:Q (.int<|i+j) H):lZ K .Add (.int i) (.int j) H Q:=h
end
theorem YY{K:Frag}{H:Hp}{x y:Int}{Q:VK}(q:Q (.bl<|decide<|x<y) H):b9 K .Lt (.int x) (.int y) H Q:=⟨trivial,q⟩
theorem YZ(ps:List Str)(z:Str):(cat<|ps++ [z]).cps.toList=(cat ps).cps.toList++z.cps.toList:=by rw[Yo,Yp,app_list]
def pre(ts:List Str)(k:Nat):Nat:=(au<|ts.take k).length
theorem Kw(t:Str)(r:List Str):au (t::r)=t.cps.toList++au r:=by simp[au]
theorem Kx{ts:List Str}{k:Nat}(h:ts.length<=k):pre ts k=(au ts).length:=by unfold pre;rw[zao h]
theorem Y0{ts:List Str}{k:Nat}{t:Str}(h:ts[k]?=some t):au ts=au (ts.take k)++ (t.cps.toList++au (ts.drop<|k+1)):=by
 obtain⟨h1,h2⟩:=zah.mp h
 conv=>lhs;rw[<-zaD k ts,zbO h1,h2]
 rw[ou,Kw]
theorem Ky{ts:List Str}{k:Nat}{t:Str}(h:ts[k]?=some t):pre ts (k+1)=pre ts k+t.length:=by
 unfold pre
 rw[List.take_add_one,h,ou,zqA]
 show _+ (au [t]).length=_
 rw[qc,len_list]
theorem Y1(ts:List Str)(k:Nat):pre ts k<= (au ts).length:=by
 have e:au ts=au (ts.take k)++au (ts.drop k):=by rw[<-ou,zaD]
 rw[e,zqA];unfold pre;lia
theorem Y2(ts:List Str):pre ts 0=0:=rfl
theorem sX: ∀(ts:List Str) (k j:Nat),j<ts.length->(dC ts k)[j]?=some (((k+pre ts j:Nat):Int))
 | [],k,j,h=>by cases h
 | t::r,k,0,h=>by simp[dC,pre,au]
 | t::r,k,j+1,h=>by
  have ih:=sX r (k+t.length) j (zbl h)
  show(dC r<|k+t.length)[j]?=_
  rw[ih]
  have:pre (t::r) (j+1)=t.length+pre r j:=by
   unfold pre
   rw[zbP,Kw,zqA,len_list]
  rw[this];congr 1;lia
theorem Kz: ∀(ts:List Str) (k:Nat),∀x∈dC ts k,(k:Int)<=x
 | [],k,x,h=>by cases h
 | t::r,k,x,h=>by
  rcases zaa.mp h with rfl | h
  ·exact zbi _
  ·have:=Kz r (k+t.length) x h
   lia
theorem Bk: ∀(ts:List Str) (k:Nat),p9 (dC ts k)
 | [],k=>List.Pairwise.nil
 | t::r,k=>List.Pairwise.cons (fun x hx=>by have:=Kz r (k+t.length) x hx;lia) (Bk r<|k+t.length)
theorem Y3{ts:List Str}{b:Nat}(h:b< (au ts).length): ∃k,cY (dC ts 0) (b:Int)=k+1/\k<ts.length/\pre ts k<=b/\b<=pre ts (k+1):=by
 have hl:=Bi ts 0
 have hc:=A4 (dC ts 0) (b:Int)
 have hr:=Bk ts 0
 have pH:0<ts.length:=by
  cases ts with
  | nil=>simp[au] at h
  | cons t r=>exact Nat.zero_lt_succ _
 have h0:=A8 (most:=(b:Int)) hr (sX ts 0 0 pH) (by rw[Y2];lia)
 obtain⟨k,hk⟩: ∃k,cY (dC ts 0) (b:Int)=k+1:=⟨cY (dC ts 0) (b:Int) - 1,by lia⟩
 have KA:k<ts.length:=by lia
 refine⟨k,hk,KA, ?_, ?_⟩
 ·by_cases q:pre ts k<=b
  ·exact q
  ·have:=Kb (most:=(b:Int)) hr (sX ts 0 k KA) (by lia)
   lia
 ·by_cases q:k+1<ts.length
  ·by_cases z:b<=pre ts (k+1)
   ·exact z
   ·have:=A8 (most:=(b:Int)) hr (sX ts 0 (k+1) q) (by lia)
    lia
  ·rw[Kx (by lia)];lia
theorem Y4{ts:List Str}{k c m:Nat}{t:Str}(h:ts[k]?=some t)(h1:pre ts k<=c)(h2:c<=pre ts (k+1)):(t.cps.toList.drop<|c - pre ts k).take m=((au ts).drop c).take (min m<|pre ts (k+1) - c):=by
 rw[Y0 h]
 have hp:=Ky h
 have lt:=len_list t
 have e:(au (ts.take k)++ (t.cps.toList++au (ts.drop<|k+1))).drop c=t.cps.toList.drop (c - pre ts k)++au (ts.drop<|k+1):=by
  rw[List.drop_append,zbq (show(au<|ts.take k).length<=c from h1),zbx]
  show(t.cps.toList++_).drop (c - pre ts k)=_
  rw[List.drop_append_of_le_length (by lia)]
 rw[e]
 have hl:(t.cps.toList.drop<|c - pre ts k).length=pre ts (k+1) - c:=by rw[zai];lia
 rw[zbT (by rw[hl];lia),<-hl,<-List.take_take,zbD]
theorem Y5{l:List Nat}(b c m:Nat)(h:b<=c):(l.drop b).take (c - b)++ (l.drop c).take m=(l.drop b).take (c+m - b):=by
 rw[show c+m - b=(c - b)+m by lia,List.take_add,List.drop_drop,show b+ (c - b)=c by lia]
def Y6(vb vn:V)(n:Nat)(H:Hp):Prop:=j5 vb 0 (n:Int) H\/ ∃b:Int,vb= .int b/\0<=b/\b<= (n:Int)/\j5 vn 0 ((n:Int) - b) H
def Bl(CP C:Addr):Sp:=fun vs H Q E=> ∃(p dx lt lb lf:Addr) (ts:List Str) (vb vn:V),vs=[.ref p,vb,vn]/\du C H p dx lt lb lf ts/\((Y6 vb vn (au ts).length H/\E (.ref CP) none H)\/
 ∃b n:Nat,vb= .int (b:Nat)/\vn= .int (n:Nat)/\b+n<= (au ts).length/\ts.length<=100000/\(au ts).length<=1000000/\(∀t∈ts,t.length<=1000000)/\ ∀H',aC H H'->Q (.str ⟨(((au ts).drop b).take n).toArray⟩) H')
abbrev qg:List (Str×Sp):=[("is_between",dt),("many_upto",wL)]
theorem Y7{K:Frag}{CP C:Addr}(T:nX K C)(vs:List V)(H:Hp)(Q:VK)(E:XK)(h:Bl CP C vs H Q E):av (aI K qg [] (et:=[("NoPlace",CP)]) (E:=E)) Gg (Dn Q) (start Gf vs) H:=by
 obtain⟨p,dx,lt,lb,lf,ts,vb,vn,rfl,S,h⟩:=h
 have fs: ∀{H1:Hp} {σ:St} {Q':VK},aC H H1->σ[0]?=some (some<|.ref p)->Q' (.int (au ts).length) H1->aj (aI K qg [] (et:=[("NoPlace",CP)]) (E:=E)) (.fld (.v 0) "signs") σ H1 Q':=fun s e q=> ⟨_,e,p,C,dx,_,_,rfl,s _ _ S.ob,T.cl,T.wd,Kn,q⟩
 have fb: ∀{H1:Hp} {σ:St} {Q':VK},aC H H1->σ[0]?=some (some<|.ref p)->Q' (.ref lb) H1->aj (aI K qg [] (et:=[("NoPlace",CP)]) (E:=E)) (.fld (.v 0) "begins") σ H1 Q':=fun s e q=> ⟨_,e,p,C,dx,_,_,rfl,s _ _ S.ob,T.cl,T.wb,Bb,q⟩
 have ft: ∀{H1:Hp} {σ:St} {Q':VK},aC H H1->σ[0]?=some (some<|.ref p)->Q' (.ref lt) H1->aj (aI K qg [] (et:=[("NoPlace",CP)]) (E:=E)) (.fld (.v 0) "texts") σ H1 Q':=fun s e q=> ⟨_,e,p,C,dx,_,_,rfl,s _ _ S.ob,T.cl,T.sx,wO,q⟩
 have rz:=aC.refl H
 rcases h with⟨hb | ⟨b,rfl,h1,h2,hb⟩,q⟩ | ⟨b,n,rfl,rfl,hbn,htl,hsl,Y8,q⟩
 ·refine bj (gK<|bO<|dU dt rfl<|ah<|ag rfl<|ah<|ao<|ah<|fs rz rfl<|az ⟨_,_,_,rfl, .inr ⟨hb,cq<|iT (iT ?_ rfl) rfl⟩⟩)
  exact⟨(by show 1<=sizeLine;decide),q⟩
 ·refine bj (gK<|bO<|dU dt rfl<|ah<|ag rfl<|ah<|ao<|ah<|fs rz rfl<|az ⟨_,_,_,rfl, .inl ⟨b,rfl,h1,h2,cq<|iF ?_ rfl⟩⟩)
  refine bO<|dU dt rfl<|ah<|ag rfl<|ah<|ao<|ah<|aN<|fs rz rfl<|ag rfl ⟨trivial,az ⟨_,_,_,rfl, .inr ⟨hb,cq<|iT ?_ rfl⟩⟩⟩
  exact⟨(by show 1<=sizeLine;decide),q⟩
 ·refine bj (gK<|bO<|dU dt rfl<|ah<|ag rfl<|ah<|ao<|ah<|fs rz rfl<|az ⟨_,_,_,rfl, .inl ⟨_,rfl,by lia,by lia,cq<|iF ?_ rfl⟩⟩)
  refine bO<|dU dt rfl<|ah<|ag rfl<|ah<|ao<|ah<|aN<|fs rz rfl<|ag rfl ⟨trivial,az ⟨_,_,_,rfl, .inl ⟨_,rfl,by lia,by lia,cq<|iF ?_ rfl⟩⟩⟩
  refine aO<|bS<|az ⟨zqZ _,fun d hd=> ?_⟩
  have s1:=sameNew (o:= .lst []) hd
  refine aO<|aN<|aP wL rfl<|ah<|fb s1 rfl<|ah<|ag rfl<|az ⟨lb,dC ts 0,_,rfl,s1 _ _ S.bg,Bk ts 0,ao ⟨trivial, ?_⟩⟩
  refine aO<|aN<|ag rfl<|ag rfl<|bP ?_
  have mF:upd H d (.lst []) d=some (.lst<|([]:List Str).map V.str):=aD
  refine oq (fun m σ H2=> ∃(c:Nat) (k:Int) (ps:List Str) (u6 u7:Option V),m=ts.length+1 - k.toNat/\σ=[some (.ref p),some (.int (c:Nat)),some (.int (n:Nat)),some (.ref d),some (.int k),some (.int ((b:Int)+ (n:Int))),u6,u7]/\bo d H H2/\H2 d=some (.lst (ps.map V.str))/\b<=c/\c<=b+n/\(cat ps).cps.toList=((au ts).drop b).take (c - b)/\ps.length<=k.toNat+1/\
    (c<b+n-> ∃j:Nat,k=(j:Int)/\j<ts.length/\pre ts j<=c/\c<=pre ts (j+1)))
   ⟨_,b,((cY (dC ts 0) (b:Int):Nat):Int) - 1,[],none,none,rfl,rfl,fun x o e nx=>by rw[aR nx];exact e,mF,zqR _,by lia,by rw[Yq,Nat.sub_self,List.take_zero];rfl,zqZ _,fun aW=> ?_⟩ ?_
  ·obtain⟨j,e,h1,h2,h3⟩:=Y3 (ts:=ts) (b:=b) (by lia)
   exact⟨j,by lia,h1,h2,h3⟩
  rintro m σ H2 ⟨c,k,ps,u6,u7,rfl,rfl,b2,hd2,Y9,hcn,wR,iR,cC⟩
  refine bq<|ag rfl<|ag rfl<|YY ⟨_,rfl, ?_⟩
  refine gE (fun aW=> ?_)<|fun aW=> ?_
  ·have sY:c<b+n:=by have:=of_decide_eq_true aW;lia
   obtain⟨j,rfl,qh,vW,Bm⟩:=cC sY
   clear cC
   have nd: ∀{a:Addr} {o:HO},H a=some o->H2 a=some o:=fun {a o} e=>b2 a o e (fun z=>by rw[z,hd] at e;cases e)
   have tj:ts[j]?=some ts[j]:=zav qh
   have Y_: ∀{σ:St} {Q':VK},σ[0]?=some (some<|.ref p)->Q' (.ref lb) H2->aj (aI K qg [] (et:=[("NoPlace",CP)]) (E:=E)) (.fld (.v 0) "begins") σ H2 Q':=fun e q=> ⟨_,e,p,C,dx,_,_,rfl,nd S.ob,T.cl,T.wb,Bb,q⟩
   have ft2: ∀{σ:St} {Q':VK},σ[0]?=some (some<|.ref p)->Q' (.ref lt) H2->aj (aI K qg [] (et:=[("NoPlace",CP)]) (E:=E)) (.fld (.v 0) "texts") σ H2 Q':=fun e q=> ⟨_,e,p,C,dx,_,_,rfl,nd S.ob,T.cl,T.sx,wO,q⟩
   have ab:dO ((dC ts 0).map V.int) (j:Int)=some (.int (pre ts j:Nat)):=ij (by rw[zak,sX ts 0 j qh,zaE];rfl)
   have at':dO (ts.map V.str) (j:Int)=some (.str ts[j]):=ij (by rw[zak,tj];rfl)
   have Za:=Y8 _ (zbm qh)
   refine⟨_,fun σ' Kh q=>q, ?_⟩
   refine aO<|aN<|ag rfl<|aU<|Y_ rfl<|ag rfl<|cI (nd S.bg) ab ⟨trivial, ?_⟩
   refine aO ?_
   refine⟨_,rfl,p,C,dx,_,_,rfl,nd S.ob,T.cl,T.sx,wO,_,rfl,cI (nd S.tx) at' ?_⟩
   refine⟨_,rfl,_,rfl,_,rfl,_,rfl,_,rfl,trivial,_,rfl,cp Za, ?_⟩
   have ec:iq ts[j] (some<|(c:Int) - (pre ts j:Nat)) (some<|(c:Int) - (pre ts j:Nat)+ ((b:Int)+ (n:Int)) - (c:Int))=⟨((au ts).drop c).take (min (b+n - c)<|pre ts (j+1) - c) |>.toArray⟩:=by
    rw[show(c:Int) - (pre ts j:Nat)=((c - pre ts j:Nat):Int) by lia,show((c - pre ts j:Nat):Int)+ ((b:Int)+ (n:Int)) - (c:Int)=((c - pre ts j:Nat):Int)+ ((b+n - c:Nat):Int) by lia,YH (c - pre ts j) ((b+n - c:Nat):Int) (b+n - c) rfl,Y4 tj vW Bm]
   rw[ec]
   have hpz:=Y1 ts (j+1)
   have lz:(⟨(((au ts).drop c).take<|min (b+n - c)<|pre ts (j+1) - c).toArray⟩:Str).length=min (b+n - c) (pre ts (j+1) - c):=by
    rw[len_list]
    show(((au ts).drop c).take _).length=_
    rw[zaf,zai];lia
   generalize hz:(⟨(((au ts).drop c).take<|min (b+n - c)<|pre ts (j+1) - c).toArray⟩:Str)=z at lz⊢
   refine eJ<|eR<|ag rfl ⟨.inl ⟨rfl,_,aB.of hd2⟩,ag rfl ⟨_,hd2,gg (by rw[zag];lia), ?_⟩⟩
   refine aO<|aN<|ag rfl<|dr<|ah<|ag rfl<|az ⟨cp (by lia),bP ?_⟩
   refine aO<|aN<|ag rfl<|ao<|bP ?_
   refine⟨_, ?_,c+z.length,((j:Int)+1),ps++ [z],some<|.int<|(c:Int) - (pre ts j:Nat),some<|.str z,rfl, ?_,b2.trans bo.upd, ?_,by lia,by lia, ?_, ?_, ?_⟩
   ·lia
   ·show[_,some<|V.int<|(c:Int)+ (z.length:Int),_,_,_,_,_,_]=_
    rw[Int.natCast_add]
   ·rw[aD,zap];rfl
   ·rw[YZ,wR,<-hz]
    show _++ ((au ts).drop c).take _=_
    rw[Y5 b c _ Y9,hz,lz]
   ·rw[zqA];show ps.length+1<=_;lia
   ·intro vm
    have e3:c+z.length=pre ts (j+1):=by lia
    have KC:j+1<ts.length:=by
     by_cases q:j+1<ts.length
     ·exact q
     ·have:=Kx (ts:=ts) (k:=j+1) (by lia)
      lia
    have hp2:=Ky (zav KC)
    exact⟨j+1,by lia,KC,by lia,by lia⟩
  ·have sY:c=b+n:=by
    have: ¬((c:Int) < (b:Int)+ (n:Int)):=fun z=>aW (zqT z)
    lia
   subst sY
   rw[show b+n - b=n by lia] at wR
   have lc:(cat ps).length<=1000000:=by rw[len_list,wR,zaf,zai];lia
   refine aY<|eR<|ao ⟨rfl,ag rfl ⟨ps,aB.of hd2,joinOk_of (by rw[<-Kf];exact lc), ?_⟩⟩
   have es:Txt.join "" ps=⟨(((au ts).drop b).take n).toArray⟩:=mD wR
   rw[es]
   exact q H2 fun a o e=>b2 a o e (fun z=>by rw[z,hd] at e;cases e)
end L2.B
namespace L2.N
open PySem PySem.Spec PyProof.Rows L2.B
abbrev tp(p:P3):HO:= .tup [.int p.1, .int p.2.1, .int p.2.2]
def Pc(H:Hp)(v:V)(p:P3):Prop:= ∃q,v= .ref q/\H q=some (tp p)
abbrev jj(H:Hp):List V->List P3->Prop:=Paired (Pc H)
theorem Pc.mono{H H':Hp}{v:V}{p:P3}(t:sP H H')(h:Pc H v p):Pc H' v p:=by
 obtain⟨a,e,h⟩:=h
 exact⟨a,e,t _ _ h⟩
theorem jj.mono{H H':Hp}(t:sP H H'): ∀{vs:List V} {ps:List P3},jj H vs ps->jj H' vs ps
 | _,_, .nil=> .nil
 | _,_, .cons h r=> .cons (h.mono t) (jj.mono t r)
theorem jj.app{H:Hp}: ∀{vs ws:List V} {ps qs:List P3},jj H vs ps->jj H ws qs->jj H (vs++ws) (ps++qs)
 | _,_,_,_, .nil,b=>b
 | _,_,_,_, .cons h r,b=> .cons h (jj.app r b)
def Nd(H:Hp):Tr->V->Prop
 | .nil,v=>v= .aA
 | .node l a b c r,v=> ∃p q vl vr,v= .ref p/\H p=some (.tup [vl, .ref q,vr, .int (Tr.node l a b c r).h, .int (Tr.node l a b c r).sz, .int (Tr.node l a b c r).en])/\H q=some (tp (a,b,c))/\Nd H l vl/\Nd H r vr
theorem Nd.mono{H H':Hp}(t:sP H H'): ∀{x:Tr} {v:V},Nd H x v->Nd H' x v
 | .nil,_,h=>h
 | .node l a b c r,_,⟨p,q,vl,vr,e,h1,h2,h3,h4⟩=> ⟨p,q,vl,vr,e,t _ _ h1,t _ _ h2,h3.mono t,h4.mono t⟩
def sZ:Sp:=fun vs H Q E=> ∃v t,vs=[v]/\Nd H t v/\Q (.int t.h) H
def jk:Sp:=fun vs H Q E=> ∃v t,vs=[v]/\Nd H t v/\Q (.int t.sz) H
def jl:Sp:=fun vs H Q E=> ∃v t,vs=[v]/\Nd H t v/\Q (.int t.en) H
theorem Zb{K:Frag}(vs:List V)(H:Hp)(Q:VK)(E:XK)(h:sZ vs H Q E):av (aI K [] [] (E:=E)) Gh {nx:=fun _ H'=>Q .aA H',rt:=Q} (start pS vs) H:=by
 obtain⟨v,t,rfl,hn,q⟩:=h
 refine⟨_,rfl,rfl,_,rfl, ?_⟩
 cases t with
 | nil=>cases hn;exact iT q
 | node l a b c r=>
  obtain⟨p,qq,vl,vr,rfl,h1, -⟩:=hn
  exact iF ⟨_,rfl,aJ h1 rfl q⟩
theorem Zc{K:Frag}(vs:List V)(H:Hp)(Q:VK)(E:XK)(h:jk vs H Q E):av (aI K [] [] (E:=E)) Gi {nx:=fun _ H'=>Q .aA H',rt:=Q} (start pS vs) H:=by
 obtain⟨v,t,rfl,hn,q⟩:=h
 refine⟨_,rfl,rfl,_,rfl, ?_⟩
 cases t with
 | nil=>cases hn;exact iT q
 | node l a b c r=>
  obtain⟨p,qq,vl,vr,rfl,h1, -⟩:=hn
  exact iF ⟨_,rfl,aJ h1 rfl q⟩
theorem Zd{K:Frag}(vs:List V)(H:Hp)(Q:VK)(E:XK)(h:jl vs H Q E):av (aI K [] [] (E:=E)) Gj {nx:=fun _ H'=>Q .aA H',rt:=Q} (start pS vs) H:=by
 obtain⟨v,t,rfl,hn,q⟩:=h
 refine⟨_,rfl,rfl,_,rfl, ?_⟩
 cases t with
 | nil=>cases hn;exact iT q
 | node l a b c r=>
  obtain⟨p,qq,vl,vr,rfl,h1, -⟩:=hn
  exact iF ⟨_,rfl,aJ h1 rfl q⟩
abbrev Ze:List (Str×Sp):=[("height_of",sZ),("size_of",jk),("ends_of",jl)]
def wU:Sp:=fun vs H Q E=> ∃vl q vr l r a b c,vs=[vl, .ref q,vr]/\Nd H l vl/\Nd H r vr/\H q=some (tp (a,b,c))/\ ∀v H',aC H H'->Nd H' (.node l a b c r) v->Q v H'
theorem Zf{K:Frag}(vs:List V)(H:Hp)(Q:VK)(E:XK)(h:wU vs H Q E):av (aI K Ze [] (E:=E)) Gm {nx:=fun _ H'=>Q .aA H',rt:=Q} (start Gk vs) H:=by
 obtain⟨vl,q,vr,l,r,a,b,c,rfl,hl,hr,hq,k⟩:=h
 refine⟨_,rfl,vl,l,rfl,hl,_,rfl,vr,r,rfl,hr, ?_⟩
 refine⟨_,rfl,vl,l,rfl,hl,_,rfl,aJ hq rfl ⟨_,rfl,vr,r,rfl,hr, ?_⟩⟩
 refine⟨_,rfl,_,rfl,_,rfl,_,rfl,_,rfl,_,rfl,vl,l,rfl,hl,_,rfl,aJ hq rfl ⟨_,rfl,vr,r,rfl,hr,(by show 6<=sizeLine;decide),fun t ht=> ?_⟩⟩
 have s:=sameNew (o:= .tup [vl, .ref q,vr, .int<|1+ (if r.h>l.h then r.h else l.h), .int<|l.sz+b+r.sz, .int<|l.en+c+r.en]) ht
 exact k _ _ s ⟨t,q,vl,vr,rfl,aD,s _ _ hq,hl.mono<|cA s,hr.mono<|cA s⟩
abbrev KD:List (Str×Sp):=[("height_of",sZ),("made",wU)]
def KG:Sp:=fun vs H Q E=> ∃vl q vr l r a b c,vs=[vl, .ref q,vr]/\Nd H l vl/\Nd H r vr/\H q=some (tp (a,b,c))/\l.ok/\r.ok/\l.h=r.h+2/\ ∀v H' t,aC H H'->Nd H' t v->Tr.jY l a b c r t->Q v H'
def KH:Sp:=fun vs H Q E=> ∃vl q vr l r a b c,vs=[vl, .ref q,vr]/\Nd H l vl/\Nd H r vr/\H q=some (tp (a,b,c))/\l.ok/\r.ok/\r.h=l.h+2/\ ∀v H' t,aC H H'->Nd H' t v->Tr.jY l a b c r t->Q v H'
theorem Zg{K:Frag}(vs:List V)(H:Hp)(Q:VK)(E:XK)(h:KG vs H Q E):av (aI K KD [] (E:=E)) Gp {nx:=fun _ H'=>Q .aA H',rt:=Q} (start we vs) H:=by
 obtain⟨vl,q,vr,l,r,a',b',c',rfl,hl,hr,hq,o1,o2,hh,k⟩:=h
 have r0:=Tr.h0 r
 obtain⟨ll,a,b,c,lr,rfl⟩:=Tr.pZ (t:=l) (by lia)
 obtain⟨p,ql,s_,wV,rfl,hp,wW,tf,k9⟩:=hl
 refine⟨_,rfl,aJ hp rfl ?_⟩
 refine⟨_,rfl,aJ hp rfl ⟨s_,ll,rfl,tf,_,rfl,wV,lr,rfl,k9,trivial,_,rfl, ?_⟩⟩
 refine gE (fun h=> ?_)<|fun h=> ?_
 ·have om:lr.h<=ll.h:=of_decide_eq_true h
  refine⟨_,rfl,aJ hp rfl ⟨_,rfl,aJ hp rfl ⟨_,rfl,_,rfl,_,rfl,wV,q,vr,lr,r,a',b',c',rfl,k9,hr,hq,fun v H1 s1 n1=> ?_⟩⟩⟩
  refine⟨s_,ql,v,ll,_,a,b,c,rfl,tf.mono<|cA s1,n1,s1 _ _ wW,fun v2 H2 s2 n2=> ?_⟩
  exact k _ _ _ (s1.trans s2) n2<|Tr.X8 o1 o2 hh om
 ·have aW:ll.h<lr.h:=by
   have: ¬lr.h<=ll.h:=fun z=>h (zqT z)
   lia
  have l0:=Tr.h0 ll
  obtain⟨il,x,y,z,ir,rfl⟩:=Tr.pZ (t:=lr) (by lia)
  obtain⟨pi,qi,Bn,Bo,rfl,ow,Bp,Bq,Br⟩:=k9
  refine⟨_,rfl,aJ hp rfl ⟨_,rfl,aJ hp rfl ⟨_,rfl,aJ ow rfl ⟨s_,ql,Bn,ll,il,a,b,c,rfl,tf,Bq,wW,fun v H1 s1 n1=> ?_⟩⟩⟩⟩
  refine⟨_,rfl,aJ (s1 _ _ ow) rfl ⟨_,rfl,aJ (s1 _ _ ow) rfl ⟨_,rfl,_,rfl,Bo,q,vr,ir,r,a',b',c',rfl,Br.mono<|cA s1,hr.mono<|cA s1,s1 _ _ hq,fun v2 H2 s2 n2=> ?_⟩⟩⟩
  refine⟨v,qi,v2,_,_,x,y,z,rfl,n1.mono<|cA s2,n2,s2 _ _<|s1 _ _ Bp,fun v3 H3 s3 n3=> ?_⟩
  exact k _ _ _ (s1.trans<|s2.trans s3) n3<|Tr.X9 o1 o2 hh aW
theorem Zh{K:Frag}(vs:List V)(H:Hp)(Q:VK)(E:XK)(h:KH vs H Q E):av (aI K KD [] (E:=E)) Gs {nx:=fun _ H'=>Q .aA H',rt:=Q} (start we vs) H:=by
 obtain⟨vl,q,vr,l,r,a,b,c,rfl,hl,hr,hq,o1,o2,hh,k⟩:=h
 have r0:=Tr.h0 l
 obtain⟨rl,a',b',c',rr,rfl⟩:=Tr.pZ (t:=r) (by lia)
 obtain⟨p,qr,wX,tm,rfl,hp,wY,tq,tu⟩:=hr
 refine⟨_,rfl,aJ hp rfl ?_⟩
 refine⟨_,rfl,aJ hp rfl ⟨tm,rr,rfl,tu,_,rfl,wX,rl,rfl,tq,trivial,_,rfl, ?_⟩⟩
 refine gE (fun h=> ?_)<|fun h=> ?_
 ·have om:rl.h<=rr.h:=of_decide_eq_true h
  refine⟨_,rfl,_,rfl,_,rfl,vl,q,wX,l,rl,a,b,c,rfl,hl,tq,hq,fun v H1 s1 n1=> ?_⟩
  refine⟨_,rfl,aJ (s1 _ _ hp) rfl ⟨_,rfl,aJ (s1 _ _ hp) rfl ⟨v,qr,tm,_,rr,a',b',c',rfl,n1,tu.mono<|cA s1,s1 _ _ wY,fun v2 H2 s2 n2=> ?_⟩⟩⟩
  exact k _ _ _ (s1.trans s2) n2<|Tr.X_ o1 o2 hh om
 ·have aW:rr.h<rl.h:=by
   have: ¬rl.h<=rr.h:=fun z=>h (zqT z)
   lia
  have l0:=Tr.h0 rr
  obtain⟨il,x,y,z,ir,rfl⟩:=Tr.pZ (t:=rl) (by lia)
  obtain⟨pi,qi,Bn,Bo,rfl,ow,Bp,Bq,Br⟩:=tq
  refine⟨_,rfl,_,rfl,_,rfl,aJ ow rfl ⟨vl,q,Bn,l,il,a,b,c,rfl,hl,Bq,hq,fun v H1 s1 n1=> ?_⟩⟩
  refine⟨_,rfl,aJ (s1 _ _ ow) rfl ⟨_,rfl,aJ (s1 _ _ ow) rfl ⟨_,rfl,aJ (s1 _ _ hp) rfl ⟨_,rfl,aJ (s1 _ _ hp) rfl ⟨Bo,qr,tm,ir,rr,a',b',c',rfl,Br.mono<|cA s1,tu.mono<|cA s1,s1 _ _ wY,fun v2 H2 s2 n2=> ?_⟩⟩⟩⟩⟩
  refine⟨v,qi,v2,_,_,x,y,z,rfl,n1.mono<|cA s2,n2,s2 _ _<|s1 _ _ Bp,fun v3 H3 s3 n3=> ?_⟩
  exact k _ _ _ (s1.trans<|s2.trans s3) n3<|Tr.Ya o1 o2 hh aW
abbrev Zi:List (Str×Sp):=[("height_of",sZ),("turned_right",KG),("turned_left",KH),("made",wU)]
def KI:Sp:=fun vs H Q E=> ∃vl q vr l r a b c,vs=[vl, .ref q,vr]/\Nd H l vl/\Nd H r vr/\H q=some (tp (a,b,c))/\l.ok/\r.ok/\l.h<=r.h+2/\r.h<=l.h+2/\ ∀v H' t,aC H H'->Nd H' t v->Tr.jY l a b c r t->Q v H'
theorem Zj{K:Frag}(vs:List V)(H:Hp)(Q:VK)(E:XK)(h:KI vs H Q E):av (aI K Zi [] (E:=E)) Gu {nx:=fun _ H'=>Q .aA H',rt:=Q} (start sy vs) H:=by
 obtain⟨vl,q,vr,l,r,a,b,c,rfl,hl,hr,hq,o1,o2,Zk,hh2,k⟩:=h
 refine⟨_,rfl,vl,l,rfl,hl,_,rfl,vr,r,rfl,hr,trivial,_,rfl, ?_⟩
 refine gE (fun h=> ?_)<|fun h=> ?_
 ·have g:r.h+1<l.h:=of_decide_eq_true h
  exact⟨_,rfl,_,rfl,_,rfl,vl,q,vr,l,r,a,b,c,rfl,hl,hr,hq,o1,o2,by lia,k⟩
 ·have g: ¬r.h+1<l.h:=fun z=>h (zqT z)
  refine⟨_,rfl,vr,r,rfl,hr,_,rfl,vl,l,rfl,hl,trivial,_,rfl, ?_⟩
  refine gE (fun h=> ?_)<|fun h=> ?_
  ·have g2:l.h+1<r.h:=of_decide_eq_true h
   exact⟨_,rfl,_,rfl,_,rfl,vl,q,vr,l,r,a,b,c,rfl,hl,hr,hq,o1,o2,by lia,k⟩
  ·have g2: ¬l.h+1<r.h:=fun z=>h (zqT z)
   exact⟨_,rfl,_,rfl,_,rfl,vl,q,vr,l,r,a,b,c,rfl,hl,hr,hq,fun v H' s n=>k _ _ _ s n<|Tr.J4 o1 o2 (by lia) (by lia)⟩
def oz(n:Nat):Sp:=fun vs H Q E=> ∃vl q vr l r a b c,vs=[vl, .ref q,vr]/\Nd H l vl/\Nd H r vr/\H q=some (tp (a,b,c))/\l.ok/\r.ok/\l.h+r.h<n/\ ∀v H' t,aC H H'->Nd H' t v->Tr.Jn l a b c r t->Q v H'
theorem Zl(vs:List V)(H:Hp)(Q:VK)(E:XK): ¬oz 0 vs H Q E:=by
 rintro⟨vl,q,vr,l,r,a,b,c, -, -, -, -, -, -,h, -⟩
 have:=Tr.h0 l
 have:=Tr.h0 r
 lia
abbrev Zm(n:Nat):List (Str×Sp):=[("height_of",sZ),("leveled",KI),("joined",oz n),("made",wU)]
theorem Zn{K:Frag}(n:Nat)(vs:List V)(H:Hp)(Q:VK)(E:XK)(h:oz (n+1) vs H Q E):av (aI K (Zm n) [] (E:=E)) Gv {nx:=fun _ H'=>Q .aA H',rt:=Q} (start sy vs) H:=by
 obtain⟨vl,q,vr,l,r,a,b,c,rfl,hl,hr,hq,o1,o2,hh,k⟩:=h
 have r0:=Tr.h0 r
 have l0:=Tr.h0 l
 refine⟨_,rfl,vl,l,rfl,hl,_,rfl,vr,r,rfl,hr,trivial,_,rfl, ?_⟩
 refine gE (fun h=> ?_)<|fun h=> ?_
 ·have g:r.h+1<l.h:=of_decide_eq_true h
  obtain⟨ll,a1,b1,c1,lr,rfl⟩:=Tr.pZ (t:=l) (by lia)
  obtain⟨p,ql,s_,wV,rfl,hp,wW,tf,k9⟩:=hl
  have e1:=Tr.dq ll a1 b1 c1 lr
  have aW:lr.h+r.h<n:=by
   have:lr.h< (Tr.node ll a1 b1 c1 lr).h:=by rw[e1];split<;>lia
   lia
  refine⟨_,rfl,aJ hp rfl ⟨_,rfl,aJ hp rfl ⟨_,rfl,aJ hp rfl ⟨_,rfl,_,rfl,wV,q,vr,lr,r,a,b,c,rfl,k9,hr,hq,o1.2.1,o2,aW,fun v H1 t s1 n1 J=> ?_⟩⟩⟩⟩
  obtain⟨g1,g2⟩:=Tr.Ye o1 g J
  refine⟨s_,ql,v,ll,t,a1,b1,c1,rfl,tf.mono<|cA s1,n1,s1 _ _ wW,o1.1,J.ok,g1,g2,fun v2 H2 t2 s2 n2 L=> ?_⟩
  exact k _ _ _ (s1.trans s2) n2<|Tr.Yc o1 g J L
 ·have g: ¬r.h+1<l.h:=fun z=>h (zqT z)
  refine⟨_,rfl,vr,r,rfl,hr,_,rfl,vl,l,rfl,hl,trivial,_,rfl, ?_⟩
  refine gE (fun h=> ?_)<|fun h=> ?_
  ·have g2:l.h+1<r.h:=of_decide_eq_true h
   obtain⟨rl,a1,b1,c1,rr,rfl⟩:=Tr.pZ (t:=r) (by lia)
   obtain⟨p,qr,wX,tm,rfl,hp,wY,tq,tu⟩:=hr
   have e1:=Tr.dq rl a1 b1 c1 rr
   have aW:l.h+rl.h<n:=by
    have:rl.h< (Tr.node rl a1 b1 c1 rr).h:=by rw[e1];split<;>lia
    lia
   refine⟨_,rfl,_,rfl,_,rfl,aJ hp rfl ⟨vl,q,wX,l,rl,a,b,c,rfl,hl,tq,hq,o1,o2.1,aW,fun v H1 t s1 n1 J=> ?_⟩⟩
   obtain⟨k1,k2⟩:=Tr.Yf o2 g2 J
   refine⟨_,rfl,aJ (s1 _ _ hp) rfl ⟨_,rfl,aJ (s1 _ _ hp) rfl ⟨v,qr,tm,t,rr,a1,b1,c1,rfl,n1,tu.mono<|cA s1,s1 _ _ wY,J.ok,o2.2.1,k1,k2,fun v2 H2 t2 s2 n2 L=> ?_⟩⟩⟩
   exact k _ _ _ (s1.trans s2) n2<|Tr.Yd o2 g2 J L
  ·have g2: ¬l.h+1<r.h:=fun z=>h (zqT z)
   exact⟨_,rfl,_,rfl,_,rfl,vl,q,vr,l,r,a,b,c,rfl,hl,hr,hq,fun v H' s n=>k _ _ _ s n<|Tr.Yb o1 o2 (by lia) (by lia)⟩
def qk(n:Nat):Sp:=fun vs H Q E=> ∃v t,vs=[v]/\Nd H t v/\t.h<n/\t.aw.length<=1000/\ ∀w H' xs,aC H H'->H w=none->H' w=some (.lst xs)->jj H' xs t.aw->Q (.ref w) H'
theorem Zo(vs:List V)(H:Hp)(Q:VK)(E:XK): ¬qk 0 vs H Q E:=by
 rintro⟨v,t, -, -,h, -⟩
 have:=Tr.h0 t
 lia
theorem KJ{l r:Tr}{a b c:Int}{n:Nat}(h:(Tr.node l a b c r).aw.length<=n):l.aw.length+r.aw.length+1<=n:=by
 simp only[Tr.aw,zqA,zar] at h;lia
theorem KL(l r:Tr)(a b c:Int):l.h< (Tr.node l a b c r).h/\r.h< (Tr.node l a b c r).h:=by
 rw[Tr.dq];split<;>lia
theorem Zp{K:Frag}(n:Nat)(vs:List V)(H:Hp)(Q:VK)(E:XK)(h:qk (n+1) vs H Q E):av (aI K [("pieces_of",qk n)] [] (E:=E)) GA {nx:=fun _ H'=>Q .aA H',rt:=Q} (start Az vs) H:=by
 obtain⟨v,t,rfl,hn,hh,hl,k⟩:=h
 refine⟨_,rfl,rfl,_,rfl, ?_⟩
 cases t with
 | nil=>
  cases hn
  exact iT ⟨zqZ _,fun w hw=>k w _ [] (sameNew hw) hw aD .nil⟩
 | node l a b c r=>
  obtain⟨p,q,vl,vr,rfl,hp,hq,j6,tw⟩:=hn
  have e1:=KJ hl
  obtain⟨e2,e3⟩:=KL l r a b c
  refine iF ⟨_,rfl,aJ hp rfl ⟨vl,l,rfl,j6,by lia,by lia,fun w H1 xs s1 fw hw px=> ?_⟩⟩
  have lx:=Paired.length px
  refine⟨_,rfl, .inl ⟨rfl,_,aB.of hw⟩,_,rfl,aJ (s1 _ _ hp) rfl ⟨_,hw,gg (by lia), ?_⟩⟩
  have b1:bo w H1 (upd H1 w<|.lst<|xs++ [V.ref q]):=bo.upd
  have s2:aC H (upd H1 w<|.lst<|xs++ [V.ref q]):=Ke s1 fw b1
  have t1:=b1.eA hw
  generalize Zq:upd H1 w (.lst<|xs++ [V.ref q])=H2 at s2 t1
  have Bs:H2 w=some (.lst<|xs++ [V.ref q]):=by rw[<-Zq,aD]
  refine⟨_,rfl, .inl ⟨rfl,_,aB.of Bs⟩,_,rfl,aJ (s2 _ _ hp) rfl ⟨vr,r,rfl,tw.mono<|cA s2,by lia,by lia,fun w2 H3 ys s3 qm wZ py=> ?_⟩⟩
  have ly:=Paired.length py
  refine⟨_,_,s3 _ _ Bs,wZ,cp (by simp;lia), ?_⟩
  have b3:bo w H3 (upd H3 w<|.lst<|xs++ [V.ref q]++ys):=bo.upd
  have t3:=b3.eA (s3 _ _ Bs)
  refine⟨_,rfl,k w _ (xs++ [V.ref q]++ys) (Ke (s2.trans s3) fw b3) fw aD ?_⟩
  have e:(Tr.node l a b c r).aw=l.aw++ [(a,b,c)]++r.aw:=by simp[Tr.aw]
  rw[e]
  refine((((px.mono t1).mono<|cA s3).app<|.cons ⟨q,rfl,s3 _ _<|t1 _ _<|s1 _ _ hq⟩ .nil).app py).mono t3
def ends(ts:List Str)(n:Int):Int:=(((au ts).take n.toNat).count 10:Nat)
def oA(C:Addr):Sp:=fun vs H Q E=> ∃(p dx lt lb lf:Addr) (ts:List Str) (n:Int),vs=[.ref p, .int n]/\du C H p dx lt lb lf ts/\0<=n/\Q (.int<|ends ts n) H
theorem Zr{K:Frag}{C:Addr}(T:nX K C)(vs:List V)(H:Hp)(Q:VK)(E:XK)(h:oA C vs H Q E):av (aI K [("many_upto",wL)] [] (E:=E)) GD {nx:=fun _ H'=>Q .aA H',rt:=Q} (start GC vs) H:=by
 obtain⟨p,dx,lt,lb,lf,ts,n,rfl,S,hn,q⟩:=h
 refine⟨_,rfl,p,C,dx,_,_,rfl,S.ob,T.cl,T.wc,Bc,_,rfl,trivial,lf,_,_,rfl,S.fd,Yg _ _, ?_⟩
 obtain⟨m,rfl⟩:=Int.eq_ofNat_of_zero_le hn
 rw[Yh]
 exact q
abbrev Zs(C:Addr):List (Str×Addr×Sp):=[("ends_ahead",C,oA C)]
theorem KN{lt lb lf:Addr}{n:Int}:(eK lt lb lf n).lookup ("ends_ahead":Str)=none:=sU (by decide+kernel) (by decide+kernel) (by decide+kernel) (by decide+kernel)
def KO(C:Addr):Sp:=fun vs H Q E=> ∃(q:Addr) (a b c n:Int) (p dx lt lb lf:Addr) (ts:List Str),vs=[.ref q, .int n, .ref p]/\H q=some (tp (a,b,c))/\du C H p dx lt lb lf ts/\0<=a/\0<=n/\
 ∀(w q1 q2:Addr) (H':Hp),aC H H'->H' w=some (.tup [.ref q1, .ref q2])->H' q1=some (tp (a,n,ends ts (a+n) - ends ts a))->H' q2=some (tp (a+n,b - n,c - (ends ts (a+n) - ends ts a)))->Q (.ref w) H'
theorem Zt{K:Frag}{C:Addr}(vs:List V)(H:Hp)(Q:VK)(E:XK)(h:KO C vs H Q E):av (aI K [] [] [] (Zs C) (E:=E)) Gx {nx:=fun _ H'=>Q .aA H',rt:=Q} (start Gw vs) H:=by
 obtain⟨q,a,b,c,n,p,dx,lt,lb,lf,ts,rfl,hq,S,ha,hn,k⟩:=h
 refine⟨_,rfl,aJ hq rfl ⟨_,rfl, ?_⟩⟩
 refine⟨_,rfl,p,dx,_,rfl,S.ob,KN,_,rfl,p,dx,lt,lb,lf,ts,_,rfl,S,(by show 0<=a+n;lia), ?_⟩
 refine⟨_,rfl,p,dx,_,rfl,S.ob,KN,_,rfl,aJ hq rfl ⟨p,dx,lt,lb,lf,ts,a,rfl,S,ha,trivial, ?_⟩⟩
 refine⟨_,rfl,aJ hq rfl ⟨_,rfl,_,rfl,(by show 3<=sizeLine;decide),fun q1 f1=> ?_⟩⟩
 have s1:=sameNew (o:=tp (a,n,ends ts (a+n) - ends ts a)) f1
 refine⟨_,rfl,_,rfl,aJ (s1 _ _ hq) rfl ⟨_,rfl,trivial,_,rfl,aJ (s1 _ _ hq) rfl ⟨_,rfl,trivial,(by show 3<=sizeLine;decide),fun q2 f2=> ?_⟩⟩⟩
 have s2:=sameNew (o:=tp (a+n,b - n,c - (ends ts (a+n) - ends ts a))) f2
 refine⟨(by show 2<=sizeLine;decide),fun w fw=> ?_⟩
 have s3:=sameNew (o:= .tup [V.ref q1,V.ref q2]) fw
 exact k w q1 q2 _ (s1.trans<|s2.trans s3) aD (s3 _ _<|s2 _ _ aD)<|s3 _ _ aD
theorem lA: ∀t:Tr,t.sz=cX t.aw
 | .nil=>rfl
 | .node l a b c r=>by
  show l.sz+b+r.sz=cX (l.aw++ (a,b,c)::r.aw)
  rw[J6,oj,lA l,lA r]
  show cX l.aw+b+cX r.aw=cX l.aw+ (b+cX r.aw)
  lia
def tD(p:P3):Prop:=0<=p.1/\1<=p.2.1
def oB(C:Addr)(n:Nat):Sp:=fun vs H Q E=> ∃(v:V) (t:Tr) (pl:Int) (p dx lt lb lf:Addr) (ts:List Str),vs=[v, .int pl, .ref p]/\Nd H t v/\t.ok/\du C H p dx lt lb lf ts/\(∀q∈t.aw,tD q)/\t.h<n/\t.aw.length<=1000/\0<=pl/\pl<=t.sz/\
 ∀(w:Addr) (v1 v2:V) (t1 t2:Tr) (H':Hp),aC H H'->H' w=some (.tup [v1,v2])->Nd H' t1 v1->Nd H' t2 v2->t1.ok->t2.ok->t1.aw=d9 (ends ts) t.aw pl->t2.aw=d_ (ends ts) t.aw pl->Q (.ref w) H'
theorem Zu(C:Addr)(vs:List V)(H:Hp)(Q:VK)(E:XK): ¬oB C 0 vs H Q E:=by
 rintro⟨v,t,pl,p,dx,lt,lb,lf,ts, -, -, -, -, -,h, -⟩
 have:=Tr.h0 t
 lia
abbrev Zv(C:Addr)(n:Nat):List (Str×Sp):=[("size_of",jk),("parted",oB C n),("joined",oz 64),("cut_in_two",KO C)]
theorem Zw{K:Frag}{C:Addr}(n:Nat)(vs:List V)(H:Hp)(Q:VK)(E:XK)(h:oB C (n+1) vs H Q E):av (aI K (Zv C n) [] (E:=E)) Gz {nx:=fun _ H'=>Q .aA H',rt:=Q} (start Ay vs) H:=by
 obtain⟨v,t,pl,p,dx,lt,lb,lf,ts,rfl,hn,ho,S,Bt,hh,hlen,Zx,fP,k⟩:=h
 refine⟨_,rfl,rfl,_,rfl, ?_⟩
 cases t with
 | nil=>
  cases hn
  exact iT ⟨(by show 2<=sizeLine;decide),fun w hw=>k w .aA .aA .nil .nil _ (sameNew hw) aD rfl rfl trivial trivial rfl rfl⟩
 | node l a b c r=>
  obtain⟨pa,q,vl,vr,rfl,mH,hq,hl,hr⟩:=hn
  obtain⟨o1,o2,o3,o4⟩:=ho
  obtain⟨e2,e3⟩:=KL l r a b c
  have e1:=KJ hlen
  have gQ:=lA l
  have aeJ:=lA r
  have iG: ∀x∈l.aw,tD x:=fun x hx=>Bt x (by simp[Tr.aw,hx])
  have tE: ∀x∈r.aw,tD x:=fun x hx=>Bt x (by simp[Tr.aw,hx])
  have pm:tD (a,b,c):=Bt _ (by simp[Tr.aw])
  have tF:(Tr.node l a b c r).aw=l.aw++ (a,b,c)::r.aw:=rfl
  have aeK:(Tr.node l a b c r).sz=l.sz+b+r.sz:=rfl
  have aeL:=Tr.oi o1 (by lia:l.aw.length<=1000)
  have aeM:=Tr.oi o2 (by lia:r.aw.length<=1000)
  refine iF ⟨_,rfl,aJ mH rfl ?_⟩
  refine⟨_,rfl,aJ mH rfl ⟨vl,l,rfl,hl, ?_⟩⟩
  refine⟨_,rfl,_,rfl,aJ hq rfl ?_⟩
  refine⟨_,rfl,_,rfl,trivial,_,rfl, ?_⟩
  refine gE (fun g=> ?_)<|fun g=> ?_
  ·have hle:pl<=l.sz:=of_decide_eq_true g
   refine⟨_,rfl,aJ mH rfl ⟨_,rfl,_,rfl,vl,l,pl,p,dx,lt,lb,lf,ts,rfl,hl,o1,S,iG,by lia,by lia,Zx,hle,fun w v1 v2 t1 t2 H1 s1 hw n1 n2 k1 k2 c1 c2=> ?_⟩⟩
   obtain⟨x1,x2⟩:=J9 (ends ts) ((a,b,c)::r.aw) l.aw pl (fun x hx=> (iG x hx).2) (by lia)
   have l2:=(sN (ends ts) l.aw pl).2
   have h2:=Tr.oi k2 (by rw[c2];lia)
   refine⟨_,rfl,aJ hw rfl ⟨_,rfl,aJ hw rfl ⟨_,rfl,_,rfl,aJ (s1 _ _ mH) rfl ⟨v2,q,vr,t2,r,a,b,c,rfl,n2,hr.mono<|cA s1,s1 _ _ hq,k2,o2,(by show _< ((64:Nat):Int);lia),fun v3 H2 t3 s2 n3 J=> ⟨(by show 2<=sizeLine;decide),fun w2 qm=> ?_⟩⟩⟩⟩⟩
   have s3:=sameNew (o:= .tup [v1,v3]) qm
   refine k w2 v1 v3 t1 t3 _ (s1.trans<|s2.trans s3) aD ((n1.mono<|cA s2).mono<|cA s3) (n3.mono<|cA s3) k1 J.ok ?_ ?_
   ·rw[tF,x1,c1]
   ·rw[tF,x2,J.aw,c2]
  ·have hgt: ¬pl<=l.sz:=fun z=>g (zqT z)
   refine⟨_,rfl,_,rfl,trivial,_,rfl, ?_⟩
   refine gE (fun g=> ?_)<|fun g=> ?_
   ·have om:l.sz+b<=pl:=of_decide_eq_true g
    refine⟨_,rfl,aJ mH rfl ⟨_,rfl,_,rfl,trivial,_,rfl,vr,r,pl - (l.sz+b),p,dx,lt,lb,lf,ts,rfl,hr,o2,S,tE,by lia,by lia,by lia,by lia,fun w v1 v2 t1 t2 H1 s1 hw n1 n2 k1 k2 c1 c2=> ?_⟩⟩
    have ez:cX (l.aw++ [(a,b,c)])=l.sz+b:=by
     rw[J6,oj,J5,gQ]
     show cX l.aw+ (b+0)=_
     lia
    obtain⟨x1,x2⟩:=A3 (ends ts) r.aw (l.aw++ [(a,b,c)]) pl (fun x hx=>by
     rcases zax.mp hx with z | z
     ·exact(iG x z).2
     ·rw[zas.mp z];exact pm.2) (by lia)
    have l1:=(sN (ends ts) r.aw<|pl - (l.sz+b)).1
    have h1:=Tr.oi k1 (by rw[c1];lia)
    refine⟨_,rfl,aJ (s1 _ _ mH) rfl ⟨_,rfl,_,rfl,aJ hw rfl ⟨vl,q,v1,l,t1,a,b,c,rfl,hl.mono<|cA s1,n1,s1 _ _ hq,o1,k1,(by show _< ((64:Nat):Int);lia),fun v3 H2 t3 s2 n3 J=> ?_⟩⟩⟩
    refine⟨_,rfl,aJ (s2 _ _ hw) rfl ⟨(by show 2<=sizeLine;decide),fun w2 qm=> ?_⟩⟩
    have s3:=sameNew (o:= .tup [v3,v2]) qm
    have e5:(Tr.node l a b c r).aw=(l.aw++ [(a,b,c)])++r.aw:=by rw[tF];simp
    refine k w2 v3 v2 t3 t2 _ (s1.trans<|s2.trans s3) aD (n3.mono<|cA s3) ((n2.mono<|cA s2).mono<|cA s3) J.ok k2 ?_ ?_
    ·rw[e5,x1,ez,J.aw,c1];simp
    ·rw[e5,x2,ez,c2]
   ·have aW: ¬l.sz+b<=pl:=fun z=>g (zqT z)
    refine⟨_,rfl,_,rfl,_,rfl,trivial,_,rfl,q,a,b,c,pl - l.sz,p,dx,lt,lb,lf,ts,rfl,hq,S,pm.1,by lia,fun w q1 q2 H1 s1 hw h1 h2=> ?_⟩
    obtain⟨x1,x2⟩:=A3 (ends ts) ((a,b,c)::r.aw) l.aw pl (fun x hx=> (iG x hx).2) (by lia)
    rw[<-gQ] at x1 x2
    refine⟨_,rfl,aJ (s1 _ _ mH) rfl ⟨_,rfl,aJ hw rfl ⟨vl,q1, .aA,l, .nil,a,pl - l.sz,_,rfl,hl.mono<|cA s1,rfl,h1,o1,trivial,(by show _< ((64:Nat):Int);show l.h+0<64;lia),fun v3 H2 t3 s2 n3 J=> ?_⟩⟩⟩
    refine⟨_,rfl,aJ (s2 _ _ hw) rfl ⟨_,rfl,aJ (s2 _ _<|s1 _ _ mH) rfl ⟨.aA,q2,vr, .nil,r,_,_,_,rfl,rfl,(hr.mono<|cA s1).mono<|cA s2,s2 _ _ h2,trivial,o2,(by show _< ((64:Nat):Int);show 0+r.h<64;lia),fun v4 H3 t4 s3 n4 J2=> ⟨(by show 2<=sizeLine;decide),fun w2 qm=> ?_⟩⟩⟩⟩
    have s4:=sameNew (o:= .tup [v3,v4]) qm
    refine k w2 v3 v4 t3 t4 _ (s1.trans<|s2.trans<|s3.trans s4) aD ((n3.mono<|cA s3).mono<|cA s4) (n4.mono<|cA s4) J.ok J2.ok ?_ ?_
    ·rw[tF,x1,J.aw]
     simp only[d9]
     rw[if_neg (by lia),if_neg (by show ¬b<=pl - l.sz;lia)]
     rfl
    ·rw[tF,x2,J2.aw]
     simp only[d_]
     rw[if_neg (by lia),if_neg (by show ¬b<=pl - l.sz;lia)]
     rfl
end L2.N
namespace L2.N
open PySem PySem.Spec L2.B
def seg(S:List Nat)(q:P3):List Nat:=(S.drop q.1.toNat).take q.2.1.toNat
def txt(S:List Nat)(ps:List P3):List Nat:=ps.flatMap (seg S)
theorem txt_nil(S:List Nat):txt S []=[]:=rfl
theorem jm(S:List Nat)(p:P3)(r:List P3):txt S (p::r)=seg S p++txt S r:=rfl
theorem Zy(S:List Nat)(a b:List P3):txt S (a++b)=txt S a++txt S b:=List.flatMap_append
structure da (S:List Nat) (q:P3):Prop where
 p0:0<=q.1
 p1:1<=q.2.1
 p2:q.1+q.2.1<=S.length
 p3:q.2.2=((seg S q).count 10:Nat)
theorem da.len{S:List Nat}{q:P3}(h:da S q):((seg S q).length:Int)=q.2.1:=by
 have h0:=h.p0
 have h1:=h.p1
 have h2:=h.p2
 unfold seg
 rw[zaf,zai]
 lia
theorem w6{S:List Nat}: ∀{ps:List P3},(∀q∈ps,da S q)->((txt S ps).length:Int)=cX ps
 | [],_=>rfl
 | p::r,h=>by
  rw[jm,zqA,oj,<-w6 fun q hq=>h q (zau _ hq),<-(h p zay).len]
  lia
theorem w9: ∀t:Tr,t.en=((t.aw.map fun p=>p.2.2).sum)
 | .nil=>rfl
 | .node l a b c r=>by
  show l.en+c+r.en=((l.aw++ (a,b,c)::r.aw).map fun p=>p.2.2).sum
  rw[zap,List.sum_append,zaO,List.sum_cons,w9 l,w9 r]
  show(l.aw.map fun p=>p.2.2).sum+c+ (r.aw.map fun p=>p.2.2).sum=(l.aw.map fun p=>p.2.2).sum+ (c+ (r.aw.map fun p=>p.2.2).sum)
  lia
theorem Bu{S:List Nat}: ∀{ps:List P3},(∀q∈ps,da S q)->(ps.map fun p=>p.2.2).sum=((txt S ps).count 10:Nat)
 | [],_=>rfl
 | p::r,h=>by
  rw[jm,zaU,zaO,List.sum_cons,Bu fun q hq=>h q (zau _ hq),(h p zay).p3]
  lia
theorem Zz{S:List Nat}{a b n:Int}(h0:0<=a)(h1:0<=n)(h2:n<=b)(h3:a+b<=S.length)(c1 c2 c3:Int):seg S (a,n,c1)++seg S (a+n,b - n,c2)=seg S (a,b,c3):=by
 unfold seg
 show(S.drop a.toNat).take n.toNat++ (S.drop (a+n).toNat).take (b - n).toNat=(S.drop a.toNat).take b.toNat
 have e1:(a+n).toNat=a.toNat+n.toNat:=by lia
 have e2:b.toNat=n.toNat+ (b - n).toNat:=by lia
 rw[e1,e2,<-List.drop_drop,List.take_add]
theorem KP{S:List Nat}{a n:Int}(h0:0<=a)(h1:0<=n)(c:Int):((S.take (a+n).toNat).count 10:Int) - ((S.take a.toNat).count 10:Nat)=((seg S (a,n,c)).count 10:Nat):=by
 have e1:(a+n).toNat=a.toNat+n.toNat:=by lia
 unfold seg
 show((S.take (a+n).toNat).count 10:Int) - ((S.take a.toNat).count 10:Nat)=((((S.drop a.toNat).take n.toNat).count 10:Nat):Int)
 rw[e1,List.take_add,zaU]
 lia
theorem KQ{ts:List Str}: ∀(ps:List P3) (n:Int),(∀q∈ps,da (au ts) q)->0<=n->n<=cX ps->
  (∀q∈d9 (ends ts) ps n,da (au ts) q)/\(∀q∈d_ (ends ts) ps n,da (au ts) q)/\txt (au ts) (d9 (ends ts) ps n)=(txt (au ts) ps).take n.toNat/\txt (au ts) (d_ (ends ts) ps n)=(txt (au ts) ps).drop n.toNat:=by
 intro ps
 induction ps with
 | nil=>
  intro n _ h0 h1
  exact⟨fun q hq=> (by cases hq),fun q hq=> (by cases hq),by simp[d9,txt],by simp[d_,txt]⟩
 | cons p r ih=>
  intro n h h0 h1
  obtain⟨a,b,c⟩:=p
  have hp:=h _ zay
  have hr: ∀q∈r,da (au ts) q:=fun q hq=>h q (zau _ hq)
  have q0:0<=a:=hp.p0
  have q1:1<=b:=hp.p1
  have q2:a+b<= (au ts).length:=hp.p2
  have hl:=hp.len
  have E2:((seg (au ts) (a,b,c)).length:Int)=b:=hl
  by_cases z:n<=0
  ·obtain⟨e1,e2⟩:=J7 (ends ts) z ((a,b,c)::r)
   rw[e1,e2]
   have:n.toNat=0:=by lia
   rw[this]
   exact⟨fun q hq=> (by cases hq),h,by simp[txt],by simp⟩
  ·by_cases g:b<=n
   ·have e1:d9 (ends ts) ((a,b,c)::r) n=(a,b,c)::d9 (ends ts) r (n - b):=by simp only[d9];rw[if_neg z,if_pos g]
    have e2:d_ (ends ts) ((a,b,c)::r) n=d_ (ends ts) r (n - b):=by simp only[d_];rw[if_neg z,if_pos g]
    rw[oj] at h1
    have lp:n<=b+cX r:=h1
    obtain⟨i1,i2,i3,i4⟩:=ih (n - b) hr (by lia) (by lia)
    rw[e1,e2]
    refine⟨fun q hq=> ?_,i2, ?_, ?_⟩
    ·rcases zaa.mp hq with rfl | hq
     ·exact hp
     ·exact i1 q hq
    ·rw[jm,jm,i3]
     have:n.toNat=(seg (au ts) (a,b,c)).length+ (n - b).toNat:=by lia
     rw[this,zbH]
    ·rw[jm,i4]
     have:n.toNat=(seg (au ts) (a,b,c)).length+ (n - b).toNat:=by lia
     rw[this,List.drop_length_add_append]
   ·have e1:d9 (ends ts) ((a,b,c)::r) n=[(a,n,ends ts (a+n) - ends ts a)]:=by simp only[d9];rw[if_neg z,if_neg g]
    have e2:d_ (ends ts) ((a,b,c)::r) n=(a+n,b - n,c - (ends ts (a+n) - ends ts a))::r:=by simp only[d_];rw[if_neg z,if_neg g]
    rw[e1,e2]
    have k1:da (au ts) (a,n,ends ts (a+n) - ends ts a):=⟨q0,by show 1<=n;lia,by show a+n<=_;lia,KP q0 h0 _⟩
    have sc:=Zz (S:=au ts) q0 h0 (by lia:n<=b) q2 (ends ts (a+n) - ends ts a) (c - (ends ts (a+n) - ends ts a)) c
    have k2:da (au ts) (a+n,b - n,c - (ends ts (a+n) - ends ts a)):=by
     refine⟨by show 0<=a+n;lia,by show 1<=b - n;lia,by show a+n+ (b - n)<=_;lia, ?_⟩
     have e4:c=ends ts (a+n) - ends ts a+ ((seg (au ts) (a+n,b - n,c - (ends ts (a+n) - ends ts a))).count 10:Nat):=by
      have k3:=k1.p3
      have e5:=hp.p3
      rw[<-sc,zaU] at e5
      have e6:c=(((seg (au ts) (a,n,ends ts (a+n) - ends ts a)).count 10+ (seg (au ts) (a+n,b - n,c - (ends ts (a+n) - ends ts a))).count 10:Nat):Int):=e5
      have k4:ends ts (a+n) - ends ts a=((seg (au ts) (a,n,ends ts (a+n) - ends ts a)).count 10:Nat):=k3
      lia
     show c - (ends ts (a+n) - ends ts a)=_
     lia
    refine⟨fun q hq=> ?_,fun q hq=> ?_, ?_, ?_⟩
    ·rw[zas.mp hq];exact k1
    ·rcases zaa.mp hq with rfl | hq
     ·exact k2
     ·exact hr q hq
    ·rw[jm,txt_nil,zaC,jm,<-sc]
     have l1:=k1.len
     have:n.toNat=(seg (au ts) (a,n,ends ts (a+n) - ends ts a)).length:=by have ZA:((seg (au ts) (a,n,ends ts (a+n) - ends ts a)).length:Int)=n:=l1;lia
     rw[this,zbw,List.take_left]
    ·rw[jm,jm,<-sc]
     have l1:=k1.len
     have:n.toNat=(seg (au ts) (a,n,ends ts (a+n) - ends ts a)).length:=by have ZA:((seg (au ts) (a,n,ends ts (a+n) - ends ts a)).length:Int)=n:=l1;lia
     rw[this,zbw,List.drop_left]
theorem bH{Γ:aX}{D:Ends}{σ:St}{H:Hp}{r:List RS}(h:av Γ r D σ H):av Γ [] {D with nx:=av Γ r D} σ H:=h
end L2.N
namespace L2.B
open PySem PySem.Spec PyProof.Rows
theorem mI{K:Frag}{σ:St}{H:Hp}{QQ:List V->Hp->Addr->Prop}{te:TE}{fv:List (Str×Nat)}{a:Addr}{xs:List V}(ha:H a=some (.lst xs))(hl:xs.length<=1000000)(P:Nat->List V->Hp->Prop)(p0:P 0 [] H)
  (step: ∀i x ys H2,xs[i]?=some x->aC H H2->P i ys H2-> ∀Q':VK,(∀y H3,aC H2 H3->P (i+1) (ys++ [y]) H3->Q' y H3)->te (some x::cf σ fv) H2 Q')
  (fin: ∀ys H2 p,aC H H2->P xs.length ys H2->H2 p=none->QQ ys H2 p): ∃W:Nat->Nat->List V->Hp->Prop,(∃m,W 0 m [] H)/\ ∀i m ys H2,W i m ys H2->
   ((gB K a).stop i H2/\ ∀p,H2 p=none->QQ ys H2 p)\/
   ((gB K a).go i H2/\ ∀x H3,(gB K a).fU i H2 x H3->iY K none x H3 fun zs=>lY none (zs.map some++cf σ fv) H3 fun b H5=>
    if b=true then te (zs.map some++cf σ fv) H5 fun y H6=>ys.length<sizeLine/\ ∃m',m'<m/\W (i+1) m' (ys++ [y]) H6 else ∃m',m'<m/\W (i+1) m' ys H5):=by
 refine⟨fun i m ys H2=>m=xs.length - i/\i<=xs.length/\ys.length=i/\aC H H2/\P i ys H2,⟨_,rfl,zqZ _,rfl,aC.refl _,p0⟩, ?_⟩
 rintro i m ys H2 ⟨rfl,hi,hy,s,p⟩
 by_cases aW:i<xs.length
 ·refine .inr ⟨⟨xs,xs[i],aB.of<|s _ _ ha,by simp[aW]⟩, ?_⟩
  rintro x H3 ⟨rfl,hx⟩
  have fX:=hx xs (aB.of<|s _ _ ha)
  exact step i x ys _ fX s p _ fun y H4 s4 p4=> ⟨gg (by lia),xs.length - (i+1),by lia,rfl,aW,by simp[hy],s.trans s4,p4⟩
 ·have jn:i=xs.length:=by lia
  subst jn
  exact .inl ⟨⟨xs,aB.of<|s _ _ ha,zqR _⟩,fun q hq=>fin ys _ q s p hq⟩
end L2.B
namespace L2.N
open PySem PySem.Spec L2.B
section
variable {Γ:aX} {D:Ends} {σ:St} {H:Hp} {r:List RS} {Q:VK}
theorem Bv{x:RE}(A B:VK)(zu: ∀v H1,A v H1↔B v H1)(ha:aj Γ x σ H A):aj Γ x σ H B:=by
 have:A=B:=funext fun x=>funext fun H1=>propext (zu x H1)
 rw[<-this];exact ha
theorem mJ{fv:List (Str×Nat)}{x elt:RE}(h:aj Γ x σ H fun v H1=> ∃a,v= .ref a/\(∃xs,aB Γ.K H1 a xs)/\ ∃W:Nat->Nat->List V->Hp->Prop,(∃m,W 0 m [] H1)/\ ∀i m ys H2,W i m ys H2->
   ((gB Γ.K a).stop i H2/\ ∀p,H2 p=none->Q (.ref p) (upd H2 p<|.lst ys))\/
   ((gB Γ.K a).go i H2/\ ∀x H3,(gB Γ.K a).fU i H2 x H3->iY Γ.K none x H3 fun zs=>lY none (zs.map some++cf σ fv) H3 fun b H5=>
    if b=true then aj Γ.calm elt (zs.map some++cf σ fv) H5 fun y H6=>ys.length<sizeLine/\ ∃m',m'<m/\W (i+1) m' (ys++ [y]) H6 else ∃m',m'<m/\W (i+1) m' ys H5)):aj Γ (.comp none fv .list [x] none elt) σ H Q:=Bv (x:=x) _ _ (fun _ _=>Iff.rfl) h
theorem w_{j:Nat}{m:Str}{o a b:RE}(C:Addr)(sp:Sp)(hm:Γ.ms j=(C,sp))(h:aj Γ o σ H fun x H1=> ∃p dx fs,x= .ref p/\H1 p=some (.ins C dx fs)/\fs.lookup m=none/\aj Γ a σ H1 fun y H2=>aj Γ b σ H2 fun z H3=>sp [x,y,z] H3 Q Γ.E):aj Γ (.bF j m o [a,b]) σ H Q:=by
 show nh (Γ.ms j).1 m (Γ.ms j).2 [] Γ.E (aj Γ o) (aZ Γ [a,b]) σ H Q
 rw[hm];exact h
theorem dW{x:RE}(h:aj Γ x σ H fun v H1=>rn Γ.K v H1 fun n=>Q (.int n) H1):aj Γ (.blt .len [x]) σ H Q:=h
end
theorem KR{p lt lb lf:Addr}{H H':Hp}(s:aC H H'):lq p lt lb lf H H':=fun b o e _ _ _ _=>s b o e
theorem KS(x:Str):(Builtin.Str.occurrences x (Str.ofString "\n") 0 x.length<|x.length+1).length=x.cps.toList.count 10:=by
 have:=wI x 10 0 (x.length+1) (zqZ _)
 rw[zaM] at this
 show(Builtin.Str.occurrences x ⟨#[10]⟩ 0 x.length<|x.length+1).length=_
 rw[this,zaf,fc]
 have:x.cps.toList.count 10<=x.length:=by rw[len_list];exact zbG
 lia
theorem ZC{K:Frag}{H:Hp}{Q:VK}{x:Str}(q:Q (.int ((x.cps.toList.count 10:Nat):Int)) H):pA K .count (.str x) [.str "\n"] H Q:=by
 show Q (.int ((Builtin.Str.occurrences x (Str.ofString "\n") 0 x.length<|x.length+1).length:Nat)) H
 rw[KS];exact q
theorem KU{H:Hp}: ∀{vs:List V} {ps:List P3} {i:Nat} {v:V},jj H vs ps->vs[i]?=some v-> ∃p,ps[i]?=some p/\Pc H v p
 | _,_,i,v, .nil,e=>by simp at e
 | _,_,0,v, .cons h r,e=>by simp at e;subst e;exact⟨_,rfl,h⟩
 | _,_,i+1,v, .cons h r,e=>by
  obtain⟨p,a,b⟩:=KU (i:=i) r (by simpa using e)
  exact⟨p,by simpa using a,b⟩
theorem ZD{lt lb lf:Addr}{n:Int}:(eK lt lb lf n).lookup ("put":Str)=none:=sU (by decide+kernel) (by decide+kernel) (by decide+kernel) (by decide+kernel)
theorem ZE{lt lb lf:Addr}{n:Int}:(eK lt lb lf n).lookup ("read":Str)=none:=sU (by decide+kernel) (by decide+kernel) (by decide+kernel) (by decide+kernel)
def Bw(C:Addr):Sp:=fun vs H Q E=> ∃(s dx lt lb lf:Addr) (ts:List Str) (x:Str),vs=[.ref s, .str x]/\du C H s dx lt lb lf ts/\good x/\ts.length<=10000/\(au ts).length<=500000/\
 ((x=""/\Q .aA H)\/(x≠""/\ ∀v H' t,lq s lt lb lf H H'->du C H' s dx lt lb lf (ts++ [x])->Nd H' t v->t.ok->t.aw=[(((au ts).length:Int),(x.length:Int),(x.cps.toList.count 10:Int))]->Q v H'))
theorem ZF{K:Frag}{CT C:Addr}(vs:List V)(H:Hp)(Q:VK)(E:XK)(h:Bw C vs H Q E):av (aI K [("joined",oz 64)] [] [] [("put",C,Bh CT C)] (E:=E)) GG (Dn Q) (start GF vs) H:=by
 obtain⟨s,dx,lt,lb,lf,ts,x,rfl,S,gx,l1,l2,h⟩:=h
 refine bj<|bq<|ag rfl<|ao<|wN ⟨_,rfl, ?_⟩
 rcases h with⟨rfl,q⟩ | ⟨hx,k⟩
 ·exact iT (aY<|ao q) (by decide)
 ·refine iF (bH ?_) (beq_eq_false_iff_ne.mpr hx)
  refine aY<|aP (oz 64) rfl<|ah<|ao<|ah<|dS<|ah<|hV C (Bh CT C) rfl<|ag rfl ⟨s,dx,_,rfl,S.ob,ZD,ag rfl ⟨s,dx,lt,lb,lf,ts,_,rfl,S, .inr ⟨x,rfl,gx,by lia,by lia,fun H1 b1 S1=> ?_⟩⟩⟩
  refine ah<|dW<|ag rfl ⟨cp gx.1, ?_⟩
  refine ah<|eR<|ag rfl ⟨rfl,ao<|ZC ?_⟩
  refine az ⟨(by show 3<=sizeLine;decide),fun q f=>ah<|ao<|az ?_⟩
  have s2:=sameNew (o:=tp (((au ts).length:Int),(x.length:Int),((x.cps.toList.count 10:Nat):Int))) f
  refine⟨.aA,q, .aA, .nil, .nil,_,_,_,rfl,rfl,rfl,aD,trivial,trivial,(by show(0:Int)+0< (64:Nat);decide),fun v H2 t s3 n3 J=> ?_⟩
  exact k v H2 t (b1.trans<|KR<|s2.trans s3) (S1.same<|s2.trans s3) n3 J.ok J.aw
def j7(S:List Nat)(q:P3):Str:=⟨(seg S q).toArray⟩
def tG(C:Addr):Sp:=fun vs H Q E=> ∃(s dx lt lb lf:Addr) (ts:List Str) (v:V) (t:Tr),vs=[.ref s,v]/\du C H s dx lt lb lf ts/\Nd H t v/\t.ok/\(∀q∈t.aw,da (au ts) q)/\t.aw.length<=1000/\ts.length<=10000/\(au ts).length<=500000/\
 ∀w H',aC H H'->H w=none->H' w=some (.lst<|(t.aw.map<|j7<|au ts).map V.str)->Q (.ref w) H'
theorem ZG{ts:List Str}: ∀t∈ts,t.length<= (au ts).length:=by
 induction ts with
 | nil=>intro t h;cases h
 | cons a r ih=>
  intro t h
  have e:(au (a::r)).length=a.length+ (au r).length:=by simp[au,Str.length]
  rw[e]
  rcases zaa.mp h with rfl | h
  ·lia
  ·have:=ih t h;lia
theorem ZH{K:Frag}{CP C:Addr}(vs:List V)(H:Hp)(Q:VK)(E:XK)(h:tG C vs H Q E):av (aI K [("pieces_of",qk 32)] [] [] [("read",C,Bl CP C)] (E:=E)) GN (Dn Q) (start GK vs) H:=by
 obtain⟨s,dx,lt,lb,lf,ts,v,t,rfl,S,hn,ho,hp,l1,l2,l3,k⟩:=h
 have hh:=Tr.oi ho l1
 refine aY<|mJ<|aP (qk 32) rfl<|ah<|ag rfl<|az ⟨v,t,rfl,hn,by lia,l1,fun w H1 xs s1 fw hw px=> ⟨w,rfl,⟨_,aB.of hw⟩, ?_⟩⟩
 have lx:=Paired.length px
 refine mI hw (by lia) (fun i ys _=>ys=((t.aw.take i).map<|j7<|au ts).map V.str) (by simp) ?_ ?_
 ·intro i x ys H2 hx s2 e Q' kk
  obtain⟨pt,Bx,⟨q,rfl,hq⟩⟩:=KU px hx
  have hi:i<t.aw.length:=(zah.mp Bx).1
  have pc:=hp pt (zaj Bx)
  have p0:=pc.p0
  have p1:=pc.p1
  have p2:=pc.p2
  have S2:=(S.same s1).same s2
  have vX:=s2 _ _ hq
  refine w_ C (Bl CP C) rfl<|ag rfl ⟨s,dx,_,rfl,S2.ob,ZE,aU<|ag rfl<|ao<|aJ vX rfl<|aU<|ag rfl<|ao<|aJ vX rfl ?_⟩
  refine⟨s,dx,lt,lb,lf,ts,_,_,rfl,S2, .inr ⟨pt.1.toNat,pt.2.1.toNat, ?_, ?_,by lia,by lia,by lia,fun u hu=>by have:=ZG u hu;lia,fun H3 s3=>kk _ _ s3 ?_⟩⟩
  ·rw[show((pt.1.toNat:Nat):Int)=pt.1 by lia]
  ·rw[show((pt.2.1.toNat:Nat):Int)=pt.2.1 by lia]
  ·rw[e,zba hi,(zah.mp Bx).2,zap,zap];rfl
 ·intro ys H2 p s2 e lT
  have e':ys=(t.aw.map<|j7<|au ts).map V.str:=by rw[e,lx,zbD]
  have s3:aC H H2:=s1.trans s2
  exact k p _ (s3.trans<|sameNew lT) (s3.free lT) (by rw[aD,e'])
theorem KW(S:List Nat)(ps:List P3):cat (ps.map (j7 S))=⟨(txt S ps).toArray⟩:=mD (by
 rw[p_,List.map_map]
 show(ps.map fun q=> (j7 S q).cps.toList).flatten=(txt S ps).toArray.toList
 simp only[j7,List.toList_toArray]
 rfl)
theorem ZI{S:List Nat}{ps:List P3}:sz (ps.map<|j7 S)=(txt S ps).length:=by
 have:=congrArg Str.length (KW S ps)
 rw[Kf] at this
 rw[this]
 simp[Str.length]
section
variable {Γ:aX} {D:Ends} {σ:St} {H:Hp} {r:List RS} {Q:VK} {QT:Bool->Hp->Prop}
theorem ZJ{j:Nat}(C:Addr)(sp:Sp)(hm:Γ.kt j=(C,sp))(h: ∀x dx,H x=none->H dx=none->dx≠x->sp [.ref x] (upd (upd H dx<|.own x) x<|.ins C dx []) (fun v H2=>v= .aA/\Q (.ref x) H2) Γ.E):aj Γ (.make j []) σ H Q:=by
 show qW (Γ.kt j).1 (Γ.kt j).2 [] Γ.E (aZ Γ []) σ H Q
 rw[hm];exact h
theorem ZK{j:Nat}{a b:RE}(C:Addr)(sp:Sp)(hm:Γ.kt j=(C,sp))(h:aj Γ a σ H fun y H0=>aj Γ b σ H0 fun z H1=> ∀x dx,H1 x=none->H1 dx=none->dx≠x->sp [.ref x,y,z] (upd (upd H1 dx<|.own x) x<|.ins C dx []) (fun v H2=>v= .aA/\Q (.ref x) H2) Γ.E):aj Γ (.make j [a,b]) σ H Q:=by
 show qW (Γ.kt j).1 (Γ.kt j).2 [] Γ.E (aZ Γ [a,b]) σ H Q
 rw[hm];exact h
theorem KY{o e:RE}{f:Str}(h:aj Γ e σ H fun v H1=>aj Γ o σ H1 fun x H2=> ∃a C dx fs,x= .ref a/\H2 a=some (.ins C dx fs)/\eZ Γ.K C/\fV Γ.K C f/\fs.length<1000/\av Γ r D σ (upd H2 a<|.ins C dx<|b7 f v fs)):av Γ (.jL o f e::r) D σ H:=h
end
def gm(s:Addr)(v:V):List (Str×V):=[("stock", .ref s),("node",v)]
theorem oC{s:Addr}{v:V}:(gm s v).lookup ("stock":Str)=some (V.ref s):=qa
theorem oE{s:Addr}{v:V}:(gm s v).lookup ("node":Str)=some v:=(hU (by decide+kernel)).trans qa
theorem dD{s:Addr}{v:V}{m:Str}(h1: ¬m="stock")(h2: ¬m="node"):(gm s v).lookup m=none:=(hU h1).trans ((hU h2).trans rfl)
theorem ZL{s:Addr}{v:V}:b7 "node" v (b7 "stock" (.ref s) [])=gm s v:=by
 have e1:b7 "stock" (V.ref s) []=[(("stock":Str),V.ref s)]:=rfl
 unfold gm
 rw[e1,j0 (by decide+kernel)];rfl
structure ed (CP:Addr) (H:Hp) (p dp s:Addr) (v:V) (t:Tr) (S:List Nat):Prop where
 ob:H p=some (.ins CP dp<|gm s v)
 nd:Nd H t v
 ok:t.ok
 pc: ∀q∈t.aw,da S q
theorem ed.same{CP:Addr}{H H':Hp}{p dp s:Addr}{v:V}{t:Tr}{S:List Nat}(P:ed CP H p dp s v t S)(h:aC H H'):ed CP H' p dp s v t S:=⟨h _ _ P.ob,P.nd.mono<|cA h,P.ok,P.pc⟩
def xa(CP:Addr):Sp:=fun vs H Q E=> ∃(p dp s:Addr) (v:V),vs=[.ref p, .ref s,v]/\H p=some (.ins CP dp [])/\ ∀H',H' p=some (.ins CP dp<|gm s v)->(∀b o,H b=some o->b≠p->H' b=some o)->Q .aA H'
theorem ZM{K:Frag}{CP:Addr}(T:jU K CP)(vs:List V)(H:Hp)(Q:VK)(E:XK)(h:xa CP vs H Q E):av (aI K [] [] (E:=E)) GP (Dn Q) (start GO vs) H:=by
 obtain⟨p,dp,s,v,rfl,hp,k⟩:=h
 refine KY<|ag rfl<|ag rfl ⟨p,CP,dp,[],rfl,hp,T.cl,T.mv,(by show 0<1000;decide), ?_⟩
 refine KY<|ag rfl<|ag rfl ⟨p,CP,dp,_,rfl,aD,T.cl,T.mw,(by show 1<1000;decide), ?_⟩
 refine k _ ?_ fun b o e nb=> ?_
 ·rw[aD];exact congrArg (fun l=>some<|HO.ins CP dp l) ZL
 ·rw[aR nb,aR nb];exact e
def cG(CP:Addr):Sp:=fun vs H Q E=> ∃(p dp s:Addr) (v:V) (t:Tr) (S:List Nat),vs=[.ref p]/\ed CP H p dp s v t S/\Q (.int ((txt S t.aw).length:Nat)) H
def jo(CP:Addr):Sp:=fun vs H Q E=> ∃(p dp s:Addr) (v:V) (t:Tr) (S:List Nat),vs=[.ref p]/\ed CP H p dp s v t S/\Q (.int ((txt S t.aw).count 10+1:Nat)) H
theorem ed.sz{CP:Addr}{H:Hp}{p dp s:Addr}{v:V}{t:Tr}{S:List Nat}(P:ed CP H p dp s v t S):t.sz=((txt S t.aw).length:Nat):=by rw[lA,<-w6 P.pc]
theorem ed.en{CP:Addr}{H:Hp}{p dp s:Addr}{v:V}{t:Tr}{S:List Nat}(P:ed CP H p dp s v t S):t.en=((txt S t.aw).count 10:Nat):=by rw[w9,Bu P.pc]
theorem ZN{K:Frag}{CP:Addr}(T:jU K CP)(vs:List V)(H:Hp)(Q:VK)(E:XK)(h:cG CP vs H Q E):av (aI K [("size_of",jk)] [] (E:=E)) GQ (Dn Q) (start mr vs) H:=by
 obtain⟨p,dp,s,v,t,S,rfl,P,q⟩:=h
 refine aY<|aP jk rfl<|ah<|gj<|ag rfl ⟨p,CP,dp,_,_,rfl,P.ob,T.cl,T.mw,oE,az ⟨v,t,rfl,P.nd, ?_⟩⟩
 rw[P.sz];exact q
theorem ZO{K:Frag}{CP:Addr}(T:jU K CP)(vs:List V)(H:Hp)(Q:VK)(E:XK)(h:jo CP vs H Q E):av (aI K [("ends_of",jl)] [] (E:=E)) GS (Dn Q) (start mr vs) H:=by
 obtain⟨p,dp,s,v,t,S,rfl,P,q⟩:=h
 refine aY<|aN<|aP jl rfl<|ah<|gj<|ag rfl ⟨p,CP,dp,_,_,rfl,P.ob,T.cl,T.mw,oE,az ⟨v,t,rfl,P.nd,ao<|bP ?_⟩⟩
 rw[P.en];exact q
def tx(S:List Nat)(ps:List P3):Str:=⟨(txt S ps).toArray⟩
theorem ZP(S:List Nat)(ps:List P3):(tx S ps).cps.toList=txt S ps:=by simp[tx]
def By(CP C:Addr):Sp:=fun vs H Q E=> ∃(p dp s dx lt lb lf:Addr) (v:V) (t:Tr) (ts:List Str),vs=[.ref p]/\ed CP H p dp s v t (au ts)/\du C H s dx lt lb lf ts/\t.aw.length<=1000/\ts.length<=10000/\(au ts).length<=500000/\(txt (au ts) t.aw).length<=1000000/\
 ∀H',aC H H'->Q (.str<|tx (au ts) t.aw) H'
theorem KZ{K:Frag}{H:Hp}{w:Addr}{S:List Nat}{ps:List P3}{Q:VK}(h:H w=some (.lst<|(ps.map<|j7 S).map V.str))(hl:(txt S ps).length<=1000000)(q:Q (.str<|tx S ps) H):pA K .join (.str "") [.ref w] H Q:=by
 refine⟨ps.map<|j7 S,aB.of h,joinOk_of (by rw[ZI];exact hl), ?_⟩
 have e:Txt.join "" (ps.map<|j7 S)=tx S ps:=KW S ps
 rw[e];exact q
theorem ZQ{K:Frag}{CP C:Addr}(T:jU K CP)(vs:List V)(H:Hp)(Q:VK)(E:XK)(h:By CP C vs H Q E):av (aI K [("texts_of",tG C)] [] (E:=E)) GU (Dn Q) (start mr vs) H:=by
 obtain⟨p,dp,s,dx,lt,lb,lf,v,t,ts,rfl,P,S,l1,l2,l3,l4,k⟩:=h
 exact aY<|eR<|ao ⟨rfl,aP (tG C) rfl<|ah<|gj<|ag rfl ⟨p,CP,dp,_,_,rfl,P.ob,T.cl,T.mv,oC,ah<|gj<|ag rfl ⟨p,CP,dp,_,_,rfl,P.ob,T.cl,T.mw,oE,az ⟨s,dx,lt,lb,lf,ts,v,t,rfl,S,P.nd,P.ok,P.pc,l1,l2,l3,fun w H1 s1 f1 h1=>KZ h1 l4<|k H1 s1⟩⟩⟩⟩
theorem K0{S:List Nat}{ps:List P3}(h: ∀q∈ps,da S q): ∀q∈ps,tD q:=fun q hq=> ⟨(h q hq).p0,(h q hq).p1⟩
def eS(l:List Nat)(a b:Nat):Str:=⟨((l.take b).drop a).toArray⟩
def qo(CP C:Addr):Sp:=fun vs H Q E=> ∃(p dp s dx lt lb lf:Addr) (v:V) (t:Tr) (ts:List Str) (a b:Nat),vs=[.ref p, .int a, .int b]/\ed CP H p dp s v t (au ts)/\du C H s dx lt lb lf ts/\t.aw.length<=1000/\ts.length<=10000/\(au ts).length<=500000/\(txt (au ts) t.aw).length<=1000000/\
 a<=b/\b<= (txt (au ts) t.aw).length/\ ∀H',aC H H'->Q (.str<|eS (txt (au ts) t.aw) a b) H'
theorem ZR{K:Frag}{CP C CE:Addr}(T:jU K CP)(vs:List V)(H:Hp)(Q:VK)(E:XK)(h:qo CP C vs H Q E):
  av (aI K [("is_between",dt),("parted",oB C 32),("texts_of",tG C)] [] [] [("size",CP,cG CP)] (et:=[("NoPlace",CE)]) (E:=E)) GW (Dn Q) (start GV vs) H:=by
 obtain⟨p,dp,s,dx,lt,lb,lf,v,t,ts,a,b,rfl,P,S,l1,l2,l3,l4,h1,h2,k⟩:=h
 have hz:=P.sz
 have hh:=Tr.oi P.ok l1
 have K1:(gm s v).lookup ("size":Str)=none:=dD (by decide+kernel) (by decide+kernel)
 refine bj<|gK<|bO<|dU dt rfl<|ah<|ag rfl<|ah<|ao<|ah<|gi CP (cG CP) rfl<|ag rfl ⟨p,dp,_,rfl,P.ob,K1,p,dp,s,v,t,_,rfl,P,az ⟨_,_,_,rfl, .inl ⟨_,rfl,by lia,by lia,cq<|iF ?_ rfl⟩⟩⟩
 refine bO<|dU dt rfl<|ah<|ag rfl<|ah<|ag rfl<|ah<|gi CP (cG CP) rfl<|ag rfl ⟨p,dp,_,rfl,P.ob,K1,p,dp,s,v,t,_,rfl,P,az ⟨_,_,_,rfl, .inl ⟨_,rfl,by lia,by lia,cq<|iF ?_ rfl⟩⟩⟩
 refine bH<|aO<|aU<|aP (oB C 32) rfl<|ah<|gj<|ag rfl ⟨p,CP,dp,_,_,rfl,P.ob,T.cl,T.mw,oE,ah<|ag rfl<|ah<|gj<|ag rfl ⟨p,CP,dp,_,_,rfl,P.ob,T.cl,T.mv,oC,az ?_⟩⟩
 refine⟨v,t,b,s,dx,lt,lb,lf,ts,rfl,P.nd,P.ok,S,K0 P.pc,by lia,l1,by lia,by lia,fun w v1 v2 t1 t2 H1 s1 hw n1 n2 o1 o2 e1 e2=>ao<|aJ hw rfl ?_⟩
 obtain⟨c1,c2,c3,c4⟩:=KQ t.aw (b:Int) P.pc (by lia) (by rw[<-lA,hz];lia)
 rw[<-e1] at c1 c3
 have P1:=P.same s1
 have S1:=S.same s1
 have g1:t1.aw.length<=1000:=by rw[e1];have:=(sN (ends ts) t.aw b).1;lia
 have Zk:=Tr.oi o1 g1
 have ZS:t1.sz=((txt (au ts) t1.aw).length:Nat):=by rw[lA,<-w6 c1]
 rw[zat] at c3
 have lz:(txt (au ts) t1.aw).length=b:=by rw[c3,zaf];lia
 refine aY<|eR<|ao ⟨rfl,aP (tG C) rfl<|ah<|gj<|ag rfl ⟨p,CP,dp,_,_,rfl,P1.ob,T.cl,T.mv,oC,ah<|aU<|aP (oB C 32) rfl<|ah<|ag rfl<|ah<|ag rfl<|ah<|gj<|ag rfl ⟨p,CP,dp,_,_,rfl,P1.ob,T.cl,T.mv,oC,az ?_⟩⟩⟩
 refine⟨v1,t1,a,s,dx,lt,lb,lf,ts,rfl,n1,o1,S1,K0 c1,by lia,g1,by lia,by lia,fun w' w1 w2 u1 u2 H2 s2 Bz m1 m2 p1 p2 d1 d2=>ao<|aJ Bz rfl<|az ?_⟩
 obtain⟨b1,b2,b3,b4⟩:=KQ t1.aw (a:Int) c1 (by lia) (by rw[<-lA,ZS];lia)
 rw[<-d2] at b2 b4
 rw[zat] at b4
 have g2:u2.aw.length<=1000:=by rw[d2];have:=(sN (ends ts) t1.aw a).2;lia
 have g3:(txt (au ts) u2.aw).length<=1000000:=by rw[b4,zai];lia
 refine⟨s,dx,lt,lb,lf,ts,w2,u2,rfl,S1.same s2,m2,p2,b2,g2,l2,l3,fun w3 H3 s3 f3 h3=>KZ h3 g3 ?_⟩
 have e:tx (au ts) u2.aw=eS (txt (au ts) t.aw) a b:=by unfold tx eS;rw[b4,c3]
 rw[e]
 exact k H3<|s1.trans<|s2.trans s3
theorem ZT{ts:List Str}{z:Str}(hz:z≠""):da (au<|ts++ [z]) (((au ts).length:Int),(z.length:Int),(z.cps.toList.count 10:Int))/\seg (au<|ts++ [z]) (((au ts).length:Int),(z.length:Int),(z.cps.toList.count 10:Int))=z.cps.toList:=by
 have e:seg (au<|ts++ [z]) (((au ts).length:Int),(z.length:Int),(z.cps.toList.count 10:Int))=z.cps.toList:=by
  unfold seg
  rw[ou,qc]
  show((au ts++z.cps.toList).drop (((au ts).length:Nat):Int).toNat).take ((z.length:Nat):Int).toNat=_
  rw[zat,zat,List.drop_left,len_list,zbD]
 have l1:1<=z.length:=by
  by_cases q:z.length=0
  ·have e0:z.cps.toList=[]:=zbs (by rw[<-len_list];exact q)
   have e1:z="":=mD (by rw[e0];rfl)
   exact absurd e1 hz
  ·lia
 refine⟨⟨by show(0:Int)<= ((au ts).length:Int);lia,by show(1:Int)<= (z.length:Int);lia, ?_,by rw[e]⟩,e⟩
 rw[ou,qc,zqA,<-len_list]
 show((au ts).length:Int)+ (z.length:Int)<=_
 lia
def BA(CP C:Addr):Sp:=fun vs H Q E=> ∃(x:Str),vs=[.str x]/\good x/\
 ∀p dp s dx lt lb lf v t ts H',aC H H'->du C H' s dx lt lb lf ts->ed CP H' p dp s v t (au ts)->txt (au ts) t.aw=x.cps.toList->t.aw.length<=1->ts.length<=1->(au ts).length<=x.length->H p=none->H s=none->H lt=none->H lb=none->H lf=none->Q (.ref p) H'
theorem ZU{K:Frag}{CP C CT:Addr}(vs:List V)(H:Hp)(Q:VK)(E:XK)(h:BA CP C vs H Q E):
  av (aI K [("need_text",wM CT),("node_put",Bw C)] [] [] [] [("Stock",C,Be C),("Paper",CP,xa CP)] (E:=E)) GJ (Dn Q) (start GH vs) H:=by
 obtain⟨x,rfl,gx,k⟩:=h
 refine eJ<|aP (wM CT) rfl<|ah<|ag rfl<|az ⟨_,rfl, .inl ⟨x,rfl,gx, ?_⟩⟩
 refine aO<|ZJ C (Be C) rfl fun s dx f1 f2 f3=> ⟨s,dx,rfl,aD,fun lt lb lf H1 S1 g1 g2 g3 hk=> ⟨rfl, ?_⟩⟩
 have s1:aC H H1:=fun b o e=>hk b o (by rw[aR<|bT e f1,aR<|bT e f2];exact e) (bT e f1)
 have fr: ∀b,upd (upd H dx<|.own s) s (.ins C dx []) b=none->H b=none:=fun b e=>by
  cases hq:H b with
  | none=>rfl
  | some o=>rw[aR<|bT hq f1,aR<|bT hq f2,hq] at e;cases e
 have q1:=fr lt g1
 have q2:=fr lb g2
 have q3:=fr lf g3
 have fin: ∀(H2:Hp) (v:V) (t:Tr) (ts:List Str),lq s lt lb lf H1 H2->du C H2 s dx lt lb lf ts->Nd H2 t v->t.ok->(∀q∈t.aw,da (au ts) q)->txt (au ts) t.aw=x.cps.toList->t.aw.length<=1->ts.length<=1->(au ts).length<=x.length->
   ∀p dp,H2 p=none->H2 dp=none->dp≠p->xa CP [.ref p, .ref s,v] (upd (upd H2 dp<|.own p) p<|.ins CP dp []) (fun v H2=>v= .aA/\Q (.ref p) H2) E:=by
  intro H2 v t ts b2 S2 n2 o2 p2 e2 l2 l3 l4 p dp h1 h2 h3
  have s2:aC H H2:=fun b o e=>b2 b o (s1 _ _ e) (bT e f1) (bT e q1) (bT e q2) (bT e q3)
  refine⟨p,dp,s,v,rfl,aD,fun H3 h3 hk=> ⟨rfl, ?_⟩⟩
  have s3:aC H2 H3:=fun b o e=>hk b o (by rw[aR<|bT e h1,aR<|bT e h2];exact e) (bT e h1)
  exact k p dp s dx lt lb lf v t ts H3 (s2.trans s3) (S2.same s3) ⟨h3,n2.mono<|cA s3,o2,p2⟩ e2 l2 l3 l4 (s2.free h1) f1 q1 q2 q3
 refine aY<|ZK CP (xa CP) rfl<|ag rfl<|aP (Bw C) rfl<|ah<|ag rfl<|ah<|ag rfl<|az ⟨s,dx,lt,lb,lf,[],x,rfl,S1,gx,zqZ _,zqZ _, ?_⟩
 by_cases hx:x=""
 ·refine .inl ⟨hx,fin H1 .aA .nil [] (KR<|aC.refl _) S1 rfl trivial (fun q hq=> (by cases hq)) (by rw[hx];rfl) (zqZ _) (zqZ _)<|zqZ _⟩
 ·obtain⟨pz,ez⟩:=ZT (ts:=[]) hx
  refine .inr ⟨hx,fun v H2 t b2 S2 n2 o2 e2=>fin H2 v t [x] b2 S2 n2 o2 (fun q hq=> ?_) ?_ ?_ (zqR _) ?_⟩
  ·rw[e2] at hq;rw[zas.mp hq];exact pz
  ·rw[e2,jm,txt_nil,zaC];exact ez
  ·rw[e2];exact zqR _
  ·rw[qc,len_list];exact zqR _
theorem pick{its:List V}{j:Int}(h0:0<=j)(h1:j<its.length): ∃v∈its,dO its j=some v:=by
 have qh:j.toNat<its.length:=by lia
 refine⟨its[j.toNat],zbm qh, ?_⟩
 have e:=ij (xs:=its) (j:=j.toNat) (v:=its[j.toNat]) (by simp[qh])
 rw[show((j.toNat:Nat):Int)=j by lia] at e
 exact e
def oF:Sp:=fun vs H Q E=> ∃c k,vs=[.int c, .int k]/\ ∀m,0<=m->Q (.int m) H
theorem ZV{K:Frag}(vs:List V)(H:Hp)(Q:VK)(E:XK)(h:oF vs H Q E):av (aI K [] [] (E:=E)) G1 (Dn Q) (start G0 vs) H:=by
 obtain⟨c,k,rfl,q⟩:=h
 have h0: ∀z:Int,0<=z % 2147483647/\z % 2147483647<2147483647:=fun z=> ⟨zaA _ (by decide),zaF _ (by decide)⟩
 have h1:=h0 (c*48271+7919*k+12345)
 have h2:=h0 ((c*48271+7919*k+12345) % 2147483647* ((c*48271+7919*k+12345) % 2147483647))
 have pm:(0:Int) <2147483647:=by decide
 refine⟨_,rfl, .inr ⟨by decide,by decide⟩,_,rfl, .inl ⟨by decide,by decide⟩,pm, ?_⟩
 refine⟨_,rfl,_,rfl, .inl ⟨by lia,by lia⟩,pm,_,rfl, .inl ⟨by lia,by lia⟩,pm, ?_⟩
 exact q _<|zaA _ (by decide)
theorem ZW:good "":=⟨by decide,fun c hc=>by
 have:((Str.ofString "").cps.toList.all fun c=>SG.cps.contains c)=true:=by decide+kernel
 exact zaK.mp this c hc⟩
theorem BB{α β:Type}{R:α->β->Prop}: ∀{ps:List β} {p:β} {xs:List α},Paired R xs (ps++ [p])-> ∃xb x,xs=xb++ [x]/\Paired R xb ps/\R x p
 | [],p,_, .cons h .nil=> ⟨[],_,rfl, .nil,h⟩
 | q::ps,p,_, .cons h r=>by
  obtain⟨xb,x,e,a,b⟩:=BB (ps:=ps) r
  exact⟨_::xb,x,by rw[e];rfl, .cons h a,b⟩
section
variable {Γ:aX} {D:Ends} {σ:St} {H:Hp} {r:List RS} {Q:VK}
theorem j8{i:Int}(h:Q (.int<|-i) H):aj Γ (.neg<|.c<|.int i) σ H Q:=h
theorem ZX{o ix e:RE}(h:aj Γ e σ H fun v H1=>aj Γ o σ H1 fun x H2=>aj Γ ix σ H2 fun y H3=>yS x y v H3 fun H4=>av Γ r D σ H4):av Γ (.set o ix e::r) D σ H:=h
theorem BC{body:List RS}{is:List Nat}{x:RE}(h:aj Γ x σ H fun v H1=> ∃a,v= .ref a/\(∃xs,aB Γ.K H1 a xs)/\ ∃W:Nat->Nat->St->Hp->Prop,(∃m,W 0 m σ H1)/\ ∀j m σ H,W j m σ H->
  ((gB Γ.K a).stop j H/\({D with nx:=av Γ r D}:Ends).nx σ H)\/((gB Γ.K a).go j H/\ ∃N:St->Hp->Prop,(∀σ' H',N σ' H'-> ∃m',m'<m/\W (j+1) m' σ' H')/\ ∀x H',(gB Γ.K a).fU j H x H'->jP Γ.K is.length (i8 is) x σ H' fun σ2 H2=>av Γ body {({D with nx:=av Γ r D}:Ends) with nx:=N,ct:=N,bk:=({D with nx:=av Γ r D}:Ends).nx} σ2 H2)):
  av Γ (.nA is .list [x] body::r) D σ H:=Bv (x:=x) _ _ (fun _ _=>Iff.rfl) h
end
theorem xf(n:Nat):iS (n+1) (-1)=some n:=by
 unfold iS
 have: ¬(0:Int)<= -1:=by decide
 rw[if_neg this,if_pos (by lia)]
 congr 1
 lia
theorem tH{K:Frag}{H:Hp}{Q:VK}{x y:Int}(q:Q (.bl<|decide<|y<x) H):b9 K .Gt (.int x) (.int y) H Q:=⟨trivial,q⟩
section
variable {Γ:aX} {D:Ends} {H H2:Hp} {a w2 e:Addr} {xs:List V} {l r:List Nat} {ps:List Pt} {i:Nat} {σ:St}
end
section
variable {Γ:aX} {D:Ends} {σ:St} {H:Hp} {r:List RS} {Q:VK}
theorem BD{body:List RS}{i:Nat}{x:RE}(h:aj Γ x σ H fun v H1=> ∃n:Int,[v]=[.int n]/\ -(2 ^ 62)<=n/\n<2 ^ 62/\ ∃W:Nat->Nat->St->Hp->Prop,(∃m,W 0 m σ H1)/\ ∀j m σ H,W j m σ H->
  ((jD 0 n.toNat).stop j H/\({D with nx:=av Γ r D}:Ends).nx σ H)\/((jD 0 n.toNat).go j H/\ ∃N:St->Hp->Prop,(∀σ' H',N σ' H'-> ∃m',m'<m/\W (j+1) m' σ' H')/\ ∀x H',(jD 0 n.toNat).fU j H x H'->eY i x σ H' fun σ2 H2=>av Γ body {({D with nx:=av Γ r D}:Ends) with nx:=N,ct:=N,bk:=({D with nx:=av Γ r D}:Ends).nx} σ2 H2)):
  av Γ (.pq i .gO [x] body::r) D σ H:=Bv (x:=x) _ _ (fun _ _=>Iff.rfl) h
end
theorem K2(S:List Nat)(l:Tr)(a b c:Int)(r:Tr):txt S (Tr.node l a b c r).aw=txt S l.aw++ (seg S (a,b,c)++txt S r.aw):=by rw[Tr.aw,Zy,jm]
theorem K3{S:List Nat}{t:Tr}(h: ∀q∈t.aw,da S q):t.en=((txt S t.aw).count 10:Nat):=by rw[w9,Bu h]
theorem K4{S:List Nat}{t:Tr}(h: ∀q∈t.aw,da S q):t.sz=((txt S t.aw).length:Nat):=by rw[lA,<-w6 h]
theorem BE{lt lb lf:Addr}{n:Int}:(eK lt lb lf n).lookup ("ends_ahead":Str)=none:=sU (by decide+kernel) (by decide+kernel) (by decide+kernel) (by decide+kernel)
theorem ZY{lt lb lf:Addr}{n:Int}:(eK lt lb lf n).lookup ("end_place":Str)=none:=sU (by decide+kernel) (by decide+kernel) (by decide+kernel) (by decide+kernel)
theorem ee{K:Frag}{H:Hp}{Q:VK}{i j:Int}(h:Q (.int<|i - j) H):lZ K .Sub (.int i) (.int j) H Q:=⟨trivial,h⟩
theorem mK{K:Frag}{H:Hp}{Q:VK}{x y:Int}(q:Q (.bl<|decide<|x<=y) H):b9 K .LtE (.int x) (.int y) H Q:=⟨trivial,q⟩
theorem ltI{K:Frag}{H:Hp}{Q:VK}{x y:Int}(q:Q (.bl<|decide<|x<y) H):b9 K .Lt (.int x) (.int y) H Q:=⟨trivial,q⟩
theorem BF{K:Frag}{H:Hp}{Q:VK}{x y:Int}(q:Q (.bl<|decide<|y<=x) H):b9 K .GtE (.int x) (.int y) H Q:=⟨trivial,q⟩
def BG(C:Addr):Sp:=fun vs H Q E=> ∃(v:V) (t:Tr) (pl:Int) (s dx lt lb lf:Addr) (ts:List Str),vs=[v, .int pl, .ref s]/\Nd H t v/\(∀q∈t.aw,da (au ts) q)/\du C H s dx lt lb lf ts/\0<=pl/\pl<=t.sz/\
 Q (.int ((((txt (au ts) t.aw).take pl.toNat).count 10:Nat):Int)) H
theorem ZZ{K:Frag}{C:Addr}(vs:List V)(H:Hp)(Q:VK)(E:XK)(h:BG C vs H Q E):av (aI K [("size_of",jk),("ends_of",jl)] [] [] [("ends_ahead",C,oA C)] (E:=E)) G4 (Dn Q) (start G3 vs) H:=by
 obtain⟨v,t,pl,s,dx,lt,lb,lf,ts,rfl,hn,hp,S,h0,h1,k⟩:=h
 obtain⟨g5,et⟩: ∃g5:Int,g5=((((txt (au ts) t.aw).take pl.toNat).count 10:Nat):Int):=⟨_,rfl⟩
 rw[<-et] at k
 refine aO<|ao ?_
 refine oq (fun m σ H2=> ∃(v:V) (t:Tr) (pl e:Int) (u4 u5 u6 u7:Option V),σ=[some v,some<|.int pl,some<|.ref s,some<|.int e,u4,u5,u6,u7]/\H2=H/\Nd H t v/\(∀q∈t.aw,da (au ts) q)/\0<=pl/\pl<=t.sz/\g5=e+ ((((txt (au ts) t.aw).take pl.toNat).count 10:Nat):Int)/\m=t.aw.length)
  ⟨_,v,t,pl,0,none,none,none,none,rfl,rfl,hn,hp,h0,h1,by lia,rfl⟩ ?_
 rintro m σ H2 ⟨v,t,pl,e,u4,u5,u6,u7,rfl,rfl,hn,hp,h0,h1,et,rfl⟩
 refine bq<|ag rfl<|ao ?_
 cases t with
 | nil=>
  cases hn
  refine⟨rfl,_,rfl,iF ?_ rfl⟩
  refine aY<|ag rfl ?_
  have:g5=e:=by rw[et];show e+ (((([]:List Nat).take pl.toNat).count 10:Nat):Int)=e;simp
  rw[<-this];exact k
 | node l a b c r=>
  obtain⟨p,q,vl,vr,rfl,fP,hq,j6,tw⟩:=hn
  have iG: ∀x∈l.aw,da (au ts) x:=fun x hx=>hp x (by simp[Tr.aw,hx])
  have tE: ∀x∈r.aw,da (au ts) x:=fun x hx=>hp x (by simp[Tr.aw,hx])
  have pc:=hp (a,b,c) (by simp[Tr.aw])
  have q0:0<=a:=pc.p0
  have q1:1<=b:=pc.p1
  have q2:a+b<= (au ts).length:=pc.p2
  have q3:c=((seg (au ts) (a,b,c)).count 10:Nat):=pc.p3
  have ql:((seg (au ts) (a,b,c)).length:Int)=b:=pc.len
  have zl:=K4 iG
  have el:=K3 iG
  have zs:(Tr.node l a b c r).sz=l.sz+b+r.sz:=rfl
  rw[zs] at h1
  rw[K2] at et
  refine⟨rfl,_,rfl,iT ?_ rfl⟩
  refine⟨fun σ' H'=> ∃m',m'< (Tr.node l a b c r).aw.length/\ ∃(v:V) (t:Tr) (pl e:Int) (u4 u5 u6 u7:Option V),σ'=[some v,some<|.int pl,some<|.ref s,some<|.int e,u4,u5,u6,u7]/\H'=H2/\Nd H2 t v/\(∀q∈t.aw,da (au ts) q)/\0<=pl/\pl<=t.sz/\g5=e+ ((((txt (au ts) t.aw).take pl.toNat).count 10:Nat):Int)/\m'=t.aw.length,fun σ' H' h=>h, ?_⟩
  refine aO<|aU<|ag rfl<|ao<|aJ fP rfl ?_
  refine aO<|aP jk rfl<|ah<|aU<|ag rfl<|ao<|aJ fP rfl<|az ⟨vl,l,rfl,j6, ?_⟩
  refine aO<|aN<|ag rfl<|aU<|ag rfl<|ao<|aJ hq rfl<|bP ?_
  refine bj<|bq<|ag rfl<|ag rfl<|mK ⟨_,rfl, ?_⟩
  by_cases g1:pl<=l.sz
  ·refine iT ?_ (zqT g1)
   refine aO<|aU<|ag rfl<|ao<|aJ fP rfl ?_
   refine⟨_,(by rw[Tr.aw,zqA,zar];lia),vl,l,pl,e,_,_,_,_,rfl,rfl,j6,iG,h0,g1, ?_,rfl⟩
   rw[et,zbT (by lia)]
  ·refine iF ?_ (zqF g1)
   refine bj<|bq<|ag rfl<|ag rfl<|ltI ⟨_,rfl, ?_⟩
   by_cases g2:pl<l.sz+b
   ·refine iT ?_ (zqT g2)
    refine aO<|aN<|hV C (oA C) rfl<|ag rfl ⟨s,dx,_,rfl,S.ob,BE,aN<|aN<|aU<|ag rfl<|ao<|aJ hq rfl<|ag rfl<|bP<|ag rfl<|ee ?_⟩
    refine⟨s,dx,lt,lb,lf,ts,_,rfl,S,by lia, ?_⟩
    refine hV C (oA C) rfl<|ag rfl ⟨s,dx,_,rfl,S.ob,BE,aU<|ag rfl<|ao<|aJ hq rfl ⟨s,dx,lt,lb,lf,ts,_,rfl,S,q0,ee ?_⟩⟩
    refine aY<|aN<|aN<|ag rfl<|aP jl rfl<|ah<|aU<|ag rfl<|ao<|aJ fP rfl<|az ⟨vl,l,rfl,j6,bP<|ag rfl<|bP ?_⟩
    have cc:=KP (S:=au ts) (a:=a) (n:=pl - l.sz) q0 (by lia) c
    have e1:a+pl - l.sz=a+ (pl - l.sz):=by lia
    have key:e+l.en+ (ends ts (a+pl - l.sz) - ends ts a)=g5:=by
     rw[e1,et]
     have e2:ends ts (a+ (pl - l.sz)) - ends ts a=((seg (au ts) (a,pl - l.sz,c)).count 10:Nat):=cc
     rw[e2,el]
     have e3:(txt (au ts) l.aw++ (seg (au ts) (a,b,c)++txt (au ts) r.aw)).take pl.toNat=txt (au ts) l.aw++ (seg (au ts) (a,b,c)).take (pl - l.sz).toNat:=by
      rw[show pl.toNat=(txt (au ts) l.aw).length+ (pl - l.sz).toNat by lia,zbH,zbT (by lia)]
     rw[e3,zaU]
     have e4:(seg (au ts) (a,b,c)).take (pl - l.sz).toNat=seg (au ts) (a,pl - l.sz,c):=by
      unfold seg
      show(((au ts).drop a.toNat).take b.toNat).take (pl - l.sz).toNat=((au ts).drop a.toNat).take (pl - l.sz).toNat
      rw[List.take_take];congr 1;lia
     rw[e4];lia
    rw[key];exact k
   ·refine iF ?_ (zqF g2)
    refine aO<|aN<|aN<|ag rfl<|aP jl rfl<|ah<|aU<|ag rfl<|ao<|aJ fP rfl<|az ⟨vl,l,rfl,j6,bP<|aU<|ag rfl<|ao<|aJ hq rfl<|bP ?_⟩
    refine aO<|aN<|ag rfl<|ag rfl<|ee ?_
    refine aO<|aU<|ag rfl<|ao<|aJ fP rfl ?_
    refine⟨_,(by rw[Tr.aw,zqA,zar];lia),vr,r,pl - (l.sz+b),e+l.en+c,_,_,_,_,rfl,rfl,tw,tE,by lia,by lia, ?_,rfl⟩
    rw[et,show pl.toNat=(txt (au ts) l.aw).length+ ((seg (au ts) (a,b,c)).length+ (pl - (l.sz+b)).toNat) by lia,zbH,zbH,zaU,zaU,el]
    lia
def BH(C:Addr):Sp:=fun vs H Q E=> ∃(p dx lt lb lf:Addr) (ts:List Str) (n:Int) (j:Nat),vs=[.ref p, .int n]/\du C H p dx lt lb lf ts/\0<=n/\(pos 10 (au ts) 0)[n.toNat]?=some j/\Q (.int j) H
theorem Z0{K:Frag}{C:Addr}(T:nX K C)(vs:List V)(H:Hp)(Q:VK)(E:XK)(h:BH C vs H Q E):av (aI K [] [] (E:=E)) G8 (Dn Q) (start G7 vs) H:=by
 obtain⟨p,dx,lt,lb,lf,ts,n,j,rfl,S,hn,hj,q⟩:=h
 refine aY<|aU<|gj<|ag rfl ⟨p,C,dx,_,_,rfl,S.ob,T.cl,T.wc,Bc,ag rfl<|cI S.fd ?_ q⟩
 have e:=ij (xs:=(fM 10<|au ts).map V.int) (j:=n.toNat) (v:= .int j) (by rw[zak,fM,zak,hj];rfl)
 rw[show((n.toNat:Nat):Int)=n by lia] at e
 exact e
theorem Z1{S:List Nat}{l r:Tr}{a b c:Int}:pos 10 (txt S (Tr.node l a b c r).aw) 0=pos 10 (txt S l.aw) 0++ ((pos 10 (seg S (a,b,c)) 0).map ((txt S l.aw).length+ ·)++ (pos 10 (txt S r.aw) 0).map ((txt S l.aw).length+ (seg S (a,b,c)).length+ ·)):=by
 rw[K2,k_,k_]
 have e1:=sO 10 (seg S (a,b,c)) (txt S l.aw).length 0
 have e2:=sO 10 (txt S r.aw) ((txt S l.aw).length+ (seg S (a,b,c)).length) 0
 rw[Nat.add_zero] at e1 e2
 rw[zaE,e1,e2]
def qp(C:Addr):Sp:=fun vs H Q E=> ∃(v:V) (t:Tr) (n:Int) (s dx lt lb lf:Addr) (ts:List Str) (j:Nat),vs=[v, .int n, .ref s]/\Nd H t v/\(∀q∈t.aw,da (au ts) q)/\du C H s dx lt lb lf ts/\0<=n/\(pos 10 (txt (au ts) t.aw) 0)[n.toNat]?=some j/\Q (.int j) H
def tI(H:Hp)(s:Addr)(S:List Nat)(g5:Int)(m:Nat)(σ:St)(H2:Hp):Prop:=
 ∃(v:V) (t:Tr) (n e:Int) (j:Nat) (u4 u5:Option V),σ=[some v,some<|.int n,some<|.ref s,some<|.int e,u4,u5]/\H2=H/\Nd H t v/\(∀q∈t.aw,da S q)/\0<=n/\(pos 10 (txt S t.aw) 0)[n.toNat]?=some j/\g5=e+j/\m=t.aw.length
abbrev BI(C:Addr):List (Str×Addr×Sp):=[("end_place",C,BH C),("ends_ahead",C,oA C)]
theorem Z2{K:Frag}{C:Addr}(vs:List V)(H:Hp)(Q:VK)(E:XK)(h:qp C vs H Q E):av (aI K [("ends_of",jl),("size_of",jk)] [] [] (BI C) (E:=E)) G6 (Dn Q) (start G5 vs) H:=by
 obtain⟨v,t,n,s,dx,lt,lb,lf,ts,j,rfl,hn,hp,S,h0,hj,k⟩:=h
 refine aO<|ao ?_
 refine oq (tI H s (au ts) (j:Int)) ⟨_,v,t,n,0,j,none,none,rfl,rfl,hn,hp,h0,hj,by lia,rfl⟩ ?_
 rintro m σ H2 ⟨v,t,n,e,j',u4,u5,rfl,rfl,hn,hp,h0,bA,et,rfl⟩
 cases t with
 | nil=>exact absurd bA (by show ¬([]:List Nat)[n.toNat]?=some j';simp)
 | node l a b c r=>
  obtain⟨p,q,vl,vr,rfl,fP,hq,j6,tw⟩:=hn
  have iG: ∀x∈l.aw,da (au ts) x:=fun x hx=>hp x (by simp[Tr.aw,hx])
  have tE: ∀x∈r.aw,da (au ts) x:=fun x hx=>hp x (by simp[Tr.aw,hx])
  have pc:=hp (a,b,c) (by simp[Tr.aw])
  have q0:0<=a:=pc.p0
  have q1:1<=b:=pc.p1
  have q2:a+b<= (au ts).length:=pc.p2
  have q3:c=((seg (au ts) (a,b,c)).count 10:Nat):=pc.p3
  have ql:((seg (au ts) (a,b,c)).length:Int)=b:=pc.len
  have zl:=K4 iG
  have el:=K3 iG
  rw[Z1] at bA
  have L1:=fc 10 (txt (au ts) l.aw) 0
  have L2:((pos 10 (seg (au ts) (a,b,c)) 0).map ((txt (au ts) l.aw).length+ ·)).length=(seg (au ts) (a,b,c)).count 10:=by rw[zag,fc]
  have rL: ∀{σ:St} {Q1:VK},σ[0]?=some (some<|.ref p)->Q1 (.int l.en) H2->aj (aI K [("ends_of",jl),("size_of",jk)] [] [] (BI C) (E:=E)) (.call 0 [(.ix (.v 0)<|.c<|.int 0)]) σ H2 Q1:=fun e0 q=>aP jl rfl (ah<|aU<|ag e0<|ao<|aJ fP rfl<|az ⟨vl,l,rfl,j6,q⟩)
  have rZ: ∀{σ:St} {Q1:VK},σ[0]?=some (some<|.ref p)->Q1 (.int l.sz) H2->aj (aI K [("ends_of",jl),("size_of",jk)] [] [] (BI C) (E:=E)) (.call 1 [(.ix (.v 0)<|.c<|.int 0)]) σ H2 Q1:=fun e0 q=>aP jk rfl (ah<|aU<|ag e0<|ao<|aJ fP rfl<|az ⟨vl,l,rfl,j6,q⟩)
  refine gK<|bq<|ag rfl<|rL rfl<|ltI ⟨_,rfl, ?_⟩
  have less: ∀m',m'< (Tr.node l a b c r).aw.length-> ∀σ' H',tI H2 s (au ts) (j:Int) m' σ' H'-> ∃m',m'< (Tr.node l a b c r).aw.length/\tI H2 s (au ts) (j:Int) m' σ' H':=fun m' h σ' H' x=> ⟨m',h,x⟩
  have aeO:(Tr.node l a b c r).aw.length=l.aw.length+ (r.aw.length+1):=by rw[Tr.aw,zqA,zar]
  by_cases g1:n<l.en
  ·refine iT (iT ?_ rfl) (zqT g1)
   refine⟨tI H2 s (au ts) (j:Int) l.aw.length,less _ (by lia), ?_⟩
   refine bj<|bq<|ag rfl<|rL rfl<|ltI ⟨_,rfl,iT ?_<|zqT g1⟩
   refine aO<|aU<|ag rfl<|ao<|aJ fP rfl ?_
   refine⟨vl,l,n,e,j',u4,u5,rfl,rfl,j6,iG,h0, ?_,et,rfl⟩
   rw[zaJ (by lia)] at bA
   exact bA
  ·refine iF ?_ (zqF g1)
   rw[zaI (by lia),L1] at bA
   refine bq<|ag rfl<|aN<|rL rfl<|aU<|aU<|ag rfl<|ao<|aJ fP rfl<|ao<|aJ hq rfl<|bP<|BF ⟨_,rfl, ?_⟩
   by_cases g2:l.en+c<=n
   ·refine iT ?_ (zqT g2)
    refine⟨tI H2 s (au ts) (j:Int) r.aw.length,less _ (by lia), ?_⟩
    refine bj<|bq<|ag rfl<|rL rfl<|ltI ⟨_,rfl,iF ?_<|zqF g1⟩
    refine aO<|aN<|aN<|ag rfl<|rL rfl<|ee<|aU<|aU<|ag rfl<|ao<|aJ fP rfl<|ao<|aJ hq rfl<|ee ?_
    refine aO<|aN<|aN<|ag rfl<|rZ rfl<|bP<|aU<|aU<|ag rfl<|ao<|aJ fP rfl<|ao<|aJ hq rfl<|bP ?_
    refine aO<|aU<|ag rfl<|ao<|aJ fP rfl ?_
    rw[zaI (by lia),L2,zak] at bA
    obtain⟨j2,Bm,e2⟩:=Option.map_eq_some_iff.mp bA
    refine⟨vr,r,n - l.en - c,e+l.sz+b,j2,u4,u5,rfl,rfl,tw,tE,by lia, ?_,by lia,rfl⟩
    rw[show(n - l.en - c).toNat=n.toNat - (txt (au ts) l.aw).count 10 - (seg (au ts) (a,b,c)).count 10 by lia]
    exact Bm
   ·refine iF ?_ (zqF g2)
    rw[zaJ (by lia),zak] at bA
    obtain⟨g,hg,e2⟩:=Option.map_eq_some_iff.mp bA
    refine aO<|aU<|aU<|ag rfl<|ao<|aJ fP rfl<|ao<|aJ hq rfl ?_
    have ea:ends ts a=(((au ts).take a.toNat).count 10:Nat):=rfl
    refine aO<|hV C (BH C) rfl<|ag rfl ⟨s,dx,_,rfl,S.ob,ZY,aN<|aN<|hV C (oA C) rfl<|ag rfl ⟨s,dx,_,rfl,S.ob,BE,ag rfl ⟨s,dx,lt,lb,lf,ts,a,rfl,S,q0,ag rfl<|bP<|rL rfl<|ee ?_⟩⟩⟩
    have es:au ts=(au ts).take a.toNat++ (seg (au ts) (a,b,c)++ ((au ts).drop a.toNat).drop b.toNat):=by
     show au ts=(au ts).take a.toNat++ (((au ts).drop a.toNat).take b.toNat++ ((au ts).drop a.toNat).drop b.toNat)
     rw[zaD,zaD]
    have lt':((au ts).take a.toNat).length=a.toNat:=by rw[zaf];lia
    have key:(pos 10 (au ts) 0)[(ends ts a+n - l.en).toNat]?=some (a.toNat+g):=by
     have e3:pos 10 (au ts) 0=pos 10 ((au ts).take a.toNat) 0++ ((pos 10 (seg (au ts) (a,b,c)) 0).map (a.toNat+ ·)++pos 10 (((au ts).drop a.toNat).drop b.toNat) (a.toNat+ (seg (au ts) (a,b,c)).length)):=by
      have p1:=sO 10 (seg (au ts) (a,b,c)) a.toNat 0
      rw[Nat.add_zero] at p1
      rw[<-p1]
      conv=>lhs;rw[es,k_,k_,lt',zaE]
     rw[e3,zaI (by rw[fc];lia),fc,zaJ (by rw[zag,fc];lia),zak]
     rw[show(ends ts a+n - l.en).toNat - ((au ts).take a.toNat).count 10=n.toNat - (txt (au ts) l.aw).count 10 by lia,hg];rfl
    refine⟨s,dx,lt,lb,lf,ts,_,a.toNat+g,rfl,S,by lia,key, ?_⟩
    refine aY<|aN<|aN<|aN<|ag rfl<|rZ rfl<|bP<|ag rfl<|bP<|ag rfl<|ee ?_
    rw[show e+l.sz+ ((a.toNat+g:Nat):Int) - a=(j:Int) by lia]
    exact k
theorem mL{Γ:aX}{σ:St}{H:Hp}{Q:VK}{t a b:RE}(h:bf Γ t σ H fun c H1=>if c=true then aj Γ a σ H1 Q else aj Γ b σ H1 Q):aj Γ (.gF t a b) σ H Q:=h
def bI(l:List Nat)(i:Nat):Nat:=if i=0 then 0 else ((pos 10 l 0)[i - 1]?).getD 0+1
def lB(l:List Nat)(i:Nat):Int:=(if i=l.count 10 then (l.length:Int) else ((((pos 10 l 0)[i]?).getD 0:Nat):Int)) - bI l i
theorem lE{l:List Nat}{i:Nat}(h:i<l.count 10):(pos 10 l 0)[i]?=some (((pos 10 l 0)[i]?).getD 0):=by
 have:i< (pos 10 l 0).length:=by rw[fc];exact h
 simp[this]
section
variable {K:Frag} {CP C:Addr}
def mM(CP C:Addr):Sp:=fun vs H Q E=> ∃(p dp s dx lt lb lf:Addr) (v:V) (t:Tr) (ts:List Str) (i:Nat),vs=[.ref p, .int i]/\ed CP H p dp s v t (au ts)/\du C H s dx lt lb lf ts/\i<= (txt (au ts) t.aw).count 10/\Q (.int<|bI (txt (au ts) t.aw) i) H
theorem Z3(T:jU K CP)(vs:List V)(H:Hp)(Q:VK)(E:XK)(h:mM CP C vs H Q E):av (aI K [("place_of_end",qp C)] [] (E:=E)) G_ (Dn Q) (start G9 vs) H:=by
 obtain⟨p,dp,s,dx,lt,lb,lf,v,t,ts,i,rfl,P,S,hi,q⟩:=h
 unfold bI at q
 refine aY<|mL<|bq<|ag rfl<|ao<|fg ⟨_,rfl, ?_⟩
 by_cases z:i=0
 ·rw[if_pos z] at q
  exact iT (ao q)<|zqT (by lia)
 ·rw[if_neg z] at q
  refine iF ?_<|zqF (by lia)
  refine aN<|aP (qp C) rfl<|ah<|gj<|ag rfl ⟨p,CP,dp,_,_,rfl,P.ob,T.cl,T.mw,oE,ah<|aN<|ag rfl<|ao<|ee<|ah<|gj<|ag rfl ⟨p,CP,dp,_,_,rfl,P.ob,T.cl,T.mv,oC,az ?_⟩⟩
  have hp:=lE (l:=txt (au ts) t.aw) (i:=i - 1) (by lia)
  refine⟨v,t,(i:Int) - 1,s,dx,lt,lb,lf,ts,_,rfl,P.nd,P.pc,S,by lia,by rw[show((i:Int) - 1).toNat=i - 1 by lia];exact hp,ao<|bP ?_⟩
  exact q
def jq(CP C:Addr):Sp:=fun vs H Q E=> ∃(p dp s dx lt lb lf:Addr) (v:V) (t:Tr) (ts:List Str) (i:Nat),vs=[.ref p, .int i]/\ed CP H p dp s v t (au ts)/\du C H s dx lt lb lf ts/\i<= (txt (au ts) t.aw).count 10/\Q (.int<|lB (txt (au ts) t.aw) i) H
theorem Z4{CE:Addr}(T:jU K CP)(vs:List V)(H:Hp)(Q:VK)(E:XK)(h:jq CP C vs H Q E):
  av (aI K [("is_between",dt),("place_of_end",qp C)] [] [] [("lines",CP,jo CP),("size",CP,cG CP),("line_begin",CP,mM CP C)] (et:=[("NoPlace",CE)]) (E:=E)) Hm (Dn Q) (start Hl vs) H:=by
 obtain⟨p,dp,s,dx,lt,lb,lf,v,t,ts,i,rfl,P,S,hi,q⟩:=h
 have n1:(gm s v).lookup ("lines":Str)=none:=dD (by decide+kernel) (by decide+kernel)
 have n2:(gm s v).lookup ("size":Str)=none:=dD (by decide+kernel) (by decide+kernel)
 have n3:(gm s v).lookup ("line_begin":Str)=none:=dD (by decide+kernel) (by decide+kernel)
 refine bj<|bO<|dU dt rfl<|ah<|ag rfl<|ah<|ao<|ah<|aN<|gi CP (jo CP) rfl<|ag rfl ⟨p,dp,_,rfl,P.ob,n1,p,dp,s,v,t,_,rfl,P,ao<|ee<|az ⟨_,_,_,rfl, .inl ⟨_,rfl,by lia,by lia,cq<|iF (bH ?_) rfl⟩⟩⟩
 refine aO<|cZ<|ag rfl<|aN<|gi CP (jo CP) rfl<|ag rfl ⟨p,dp,_,rfl,P.ob,n1,p,dp,s,v,t,_,rfl,P,ao<|ee<|fg ?_⟩
 have fin: ∀(e:Int) (u:Option V),e - bI (txt (au ts) t.aw) i=lB (txt (au ts) t.aw) i->av (aI K [("is_between",dt),("place_of_end",qp C)] [] [] [("lines",CP,jo CP),("size",CP,cG CP),("line_begin",CP,mM CP C)] (et:=[("NoPlace",CE)]) (E:=E)) [.ret<|.bin .Sub (.v 3)<|.bF 2 "line_begin" (.v 0) [(.v 1)]] (Dn Q) [some<|.ref p,some<|.int i,u,some<|.int e] H:=by
  intro e u he
  refine aY<|aN<|ag rfl<|hV CP (mM CP C) rfl<|ag rfl ⟨p,dp,_,rfl,P.ob,n3,ag rfl ⟨p,dp,s,dx,lt,lb,lf,v,t,ts,i,rfl,P,S,hi,ee ?_⟩⟩
  rw[he];exact q
 refine aO<|mL ?_
 refine⟨_,rfl, ?_⟩
 by_cases z:i=(txt (au ts) t.aw).count 10
 ·refine iT ?_ (zqT (by lia))
  refine gi CP (cG CP) rfl<|ag rfl ⟨p,dp,_,rfl,P.ob,n2,p,dp,s,v,t,_,rfl,P,fin _ _ ?_⟩
  unfold lB;rw[if_pos z]
 ·refine iF ?_ (zqF (by lia))
  refine aP (qp C) rfl<|ah<|gj<|ag rfl ⟨p,CP,dp,_,_,rfl,P.ob,T.cl,T.mw,oE,ah<|ag rfl<|ah<|gj<|ag rfl ⟨p,CP,dp,_,_,rfl,P.ob,T.cl,T.mv,oC,az ?_⟩⟩
  have hp:=lE (l:=txt (au ts) t.aw) (i:=i) (by lia)
  refine⟨v,t,(i:Int),s,dx,lt,lb,lf,ts,_,rfl,P.nd,P.pc,S,by lia,hp,fin _ _ ?_⟩
  unfold lB;rw[if_neg z]
end
section
variable {K:Frag} {CP C:Addr}
def bx(l:List Nat)(pl:Nat):Nat:=(l.take pl).count 10
theorem mO(l:List Nat)(pl:Nat):bx l pl<=l.count 10:=by
 unfold bx
 have:l.count 10=(l.take pl).count 10+ (l.drop pl).count 10:=by rw[<-zaU,zaD]
 lia
def mP(CP C:Addr):Sp:=fun vs H Q E=> ∃(p dp s dx lt lb lf:Addr) (v:V) (t:Tr) (ts:List Str) (pl:Nat),vs=[.ref p, .int pl]/\ed CP H p dp s v t (au ts)/\du C H s dx lt lb lf ts/\pl<= (txt (au ts) t.aw).length/\
 ∀w H',aC H H'->H w=none->H' w=some (.tup [.int (bx (txt (au ts) t.aw) pl:Nat), .int<|(pl:Int) - bI (txt (au ts) t.aw) (bx (txt (au ts) t.aw) pl)])->Q (.ref w) H'
theorem Z5{CE:Addr}(T:jU K CP)(vs:List V)(H:Hp)(Q:VK)(E:XK)(h:mP CP C vs H Q E):
  av (aI K [("is_between",dt),("ends_ahead_of",BG C)] [] [] [("size",CP,cG CP),("line_begin",CP,mM CP C)] (et:=[("NoPlace",CE)]) (E:=E)) Ho (Dn Q) (start Hn vs) H:=by
 obtain⟨p,dp,s,dx,lt,lb,lf,v,t,ts,pl,rfl,P,S,hp,q⟩:=h
 have n2:(gm s v).lookup ("size":Str)=none:=dD (by decide+kernel) (by decide+kernel)
 have n3:(gm s v).lookup ("line_begin":Str)=none:=dD (by decide+kernel) (by decide+kernel)
 have hz:=P.sz
 refine bj<|bO<|dU dt rfl<|ah<|ag rfl<|ah<|ao<|ah<|gi CP (cG CP) rfl<|ag rfl ⟨p,dp,_,rfl,P.ob,n2,p,dp,s,v,t,_,rfl,P,az ⟨_,_,_,rfl, .inl ⟨_,rfl,by lia,by lia,cq<|iF (bH ?_) rfl⟩⟩⟩
 refine aO<|aP (BG C) rfl<|ah<|gj<|ag rfl ⟨p,CP,dp,_,_,rfl,P.ob,T.cl,T.mw,oE,ah<|ag rfl<|ah<|gj<|ag rfl ⟨p,CP,dp,_,_,rfl,P.ob,T.cl,T.mv,oC,az ?_⟩⟩
 refine⟨v,t,pl,s,dx,lt,lb,lf,ts,rfl,P.nd,P.pc,S,by lia,by lia, ?_⟩
 have ll:=mO (txt (au ts) t.aw) pl
 refine aY<|dS<|ah<|ag rfl<|ah<|aN<|ag rfl<|hV CP (mM CP C) rfl<|ag rfl ⟨p,dp,_,rfl,P.ob,n3,ag rfl ⟨p,dp,s,dx,lt,lb,lf,v,t,ts,bx (txt (au ts) t.aw) pl,rfl,P,S,ll,ee<|az ⟨(by show 2<=sizeLine;decide),fun w fw=> ?_⟩⟩⟩
 exact q w _ (sameNew fw) fw aD
def oG(CP C:Addr):Sp:=fun vs H Q E=> ∃(p dp s dx lt lb lf:Addr) (v:V) (t:Tr) (ts:List Str) (i:Nat) (c:Int),vs=[.ref p, .int i, .int c]/\ed CP H p dp s v t (au ts)/\du C H s dx lt lb lf ts/\i<= (txt (au ts) t.aw).count 10/\0<=c/\c<=lB (txt (au ts) t.aw) i/\Q (.int<|bI (txt (au ts) t.aw) i+c) H
theorem Z6{CE:Addr}(vs:List V)(H:Hp)(Q:VK)(E:XK)(h:oG CP C vs H Q E):
  av (aI K [("is_between",dt)] [] [] [("line_size",CP,jq CP C),("line_begin",CP,mM CP C)] (et:=[("NoPlace",CE)]) (E:=E)) Hr (Dn Q) (start Hq vs) H:=by
 obtain⟨p,dp,s,dx,lt,lb,lf,v,t,ts,i,c,rfl,P,S,hi,h0,h1,q⟩:=h
 have n2:(gm s v).lookup ("line_size":Str)=none:=dD (by decide+kernel) (by decide+kernel)
 have n3:(gm s v).lookup ("line_begin":Str)=none:=dD (by decide+kernel) (by decide+kernel)
 refine bj<|bO<|dU dt rfl<|ah<|ag rfl<|ah<|ao<|ah<|hV CP (jq CP C) rfl<|ag rfl ⟨p,dp,_,rfl,P.ob,n2,ag rfl ⟨p,dp,s,dx,lt,lb,lf,v,t,ts,i,rfl,P,S,hi,az ⟨_,_,_,rfl, .inl ⟨_,rfl,by lia,by lia,cq<|iF (bH ?_) rfl⟩⟩⟩⟩
 exact aY<|aN<|hV CP (mM CP C) rfl<|ag rfl ⟨p,dp,_,rfl,P.ob,n3,ag rfl ⟨p,dp,s,dx,lt,lb,lf,v,t,ts,i,rfl,P,S,hi,ag rfl<|bP q⟩⟩
end
def lend(l:List Nat)(i:Nat):Nat:=if i=l.count 10 then l.length else ((pos 10 l 0)[i]?).getD 0
theorem K5(l:List Nat)(i:Nat):lB l i=(lend l i:Int) - bI l i:=by
 unfold lB lend
 split<;>rfl
theorem BJ{l:List Nat}{i j:Nat}(h:(pos 10 l 0)[i]?=some j):j<l.length:=by
 have:=(jZ 10 l 0 j<|zaj h).2
 lia
theorem Z7{l:List Nat}{i j k:Nat}(h:(pos 10 l 0)[i]?=some j)(h':(pos 10 l 0)[i+1]?=some k):j<k:=by
 obtain⟨a,rfl⟩:=zah.mp h
 obtain⟨b,rfl⟩:=zah.mp h'
 exact zbo.mp (wG 10 l 0) i (i+1) a b (by lia)
theorem j9{l:List Nat}{i:Nat}(h:i<=l.count 10):bI l i<=lend l i/\lend l i<=l.length:=by
 unfold bI lend
 by_cases z:i=0
 ·rw[if_pos z]
  by_cases g:i=l.count 10
  ·rw[if_pos g];lia
  ·rw[if_neg g]
   have:=BJ (lE (l:=l) (i:=i) (by lia))
   lia
 ·rw[if_neg z]
  have p1:=lE (l:=l) (i:=i - 1) (by lia)
  have l1:=BJ p1
  by_cases g:i=l.count 10
  ·rw[if_pos g];lia
  ·rw[if_neg g]
   have p2:=lE (l:=l) (i:=i) (by lia)
   have l2:=BJ p2
   have:=Z7 p1 (by rw[show i - 1+1=i by lia];exact p2)
   lia
theorem K6{l:List Nat}{i:Nat}(h:i<l.count 10):bI l (i+1)=lend l i+1:=by
 unfold bI lend
 rw[if_neg (by lia),if_neg (by lia)];rfl
theorem K7(l:List Nat):lend l (l.count 10)=l.length:=by unfold lend;rw[if_pos rfl]
theorem Z8{l:List Nat}{i m:Nat}(h:i<=l.count 10)(h1:bI l i<=m)(h2:m<=lend l i):bx l m=i:=by
 have ok:=j9 h
 have ml:m<=l.length:=by lia
 have lt:(l.take m).length=m:=by rw[zaf];lia
 have sp:pos 10 l 0=pos 10 (l.take m) 0++pos 10 (l.drop m) m:=by
  conv=>lhs;rw[<-zaD m l,k_,lt,zaE]
 have L1:(pos 10 (l.take m) 0).length=bx l m:=fc 10 _ 0
 have le:=mO l m
 by_cases g:bx l m<i
 ·exfalso
  obtain⟨j,hj⟩: ∃j,(pos 10 l 0)[i - 1]?=some j:=⟨_,lE (by lia)⟩
  have e:bI l i=j+1:=by unfold bI;rw[if_neg (by lia),hj];rfl
  rw[sp,zaI (by lia)] at hj
  have:=(jZ 10 _ m _<|zaj hj).1
  lia
 ·by_cases g':i<bx l m
  ·exfalso
   have ne: ¬i=l.count 10:=by lia
   obtain⟨j,hj⟩: ∃j,(pos 10 l 0)[i]?=some j:=⟨_,lE (by lia)⟩
   have e:lend l i=j:=by unfold lend;rw[if_neg ne,hj];rfl
   rw[sp,zaJ (by lia)] at hj
   have:=(jZ 10 _ 0 _<|zaj hj).2
   rw[lt] at this
   lia
  ·lia
theorem Z9(x:Str):Builtin.Str.occurrences x (Str.ofString "\n") 0 x.length (x.length+1)=pos 10 x.cps.toList 0:=by
 have:=wI x 10 0 (x.length+1) (zqZ _)
 rw[zaM] at this
 show Builtin.Str.occurrences x ⟨#[10]⟩ 0 x.length (x.length+1)=_
 rw[this,zao]
 rw[fc]
 have:x.cps.toList.count 10<=x.length:=by rw[len_list];exact zbG
 lia
theorem K8(x:Str):Txt.split x (Str.ofString "\n")=Builtin.Str.partsBetween x (pos 10 x.cps.toList 0) 1:=by
 have one:pos 10 x.cps.toList 0=[]->Builtin.Str.partsBetween x (pos 10 x.cps.toList 0) 1=[x]:=fun e=>by
  rw[e]
  show[Builtin.Str.strSub x 0 x.length]=[x]
  congr 1
  apply mD
  show(x.cps.extract 0 x.cps.size).toList=x.cps.toList
  simp
 unfold Txt.split
 rw[Z9]
 by_cases h:(decide (x.length< (Str.ofString "\n").length) || decide (Builtin.Str.strKind x<Builtin.Str.strKind (Str.ofString "\n")))=true
 ·rw[if_pos h]
  refine(one ?_).symm
  have k1:Builtin.Str.strKind (Str.ofString "\n")=1:=by decide+kernel
  have k2:1<=Builtin.Str.strKind x:=by unfold Builtin.Str.strKind;split<;> (try split) <;>decide
  have l1:(Str.ofString "\n").length=1:=by decide+kernel
  rw[k1,l1,Bool.or_eq_true] at h
  have:x.length=0:=by
   rcases h with h | h
   ·have:=of_decide_eq_true h;lia
   ·have:=of_decide_eq_true h;lia
  have e:x.cps.toList=[]:=zbs (by rw[<-len_list];exact this)
  rw[e];rfl
 ·rw[if_neg h]
  by_cases g:(pos 10 x.cps.toList 0).isEmpty=true
  ·rw[if_pos g]
   exact(one<|List.isEmpty_iff.mp g).symm
  ·rw[if_neg g];rfl
theorem split_len(x:Str):(Txt.split x<|Str.ofString "\n").length=x.cps.toList.count 10+1:=by rw[K8,length_partsBetween,fc]
theorem xg{x:Str}{i:Nat}(h:i<=x.cps.toList.count 10): ∃z,(Txt.split x<|Str.ofString "\n")[i]?=some z/\z.length=lend x.cps.toList i - bI x.cps.toList i:=by
 rw[K8]
 have L:=fc 10 x.cps.toList 0
 have ok:=j9 h
 have e1:(0::(pos 10 x.cps.toList 0).map (· +1))[i]?=some (bI x.cps.toList i):=by
  unfold bI
  by_cases z:i=0
  ·rw[if_pos z,z];rfl
  ·rw[if_neg z]
   obtain⟨k,rfl⟩: ∃k,i=k+1:=⟨i - 1,by lia⟩
   rw[List.getElem?_cons_succ,zak,lE (by lia)];rfl
 have e2:(pos 10 x.cps.toList 0++ [x.length])[i]?=some (lend x.cps.toList i):=by
  unfold lend
  by_cases z:i=x.cps.toList.count 10
  ·rw[if_pos z,zaI (by lia),L,z,Nat.sub_self,<-len_list];rfl
  ·rw[if_neg z,zaJ (by lia)]
   exact lE (by lia)
 refine⟨Builtin.Str.strSub x (bI x.cps.toList i)<|lend x.cps.toList i, ?_, ?_⟩
 ·show(((0::(pos 10 x.cps.toList 0).map (· +1)).zip<|pos 10 x.cps.toList 0++ [x.length]).map fun(i,j)=>Builtin.Str.strSub x i j)[i]?=_
  rw[zak,(List.getElem?_zip_eq_some (z:=(bI x.cps.toList i,lend x.cps.toList i))).mpr ⟨e1,e2⟩];rfl
 ·show(x.cps.extract (bI x.cps.toList i)<|lend x.cps.toList i).size=_
  rw[zbS]
  have:x.cps.size=x.cps.toList.length:=by simp
  lia
end L2.N
namespace L2.B
open PySem PySem.Spec PyProof.Rows
end L2.B
namespace L2
open PySem PySem.Spec PyProof.Rows
end L2
namespace L2.B
open PySem PySem.Spec PyProof.Rows
end L2.B
namespace L2.B
end L2.B
namespace L2.B
open PySem PySem.Spec PyProof.Rows
section
variable {H:Hp} {Q:VK} {E:XK}
end
theorem Z_{K:Frag}(vs:List V)(H:Hp)(Q:VK)(E:XK)(h:wJ vs H Q E):av (aI K [] [] (E:=E)) F9 (Dn Q) (start Aw vs) H:=by
 obtain⟨i,rfl,q⟩:=h
 exact⟨_,rfl,rfl,_,rfl,kN ⟨_,rfl,rfl,q⟩⟩
end L2.B
namespace L2
open PySem PySem.Spec PyProof.Rows
theorem BK{Γ:aX}{D:Ends}{σ:St}{H:Hp}{r:List RS}{is:List Nat}{e:RE}(h:aj Γ e σ H fun x H1=>jP Γ.K is.length (i8 is) x σ H1 (av Γ r D)):av Γ (.nB is e::r) D σ H:=h
theorem K9{K:Frag}{i j:Nat}{t:Addr}{v w:V}{σ:St}{H:Hp}{Q:St->Hp->Prop}(ht:H t=some (.tup [v,w]))(q:Q ((σ.set i<|some v).set j<|some w) H):jP K [i,j].length (i8 [i,j]) (.ref t) σ H Q:=
 ⟨t,_,rfl, .inl<|ba.of ht,rfl,_,_,rfl,_,_,rfl,rfl,q⟩
end L2
namespace L2.B
open PySem PySem.Spec PyProof.Rows
section
variable {H:Hp} {Q:VK} {E:XK}
end
end L2.B
namespace L2.N
open PySem PySem.Spec L2.B
structure eL (CP C:Addr) (H:Hp) (p dp s dx lt lb lf:Addr) (v:V) (t:Tr) (ts:List Str) (x:Str):Prop where
 pa:ed CP H p dp s v t (au ts)
 st:du C H s dx lt lb lf ts
 l1:t.aw.length<=1000
 l2:ts.length<=10000
 l3:(au ts).length<=500000
 tx:txt (au ts) t.aw=x.cps.toList
 go:good x
theorem eL.same{CP C:Addr}{H H':Hp}{p dp s dx lt lb lf:Addr}{v:V}{t:Tr}{ts:List Str}{x:Str}(B:eL CP C H p dp s dx lt lb lf v t ts x)(h:aC H H'):eL CP C H' p dp s dx lt lb lf v t ts x:=⟨B.pa.same h,B.st.same h,B.l1,B.l2,B.l3,B.tx,B.go⟩
section
variable {K:Frag} {CP C:Addr} {H H':Hp} {p dp s dx lt lb lf:Addr} {v:V} {t:Tr} {ts:List Str} {x:Str}
theorem eL.eq(B:eL CP C H p dp s dx lt lb lf v t ts x):L2.N.tx (au ts) t.aw=x:=mD (by rw[ZP,B.tx])
theorem eL.l4(B:eL CP C H p dp s dx lt lb lf v t ts x):(txt (au ts) t.aw).length<=1000000:=by rw[B.tx,<-len_list];exact B.go.1
end
section
variable {K:Frag} {H:Hp} {Q:VK}
end
theorem aaa(xs:List V)(i j:Nat):dJ xs (some (i:Int)) (some (j:Int))=(xs.drop i).take (j - i):=by
 unfold dJ
 rw[HT.lW,HT.lW]
 by_cases h:i<=xs.length
 ·by_cases h2:j<=xs.length
  ·rw[show min i xs.length=i by lia,show min j xs.length=j by lia]
  ·rw[show min i xs.length=i by lia,show min j xs.length=xs.length by lia,zao (by rw[zai];lia),zao (by rw[zai];lia)]
 ·rw[zbq (by lia),zbq (by lia),zbr,zbr]
inductive Wd where | left | right | up | down | oH | en | top | lF | back | on
 deriving DecidableEq
def Wd.str:Wd->Str
 | .left=> "left" | .right=> "right" | .up=> "up" | .down=> "down" | .oH=> "home" | .en=> "end" | .top=> "top" | .lF=> "bottom" | .back=> "back" | .on=> "on"
theorem aab(w v:Wd):(w.str==v.str)=decide (w=v):=by cases w<;>cases v<;>decide+kernel
section
variable {K:Frag} {H:Hp} {Q:VK} {Γ:aX} {σ:St} {D:Ends}
theorem cw{w:Wd}(v:Wd){z:Str}(hz:v.str=z)(q:Q (.bl<|decide<|w=v) H):b9 K .Eq (.str w.str) (.str z) H Q:=by
 subst hz
 refine wN ?_
 rw[aab];exact q
theorem oI{i:Nat}{w:Wd}(v:Wd){z:Str}(hz:v.str=z){A r:List RS}(hσ:σ[i]?=some (some<|.str w.str))(h1:w=v->av Γ A {D with nx:=av Γ r D} σ H)(h2:w≠v->av Γ r D σ H):av Γ (.ite (.cmp .Eq (.v i)<|.c<|.str z) A []::r) D σ H:=by
 refine bj<|bq<|ag hσ<|ao<|cw v hz ⟨_,rfl, ?_⟩
 by_cases h:w=v
 ·exact iT (h1 h) (zqT h)
 ·exact iF (bH<|h2 h) (zqF h)
theorem tJ{i:Nat}{w:Wd}(v v':Wd){z z':Str}(hz:v.str=z)(jO:v'.str=z'){A r:List RS}(hσ:σ[i]?=some (some<|.str w.str))(h1:w=v\/w=v'->av Γ A {D with nx:=av Γ r D} σ H)(h2:w≠v->w≠v'->av Γ r D σ H):av Γ (.ite (.or [.cmp .Eq (.v i)<|.c<|.str z, .cmp .Eq (.v i)<|.c<|.str z']) A []::r) D σ H:=by
 refine bj<|gK<|bq<|ag hσ<|ao<|cw v hz ⟨_,rfl, ?_⟩
 by_cases h:w=v
 ·exact iT (iT (h1<|.inl h) rfl) (zqT h)
 ·refine iF (bq<|ag hσ<|ao<|cw v' jO ⟨_,rfl, ?_⟩) (zqF h)
  by_cases h':w=v'
  ·exact iT (h1<|.inr h') (zqT h')
  ·exact iF (bH<|h2 h h') (zqF h')
theorem iH{a b:RE}{r:List RE}(h:aj Γ a σ H fun x H1=> ∃c,x= .bl c/\if c=true then aj Γ (.and (b::r)) σ H1 Q else Q (.bl false) H1):aj Γ (.and (a::b::r)) σ H Q:=h
theorem qv{a:RE}(h:aj Γ a σ H Q):aj Γ (.and [a]) σ H Q:=h
theorem lG{a b:RE}(h:aj Γ a σ H fun x H1=> ∃c,x= .bl c/\if c=true then Q (.bl true) H1 else aj Γ b σ H1 Q):aj Γ (.or [a,b]) σ H Q:=h
theorem xh{op b_:CmpOp}{a b d:RE}(h:aj Γ a σ H fun x H1=>aj Γ b σ H1 fun y H2=>b9 Γ.K op x y H2 fun z H3=> ∃k,z= .bl k/\(if k=true then aj Γ d σ H3 fun w H4=>b9 Γ.K b_ y w H4 Q else Q (.bl false) H3)):aj Γ (.jK op b_ a b d) σ H Q:=h
theorem xi{op b_:CmpOp}{a b d:RE}{QT:Bool->Hp->Prop}(h:aj Γ (.jK op b_ a b d) σ H fun z H3=> ∃k,z= .bl k/\QT k H3):bf Γ (.jK op b_ a b d) σ H QT:=h
theorem BL{as:List RE}{QT:Bool->Hp->Prop}(h:aZ Γ as σ H fun vs H1=>wg Γ.K vs H1 fun x H2=>gY Γ.K x H2 fun b=>QT b H2):bf Γ (.xt AB as) σ H QT:=h
theorem K_{as:List RE}{QT:Bool->Hp->Prop}(h:aZ Γ as σ H fun vs H1=>wm Γ.K vs H1 fun x H2=>gY Γ.K x H2 fun b=>QT b H2):bf Γ (.xt AD as) σ H QT:=h
end
def gV:Option Nat->V
 | none=> .aA
 | some n=> .int n
def eM(H:Hp)(t:Addr)(a h:Nat)(g:Option Nat):Prop:=H t=some (.tup [.int a, .int h,gV g])
theorem xj(g:Option Nat):decide (gV g= .aA)=g.isNone:=by cases g<;>simp[gV]
section
variable {K:Frag}
def iI:Sp:=fun vs H Q E=> ∃(t:Addr) (a h:Nat) (g:Option Nat),vs=[.ref t]/\eM H t a h g/\Q (.int (min a h:Nat)) H
theorem aac(vs:List V)(H:Hp)(Q:VK)(E:XK)(h:iI vs H Q E):av (aI K [] [] (E:=E)) Hu (Dn Q) (start my vs) H:=by
 obtain⟨t,a,h,g,rfl,ha,q⟩:=h
 refine aY<|dr<|ah<|aU<|ag rfl<|ao<|aJ ha rfl<|ah<|aU<|ag rfl<|ao<|aJ ha rfl<|az ?_
 show Q (.int (if (h:Int) < (a:Int) then (h:Int) else (a:Int))) H
 rw[show(if (h:Int) < (a:Int) then (h:Int) else (a:Int))=((min a h:Nat):Int) by split<;>lia]
 exact q
def lH:Sp:=fun vs H Q E=> ∃(t:Addr) (a h:Nat) (g:Option Nat),vs=[.ref t]/\eM H t a h g/\Q (.int (max a h:Nat)) H
theorem aad(vs:List V)(H:Hp)(Q:VK)(E:XK)(h:lH vs H Q E):av (aI K [] [] (E:=E)) Hw (Dn Q) (start my vs) H:=by
 obtain⟨t,a,h,g,rfl,ha,q⟩:=h
 refine aY<|dr<|ah<|aU<|ag rfl<|ao<|aJ ha rfl<|ah<|aU<|ag rfl<|ao<|aJ ha rfl<|az ?_
 show Q (.int (if (h:Int) > (a:Int) then (h:Int) else (a:Int))) H
 rw[show(if (h:Int) > (a:Int) then (h:Int) else (a:Int))=((max a h:Nat):Int) by split<;>lia]
 exact q
def tK:Sp:=fun vs H Q E=> ∃(t:Addr) (a h:Nat) (g:Option Nat),vs=[.ref t]/\eM H t a h g/\Q (.bl<|decide<|a=h) H
theorem aae(vs:List V)(H:Hp)(Q:VK)(E:XK)(h:tK vs H Q E):av (aI K [] [] (E:=E)) Hx (Dn Q) (start my vs) H:=by
 obtain⟨t,a,h,g,rfl,ha,q⟩:=h
 refine aY<|cZ<|aU<|ag rfl<|ao<|aJ ha rfl<|aU<|ag rfl<|ao<|aJ ha rfl<|fg ?_
 rw[show decide ((a:Int)=(h:Int))=decide (a=h) by rw[zaB];simp only[decide_eq_true_eq];lia]
 exact q
def tL:Sp:=fun vs H Q E=> ∃g:Option Nat,vs=[gV g]/\Q (.bl true) H
theorem aaf(vs:List V)(H:Hp)(Q:VK)(E:XK)(h:tL vs H Q E):av (aI K [("is_whole",lj)] [] (E:=E)) AG (Dn Q) (start g4 vs) H:=by
 obtain⟨g,rfl,q⟩:=h
 refine aY<|lG<|cZ<|ag rfl<|ao ⟨rfl,_,rfl, ?_⟩
 rw[xj]
 cases g with
 | none=>exact iT q rfl
 | some n=>
  refine iF ?_ rfl
  refine iH<|aP lj rfl<|ah<|ag rfl<|az ⟨_,rfl, .inl ⟨_,rfl,_,rfl,iT ?_ rfl⟩⟩
  refine qv<|cZ<|ag rfl<|ao<|N.BF ?_
  rw[zqT (show(0:Int)<= (n:Nat) by lia)]
  exact q
def oJ:Sp:=fun vs H Q E=> ∃(t:Addr) (a h:Nat) (g:Option Nat) (n:Nat),vs=[.ref t, .int n]/\eM H t a h g/\a<=n/\h<=n/\Q (.bl true) H
theorem aag(vs:List V)(H:Hp)(Q:VK)(E:XK)(h:oJ vs H Q E):av (aI K [("is_between",dt),("is_goal",tL)] [] (E:=E)) AI (Dn Q) (start AH vs) H:=by
 obtain⟨t,a,h,g,n,rfl,ha,h1,h2,q⟩:=h
 refine bj<|gK<|bO<|mG<|ag rfl<|wK ha<|iF ?_ rfl
 refine bq<|dW<|ag rfl<|.inr ⟨_,ba.of ha,ao<|qf ⟨_,rfl,iF (bH ?_) (by simp)⟩⟩
 refine aY<|iH<|aP dt rfl<|ah<|aU<|ag rfl<|ao<|aJ ha rfl<|ah<|ao<|ah<|ag rfl<|az ⟨_,_,_,rfl, .inl ⟨_,rfl,by lia,by lia,_,rfl,iT ?_ rfl⟩⟩
 refine iH<|aP dt rfl<|ah<|aU<|ag rfl<|ao<|aJ ha rfl<|ah<|ao<|ah<|ag rfl<|az ⟨_,_,_,rfl, .inl ⟨_,rfl,by lia,by lia,_,rfl,iT ?_ rfl⟩⟩
 exact qv<|aP tL rfl<|ah<|aU<|ag rfl<|ao<|aJ ha rfl<|az ⟨g,rfl,q⟩
def tM:Sp:=fun vs H Q E=> ∃b:Bool,vs=[.bl b]/\Q (.bl true) H
theorem aah(vs:List V)(H:Hp)(Q:VK)(E:XK)(h:tM vs H Q E):av (aI K [] [] (E:=E)) AF (Dn Q) (start g4 vs) H:=by
 obtain⟨b,rfl,q⟩:=h
 refine aY<|lG<|cZ<|ag rfl<|ao ?_
 show ∃c,V.bl (decide<|V.bl b=V.bl true)= .bl c/\_
 refine⟨_,rfl, ?_⟩
 cases b with
 | true=>exact iT q (by simp)
 | false=>
  refine iF (cZ<|ag rfl<|ao ?_) (by simp)
  show Q (.bl<|decide<|V.bl false=V.bl false) H
  rw[zqT rfl];exact q
def xk:List V:=[.str "left", .str "right", .str "home", .str "end", .str "top", .str "bottom", .str "back", .str "on", .str "up", .str "down"]
theorem La(w:Wd):iV (.str w.str) xk=true:=by cases w<;>decide+kernel
def BM:Sp:=fun vs H Q E=> ∃(w:Wd) (b:Bool),vs=[.str w.str, .bl b]/\Q .aA H
theorem aai{CE p:Addr}(hp: ∀H:Hp,ba K H p xk)(vs:List V)(H:Hp)(Q:VK)(E:XK)(h:BM vs H Q E):av (aI K [("is_word",oo K),("is_truth",tM)] [("STEP_WORDS", .ref p)] (et:=[("BadDeed",CE)]) (E:=E)) AM (Dn Q) (start AL vs) H:=by
 obtain⟨w,b,rfl,q⟩:=h
 refine bj<|bO<|dU (oo K) rfl<|ah<|ag rfl<|ah<|gh<|az ⟨_,p,_,rfl,hp H,rfl, .inl ⟨_,rfl,cq<|iF (bH ?_) ?_⟩⟩
 ·exact bj (bO<|dU tM rfl<|ah<|ag rfl<|az ⟨b,rfl,cq<|iF q rfl⟩)
 ·rw[La];rfl
end
def cO(p:Nat->Bool)(m:List Nat):Nat:=(m.takeWhile p).length
theorem mQ(p:Nat->Bool): ∀m:List Nat,cO p m<=m.length
 | []=>zqR _
 | c::m=>by
  have:=mQ p m
  unfold cO at this⊢
  rw[zaN]
  split
  ·simp;lia
  ·simp
theorem tN(p:Nat->Bool): ∀a b:List Nat,(cO p a<a.length->cO p (a++b)=cO p a)/\(cO p a=a.length->cO p (a++b)=a.length+cO p b)
 | [],b=> ⟨fun h=>absurd h<|zaw _,fun _=>by simp⟩
 | c::a,b=>by
  obtain⟨h1,h2⟩:=tN p a b
  unfold cO at h1 h2⊢
  rw[zaZ,zaN,zaN]
  cases hc:p c with
  | false=>simp
  | true=>
   simp only[if_true,zar]
   exact⟨fun h=>by rw[h1 (by lia)],fun h=>by rw[h2 (by lia)];lia⟩
theorem BN{p q:Nat->Bool}: ∀{m:List Nat},(∀c∈m,p c=q c)->cO p m=cO q m
 | [],_=>rfl
 | c::m,h=>by
  have ih:=BN (m:=m) fun d hd=>h d (.tail _ hd)
  unfold cO at ih⊢
  rw[zaN,zaN,h c<|.head _]
  split
  ·simp only[zar];rw[ih]
  ·rfl
def ro(p:Nat->Bool)(l:List Nat)(n:Nat):Nat:=n+cO p (l.drop n)
def lo(p:Nat->Bool)(l:List Nat)(n:Nat):Nat:=n - cO p (l.take n).reverse
theorem ro_le{p:Nat->Bool}{l:List Nat}{n:Nat}(h:n<=l.length):n<=ro p l n/\ro p l n<=l.length:=by
 have:=mQ p (l.drop n)
 rw[zai] at this
 unfold ro;lia
theorem lo_le{p:Nat->Bool}{l:List Nat}{n:Nat}:lo p l n<=n:=by unfold lo;lia
theorem mid(l:List Nat){a b:Nat}(h:a<=b):l.drop a=(l.take b).drop a++l.drop b:=by
 have e:l=l.take b++l.drop b:=(zaD _ _).symm
 by_cases hb:b<=l.length
 ·conv=>lhs;rw[e]
  rw[List.drop_append_of_le_length (by rw[zaf];lia)]
 ·rw[zao (by lia),zbq (i:=b) (by lia),zaC]
theorem Lb(l:List Nat){a b:Nat}(h:a<=b):l.take b=l.take a++ (l.take b).drop a:=by
 have:=(zaD a<|l.take b).symm
 rwa [List.take_take,zaQ h] at this
theorem aaj{p:Nat->Bool}{l:List Nat}{a b:Nat}(h:a<=b)(hb:b<=l.length)(hr:cO p ((l.take b).drop a) <b - a):ro p l a=a+cO p ((l.take b).drop a):=by
 unfold ro
 rw[mid l h,(tN p _ _).1 (by rw[zai,zaf];lia)]
theorem aak{p:Nat->Bool}{l:List Nat}{a b:Nat}(h:a<=b)(hb:b<=l.length)(hr: ¬cO p ((l.take b).drop a) <b - a):ro p l a=ro p l b:=by
 have l1:((l.take b).drop a).length=b - a:=by rw[zai,zaf];lia
 have:=mQ p ((l.take b).drop a)
 unfold ro
 rw[mid l h,(tN p _ _).2 (by lia),l1];lia
theorem aal{p:Nat->Bool}{l:List Nat}{a b:Nat}(h:a<=b)(hb:b<=l.length)(hr:cO p ((l.take b).drop a).reverse<b - a):lo p l b=b - cO p ((l.take b).drop a).reverse:=by
 have l1:((l.take b).drop a).reverse.length=b - a:=by rw[zbg,zai,zaf];lia
 have e:(l.take b).reverse=((l.take b).drop a).reverse++ (l.take a).reverse:=by rw[<-zbU,<-Lb l h]
 unfold lo
 rw[e,(tN p _ _).1 (by lia)]
theorem aam{p:Nat->Bool}{l:List Nat}{a b:Nat}(h:a<=b)(hb:b<=l.length)(hr: ¬cO p ((l.take b).drop a).reverse<b - a):lo p l b=lo p l a:=by
 have l1:((l.take b).drop a).reverse.length=b - a:=by rw[zbg,zai,zaf];lia
 have e:(l.take b).reverse=((l.take b).drop a).reverse++ (l.take a).reverse:=by rw[<-zbU,<-Lb l h]
 have:=mQ p ((l.take b).drop a).reverse
 unfold lo
 rw[e,(tN p _ _).2 (by lia),l1];lia
theorem sub_len{x:Str}{a b:Nat}(h1:a<=b)(h2:b<=x.length):(Builtin.Str.strSub x a b).length=b - a:=by
 have h3:b<=x.cps.size:=h2
 show(x.cps.extract a b).size=_
 rw[zbS];lia
theorem aan(z y:Str):(Txt.rstripChars z y).length=z.length - cO y.cps.contains z.cps.toList.reverse:=by
 unfold Txt.rstripChars
 rw[PyProof.Rows.stripBy_eq]
 have e0:stripLo y.cps.contains false z=0:=rfl
 have e1:stripHi y.cps.contains true z 0=z.length - cO y.cps.contains z.cps.toList.reverse:=rfl
 rw[e0,e1,sub_len (zqZ _)<|Nat.sub_le _ _];rfl
theorem aao(z y:Str):(Txt.lstripChars z y).length=z.length - cO y.cps.contains z.cps.toList:=by
 unfold Txt.lstripChars
 rw[PyProof.Rows.stripBy_eq]
 have e0:stripLo y.cps.contains true z=cO y.cps.contains z.cps.toList:=rfl
 have e1: ∀n,stripHi y.cps.contains false z n=z.length:=fun n=>rfl
 have:=mQ y.cps.contains z.cps.toList
 have ll:=len_list z
 rw[e0,e1,sub_len (by lia)<|zqR _]
theorem Lc(z:Str):(z !=("":Str))=decide (0<z.length):=by
 rw[zaB]
 simp only[bne_iff_ne,ne_eq,decide_eq_true_eq]
 constructor
 ·intro h
  exact zbj fun e=>h (mD (by rw[len_list] at e;rw[zbs e];decide+kernel))
 ·intro h e
  rw[e] at h
  exact absurd h (by decide+kernel)
theorem Ld{l:List Nat}{a b:Nat}(h1:a<=b)(h2:b<=l.length):(eS l a b).length=b - a:=by
 show(((l.take b).drop a).toArray).size=_
 simp;lia
section
variable {K:Frag} {CP C:Addr} {H:Hp} {Q:VK} {Γ:aX} {σ:St}
theorem aap{o a:RE}(h:aj Γ o σ H fun x H1=>nk Γ.K "str" x H1/\aj Γ a σ H1 fun y H2=>wo x [y] H2 Q):aj Γ (.xm AE o [a]) σ H Q:=h
def j_(CP C:Addr)(f:(Nat->Bool)->List Nat->Nat->Nat):Sp:=fun vs H Q E=> ∃(p dp s dx lt lb lf:Addr) (v:V) (t:Tr) (ts:List Str) (x y:Str) (n:Nat),vs=[.ref p, .int n, .str y]/\eL CP C H p dp s dx lt lb lf v t ts x/\n<=x.length/\x.length<=100000/\ ∀H',aC H H'->Q (.int (f y.cps.contains x.cps.toList n:Nat)) H'
theorem aaq(vs:List V)(H:Hp)(Q:VK)(E:XK)(h:j_ CP C lo vs H Q E):av (aI K [] [("FIRST_STRIDE", .int 64)] [] [("part",CP,qo CP C)] (E:=E)) HC (Dn Q) (start HB vs) H:=by
 obtain⟨p,dp,s,dx,lt,lb,lf,v,t,ts,x,y,n,rfl,B,hn,hx,q⟩:=h
 have lx:=len_list x
 refine aO<|gh ?_
 refine oq (fun k σ H2=> ∃(m:Nat) (st:Nat) (u4 u5:Option V),σ=[some<|.ref p,some<|.int m,some<|.str y,some<|.int st,u4,u5]/\aC H H2/\m<=x.length/\1<=st/\m=k/\lo y.cps.contains x.cps.toList m=lo y.cps.contains x.cps.toList n) ⟨n,n,64,none,none,rfl,aC.refl _,hn,by decide,rfl,rfl⟩ ?_
 rintro k σ H2 ⟨m,st,u4,u5,rfl,s2,hm,jC,rfl,ip⟩
 refine bq<|ag rfl<|ao<|N.tH ⟨_,rfl, ?_⟩
 by_cases g:(0:Int) < (m:Nat)
 ·refine iT ⟨fun σ' H'=> ∃(m' ck:Nat) (u4 u5:Option V),σ'=[some<|.ref p,some<|.int m',some<|.str y,some<|.int ck,u4,u5]/\aC H H'/\m'<m/\1<=ck/\lo y.cps.contains x.cps.toList m'=lo y.cps.contains x.cps.toList n, ?_, ?_⟩ (zqT g)
  ·rintro σ' H' ⟨m',ck,w4,w5,rfl,s',h1,h2,h3⟩
   exact⟨m',h1,m',ck,w4,w5,rfl,s',by lia,h2,rfl,h3⟩
  ·refine aO (dr<|ah<|ao<|ah<|aN<|ag rfl<|ag rfl<|ee<|az ?_)
   have eb:(if ((m:Nat):Int) - (st:Nat) >0 then ((m:Nat):Int) - (st:Nat) else 0)=((m - st:Nat):Int):=by split<;>lia
   show av _ _ _ [some<|.ref p,some<|.int m,some<|.str y,some<|.int st,some<|.int (if ((m:Nat):Int) - (st:Nat) >0 then ((m:Nat):Int) - (st:Nat) else 0),u5] H2
   rw[eb]
   have B2:=B.same s2
   refine aO<|aap<|w_ CP (qo CP C) rfl<|ag rfl ⟨p,dp,_,rfl,B2.pa.ob,dD (by decide+kernel) (by decide+kernel),ag rfl<|ag rfl ⟨p,dp,s,dx,lt,lb,lf,v,t,ts,m - st,m,rfl,B2.pa,B2.st,B.l1,B.l2,B.l3,B.l4,by lia,by rw[B.tx];lia,fun H3 s3=> ?_⟩⟩
   rw[B.tx]
   have lc:(eS x.cps.toList (m - st) m).length=m - (m - st):=Ld (by lia) (by lia)
   refine⟨rfl,ag rfl ⟨_,y,rfl,rfl,cp (by lia), ?_⟩⟩
   have rl:=aan (eS x.cps.toList (m - st) m) y
   have BO:(eS x.cps.toList (m - st) m).cps.toList=(x.cps.toList.take m).drop (m - st):=by simp[eS]
   rw[BO,lc] at rl
   have BP:=mQ y.cps.contains ((x.cps.toList.take m).drop<|m - st).reverse
   rw[zbg,zai,zaf] at BP
   refine bj<|bq<|ag rfl<|ao<|ot ⟨_,rfl, ?_⟩
   rw[Lc]
   by_cases g2:0< (Txt.rstripChars (eS x.cps.toList (m - st) m) y).length
   ·refine iT ?_ (zqT g2)
    refine aY<|aN<|ag rfl<|dW<|ag rfl ⟨cp (by lia),bP ?_⟩
    have hl:=aal (p:=y.cps.contains) (l:=x.cps.toList) (a:=m - st) (b:=m) (by lia) (by lia) (by lia)
    rw[show((m - st:Nat):Int)+ ((Txt.rstripChars (eS x.cps.toList (m - st) m) y).length:Nat)=((lo y.cps.contains x.cps.toList n:Nat):Int) by rw[<-ip,hl];lia]
    exact q _<|s2.trans s3
   ·refine iF (bH ?_) (zqF g2)
    refine aO<|ag rfl<|aO<|aN<|ao<|ag rfl ⟨.inl ⟨by decide,by decide⟩, ?_⟩
    have hl:=aam (p:=y.cps.contains) (l:=x.cps.toList) (a:=m - st) (b:=m) (by lia) (by lia) (by lia)
    refine⟨m - st,2*st,some<|.int ((m - st:Nat):Int),some<|.str<|Txt.rstripChars (eS x.cps.toList (m - st) m) y, ?_,s2.trans s3,by lia,by lia,by rw[<-hl];exact ip⟩
    show[some<|V.ref p,some<|V.int ((m - st:Nat):Int),some<|V.str y,some<|V.int<|2* ((st:Nat):Int),_,_]=_
    rw[show 2* ((st:Nat):Int)=((2*st:Nat):Int) by lia]
 ·refine iF ?_ (zqF g)
  have e0:m=0:=by lia
  subst e0
  refine aY<|ag rfl ?_
  have:lo y.cps.contains x.cps.toList 0=0:=by unfold lo;lia
  rw[<-ip,this] at q
  exact q _ s2
theorem aar(vs:List V)(H:Hp)(Q:VK)(E:XK)(h:j_ CP C ro vs H Q E):av (aI K [] [("FIRST_STRIDE", .int 64)] [] [("size",CP,cG CP),("part",CP,qo CP C)] (E:=E)) HF (Dn Q) (start HE vs) H:=by
 obtain⟨p,dp,s,dx,lt,lb,lf,v,t,ts,x,y,n,rfl,B,hn,hx,q⟩:=h
 have lx:=len_list x
 refine aO<|gh ?_
 have tO: ∀{σ:St} {H2:Hp} {Q1:VK},aC H H2->σ[0]?=some (some<|.ref p)->Q1 (.int (x.length:Nat)) H2->aj (aI K [] [("FIRST_STRIDE", .int 64)] [] [("size",CP,cG CP),("part",CP,qo CP C)] (E:=E)) (.bF 0 "size" (.v 0) []) σ H2 Q1:=by
  intro σ H2 Q1 s2 e q1
  have B2:=B.same s2
  refine gi CP (cG CP) rfl<|ag e ⟨p,dp,_,rfl,B2.pa.ob,dD (by decide+kernel) (by decide+kernel),p,dp,s,v,t,_,rfl,B2.pa, ?_⟩
  rw[B.tx,<-lx];exact q1
 refine oq (fun k σ H2=> ∃(m:Nat) (st:Nat) (u4 u5:Option V),σ=[some<|.ref p,some<|.int m,some<|.str y,some<|.int st,u4,u5]/\aC H H2/\m<=x.length/\1<=st/\k=x.length - m/\ro y.cps.contains x.cps.toList m=ro y.cps.contains x.cps.toList n) ⟨_,n,64,none,none,rfl,aC.refl _,hn,by decide,rfl,rfl⟩ ?_
 rintro k σ H2 ⟨m,st,u4,u5,rfl,s2,hm,jC,rfl,ip⟩
 refine bq<|ag rfl<|tO s2 rfl<|N.ltI ⟨_,rfl, ?_⟩
 by_cases g:((m:Nat):Int) < (x.length:Nat)
 ·refine iT ⟨fun σ' H'=> ∃(m' ck:Nat) (u4 u5:Option V),σ'=[some<|.ref p,some<|.int m',some<|.str y,some<|.int ck,u4,u5]/\aC H H'/\m<m'/\m'<=x.length/\1<=ck/\ro y.cps.contains x.cps.toList m'=ro y.cps.contains x.cps.toList n, ?_, ?_⟩ (zqT g)
  ·rintro σ' H' ⟨m',ck,w4,w5,rfl,s',h1,lp,h2,h3⟩
   exact⟨x.length - m',by lia,m',ck,w4,w5,rfl,s',lp,h2,rfl,h3⟩
  ·refine aO (dr<|ah<|tO s2 rfl<|ah<|aN<|ag rfl<|ag rfl<|bP<|az ?_)
   have eb:(if ((m:Nat):Int)+ (st:Nat) < (x.length:Nat) then ((m:Nat):Int)+ (st:Nat) else (x.length:Nat))=((min x.length (m+st):Nat):Int):=by split<;>lia
   show av _ _ _ [some<|.ref p,some<|.int m,some<|.str y,some<|.int st,some<|.int (if ((m:Nat):Int)+ (st:Nat) < (x.length:Nat) then ((m:Nat):Int)+ (st:Nat) else (x.length:Nat)),u5] H2
   rw[eb]
   obtain⟨b,eb2⟩: ∃b,b=min x.length (m+st):=⟨_,rfl⟩
   rw[<-eb2]
   have B2:=B.same s2
   refine aO<|eR<|w_ CP (qo CP C) rfl<|ag rfl ⟨p,dp,_,rfl,B2.pa.ob,dD (by decide+kernel) (by decide+kernel),ag rfl<|ag rfl ⟨p,dp,s,dx,lt,lb,lf,v,t,ts,m,b,rfl,B2.pa,B2.st,B.l1,B.l2,B.l3,B.l4,by lia,by rw[B.tx];lia,fun H3 s3=> ?_⟩⟩
   rw[B.tx]
   have lc:(eS x.cps.toList m b).length=b - m:=Ld (by lia) (by lia)
   refine⟨rfl,ag rfl ⟨cp (by lia), ?_⟩⟩
   have rl:=aao (eS x.cps.toList m b) y
   have BO:(eS x.cps.toList m b).cps.toList=(x.cps.toList.take b).drop m:=by simp[eS]
   rw[BO,lc] at rl
   have BP:=mQ y.cps.contains ((x.cps.toList.take b).drop m)
   rw[zai,zaf] at BP
   refine bj<|bq<|ag rfl<|ao<|ot ⟨_,rfl, ?_⟩
   rw[Lc]
   by_cases g2:0< (Txt.lstripChars (eS x.cps.toList m b) y).length
   ·refine iT ?_ (zqT g2)
    refine aY<|aN<|ag rfl<|dW<|ag rfl ⟨cp (by lia),ee ?_⟩
    have hl:=aaj (p:=y.cps.contains) (l:=x.cps.toList) (a:=m) (b:=b) (by lia) (by lia) (by lia)
    rw[show((b:Nat):Int) - ((Txt.lstripChars (eS x.cps.toList m b) y).length:Nat)=((ro y.cps.contains x.cps.toList n:Nat):Int) by rw[<-ip,hl];lia]
    exact q _<|s2.trans s3
   ·refine iF (bH ?_) (zqF g2)
    refine aO<|ag rfl<|aO<|aN<|ao<|ag rfl ⟨.inl ⟨by decide,by decide⟩, ?_⟩
    have hl:=aak (p:=y.cps.contains) (l:=x.cps.toList) (a:=m) (b:=b) (by lia) (by lia) (by lia)
    refine⟨b,2*st,some<|.int ((b:Nat):Int),some<|.str<|Txt.lstripChars (eS x.cps.toList m b) y, ?_,s2.trans s3,by lia,by lia,by lia,by rw[<-hl];exact ip⟩
    show[some<|V.ref p,some<|V.int ((b:Nat):Int),some<|V.str y,some<|V.int<|2* ((st:Nat):Int),_,_]=_
    rw[show 2* ((st:Nat):Int)=((2*st:Nat):Int) by lia]
 ·refine iF ?_ (zqF g)
  have e0:m=x.length:=by lia
  refine aY<|ag rfl ?_
  have:ro y.cps.contains x.cps.toList m=m:=by
   have:=ro_le (p:=y.cps.contains) (l:=x.cps.toList) (n:=m) (by lia)
   lia
  rw[<-ip,this] at q
  exact q _ s2
end
def WS:Str:="0123456789ABCDEFGHIJKLMNOPQRSTUVWXYZabcdefghijklmnopqrstuvwxyz"
def OS:Str:=" !\"#$&'()*+,-./:;<=>?\x40[\\]^_`{|}~\n"
def jr(l:List Nat)(n:Nat):Wd->Nat
 | .left=>n - 1
 | .right=>min l.length (n+1)
 | .top=>0
 | .lF=>l.length
 | .back=>lo WS.cps.contains l (lo OS.cps.contains l n)
 | .on=>ro WS.cps.contains l (ro OS.cps.contains l n)
 | .oH=>bI l (bx l n)
 | .en=>lend l (bx l n)
 | _=>0
def col(l:List Nat)(n:Nat):Nat:=n - bI l (bx l n)
def inl(l:List Nat)(i g:Nat):Nat:=bI l i+min g (lend l i - bI l i)
def hX(l:List Nat)(i g:Nat)(w:Wd):Nat:=if w= .up then (if i=0 then 0 else inl l (i - 1) g) else (if i=l.count 10 then l.length else inl l (i+1) g)
def led(l:List Nat)(a h:Nat)(g:Option Nat)(w:Wd)(b:Bool):Nat:=
 if w= .up\/w= .down then hX l (bx l h) (g.getD<|col l h) w else if (w= .left\/w= .right)/\b=false/\a≠h then (if w= .left then min a h else max a h) else jr l h w
def iJ(l:List Nat)(h:Nat)(g:Option Nat)(w:Wd):Option Nat:=if w= .up\/w= .down then some (g.getD<|col l h) else none
theorem Le{l:List Nat}{n:Nat}: ∀i,i<=l.count 10->n<=lend l i-> ∃j,j<=i/\bI l j<=n/\n<=lend l j
 | 0,_,h=> ⟨0,zqR _,by unfold bI;simp,h⟩
 | i+1,hi,h=>by
  by_cases c:bI l (i+1)<=n
  ·exact⟨i+1,zqR _,c,h⟩
  ·rw[K6 (by lia)] at c
   obtain⟨j,h1,h2,h3⟩:=Le (l:=l) (n:=n) i (by lia) (by lia)
   exact⟨j,by lia,h2,h3⟩
theorem BQ{l:List Nat}{n:Nat}(h:n<=l.length):bI l (bx l n)<=n/\n<=lend l (bx l n):=by
 obtain⟨j,h1,h2,h3⟩:=Le (l:=l) (n:=n) (l.count 10) (zqR _) (by rw[K7];exact h)
 rw[Z8 h1 h2 h3]
 exact⟨h2,h3⟩
theorem Lf{l:List Nat}{i g:Nat}(h:i<=l.count 10):inl l i g<=l.length:=by
 have:=j9 h
 unfold inl;lia
section
variable {K:Frag} {CP C:Addr}
theorem tP{Γ:aX}{σ:St}{H:Hp}{i:Nat}{b:Bool}{QT:Bool->Hp->Prop}(h:σ[i]?=some (some<|.bl b))(q:QT b H):bf Γ (.v i) σ H QT:=⟨_,h,q⟩
def xl(CP C:Addr):Sp:=fun vs H Q E=> ∃(p dp s dx lt lb lf:Addr) (v:V) (t:Tr) (ts:List Str) (x:Str) (n:Nat) (w:Wd),vs=[.ref p, .int n, .str w.str]/\eL CP C H p dp s dx lt lb lf v t ts x/\n<=x.length/\(w= .oH\/w= .en)/\ ∀H',aC H H'->Q (.int (jr x.cps.toList n w:Nat)) H'
theorem aat(vs:List V)(H:Hp)(Q:VK)(E:XK)(h:xl CP C vs H Q E):av (aI K [] [] [] [("line_at",CP,mP CP C),("line_size",CP,jq CP C)] (E:=E)) HI (Dn Q) (start HH vs) H:=by
 obtain⟨p,dp,s,dx,lt,lb,lf,v,t,ts,x,n,w,rfl,B,hn,hw,q⟩:=h
 have lx:=len_list x
 have bd:=BQ (l:=x.cps.toList) (n:=n) (by lia)
 have ok:=j9 (mO x.cps.toList n)
 have zi:=K5 x.cps.toList (bx x.cps.toList n)
 refine aO<|hV CP (mP CP C) rfl<|ag rfl ⟨p,dp,_,rfl,B.pa.ob,dD (by decide+kernel) (by decide+kernel),ag rfl ⟨p,dp,s,dx,lt,lb,lf,v,t,ts,n,rfl,B.pa,B.st,by rw[B.tx];lia,fun u H1 s1 fu hu=> ?_⟩⟩
 rw[B.tx] at hu
 refine aO<|aN<|ag rfl<|aU<|ag rfl<|ao<|aJ hu rfl<|ee ?_
 have e:((n:Nat):Int) - (((n:Nat):Int) - (bI x.cps.toList (bx x.cps.toList n):Nat))=(bI x.cps.toList (bx x.cps.toList n):Nat):=by lia
 show av _ _ _ [some<|.ref p,some<|.int n,some<|.str w.str,some<|.ref u,some<|.int<|((n:Nat):Int) - (((n:Nat):Int) - (bI x.cps.toList (bx x.cps.toList n):Nat))] H1
 rw[e]
 refine aY<|mL<|bq<|ag rfl<|ao<|cw .oH rfl ⟨_,rfl, ?_⟩
 rcases hw with rfl | rfl
 ·exact iT (ag rfl<|q _ s1) rfl
 ·refine iF ?_ rfl
  have B1:=B.same s1
  refine aN<|ag rfl<|hV CP (jq CP C) rfl<|ag rfl ⟨p,dp,_,rfl,B1.pa.ob,dD (by decide+kernel) (by decide+kernel),aU<|ag rfl<|ao<|aJ hu rfl ⟨p,dp,s,dx,lt,lb,lf,v,t,ts,_,rfl,B1.pa,B1.st,by rw[B.tx];exact mO _ _, ?_⟩⟩
  rw[B.tx,zi]
  refine bP ?_
  rw[show((bI x.cps.toList (bx x.cps.toList n):Nat):Int)+ ((lend x.cps.toList (bx x.cps.toList n):Nat) - (bI x.cps.toList (bx x.cps.toList n):Nat))=(lend x.cps.toList (bx x.cps.toList n):Nat) by lia]
  exact q _ s1
def BR(CP C:Addr):Sp:=fun vs H Q E=> ∃(p dp s dx lt lb lf:Addr) (v:V) (t:Tr) (ts:List Str) (x:Str) (n:Nat) (w:Wd),vs=[.ref p, .int n, .str w.str]/\eL CP C H p dp s dx lt lb lf v t ts x/\n<=x.length/\x.length<=100000/\w≠ .up/\w≠ .down/\ ∀H',aC H H'->Q (.int (jr x.cps.toList n w:Nat)) H'
theorem aau(vs:List V)(H:Hp)(Q:VK)(E:XK)(h:BR CP C vs H Q E):av (aI K [("left_over",j_ CP C lo),("right_over",j_ CP C ro),("place_in_line",xl CP C)] [("OTHER_SIGNS", .str OS),("WORD_SIGNS", .str WS)] [] [("size",CP,cG CP)] (E:=E)) HK (Dn Q) (start HJ vs) H:=by
 obtain⟨p,dp,s,dx,lt,lb,lf,v,t,ts,x,n,w,rfl,B,hn,hx,nu,nd,q⟩:=h
 have lx:=len_list x
 have q0:=q H (aC.refl _)
 have tO: ∀{σ:St} {Q1:VK},σ[0]?=some (some<|.ref p)->Q1 (.int (x.length:Nat)) H->aj (aI K [("left_over",j_ CP C lo),("right_over",j_ CP C ro),("place_in_line",xl CP C)] [("OTHER_SIGNS", .str OS),("WORD_SIGNS", .str WS)] [] [("size",CP,cG CP)] (E:=E)) (.bF 0 "size" (.v 0) []) σ H Q1:=by
  intro σ Q1 e q1
  refine gi CP (cG CP) rfl<|ag e ⟨p,dp,_,rfl,B.pa.ob,dD (by decide+kernel) (by decide+kernel),p,dp,s,v,t,_,rfl,B.pa, ?_⟩
  rw[B.tx,<-lx];exact q1
 refine oI .left rfl rfl (fun e=> ?_) fun n1=> ?_
 ·subst e
  refine aY<|dr<|ah<|ao<|ah<|aN<|ag rfl<|ao<|ee<|az ?_
  show Q (.int (if ((n:Nat):Int) - 1>0 then ((n:Nat):Int) - 1 else 0)) H
  rw[show(if ((n:Nat):Int) - 1>0 then ((n:Nat):Int) - 1 else 0)=((n - 1:Nat):Int) by split<;>lia]
  exact q0
 refine oI .right rfl rfl (fun e=> ?_) fun n2=> ?_
 ·subst e
  refine aY<|dr<|ah<|tO rfl<|ah<|aN<|ag rfl<|ao<|bP<|az ?_
  show Q (.int (if ((n:Nat):Int)+1< (x.length:Nat) then ((n:Nat):Int)+1 else (x.length:Nat))) H
  rw[show(if ((n:Nat):Int)+1< (x.length:Nat) then ((n:Nat):Int)+1 else ((x.length:Nat):Int))=((min x.cps.toList.length (n+1):Nat):Int) by split<;>lia]
  exact q0
 refine oI .top rfl rfl (fun e=> ?_) fun n3=> ?_
 ·subst e;exact aY (ao q0)
 refine oI .lF rfl rfl (fun e=> ?_) fun n4=> ?_
 ·subst e
  refine aY<|tO rfl ?_
  rw[lx];exact q0
 refine oI .back rfl rfl (fun e=> ?_) fun n5=> ?_
 ·subst e
  refine aY<|aP (j_ CP C lo) rfl<|ah<|ag rfl<|ah<|aP (j_ CP C lo) rfl<|ah<|ag rfl<|ah<|ag rfl<|ah<|gh<|az ⟨p,dp,s,dx,lt,lb,lf,v,t,ts,x,OS,n,rfl,B,hn,hx,fun H1 s1=> ?_⟩
  have:=lo_le (p:=OS.cps.contains) (l:=x.cps.toList) (n:=n)
  exact ah<|gh<|az ⟨p,dp,s,dx,lt,lb,lf,v,t,ts,x,WS,_,rfl,B.same s1,by lia,hx,fun H2 s2=>q _<|s1.trans s2⟩
 refine oI .on rfl rfl (fun e=> ?_) fun n6=> ?_
 ·subst e
  refine aY<|aP (j_ CP C ro) rfl<|ah<|ag rfl<|ah<|aP (j_ CP C ro) rfl<|ah<|ag rfl<|ah<|ag rfl<|ah<|gh<|az ⟨p,dp,s,dx,lt,lb,lf,v,t,ts,x,OS,n,rfl,B,hn,hx,fun H1 s1=> ?_⟩
  have:=ro_le (p:=OS.cps.contains) (l:=x.cps.toList) (n:=n) (by lia)
  exact ah<|gh<|az ⟨p,dp,s,dx,lt,lb,lf,v,t,ts,x,WS,_,rfl,B.same s1,by lia,hx,fun H2 s2=>q _<|s1.trans s2⟩
 refine aY<|aP (xl CP C) rfl<|ah<|ag rfl<|ah<|ag rfl<|ah<|ag rfl<|az ⟨p,dp,s,dx,lt,lb,lf,v,t,ts,x,n,w,rfl,B,hn, ?_,q⟩
 cases w<;>first | exact .inl rfl | exact .inr rfl | contradiction
def BS(CP C:Addr):Sp:=fun vs H Q E=> ∃(p dp s dx lt lb lf:Addr) (v:V) (t:Tr) (ts:List Str) (x:Str) (i g:Nat) (w:Wd),vs=[.ref p, .int i, .int g, .str w.str]/\eL CP C H p dp s dx lt lb lf v t ts x/\i<=x.cps.toList.count 10/\(w= .up\/w= .down)/\Q (.int (hX x.cps.toList i g w:Nat)) H
theorem aav(vs:List V)(H:Hp)(Q:VK)(E:XK)(h:BS CP C vs H Q E):av (aI K [] [] [] [("lines",CP,jo CP),("size",CP,cG CP),("place_at",CP,oG CP C),("line_size",CP,jq CP C)] (E:=E)) nY (Dn Q) (start HL vs) H:=by
 obtain⟨p,dp,s,dx,lt,lb,lf,v,t,ts,x,i,g,w,rfl,B,hi,hw,q⟩:=h
 have lx:=len_list x
 have last: ∀j:Nat,j<=x.cps.toList.count 10->Q (.int (inl x.cps.toList j g:Nat)) H->av (aI K [] [] [] [("lines",CP,jo CP),("size",CP,cG CP),("place_at",CP,oG CP C),("line_size",CP,jq CP C)] (E:=E)) (nY.drop 3) (Dn Q) [some<|.ref p,some<|.int i,some<|.int g,some<|.str w.str,some<|.int (j:Nat)] H:=by
  intro j hj qj
  have ok:=j9 hj
  have zi:=K5 x.cps.toList j
  refine aY<|w_ CP (oG CP C) rfl<|ag rfl ⟨p,dp,_,rfl,B.pa.ob,dD (by decide+kernel) (by decide+kernel),ag rfl<|dr<|ah<|ag rfl<|ah<|hV CP (jq CP C) rfl<|ag rfl ⟨p,dp,_,rfl,B.pa.ob,dD (by decide+kernel) (by decide+kernel),ag rfl ⟨p,dp,s,dx,lt,lb,lf,v,t,ts,j,rfl,B.pa,B.st,by rw[B.tx];exact hj,az ?_⟩⟩⟩
  rw[B.tx]
  have e:(if lB x.cps.toList j< ((g:Nat):Int) then lB x.cps.toList j else ((g:Nat):Int))=((min g (lend x.cps.toList j - bI x.cps.toList j):Nat):Int):=by rw[zi];split<;>lia
  refine⟨p,dp,s,dx,lt,lb,lf,v,t,ts,j,_,rfl,B.pa,B.st,by rw[B.tx];exact hj, ?_, ?_, ?_⟩
  ·rw[e];lia
  ·rw[e,B.tx,zi];lia
  ·rw[e,B.tx]
   exact qj
 have Lg: ∀j:Nat,av (aI K [] [] [] [("lines",CP,jo CP),("size",CP,cG CP),("place_at",CP,oG CP C),("line_size",CP,jq CP C)] (E:=E)) (nY.drop 2) (Dn Q) [some<|.ref p,some<|.int i,some<|.int g,some<|.str w.str,some<|.int (j:Nat)] H->av (aI K [] [] [] [("lines",CP,jo CP),("size",CP,cG CP),("place_at",CP,oG CP C),("line_size",CP,jq CP C)] (E:=E)) (nY.drop 1) (Dn Q) [some<|.ref p,some<|.int i,some<|.int g,some<|.str w.str,some<|.int (j:Nat)] H:=fun j k=>
  bj (bq<|ag rfl<|ao<|N.ltI ⟨_,rfl,iF (bH k)<|zqF (by lia)⟩)
 have rl: ∀{σ:St} {Q1:VK},σ[0]?=some (some<|.ref p)->Q1 (.int (x.cps.toList.count 10+1:Nat)) H->aj (aI K [] [] [] [("lines",CP,jo CP),("size",CP,cG CP),("place_at",CP,oG CP C),("line_size",CP,jq CP C)] (E:=E)) (.bF 0 "lines" (.v 0) []) σ H Q1:=by
  intro σ Q1 e q1
  refine gi CP (jo CP) rfl<|ag e ⟨p,dp,_,rfl,B.pa.ob,dD (by decide+kernel) (by decide+kernel),p,dp,s,v,t,_,rfl,B.pa, ?_⟩
  rw[B.tx];exact q1
 refine aO<|mL<|bq<|ag rfl<|ao<|cw .up rfl ⟨_,rfl, ?_⟩
 rcases hw with rfl | rfl
 ·refine iT (aN<|ag rfl<|ao<|ee ?_) rfl
  have qu:Q (.int ((if i=0 then 0 else inl x.cps.toList (i - 1) g:Nat):Int)) H:=q
  by_cases z:i=0
  ·rw[if_pos z] at qu
   refine bj<|bq<|ag rfl<|ao<|N.ltI ⟨_,rfl,iT ?_<|zqT (by lia)⟩
   exact aY<|ao qu
  ·rw[if_neg z] at qu
   show av _ (nY.drop 1) _ [some<|.ref p,some<|.int i,some<|.int g,some<|.str Wd.up.str,some<|.int<|((i:Nat):Int) - 1] H
   rw[show((i:Nat):Int) - 1=((i - 1:Nat):Int) by lia]
   refine Lg _<|bj<|bq<|ag rfl<|rl rfl<|fg ⟨_,rfl,iF (bH<|last _ (by lia) qu)<|zqF (by lia)⟩
 ·refine iF (aN<|ag rfl<|ao<|bP ?_) rfl
  have qu:Q (.int ((if i=x.cps.toList.count 10 then x.cps.toList.length else inl x.cps.toList (i+1) g:Nat):Int)) H:=q
  show av _ (nY.drop 1) _ [some<|.ref p,some<|.int i,some<|.int g,some<|.str Wd.down.str,some<|.int<|((i:Nat):Int)+1] H
  rw[show((i:Nat):Int)+1=((i+1:Nat):Int) by lia]
  refine Lg _<|bj<|bq<|ag rfl<|rl rfl<|fg ⟨_,rfl, ?_⟩
  by_cases z:i=x.cps.toList.count 10
  ·rw[if_pos z] at qu
   refine iT ?_<|zqT (by lia)
   refine aY<|gi CP (cG CP) rfl<|ag rfl ⟨p,dp,_,rfl,B.pa.ob,dD (by decide+kernel) (by decide+kernel),p,dp,s,v,t,_,rfl,B.pa, ?_⟩
   rw[B.tx];exact qu
  ·rw[if_neg z] at qu
   exact iF (bH<|last _ (by lia) qu)<|zqF (by lia)
def tQ:Sp:=fun vs H Q E=> ∃(t:Addr) (a h:Nat) (g:Option Nat) (n:Nat) (g':Option Nat) (b:Bool),vs=[.ref t, .int n,gV g', .bl b]/\eM H t a h g/\ ∀t' H',aC H H'->eM H' t' (if b=true then a else n) n g'->Q (.ref t') H'
theorem aaw(vs:List V)(H:Hp)(Q:VK)(E:XK)(h:tQ vs H Q E):av (aI K [] [] (E:=E)) HN (Dn Q) (start HM vs) H:=by
 obtain⟨t,a,h,g,n,g',b,rfl,ha,q⟩:=h
 refine aY<|dS<|ah<|mL<|tP rfl ?_
 cases b with
 | true=>
  refine iT (aU<|ag rfl<|ao<|aJ ha rfl<|ah<|ag rfl<|ah<|ag rfl<|az ⟨(by show 3<=sizeLine;decide),fun t' f'=> ?_⟩) rfl
  exact q t' _ (sameNew f') aD
 | false=>
  refine iF (ag rfl<|ah<|ag rfl<|ah<|ag rfl<|az ⟨(by show 3<=sizeLine;decide),fun t' f'=> ?_⟩) rfl
  exact q t' _ (sameNew f') aD
theorem Lh(w:Wd):iV (.str w.str) [.str "up", .str "down"]=decide (w= .up\/w= .down):=by cases w<;>decide+kernel
theorem Li(w:Wd):iV (.str w.str) [.str "left", .str "right"]=decide (w= .left\/w= .right):=by cases w<;>decide+kernel
def tR(CP C:Addr):Sp:=fun vs H Q E=> ∃(p dp s dx lt lb lf:Addr) (v:V) (t:Tr) (ts:List Str) (x:Str) (cu:Addr) (a h:Nat) (g:Option Nat) (w:Wd) (b:Bool),vs=[.ref p, .ref cu, .str w.str, .bl b]/\eL CP C H p dp s dx lt lb lf v t ts x/\eM H cu a h g/\a<=x.length/\h<=x.length/\x.length<=100000/\
 ∀t' H',aC H H'->eM H' t' (if b=true then a else led x.cps.toList a h g w b) (led x.cps.toList a h g w b) (iJ x.cps.toList h g w)->Q (.ref t') H'
abbrev xn(CP C:Addr):List (Str×Sp):=[("with_head",tQ),("place_in_next_line",BS CP C),("is_empty",tK),("begin_of",iI),("end_of",lH),("place_by_word",BR CP C)]
theorem aax(vs:List V)(H:Hp)(Q:VK)(E:XK)(h:tR CP C vs H Q E):av (aI K (xn CP C) [] [] [("line_at",CP,mP CP C)] (E:=E)) wq (Dn Q) (start HP vs) H:=by
 obtain⟨p,dp,s,dx,lt,lb,lf,v,t,ts,x,cu,a,h,g,w,b,rfl,B,ha,h1,h2,hx,q⟩:=h
 have lx:=len_list x
 refine bj<|bq<|ag rfl<|dS<|ah<|ao<|ah<|ao<|az ⟨(by show 2<=sizeLine;decide),fun t1 f1=> ?_⟩
 have s1:=sameNew (o:= .tup [V.str "up",V.str "down"]) f1
 refine⟨t1,_,rfl, .inr<|ba.of aD,rfl,rfl,_,rfl, ?_⟩
 have B1:=B.same s1
 have js:=s1 _ _ ha
 generalize upd H t1 (.tup [V.str "up",V.str "down"])=H1 at s1 B1 js⊢
 by_cases ud:w= .up\/w= .down
 ·have el:led x.cps.toList a h g w b=hX x.cps.toList (bx x.cps.toList h) (g.getD<|col x.cps.toList h) w:=by unfold led;rw[if_pos ud]
  have eg:iJ x.cps.toList h g w=some (g.getD<|col x.cps.toList h):=by unfold iJ;rw[if_pos ud]
  rw[el,eg] at q
  refine iT ?_<|(Lh w).trans<|zqT ud
  refine aO<|hV CP (mP CP C) rfl<|ag rfl ⟨p,dp,_,rfl,B1.pa.ob,dD (by decide+kernel) (by decide+kernel),aU<|ag rfl<|ao<|aJ js rfl ⟨p,dp,s,dx,lt,lb,lf,v,t,ts,h,rfl,B1.pa,B1.st,by rw[B.tx];lia,fun u H2 s2 fu hu=> ?_⟩⟩
  rw[B.tx] at hu
  have bd:=BQ (l:=x.cps.toList) (n:=h) (by lia)
  have gL:=s2 _ _ js
  have go:av (aI K (xn CP C) [] [] [("line_at",CP,mP CP C)] (E:=E)) [.ret<|.call 0 [(.v 1),(.call 1 [(.v 0),(.ix (.v 4)<|.c<|.int 0),(.v 5),(.v 2)]),(.v 5),(.v 3)]] {(Dn Q) with nx:=av (aI K (xn CP C) [] [] [("line_at",CP,mP CP C)] (E:=E)) (wq.drop 1) (Dn Q)} [some<|.ref p,some<|.ref cu,some<|.str w.str,some<|.bl b,some<|.ref u,some<|.int (g.getD (col x.cps.toList h):Nat)] H2:=by
   refine aY<|aP tQ rfl<|ah<|ag rfl<|ah<|aP (BS CP C) rfl<|ah<|ag rfl<|ah<|aU<|ag rfl<|ao<|aJ hu rfl<|ah<|ag rfl<|ah<|ag rfl<|az ⟨p,dp,s,dx,lt,lb,lf,v,t,ts,x,_,_,w,rfl,B1.same s2,mO _ _,ud, ?_⟩
   exact ah<|ag rfl<|ah<|ag rfl<|az ⟨cu,a,h,g,_,some<|g.getD<|col x.cps.toList h,b,rfl,gL,fun t' H' s' hc=>q t' H' ((s1.trans s2).trans s') hc⟩
  refine aO<|mL<|bq<|aU<|ag rfl<|ao<|aJ gL rfl<|ao ⟨rfl,_,rfl, ?_⟩
  rw[xj]
  cases g with
  | none=>
   refine iT (aU<|ag rfl<|ao<|aJ hu rfl ?_) rfl
   have e:((h:Nat):Int) - (bI x.cps.toList (bx x.cps.toList h):Nat)=(col x.cps.toList h:Nat):=by unfold col;lia
   show av _ _ _ [some<|.ref p,some<|.ref cu,some<|.str w.str,some<|.bl b,some<|.ref u,some<|.int<|((h:Nat):Int) - (bI x.cps.toList (bx x.cps.toList h):Nat)] H2
   rw[e];exact go
  | some n=>exact iF (aU<|ag rfl<|ao<|aJ gL rfl go) rfl
 ·have eg:iJ x.cps.toList h g w=none:=by unfold iJ;rw[if_neg ud]
  rw[eg] at q
  refine iF (bH ?_)<|(Lh w).trans<|zqF ud
  have nu:w≠ .up:=fun e=>ud (.inl e)
  have nd:w≠ .down:=fun e=>ud (.inr e)
  refine bj<|Kv<|bq<|ag rfl<|dS<|ah<|ao<|ah<|ao<|az ⟨(by show 2<=sizeLine;decide),fun t2 f2=> ?_⟩
  have s2:=sameNew (o:= .tup [V.str "left",V.str "right"]) f2
  refine⟨t2,_,rfl, .inr<|ba.of aD,rfl,rfl,_,rfl, ?_⟩
  have B2:=B1.same s2
  have gL:=s2 _ _ js
  generalize upd H1 t2 (.tup [V.str "left",V.str "right"])=H2 at s2 B2 gL⊢
  have dv:=s1.trans s2
  have plain: ¬((w= .left\/w= .right)/\b=false/\a≠h)->av (aI K (xn CP C) [] [] [("line_at",CP,mP CP C)] (E:=E)) (wq.drop 2) (Dn Q) [some<|.ref p,some<|.ref cu,some<|.str w.str,some<|.bl b,none,none] H2:=by
   intro no
   have el:led x.cps.toList a h g w b=jr x.cps.toList h w:=by unfold led;rw[if_neg ud,if_neg no]
   rw[el] at q
   refine aY<|aP tQ rfl<|ah<|ag rfl<|ah<|aP (BR CP C) rfl<|ah<|ag rfl<|ah<|aU<|ag rfl<|ao<|aJ gL rfl<|ah<|ag rfl<|az ⟨p,dp,s,dx,lt,lb,lf,v,t,ts,x,h,w,rfl,B2,h2,hx,nu,nd,fun H3 s3=> ?_⟩
   exact ah<|ao<|ah<|ag rfl<|az ⟨cu,a,h,g,_,none,b,rfl,s3 _ _ gL,fun t' H' s' hc=>q t' H' ((dv.trans s3).trans s') hc⟩
  by_cases lr:w= .left\/w= .right
  ·refine iT ?_ ((Li w).trans<|zqT lr)
   refine Kv<|bO<|tP rfl ?_
   cases b with
   | true=>exact iF (iF (bH<|plain fun z=>by cases z.2.1) rfl) rfl
   | false=>
    refine iT ?_ rfl
    refine YX<|bO<|dU tK rfl<|ah<|ag rfl<|az ⟨cu,a,h,g,rfl,gL,cq ?_⟩
    by_cases e:a=h
    ·rw[zqT e]
     exact iF (bH<|plain fun z=>z.2.2 e) rfl
    ·rw[zqF e]
     refine iT ?_ rfl
     have el:led x.cps.toList a h g w false=if w= .left then min a h else max a h:=by unfold led;rw[if_neg ud,if_pos ⟨lr,rfl,e⟩]
     rw[el] at q
     refine aY<|aP tQ rfl<|ah<|ag rfl<|ah<|mL<|bq<|ag rfl<|ao<|cw .left rfl ⟨_,rfl, ?_⟩
     rcases lr with rfl | rfl
     ·refine iT (aP iI rfl<|ah<|ag rfl<|az ⟨cu,a,h,g,rfl,gL, ?_⟩) rfl
      exact ah<|ao<|ah<|ag rfl<|az ⟨cu,a,h,g,_,none,false,rfl,gL,fun t' H' s' hc=>q t' H' (dv.trans s') hc⟩
     ·refine iF (aP lH rfl<|ah<|ag rfl<|az ⟨cu,a,h,g,rfl,gL, ?_⟩) rfl
      exact ah<|ao<|ah<|ag rfl<|az ⟨cu,a,h,g,_,none,false,rfl,gL,fun t' H' s' hc=>q t' H' (dv.trans s') hc⟩
  ·exact iF (iF (bH<|plain fun z=>lr z.1) rfl) ((Li w).trans<|zqF lr)
end
theorem BU{K:Frag}{i j k:Nat}{t:Addr}{u v w:V}{σ:St}{H:Hp}{Q:St->Hp->Prop}(ht:H t=some (.tup [u,v,w]))(q:Q (((σ.set i<|some u).set j<|some v).set k<|some w) H):jP K [i,j,k].length (i8 [i,j,k]) (.ref t) σ H Q:=
 ⟨t,_,rfl, .inl<|ba.of ht,rfl,_,_,rfl,_,_,rfl,_,_,rfl,rfl,q⟩
theorem qw{Γ:aX}{σ:St}{Q:VK}{H:Hp}{a hi:RE}(h:aj Γ a σ H fun x H1=>aj Γ hi σ H1 fun j H3=> ∃j':Int,j= .int j'/\rM Γ.K x none (some j') H3 Q):aj Γ (.sl a none<|some hi) σ H Q:=h
theorem Lj{Γ:aX}{σ:St}{Q:VK}{H:Hp}{o a:RE}(h:aj Γ o σ H fun x H1=>nk Γ.K "str" x H1/\aj Γ a σ H1 fun y H2=>wj x [y] H2 Q):aj Γ (.xm wk o [a]) σ H Q:=h
theorem aay{x:Str}{n:Nat}:iq x none (some (n:Int))=⟨(x.cps.toList.take n).toArray⟩:=by
 unfold iq iZ
 rw[HT.vg,HT.lW]
 show(⟨((x.cps.toList.drop 0).take<|min n x.cps.toList.length - 0).toArray⟩:Str)=_
 rw[zaM,zbn]
 by_cases h:n<=x.cps.toList.length
 ·rw[zaQ h]
 ·rw[zbI (by lia),zao<|zqR _,zao (by lia)]
theorem Lk(xs:List V)(n:Nat):dJ xs none (some (n:Int))=xs.take n:=by
 unfold dJ
 rw[HT.vg,HT.lW]
 show(xs.drop 0).take (min n xs.length - 0)=_
 rw[zaM,zbn]
 by_cases h:n<=xs.length
 ·rw[zaQ h]
 ·rw[zbI (by lia),zao<|zqR _,zao (by lia)]
theorem aaz(l:List Nat)(n:Nat):bI (l.take n) (bx l n)=bI l (bx l n):=by
 unfold bI
 by_cases z:bx l n=0
 ·rw[if_pos z,if_pos z]
 ·rw[if_neg z,if_neg z]
  have e:pos 10 l 0=pos 10 (l.take n) 0++pos 10 (l.drop n) (0+ (l.take n).length):=by rw[<-k_,zaD]
  have hl:(pos 10 (l.take n) 0).length=bx l n:=fc 10 _ _
  rw[e,zaJ (by lia)]
theorem Ll{x:Str}: ∀i,i<=x.cps.toList.count 10->(((Txt.split x<|Str.ofString "\n").take i).map fun z=> ((z.length:Int)+1)).sum=(bI x.cps.toList i:Nat)
 | 0,_=>by unfold bI;simp
 | i+1,h=>by
  obtain⟨z,hz,lz⟩:=xg (x:=x) (i:=i) (by lia)
  have ok:=j9 (l:=x.cps.toList) (i:=i) (by lia)
  have aW:i< (Txt.split x<|Str.ofString "\n").length:=(zah.mp hz).1
  rw[zba aW,(zah.mp hz).2,zap,List.sum_append,Ll i (by lia),K6 (by lia)]
  show((bI x.cps.toList i:Nat):Int)+ (((z.length:Int)+1)+0)=_
  rw[lz];lia
section
variable {K:Frag}
def qx:Sp:=fun vs H Q E=> ∃(x:Str) (n:Nat),vs=[.str x, .int n]/\x.length<=100000/\n<=x.length/\ ∀u H',aC H H'->H' u=some (.tup [.int (bx x.cps.toList n:Nat), .int (col x.cps.toList n:Nat)])->Q (.ref u) H'
theorem aaA(vs:List V)(H:Hp)(Q:VK)(E:XK)(h:qx vs H Q E):av (aI K [] [] (E:=E)) HU (Dn Q) (start HS vs) H:=by
 obtain⟨x,n,rfl,hx,hn,q⟩:=h
 have lx:=len_list x
 refine aO<|Lj<|qw<|ag rfl<|ag rfl ⟨_,rfl,cp (by lia), ?_⟩
 rw[aay]
 obtain⟨x',ex⟩: ∃x':Str,x'=⟨(x.cps.toList.take n).toArray⟩:=⟨_,rfl⟩
 have lt:x'.cps.toList=x.cps.toList.take n:=by rw[ex]
 have lx':x'.length=n:=by rw[len_list,lt,zaf];lia
 have ec:x'.cps.toList.count 10=bx x.cps.toList n:=by rw[lt];rfl
 rw[<-ex]
 refine⟨rfl,ao ⟨x',_,rfl,rfl,by decide+kernel,by lia,fun l1 f1=> ?_⟩⟩
 have s1:=sameNew (o:= .lst ((Txt.split x'<|Str.ofString "\n").map V.str)) f1
 have hl:upd H l1 (.lst<|(Txt.split x'<|Str.ofString "\n").map V.str) l1=some (.lst<|(Txt.split x'<|Str.ofString "\n").map V.str):=aD
 generalize upd H l1 (.lst<|(Txt.split x'<|Str.ofString "\n").map V.str)=H1 at s1 hl⊢
 have ll:((Txt.split x'<|Str.ofString "\n").map V.str).length=bx x.cps.toList n+1:=by rw[zag,split_len,ec]
 obtain⟨z,hz,lz⟩:=xg (x:=x') (i:=x'.cps.toList.count 10) (zqR _)
 rw[K7,ec] at lz
 rw[ec] at hz
 have BV:z.length=col x.cps.toList n:=by
  rw[lz,<-len_list,lx',lt,aaz];rfl
 have ef:dO ((Txt.split x'<|Str.ofString "\n").map V.str) (-1)=some (.str z):=by
  unfold dO
  rw[ll,xf]
  show((Txt.split x'<|Str.ofString "\n").map V.str)[bx x.cps.toList n]?=_
  rw[zak,hz];rfl
 refine aY<|dS<|ah<|aN<|dW<|ag rfl<|.inl ⟨_,aB.of hl,ao<|ee ?_⟩
 rw[ll]
 refine ah<|dW<|aU<|ag rfl<|j8<|cI hl ef ⟨cp (by rw[BV];unfold col;lia),az ⟨(by show 2<=sizeLine;decide),fun u fu=> ?_⟩⟩
 rw[BV,show((bx x.cps.toList n+1:Nat):Int) - 1=(bx x.cps.toList n:Nat) by lia]
 exact q u _ (s1.trans<|sameNew fu) aD
def xo:Sp:=fun vs H Q E=> ∃(x:Str) (i g:Nat),vs=[.str x, .int i, .int g]/\x.length<=100000/\i<=x.cps.toList.count 10/\ ∀H',aC H H'->Q (.int (inl x.cps.toList i g:Nat)) H'
theorem aaC(vs:List V)(H:Hp)(Q:VK)(E:XK)(h:xo vs H Q E):av (aI K [] [] (E:=E)) HW (Dn Q) (start HV vs) H:=by
 obtain⟨x,i,g,rfl,hx,hi,q⟩:=h
 have lx:=len_list x
 have cx:x.cps.toList.count 10<=x.length:=by rw[lx];exact zbG
 refine aO<|Lj<|ag rfl ⟨rfl,ao ⟨x,_,rfl,rfl,by decide+kernel,by lia,fun l1 f1=> ?_⟩⟩
 have s1:=sameNew (o:= .lst ((Txt.split x<|Str.ofString "\n").map V.str)) f1
 have hl:upd H l1 (.lst<|(Txt.split x<|Str.ofString "\n").map V.str) l1=some (.lst<|(Txt.split x<|Str.ofString "\n").map V.str):=aD
 generalize upd H l1 (.lst<|(Txt.split x<|Str.ofString "\n").map V.str)=H1 at s1 hl⊢
 have sl:(Txt.split x<|Str.ofString "\n").length=x.cps.toList.count 10+1:=split_len x
 refine aY<|aN<|dr<|ah<|mJ<|qw<|ag rfl<|ag rfl ⟨_,rfl, .inl ⟨_,aB.of hl,fun l2 f2=> ⟨l2,rfl,⟨_,aB.of aD⟩, ?_⟩⟩⟩
 rw[Lk,<-List.map_take]
 have s2:=sameNew (o:= .lst (((Txt.split x<|Str.ofString "\n").take i).map V.str)) f2
 have h2:upd H1 l2 (.lst<|((Txt.split x<|Str.ofString "\n").take i).map V.str) l2=some (.lst<|((Txt.split x<|Str.ofString "\n").take i).map V.str):=aD
 generalize upd H1 l2 (.lst<|((Txt.split x<|Str.ofString "\n").take i).map V.str)=H2 at s2 h2⊢
 have lt:(((Txt.split x<|Str.ofString "\n").take i).map V.str).length=i:=by rw[zag,zaf];lia
 refine mI h2 (by lia) (fun k ys _=>ys=((((Txt.split x<|Str.ofString "\n").take k).map fun z=> ((z.length:Int)+1)).map V.int)) rfl ?_ ?_
 ·intro k y ys H3 hk s3 e Q' kk
  have hki:k<i:=by have:=(zah.mp hk).1;lia
  rw[zak,List.getElem?_take_of_lt hki] at hk
  have aW:k< (Txt.split x<|Str.ofString "\n").length:=by lia
  have hz:(Txt.split x<|Str.ofString "\n")[k]?=some (Txt.split x<|Str.ofString "\n")[k]:=zav aW
  rw[hz] at hk
  cases hk
  obtain⟨z',jO,BV⟩:=xg (x:=x) (i:=k) (by lia)
  rw[hz] at jO
  have ez:(Txt.split x<|Str.ofString "\n")[k]=z':=zal jO
  have ok:=j9 (l:=x.cps.toList) (i:=k) (by lia)
  refine aN<|dW<|ag rfl ⟨cp (by rw[ez];lia),ao<|bP<|kk _ _ (aC.refl _) ?_⟩
  rw[e,zba aW,zap,zap];rfl
 ·intro ys H3 l4 s3 e f4
  subst e
  rw[lt]
  have s4:=sameNew (o:= .lst ((((Txt.split x<|Str.ofString "\n").take i).map fun z=> ((z.length:Int)+1)).map V.int)) f4
  refine az ⟨_,aB.of aD, ?_⟩
  have gp:=(s2.trans s3).trans s4
  have mR:=gp _ _ hl
  generalize upd H3 l4 (.lst<|(((Txt.split x<|Str.ofString "\n").take i).map fun z=> ((z.length:Int)+1)).map V.int)=H4 at gp mR⊢
  rw[Ll i hi]
  obtain⟨z,hz,lz⟩:=xg hi
  have ok:=j9 hi
  have ef:dO ((Txt.split x<|Str.ofString "\n").map V.str) ((i:Nat):Int)=some (.str z):=ij (by rw[zak,hz];rfl)
  refine dr<|ah<|ag rfl<|ah<|dW<|aU<|ag rfl<|ag rfl<|cI mR ef ⟨cp (by lia),az ?_⟩
  show lZ K .Add (.int (bI x.cps.toList i:Nat)) (.int (if ((z.length:Nat):Int) < ((g:Nat):Int) then ((z.length:Nat):Int) else ((g:Nat):Int))) H4 Q
  rw[show(if ((z.length:Nat):Int) < ((g:Nat):Int) then ((z.length:Nat):Int) else ((g:Nat):Int))=((min g (lend x.cps.toList i - bI x.cps.toList i):Nat):Int) by rw[lz];split<;>lia]
  exact bP<|q _<|s1.trans gp
def SM:Str:="abcdefghijklmnopqrstuvwxyzABCDEFGHIJKLMNOPQRSTUVWXYZ0123456789"
theorem aaE(j:Str)(c:Nat):(!(Builtin.Str.occurrences j ⟨#[c]⟩ 0 j.length 1).isEmpty)=j.cps.contains c:=by
 rw[wI j c 0 1<|zqZ _,zaM]
 have hl:=fc c j.cps.toList 0
 have e:j.cps.contains c=decide (0<j.cps.toList.count c):=by
  rw[zaB]
  simp only[decide_eq_true_eq,List.count_pos_iff]
  simp
 rw[e]
 cases hp:pos c j.cps.toList 0 with
 | nil=>rw[hp] at hl;rw[<-hl];rfl
 | cons a r=>rw[hp] at hl;rw[<-hl];simp
theorem Lm: ∀c,SG.cps.contains c=true->OS.cps.contains c=(!SM.cps.contains c)/\WS.cps.contains c=SM.cps.contains c:=by
 have all:(SG.cps.toList.all fun c=> (OS.cps.contains c== !SM.cps.contains c) && (WS.cps.contains c==SM.cps.contains c))=true:=by decide+kernel
 intro c hc
 have:=zaK.mp all c (by simpa using hc)
 simpa using this
theorem Ln{p q:Nat->Bool}{l:List Nat}{n:Nat}(h: ∀c∈l,p c=q c):ro p l n=ro q l n:=by
 unfold ro;rw[BN fun c hc=>h c (zbE hc)]
theorem Lo{p q:Nat->Bool}{l:List Nat}{n:Nat}(h: ∀c∈l,p c=q c):lo p l n=lo q l n:=by
 unfold lo;rw[BN fun c hc=>h c (zbF<|List.mem_reverse.mp hc)]
theorem aaF{p:Nat->Bool}{l:List Nat}{m:Nat}(h:m<l.length):ro p l m=if p l[m]=true then ro p l (m+1) else m:=by
 unfold ro
 rw[zbO h]
 unfold cO
 rw[zaN]
 split
 ·simp;lia
 ·simp
theorem aaG{p:Nat->Bool}{l:List Nat}{m:Nat}(h:m<l.length):lo p l (m+1)=if p l[m]=true then lo p l m else m+1:=by
 unfold lo
 rw[zba h,zbU]
 show m+1 - cO p (l[m]::(l.take m).reverse)=_
 have:=mQ p (l.take m).reverse
 rw[zbg,zaf] at this
 unfold cO at this⊢
 rw[zaN]
 split
 ·simp only[zar];lia
 ·simp
theorem xp{Γ:aX}{σ:St}{H:Hp}{a b:RE}{QT:Bool->Hp->Prop}(h:aj Γ a σ H fun x H1=>aj Γ b σ H1 fun y H2=>l_ Γ.K Γ.sd x y H2 fun z H3=>gY Γ.K z H3 fun b=>QT b H3):bf Γ (.ix a b) σ H QT:=h
section
variable {Γ:aX} {D:Ends} {H:Hp} {r:List RS} {x:Str} {u2 u3 u4:Option V}
theorem Lp{p:Nat->Bool}{tU:RE}(hx:x.length<=100000)(ht: ∀(m:Nat) (hm:m<x.cps.toList.length) (QT:Bool->Hp->Prop),QT (p<|x.cps.toList[m]) H->bf Γ tU [some<|.str x,some<|.int m,u2,u3,u4] H QT)(n:Nat)(hn:n<=x.length)(k:av Γ r D [some<|.str x,some<|.int (ro p x.cps.toList n:Nat),u2,u3,u4] H):
  av Γ (.fD (.and [(.cmp .Lt (.v 1)<|.blt .len [(.v 0)]),tU]) [.asg 1<|.bin .Add (.v 1)<|.c<|.int 1]::r) D [some<|.str x,some<|.int n,u2,u3,u4] H:=by
 have lx:=len_list x
 refine oq (fun j σ H2=> ∃m:Nat,σ=[some<|.str x,some<|.int m,u2,u3,u4]/\H2=H/\m<=x.length/\j=x.length - m/\ro p x.cps.toList m=ro p x.cps.toList n) ⟨_,n,rfl,rfl,hn,rfl,rfl⟩ ?_
 rintro j σ H2 ⟨m,rfl,rfl,hm,rfl,he⟩
 refine sW<|bq<|ag rfl<|dW<|ag rfl ⟨cp (by lia),N.ltI ⟨_,rfl, ?_⟩⟩
 by_cases g:((m:Nat):Int) < (x.length:Nat)
 ·have eP:m<x.cps.toList.length:=by lia
  have st:=aaF (p:=p) eP
  refine iT (ht m eP _ ?_)<|zqT g
  by_cases g2:p (x.cps.toList[m])=true
  ·rw[if_pos g2] at st
   refine iT ⟨fun σ' H'=>σ'=[some<|.str x,some<|.int (m+1:Nat),u2,u3,u4]/\H'=H2, ?_, ?_⟩ g2
   ·rintro σ' H' ⟨rfl,rfl⟩
    exact⟨x.length - (m+1),by lia,m+1,rfl,rfl,by lia,rfl,by rw[<-st];exact he⟩
   ·exact aO (aN<|ag rfl<|ao<|bP ⟨rfl,rfl⟩)
  ·rw[if_neg g2] at st
   refine iF ?_ (by simpa using g2)
   rw[<-he,st] at k;exact k
 ·refine iF (iF ?_ rfl) (zqF g)
  have:ro p x.cps.toList m=m:=by have:=ro_le (p:=p) (l:=x.cps.toList) (n:=m) (by lia);lia
  rw[<-he,this] at k;exact k
theorem Lq{p:Nat->Bool}{tU:RE}(hx:x.length<=100000)(ht: ∀(m:Nat) (hm:m<x.cps.toList.length) (QT:Bool->Hp->Prop),QT (p<|x.cps.toList[m]) H->bf Γ tU [some<|.str x,some<|.int (m+1:Nat),u2,u3,u4] H QT)(n:Nat)(hn:n<=x.length)(k:av Γ r D [some<|.str x,some<|.int (lo p x.cps.toList n:Nat),u2,u3,u4] H):
  av Γ (.fD (.and [(.cmp .Gt (.v 1)<|.c<|.int 0),tU]) [.asg 1<|.bin .Sub (.v 1)<|.c<|.int 1]::r) D [some<|.str x,some<|.int n,u2,u3,u4] H:=by
 have lx:=len_list x
 refine oq (fun j σ H2=> ∃m:Nat,σ=[some<|.str x,some<|.int m,u2,u3,u4]/\H2=H/\m<=x.length/\m=j/\lo p x.cps.toList m=lo p x.cps.toList n) ⟨_,n,rfl,rfl,hn,rfl,rfl⟩ ?_
 rintro j σ H2 ⟨m,rfl,rfl,hm,rfl,he⟩
 refine sW<|bq<|ag rfl<|ao<|N.tH ⟨_,rfl, ?_⟩
 by_cases g:(0:Int) < (m:Nat)
 ·obtain⟨j,rfl⟩: ∃j,m=j+1:=⟨m - 1,by lia⟩
  have eP:j<x.cps.toList.length:=by lia
  have st:=aaG (p:=p) eP
  refine iT (ht j eP _ ?_)<|zqT g
  by_cases g2:p (x.cps.toList[j])=true
  ·rw[if_pos g2] at st
   refine iT ⟨fun σ' H'=>σ'=[some<|.str x,some<|.int (j:Nat),u2,u3,u4]/\H'=H2, ?_, ?_⟩ g2
   ·rintro σ' H' ⟨rfl,rfl⟩
    exact⟨j,by lia,j,rfl,rfl,by lia,rfl,by rw[<-st];exact he⟩
   ·refine aO (aN<|ag rfl<|ao<|ee ⟨?_,rfl⟩)
    show[some<|V.str x,some<|V.int<|((j+1:Nat):Int) - 1,u2,u3,u4]=_
    rw[show((j+1:Nat):Int) - 1=(j:Nat) by lia]
  ·rw[if_neg g2] at st
   refine iF ?_ (by simpa using g2)
   rw[<-he,st] at k;exact k
 ·refine iF (iF ?_ rfl) (zqF g)
  have e0:m=0:=by lia
  subst e0
  have:lo p x.cps.toList 0=0:=by unfold lo;lia
  rw[<-he,this] at k;exact k
theorem aaH{σ:St}{QQ:List V->Hp->Addr->Prop}{te:TE}{fv:List (Str×Nat)}(hl:x.length<=1000000)(f:Nat->V)
  (step: ∀c,∀Q':VK,Q' (f c) H->te (some (.str ⟨#[c]⟩)::cf σ fv) H Q')
  (fin: ∀p,H p=none->QQ (x.cps.toList.map f) H p): ∃W:Nat->Nat->List V->Hp->Prop,(∃m,W 0 m [] H)/\ ∀i m ys H2,W i m ys H2->
   ((rO x).stop i H2/\ ∀p,H2 p=none->QQ ys H2 p)\/
   ((rO x).go i H2/\ ∀y H3,(rO x).fU i H2 y H3->iY K none y H3 fun zs=>lY none (zs.map some++cf σ fv) H3 fun b H5=>
    if b=true then te (zs.map some++cf σ fv) H5 fun y H6=>ys.length<sizeLine/\ ∃m',m'<m/\W (i+1) m' (ys++ [y]) H6 else ∃m',m'<m/\W (i+1) m' ys H5):=by
 have lx:=len_list x
 refine⟨fun i m ys H2=>m=x.length - i/\i<=x.length/\ys=(x.cps.toList.take i).map f/\H2=H,⟨_,rfl,zqZ _,rfl,rfl⟩, ?_⟩
 rintro i m ys H2 ⟨rfl,hi,rfl,rfl⟩
 by_cases aW:i<x.length
 ·refine .inr ⟨aW, ?_⟩
  rintro y H3 ⟨rfl,c,hc,rfl⟩
  have bU:x.cps.toList[i]?=some c:=by simpa using hc
  have sY:i<x.cps.toList.length:=by lia
  refine step c _ ⟨gg (by rw[zag,zaf];lia),x.length - (i+1),by lia,rfl,aW, ?_,rfl⟩
  rw[zba sY,(zah.mp bU).2,zap];rfl
 ·have jn:i=x.length:=by lia
  subst jn
  refine .inl ⟨rfl,fun p hp=> ?_⟩
  rw[lx,zao<|zqR _]
  exact fin p hp
end
theorem Lr{Γ:aX}{D:Ends}{σ:St}{H:Hp}{r:List RS}{i:Nat}{e:RE}(h:aj Γ e σ H fun v H1=>av Γ r D (σ.set i<|some v) H1):av Γ (.pk i e::r) D σ H:=h
def BW:Sp:=fun vs H Q E=> ∃(x:Str) (n:Nat) (w:Wd),vs=[.str x, .int n, .str w.str]/\good x/\x.length<=100000/\n<=x.length/\(w= .back\/w= .on)/\ ∀H',aC H H'->Q (.int (jr x.cps.toList n w:Nat)) H'
theorem aaI(vs:List V)(H:Hp)(Q:VK)(E:XK)(h:BW vs H Q E):av (aI K [] [] (E:=E)) HX (Dn Q) (start AN vs) H:=by
 obtain⟨x,n,w,rfl,gx,hx,hn,hw,q⟩:=h
 have lx:=len_list x
 refine aO<|ao<|Lr ?_
 refine⟨_,rfl,x,rfl, ?_⟩
 refine aaH gx.1 (fun c=>V.bl<|SM.cps.contains c) ?_ ?_
 ·intro c Q' q'
  refine cZ<|ag rfl<|ag rfl ⟨_,rfl, ?_⟩
  show Q' (.bl<|!(Builtin.Str.occurrences SM ⟨#[c]⟩ 0 SM.length 1).isEmpty) H
  rw[aaE];exact q'
 intro a fa
 have s1:=sameNew (o:= .lst (x.cps.toList.map fun c=>V.bl (SM.cps.contains c))) fa
 have ha:upd H a (.lst<|x.cps.toList.map fun c=>V.bl (SM.cps.contains c)) a=some (.lst<|x.cps.toList.map fun c=>V.bl (SM.cps.contains c)):=aD
 generalize upd H a (.lst<|x.cps.toList.map fun c=>V.bl (SM.cps.contains c))=H1 at s1 ha⊢
 have ef: ∀(m:Nat) (hm:m<x.cps.toList.length),dO (x.cps.toList.map fun c=>V.bl (SM.cps.contains c)) ((m:Nat):Int)=some (.bl<|SM.cps.contains x.cps.toList[m]):=fun m hm=>ij (by rw[zak,zav hm];rfl)
 have pO: ∀c∈x.cps.toList,(fun c=> !SM.cps.contains c) c=OS.cps.contains c:=fun c hc=> ((Lm c<|gx.2 c hc).1).symm
 have pW: ∀c∈x.cps.toList,SM.cps.contains c=WS.cps.contains c:=fun c hc=> ((Lm c<|gx.2 c hc).2).symm
 refine oI .on rfl rfl (fun e=> ?_) fun ne=> ?_
 ·subst e
  have b1:=ro_le (p:=fun c=> !SM.cps.contains c) (l:=x.cps.toList) (n:=n) (by lia)
  refine Lp (p:=fun c=> !SM.cps.contains c) hx (fun m hm QT qt=>bO<|xp<|ag rfl<|ag rfl<|cI ha (ef m hm)<|cq qt) n hn ?_
  refine Lp (p:=SM.cps.contains) hx (fun m hm QT qt=>xp<|ag rfl<|ag rfl<|cI ha (ef m hm)<|cq qt) _ (by lia) ?_
  refine aY<|ag rfl ?_
  rw[Ln pO,Ln pW]
  exact q _ s1
 ·have e:w= .back:=by rcases hw with h | h;exact h;exact absurd h ne
  subst e
  have b1:=lo_le (p:=fun c=> !SM.cps.contains c) (l:=x.cps.toList) (n:=n)
  have es: ∀m:Nat,((m+1:Nat):Int) - 1=(m:Nat):=fun m=>by lia
  refine Lq (p:=fun c=> !SM.cps.contains c) hx (fun m hm QT qt=>bO<|xp<|ag rfl<|aN<|ag rfl<|ao<|ee ?_) n hn ?_
  ·rw[es];exact cI ha (ef m hm) (cq qt)
  refine Lq (p:=SM.cps.contains) hx (fun m hm QT qt=>xp<|ag rfl<|aN<|ag rfl<|ao<|ee ?_) _ (by lia) ?_
  ·rw[es];exact cI ha (ef m hm) (cq qt)
  refine aY<|ag rfl ?_
  rw[Lo pO,Lo pW]
  exact q _ s1
end
section
variable {K:Frag}
theorem tV{Γ:aX}{σ:St}{H:Hp}{Q:VK}{i:Nat}{w:Wd}(v:Wd){z:Str}(hz:v.str=z){e1 e2:RE}{a b:V}(hσ:σ[i]?=some (some<|.str w.str))(h1: ∀Q1:VK,Q1 a H->aj Γ e1 σ H Q1)(h2: ∀Q1:VK,Q1 b H->aj Γ e2 σ H Q1)(q: ∀H',aC H H'->Q (if w=v then b else a) H'):
  aj Γ (.ix (.lst [e1,e2])<|.blt .int [.cmp .Eq (.v i)<|.c<|.str z]) σ H Q:=by
 refine aU<|bS<|ah<|h1 _<|ah<|h2 _<|az ⟨(by show 2<=sizeLine;decide),fun l fl=> ?_⟩
 refine dr<|ah<|cZ<|ag hσ<|ao<|cw v hz<|az ?_
 have q':=q _ (sameNew (o:= .lst [a,b]) fl)
 by_cases e:w=v
 ·rw[if_pos e] at q'
  rw[zqT e]
  exact cI aD (i:=1) rfl q'
 ·rw[if_neg e] at q'
  rw[zqF e]
  exact cI aD (i:=0) rfl q'
def xq:Sp:=fun vs H Q E=> ∃(x:Str) (cu:Addr) (a h:Nat) (g:Option Nat) (w:Wd) (b:Bool),vs=[.str x, .ref cu, .str w.str, .bl b]/\good x/\x.length<=100000/\eM H cu a h g/\a<=x.length/\h<=x.length/\ ∀H',aC H H'->Q (.int (led x.cps.toList a h g w b:Nat)) H'
abbrev mS(K:Frag)(E:XK):aX:=aI K [("_law_at_line",qx),("_law_in_line",xo),("_law_word_place",BW)] [] (E:=E)
theorem Ls(x:Str)(hx:x.length<=1000000){Γ:aX}{σ:St}{H:Hp}{Q:VK}(hσ:σ[0]?=some (some<|.str x))(q:Q (.int (x.cps.toList.count 10:Nat)) H):aj Γ (.bD .count (.v 0) [(.c<|.str "\n")]) σ H Q:=by
 refine eR<|ag hσ ⟨rfl,ao ?_⟩
 show Q (.int ((Builtin.Str.occurrences x (Str.ofString "\n") 0 x.length<|x.length+1).length:Nat)) H
 rw[KS];exact q
theorem aaJ(vs:List V)(H:Hp)(Q:VK)(E:XK)(h:xq vs H Q E):av (mS K E) cz (Dn Q) (start gH vs) H:=by
 obtain⟨x,cu,a,h,g,w,b,rfl,gx,hx,ha,h1,h2,q⟩:=h
 have lx:=len_list x
 refine BK<|ag rfl<|BU ha ?_
 refine BK<|aP qx rfl<|ah<|ag rfl<|ah<|ag rfl<|az ⟨x,h,rfl,hx,h2,fun u H1 s1 hu=>K9 hu ?_⟩
 have js:=s1 _ _ ha
 have bd:=BQ (l:=x.cps.toList) (n:=h) (by lia)
 have nl:=mO x.cps.toList h
 have ok:=j9 nl
 have xr: ∀{σ:St} {Q1:VK} {H1:Hp},σ[0]?=some (some<|.str x)->Q1 (.int (x.length:Nat)) H1->aj (mS K E) (.blt .len [(.v 0)]) σ H1 Q1:=fun e q=>dW (ag e ⟨cp (by lia),q⟩)
 refine tJ .top .lF rfl rfl rfl (fun e=> ?_) fun n1 n2=> ?_
 ·have el:led x.cps.toList a h g w b=if w= .lF then x.length else 0:=by
   rcases e with rfl | rfl
   ·unfold led;simp[jr]
   ·unfold led;simp[jr,lx]
  rw[el] at q
  refine aY<|tV .lF rfl rfl (a:= .int 0) (b:= .int (x.length:Nat)) (fun Q1 q1=>ao q1) (fun Q1 q1=>xr rfl q1) fun H2 s2=> ?_
  have q':=q H2 (s1.trans s2)
  by_cases z:w= .lF
  ·rw[if_pos z] at q'⊢;exact q'
  ·rw[if_neg z] at q'⊢;exact q'
 refine tJ .oH .en rfl rfl rfl (fun e=> ?_) fun n3 n4=> ?_
 ·have el:led x.cps.toList a h g w b=inl x.cps.toList (bx x.cps.toList h) (if w= .en then x.length else 0):=by
   rcases e with rfl | rfl
   ·unfold led inl;simp[jr]
   ·have e1:led x.cps.toList a h g .en b=lend x.cps.toList (bx x.cps.toList h):=by
     unfold led;rw[if_neg (by decide),if_neg (by rintro⟨z,_⟩;rcases z with z | z<;>cases z)];rfl
    rw[e1,if_pos rfl];unfold inl;lia
  rw[el] at q
  refine aY<|aP xo rfl<|ah<|ag rfl<|ah<|ag rfl<|ah<|tV .en rfl rfl (a:= .int 0) (b:= .int (x.length:Nat)) (fun Q1 q1=>ao q1) (fun Q1 q1=>xr rfl q1) fun H2 s2=> ?_
  refine az ⟨x,_,if w= .en then x.length else 0, ?_,hx,nl,fun H3 s3=>q H3<|(s1.trans s2).trans s3⟩
  by_cases z:w= .en
  ·rw[if_pos z,if_pos z]
  ·rw[if_neg z,if_neg z];rfl
 refine tJ .back .on rfl rfl rfl (fun e=> ?_) fun n5 n6=> ?_
 ·have el:led x.cps.toList a h g w b=jr x.cps.toList h w:=by
   unfold led
   rcases e with rfl | rfl
   ·rw[if_neg (by decide),if_neg (by rintro⟨z,_⟩;rcases z with z | z<;>cases z)]
   ·rw[if_neg (by decide),if_neg (by rintro⟨z,_⟩;rcases z with z | z<;>cases z)]
  rw[el] at q
  exact aY<|aP BW rfl<|ah<|ag rfl<|ah<|ag rfl<|ah<|ag rfl<|az ⟨x,h,w,rfl,gx,hx,h2,e,fun H2 s2=>q H2<|s1.trans s2⟩
 refine tJ .left .right rfl rfl rfl (fun e=> ?_) fun n7 n8=> ?_
 ·have Lu: ¬(w= .up\/w= .down):=by rcases e with rfl | rfl<;>decide
  have plain: ¬(b=false/\a≠h)->av (mS K E) [.ret<|.blt .max [(.c<|.int 0),(.blt .min [(.blt .len [(.v 0)]),(.bin .Add (.v 5)<|.ix (.lst [(.neg<|.c<|.int 1),(.c<|.int 1)])<|.blt .int [(.cmp .Eq (.v 2)<|.c<|.str "right")])])]] {(Dn Q) with nx:=av (mS K E) (cz.drop 6) (Dn Q)} [some<|.str x,some<|.ref cu,some<|.str w.str,some<|.bl b,some<|.int a,some<|.int h,some<|gV g,some<|.int (bx x.cps.toList h:Nat),some<|.int (col x.cps.toList h:Nat),none] H1:=by
   intro no
   have el:led x.cps.toList a h g w b=jr x.cps.toList h w:=by unfold led;rw[if_neg Lu,if_neg fun z=>no z.2]
   rw[el] at q
   refine aY<|dr<|ah<|ao<|ah<|dr<|ah<|xr rfl<|ah<|aN<|ag rfl<|tV .right rfl rfl (a:= .int (-1)) (b:= .int 1) (fun Q1 q1=>j8 q1) (fun Q1 q1=>ao q1) fun H2 s2=> ?_
   have q':=q H2 (s1.trans s2)
   rcases e with rfl | rfl
   ·rw[if_neg (by decide)]
    refine bP ?_
    show Q (.int (if (if ((h:Nat):Int)+ -1< (x.length:Nat) then ((h:Nat):Int)+ -1 else ((x.length:Nat):Int)) >0 then (if ((h:Nat):Int)+ -1< (x.length:Nat) then ((h:Nat):Int)+ -1 else ((x.length:Nat):Int)) else 0)) H2
    rw[show(if (if ((h:Nat):Int)+ -1< (x.length:Nat) then ((h:Nat):Int)+ -1 else ((x.length:Nat):Int)) >0 then (if ((h:Nat):Int)+ -1< (x.length:Nat) then ((h:Nat):Int)+ -1 else ((x.length:Nat):Int)) else 0)=((h - 1:Nat):Int) by split<;>split at* <;>lia]
    exact q'
   ·rw[if_pos rfl]
    refine bP ?_
    show Q (.int (if (if ((h:Nat):Int)+1< (x.length:Nat) then ((h:Nat):Int)+1 else ((x.length:Nat):Int)) >0 then (if ((h:Nat):Int)+1< (x.length:Nat) then ((h:Nat):Int)+1 else ((x.length:Nat):Int)) else 0)) H2
    rw[show(if (if ((h:Nat):Int)+1< (x.length:Nat) then ((h:Nat):Int)+1 else ((x.length:Nat):Int)) >0 then (if ((h:Nat):Int)+1< (x.length:Nat) then ((h:Nat):Int)+1 else ((x.length:Nat):Int)) else 0)=((min x.cps.toList.length (h+1):Nat):Int) by split<;>split at* <;>lia]
    exact q'
  refine bj<|sW<|bq<|ag rfl<|ag rfl<|qf ⟨_,rfl, ?_⟩
  by_cases z:a=h
  ·exact iF (iF (bH<|plain fun y=>y.2 z) rfl) (by simp[z])
  ·refine iT (bO<|tP rfl ?_) (by simp;lia)
   cases b with
   | true=>exact iF (bH<|plain fun y=>by cases y.1) rfl
   | false=>
    refine iT ?_ rfl
    have el:led x.cps.toList a h g w false=if w= .left then min a h else max a h:=by unfold led;rw[if_neg Lu,if_pos ⟨e,rfl,z⟩]
    rw[el] at q
    refine aY<|tV .right rfl rfl (a:= .int (min a h:Nat)) (b:= .int (max a h:Nat)) (fun Q1 q1=>dr<|ah<|ag rfl<|ah<|ag rfl<|az ?_) (fun Q1 q1=>dr<|ah<|ag rfl<|ah<|ag rfl<|az ?_) fun H2 s2=> ?_
    ·show Q1 (.int (if (h:Int) < (a:Int) then (h:Int) else (a:Int))) H1
     rw[show(if (h:Int) < (a:Int) then (h:Int) else (a:Int))=((min a h:Nat):Int) by split<;>lia]
     exact q1
    ·show Q1 (.int (if (h:Int) > (a:Int) then (h:Int) else (a:Int))) H1
     rw[show(if (h:Int) > (a:Int) then (h:Int) else (a:Int))=((max a h:Nat):Int) by split<;>lia]
     exact q1
    ·have q':=q H2 (s1.trans s2)
     rcases e with rfl | rfl
     ·rw[if_pos rfl] at q'
      rw[if_neg (by decide)];exact q'
     ·rw[if_neg (by decide)] at q'
      rw[if_pos rfl];exact q'
 have ud:w= .up\/w= .down:=by cases w<;>first | exact .inl rfl | exact .inr rfl | contradiction
 have el:led x.cps.toList a h g w b=hX x.cps.toList (bx x.cps.toList h) (g.getD<|col x.cps.toList h) w:=by unfold led;rw[if_pos ud]
 rw[el] at q
 have go: ∀c:Nat,c=g.getD (col x.cps.toList h)->av (mS K E) (cz.drop 7) (Dn Q) [some<|.str x,some<|.ref cu,some<|.str w.str,some<|.bl b,some<|.int a,some<|.int h,some<|gV g,some<|.int (bx x.cps.toList h:Nat),some<|.int (c:Nat),none] H1:=by
  rintro c rfl
  have last: ∀(j:Nat) (H2:Hp),aC H H2->j<=x.cps.toList.count 10->hX x.cps.toList (bx x.cps.toList h) (g.getD<|col x.cps.toList h) w=inl x.cps.toList j (g.getD<|col x.cps.toList h)->av (mS K E) (cz.drop 8) (Dn Q) [some<|.str x,some<|.ref cu,some<|.str w.str,some<|.bl b,some<|.int a,some<|.int h,some<|gV g,some<|.int (bx x.cps.toList h:Nat),some<|.int (g.getD (col x.cps.toList h):Nat),some<|.int (j:Nat)] H2:=by
   intro j H2 s2 hj e
   rw[e] at q
   refine bj<|bq<|ag rfl<|ao<|N.ltI ⟨_,rfl,iF (bH ?_)<|zqF (by lia)⟩
   refine bj<|bq<|ag rfl<|Ls x gx.1 rfl<|N.tH ⟨_,rfl,iF (bH ?_)<|zqF (by lia)⟩
   exact aY<|aP xo rfl<|ah<|ag rfl<|ah<|ag rfl<|ah<|ag rfl<|az ⟨x,j,_,rfl,hx,hj,fun H3 s3=>q H3<|s2.trans s3⟩
  refine aO<|aN<|ag rfl<|tV .down rfl rfl (a:= .int (-1)) (b:= .int 1) (fun Q1 q1=>j8 q1) (fun Q1 q1=>ao q1) fun H2 s2=> ?_
  have dv:=s1.trans s2
  rcases ud with rfl | rfl
  ·rw[if_neg (by decide)]
   refine bP ?_
   by_cases z:bx x.cps.toList h=0
   ·have e0:hX x.cps.toList (bx x.cps.toList h) (g.getD<|col x.cps.toList h) .up=0:=by unfold hX;rw[if_pos rfl,if_pos z]
    rw[e0] at q
    refine bj<|bq<|ag rfl<|ao<|N.ltI ⟨_,rfl,iT ?_<|zqT (by lia)⟩
    exact aY<|ao<|q _ dv
   ·show av (mS K E) (cz.drop 8) (Dn Q) [some<|.str x,some<|.ref cu,some<|.str Wd.up.str,some<|.bl b,some<|.int a,some<|.int h,some<|gV g,some<|.int (bx x.cps.toList h:Nat),some<|.int (g.getD (col x.cps.toList h):Nat),some<|.int<|((bx x.cps.toList h:Nat):Int)+ -1] H2
    rw[show((bx x.cps.toList h:Nat):Int)+ -1=((bx x.cps.toList h - 1:Nat):Int) by lia]
    exact last _ H2 dv (by lia) (by unfold hX;rw[if_pos rfl,if_neg z])
  ·rw[if_pos rfl]
   refine bP ?_
   by_cases z:bx x.cps.toList h=x.cps.toList.count 10
   ·have e0:hX x.cps.toList (bx x.cps.toList h) (g.getD<|col x.cps.toList h) .down=x.cps.toList.length:=by unfold hX;rw[if_neg (by decide),if_pos z]
    rw[e0,<-lx] at q
    refine bj<|bq<|ag rfl<|ao<|N.ltI ⟨_,rfl,iF (bH ?_)<|zqF (by lia)⟩
    refine bj<|bq<|ag rfl<|Ls x gx.1 rfl<|N.tH ⟨_,rfl,iT ?_<|zqT (by lia)⟩
    exact aY<|xr rfl<|q _ dv
   ·show av (mS K E) (cz.drop 8) (Dn Q) [some<|.str x,some<|.ref cu,some<|.str Wd.down.str,some<|.bl b,some<|.int a,some<|.int h,some<|gV g,some<|.int (bx x.cps.toList h:Nat),some<|.int (g.getD (col x.cps.toList h):Nat),some<|.int<|((bx x.cps.toList h:Nat):Int)+1] H2
    rw[show((bx x.cps.toList h:Nat):Int)+1=((bx x.cps.toList h+1:Nat):Int) by lia]
    exact last _ H2 dv (by lia) (by unfold hX;rw[if_neg (by decide),if_neg z])
 refine bj<|bq<|ag rfl<|ao ⟨rfl,_,rfl, ?_⟩
 rw[xj]
 cases g with
 | none=>exact iF (bH<|go _ rfl) rfl
 | some n=>exact iT (aO<|ag rfl<|go n rfl) rfl
def BX:Sp:=fun vs H Q E=> ∃(x:Str) (cu:Addr) (a h:Nat) (g:Option Nat) (w:Wd) (b:Bool),vs=[.str x, .ref cu, .str w.str, .bl b]/\good x/\x.length<=100000/\eM H cu a h g/\a<=x.length/\h<=x.length/\ ∀t' H',aC H H'->eM H' t' (if b=true then a else led x.cps.toList a h g w b) (led x.cps.toList a h g w b) (iJ x.cps.toList h g w)->Q (.ref t') H'
theorem aaK(vs:List V)(H:Hp)(Q:VK)(E:XK)(hh:BX vs H Q E):av (aI K [("_law_led",xq),("_law_at_line",qx)] [] (E:=E)) iB (Dn Q) (start nZ vs) H:=by
 obtain⟨x,cu,a,h,g,w,b,rfl,gx,hx,ha,h1,h2,q⟩:=hh
 refine aO<|aP xq rfl<|ah<|ag rfl<|ah<|ag rfl<|ah<|ag rfl<|ah<|ag rfl<|az ⟨x,cu,a,h,g,w,b,rfl,gx,hx,ha,h1,h2,fun H1 s1=> ?_⟩
 have js:=s1 _ _ ha
 refine aO<|ao ?_
 have last: ∀H2,aC H H2->av (aI K [("_law_led",xq),("_law_at_line",qx)] [] (E:=E)) (iB.drop 3) (Dn Q) [some<|.str x,some<|.ref cu,some<|.str w.str,some<|.bl b,some<|.int (led x.cps.toList a h g w b:Nat),some<|gV<|iJ x.cps.toList h g w] H2:=by
  intro H2 s2
  have gL:=s2 _ _ ha
  refine aY<|dS<|ah<|aU<|bS<|ah<|ag rfl<|ah<|aU<|ag rfl<|ao<|aJ gL rfl<|az ⟨(by show 2<=sizeLine;decide),fun l fl=> ?_⟩
  have s3:=sameNew (o:= .lst [V.int (led x.cps.toList a h g w b:Nat),V.int (a:Nat)]) fl
  refine dr<|ah<|ag rfl<|az ?_
  cases b with
  | true=>
   refine cI aD (i:=1) rfl<|ah<|ag rfl<|ah<|ag rfl<|az ⟨(by show 3<=sizeLine;decide),fun t' f'=> ?_⟩
   exact q t' _ ((s2.trans s3).trans<|sameNew f') aD
  | false=>
   refine cI aD (i:=0) rfl<|ah<|ag rfl<|ah<|ag rfl<|az ⟨(by show 3<=sizeLine;decide),fun t' f'=> ?_⟩
   exact q t' _ ((s2.trans s3).trans<|sameNew f') aD
 refine tJ .up .down rfl rfl rfl (fun e=> ?_) fun n1 n2=> ?_
 ·have eg:iJ x.cps.toList h g w=some (g.getD<|col x.cps.toList h):=by unfold iJ;rw[if_pos e]
  rw[eg] at last
  refine aO<|aU<|ag rfl<|ao<|aJ js rfl ?_
  refine bj<|bq<|ag rfl<|ao ⟨rfl,_,rfl, ?_⟩
  rw[xj]
  cases g with
  | none=>
   refine iT ?_ rfl
   refine aO<|aU<|aP qx rfl<|ah<|ag rfl<|ah<|aU<|ag rfl<|ao<|aJ js rfl<|az ⟨x,h,rfl,hx,h2,fun u H2 s2 hu=>ao<|aJ hu rfl ?_⟩
   exact last _<|s1.trans s2
  | some n=>exact iF (last _ s1) rfl
 ·have eg:iJ x.cps.toList h g w=none:=by unfold iJ;rw[if_neg (by rintro(z | z);exact n1 z;exact n2 z)]
  rw[eg] at last
  exact last _ s1
def gD:Option Nat->PyData
 | none=> .none
 | some n=> .int n
theorem aaL(H:Hp)(g:Option Nat):Is H (gD g) (gV g):=by cases g<;>rfl
theorem BY(a h:Nat)(g:Option Nat):SeqAt.shaped (.tuple [.int a, .int h,gD g])=true:=by cases g<;>rfl
theorem BZ{H:Hp}{t:Addr}{a h:Nat}{g:Option Nat}(ht:eM H t a h g):Is H (.tuple [.int a, .int h,gD g]) (.ref t):=⟨t,_,rfl,ht, .int a,[.int h,gV g],rfl,rfl, .int h,[gV g],rfl,rfl,gV g,[],rfl,aaL H g,rfl⟩
theorem aaM{H:Hp}{Q:VK}{t t':Addr}{a h:Nat}{g:Option Nat}(ht:eM H t a h g)(jt:eM H t' a h g)(q:Q (.bl false) H):b9 K .NotEq (.ref t) (.ref t') H Q:=by
 refine⟨_,_,BZ ht,BZ jt,BY a h g,BY a h g, ?_⟩
 rw[SeqAt.eqv_refl _<|SeqAt.canLay_of_shaped<|BY a h g];exact q
def B0:Sp:=fun vs H Q E=> ∃(t t':Addr) (a h:Nat) (g:Option Nat),vs=[.ref t, .ref t']/\eM H t a h g/\eM H t' a h g/\ ∀H',aC H H'->Q (.bl true) H'
theorem aaN(vs:List V)(H:Hp)(Q:VK)(E:XK)(hh:B0 vs H Q E):av (aI K [("_law_whole",wJ)] [] (E:=E)) HZ (Dn Q) (start HY vs) H:=by
 obtain⟨t,t',a,h,g,rfl,ht,jt,q⟩:=hh
 refine bj<|qe<|bO<|mG<|ag rfl<|wK ht<|iF ?_ rfl
 refine qe<|bq<|dW<|ag rfl<|.inr ⟨_,ba.of ht,ao<|qf ⟨_,rfl,iF ?_ (by simp)⟩⟩
 refine Bj<|bq<|ag rfl<|ag rfl<|aaM ht jt ⟨_,rfl,iF (bH ?_) rfl⟩
 refine aY<|cZ ?_
 refine⟨_,rfl,t,rfl,⟨_,ba.of ht⟩, ?_⟩
 refine⟨fun i m ys H2=>i<=3/\m=3 - i/\ys=[]/\H2=H,⟨3,by decide,rfl,rfl,rfl⟩, ?_⟩
 rintro i m ys H2 ⟨hi,rfl,rfl,rfl⟩
 by_cases aW:i<3
 ·refine .inr ⟨⟨_,_,ba.of ht,zav (by show i<3;exact aW)⟩, ?_⟩
  rintro y H3 ⟨rfl,hy⟩
  have nq:=hy _ (ba.of ht)
  have aaO: ∀(y:V) (QT:Bool->Hp->Prop),(∃k:Int,y= .int k)\/y= .aA->QT false H3->bf (aI K [("_law_whole",wJ)] [] (E:=E)).calm (.and [(.cmp .IsNot (.v 0)<|.c .aA),(.not<|.call 0 [(.v 0)])]) [some y] H3 QT:=by
   intro y QT hk qt
   refine sW<|bq<|ag rfl<|ao ⟨rfl,_,rfl, ?_⟩
   rcases hk with⟨k,rfl⟩ | rfl
   ·refine iT ?_ (by simp)
    exact bO<|dU wJ rfl<|ah<|ag rfl<|az ⟨k,rfl,cq qt⟩
   ·exact iF qt (by simp)
  refine aaO y _ ?_ ?_
  ·have hm:=zaj nq
   simp only[zaa,zac,or_false] at hm
   rcases hm with rfl | rfl | rfl
   ·exact .inl ⟨_,rfl⟩
   ·exact .inl ⟨_,rfl⟩
   ·cases g with
    | none=>exact .inr rfl
    | some n=>exact .inl ⟨_,rfl⟩
  ·exact iF ⟨3 - (i+1),by lia,by lia,rfl,rfl,rfl⟩ rfl
 ·refine .inl ⟨⟨_,ba.of ht,by show 3<=i;lia⟩,fun p5 f5=> ?_⟩
  have s5:=sameNew (o:= .lst []) f5
  refine bS<|az ⟨zqZ _,fun l6 f6=> ?_⟩
  have s6:=sameNew (o:= .lst []) f6
  have sh:SeqAt.shaped (.list [])=true:=rfl
  refine⟨.list [], .list [],⟨p5,[],rfl,s6 _ _ aD,rfl⟩,⟨l6,[],rfl,aD,rfl⟩,sh,sh, ?_⟩
  rw[SeqAt.eqv_refl _<|SeqAt.canLay_of_shaped sh]
  exact q _<|s5.trans s6
end
abbrev Cu:=Nat×Nat×Option Nat
def gr(H:Hp)(v:V)(c:Cu):Prop:= ∃t,v= .ref t/\eM H t c.1 c.2.1 c.2.2
theorem gr.same{H H':Hp}{v:V}{c:Cu}(h:gr H v c)(s:aC H H'):gr H' v c:=by
 obtain⟨t,e,h⟩:=h
 exact⟨t,e,s _ _ h⟩
abbrev bJ(H:Hp):List V->List Cu->Prop:=Paired (gr H)
theorem bJ.same{H H':Hp}{vs:List V}{cs:List Cu}(h:bJ H vs cs)(s:aC H H'):bJ H' vs cs:=L2.Paired.eU h fun _ _ x=>x.same s
theorem gM{H:Hp}: ∀{vs:List V} {cs:List Cu} {i:Nat} {v:V},bJ H vs cs->vs[i]?=some v-> ∃c,cs[i]?=some c/\gr H v c
 | [],[],i,v, .nil,h=>by simp at h
 | v::vs,c::cs,0,w, .cons x r,h=>by cases h;exact⟨c,rfl,x⟩
 | v::vs,c::cs,i+1,w, .cons x r,h=>gM (vs:=vs) (cs:=cs) (i:=i) r (by simpa using h)
theorem xu{H:Hp}: ∀{vs:List V} {cs:List Cu} {i:Nat} {c:Cu},bJ H vs cs->cs[i]?=some c-> ∃v,vs[i]?=some v/\gr H v c
 | [],[],i,c, .nil,h=>by simp at h
 | v::vs,c::cs,0,w, .cons x r,h=>by cases h;exact⟨v,rfl,x⟩
 | v::vs,c::cs,i+1,w, .cons x r,h=>xu (vs:=vs) (cs:=cs) (i:=i) r (by simpa using h)
def keyOf(c:Cu)(k:Nat):T3:=((min c.1 c.2.1:Nat),(max c.1 c.2.1:Nat),(k:Nat))
def gN:Nat->List Cu->List T3
 | _,[]=> []
 | k,c::cs=>keyOf c k::gN (k+1) cs
theorem mT: ∀(k:Nat) (cs:List Cu),(gN k cs).length=cs.length
 | _,[]=>rfl
 | k,c::cs=>by simp[gN,mT (k+1) cs]
theorem B3: ∀{k:Nat} {cs:List Cu} {t:T3},t∈gN k cs-> ∃i c,cs[i]?=some c/\t=keyOf c (k+i)
 | k,c::cs,t,h=>by
  rcases zaa.mp h with rfl | h
  ·exact⟨0,c,rfl,rfl⟩
  ·obtain⟨i,c',e,rfl⟩:=B3 h
   exact⟨i+1,c',by simpa using e,by rw[show k+1+i=k+ (i+1) by lia]⟩
theorem keys_nodup: ∀(k:Nat) (cs:List Cu),(gN k cs).Nodup
 | _,[]=>List.nodup_nil
 | k,c::cs=>by
  refine zbe.mpr ⟨fun h=> ?_,keys_nodup (k+1) cs⟩
  obtain⟨i,c',_,e⟩:=B3 h
  have:((k:Nat):Int)=((k+1+i:Nat):Int):=congrArg (fun t:T3=>t.2.2) e
  lia
theorem B4: ∀(k:Nat) (cs:List Cu) (c:Cu),gN k (cs++ [c])=gN k cs++ [keyOf c<|k+cs.length]
 | k,[],c=>rfl
 | k,d::cs,c=>by
  show keyOf d k::gN (k+1) (cs++ [c])=_
  rw[B4 (k+1) cs c]
  show _=keyOf d k::(gN (k+1) cs++ [keyOf c<|k+ (cs.length+1)])
  rw[show k+1+cs.length=k+ (cs.length+1) by lia]
def e_(cs:List Cu)(us:List T3):Prop:=us.Perm (gN 0 cs)/\us.Pairwise fun a b=>dA a b=true
theorem Lv: ∀{us ws:List T3},us.Perm ws->(us.Pairwise fun a b=>dA a b=true)->(ws.Pairwise fun a b=>dA a b=true)->us=ws
 | [],ws,h,_,_=> (List.nil_perm.mp h).symm
 | u::us,[],h,_,_=>absurd h.length_eq (by simp)
 | u::us,w::ws,h,hu,hw=>by
  have e:u=w:=by
   by_cases z:u=w
   ·exact z
   ·have h1:u∈ws:=by
     rcases zaa.mp (h.subset<|.head _) with x | x
     ·exact absurd x z
     ·exact x
    have h2:w∈us:=by
     rcases zaa.mp (h.symm.subset<|.head _) with x | x
     ·exact absurd x.symm z
     ·exact x
    have a:=(zbp.mp hw).1 u h1
    have b:=(zbp.mp hu).1 w h2
    rw[Ig a] at b;cases b
  subst e
  rw[Lv (List.Perm.cons_inv h) (zbp.mp hu).2 (zbp.mp hw).2]
theorem e_.eq{cs:List Cu}{us ws:List T3}(h:e_ cs us)(h':e_ cs ws):us=ws:=Lv (h.1.trans h'.1.symm) h.2 h'.2
def near(lo hi b e:Nat):Bool:=if b=hi then (decide (lo=hi) || decide (b=e)) else decide (b<hi)
abbrev Gr:=Nat×Nat×List Nat
def bW(gs:List Gr)(t:T3):List Gr:=match gs.getLast? with
 | none=>gs++ [(t.1.toNat,t.2.1.toNat,[t.2.2.toNat])]
 | some g=>if near g.1 g.2.1 t.1.toNat t.2.1.toNat=true then gs.dropLast++ [(g.1,max g.2.1 t.2.1.toNat,g.2.2++ [t.2.2.toNat])] else gs++ [(t.1.toNat,t.2.1.toNat,[t.2.2.toNat])]
def groups(us:List T3):List Gr:=us.foldl bW []
theorem Lw(us:List T3)(t:T3):groups (us++ [t])=bW (groups us) t:=by unfold groups;rw[List.foldl_append];rfl
theorem Lx(n:Nat): ∀(us:List T3) (gs:List Gr),(∀t∈us,t.2.2.toNat<n)->(∀g∈gs,g.2.2≠ []/\ ∀k∈g.2.2,k<n)-> ∀g∈us.foldl bW gs,g.2.2≠ []/\ ∀k∈g.2.2,k<n
 | [],gs,_,h=>h
 | t::us,gs,hu,h=>by
  refine Lx n us _ (fun x hx=>hu x<|.tail _ hx) ?_
  have ht:=hu t (.head _)
  have one: ∀g∈gs++ [((t.1.toNat,t.2.1.toNat,[t.2.2.toNat]):Gr)],g.2.2≠ []/\ ∀k∈g.2.2,k<n:=by
   intro g hg
   rcases zax.mp hg with hg | hg
   ·exact h g hg
   ·rw[zas.mp hg]
    exact⟨by simp,fun k hk=>by rw[zas.mp hk];exact ht⟩
  unfold bW
  split
  ·exact one
  ·rename_i g0 e0
   split
   ·intro g hg
    rcases zax.mp hg with hg | hg
    ·exact h g (zbV _ hg)
    ·rw[zas.mp hg]
     have tW:=h g0 (zbW e0)
     refine⟨by simp,fun k hk=> ?_⟩
     rcases zax.mp hk with hk | hk
     ·exact tW.2 k hk
     ·rw[zas.mp hk];exact ht
   ·exact one
def least:List Nat->Nat
 | []=>0
 | k::r=>r.foldl min k
theorem Ly: ∀(r:List Nat) (k:Nat),r.foldl min k<=k/\(∀x∈r,r.foldl min k<=x)/\(r.foldl min k=k\/r.foldl min k∈r)
 | [],k=> ⟨zqR _,(fun x h=>by cases h), .inl rfl⟩
 | x::r,k=>by
  obtain⟨a,b,c⟩:=Ly r (min k x)
  refine⟨zaq a<|Nat.min_le_left _ _,fun y hy=> ?_, ?_⟩
  ·rcases zaa.mp hy with rfl | hy
   ·exact zaq a (Nat.min_le_right _ _)
   ·exact b y hy
  ·rcases c with c | c
   ·have e:(x::r).foldl min k=min k x:=c
    by_cases z:k<=x
    ·exact .inl (by rw[e];exact zaQ z)
    ·exact .inr (by rw[e,zbI (by lia)];exact .head _)
   ·exact .inr (.tail _ c)
theorem B5{ms:List Nat}(h:ms≠ []):least ms∈ms/\ ∀x∈ms,least ms<=x:=by
 cases ms with
 | nil=>exact absurd rfl h
 | cons k r=>
  obtain⟨a,b,c⟩:=Ly r k
  refine⟨?_,fun x hx=> ?_⟩
  ·rcases c with c | c
   ·show r.foldl min k∈k::r
    rw[c];exact .head _
   ·exact .tail _ c
  ·rcases zaa.mp hx with rfl | hx
   ·exact a
   ·exact b x hx
def oneOf(cs:List Cu)(g:Gr):Cu:=
 let f:=(cs[least g.2.2]?).getD (0,0,none)
 if g.2.2.length=1 then f else if f.2.1<f.1 then (g.2.1,g.1,none) else (g.1,g.2.1,none)
def settle(cs:List Cu)(us:List T3):List Cu:=(groups us).map (oneOf cs)
theorem Lz{K:Frag}{σ:St}{H:Hp}{QQ:List V->Hp->Addr->Prop}{te:TE}{fv:List (Str×Nat)}{a:Addr}{xs:List V}(ha:H a=some (.lst xs))(hl:xs.length<=1000000)(P:Nat->List V->Hp->Prop)(p0:P 0 [] H)(pm: ∀i ys H2 H3,P i ys H2->aC H2 H3->P i ys H3)
  (step: ∀i x ys H2,xs[i]?=some x->aC H H2->P i ys H2-> ∀Q':VK,(∀y H3,aC H2 H3->P (i+1) (ys++ [y]) H3->Q' y H3)->te (some (.int (i:Nat))::some x::cf σ fv) H2 Q')
  (fin: ∀ys H2 p,aC H H2->P xs.length ys H2->H2 p=none->QQ ys H2 p): ∃W:Nat->Nat->List V->Hp->Prop,(∃m,W 0 m [] H)/\ ∀i m ys H2,W i m ys H2->
   ((ma K a).stop i H2/\ ∀p,H2 p=none->QQ ys H2 p)\/
   ((ma K a).go i H2/\ ∀x H3,(ma K a).fU i H2 x H3->iY K (some 2) x H3 fun zs=>lY none (zs.map some++cf σ fv) H3 fun b H5=>
    if b=true then te (zs.map some++cf σ fv) H5 fun y H6=>ys.length<sizeLine/\ ∃m',m'<m/\W (i+1) m' (ys++ [y]) H6 else ∃m',m'<m/\W (i+1) m' ys H5):=by
 refine⟨fun i m ys H2=>m=xs.length - i/\i<=xs.length/\ys.length=i/\aC H H2/\P i ys H2,⟨_,rfl,zqZ _,rfl,aC.refl _,p0⟩, ?_⟩
 rintro i m ys H2 ⟨rfl,hi,hy,s,p⟩
 by_cases aW:i<xs.length
 ·refine .inr ⟨⟨xs,aB.of<|s _ _ ha,aW⟩, ?_⟩
  rintro x H3 ⟨T,hT,rfl,hx⟩
  have fX:=hx xs xs[i] (aB.of<|s _ _ ha) (zav aW)
  subst fX
  have s3:=sameNew (o:= .tup [V.int (i:Nat),xs[i]]) hT
  refine⟨T,_,rfl,ba.of aD,rfl, ?_⟩
  exact step i xs[i] ys _ (zav aW) (s.trans s3) (pm _ _ _ _ p s3) _ fun y H4 s4 p4=> ⟨gg (by lia),xs.length - (i+1),by lia,rfl,aW,by simp[hy],(s.trans s3).trans s4,p4⟩
 ·have jn:i=xs.length:=by lia
  subst jn
  exact .inl ⟨⟨xs,aB.of<|s _ _ ha,rfl⟩,fun q hq=>fin ys _ q s p hq⟩
section
variable {K:Frag}
def oK:Sp:=fun vs H Q E=> ∃(lo hi:Nat) (t:Addr) (a h:Nat) (g:Option Nat),vs=[.int lo, .int hi, .ref t]/\eM H t a h g/\Q (.bl<|near lo hi (min a h)<|max a h) H
theorem aaP(vs:List V)(H:Hp)(Q:VK)(E:XK)(hh:oK vs H Q E):av (aI K [("begin_of",iI),("is_empty",tK)] [] (E:=E)) HA (Dn Q) (start Hz vs) H:=by
 obtain⟨lo,hi,t,a,h,g,rfl,ha,q⟩:=hh
 refine bj<|bq<|aP iI rfl<|ah<|ag rfl<|az ⟨t,a,h,g,rfl,ha,ag rfl<|fg ⟨_,rfl, ?_⟩⟩
 unfold near at q
 by_cases e:min a h=hi
 ·rw[if_pos e] at q
  refine iT ?_<|zqT (by lia)
  refine aY<|lG<|cZ<|ag rfl<|ag rfl<|fg ⟨_,rfl, ?_⟩
  by_cases e2:lo=hi
  ·rw[zqT e2] at q
   exact iT q<|zqT (by lia)
  ·rw[zqF e2] at q
   refine iF (aP tK rfl<|ah<|ag rfl<|az ⟨t,a,h,g,rfl,ha, ?_⟩)<|zqF (by lia)
   rw[show decide (a=h)=(false || decide (min a h=max a h)) by rw[Bool.false_or,zaB];simp only[decide_eq_true_eq];lia]
   exact q
 ·rw[if_neg e] at q
  refine iF (bH ?_)<|zqF (by lia)
  refine aY<|cZ<|aP iI rfl<|ah<|ag rfl<|az ⟨t,a,h,g,rfl,ha,ag rfl<|N.ltI ?_⟩
  rw[show decide (((min a h:Nat):Int) < (hi:Nat))=decide (min a h<hi) by rw[zaB];simp only[decide_eq_true_eq];lia]
  exact q
def B6:Sp:=fun vs H Q E=> ∃(t:Addr) (a h:Nat) (g:Option Nat),vs=[.ref t]/\eM H t a h g/\Q (.bl<|decide<|h<a) H
theorem aaQ(vs:List V)(H:Hp)(Q:VK)(E:XK)(hh:B6 vs H Q E):av (aI K [] [] (E:=E)) Iu (Dn Q) (start my vs) H:=by
 obtain⟨t,a,h,g,rfl,ha,q⟩:=hh
 refine aY<|cZ<|aU<|ag rfl<|ao<|aJ ha rfl<|aU<|ag rfl<|ao<|aJ ha rfl<|N.ltI ?_
 rw[show decide (((h:Nat):Int) < (a:Nat))=decide (h<a) by rw[zaB];simp only[decide_eq_true_eq];lia]
 exact q
def nums(ms:List Nat):List V:=ms.map fun k=>V.int (k:Nat)
def xv(mk:List V->HO)(G:Addr)(H:Hp)(v:V)(g:Gr):Prop:= ∃t m,v= .ref t/\H t=some (mk [.int (g.1:Nat), .int (g.2.1:Nat), .ref m])/\H m=some (.lst<|nums g.2.2)/\t≠G/\m≠G
theorem xv.but{mk:List V->HO}{G:Addr}{H H':Hp}{v:V}{g:Gr}(x:xv mk G H v g)(b:bo G H H'):xv mk G H' v g:=by
 obtain⟨t,m,e,h1,h2,n1,n2⟩:=x
 exact⟨t,m,e,b _ _ h1 n1,b _ _ h2 n2,n1,n2⟩
abbrev er(mk:List V->HO)(G:Addr)(H:Hp):List V->List Gr->Prop:=Paired (xv mk G H)
theorem er.but{mk:List V->HO}{G:Addr}{H H':Hp}{vs:List V}{gs:List Gr}(x:er mk G H vs gs)(b:bo G H H'):er mk G H' vs gs:=L2.Paired.eU x fun _ _ y=>y.but b
theorem hZ{α β:Type}{R:α->β->Prop}: ∀{xs:List α} {ys:List β} {x:α} {y:β},Paired R xs ys->R x y->Paired R (xs++ [x]) (ys++ [y])
 | [],[],x,y, .nil,h=> .cons h .nil
 | _::_,_::_,x,y, .cons a r,h=> .cons a (hZ r h)
theorem ka{c:Addr}{H H':Hp}(s:aC H H'):bo c H H':=fun b o e _=>s b o e
theorem LA{Γ:aX}{σ:St}{H:Hp}{Q:VK}{as:List RE}(h:aZ Γ as σ H fun vs H1=>wz Γ.K vs H1 Q):aj Γ (.xt wA as) σ H Q:=h
structure oM (cs:List Cu) (t:T3) (c:Cu):Prop where
 at':cs[t.2.2.toNat]?=some c
 e1:t.1=((min c.1 c.2.1:Nat):Int)
 e2:t.2.1=((max c.1 c.2.1:Nat):Int)
 e3:t.2.2=((t.2.2.toNat:Nat):Int)
theorem xx{cs:List Cu}{us:List T3}(S:e_ cs us){t:T3}(h:t∈us): ∃c,oM cs t c:=by
 obtain⟨i,c,e,rfl⟩:=B3 (S.1.subset h)
 rw[zaE]
 exact⟨c,by show cs[(((i:Nat):Int)).toNat]?=some c;rw[zat];exact e,rfl,rfl,by show((i:Nat):Int)=(((i:Nat):Int).toNat:Nat);rw[zat]⟩
abbrev xy:List (Str×Sp):=[("begin_of",iI),("end_of",lH),("meet",oK)]
def LB:List RS:=[.ite (.and [(.cmp .Gt (.blt .len [(.v 2)]) (.c (.int 0))),(.call 2 [(.ix (.ix (.v 2) (.neg (.c (.int 1)))) (.c (.int 0))),(.ix (.ix (.v 2) (.neg (.c (.int 1)))) (.c (.int 1))),(.ix (.v 0) (.v 5))])]) [.asg 6 (.bD .pop (.v 2) []),
   .drop (.bD .append (.v 2) [(.tup [(.ix (.v 6) (.c (.int 0))),(.blt .max [(.ix (.v 6) (.c (.int 1))),(.v 4)]),(.bin .Add (.ix (.v 6) (.c (.int 2))) (.lst [(.v 5)]))])])] [.drop (.bD .append (.v 2) [(.tup [(.v 3),(.v 4),(.lst [(.v 5)])])])]]
theorem aaR{gs:List Gr}{t:T3}:(bW gs t).length<=gs.length+1:=by
 unfold bW
 split
 ·simp
 ·split
  ·simp[List.length_dropLast]
  ·simp
theorem aaS{Γ:aX}{σ:St}{H:Hp}{Q:VK}{i:Nat}{l:Addr}{xs:List V}{y:V}(hσ:σ[i]?=some (some<|.ref l))(hl:H l=some (.lst<|xs++ [y]))(q:Q y (upd H l<|.lst xs)):aj Γ (.bD .pop (.v i) []) σ H Q:=by
 refine⟨_,hσ, .inl ⟨rfl,_,aB.of hl⟩,_,y,hl,by simp, ?_⟩
 rw[zbJ];exact q
theorem aaT{E:XK}{D:Ends}{H:Hp}{l O G:Addr}{vs:List V}{cs:List Cu}{t:T3}{c:Cu}{zs:List V}{gs:List Gr}{u6:Option V}(hl:H l=some (.lst vs))(cm:bJ H vs cs)(nl:l≠G)(k:oM cs t c)(hG:H G=some (.lst zs))(gv:er .tup G H zs gs)(hn:gs.length<=1000)
  (aL: ∀g∈gs,g.2.2.length<=1000)
  (hD: ∀(y6:Option V) (dc:List V) H',bo G H H'->H' G=some (.lst dc)->er .tup G H' dc (bW gs t)->D.nx [some<|.ref l,some<|.ref O,some<|.ref G,some<|.int t.1,some<|.int t.2.1,some<|.int t.2.2,y6] H'):
  av (aI K xy [] (E:=E)) LB D [some<|.ref l,some<|.ref O,some<|.ref G,some<|.int t.1,some<|.int t.2.1,some<|.int t.2.2,u6] H:=by
 have lz:=Paired.length gv
 have fresh:bW gs t=gs++ [(t.1.toNat,t.2.1.toNat,[t.2.2.toNat])]->av (aI K xy [] (E:=E)) [.drop<|.bD .append (.v 2) [(.tup [(.v 3),(.v 4),(.lst [(.v 5)])])]] {D with nx:=av (aI K xy [] (E:=E)) [] D} [some<|.ref l,some<|.ref O,some<|.ref G,some<|.int t.1,some<|.int t.2.1,some<|.int t.2.2,u6] H:=by
  intro e
  refine eJ<|eR<|ag rfl ⟨.inl ⟨rfl,_,aB.of hG⟩,dS<|ah<|ag rfl<|ah<|ag rfl<|ah<|bS<|ah<|ag rfl<|az ⟨(by show 1<=sizeLine;decide),fun m fm=>az ⟨(by show 3<=sizeLine;decide),fun T fT=> ?_⟩⟩⟩
  have s1:=sameNew (o:= .lst [V.int t.2.2]) fm
  have s2:=sameNew (o:= .tup [V.int t.1,V.int t.2.1,V.ref m]) fT
  have dv:=s1.trans s2
  have nm:m≠G:=fun z=>by rw[z,hG] at fm;cases fm
  have nT:T≠G:=fun z=>by rw[z,s1 _ _ hG] at fT;cases fT
  refine⟨zs,dv _ _ hG,gg (by lia), ?_⟩
  have b3:bo G (upd (upd H m<|.lst [V.int t.2.2]) T<|.tup [V.int t.1,V.int t.2.1,V.ref m]) (upd (upd (upd H m<|.lst [V.int t.2.2]) T<|.tup [V.int t.1,V.int t.2.1,V.ref m]) G<|.lst<|zs++ [.ref T]):=bo.upd
  have bb:bo G H (upd (upd (upd H m<|.lst [V.int t.2.2]) T<|.tup [V.int t.1,V.int t.2.1,V.ref m]) G<|.lst<|zs++ [.ref T]):=(ka dv).trans b3
  refine hD u6 (zs++ [.ref T]) _ bb aD ?_
  rw[e]
  refine hZ (gv.but bb) ⟨T,m,rfl, ?_, ?_,nT,nm⟩
  ·rw[b3 _ _ aD nT,show t.1=((t.1.toNat:Nat):Int) by rw[k.e1,zat],show t.2.1=((t.2.1.toNat:Nat):Int) by rw[k.e2,zat]]
   simp only[zat]
  ·rw[b3 _ _ (s2 _ _ aD) nm]
   show some (HO.lst [V.int t.2.2])=some (HO.lst [V.int ((t.2.2.toNat:Nat):Int)])
   rw[<-k.e3]
 refine bj<|sW<|bq<|dW<|ag rfl<|.inl ⟨_,aB.of hG,ao<|N.tH ⟨_,rfl, ?_⟩⟩
 rcases zbX gs with eg | ⟨iK,g,eg⟩
 ·subst eg
  cases gv
  refine iF (iF (fresh ?_) rfl) rfl
  unfold bW;rfl
 ·rw[zbY] at eg
  subst eg
  obtain⟨dw,z,rfl,qy,gz⟩:=BB gv
  obtain⟨T,m,rfl,hT,hm,nT,nm⟩:=gz
  have tX:(iK++ [g]).getLast?=some g:=by simp
  refine iT ?_<|zqT (by rw[zqA];simp)
  have ef:dO (dw++ [V.ref T]) (-1)=some (V.ref T):=by
   unfold dO
   rw[zqA]
   show(iS (dw.length+1)<|-1).bind _=_
   rw[xf];simp
  obtain⟨v,hv,tc,rfl,hc⟩:=xu cm k.at'
  have aaU:dO vs t.2.2=some (.ref tc):=by rw[k.e3];exact ij hv
  refine dU oK rfl<|ah<|aU<|aU<|ag rfl<|j8<|cI hG ef<|ao<|aJ hT rfl<|ah<|aU<|aU<|ag rfl<|j8<|cI hG ef<|ao<|aJ hT rfl<|ah<|aU<|ag rfl<|ag rfl<|cI hl aaU<|az ?_
  refine⟨g.1,g.2.1,tc,_,_,_,rfl,hc,cq ?_⟩
  have en:near g.1 g.2.1 (min c.1 c.2.1) (max c.1 c.2.1)=near g.1 g.2.1 t.1.toNat t.2.1.toNat:=by rw[k.e1,k.e2,zat,zat]
  rw[en]
  cases LC:near g.1 g.2.1 t.1.toNat t.2.1.toNat with
  | false=>
   refine iF (fresh ?_) rfl
   unfold bW;rw[tX];simp only[LC];rfl
  | true=>
   refine iT ?_ rfl
   have eg2:bW (iK++ [g]) t=iK++ [(g.1,max g.2.1 t.2.1.toNat,g.2.2++ [t.2.2.toNat])]:=by
    unfold bW;rw[tX];simp only[LC,if_true,zbJ]
   refine aO<|aaS rfl hG ?_
   have b1:bo G H (upd H G<|.lst dw):=bo.upd
   have iL:upd H G (.lst dw) G=some (.lst dw):=aD
   have xB:=b1 _ _ hT nT
   have LD:=b1 _ _ hm nm
   generalize upd H G (.lst dw)=H1 at b1 iL xB LD⊢
   refine eJ<|eR<|ag rfl ⟨.inl ⟨rfl,_,aB.of iL⟩,dS<|ah<|aU<|ag rfl<|ao<|aJ xB rfl<|ah<|dr<|ah<|aU<|ag rfl<|ao<|aJ xB rfl<|ah<|ag rfl<|az ?_⟩
   have lg:=aL g (by simp)
   refine ah<|aN<|aU<|ag rfl<|ao<|aJ xB rfl<|bS<|ah<|ag rfl<|az ⟨(by show 1<=sizeLine;decide),fun n1 f1=> ?_⟩
   have s2:=sameNew (o:= .lst [V.int t.2.2]) f1
   refine .inl ⟨m,n1,nums g.2.2,[V.int t.2.2],rfl,rfl,s2 _ _ LD,aD,cp (by show(nums g.2.2).length+1<=_;unfold nums;rw[zag];lia),fun m2 f2=>az ⟨(by show 3<=sizeLine;decide),fun T2 f3=> ?_⟩⟩
   have s3:=sameNew (o:= .lst (nums g.2.2++ [V.int t.2.2])) f2
   have h9:=s2.trans s3
   obtain⟨cM,tY⟩: ∃cM:Int,cM=(if t.2.1> ((g.2.1:Nat):Int) then t.2.1 else ((g.2.1:Nat):Int)):=⟨_,rfl⟩
   have B7:cM=((max g.2.1 t.2.1.toNat:Nat):Int):=by
    rw[tY,k.e2,zat]
    split<;>lia
   have tZ:(upd (upd H1 n1<|.lst [V.int t.2.2]) m2<|.lst<|nums g.2.2++ [V.int t.2.2]) T2=none:=f3
   have s4:=sameNew (o:= .tup [V.int (g.1:Nat),V.int cM,V.ref m2]) tZ
   have gu:=h9.trans s4
   have t5:m2≠G:=fun z=>by rw[z,s2 _ _ iL] at f2;cases f2
   have t6:T2≠G:=fun z=>by rw[z,h9 _ _ iL] at tZ;cases tZ
   show pA K .append (.ref G) [.ref T2] (upd (upd (upd H1 n1<|.lst [V.int t.2.2]) m2<|.lst<|nums g.2.2++ [V.int t.2.2]) T2<|.tup [V.int (g.1:Nat),V.int (if t.2.1> ((g.2.1:Nat):Int) then t.2.1 else ((g.2.1:Nat):Int)),V.ref m2]) _
   rw[<-tY]
   refine⟨dw,gu _ _ iL,gg (by rw[zqA] at hn;have:=Paired.length qy;lia), ?_⟩
   have t9:=s4 _ _ (aD (H:=upd H1 n1 (.lst [V.int t.2.2])) (a:=m2) (o:= .lst (nums g.2.2++ [V.int t.2.2])))
   have t_:(upd (upd (upd H1 n1<|.lst [V.int t.2.2]) m2<|.lst<|nums g.2.2++ [V.int t.2.2]) T2<|.tup [V.int (g.1:Nat),V.int cM,V.ref m2]) T2=some (.tup [V.int (g.1:Nat),V.int cM,V.ref m2]):=aD
   generalize (upd (upd (upd H1 n1<|.lst [V.int t.2.2]) m2<|.lst<|nums g.2.2++ [V.int t.2.2]) T2<|.tup [V.int (g.1:Nat),V.int cM,V.ref m2])=H4 at gu t9 t_⊢
   have b5:bo G H4 (upd H4 G<|.lst<|dw++ [.ref T2]):=bo.upd
   have bb:bo G H (upd H4 G<|.lst<|dw++ [.ref T2]):=(b1.trans<|ka gu).trans b5
   refine hD _ (dw++ [.ref T2]) _ bb aD ?_
   rw[eg2]
   refine hZ (er.but qy bb) ⟨T2,m2,rfl, ?_, ?_,t6,t5⟩
   ·rw[b5 _ _ t_ t6,B7]
   ·rw[b5 _ _ t9 t5]
    show some (HO.lst<|nums g.2.2++ [V.int t.2.2])=some (HO.lst<|nums<|g.2.2++ [t.2.2.toNat])
    unfold nums
    rw[zap]
    show some (HO.lst<|_++ [V.int t.2.2])=some (HO.lst<|_++ [V.int ((t.2.2.toNat:Nat):Int)])
    rw[<-k.e3]
end
theorem ua{α β:Type}{R:α->β->Prop}: ∀{xs:List α} {ys:List β} {i:Nat} {x:α},Paired R xs ys->xs[i]?=some x-> ∃y,ys[i]?=some y/\R x y
 | [],[],i,x, .nil,h=>by simp at h
 | x::xs,y::ys,0,w, .cons a r,h=>by cases h;exact⟨y,rfl,a⟩
 | x::xs,y::ys,i+1,w, .cons a r,h=>ua (xs:=xs) (ys:=ys) (i:=i) r (by simpa using h)
theorem B8: ∀(us:List T3) (gs:List Gr) (n:Nat),(∀g∈gs,g.2.2.length<=n)->gs.length<=n->(∀g∈us.foldl bW gs,g.2.2.length<=n+us.length)/\(us.foldl bW gs).length<=n+us.length
 | [],gs,n,h1,h2=> ⟨h1,h2⟩
 | t::us,gs,n,h1,h2=>by
  have AS:(bW gs t).length<=n+1:=zaq aaR (by lia)
  have lp: ∀g∈bW gs t,g.2.2.length<=n+1:=by
   have one: ∀g∈gs++ [((t.1.toNat,t.2.1.toNat,[t.2.2.toNat]):Gr)],g.2.2.length<=n+1:=by
    intro g hg
    rcases zax.mp hg with hg | hg
    ·have:=h1 g hg;lia
    ·rw[zas.mp hg];show 1<=n+1;lia
   unfold bW
   split
   ·exact one
   ·rename_i g0 e0
    split
    ·intro g hg
     rcases zax.mp hg with hg | hg
     ·have:=h1 g (zbV _ hg);lia
     ·rw[zas.mp hg]
      have:=h1 g0 (zbW e0)
      show(g0.2.2++ [t.2.2.toNat]).length<=n+1
      rw[zqA];show g0.2.2.length+1<=n+1;lia
    ·exact one
  obtain⟨a,b⟩:=B8 us (bW gs t) (n+1) lp AS
  rw[zar]
  exact⟨fun g hg=>by have:=a g hg;lia,by show(us.foldl bW<|bW gs t).length<=_;lia⟩
theorem xC(us:List T3):(∀g∈groups us,g.2.2.length<=us.length)/\(groups us).length<=us.length:=by
 have:=B8 us [] 0 (fun g hg=>by cases hg) (zqR _)
 rwa [zaE] at this
theorem mU{α:Type}{l:List α}{i:Nat}{x:α}(h:l[i]?=some x):l.take (i+1)=l.take i++ [x]:=by
 have aW:i<l.length:=(zah.mp h).1
 rw[zba aW,(zah.mp h).2]
section
variable {K:Frag}
def B9:Sp:=fun vs H Q E=> ∃(l:Addr) (xs:List V) (cs:List Cu),vs=[.ref l]/\H l=some (.lst xs)/\bJ H xs cs/\cs.length<64/\
 ∀us G zs H',e_ cs us->aC H H'->H G=none->H' G=some (.lst zs)->er .tup G H' zs (groups us)->Q (.ref G) H'
theorem aaW(vs:List V)(H:Hp)(Q:VK)(E:XK)(hh:B9 vs H Q E):av (aI K xy [] (E:=E)) Iw (Dn Q) (start Iv vs) H:=by
 obtain⟨l,xs,cs,rfl,hl,cm,hn,q⟩:=hh
 have lx:xs.length=cs.length:=Paired.length cm
 refine aO<|LA<|ah ?_
 refine⟨_,rfl,l,rfl,⟨_,aB.of hl⟩, ?_⟩
 refine Lz hl (by lia) (fun i ys H2=>Paired (V3 H2) ys<|gN 0<|cs.take i) .nil (fun i ys H2 H3 p s=>L2.Paired.eU p fun v t ⟨a,e,h⟩=> ⟨a,e,s _ _ h⟩) ?_ ?_
 ·intro i x ys H2 hx s2 p Q' kk
  obtain⟨c,hc,t,rfl,ht⟩:=gM cm hx
  have jg:=s2 _ _ ht
  have hi:i<cs.length:=(zah.mp hc).1
  refine dS<|ah<|aP iI rfl<|ah<|ag rfl<|az ⟨t,_,_,_,rfl,jg,ah<|aP lH rfl<|ah<|ag rfl<|az ⟨t,_,_,_,rfl,jg,ah<|ag rfl<|az ⟨(by show 3<=sizeLine;decide),fun T fT=> ?_⟩⟩⟩
  have s3:=sameNew (o:= .tup [V.int (min c.1 c.2.1:Nat),V.int (max c.1 c.2.1:Nat),V.int (i:Nat)]) fT
  refine kk _ _ s3 ?_
  rw[mU hc,B4,zaE,zaf,zaQ (show i<=cs.length by lia)]
  exact hZ (L2.Paired.eU p fun v t ⟨a,e,h⟩=> ⟨a,e,s3 _ _ h⟩) ⟨T,rfl,aD⟩
 ·intro ys H2 p2 s2 p f2
  rw[lx,zao<|zqR _] at p
  have s3:=sameNew (o:= .lst ys) f2
  refine az ⟨p2,ys,gN 0 cs,rfl,aB.of aD,L2.Paired.eU p fun v t ⟨a,e,h⟩=> ⟨a,e,s3 _ _ h⟩,keys_nodup 0 cs,by rw[mT];exact hn,fun O zs us fO p3 pm pw=> ?_⟩
  have S:e_ cs us:=⟨pm,pw⟩
  have s4:=sameNew (o:= .lst zs) fO
  have gp:=(s2.trans s3).trans s4
  have hO:(upd (upd H2 p2<|.lst ys) O<|.lst zs) O=some (.lst zs):=aD
  have p4:Paired (V3<|upd (upd H2 p2<|.lst ys) O<|.lst zs) zs us:=L2.Paired.eU p3 fun v t ⟨a,e,h⟩=> ⟨a,e,s4 _ _ h⟩
  generalize (upd (upd H2 p2<|.lst ys) O<|.lst zs)=H3 at gp hO p4⊢
  have h_:=gp _ _ hl
  have LF:=cm.same gp
  have lu:us.length=cs.length:=by rw[pm.length_eq,mT]
  have lz:zs.length=us.length:=Paired.length p4
  refine aO<|bS<|az ⟨zqZ _,fun G fG=> ?_⟩
  have s5:=sameNew (o:= .lst []) fG
  refine BC (body:=LB)<|ag rfl ⟨O,rfl,⟨_,aB.of<|s5 _ _ hO⟩,yE (K:=K) (a:=O) (xs:=zs) (fun i σ H5=> ∃(ws:List V) (y3 y4 y5 y6:Option V),σ=[some<|.ref l,some<|.ref O,some<|.ref G,y3,y4,y5,y6]/\aC H3 H5/\H5 G=some (.lst ws)/\er .tup G H5 ws (groups<|us.take i)) ?_ ?_ ?_ ?_⟩
  ·exact⟨[],none,none,none,none,rfl,s5,aD, .nil⟩
  ·rintro i σ H5 _ ⟨ws,y3,y4,y5,y6,rfl,s6,_⟩
   exact aB.of<|s6 _ _ hO
  ·rintro i x σ H5 hi ⟨ws,y3,y4,y5,y6,rfl,s6,hG,gv⟩
   obtain⟨t,ht,T,rfl,hT⟩:=ua p4 hi
   refine BU (s6 _ _ hT) ?_
   obtain⟨c,k⟩:=xx S (zaj ht)
   have bd:=xC (us.take i)
   have li:(us.take i).length<=64:=by rw[zaf];lia
   refine aaT (s6 _ _ h_) (LF.same s6) (bT h_ fG) k hG gv (by lia) (fun g hg=>by have:=bd.1 g hg;lia) fun z6 dc H6 b6 B_ Ca=> ⟨dc,_,_,_,z6,rfl,fun b o e=>b6 _ _ (s6 _ _ e)<|bT e fG,B_, ?_⟩
   rw[mU ht,Lw];exact Ca
  ·rintro σ H5 ⟨ws,y3,y4,y5,y6,rfl,s6,hG,gv⟩
   rw[lz,zao<|zqR _] at gv
   exact aY<|ag rfl<|q us G ws H5 S (gp.trans s6) (gp.free fG) hG gv
def Cb:Sp:=fun vs H Q E=> ∃(l:Addr) (xs:List V) (cs:List Cu) (T m:Addr) (g:Gr),vs=[.ref l, .ref T]/\H l=some (.lst xs)/\bJ H xs cs/\H T=some (.tup [.int (g.1:Nat), .int (g.2.1:Nat), .ref m])/\H m=some (.lst<|nums g.2.2)/\g.2.2≠ []/\(∀k∈g.2.2,k<cs.length)/\
 ∀r H',aC H H'->gr H' r (oneOf cs g)->Q r H'
theorem LG(ms:List Nat):nums ms=(ms.map fun k=> ((k:Nat):Int)).map V.int:=by unfold nums;rw[List.map_map];rfl
theorem LH{ms:List Nat}(h:ms≠ []){x:Int}(hx:x∈ms.map fun k=> ((k:Nat):Int))(hm: ∀n∈ms.map fun k=> ((k:Nat):Int),x<=n):x=((least ms:Nat):Int):=by
 obtain⟨k,hk,rfl⟩:=zaL.mp hx
 obtain⟨a,b⟩:=B5 h
 have h1:=b k hk
 have h2:=hm _ (zaL.mpr ⟨least ms,a,rfl⟩)
 lia
theorem aaX(vs:List V)(H:Hp)(Q:VK)(E:XK)(hh:Cb vs H Q E):av (aI K [("is_backward",B6)] [] (E:=E)) Iz (Dn Q) (start Iy vs) H:=by
 obtain⟨l,xs,cs,T,m,g,rfl,hl,cm,hT,hm,cQ,cC,q⟩:=hh
 have eP:=hm
 rw[LG] at eP
 refine aO<|aU<|ag rfl<|dr<|ah<|aU<|ag rfl<|ao<|aJ hT rfl<|az ⟨_,aB.of eP,by simpa using cQ,fun x hx rT=> ?_⟩
 rw[LH cQ hx rT]
 have hk:=cC _ (B5 cQ).1
 have hc:cs[least g.2.2]?=some cs[least g.2.2]:=zav hk
 obtain⟨v,hv,tc,rfl,qz⟩:=xu cm hc
 refine cI hl (ij hv) ?_
 unfold oneOf at q
 rw[hc,Option.getD_some] at q
 refine bj<|bq<|dW<|aU<|ag rfl<|ao<|aJ hT rfl<|.inl ⟨_,aB.of hm,ao<|fg ⟨_,rfl, ?_⟩⟩
 have ln:(nums g.2.2).length=g.2.2.length:=by unfold nums;rw[zag]
 rw[ln]
 by_cases e:g.2.2.length=1
 ·simp only[e,if_true] at q
  refine iT ?_<|zqT (by lia)
  exact aY<|ag rfl<|q _ _ (aC.refl _) ⟨tc,rfl,qz⟩
 ·simp only[e,if_false] at q
  refine iF (bH ?_)<|zqF (by lia)
  refine aY<|mL<|dU B6 rfl<|ah<|ag rfl<|az ⟨tc,_,_,_,rfl,qz,cq ?_⟩
  by_cases b:(cs[least g.2.2]).2.1< (cs[least g.2.2]).1
  ·simp only[b,if_true] at q
   refine iT ?_<|zqT b
   refine dS<|ah<|aU<|ag rfl<|ao<|aJ hT rfl<|ah<|aU<|ag rfl<|ao<|aJ hT rfl<|ah<|ao<|az ⟨(by show 3<=sizeLine;decide),fun t' f'=> ?_⟩
   exact q _ _ (sameNew f') ⟨t',rfl,aD⟩
  ·simp only[b,if_false] at q
   refine iF ?_<|zqF b
   refine dS<|ah<|aU<|ag rfl<|ao<|aJ hT rfl<|ah<|aU<|ag rfl<|ao<|aJ hT rfl<|ah<|ao<|az ⟨(by show 3<=sizeLine;decide),fun t' f'=> ?_⟩
   exact q _ _ (sameNew f') ⟨t',rfl,aD⟩
def kb:Sp:=fun vs H Q E=> ∃(l:Addr) (xs:List V) (cs:List Cu),vs=[.ref l]/\H l=some (.lst xs)/\bJ H xs cs/\cs.length<64/\
 ∀us r zs H',e_ cs us->aC H H'->H r=none->H' r=some (.lst zs)->bJ H' zs (settle cs us)->Q (.ref r) H'
theorem LI{cs:List Cu}{us:List T3}(S:e_ cs us): ∀g∈groups us,g.2.2≠ []/\ ∀k∈g.2.2,k<cs.length:=
 Lx cs.length us [] (fun t ht=>by
  obtain⟨c,k⟩:=xx S ht
  exact(zah.mp k.at').1) fun g hg=>by cases hg
theorem aaY(vs:List V)(H:Hp)(Q:VK)(E:XK)(hh:kb vs H Q E):av (aI K [("gathered",B9),("as_one",Cb)] [] (E:=E)) IB (Dn Q) (start IA vs) H:=by
 obtain⟨l,xs,cs,rfl,hl,cm,hn,q⟩:=hh
 refine aY<|mJ<|aP B9 rfl<|ah<|ag rfl<|az ⟨l,xs,cs,rfl,hl,cm,hn,fun us G zs H1 S s1 fG hG gv=> ⟨G,rfl,⟨_,aB.of hG⟩, ?_⟩⟩
 have lu:us.length=cs.length:=by rw[S.1.length_eq,mT]
 have bd:=xC us
 have lz:zs.length=(groups us).length:=Paired.length gv
 refine mI hG (by lia) (fun i ys H2=>bJ H2 ys<|((groups us).take i).map<|oneOf cs) .nil ?_ ?_
 ·intro i x ys H2 hx s2 p Q' kk
  obtain⟨g,hg,T,m,rfl,hT,hm,_,_⟩:=ua gv hx
  have ok:=LI S g (zaj hg)
  have dv:=s1.trans s2
  refine aP Cb rfl<|ah<|ag rfl<|ah<|ag rfl<|az ⟨l,xs,cs,T,m,g,rfl,dv _ _ hl,cm.same dv,s2 _ _ hT,s2 _ _ hm,ok.1,ok.2,fun r H3 s3 hr=>kk _ _ s3 ?_⟩
  rw[mU hg,zap]
  exact hZ (bJ.same p s3) hr
 ·intro ys H2 p2 s2 p f2
  rw[lz,zao<|zqR _] at p
  have s3:=sameNew (o:= .lst ys) f2
  exact q us p2 ys _ S ((s1.trans s2).trans s3) ((s1.trans s2).free f2) aD<|bJ.same p s3
end
def gw(g:Gr):PyData:= .list [.int (g.1:Nat), .int (g.2.1:Nat), .list<|(g.2.2.map fun k=> ((k:Nat):Int)).map .int]
theorem aaZ(g:Gr):(gw g).canLay0=true/\(gw g).depth<=2:=by
 constructor
 ·show(true && (true && (PyData.canLayAll0 ((g.2.2.map fun k=> ((k:Nat):Int)).map .int) && true)))=true
  rw[PyProof.Rows.canLayAll_ints];rfl
 ·show max 0 (max 0<|max (PyData.depthAll ((g.2.2.map fun k=> ((k:Nat):Int)).map .int)+1) 0)+1<=2
  rw[PyProof.Rows.depthAll_ints];decide
theorem LJ: ∀(gs:List Gr),PyData.canLayAll0 (gs.map gw)=true/\PyData.depthAll (gs.map gw)<=2
 | []=> ⟨rfl,zqZ _⟩
 | g::r=>by
  obtain⟨a,b⟩:=aaZ g
  obtain⟨c,d⟩:=LJ r
  refine⟨?_, ?_⟩
  ·show((gw g).canLay0 && PyData.canLayAll0 (r.map gw))=true
   rw[a,c];rfl
  ·show max (gw g).depth (PyData.depthAll<|r.map gw)<=2
   lia
theorem aa0(gs:List Gr):SeqAt.shaped (.list<|gs.map gw)=true:=by
 obtain⟨c,d⟩:=LJ gs
 unfold SeqAt.shaped
 have e:(PyData.list<|gs.map gw).canLay0=true:=c
 have e2:(PyData.list<|gs.map gw).depth<=64:=by show PyData.depthAll (gs.map gw)+1<=64;lia
 rw[e,zqT e2];rfl
theorem LK(H:Hp): ∀ms:List Nat,IsL H ((ms.map fun k=> ((k:Nat):Int)).map PyData.int) (nums ms)
 | []=>rfl
 | k::r=> ⟨_,_,rfl,rfl,LK H r⟩
theorem LL{G:Addr}{H:Hp}: ∀{zs:List V} {gs:List Gr},er .lst G H zs gs->IsL H (gs.map gw) zs
 | [],[], .nil=>rfl
 | z::zs,g::gs, .cons x r=>by
  obtain⟨t,m,rfl,h1,h2,_,_⟩:=x
  exact⟨_,_,rfl,⟨t,_,rfl,h1,_,_,rfl,rfl,_,_,rfl,rfl,_,_,rfl,⟨m,_,rfl,h2,LK H _⟩,rfl⟩,LL r⟩
section
variable {K:Frag}
theorem aa1{H:Hp}{a b G:Addr}{xs:List V}{gs:List Gr}{Q:VK}(ha:H a=some (.lst xs))(hb:H b=some (.lst []))(hx:er .lst G H xs gs)(q:Q (.bl<|decide<|gs≠ []) H):b9 K .NotEq (.ref a) (.ref b) H Q:=by
 refine⟨.list<|gs.map gw, .list [],⟨a,xs,rfl,ha,LL hx⟩,⟨b,[],rfl,hb,rfl⟩,aa0 gs,(by decide), ?_⟩
 have e:(true ^^ PyData.eqv (.list<|gs.map gw) (.list []))=decide (gs≠ []):=by
  cases gs with
  | nil=>rfl
  | cons p r=>rfl
 rw[e];exact q
theorem LM{i j k:Nat}{t:Addr}{u v w:V}{σ:St}{H:Hp}{Q:St->Hp->Prop}(ht:H t=some (.lst [u,v,w]))(q:Q (((σ.set i<|some u).set j<|some v).set k<|some w) H):jP K [i,j,k].length (i8 [i,j,k]) (.ref t) σ H Q:=
 ⟨t,_,rfl, .inr<|aB.of ht,rfl,_,_,rfl,_,_,rfl,_,_,rfl,rfl,q⟩
def lsBody:List RS:=[.asg 5 (.c (.bl false)),
  .ite (.cmp .NotEq (.v 1) (.lst [])) [.nB [6,7,8] (.ix (.v 1) (.neg (.c (.int 1)))),
   .asg 5 (.or [(.cmp .Lt (.v 2) (.v 7)),(.and [(.cmp .Eq (.v 2) (.v 7)),(.or [(.cmp .Eq (.v 6) (.v 7)),(.cmp .Eq (.v 2) (.v 3))])])])] [],
  .ite (.v 5) [.set (.v 1) (.neg (.c (.int 1))) (.lst [(.v 6),(.blt .max [(.v 7),(.v 3)]),(.bin .Add (.v 8) (.lst [(.v 4)]))])] [.drop (.bD .append (.v 1) [(.lst [(.v 2),(.v 3),(.lst [(.v 4)])])])]]
def Cc:List RS:=[.ite (.v 5) [.set (.v 1) (.neg<|.c<|.int 1)<|.lst [(.v 6),(.blt .max [(.v 7),(.v 3)]),(.bin .Add (.v 8)<|.lst [(.v 4)])]] [.drop<|.bD .append (.v 1) [(.lst [(.v 2),(.v 3),(.lst [(.v 4)])])]]]
theorem LN{E:XK}{D:Ends}{H:Hp}{G:Addr}{cs:List Cu}{t:T3}{c:Cu}{zs:List V}{gs:List Gr}{u0 u6 u7 u8 u9 dX:Option V}(k:oM cs t c)(hG:H G=some (.lst zs))(gv:er .lst G H zs gs)(hn:gs.length<=1000)
  (e:bW gs t=gs++ [(t.1.toNat,t.2.1.toNat,[t.2.2.toNat])])
  (hD: ∀(dc:List V) H',bo G H H'->H' G=some (.lst dc)->er .lst G H' dc (bW gs t)->D.nx [u0,some<|.ref G,some<|.int t.1,some<|.int t.2.1,some<|.int t.2.2,some<|.bl false,u6,u7,u8,u9,dX] H'):
  av (aI K [] [] (E:=E)) Cc D [u0,some<|.ref G,some<|.int t.1,some<|.int t.2.1,some<|.int t.2.2,some<|.bl false,u6,u7,u8,u9,dX] H:=by
 have lz:=Paired.length gv
 refine bj<|tP rfl<|iF ?_ rfl
 refine eJ<|eR<|ag rfl ⟨.inl ⟨rfl,_,aB.of hG⟩,bS<|ah<|ag rfl<|ah<|ag rfl<|ah<|bS<|ah<|ag rfl<|az ⟨(by show 1<=sizeLine;decide),fun m fm=>az ⟨(by show 3<=sizeLine;decide),fun T fT=> ?_⟩⟩⟩
 have s1:=sameNew (o:= .lst [V.int t.2.2]) fm
 have s2:=sameNew (o:= .lst [V.int t.1,V.int t.2.1,V.ref m]) fT
 have dv:=s1.trans s2
 have nm:m≠G:=fun z=>by rw[z,hG] at fm;cases fm
 have nT:T≠G:=fun z=>by rw[z,s1 _ _ hG] at fT;cases fT
 refine⟨zs,dv _ _ hG,gg (by lia), ?_⟩
 have b3:bo G (upd (upd H m<|.lst [V.int t.2.2]) T<|.lst [V.int t.1,V.int t.2.1,V.ref m]) (upd (upd (upd H m<|.lst [V.int t.2.2]) T<|.lst [V.int t.1,V.int t.2.1,V.ref m]) G<|.lst<|zs++ [.ref T]):=bo.upd
 have bb:bo G H (upd (upd (upd H m<|.lst [V.int t.2.2]) T<|.lst [V.int t.1,V.int t.2.1,V.ref m]) G<|.lst<|zs++ [.ref T]):=(ka dv).trans b3
 refine hD (zs++ [.ref T]) _ bb aD ?_
 rw[e]
 refine hZ (gv.but bb) ⟨T,m,rfl, ?_, ?_,nT,nm⟩
 ·rw[b3 _ _ aD nT,show t.1=((t.1.toNat:Nat):Int) by rw[k.e1,zat],show t.2.1=((t.2.1.toNat:Nat):Int) by rw[k.e2,zat]]
  simp only[zat]
 ·rw[b3 _ _ (s2 _ _ aD) nm]
  show some (HO.lst [V.int t.2.2])=some (HO.lst [V.int ((t.2.2.toNat:Nat):Int)])
  rw[<-k.e3]
theorem aa2{E:XK}{D:Ends}{H:Hp}{G T m:Addr}{cs:List Cu}{t:T3}{c:Cu}{dw:List V}{iK:List Gr}{g:Gr}{u0 u9 dX:Option V}(k:oM cs t c)(hG:H G=some (.lst<|dw++ [.ref T]))(qy:er .lst G H dw iK)(hm:H m=some (.lst<|nums g.2.2))(nm:m≠G)(hn:g.2.2.length<=1000)
  (e:bW (iK++ [g]) t=iK++ [(g.1,max g.2.1 t.2.1.toNat,g.2.2++ [t.2.2.toNat])])
  (hD: ∀(dc:List V) H',bo G H H'->H' G=some (.lst dc)->er .lst G H' dc (bW (iK++ [g]) t)->D.nx [u0,some<|.ref G,some<|.int t.1,some<|.int t.2.1,some<|.int t.2.2,some<|.bl true,some<|.int (g.1:Nat),some<|.int (g.2.1:Nat),some<|.ref m,u9,dX] H'):
  av (aI K [] [] (E:=E)) Cc D [u0,some<|.ref G,some<|.int t.1,some<|.int t.2.1,some<|.int t.2.2,some<|.bl true,some<|.int (g.1:Nat),some<|.int (g.2.1:Nat),some<|.ref m,u9,dX] H:=by
 refine bj<|tP rfl<|iT ?_ rfl
 obtain⟨cM,tY⟩: ∃cM:Int,cM=(if t.2.1> ((g.2.1:Nat):Int) then t.2.1 else ((g.2.1:Nat):Int)):=⟨_,rfl⟩
 have B7:cM=((max g.2.1 t.2.1.toNat:Nat):Int):=by
  rw[tY,k.e2,zat]
  split<;>lia
 refine ZX<|bS<|ah<|ag rfl<|ah<|dr<|ah<|ag rfl<|ah<|ag rfl<|az ?_
 show aZ (aI K [] [] (E:=E)) [.bin .Add (.v 8)<|.lst [.v 4]] _ H _
 refine ah<|aN<|ag rfl<|bS<|ah<|ag rfl<|az ⟨(by show 1<=sizeLine;decide),fun n1 f1=> ?_⟩
 have s2:=sameNew (o:= .lst [V.int t.2.2]) f1
 refine .inl ⟨m,n1,nums g.2.2,[V.int t.2.2],rfl,rfl,s2 _ _ hm,aD,cp (by show(nums g.2.2).length+1<=_;unfold nums;rw[zag];lia),fun m2 f2=>az ⟨(by show 3<=sizeLine;decide),fun T2 f3=> ?_⟩⟩
 have s3:=sameNew (o:= .lst (nums g.2.2++ [V.int t.2.2])) f2
 have h9:=s2.trans s3
 have s4:=sameNew (o:= .lst [V.int (g.1:Nat),V.int cM,V.ref m2]) f3
 have gu:=h9.trans s4
 have t5:m2≠G:=fun z=>by rw[z,s2 _ _ hG] at f2;cases f2
 have t6:T2≠G:=fun z=>by rw[z,h9 _ _ hG] at f3;cases f3
 have t9:=s4 _ _ (aD (H:=upd H n1 (.lst [V.int t.2.2])) (a:=m2) (o:= .lst (nums g.2.2++ [V.int t.2.2])))
 have t_:(upd (upd (upd H n1<|.lst [V.int t.2.2]) m2<|.lst<|nums g.2.2++ [V.int t.2.2]) T2<|.lst [V.int (g.1:Nat),V.int cM,V.ref m2]) T2=some (.lst [V.int (g.1:Nat),V.int cM,V.ref m2]):=aD
 have eo:(HO.lst [V.int (g.1:Nat),V.int (if t.2.1> ((g.2.1:Nat):Int) then t.2.1 else ((g.2.1:Nat):Int)),V.ref m2])=HO.lst [V.int (g.1:Nat),V.int cM,V.ref m2]:=by rw[tY]
 refine ag rfl<|j8 ⟨G,_, -1,dw.length,rfl,rfl,(show(upd (upd (upd H n1<|.lst [V.int t.2.2]) m2<|.lst<|nums g.2.2++ [V.int t.2.2]) T2<|.lst [V.int (g.1:Nat),V.int (if t.2.1> ((g.2.1:Nat):Int) then t.2.1 else ((g.2.1:Nat):Int)),V.ref m2]) G=some (.lst<|dw++ [.ref T]) by rw[eo];exact gu _ _ hG),by rw[zqA];exact xf _, ?_⟩
 have es:(dw++ [V.ref T]).set dw.length (.ref T2)=dw++ [.ref T2]:=by rw[List.set_append_right _ _<|zqR _,Nat.sub_self];rfl
 rw[es]
 show D.nx [u0,some<|.ref G,some<|.int t.1,some<|.int t.2.1,some<|.int t.2.2,some<|.bl true,some<|.int (g.1:Nat),some<|.int (g.2.1:Nat),some<|.ref m,u9,dX] (upd (upd (upd (upd H n1<|.lst [V.int t.2.2]) m2<|.lst<|nums g.2.2++ [V.int t.2.2]) T2<|.lst [V.int (g.1:Nat),V.int (if t.2.1> ((g.2.1:Nat):Int) then t.2.1 else ((g.2.1:Nat):Int)),V.ref m2]) G<|.lst<|dw++ [.ref T2])
 rw[eo]
 generalize (upd (upd (upd H n1<|.lst [V.int t.2.2]) m2<|.lst<|nums g.2.2++ [V.int t.2.2]) T2<|.lst [V.int (g.1:Nat),V.int cM,V.ref m2])=H4 at gu t9 t_⊢
 have b5:bo G H4 (upd H4 G<|.lst<|dw++ [.ref T2]):=bo.upd
 have bb:bo G H (upd H4 G<|.lst<|dw++ [.ref T2]):=(ka gu).trans b5
 refine hD (dw++ [.ref T2]) _ bb aD ?_
 rw[e]
 refine hZ (er.but qy bb) ⟨T2,m2,rfl, ?_, ?_,t6,t5⟩
 ·rw[b5 _ _ t_ t6,B7]
 ·rw[b5 _ _ t9 t5]
  show some (HO.lst<|nums g.2.2++ [V.int t.2.2])=some (HO.lst<|nums<|g.2.2++ [t.2.2.toNat])
  unfold nums
  rw[zap]
  show some (HO.lst<|_++ [V.int t.2.2])=some (HO.lst<|_++ [V.int ((t.2.2.toNat:Nat):Int)])
  rw[<-k.e3]
theorem aa3{E:XK}{D:Ends}{H:Hp}{G:Addr}{cs:List Cu}{t:T3}{c:Cu}{zs:List V}{gs:List Gr}{u0 u5 u6 u7 u8 u9 dX:Option V}(k:oM cs t c)(hG:H G=some (.lst zs))(gv:er .lst G H zs gs)(hn:gs.length<=1000)(aL: ∀g∈gs,g.2.2.length<=1000)
  (hD: ∀(y5 y6 y7 y8:Option V) (dc:List V) H',bo G H H'->H' G=some (.lst dc)->er .lst G H' dc (bW gs t)->D.nx [u0,some<|.ref G,some<|.int t.1,some<|.int t.2.1,some<|.int t.2.2,y5,y6,y7,y8,u9,dX] H'):
  av (aI K [] [] (E:=E)) lsBody D [u0,some<|.ref G,some<|.int t.1,some<|.int t.2.1,some<|.int t.2.2,u5,u6,u7,u8,u9,dX] H:=by
 refine aO<|ao ?_
 refine bj<|bq<|ag rfl<|bS<|az ⟨zqZ _,fun e0 fe=> ?_⟩
 have s1:=sameNew (o:= .lst []) fe
 have ub:=er.but gv (ka s1)
 have iL:=s1 _ _ hG
 refine aa1 iL aD ub ⟨_,rfl, ?_⟩
 generalize upd H e0 (.lst [])=H1 at s1 ub iL⊢
 have Cd: ∀(y5 y6 y7 y8:Option V) (dc:List V) H',bo G H1 H'->H' G=some (.lst dc)->er .lst G H' dc (bW gs t)->D.nx [u0,some<|.ref G,some<|.int t.1,some<|.int t.2.1,some<|.int t.2.2,y5,y6,y7,y8,u9,dX] H':=fun y5 y6 y7 y8 dc H' b=>hD y5 y6 y7 y8 dc H' ((ka s1).trans b)
 rcases zbX gs with eg | ⟨iK,g,eg⟩
 ·subst eg
  refine iF (bH ?_) rfl
  exact LN k iL ub hn (by unfold bW;rfl) fun dc H' b h1 h2=>Cd _ _ _ _ dc H' b h1 h2
 ·rw[zbY] at eg
  subst eg
  refine iT ?_ (by simp)
  obtain⟨dw,z,rfl,qy,gz⟩:=BB ub
  obtain⟨T,m,rfl,hT,hm,nT,nm⟩:=gz
  have tX:(iK++ [g]).getLast?=some g:=by simp
  have ef:dO (dw++ [V.ref T]) (-1)=some (V.ref T):=by
   unfold dO
   rw[zqA]
   show(iS (dw.length+1)<|-1).bind _=_
   rw[xf];simp
  refine BK<|aU<|ag rfl<|j8<|cI iL ef<|LM hT ?_
  have cont: ∀nb:Bool,nb=near g.1 g.2.1 t.1.toNat t.2.1.toNat->av (aI K [] [] (E:=E)) Cc D [u0,some<|.ref G,some<|.int t.1,some<|.int t.2.1,some<|.int t.2.2,some<|.bl nb,some<|.int (g.1:Nat),some<|.int (g.2.1:Nat),some<|.ref m,u9,dX] H1:=by
   intro nb LO
   cases nb with
   | true=>exact aa2 k iL qy hm nm (aL g (by simp)) (by unfold bW;rw[tX];simp only[<-LO,if_true,zbJ]) fun dc H' b h1 h2=>Cd _ _ _ _ dc H' b h1 h2
   | false=>exact LN k iL ub hn (by unfold bW;rw[tX];simp only[<-LO];rfl) fun dc H' b h1 h2=>Cd _ _ _ _ dc H' b h1 h2
  have q1:t.1=((t.1.toNat:Nat):Int):=by rw[k.e1,zat]
  have q2:t.2.1=((t.2.1.toNat:Nat):Int):=by rw[k.e2,zat]
  refine aO<|lG<|cZ<|ag rfl<|ag rfl<|N.ltI ⟨_,rfl, ?_⟩
  by_cases c1:t.1< ((g.2.1:Nat):Int)
  ·refine iT (cont true ?_) (zqT c1)
   unfold near;rw[if_neg (by lia),zqT (by lia)]
  ·refine iF ?_ (zqF c1)
   refine iH<|cZ<|ag rfl<|ag rfl<|fg ⟨_,rfl, ?_⟩
   by_cases c2:t.1=((g.2.1:Nat):Int)
   ·refine iT (qv<|lG<|cZ<|ag rfl<|ag rfl<|fg ⟨_,rfl, ?_⟩) (zqT c2)
    by_cases c3:((g.1:Nat):Int)=((g.2.1:Nat):Int)
    ·refine iT (cont true ?_) (zqT c3)
     unfold near;rw[if_pos (by lia),zqT (show g.1=g.2.1 by lia)];rfl
    ·refine iF (cZ<|ag rfl<|ag rfl<|fg<|cont _ ?_) (zqF c3)
     unfold near;rw[if_pos (by lia),zqF (show ¬g.1=g.2.1 by lia),Bool.false_or,zaB]
     simp only[decide_eq_true_eq];lia
   ·refine iF (cont false ?_) (zqF c2)
    unfold near;rw[if_neg (by lia),zqF (by lia)]
end
section
variable {K:Frag}
theorem aa4{Γ:aX}{σ:St}{H:Hp}{Q:VK}{as:List RE}(h:aZ Γ as σ H fun vs H1=>wB Γ.K vs H1 Q):aj Γ (.xt AW as) σ H Q:=h
theorem aa5{Γ:aX}{σ:St}{H:Hp}{Q:VK}{as:List RE}(h:aZ Γ as σ H fun vs H1=>wC Γ.K vs H1 Q):aj Γ (.xt AX as) σ H Q:=h
theorem LP: ¬(HT.bp 3 0 none=0/\HT.bp 3 3 (some 2)=3):=by decide
theorem gr.but{F:Addr}{H H':Hp}{ws:List V}{v:V}{c:Cu}(x:gr H v c)(hF:H F=some (.lst ws))(b:bo F H H'):gr H' v c:=by
 obtain⟨t,e,h⟩:=x
 refine⟨t,e,b _ _ h fun z=> ?_⟩
 have h':H t=some (.tup _):=h
 rw[z,hF] at h';cases h'
def LQ:List RS:=[.asg 10 (.ix (.v 0) (.blt .min [(.v 8)])),
  .ite (.cmp .Eq (.blt .len [(.v 8)]) (.c (.int 1))) [.drop (.bD .append (.v 9) [(.v 10)])] [.ite (.cmp .Lt (.ix (.v 10) (.c (.int 1))) (.ix (.v 10) (.c (.int 0)))) [.drop (.bD .append (.v 9) [(.tup [(.v 3),(.v 2),(.c .aA)])])] [.drop (.bD .append (.v 9) [(.tup [(.v 2),(.v 3),(.c .aA)])])]]]
theorem aa6{E:XK}{D:Ends}{H:Hp}{l F m:Addr}{xs ws:List V}{cs ds:List Cu}{g:Gr}{u1 u4 u5 u6 u7 dX:Option V}(hl:H l=some (.lst xs))(cm:bJ H xs cs)(hm:H m=some (.lst<|nums g.2.2))(cQ:g.2.2≠ [])(cC: ∀k∈g.2.2,k<cs.length)
  (hF:H F=some (.lst ws)) (lX:bJ H ws ds) (hn:ds.length<=1000)
  (hD: ∀(kc:Option V) (LR:List V) H',bo F H H'->H' F=some (.lst LR)->bJ H' LR (ds++ [oneOf cs g])->D.nx [some<|.ref l,u1,some<|.int (g.1:Nat),some<|.int (g.2.1:Nat),u4,u5,u6,u7,some<|.ref m,some<|.ref F,kc] H'):
  av (aI K [] [] (E:=E)) LQ D [some<|.ref l,u1,some<|.int (g.1:Nat),some<|.int (g.2.1:Nat),u4,u5,u6,u7,some<|.ref m,some<|.ref F,dX] H:=by
 have lw:=Paired.length lX
 have eP:=hm
 rw[LG] at eP
 refine aO<|aU<|ag rfl<|dr<|ah<|ag rfl<|az ⟨_,aB.of eP,by simpa using cQ,fun x hx rT=> ?_⟩
 rw[LH cQ hx rT]
 have hk:=cC _ (B5 cQ).1
 have hc:cs[least g.2.2]?=some cs[least g.2.2]:=zav hk
 obtain⟨v,hv,tc,rfl,qz⟩:=xu cm hc
 refine cI hl (ij hv) ?_
 have eo:oneOf cs g=(if g.2.2.length=1 then cs[least g.2.2] else if (cs[least g.2.2]).2.1< (cs[least g.2.2]).1 then (g.2.1,g.1,none) else (g.1,g.2.1,none)):=by
  unfold oneOf;rw[hc,Option.getD_some]
 have ln:(nums g.2.2).length=g.2.2.length:=by unfold nums;rw[zag]
 refine bj<|bq<|dW<|ag rfl<|.inl ⟨_,aB.of hm,ao<|fg ⟨_,rfl, ?_⟩⟩
 rw[ln]
 have new: ∀a b:Nat,oneOf cs g=(a,b,none)-> ∀(t':Addr),H t'=none->D.nx [some<|.ref l,u1,some<|.int (g.1:Nat),some<|.int (g.2.1:Nat),u4,u5,u6,u7,some<|.ref m,some<|.ref F,some<|.ref tc] (upd (upd H t'<|.tup [.int (a:Nat), .int (b:Nat), .aA]) F<|.lst<|ws++ [.ref t']):=by
  intro a b e t' ft
  have s1:=sameNew (o:= .tup [V.int (a:Nat),V.int (b:Nat),V.aA]) ft
  have nt:t'≠F:=fun z=>by rw[z,hF] at ft;cases ft
  have b2:bo F (upd H t'<|.tup [.int (a:Nat), .int (b:Nat), .aA]) (upd (upd H t'<|.tup [.int (a:Nat), .int (b:Nat), .aA]) F<|.lst<|ws++ [.ref t']):=bo.upd
  have bb:=(ka s1 (c:=F)).trans b2
  refine hD _ (ws++ [.ref t']) _ bb aD ?_
  rw[e]
  exact hZ (L2.Paired.eU lX fun _ _ x=>x.but hF bb) ⟨t',rfl,b2 _ _ aD nt⟩
 by_cases e:g.2.2.length=1
 ·rw[if_pos e] at eo
  refine iT ?_<|zqT (by lia)
  refine eJ<|eR<|ag rfl ⟨.inl ⟨rfl,_,aB.of hF⟩,ag rfl ⟨ws,hF,gg (by lia), ?_⟩⟩
  have bb:bo F H (upd H F<|.lst<|ws++ [.ref tc]):=bo.upd
  refine hD _ (ws++ [.ref tc]) _ bb aD ?_
  rw[eo]
  exact hZ (L2.Paired.eU lX fun _ _ x=>x.but hF bb)<|gr.but ⟨tc,rfl,qz⟩ hF bb
 ·rw[if_neg e] at eo
  refine iF ?_<|zqF (by lia)
  refine bj<|bq<|aU<|ag rfl<|ao<|aJ qz rfl<|aU<|ag rfl<|ao<|aJ qz rfl<|N.ltI ⟨_,rfl, ?_⟩
  by_cases b:(cs[least g.2.2]).2.1< (cs[least g.2.2]).1
  ·rw[if_pos b] at eo
   refine iT ?_<|zqT (by lia)
   refine eJ<|eR<|ag rfl ⟨.inl ⟨rfl,_,aB.of hF⟩,dS<|ah<|ag rfl<|ah<|ag rfl<|ah<|ao<|az ⟨(by show 3<=sizeLine;decide),fun t' f'=> ?_⟩⟩
   exact⟨ws,sameNew f' _ _ hF,gg (by lia),new _ _ eo t' f'⟩
  ·rw[if_neg b] at eo
   refine iF ?_<|zqF (by lia)
   refine eJ<|eR<|ag rfl ⟨.inl ⟨rfl,_,aB.of hF⟩,dS<|ah<|ag rfl<|ah<|ag rfl<|ah<|ao<|az ⟨(by show 3<=sizeLine;decide),fun t' f'=> ?_⟩⟩
   exact⟨ws,sameNew f' _ _ hF,gg (by lia),new _ _ eo t' f'⟩
theorem aa7(vs:List V)(H:Hp)(Q:VK)(E:XK)(hh:kb vs H Q E):av (aI K [] [] (E:=E)) g6 (Dn Q) (start n_ vs) H:=by
 obtain⟨l,xs,cs,rfl,hl,cm,hn,q⟩:=hh
 have lx:xs.length=cs.length:=Paired.length cm
 refine aO<|bS<|az ⟨zqZ _,fun G fG=> ?_⟩
 have s0:=sameNew (o:= .lst []) fG
 have Ce:upd H G (.lst []) G=some (.lst []):=aD
 have xF:=s0 _ _ hl
 have Cf:=cm.same s0
 generalize upd H G (.lst [])=H0 at s0 Ce xF Cf⊢
 refine BC (body:=lsBody)<|LA<|ah ?_
 refine⟨_,rfl,l,rfl,⟨_,aB.of xF⟩, ?_⟩
 refine Lz xF (by lia) (fun i ys H2=>Paired (V3 H2) ys<|gN 0<|cs.take i) .nil (fun i ys H2 H3 p s=>L2.Paired.eU p fun v t ⟨a,e,h⟩=> ⟨a,e,s _ _ h⟩) ?_ ?_
 ·intro i x ys H2 hx s2 p Q' kk
  obtain⟨c,hc,t,rfl,ht⟩:=gM Cf hx
  have jg:H2 t=some (.tup [.int (c.1:Nat), .int (c.2.1:Nat),gV c.2.2]):=s2 _ _ ht
  have hi:i<cs.length:=(zah.mp hc).1
  refine dS<|ah<|aa4<|ah<|qw<|ag rfl<|ao ⟨2,rfl, .inr ⟨_,ba.of jg,LP,fun c1 f1=>az ⟨c1,[(c.1:Int),(c.2.1:Int)],rfl,ba.of aD,by simp,fun mn hmn LS=> ?_⟩⟩⟩
  have s3:=sameNew (o:= .tup (dJ [V.int (c.1:Nat),V.int (c.2.1:Nat),gV c.2.2] none<|some 2)) f1
  have xG:=s3 _ _ jg
  refine ah<|aa5<|ah<|qw<|ag rfl<|ao ⟨2,rfl, .inr ⟨_,ba.of xG,LP,fun c2 f2=>az ⟨c2,[(c.1:Int),(c.2.1:Int)],rfl,ba.of aD,by simp,fun mx hmx LU=> ?_⟩⟩⟩
  have s4:=sameNew (o:= .tup (dJ [V.int (c.1:Nat),V.int (c.2.1:Nat),gV c.2.2] none<|some 2)) f2
  have e1:mn=((min c.1 c.2.1:Nat):Int):=by
   have a1:=LS (c.1:Int) (by simp)
   have a2:=LS (c.2.1:Int) (by simp)
   simp only[zaa,zac,or_false] at hmn
   lia
  have e2:mx=((max c.1 c.2.1:Nat):Int):=by
   have a1:=LU (c.1:Int) (by simp)
   have a2:=LU (c.2.1:Int) (by simp)
   simp only[zaa,zac,or_false] at hmx
   lia
  rw[e1,e2]
  refine ah<|ag rfl<|az ⟨(by show 3<=sizeLine;decide),fun T fT=> ?_⟩
  have s5:=sameNew (o:= .tup [V.int (min c.1 c.2.1:Nat),V.int (max c.1 c.2.1:Nat),V.int (i:Nat)]) fT
  have LV:=(s3.trans s4).trans s5
  refine kk _ _ LV ?_
  rw[mU hc,B4,zaE,zaf,zaQ (show i<=cs.length by lia)]
  exact hZ (L2.Paired.eU p fun v t ⟨a,e,h⟩=> ⟨a,e,LV _ _ h⟩) ⟨T,rfl,aD⟩
 ·intro ys H2 p2 s2 p f2
  rw[lx,zao<|zqR _] at p
  have s3:=sameNew (o:= .lst ys) f2
  refine az ⟨p2,ys,gN 0 cs,rfl,aB.of aD,L2.Paired.eU p fun v t ⟨a,e,h⟩=> ⟨a,e,s3 _ _ h⟩,keys_nodup 0 cs,by rw[mT];exact hn,fun O zs us fO p3 pm pw=> ?_⟩
  have S:e_ cs us:=⟨pm,pw⟩
  have s4:=sameNew (o:= .lst zs) fO
  have gp:=(s2.trans s3).trans s4
  have nO:O≠G:=fun z=>by rw[z,(s2.trans s3) _ _ Ce] at fO;cases fO
  have hO:(upd (upd H2 p2<|.lst ys) O<|.lst zs) O=some (.lst zs):=aD
  have p4:Paired (V3<|upd (upd H2 p2<|.lst ys) O<|.lst zs) zs us:=L2.Paired.eU p3 fun v t ⟨a,e,h⟩=> ⟨a,e,s4 _ _ h⟩
  generalize (upd (upd H2 p2<|.lst ys) O<|.lst zs)=H3 at gp hO p4⊢
  have LW:=gp _ _ Ce
  have h_:=gp _ _ xF
  have LF:=Cf.same gp
  have lu:us.length=cs.length:=by rw[pm.length_eq,mT]
  have lz:zs.length=us.length:=Paired.length p4
  have nl:l≠G:=bT hl fG
  refine⟨O,rfl,⟨_,aB.of hO⟩,yE (K:=K) (a:=O) (xs:=zs) (fun i σ H5=> ∃(ws:List V) (y2 y3 y4 y5 y6 y7 y8:Option V),σ=[some<|.ref l,some<|.ref G,y2,y3,y4,y5,y6,y7,y8,none,none]/\bo G H3 H5/\H5 G=some (.lst ws)/\er .lst G H5 ws (groups<|us.take i)) ?_ ?_ ?_ ?_⟩
  ·exact⟨[],none,none,none,none,none,none,none,rfl,ka<|aC.refl _,LW, .nil⟩
  ·rintro i σ H5 _ ⟨ws,y2,y3,y4,y5,y6,y7,y8,rfl,b5,_⟩
   exact aB.of<|b5 _ _ hO nO
  ·rintro i x σ H5 hi ⟨ws,y2,y3,y4,y5,y6,y7,y8,rfl,b5,hG,gv⟩
   obtain⟨t,ht,T,rfl,hT⟩:=ua p4 hi
   have nT:T≠G:=fun z=>by rw[z,LW] at hT;cases hT
   refine BU (b5 _ _ hT nT) ?_
   obtain⟨c,k⟩:=xx S (zaj ht)
   have bd:=xC (us.take i)
   have li:(us.take i).length<=64:=by rw[zaf];lia
   refine aa3 k hG gv (by lia) (fun g hg=>by have:=bd.1 g hg;lia) fun z5 z6 z7 z8 dc H6 b6 B_ Ca=> ⟨dc,_,_,_,z5,z6,z7,z8,rfl,b5.trans b6,B_, ?_⟩
   rw[mU ht,Lw];exact Ca
  ·rintro σ H5 ⟨ws,y2,y3,y4,y5,y6,y7,y8,rfl,b5,hG,gv⟩
   rw[lz,zao<|zqR _] at gv
   have bd:=xC us
   have lg:ws.length=(groups us).length:=Paired.length gv
   have sH:aC H H5:=fun b o e=>b5 _ _ (gp _ _<|s0 _ _ e) (bT e fG)
   have hl5:=sH _ _ hl
   have aba:=cm.same sH
   refine aO<|bS<|az ⟨zqZ _,fun F fF=> ?_⟩
   have s6:=sameNew (o:= .lst []) fF
   refine BC (body:=LQ)<|ag rfl ⟨G,rfl,⟨_,aB.of<|s6 _ _ hG⟩,yE (K:=K) (a:=G) (xs:=ws) (fun i σ H7=> ∃(rs:List V) (y2 y3 y8 kc:Option V),σ=[some<|.ref l,some<|.ref G,y2,y3,y4,y5,y6,y7,y8,some<|.ref F,kc]/\aC H5 H7/\H7 F=some (.lst rs)/\bJ H7 rs (((groups us).take i).map<|oneOf cs)) ?_ ?_ ?_ ?_⟩
   ·exact⟨[],y2,y3,y8,none,rfl,s6,aD, .nil⟩
   ·rintro i σ H7 _ ⟨rs,z2,z3,z8,xH,rfl,s7,_⟩
    exact aB.of<|s7 _ _ hG
   ·rintro i x σ H7 hi ⟨rs,z2,z3,z8,xH,rfl,s7,hF,ds⟩
    obtain⟨g,hg,T,m,rfl,hT,hm,_,_⟩:=ua gv hi
    have ok:=LI S g (zaj hg)
    refine LM (s7 _ _ hT) ?_
    refine aa6 (s7 _ _ hl5) (aba.same s7) (s7 _ _ hm) ok.1 ok.2 hF ds (by rw[zag,zaf];lia) fun y rs' H8 b8 hF8 ds8=> ⟨rs',_,_,_,y,rfl,fun b o e=>b8 _ _ (s7 _ _ e)<|bT e fF,hF8, ?_⟩
    rw[mU hg,zap];exact ds8
   ·rintro σ H7 ⟨rs,z2,z3,z8,xH,rfl,s7,hF,ds⟩
    rw[lg,zao<|zqR _] at ds
    exact aY<|ag rfl<|q us F rs H7 S (sH.trans s7) (sH.free fF) hF ds
end
theorem LX{K:Frag}{σ:St}{H:Hp}{QQ:List V->Hp->Addr->Prop}{te:TE}{fv:List (Str×Nat)}{a b:Addr}{xs ys:List V}(ha:H a=some (.lst xs))(hb:H b=some (.lst ys))(hl:xs.length<=1000000)(P:Nat->List V->Hp->Prop)(p0:P 0 [] H)(pm: ∀i zs H2 H3,P i zs H2->aC H2 H3->P i zs H3)
  (step: ∀i x y zs H2,xs[i]?=some x->ys[i]?=some y->aC H H2->P i zs H2-> ∀Q':VK,(∀z H3,aC H2 H3->P (i+1) (zs++ [z]) H3->Q' z H3)->te (some x::some y::cf σ fv) H2 Q')
  (fin: ∀zs H2 p,aC H H2->P (min xs.length ys.length) zs H2->H2 p=none->QQ zs H2 p): ∃W:Nat->Nat->List V->Hp->Prop,(∃m,W 0 m [] H)/\ ∀i m zs H2,W i m zs H2->
   ((rN K a b).stop i H2/\ ∀p,H2 p=none->QQ zs H2 p)\/
   ((rN K a b).go i H2/\ ∀x H3,(rN K a b).fU i H2 x H3->iY K (some 2) x H3 fun ws=>lY none (ws.map some++cf σ fv) H3 fun b H5=>
    if b=true then te (ws.map some++cf σ fv) H5 fun y H6=>zs.length<sizeLine/\ ∃m',m'<m/\W (i+1) m' (zs++ [y]) H6 else ∃m',m'<m/\W (i+1) m' zs H5):=by
 refine⟨fun i m zs H2=>m=min xs.length ys.length - i/\i<=min xs.length ys.length/\zs.length=i/\aC H H2/\P i zs H2,⟨_,rfl,zqZ _,rfl,aC.refl _,p0⟩, ?_⟩
 rintro i m zs H2 ⟨rfl,hi,hy,s,p⟩
 by_cases aW:i<min xs.length ys.length
 ·have h1:i<xs.length:=by lia
  have h2:i<ys.length:=by lia
  refine .inr ⟨⟨xs,ys,aB.of<|s _ _ ha,aB.of<|s _ _ hb,h1,h2⟩, ?_⟩
  rintro x H3 ⟨T,hT,rfl,hx⟩
  have fX:=hx xs ys xs[i] ys[i] (aB.of<|s _ _ ha) (aB.of<|s _ _ hb) (zav h1) (zav h2)
  subst fX
  have s3:=sameNew (o:= .tup [xs[i],ys[i]]) hT
  refine⟨T,_,rfl,ba.of aD,rfl, ?_⟩
  exact step i xs[i] ys[i] zs _ (zav h1) (zav h2) (s.trans s3) (pm _ _ _ _ p s3) _ fun y H4 s4 p4=> ⟨gg (by lia),min xs.length ys.length - (i+1),by lia,rfl,aW,by simp[hy],(s.trans s3).trans s4,p4⟩
 ·have jn:i=min xs.length ys.length:=by lia
  subst jn
  exact .inl ⟨⟨xs,ys,aB.of<|s _ _ ha,aB.of<|s _ _ hb,rfl⟩,fun q hq=>fin zs _ q s p hq⟩
def Apart(cs:List Cu):Prop:= ∀i c d,cs[i]?=some c->cs[i+1]?=some d->near (min c.1 c.2.1) (max c.1 c.2.1) (min d.1 d.2.1) (max d.1 d.2.1)=false
theorem LY(xs:List V):dJ xs (some 1) none=xs.drop 1:=by
 unfold dJ
 have h:=HT.lW xs.length 0 1
 rw[show((1:Nat):Int)=1 from rfl] at h
 rw[h,HT.vg]
 by_cases z:1<=xs.length
 ·rw[zaQ z,zao (by rw[zai];lia)]
 ·have:xs=[]:=zbs (by lia)
  subst this;rfl
section
variable {K:Frag}
def oN:Sp:=fun vs H Q E=> ∃(n:Nat) (l:Addr) (xs:List V) (cs:List Cu),vs=[.int n, .ref l]/\H l=some (.lst xs)/\bJ H xs cs/\1<=cs.length/\cs.length<=40/\(∀c∈cs,c.1<=n/\c.2.1<=n)/\Apart cs/\ ∀H',aC H H'->Q .aA H'
theorem abe{CE:Addr}(vs:List V)(H:Hp)(Q:VK)(E:XK)(hh:oN vs H Q E):av (aI K [("is_cursor",oJ),("meet",oK),("begin_of",iI),("end_of",lH)] [("MOST_CURSORS", .int 40)] (et:=[("NoCursor",CE)]) (E:=E)) AK (Dn Q) (start AJ vs) H:=by
 obtain⟨n,l,xs,cs,rfl,hl,cm,h1,h2,cC,uc,q⟩:=hh
 have lx:xs.length=cs.length:=Paired.length cm
 refine bj<|gK<|bO<|mG<|ag rfl<|sQ hl<|iF ?_ rfl
 refine bO<|xi<|xh<|ao<|dW<|ag rfl<|.inl ⟨_,aB.of hl,N.mK ⟨_,rfl,iT (gh<|N.mK ⟨_,rfl, ?_⟩)<|zqT (by lia)⟩⟩
 rw[show decide (((xs.length:Nat):Int)<=40)=true from zqT (by lia)]
 refine iF (bH ?_) rfl
 refine bj<|bO<|BL<|ah<|mJ<|ag rfl ⟨l,rfl,⟨_,aB.of hl⟩, ?_⟩
 refine mI hl (by lia) (fun i ys _=>ys=(List.replicate i true).map V.bl) rfl ?_ ?_
 ·intro i x ys H2 hx s2 e Q' kk
  obtain⟨c,hc,t,rfl,ht⟩:=gM cm hx
  have b:=cC c (zaj hc)
  refine aP oJ rfl<|ah<|ag rfl<|ah<|ag rfl<|az ⟨t,_,_,_,n,rfl,s2 _ _ ht,b.1,b.2,kk _ _ (aC.refl _) ?_⟩
  rw[e,zbZ,zap];rfl
 ·intro ys H2 p2 s2 e f2
  subst e
  have s3:=sameNew (o:= .lst ((List.replicate xs.length true).map V.bl)) f2
  refine az ⟨p2,List.replicate xs.length true,rfl,aB.of aD,cq<|iF (bH ?_) (by simp)⟩
  have h9:=s2.trans s3
  have h_:=h9 _ _ hl
  generalize upd H2 p2 (.lst<|(List.replicate xs.length true).map V.bl)=H3 at h9 h_⊢
  refine bj<|K_<|ah ?_
  refine⟨_,rfl,_,rfl,_,rfl, .inl ⟨_,aB.of h_,fun w fw=> ⟨l,w,rfl,⟨_,aB.of<|sameNew fw _ _ h_⟩,⟨_,aB.of aD⟩, ?_⟩⟩⟩
  rw[LY]
  have s4:=sameNew (o:= .lst (xs.drop 1)) fw
  have hw:upd H3 w (.lst<|xs.drop 1) w=some (.lst<|xs.drop 1):=aD
  have mR:=s4 _ _ h_
  generalize upd H3 w (.lst<|xs.drop 1)=H4 at s4 hw mR⊢
  have gu:=h9.trans s4
  refine LX mR hw (by lia) (fun i zs _=>zs=(List.replicate i false).map V.bl) rfl (fun _ _ _ _ p _=>p) ?_ ?_
  ·intro i x y zs H5 hx hy s5 e Q' kk
   rw[zbR,Nat.add_comm] at hy
   obtain⟨c,hc,t,rfl,ht⟩:=gM cm hx
   obtain⟨d,hd,t',rfl,jt⟩:=gM cm hy
   have ue:=s5 _ _ (gu _ _ ht)
   have Cg:=s5 _ _ (gu _ _ jt)
   refine aP oK rfl<|ah<|aP iI rfl<|ah<|ag rfl<|az ⟨t,_,_,_,rfl,ue,ah<|aP lH rfl<|ah<|ag rfl<|az ⟨t,_,_,_,rfl,ue,ah<|ag rfl<|az ⟨_,_,t',_,_,_,rfl,Cg, ?_⟩⟩⟩
   rw[uc i c d hc hd]
   refine kk _ _ (aC.refl _) ?_
   rw[e,zbZ,zap];rfl
  ·intro zs H5 p5 s5 e f5
   subst e
   have s6:=sameNew (o:= .lst ((List.replicate (min xs.length (xs.drop 1).length) false).map V.bl)) f5
   refine az ⟨p5,List.replicate (min xs.length (xs.drop 1).length) false,rfl,aB.of aD,cq<|iF ?_ (by simp)⟩
   exact q _<|(gu.trans s5).trans s6
end
def bg(c:Cu):Nat:=min c.1 c.2.1
def en(c:Cu):Nat:=max c.1 c.2.1
theorem abf(c:Cu):bg c<=en c:=by unfold bg en;lia
theorem LZ{lo hi b e:Nat}(h1:lo<=hi)(h2:b<=e)(h:near lo hi b e=false):hi<=b/\lo<b:=by
 unfold near at h
 split at h
 ·rw[zca] at h
  have:=of_decide_eq_false h.1
  lia
 ·have:=of_decide_eq_false h
  lia
theorem abg{lo hi b e:Nat}(h:hi<b):near lo hi b e=false:=by
 unfold near
 rw[if_neg (by lia)]
 exact zqF (by lia)
theorem abh{lo hi b e e':Nat}(h2:b<=e)(h3:e<=e')(h:near lo hi b e=false):near lo hi b e'=false:=by
 unfold near at h⊢
 split
 ·rename_i z
  rw[if_pos z,zca] at h
  have:=of_decide_eq_false h.2
  rw[zca]
  exact⟨h.1,zqF (by lia)⟩
 ·rename_i z
  rw[if_neg z] at h
  exact h
def oO(cs:List Cu):Prop:=cs.Pairwise fun c d=>near (bg c) (en c) (bg d) (en d)=false
theorem oO.apart{cs:List Cu}(h:oO cs):Apart cs:=by
 intro i c d hc hd
 obtain⟨h1,e1⟩:=zah.mp hc
 obtain⟨h2,e2⟩:=zah.mp hd
 have:=zbo.mp h i (i+1) h1 h2 (by lia)
 rw[e1,e2] at this
 exact this
def GI(cs:List Cu)(n:Nat)(g:Gr):Prop:=g.1<=g.2.1/\g.2.1<=n/\g.2.2≠ []/\ ∀k,g.2.2=[k]-> ∃c,cs[k]?=some c/\g.1=bg c/\g.2.1=en c
def Ci(a b:Gr):Prop:=near a.1 a.2.1 b.1 b.2.1=false
theorem abi{cs:List Cu}{n:Nat}{t:T3}{c:Cu}(k:oM cs t c)(h:en c<=n):GI cs n (t.1.toNat,t.2.1.toNat,[t.2.2.toNat]):=by
 have e1:t.1.toNat=bg c:=by rw[k.e1];exact zat _
 have e2:t.2.1.toNat=en c:=by rw[k.e2];exact zat _
 refine⟨?_, ?_,by simp,fun m hm=> ?_⟩
 ·show t.1.toNat<=t.2.1.toNat
  rw[e1,e2];exact abf c
 ·show t.2.1.toNat<=n
  rw[e2];exact h
 ·cases hm
  exact⟨c,k.at',e1,e2⟩
theorem L6(cs:List Cu)(n:Nat): ∀(us:List T3) (gs:List Gr),(∀t∈us,∃c,oM cs t c/\en c<=n)->(∀g∈gs,GI cs n g)->gs.Pairwise Ci->(∀g∈us.foldl bW gs,GI cs n g)/\(us.foldl bW gs).Pairwise Ci
 | [],gs,_,h1,h2=> ⟨h1,h2⟩
 | t::us,gs,hu,h1,h2=>by
  obtain⟨c,k,hc⟩:=hu t (.head _)
  have gn:=abi k hc
  refine L6 cs n us _ (fun x hx=>hu x<|.tail _ hx) ?_ ?_
  ·unfold bW
   split
   ·intro g hg
    rcases zax.mp hg with hg | hg
    ·exact h1 g hg
    ·rw[zas.mp hg];exact gn
   ·rename_i g0 e0
    split
    ·intro g hg
     rcases zax.mp hg with hg | hg
     ·exact h1 g (zbV _ hg)
     ·rw[zas.mp hg]
      have tW:=h1 g0 (zbW e0)
      refine⟨?_, ?_,by simp,fun m hm=> ?_⟩
      ·show g0.1<=max g0.2.1 t.2.1.toNat
       have:=tW.1;lia
      ·show max g0.2.1 t.2.1.toNat<=n
       have:=tW.2.1
       have:=gn.2.1
       have h':t.2.1.toNat<=n:=this
       lia
      ·have hl:=congrArg List.length hm
       have cQ:=tW.2.2.1
       cases hq:g0.2.2 with
       | nil=>exact absurd hq cQ
       | cons a b=>
        have eP:g0.2.2++ [t.2.2.toNat]=[m]:=hm
        rw[hq] at eP
        simp at eP
    ·intro g hg
     rcases zax.mp hg with hg | hg
     ·exact h1 g hg
     ·rw[zas.mp hg];exact gn
  ·rcases zbX gs with eg | ⟨iK,g,eg⟩
   ·subst eg
    exact zcb _ _
   ·rw[zbY] at eg
    subst eg
    have hg:=h1 g (by simp)
    have pw:=zcc.mp h2
    unfold bW
    rw[show(iK++ [g]).getLast?=some g by simp]
    show List.Pairwise Ci (if near g.1 g.2.1 t.1.toNat t.2.1.toNat=true then _ else _)
    split
    ·rw[zbJ]
     refine zcc.mpr ⟨pw.1,zcb _ _,fun a ha b hb=> ?_⟩
     rw[zas.mp hb]
     exact abh hg.1 (Nat.le_max_left _ _)<|pw.2.2 a ha g<|.head _
    ·rename_i nn
     have L7:near g.1 g.2.1 t.1.toNat t.2.1.toNat=false:=by simpa using nn
     refine zcc.mpr ⟨h2,zcb _ _,fun a ha b hb=> ?_⟩
     rw[zas.mp hb]
     rcases zax.mp ha with ha | ha
     ·have x:=LZ (h1 a<|zaH _ ha).1 hg.1 (pw.2.2 a ha g<|.head _)
      have y:=LZ hg.1 (show t.1.toNat<=t.2.1.toNat from gn.1) L7
      exact abg (show a.2.1<t.1.toNat by lia)
     ·rw[zas.mp ha];exact L7
theorem uf{cs:List Cu}{n:Nat}{g:Gr}(h:GI cs n g):bg (oneOf cs g)=g.1/\en (oneOf cs g)=g.2.1:=by
 obtain⟨a,b,c,d⟩:=h
 unfold oneOf
 by_cases e:g.2.2.length=1
 ·obtain⟨k,hk⟩:=List.length_eq_one_iff.mp e
  obtain⟨x,hx,e1,e2⟩:=d k hk
  simp only[hk,zbM,if_true]
  show bg ((cs[k]?).getD _)=g.1/\en ((cs[k]?).getD _)=g.2.1
  rw[hx]
  exact⟨e1.symm,e2.symm⟩
 ·simp only[e,if_false]
  split
  ·exact⟨by show min g.2.1 g.1=g.1;lia,by show max g.2.1 g.1=g.2.1;lia⟩
  ·exact⟨by show min g.1 g.2.1=g.1;lia,by show max g.1 g.2.1=g.2.1;lia⟩
theorem abj(gs:List Gr)(t:T3):bW gs t≠ []:=by
 unfold bW
 split
 ·simp
 ·split<;>simp
theorem L8: ∀(us:List T3) (gs:List Gr),(us≠ []\/gs≠ [])->us.foldl bW gs≠ []
 | [],gs,h=>by rcases h with h | h;exact absurd rfl h;exact h
 | t::us,gs,_=>L8 us _ (.inr<|abj gs t)
structure abk (cs ds:List Cu) (n:Nat):Prop where
 mV:oO ds
 iM: ∀c∈ds,c.1<=n/\c.2.1<=n
 len:ds.length<=cs.length
 ne:cs≠ []->ds≠ []
theorem L9{cs:List Cu}{us:List T3}{n:Nat}(S:e_ cs us)(hn: ∀c∈cs,c.1<=n/\c.2.1<=n):abk cs (settle cs us) n:=by
 obtain⟨g1,g2⟩:=L6 cs n us [] (fun t ht=>by
  obtain⟨c,k⟩:=xx S ht
  have:=hn c (zaj k.at')
  exact⟨c,k,by unfold en;lia⟩) (fun g hg=>by cases hg) List.Pairwise.nil
 refine⟨?_, ?_, ?_, ?_⟩
 ·unfold oO settle
  rw[List.pairwise_map]
  refine List.Pairwise.imp_of_mem (fun {a b} ha hb x=> ?_) g2
  rw[(uf<|g1 a ha).1,(uf<|g1 a ha).2,(uf<|g1 b hb).1,(uf<|g1 b hb).2]
  exact x
 ·intro c hc
  obtain⟨g,hg,rfl⟩:=zaL.mp hc
  have o:=uf (g1 g hg)
  have:=(g1 g hg).2.1
  unfold en at o
  lia
 ·unfold settle
  rw[zag]
  have:=(B8 us [] 0 (fun g hg=>by cases hg)<|zqR _).2
  rw[S.1.length_eq,mT] at this
  unfold groups;lia
 ·intro h
  have:us≠ []:=fun z=>by
   have:=S.1.length_eq
   rw[z,mT] at this
   exact h<|zbs this.symm
  unfold settle
  intro z
  exact L8 us [] (.inl this)<|List.map_eq_nil_iff.mp z
def Cj(v:V):Prop:=(∃i:Int,v= .int i/\i<0)\/(∃b,v= .bl b)\/ ∃s,v= .str s
def fh(v:V)(n:Nat)(H:Hp):Prop:=iE .tuple v H\/ ∃a xs,v= .ref a/\H a=some (.tup xs)/\(xs.length≠3\/ ∃x y z,xs=[x,y,z]/\
 (j5 x 0 (n:Nat) H\/ ∃i:Int,x= .int i/\0<=i/\i<= (n:Nat)/\(j5 y 0 (n:Nat) H\/ ∃j:Int,y= .int j/\0<=j/\j<= (n:Nat)/\Cj z)))
theorem fh.same{v:V}{n:Nat}{H H':Hp}(h:fh v n H)(s:aC H H'):fh v n H':=by
 rcases h with h | ⟨a,xs,rfl,ha,h⟩
 ·exact .inl (h.same s)
 ·refine .inr ⟨a,xs,rfl,s _ _ ha, ?_⟩
  rcases h with h | ⟨x,y,z,rfl,h⟩
  ·exact .inl h
  ·refine .inr ⟨x,y,z,rfl, ?_⟩
   rcases h with h | ⟨i,rfl,h1,h2,h⟩
   ·exact .inl (h.same s)
   ·refine .inr ⟨i,rfl,h1,h2, ?_⟩
    rcases h with h | h
    ·exact .inl (h.same s)
    ·exact .inr h
section
variable {K:Frag}
def Ck:Sp:=fun vs H Q E=> ∃v:V,vs=[v]/\Cj v/\Q (.bl false) H
theorem abl(vs:List V)(H:Hp)(Q:VK)(E:XK)(h:Ck vs H Q E):av (aI K [("is_whole",lj)] [] (E:=E)) AG (Dn Q) (start g4 vs) H:=by
 obtain⟨v,rfl,h,q⟩:=h
 have no: ∀(w:V),w≠ .aA->V.bl (decide<|w= .aA)= .bl false:=fun w hw=>by rw[zqF hw]
 rcases h with⟨i,rfl,hi⟩ | ⟨b,rfl⟩ | ⟨s,rfl⟩
 ·refine aY (lG<|cZ<|ag rfl<|ao ⟨rfl,_,rfl,iF ?_<|zqF (by simp)⟩)
  refine iH<|aP lj rfl<|ah<|ag rfl<|az ⟨_,rfl, .inl ⟨_,rfl,_,rfl,iT ?_ rfl⟩⟩
  refine qv<|cZ<|ag rfl<|ao<|N.BF ?_
  rw[zqF (show ¬(0:Int)<=i by lia)]
  exact q
 ·refine aY (lG<|cZ<|ag rfl<|ao ⟨rfl,_,rfl,iF ?_<|zqF (by simp)⟩)
  exact iH<|aP lj rfl<|ah<|ag rfl<|az ⟨_,rfl, .inr ⟨.inl ⟨_,rfl⟩,_,rfl,iF q rfl⟩⟩
 ·refine aY (lG<|cZ<|ag rfl<|ao ⟨rfl,_,rfl,iF ?_<|zqF (by simp)⟩)
  exact iH<|aP lj rfl<|ah<|ag rfl<|az ⟨_,rfl, .inr ⟨.inr rfl,_,rfl,iF q rfl⟩⟩
def ug:Sp:=fun vs H Q E=> ∃(v:V) (n:Nat),vs=[v, .int n]/\fh v n H/\Q (.bl false) H
theorem abm(vs:List V)(H:Hp)(Q:VK)(E:XK)(h:ug vs H Q E):av (aI K [("is_between",dt),("is_goal",fN tL Ck)] [] (E:=E)) AI (Dn Q) (start AH vs) H:=by
 obtain⟨v,n,rfl,h,q⟩:=h
 rcases h with h | ⟨a,xs,rfl,ha,h⟩
 ·exact bj (gK<|bO<|mG<|ag rfl<|h.go<|iT (iT (aY<|ao q) rfl) rfl)
 ·refine bj (gK<|bO<|mG<|ag rfl<|wK ha<|iF ?_ rfl)
  rcases h with h | ⟨x,y,z,rfl,h⟩
  ·exact bq (dW<|ag rfl<|.inr ⟨_,ba.of ha,ao<|qf ⟨_,rfl,iT (aY<|ao q) (by simp;lia)⟩⟩)
  ·refine bq (dW<|ag rfl<|.inr ⟨_,ba.of ha,ao<|qf ⟨_,rfl,iF (bH ?_) (by simp)⟩⟩)
   rcases h with h | ⟨i,rfl,h1,h2,h⟩
   ·exact aY (iH<|aP dt rfl<|ah<|aU<|ag rfl<|ao<|aJ ha rfl<|ah<|ao<|ah<|ag rfl<|az ⟨_,_,_,rfl, .inr ⟨h,_,rfl,iF q rfl⟩⟩)
   ·refine aY (iH<|aP dt rfl<|ah<|aU<|ag rfl<|ao<|aJ ha rfl<|ah<|ao<|ah<|ag rfl<|az ⟨_,_,_,rfl, .inl ⟨_,rfl,h1,h2,_,rfl,iT ?_ rfl⟩⟩)
    rcases h with h | ⟨j,rfl,h3,h4,h⟩
    ·exact iH (aP dt rfl<|ah<|aU<|ag rfl<|ao<|aJ ha rfl<|ah<|ao<|ah<|ag rfl<|az ⟨_,_,_,rfl, .inr ⟨h,_,rfl,iF q rfl⟩⟩)
    ·refine iH (aP dt rfl<|ah<|aU<|ag rfl<|ao<|aJ ha rfl<|ah<|ao<|ah<|ag rfl<|az ⟨_,_,_,rfl, .inl ⟨_,rfl,h3,h4,_,rfl,iT ?_ rfl⟩⟩)
     exact qv<|aP (fN tL Ck) rfl<|ah<|aU<|ag rfl<|ao<|aJ ha rfl<|az<|.inr ⟨_,rfl,h,q⟩
def Cm(v:V)(n:Nat)(H:Hp):Prop:=(∃c,gr H v c/\c.1<=n/\c.2.1<=n)\/fh v n H
def qA(v:V)(n:Nat)(H:Hp):Prop:=iE .list v H\/ ∃l xs,v= .ref l/\H l=some (.lst xs)/\(xs.length=0\/40<xs.length\/
 (xs.length<=40/\((∃xs1 o xs2,xs=xs1++o::xs2/\(∀x∈xs1++xs2,Cm x n H)/\fh o n H)\/
  ∃cs i c d,bJ H xs cs/\(∀c∈cs,c.1<=n/\c.2.1<=n)/\cs[i]?=some c/\cs[i+1]?=some d/\near (bg c) (en c) (bg d) (en d)=true)))
def uh(CE:Addr):Sp:=fun vs H Q E=> ∃(n:Nat) (v:V),vs=[.int n,v]/\qA v n H/\ ∀H',aC H H'->E (.ref CE) none H'
abbrev L_:List (Str×Sp):=[("is_cursor",fN oJ ug),("meet",oK),("begin_of",iI),("end_of",lH)]
theorem abn{CE:Addr}(vs:List V)(H:Hp)(Q:VK)(E:XK)(hh:uh CE vs H Q E):av (aI K L_ [("MOST_CURSORS", .int 40)] (et:=[("NoCursor",CE)]) (E:=E)) AK (Dn Q) (start AJ vs) H:=by
 obtain⟨n,v,rfl,h,q⟩:=hh
 rcases h with h | ⟨l,xs,rfl,hl,h⟩
 ·refine bj (gK<|bO<|mG<|ag rfl<|h.go<|iT (iT ?_ rfl) rfl)
  exact⟨(by show 1<=sizeLine;decide),q _<|aC.refl _⟩
 refine bj<|gK<|bO<|mG<|ag rfl<|sQ hl<|iF ?_ rfl
 rcases h with h | h | ⟨hle,h⟩
 ·refine bO (xi<|xh<|ao<|dW<|ag rfl<|.inl ⟨_,aB.of hl,N.mK ⟨_,rfl,iF ⟨_,rfl,iT ?_ rfl⟩<|zqF (by lia)⟩⟩)
  exact⟨(by show 1<=sizeLine;decide),q _<|aC.refl _⟩
 ·refine bO (xi<|xh<|ao<|dW<|ag rfl<|.inl ⟨_,aB.of hl,N.mK ⟨_,rfl,iT (gh<|N.mK ⟨_,rfl, ?_⟩)<|zqT (by lia)⟩⟩)
  rw[show decide (((xs.length:Nat):Int)<=40)=false from zqF (by lia)]
  exact iT ⟨(by show 1<=sizeLine;decide),q _<|aC.refl _⟩ rfl
 have h0:1<=xs.length:=by
  rcases h with⟨xs1,o,xs2,rfl,_⟩ | ⟨cs,i,c,d,cm,_,hc,_⟩
  ·rw[zqA,zar];lia
  ·have:=(zah.mp hc).1
   have:=Paired.length cm
   lia
 refine bO<|xi<|xh<|ao<|dW<|ag rfl<|.inl ⟨_,aB.of hl,N.mK ⟨_,rfl,iT (gh<|N.mK ⟨_,rfl, ?_⟩)<|zqT (by lia)⟩⟩
 rw[show decide (((xs.length:Nat):Int)<=40)=true from zqT (by lia)]
 refine iF (bH ?_) rfl
 rcases h with⟨xs1,o,xs2,rfl,hcu,ho⟩ | ⟨cs,j,c,d,cm,cC,hc,hd,cQ⟩
 ·refine bj (bO<|BL<|ah<|mJ<|ag rfl ⟨l,rfl,⟨_,aB.of hl⟩, ?_⟩)
  refine mI hl (by lia) (fun i ys _=> ∃bs:List Bool,ys=bs.map V.bl/\(xs1.length<i->false∈bs)) ⟨[],rfl,fun z=>absurd z<|zbk _⟩ ?_ ?_
  ·rintro i x ys H2 hx s2 ⟨bs,rfl,hb⟩ Q' kk
   have odd:fh x n H->aj (aI K L_ [("MOST_CURSORS", .int 40)] (et:=[("NoCursor",CE)]) (E:=E)).calm (.call 0 [(.v 0),(.v 1)]) (some x::cf [some<|V.int (n:Nat),some<|V.ref l] [("size",0)]) H2 Q':=by
    intro fX
    refine aP (fN oJ ug) rfl<|ah<|ag rfl<|ah<|ag rfl<|az<|.inr ⟨x,n,rfl,fX.same s2,kk _ _ (aC.refl _) ⟨bs++ [false],by rw[zap];rfl,fun _=>by simp⟩⟩
   by_cases hi:i=xs1.length
   ·have e:x=o:=by rw[hi] at hx;simpa using hx.symm
    rw[e] at odd
    rw[e]
    exact odd ho
   ·have hm:x∈xs1++xs2:=by
     by_cases Fm:i<xs1.length
     ·rw[zaJ Fm] at hx
      exact zaH _<|zaj hx
     ·rw[zaI (by lia)] at hx
      obtain⟨m,hm⟩: ∃m,i - xs1.length=m+1:=⟨i - xs1.length - 1,by lia⟩
      rw[hm,List.getElem?_cons_succ] at hx
      exact zaz _<|zaj hx
    rcases hcu x hm with⟨c,⟨t,rfl,ht⟩,b1,b2⟩ | fX
    ·refine aP (fN oJ ug) rfl (ah<|ag rfl<|ah<|ag rfl<|az<|.inl ⟨t,_,_,_,n,rfl,s2 _ _ ht,b1,b2,kk _ _ (aC.refl _) ⟨bs++ [true],by rw[zap];rfl,fun z=> ?_⟩⟩)
     exact zaH _<|hb (by lia)
    ·exact odd fX
  ·rintro ys H2 p2 s2 ⟨bs,rfl,hb⟩ f2
   have hf:=hb (by rw[zqA,zar];lia)
   have s3:=sameNew (o:= .lst (bs.map V.bl)) f2
   refine az ⟨p2,bs,rfl,aB.of aD,cq<|iT ?_ ?_⟩
   ·exact⟨(by show 1<=sizeLine;decide),q _<|s2.trans s3⟩
   ·have:bs.all id=false:=by
     cases e:bs.all id with
     | false=>rfl
     | true=>exact absurd (zaK.mp e false hf) (by simp)
    simpa using this
 ·have lx:xs.length=cs.length:=Paired.length cm
  refine bj<|bO<|BL<|ah<|mJ<|ag rfl ⟨l,rfl,⟨_,aB.of hl⟩, ?_⟩
  refine mI hl (by lia) (fun i ys _=>ys=(List.replicate i true).map V.bl) rfl ?_ ?_
  ·intro i x ys H2 hx s2 e Q' kk
   obtain⟨c,hc,t,rfl,ht⟩:=gM cm hx
   have b:=cC c (zaj hc)
   refine aP (fN oJ ug) rfl<|ah<|ag rfl<|ah<|ag rfl<|az<|.inl ⟨t,_,_,_,n,rfl,s2 _ _ ht,b.1,b.2,kk _ _ (aC.refl _) ?_⟩
   rw[e,zbZ,zap];rfl
  ·intro ys H2 p2 s2 e f2
   subst e
   have s3:=sameNew (o:= .lst ((List.replicate xs.length true).map V.bl)) f2
   refine az ⟨p2,List.replicate xs.length true,rfl,aB.of aD,cq<|iF (bH ?_) (by simp)⟩
   have h9:=s2.trans s3
   have h_:=h9 _ _ hl
   generalize upd H2 p2 (.lst<|(List.replicate xs.length true).map V.bl)=H3 at h9 h_⊢
   refine bj<|K_<|ah ?_
   refine⟨_,rfl,_,rfl,_,rfl, .inl ⟨_,aB.of h_,fun w fw=> ⟨l,w,rfl,⟨_,aB.of<|sameNew fw _ _ h_⟩,⟨_,aB.of aD⟩, ?_⟩⟩⟩
   rw[LY]
   have s4:=sameNew (o:= .lst (xs.drop 1)) fw
   have hw:upd H3 w (.lst<|xs.drop 1) w=some (.lst<|xs.drop 1):=aD
   have mR:=s4 _ _ h_
   generalize upd H3 w (.lst<|xs.drop 1)=H4 at s4 hw mR⊢
   have gu:=h9.trans s4
   refine LX mR hw (by lia) (fun i zs _=> ∃bs:List Bool,zs=bs.map V.bl/\(j<i->true∈bs)) ⟨[],rfl,fun z=>absurd z<|zbk _⟩ (fun _ _ _ _ p _=>p) ?_ ?_
   ·rintro i x y zs H5 hx hy s5 ⟨bs,rfl,hb⟩ Q' kk
    rw[zbR,Nat.add_comm] at hy
    obtain⟨c',bU,t,rfl,ht⟩:=gM cm hx
    obtain⟨d',oZ,t',rfl,jt⟩:=gM cm hy
    have ue:=s5 _ _ (gu _ _ ht)
    have Cg:=s5 _ _ (gu _ _ jt)
    refine aP oK rfl<|ah<|aP iI rfl<|ah<|ag rfl<|az ⟨t,_,_,_,rfl,ue,ah<|aP lH rfl<|ah<|ag rfl<|az ⟨t,_,_,_,rfl,ue,ah<|ag rfl<|az ⟨_,_,t',_,_,_,rfl,Cg, ?_⟩⟩⟩
    refine kk _ _ (aC.refl _) ⟨bs++ [near (bg c') (en c') (bg d')<|en d'],by rw[zap];rfl,fun z=> ?_⟩
    by_cases hi:i=j
    ·subst hi
     rw[hc] at bU;rw[hd] at oZ
     cases bU;cases oZ
     rw[cQ];simp
    ·exact zaH _ (hb (by lia))
   ·rintro zs H5 p5 s5 ⟨bs,rfl,hb⟩ f5
    have hj:=(zah.mp hd).1
    have hf:=hb (by rw[zai];lia)
    have s6:=sameNew (o:= .lst (bs.map V.bl)) f5
    refine az ⟨p5,bs,rfl,aB.of aD,cq<|iT ?_ ?_⟩
    ·exact⟨(by show 1<=sizeLine;decide),q _<|(gu.trans s5).trans s6⟩
    ·exact zbC.mpr ⟨true,hf,rfl⟩
end
section
variable {K:Frag}
theorem Ma{c:Int}{n:Nat}: ∃a:Nat,c % ((n:Nat)+1:Int)=(a:Nat)/\a<=n:=by
 have h1:=zaA c (show((n:Nat)+1:Int)≠0 by lia)
 have h2:=zaF c (show(0:Int) < (n:Nat)+1 by lia)
 exact⟨(c % ((n:Nat)+1:Int)).toNat,by lia,by lia⟩
def cD(c:Cu):PyData:= .tuple [.int (c.1:Nat), .int (c.2.1:Nat),gD c.2.2]
theorem abp(c:Cu):(cD c).canLay0=true/\(cD c).depth<=1:=by
 obtain⟨a,h,g⟩:=c
 cases g<;>exact⟨rfl,zqR _⟩
theorem Mb: ∀(cs:List Cu),PyData.canLayAll0 (cs.map cD)=true/\PyData.depthAll (cs.map cD)<=1
 | []=> ⟨rfl,zqZ _⟩
 | g::r=>by
  obtain⟨a,b⟩:=abp g
  obtain⟨c,d⟩:=Mb r
  refine⟨?_, ?_⟩
  ·show((cD g).canLay0 && PyData.canLayAll0 (r.map cD))=true
   rw[a,c];rfl
  ·show max (cD g).depth (PyData.depthAll<|r.map cD)<=1
   lia
theorem qB(cs:List Cu):SeqAt.shaped (.list<|cs.map cD)=true:=by
 obtain⟨c,d⟩:=Mb cs
 unfold SeqAt.shaped
 have e:(PyData.list<|cs.map cD).canLay0=true:=c
 have e2:(PyData.list<|cs.map cD).depth<=64:=by show PyData.depthAll (cs.map cD)+1<=64;lia
 rw[e,zqT e2];rfl
theorem ui{H:Hp}: ∀{zs:List V} {cs:List Cu},bJ H zs cs->IsL H (cs.map cD) zs
 | [],[], .nil=>rfl
 | z::zs,c::cs, .cons x r=>by
  obtain⟨t,rfl,h1⟩:=x
  exact⟨_,_,rfl,BZ h1,ui r⟩
theorem qC{H:Hp}{Q:VK}{a b:Addr}{xs ys:List V}{cs:List Cu}(ha:H a=some (.lst xs))(hb:H b=some (.lst ys))(hx:bJ H xs cs)(hy:bJ H ys cs)(q:Q (.bl false) H):b9 K .NotEq (.ref a) (.ref b) H Q:=by
 refine⟨.list<|cs.map cD, .list<|cs.map cD,⟨a,xs,rfl,ha,ui hx⟩,⟨b,ys,rfl,hb,ui hy⟩,qB cs,qB cs, ?_⟩
 rw[SeqAt.eqv_refl _<|SeqAt.canLay_of_shaped<|qB cs];exact q
theorem abq{H:Hp}{Q:VK}{a b:Addr}{xs ys:List V}{cs:List Cu}(ha:H a=some (.lst xs))(hb:H b=some (.lst ys))(hx:bJ H xs cs)(hy:bJ H ys cs)(q:Q (.bl true) H):b9 K .Eq (.ref a) (.ref b) H Q:=by
 refine⟨.list<|cs.map cD, .list<|cs.map cD,⟨a,xs,rfl,ha,ui hx⟩,⟨b,ys,rfl,hb,ui hy⟩,qB cs,qB cs, ?_⟩
 rw[SeqAt.eqv_refl _<|SeqAt.canLay_of_shaped<|qB cs];exact q
theorem Mc{F:Addr}{H H':Hp}{ws:List V}{vs:List V}{cs:List Cu}(x:bJ H vs cs)(hF:H F=some (.lst ws))(b:bo F H H'):bJ H' vs cs:=L2.Paired.eU x fun _ _ y=>gr.but y hF b
def uj(Γ:aX)(σ:St)(n:Nat)(e:RE):Prop:= ∀(H:Hp) (Q:VK),(∀v H',aC H H'->fh v n H'->Q v H')->aj Γ e σ H Q
def Ev(Γ:aX)(σ:St)(e:RE)(v:V):Prop:= ∀(H:Hp) (Q:VK),Q v H->aj Γ e σ H Q
section
variable {Γ:aX} {σ:St} {n:Nat}
theorem Cn: ∀(es:List RE),(∀e∈es,uj Γ σ n e)-> ∀(H:Hp) (Q:List V->Hp->Prop),(∀vs H',aC H H'->vs.length=es.length->(∀v∈vs,fh v n H')->Q vs H')->aZ Γ es σ H Q
 | [],_,H,Q,q=>az (q [] H (aC.refl _) rfl<|fun v hv=>by cases hv)
 | e::es,h,H,Q,q=>ah (h e (.head _) H _ fun v H1 s1 o=>Cn es (fun e' Co=>h e' (.tail _ Co)) H1 _ fun vs H2 s2 ln os=>q (v::vs) H2 (s1.trans s2) (by rw[zar,ln,zar]) (fun w hw=>by
   rcases zaa.mp hw with rfl | hw
   ·exact o.same s2
   ·exact os w hw))
theorem fQ{v:V}:Ev Γ σ (.c v) v:=fun H Q q=>ao q
theorem Cp{i:Nat}{v:V}(h:σ[i]?=some (some v)):Ev Γ σ (.v i) v:=fun H Q q=>ag h q
theorem Md{i:Int}:Ev Γ σ (.neg<|.c<|.int i) (.int<|-i):=fun H Q q=>j8 q
theorem abr{a b:RE}{i j:Int}(h:Ev Γ σ a (.int i))(h':Ev Γ σ b (.int j)):Ev Γ σ (.bin .Add a b) (.int<|i+j):=fun H Q q=>aN (h H _<|h' H _<|bP q)
theorem abt{v:V}(h: ∀H,iE .tuple v H):uj Γ σ n (.c v):=fun H Q q=>ao (q v H (aC.refl _)<|.inl<|h H)
theorem qD{a b c:RE}{x y z:V}(h1:Ev Γ σ a x)(h2:Ev Γ σ b y)(h3:Ev Γ σ c z)(h: ∀H,j5 x 0 (n:Nat) H\/ ∃i:Int,x= .int i/\0<=i/\i<= (n:Nat)/\(j5 y 0 (n:Nat) H\/ ∃j:Int,y= .int j/\0<=j/\j<= (n:Nat)/\Cj z)):uj Γ σ n (.tup [a,b,c]):=fun H Q q=>
 dS (ah<|h1 H _<|ah<|h2 H _<|ah<|h3 H _<|az ⟨(by show 3<=sizeLine;decide),fun t ft=>q _ _ (sameNew ft)<|.inr ⟨t,_,rfl,aD, .inr ⟨x,y,z,rfl,h _⟩⟩⟩)
theorem abu{x y:V}:uj Γ σ n (.tup [.c x, .c y]):=fun H Q q=>dS (ah<|ao<|ah<|ao<|az ⟨(by show 2<=sizeLine;decide),fun t ft=>q _ _ (sameNew ft)<|.inr ⟨t,_,rfl,aD, .inl (by show(2:Nat)≠3;decide)⟩⟩)
theorem abv{x y z:V}:uj Γ σ n (.lst [.c x, .c y, .c z]):=fun H Q q=>bS (ah<|ao<|ah<|ao<|ah<|ao<|az ⟨(by show 3<=sizeLine;decide),fun t ft=>q _ _ (sameNew ft)<|.inl<|sQ aD rfl⟩)
end
end
theorem Cq{l:Addr}{n:Nat}{H:Hp}{xs1 xs2:List V}{o:V}(hl:H l=some (.lst (xs1++o::xs2)))(h: ∀x∈xs1++xs2,Cm x n H)(ho:fh o n H):qA (.ref l) n H:=by
 refine .inr ⟨l,_,rfl,hl, ?_⟩
 by_cases z:(xs1++o::xs2).length<=40
 ·exact .inr (.inr ⟨z, .inl ⟨xs1,o,xs2,rfl,h,ho⟩⟩)
 ·exact .inr (.inl (by lia))
section
variable {Γ:aX} {σ:St} {n:Nat} {H0:Hp}
def qE(Γ:aX)(σ:St)(H0:Hp)(e:RE)(P:List V->Hp->Prop):Prop:= ∀(H1:Hp) (Q:VK),aC H0 H1->(∀w zs H',aC H1 H'->H' w=some (.lst zs)->P zs H'->Q (.ref w) H')->aj Γ e σ H1 Q
theorem abw{Q:VK}{H:Hp}{a lo:RE}(h:aj Γ a σ H fun x H1=>aj Γ lo σ H1 fun j H3=> ∃j':Int,j= .int j'/\rM Γ.K x (some j') none H3 Q):aj Γ (.sl a (some lo) none) σ H Q:=h
theorem abx(xs:List V)(i:Nat):dJ xs (some (i:Int)) none=xs.drop i:=by
 unfold dJ
 rw[HT.lW,HT.vg]
 by_cases z:i<=xs.length
 ·rw[zaQ z,zao (by rw[zai];lia)]
 ·rw[zbI (by lia),List.drop_eq_nil_of_le<|zqR _,List.drop_eq_nil_of_le (by lia),zbr]
theorem aby{i:Nat}{l:Addr}{xs:List V}{hi:RE}{j:Nat}(e:σ[i]?=some (some<|.ref l))(hl:H0 l=some (.lst xs))(h:Ev Γ σ hi (.int (j:Nat))):qE Γ σ H0 (.sl (.v i) none<|some hi) fun zs _=>zs=xs.take j:=fun H1 Q s q=>
 qw (ag e<|h H1 _ ⟨_,rfl, .inl ⟨xs,aB.of<|s _ _ hl,fun w fw=>q w _ _ (sameNew fw) aD<|Lk xs j⟩⟩)
theorem abz{i:Nat}{l:Addr}{xs:List V}{lo:RE}{j:Nat}(e:σ[i]?=some (some<|.ref l))(hl:H0 l=some (.lst xs))(h:Ev Γ σ lo (.int (j:Nat))):qE Γ σ H0 (.sl (.v i) (some lo) none) fun zs _=>zs=xs.drop j:=fun H1 Q s q=>
 abw (ag e<|h H1 _ ⟨_,rfl, .inl ⟨xs,aB.of<|s _ _ hl,fun w fw=>q w _ _ (sameNew fw) aD<|abx xs j⟩⟩)
theorem Me{a b:RE}{P P':List V->Hp->Prop}(h1:qE Γ σ H0 a P)(h2:qE Γ σ H0 b P')(st: ∀zs H H',P zs H->aC H H'->P zs H')(ck: ∀zs H H',P' zs H->aC H H'->P' zs H')(l1: ∀zs H,P zs H->zs.length<=1000)(l2: ∀zs H,P' zs H->zs.length<=1000):
  qE Γ σ H0 (.bin .Add a b) fun zs H=> ∃xs ys,zs=xs++ys/\P xs H/\P' ys H:=fun H1 Q s q=>by
 refine aN<|h1 H1 _ s fun w xs H2 s2 hw p=>h2 H2 _ (s.trans s2) fun w' ys H3 s3 Bz p'=> ?_
 have a1:=l1 _ _ p
 have a2:=l2 _ _ p'
 refine .inl ⟨w,w',xs,ys,rfl,rfl,s3 _ _ hw,Bz,cp (by lia),fun z fz=> ?_⟩
 exact q z _ _ ((s2.trans s3).trans<|sameNew fz) aD ⟨xs,ys,rfl,st _ _ _ p<|s3.trans<|sameNew fz,ck _ _ _ p'<|sameNew fz⟩
end
theorem abA{H:Hp}{n:Nat}{xs:List V}{cs:List Cu}(hc:bJ H xs cs)(cC: ∀c∈cs,c.1<=n/\c.2.1<=n){x:V}(hx:x∈xs):Cm x n H:=by
 obtain⟨i,hi⟩:=List.getElem?_of_mem hx
 obtain⟨c,h1,h2⟩:=gM hc hi
 have:=cC c (zaj h1)
 exact .inl ⟨c,h2,this.1,this.2⟩
theorem Cr{ys:List V}: ∀(zs:List V) (H H':Hp),(fun zs _=>zs=ys:List V->Hp->Prop) zs H->aC H H'->(fun zs _=>zs=ys:List V->Hp->Prop) zs H':=fun _ _ _ h _=>h
theorem abB{l:List Nat}{n:Nat}(h:n<=l.length)(w:Wd):jr l n w<=l.length:=by
 have ok:=j9 (mO l n)
 cases w with
 | left=>show n - 1<=_;lia
 | right=>show min l.length (n+1)<=_;lia
 | up=>exact zqZ _
 | down=>exact zqZ _
 | oH=>show bI l (bx l n)<=_;lia
 | en=>show lend l (bx l n)<=_;lia
 | top=>exact zqZ _
 | lF=>exact zqR _
 | back=>
  have a:=lo_le (p:=OS.cps.contains) (l:=l) (n:=n)
  have b:=lo_le (p:=WS.cps.contains) (l:=l) (n:=lo OS.cps.contains l n)
  show lo WS.cps.contains l (lo OS.cps.contains l n)<=_;lia
 | on=>
  have a:=ro_le (p:=OS.cps.contains) h
  have b:=ro_le (p:=WS.cps.contains) a.2
  exact b.2
theorem abC{l:List Nat}{i g:Nat}{w:Wd}(h:i<=l.count 10):hX l i g w<=l.length:=by
 unfold N.hX
 by_cases c:w= .up
 ·rw[if_pos c]
  by_cases z:i=0
  ·rw[if_pos z];exact zqZ _
  ·rw[if_neg z];exact Lf (by lia)
 ·rw[if_neg c]
  by_cases z:i=l.count 10
  ·rw[if_pos z];exact zqR _
  ·rw[if_neg z];exact Lf (by lia)
theorem abD{l:List Nat}{a h:Nat}{g:Option Nat}{w:Wd}{b:Bool}(h1:a<=l.length)(h2:h<=l.length):led l a h g w b<=l.length:=by
 unfold led
 by_cases c:w= .up\/w= .down
 ·rw[if_pos c];exact abC (mO _ _)
 ·rw[if_neg c]
  by_cases d:(w= .left\/w= .right)/\b=false/\a≠h
  ·rw[if_pos d]
   by_cases e:w= .left
   ·rw[if_pos e];lia
   ·rw[if_neg e];lia
  ·rw[if_neg d];exact abB h2 w
section
variable {K:Frag} {CP C CE CD:Addr}
def uk(v:V):Prop:=(∃i:Int,v= .int i)\/v= .aA\/ ∃s,v= .str s
def Cs:Sp:=fun vs H Q E=> ∃v:V,vs=[v]/\uk v/\Q (.bl false) H
theorem abE(vs:List V)(H:Hp)(Q:VK)(E:XK)(h:Cs vs H Q E):av (aI K [] [] (E:=E)) AF (Dn Q) (start g4 vs) H:=by
 obtain⟨v,rfl,h,q⟩:=h
 have n1: ∀b,v≠ .bl b:=by
  rcases h with⟨i,rfl⟩ | rfl | ⟨s,rfl⟩ <;>intro b z<;>cases z
 refine aY<|lG<|cZ<|ag rfl<|ao ?_
 show ∃c,V.bl (decide<|v=V.bl true)= .bl c/\_
 refine⟨_,rfl,iF (cZ<|ag rfl<|ao ?_)<|zqF<|n1 true⟩
 show Q (.bl<|decide<|v=V.bl false) H
 rw[zqF<|n1 false];exact q
def lI(v:V)(H:Hp):Prop:=iE .str v H\/ ∃s,v= .str s/\iV (.str s) xk=false
theorem lI.same{v:V}{H H':Hp}(h:lI v H)(s:aC H H'):lI v H':=by
 rcases h with h | h
 ·exact .inl (h.same s)
 ·exact .inr h
def lJ(v u:V)(H:Hp):Prop:=lI v H\/((∃w:Wd,v= .str w.str)/\uk u)
theorem lJ.same{v u:V}{H H':Hp}(h:lJ v u H)(s:aC H H'):lJ v u H':=by
 rcases h with h | h
 ·exact .inl (h.same s)
 ·exact .inr h
def um(CD:Addr):Sp:=fun vs H Q E=> ∃v u:V,vs=[v,u]/\lJ v u H/\E (.ref CD) none H
theorem abF{p:Addr}(hp: ∀H:Hp,ba K H p xk)(vs:List V)(H:Hp)(Q:VK)(E:XK)(h:um CD vs H Q E):av (aI K [("is_word",oo K),("is_truth",fN tM Cs)] [("STEP_WORDS", .ref p)] (et:=[("BadDeed",CD)]) (E:=E)) AM (Dn Q) (start AL vs) H:=by
 obtain⟨v,u,rfl,h,q⟩:=h
 rcases h with(h | ⟨s,rfl,hs⟩) | ⟨⟨w,rfl⟩,hu⟩
 ·refine bj (bO<|dU (oo K) rfl<|ah<|ag rfl<|ah<|gh<|az ⟨_,p,_,rfl,hp H,rfl, .inr ⟨h,cq<|iT ?_ rfl⟩⟩)
  exact⟨(by show 1<=sizeLine;decide),q⟩
 ·refine bj (bO<|dU (oo K) rfl<|ah<|ag rfl<|ah<|gh<|az ⟨_,p,_,rfl,hp H,rfl, .inl ⟨_,rfl,cq<|iT ?_ (by rw[hs];rfl)⟩⟩)
  exact⟨(by show 1<=sizeLine;decide),q⟩
 ·refine bj (bO<|dU (oo K) rfl<|ah<|ag rfl<|ah<|gh<|az ⟨_,p,_,rfl,hp H,rfl, .inl ⟨_,rfl,cq<|iF (bH ?_) (by rw[La];rfl)⟩⟩)
  refine bj<|bO<|dU (fN tM Cs) rfl<|ah<|ag rfl<|az<|.inr ⟨_,rfl,hu,cq<|iT ?_ rfl⟩
  exact⟨(by show 1<=sizeLine;decide),q⟩
def Ct(CP CE CD:Addr):Sp:=fun vs H Q E=> ∃(p dp s:Addr) (v:V) (t:Tr) (S:List Nat) (cu wv hv:V),vs=[.ref p,cu,wv,hv]/\ed CP H p dp s v t S/\
 ((fh cu (txt S t.aw).length H/\ ∀H',aC H H'->E (.ref CE) none H')\/((∃c,gr H cu c/\c.1<= (txt S t.aw).length/\c.2.1<= (txt S t.aw).length)/\lJ wv hv H/\ ∀H',aC H H'->E (.ref CD) none H'))
theorem abG(vs:List V)(H:Hp)(Q:VK)(E:XK)(h:Ct CP CE CD vs H Q E):av (aI K [("need_cursors",fN oN<|uh CE),("need_step",um CD),("step",tR CP C)] [] [] [("size",CP,cG CP)] (E:=E)) HR (Dn Q) (start HQ vs) H:=by
 obtain⟨p,dp,s,v,t,S,cu,wv,hv,rfl,P,h⟩:=h
 refine eJ<|aP (fN oN<|uh CE) rfl<|ah<|gi CP (cG CP) rfl<|ag rfl ⟨p,dp,_,rfl,P.ob,dD (by decide+kernel) (by decide+kernel),p,dp,s,v,t,_,rfl,P,ah<|bS<|ah<|ag rfl<|az ⟨(by show 1<=sizeLine;decide),fun l fl=>az ?_⟩⟩
 have s1:=sameNew (o:= .lst [cu]) fl
 rcases h with⟨ho,q⟩ | ⟨⟨c,hc,c1,c2⟩,hb,q⟩
 ·exact .inr ⟨_,_,rfl,Cq (xs1:=[]) (xs2:=[]) aD (fun x hx=>by cases hx)<|ho.same s1,fun H' s'=>q H'<|s1.trans s'⟩
 ·refine .inl ⟨_,l,[cu],[c],rfl,aD, .cons (hc.same s1) .nil,zqR _,(by show 1<=40;decide),fun d hd=>by rw[zas.mp hd];exact⟨c1,c2⟩,fun i d e hd he=> ?_,fun H2 s2=> ?_⟩
  ·exact absurd (zah.mp he).1 (by show ¬i+1<1;lia)
  ·exact eJ (aP (um CD) rfl<|ah<|ag rfl<|ah<|ag rfl<|az ⟨_,_,rfl,hb.same<|s1.trans s2,q _<|s1.trans s2⟩)
def fi(x:Str)(w:Wd)(b:Bool)(c:Cu):Cu:=(if b=true then c.1 else led x.cps.toList c.1 c.2.1 c.2.2 w b,led x.cps.toList c.1 c.2.1 c.2.2 w b,iJ x.cps.toList c.2.1 c.2.2 w)
theorem abH{x:Str}{w:Wd}{b:Bool}{c:Cu}(h1:c.1<=x.length)(h2:c.2.1<=x.length):(fi x w b c).1<=x.length/\(fi x w b c).2.1<=x.length:=by
 have lx:=len_list x
 have l:=abD (l:=x.cps.toList) (g:=c.2.2) (w:=w) (b:=b) (show c.1<=x.cps.toList.length by lia) (show c.2.1<=x.cps.toList.length by lia)
 unfold fi
 refine⟨?_,by show led _ _ _ _ _ _<=_;lia⟩
 show(if b=true then c.1 else led x.cps.toList c.1 c.2.1 c.2.2 w b)<=_
 split
 ·exact h1
 ·lia
def qF(CP C:Addr):Sp:=fun vs H Q E=> ∃(p dp s dx lt lb lf:Addr) (v:V) (t:Tr) (ts:List Str) (x:Str) (l:Addr) (xs:List V) (cs:List Cu) (w:Wd) (b:Bool),vs=[.ref p, .ref l, .str w.str, .bl b]/\eL CP C H p dp s dx lt lb lf v t ts x/\x.length<=100000/\H l=some (.lst xs)/\bJ H xs cs/\1<=cs.length/\cs.length<=40/\(∀c∈cs,c.1<=x.length/\c.2.1<=x.length)/\Apart cs/\
 ∀us r zs H',e_ (cs.map<|fi x w b) us->aC H H'->H r=none->H' r=some (.lst zs)->bJ H' zs (settle (cs.map<|fi x w b) us)->Q (.ref r) H'
theorem abI(vs:List V)(H:Hp)(Q:VK)(E:XK)(h:qF CP C vs H Q E):av (aI K [("need_cursors",oN),("need_step",BM),("settled",kb),("step",tR CP C)] [] [] [("size",CP,cG CP)] (E:=E)) AZ (Dn Q) (start AY vs) H:=by
 obtain⟨p,dp,s,dx,lt,lb,lf,v,t,ts,x,l,xs,cs,w,b,rfl,B,hx,hl,hc,h1,h2,cC,uc,q⟩:=h
 have lx:=len_list x
 have lc:xs.length=cs.length:=Paired.length hc
 refine eJ<|aP oN rfl<|ah<|gi CP (cG CP) rfl<|ag rfl ⟨p,dp,_,rfl,B.pa.ob,dD (by decide+kernel) (by decide+kernel),p,dp,s,v,t,_,rfl,B.pa,ah<|ag rfl<|az ⟨_,l,xs,cs,rfl,hl,hc,h1,h2,fun c m5=>by rw[B.tx,<-lx];exact cC c m5,uc,fun H1 s1=> ?_⟩⟩
 refine eJ<|aP BM rfl<|ah<|ag rfl<|ah<|ag rfl<|az ⟨w,b,rfl, ?_⟩
 have pE:=s1 _ _ hl
 refine aY<|aP kb rfl<|ah<|mJ<|ag rfl ⟨l,rfl,⟨_,aB.of pE⟩, ?_⟩
 refine mI pE (by lia) (fun i ys H2=>bJ H2 ys<|(cs.take i).map<|fi x w b) .nil ?_ ?_
 ·intro i y ys H2 hy s2 e Q' kk
  obtain⟨c,m5,tc,rfl,htc⟩:=gM hc hy
  have dv:=s1.trans s2
  have hb:=cC c (zaj m5)
  refine aP (tR CP C) rfl<|ah<|ag rfl<|ah<|ag rfl<|ah<|ag rfl<|ah<|ag rfl<|az ⟨p,dp,s,dx,lt,lb,lf,v,t,ts,x,tc,_,_,_,w,b,rfl,B.same dv,dv _ _ htc,hb.1,hb.2,hx,fun t' H' s' jt=>kk _ _ s' ?_⟩
  rw[mU m5,zap]
  exact hZ (bJ.same e s') ⟨t',rfl,jt⟩
 ·intro ys H2 p2 s2 e f2
  rw[lc,zao<|zqR _] at e
  have s3:=sameNew (o:= .lst ys) f2
  refine az ⟨p2,ys,cs.map<|fi x w b,rfl,aD,bJ.same e s3,by rw[zag];lia,fun us r zs H' S s' fr hr hz=> ?_⟩
  have uo:=(s1.trans s2).trans s3
  exact q us r zs H' S (uo.trans s') (uo.free fr) hr hz
def Cv(CP CE CD:Addr):Sp:=fun vs H Q E=> ∃(p dp s:Addr) (v:V) (t:Tr) (S:List Nat) (cv wv hv:V),vs=[.ref p,cv,wv,hv]/\ed CP H p dp s v t S/\
 ((qA cv (txt S t.aw).length H/\ ∀H',aC H H'->E (.ref CE) none H')\/((∃l xs cs,cv= .ref l/\H l=some (.lst xs)/\bJ H xs cs/\1<=cs.length/\cs.length<=40/\(∀c∈cs,c.1<= (txt S t.aw).length/\c.2.1<= (txt S t.aw).length)/\Apart cs)/\lJ wv hv H/\ ∀H',aC H H'->E (.ref CD) none H'))
theorem abK(vs:List V)(H:Hp)(Q:VK)(E:XK)(h:Cv CP CE CD vs H Q E):av (aI K [("need_cursors",fN oN<|uh CE),("need_step",um CD),("settled",kb),("step",tR CP C)] [] [] [("size",CP,cG CP)] (E:=E)) AZ (Dn Q) (start AY vs) H:=by
 obtain⟨p,dp,s,v,t,S,cv,wv,hv,rfl,P,h⟩:=h
 refine eJ<|aP (fN oN<|uh CE) rfl<|ah<|gi CP (cG CP) rfl<|ag rfl ⟨p,dp,_,rfl,P.ob,dD (by decide+kernel) (by decide+kernel),p,dp,s,v,t,_,rfl,P,ah<|ag rfl<|az ?_⟩
 rcases h with⟨hb,q⟩ | ⟨⟨l,xs,cs,rfl,hl,hc,h1,h2,cC,uc⟩,hb,q⟩
 ·exact .inr ⟨_,_,rfl,hb,q⟩
 ·exact .inl ⟨_,l,xs,cs,rfl,hl,hc,h1,h2,cC,uc,fun H1 s1=>eJ<|aP (um CD) rfl<|ah<|ag rfl<|ah<|ag rfl<|az ⟨_,_,rfl,hb.same s1,q _ s1⟩⟩
end
end L2.N
namespace L2.oa
open PySem PySem.Spec L2.B L2.N
def Mf:Nat->Str
 | 7=> "c"
 | _=> "d"
abbrev Mg(c0 c1 c2 c3 c4 c5 c6 c7 c8 c9 qG qH qI:Addr):List (Str×V):=
 [("BadText", .ref c0),("BadChange", .ref c1),("BadFit", .ref c2),("NoPlace", .ref c3),("BadSide", .ref c4),("NoMark", .ref c5),("NoNode", .ref c6),("NoCursor", .ref c7),("BadDeed", .ref c8),("BadLetter", .ref c9),("NoLetter", .ref qG),("NoHand", .ref qH),("NoNote", .ref qI)]
def sS(K:Frag)(cs:List Addr)(c_:Addr):Sp:=fun vs H Q E=> ∃ea D j,vs=[.ref ea]/\ExcAt H ea D/\qb K cs c_ D j/\(j=7\/j=8)/\ ∀H',aC H H'->Q (.str<|Mf j) H'
section
variable {Γ:aX} {cs:List Addr} {c_ ea D:Addr} {j:Nat}
theorem xI(hk:qb Γ.K cs c_ D j)(hg: ∀i c,cs[i]?=some c->Γ.gv i= .ref c): ∀(is:List Nat) (σ:St) (H:Hp) (Q:List V->Hp->Prop),(∀i∈is,i<cs.length)->σ[0]?=some (some<|.ref ea)->ExcAt H ea D->Q (is.map fun i=>V.bl (decide<|i=j)) H->aZ Γ (is.map fun i=> .dg (.v 0) (.g i)) σ H Q
 | [],σ,H,Q,_,_,_,q=>q
 | i::is,σ,H,Q,hl,h0,he,q=>by
  have hi:=hl i (.head _)
  have hc:cs[i]?=some cs[i]:=by simp[hi]
  have key: ∀k:VK,jJ Γ.K [.ref ea, .ref cs[i]] H k->jJ Γ.K [.ref ea,Γ.gv i] H k:=by
   intro k;rw[hg i _ hc];exact id
  exact ah<|YE<|ag h0<|gh<|key _ ⟨D,_,he,hk.cls, .inl ⟨_,rfl⟩,hk.Kl i _ hc,xI hk hg is σ H _ (fun p hp=>hl p<|.tail _ hp) h0 he q⟩
def cH(n j:Nat):List V:=(List.range n).map fun i=>V.bl (decide<|i=j)
theorem abL{H:Hp}{Q:VK}(hl:cs.length=13)(hg: ∀i c,cs[i]?=some c->Γ.gv i= .ref c)(he:ExcAt H ea D)(hk:qb Γ.K cs c_ D j)(hj:j=7\/j=8)(q: ∀H',aC H H'->Q (.str<|Mf j) H'):
  av Γ gI (Dn Q) [some<|.ref ea,none] H:=by
 refine aO<|bS<|xI hk hg [0,1,2,3] _ H _ (by rw[hl];decide) rfl he ⟨(by show 4<=sizeLine;decide),fun l1 f1=> ?_⟩
 have s1:=sameNew (o:= .lst ([0,1,2,3].map fun i=>V.bl (decide<|i=j))) f1
 refine aO<|aN<|ag rfl<|bS<|xI hk hg [4,5,6,7] _ _ _ (by rw[hl];decide) rfl (he.same s1) ⟨(by show 4<=sizeLine;decide),fun l2 f2=> ?_⟩
 have s2:=sameNew (o:= .lst ([4,5,6,7].map fun i=>V.bl (decide<|i=j))) f2
 refine .inl ⟨l1,l2,_,_,rfl,rfl,s2 _ _ aD,aD,(by show 8<=sizeLine;decide),fun l3 f3=> ?_⟩
 have s3:=sameNew (o:= .lst (([0,1,2,3].map fun i=>V.bl (decide<|i=j))++ [4,5,6,7].map fun i=>V.bl (decide<|i=j))) f3
 have uo:=(s1.trans s2).trans s3
 refine aO<|aN<|ag rfl<|bS<|xI hk hg [8,9,10,11] _ _ _ (by rw[hl];decide) rfl (he.same uo) ⟨(by show 4<=sizeLine;decide),fun l4 f4=> ?_⟩
 have s4:=sameNew (o:= .lst ([8,9,10,11].map fun i=>V.bl (decide<|i=j))) f4
 refine .inl ⟨l3,l4,_,_,rfl,rfl,s4 _ _ aD,aD,(by show 12<=sizeLine;decide),fun l5 f5=> ?_⟩
 have s5:=sameNew (o:= .lst ((([0,1,2,3].map fun i=>V.bl (decide<|i=j))++ [4,5,6,7].map fun i=>V.bl (decide<|i=j))++ [8,9,10,11].map fun i=>V.bl (decide<|i=j))) f5
 have Cw:=(uo.trans s4).trans s5
 have h5:(upd (upd (upd (upd (upd H l1<|.lst<|[0,1,2,3].map fun i=>V.bl (decide<|i=j)) l2<|.lst<|[4,5,6,7].map fun i=>V.bl (decide<|i=j)) l3<|.lst<|([0,1,2,3].map fun i=>V.bl (decide<|i=j))++ [4,5,6,7].map fun i=>V.bl (decide<|i=j)) l4<|.lst<|[8,9,10,11].map fun i=>V.bl (decide<|i=j)) l5<|.lst<|(([0,1,2,3].map fun i=>V.bl (decide<|i=j))++ [4,5,6,7].map fun i=>V.bl (decide<|i=j))++ [8,9,10,11].map fun i=>V.bl (decide<|i=j)) l5=some (.lst<|cH 12 j):=aD
 generalize (upd (upd (upd (upd (upd H l1<|.lst<|[0,1,2,3].map fun i=>V.bl (decide<|i=j)) l2<|.lst<|[4,5,6,7].map fun i=>V.bl (decide<|i=j)) l3<|.lst<|([0,1,2,3].map fun i=>V.bl (decide<|i=j))++ [4,5,6,7].map fun i=>V.bl (decide<|i=j)) l4<|.lst<|[8,9,10,11].map fun i=>V.bl (decide<|i=j)) l5<|.lst<|(([0,1,2,3].map fun i=>V.bl (decide<|i=j))++ [4,5,6,7].map fun i=>V.bl (decide<|i=j))++ [8,9,10,11].map fun i=>V.bl (decide<|i=j))=H5 at Cw h5⊢
 have Mh:=he.same Cw
 have Mi:cs[12]?=some cs[12]:=by simp[hl]
 have Mj:=hk.Kl 12 _ Mi
 have Ml:(cH 12 j).all ei=true:=by rcases hj with rfl | rfl<;>rfl
 have abM:(cH 12 j).countP (fun z=>eF z<|.bl true)=1:=by rcases hj with rfl | rfl<;>rfl
 have cC:iV (.bl true) (cH 12 j)=true:=by rcases hj with rfl | rfl<;>rfl
 have abN:(cH 12 j).findIdx (fun z=>eF z<|.bl true)=j:=by rcases hj with rfl | rfl<;>rfl
 have h12:decide (12=j)=false:=by rcases hj with rfl | rfl<;>rfl
 rw[h12] at Mj
 refine bj<|qe<|bO<|YG rfl Mh hk.cls hk.val<|iF ?_ rfl
 refine qe<|bq<|eR<|ag rfl ⟨.inl ⟨rfl,_,aB.of h5⟩,ao ⟨_,aB.of h5,rfl,Ml, ?_⟩⟩
 rw[abM]
 refine ao<|qf ⟨_,rfl,iF ?_ rfl⟩
 refine Bj<|YF rfl Mh hk.cls (hg 12 _ Mi) Mj<|iF ?_ rfl
 refine aY<|aU<|bS<|ah<|ao<|ah<|ao<|ah<|ao<|ah<|ao<|ah<|ao<|ah<|ao<|ah<|ao<|ah<|ao<|ah<|ao<|ah<|ao<|ah<|ao<|ah<|ao<|az ⟨(by show 12<=sizeLine;decide),fun l6 f6=> ?_⟩
 have s6:=sameNew (o:= .lst [V.str "text",V.str "change",V.str "fit",V.str "place",V.str "s",V.str "m",V.str "n",V.str "c",V.str "d",V.str "l",V.str "x",V.str "h"]) f6
 refine eR<|ag rfl ⟨.inl ⟨rfl,_,aB.of<|s6 _ _ h5⟩,ao ⟨_,aB.of<|s6 _ _ h5,rfl,Ml,cC, ?_⟩⟩
 rw[abN]
 refine .inl ⟨l6,_,_,_,rfl,rfl,aB.of aD, ?_,q _<|Cw.trans s6⟩
 rcases hj with rfl | rfl<;>rfl
end
theorem A_{K:Frag}{c0 c1 c2 c3 c4 c5 c6 c7 c8 c9 qG qH qI c_:Addr}(vs:List V)(H:Hp)(Q:VK)(h:sS K [c0,c1,c2,c3,c4,c5,c6,c7,c8,c9,qG,qH,qI] c_ vs H Q E0):
  av (aI K []<|Mg c0 c1 c2 c3 c4 c5 c6 c7 c8 c9 qG qH qI) gI (Dn Q) (start og vs) H:=by
 obtain⟨ea,D,j,rfl,he,hk,hj,q⟩:=h
 refine abL (Γ:=aI K [] (Mg c0 c1 c2 c3 c4 c5 c6 c7 c8 c9 qG qH qI)) (cs:=[c0,c1,c2,c3,c4,c5,c6,c7,c8,c9,qG,qH,qI]) rfl (fun i c hi=> ?_) he hk hj q
 have cM:i<13:=(zah.mp hi).1
 match i,cM with
 | 0,_ | 1,_ | 2,_ | 3,_ | 4,_ | 5,_ | 6,_ | 7,_ | 8,_ | 9,_ | 10,_ | 11,_ | 12,_=>exact congrArg V.ref (zal hi)
section
variable {K:Frag}
theorem gd{t:Str}(h:(t.cps.toList.all fun c=>SG.cps.contains c)=true)(l:t.length<=2):good t/\t.length<=2:=⟨⟨by lia,fun c hc=>zaK.mp h c hc⟩,l⟩
def Cy:Sp:=fun vs H Q E=> ∃(c n:Int),vs=[.int c, .int n]/\0<=n/\n<=1000/\ ∀x H',good x->x.length<=2000->aC H H'->Q (.str x) H'
def abP:List RS:=[.asg 4 (.call 0 [(.v 0),(.bin .Add (.bin .Mult (.c (.int 3)) (.v 3)) (.c (.int 2)))]),
  .asg 2 (.bin .Add (.v 2) (.ix (.lst [(.c (.str "a")),(.c (.str "Z")),(.c (.str "0")),(.c (.str "m9")),(.c (.str " ")),(.c (.str "  ")),(.c (.str ".")),(.c (.str "\n"))]) (.bin .Mod (.v 4) (.c (.int 8)))))]
theorem abQ(vs:List V)(H:Hp)(Q:VK)(E:XK)(h:Cy vs H Q E):av (aI K [("_law_mixed",oF)] [] (E:=E)) k7 (Dn Q) (start sM vs) H:=by
 obtain⟨c,n,rfl,n0,n1,q⟩:=h
 refine aO<|ao ?_
 refine BD (body:=abP) (ag rfl ⟨n,rfl,by lia,by lia,yF (lo:=0) (n:=n.toNat) (fun i σ H2=>i<=n.toNat/\ ∃(x:Str) (u3 u4:Option V),σ=[some (.int c),some (.int n),some (.str x),u3,u4]/\aC H H2/\good x/\x.length<=2*i)
  ⟨zqZ _,"",none,none,rfl,aC.refl _,ZW,zqR _⟩ ?_ ?_⟩)
 ·rintro i σ H2 hi ⟨_,x,u3,u4,rfl,s2,gx,lx⟩
  refine aO<|aP oF rfl<|ah<|ag rfl<|ah<|aN<|aN<|ao<|ag rfl ⟨.inl ⟨by decide,by decide⟩,ao<|bP<|az ⟨_,_,rfl,fun m hm=> ?_⟩⟩
  refine aO<|aN<|ag rfl<|aU<|bS<|ah<|ao<|ah<|ao<|ah<|ao<|ah<|ao<|ah<|ao<|ah<|ao<|ah<|ao<|ah<|ao<|az ⟨(by show 8<=sizeLine;decide),fun l hl=> ?_⟩
  have s3:=sameNew (o:= .lst [V.str "a",V.str "Z",V.str "0",V.str "m9",V.str " ",V.str "  ",V.str ".",V.str "\n"]) hl
  obtain⟨v,hv,ef⟩:=L2.N.pick (its:=[V.str "a",V.str "Z",V.str "0",V.str "m9",V.str " ",V.str "  ",V.str ".",V.str "\n"]) (j:=m % 8) (zaA _ (by decide)) (zaF _ (by decide))
  obtain⟨t,rfl,gt,lt⟩: ∃t,v= .str t/\good t/\t.length<=2:=by
   simp only[zaa,zac,or_false] at hv
   rcases hv with rfl | rfl | rfl | rfl | rfl | rfl | rfl | rfl<;>exact⟨_,rfl,gd (by decide+kernel) (by decide+kernel)⟩
  refine aN<|ag rfl<|ao ⟨(by show(0:Int) <8;decide),cI aD ef ⟨cp (by lia), ?_⟩⟩
  exact⟨hi,_,_,_,rfl,s2.trans s3,YJ gx gt (by lia),by rw[Kg];lia⟩
 ·rintro σ H2 ⟨_,x,u3,u4,rfl,s2,gx,lx⟩
  have g:=YI gx none (some n)
  exact aY<|qw<|ag rfl<|ag rfl ⟨n,rfl,cp (by lia),q _ _ g.1 (by lia) s2⟩
def Cz:Sp:=fun vs H Q E=> ∃(c:Int) (n:Nat),vs=[.int c, .int n]/\ ∀r zs ds H',aC H H'->H r=none->H' r=some (.lst zs)->bJ H' zs ds->(∀d∈ds,d.1<=n/\d.2.1<=n)->oO ds->1<=ds.length->ds.length<=40->Q (.ref r) H'
abbrev xJ:List (Str×Sp):=[("_law_mixed",oF),("_law_settled",kb)]
def uq:List RS:=[.asg 5 (.call 0 [(.v 0),(.bin .Add (.bin .Mult (.c (.int 17)) (.v 4)) (.c (.int 5)))]),
  .asg 6 (.bin .Mod (.v 5)<|.bin .Add (.v 1)<|.c<|.int 1),
  .asg 7 (.blt .max [(.c<|.int 0),(.blt .min [(.v 1),(.bin .Add (.v 6)<|.ix (.lst [(.c<|.int 0),(.c<|.int 0),(.c<|.int 1),(.neg<|.c<|.int 1),(.c<|.int 3),(.neg<|.c<|.int 4),(.c<|.int 9)])<|.bin .Mod (.bin .FloorDiv (.v 5)<|.c<|.int 1009)<|.c<|.int 7)])]),
  .drop (.bD .append (.v 3) [(.tup [(.v 6),(.v 7),(.ix (.lst [(.c .aA),(.c .aA),(.bin .Mod (.bin .FloorDiv (.v 5) (.c (.int 5))) (.c (.int 9)))]) (.bin .Mod (.bin .FloorDiv (.v 5) (.c (.int 7))) (.c (.int 3))))])])]
theorem abR{E:XK}{D:Ends}{i n:Nat}{c:Int}{L:Addr}{ys:List V}{cs:List Cu}{u2 u5 u6 u7:Option V}{H0 H:Hp}(sm:aC H0 H)(fL:H0 L=none)(hL:H L=some (.lst ys))(hc:bJ H ys cs)(hn:cs.length<=1000)
  (k: ∀(y5 y6 y7:Option V) (rS:List V) (d:Cu) (H':Hp),aC H0 H'->H' L=some (.lst rS)->bJ H' rS (cs++ [d])->d.1<=n->d.2.1<=n->D.nx [some<|.int c,some<|.int (n:Nat),u2,some<|.ref L,some<|.int (i:Nat),y5,y6,y7] H'):
  av (aI K xJ [] (E:=E)) uq D [some<|.int c,some<|.int (n:Nat),u2,some<|.ref L,some<|.int (i:Nat),u5,u6,u7] H:=by
 have n1:(0:Int) < (n:Nat)+1:=by lia
 refine aO<|aP oF rfl<|ah<|ag rfl<|ah<|aN<|aN<|ao<|ag rfl ⟨.inl ⟨by decide,by decide⟩,ao<|bP<|az ⟨_,_,rfl,fun m hm=> ?_⟩⟩
 refine aO<|aN<|ag rfl<|aN<|ag rfl<|ao<|bP ⟨n1, ?_⟩
 obtain⟨a,ea,la⟩:=Ma (c:=m) (n:=n)
 show av _ (uq.drop 2) _ [some<|.int c,some<|.int (n:Nat),u2,some<|.ref L,some<|.int (i:Nat),some<|.int m,some<|.int<|m % ((n:Nat)+1:Int),u7] H
 rw[ea]
 refine aO<|dr<|ah<|ao<|ah<|dr<|ah<|ag rfl<|ah<|aN<|ag rfl<|aU<|bS<|ah<|ao<|ah<|ao<|ah<|ao<|ah<|j8<|ah<|ao<|ah<|j8<|ah<|ao<|az ⟨(by show 7<=sizeLine;decide),fun l2 fl2=> ?_⟩
 have s2:=sameNew (o:= .lst [V.int 0,V.int 0,V.int 1,V.int<|-1,V.int 3,V.int<|-4,V.int 9]) fl2
 obtain⟨w,hw,CA⟩:=L2.N.pick (its:=[V.int 0,V.int 0,V.int 1,V.int<|-1,V.int 3,V.int<|-4,V.int 9]) (j:=m / 1009 % 7) (zaA _ (by decide)) (zaF _ (by decide))
 obtain⟨d,rfl⟩: ∃d:Int,w= .int d:=by
  simp only[zaa,zac,or_false] at hw
  rcases hw with rfl | rfl | rfl | rfl | rfl | rfl | rfl<;>exact⟨_,rfl⟩
 refine aN<|aN<|ag rfl<|ao ⟨⟨by decide,by decide⟩,ao ⟨(by show(0:Int) <7;decide),cI aD CA<|bP<|az ?_⟩⟩
 obtain⟨h,lh,eh⟩: ∃h:Nat,h<=n/\(if (if ((a:Nat):Int)+d< ((n:Nat):Int) then ((a:Nat):Int)+d else ((n:Nat):Int)) >0 then (if ((a:Nat):Int)+d< ((n:Nat):Int) then ((a:Nat):Int)+d else ((n:Nat):Int)) else (0:Int))=((h:Nat):Int):=by
  refine⟨(if (if ((a:Nat):Int)+d< ((n:Nat):Int) then ((a:Nat):Int)+d else ((n:Nat):Int)) >0 then (if ((a:Nat):Int)+d< ((n:Nat):Int) then ((a:Nat):Int)+d else ((n:Nat):Int)) else (0:Int)).toNat, ?_, ?_⟩
  ·split<;>split<;>lia
  ·split<;>split<;>lia
 show av _ (uq.drop 3) _ [some<|.int c,some<|.int (n:Nat),u2,some<|.ref L,some<|.int (i:Nat),some<|.int m,some<|.int (a:Nat),some<|.int (if (if ((a:Nat):Int)+d< ((n:Nat):Int) then ((a:Nat):Int)+d else ((n:Nat):Int)) >0 then (if ((a:Nat):Int)+d< ((n:Nat):Int) then ((a:Nat):Int)+d else ((n:Nat):Int)) else (0:Int))] _
 rw[eh]
 have CB:=s2 _ _ hL
 have q8:=hc.same s2
 have Mm:=sm.trans s2
 generalize upd H l2 (.lst [V.int 0,V.int 0,V.int 1,V.int<|-1,V.int 3,V.int<|-4,V.int 9])=H2 at s2 CB q8 Mm⊢
 have m9:0<=m / 5 % 9:=zaA _ (by decide)
 refine eJ<|eR<|ag rfl ⟨.inl ⟨rfl,_,aB.of CB⟩,dS<|ah<|ag rfl<|ah<|ag rfl<|ah<|aU<|bS<|ah<|ao<|ah<|ao<|ah<|aN<|aN<|ag rfl<|ao ⟨⟨by decide,by decide⟩,ao ⟨(by show(0:Int) <9;decide),az ⟨(by show 3<=sizeLine;decide),fun l fl=> ?_⟩⟩⟩⟩
 have s3:=sameNew (o:= .lst [V.aA,V.aA,V.int<|m / 5 % 9]) fl
 obtain⟨v,hv,ef⟩:=L2.N.pick (its:=[V.aA,V.aA,V.int<|m / 5 % 9]) (j:=m / 7 % 3) (zaA _ (by decide)) (zaF _ (by decide))
 obtain⟨g,rfl⟩: ∃g:Option Nat,v=gV g:=by
  simp only[zaa,zac,or_false] at hv
  rcases hv with rfl | rfl | rfl
  ·exact⟨none,rfl⟩
  ·exact⟨none,rfl⟩
  ·exact⟨some (m / 5 % 9).toNat,by show V.int _=V.int _;rw[show(((m / 5 % 9).toNat:Nat):Int)=m / 5 % 9 by lia]⟩
 refine aN<|aN<|ag rfl<|ao ⟨⟨by decide,by decide⟩,ao ⟨(by show(0:Int) <3;decide),cI aD ef<|az ⟨(by show 3<=sizeLine;decide),fun t ft=> ?_⟩⟩⟩
 have s4:=s3.trans (sameNew (o:= .tup [V.int (a:Nat),V.int (h:Nat),gV g]) ft)
 have ht:upd (upd H2 l<|.lst [V.aA,V.aA,V.int<|m / 5 % 9]) t (.tup [V.int (a:Nat),V.int (h:Nat),gV g]) t=some (.tup [V.int (a:Nat),V.int (h:Nat),gV g]):=aD
 have oP:=s4 _ _ CB
 have ly:=Paired.length hc
 refine⟨ys,oP,gg (by lia), ?_⟩
 generalize upd (upd H2 l<|.lst [V.aA,V.aA,V.int<|m / 5 % 9]) t (.tup [V.int (a:Nat),V.int (h:Nat),gV g])=H4 at s4 ht oP⊢
 have b1:bo L H4 (upd H4 L<|.lst<|ys++ [.ref t]):=bo.upd
 have nt:t≠L:=fun z=>by rw[z,oP] at ht;cases ht
 have sm4:aC H0 (upd H4 L<|.lst<|ys++ [.ref t]):=fun c o e=>b1 c o (s4 _ _<|Mm _ _ e) (bT e fL)
 exact k _ _ _ (ys++ [.ref t]) (a,h,g) _ sm4 aD (hZ (Mc (q8.same s4) oP b1) ⟨t,rfl,b1 _ _ ht nt⟩) la lh
theorem abU(vs:List V)(H:Hp)(Q:VK)(E:XK)(h:Cz vs H Q E):av (aI K xJ [] (E:=E)) gJ (Dn Q) (start oh vs) H:=by
 obtain⟨c,n,rfl,q⟩:=h
 have p6:=zaA c (show(6:Int)≠0 by decide)
 have l6:=zaF c (show(0:Int) <6 by decide)
 refine aO<|aN<|ao<|aN<|ag rfl<|ao ⟨(by show(0:Int) <6;decide),bP ?_⟩
 have fin: ∀m:Int,1<=m->m<=40->av (aI K xJ [] (E:=E)) (gJ.drop 2) (Dn Q) [some<|.int c,some<|.int n,some<|.int m,none,none,none,none,none] H:=by
  intro m h1 h2
  refine aO<|bS<|az ⟨zqZ _,fun L fL=> ?_⟩
  have s0:=sameNew (o:= .lst []) fL
  refine BD (body:=uq) (ag rfl ⟨m,rfl,by lia,by lia,yF (lo:=0) (n:=m.toNat) (fun i σ H2=>i<=m.toNat/\ ∃(ys:List V) (cs:List Cu) (u4 u5 u6 u7:Option V),σ=[some (.int c),some (.int n),some (.int m),some (.ref L),u4,u5,u6,u7]/\aC H H2/\H2 L=some (.lst ys)/\bJ H2 ys cs/\cs.length=i/\ ∀c∈cs,c.1<=n/\c.2.1<=n)
   ⟨zqZ _,[],[],none,none,none,none,rfl,s0,aD, .nil,rfl,fun c hc=>by cases hc⟩ ?_ ?_⟩)
  ·rintro i σ H2 hi ⟨_,ys,cs,u4,u5,u6,u7,rfl,sm,hL,hc,lc,cC⟩
   show av (aI K xJ [] (E:=E)) uq _ [some<|.int c,some<|.int n,some<|.int m,some<|.ref L,some<|.int<|0+ (i:Int),u5,u6,u7] H2
   rw[Int.zero_add]
   refine abR sm fL hL hc (by lia) fun y5 y6 y7 rS d H' s' ur bU l1 l2=> ⟨hi,rS,cs++ [d],_,y5,y6,y7,rfl,s',ur,bU,by rw[zqA,lc];rfl,fun e he=> ?_⟩
   rcases zax.mp he with he | he
   ·exact cC e he
   ·rw[zas.mp he];exact⟨l1,l2⟩
  ·rintro σ H2 ⟨_,ys,cs,u4,u5,u6,u7,rfl,sm,hL,hc,lc,cC⟩
   refine aY<|aP kb rfl<|ah<|ag rfl<|az ⟨L,ys,cs,rfl,hL,hc,by lia,fun us r zs H' S s' fr hr hz=> ?_⟩
   have T:=L9 S cC
   have one:1<= (settle cs us).length:=List.length_pos_iff.mpr (T.ne (fun z=>by rw[z] at lc;exact absurd lc (by show ¬0=_;lia)))
   exact q r zs (settle cs us) H' (sm.trans s') (sm.free fr) hr hz T.iM T.mV one<|zaq T.len (by lia)
 refine bj<|bq<|aN<|aN<|ag rfl<|ao ⟨⟨by decide,by decide⟩,ao ⟨(by show(0:Int) <9;decide),ao<|fg ⟨_,rfl,gE (fun _=> ?_)<|fun _=>bH<|fin _ (by lia) (by lia)⟩⟩⟩
 exact aO<|ao<|bH<|fin 40 (by decide) (by decide)
end
section
variable {K:Frag} {CP CE CD:Addr}
def abV(v:V)(n:Nat)(H:Hp):Prop:= ∃(l:Addr) (xs:List V) (cs:List Cu),v= .ref l/\H l=some (.lst xs)/\bJ H xs cs/\1<=cs.length/\cs.length<=40/\(∀c∈cs,c.1<=n/\c.2.1<=n)/\Apart cs
def ju(CP:Addr):Sp:=fun vs H Q E=> ∃(p dp s:Addr) (v:V) (t:Tr) (S:List Nat) (cv wv hv:V) (way:Nat),vs=[.ref p,cv,wv,hv, .int (way:Nat)]/\ed CP H p dp s v t S/\
  ((way=0/\ ∃(l:Addr) (x:V) (xs:List V),cv= .ref l/\H l=some (.lst (x::xs))/\((fh x (txt S t.aw).length H/\ ∀H',aC H H'->Q (.str "c") H')\/((∃c,gr H x c/\c.1<= (txt S t.aw).length/\c.2.1<= (txt S t.aw).length)/\lJ wv hv H/\ ∀H',aC H H'->Q (.str "d") H')))\/
   (way=1/\((qA cv (txt S t.aw).length H/\ ∀H',aC H H'->Q (.str "c") H')\/(abV cv (txt S t.aw).length H/\lJ wv hv H/\ ∀H',aC H H'->Q (.str "d") H'))))
theorem abW{cs:List Addr}{c_:Addr}(kE:qb K cs c_ CE 7)(kD:qb K cs c_ CD 8)(xE:exmOne K (.ref CE) (.ref c_)=some true)(xD:exmOne K (.ref CD) (.ref c_)=some true)(vs:List V)(H:Hp)(Q:VK)(E:XK)(h:ju CP vs H Q E):
  av (aI K [("stepped",Ct CP CE CD),("all_stepped",Cv CP CE CD)] [("InkError", .ref c_)] (ht:=[("_law_word",sS K cs c_)]) (E:=E)) J0 (Dn Q) (start JZ vs) H:=by
 obtain⟨p,dp,s,v,t,S,cv,wv,hv,way,rfl,P,h⟩:=h
 refine⟨c_,rfl, ?_⟩
 rcases h with⟨rfl,l,x,xs,rfl,hl,h⟩ | ⟨rfl,h⟩
 ·refine bj (bq<|ag rfl<|ao<|fg ⟨_,rfl,iT ?_ (by decide)⟩)
  refine eJ<|aP (Ct CP CE CD) rfl<|ah<|ag rfl<|ah<|aU<|ag rfl<|ao<|cI hl (ij (xs:=x::xs) (j:=0) rfl)<|ah<|ag rfl<|ah<|ag rfl<|az ⟨p,dp,s,v,t,S,x,wv,hv,rfl,P, ?_⟩
  rcases h with⟨ho,q⟩ | ⟨hc,hb,q⟩
  ·refine .inl ⟨ho,fun H1 s1=> ⟨xE,fun ea ob vs σ' gb hl gU=> ?_⟩⟩
   have s2:=sameNew (o:= .bE ob fZ) gb
   have he:ExcAt (upd H1 ea<|.bE ob fZ) ea CE:=⟨ob,vs,aD,gU⟩
   exact⟨_,(by rw[zaV (by lia)]),⟨ea,CE,rfl,he⟩,ea,CE,7,rfl,he,kE, .inl rfl,fun H2 s3=>q _<|(s1.trans s2).trans s3⟩
  ·refine .inr ⟨hc,hb,fun H1 s1=> ⟨xD,fun ea ob vs σ' gb hl gU=> ?_⟩⟩
   have s2:=sameNew (o:= .bE ob fZ) gb
   have he:ExcAt (upd H1 ea<|.bE ob fZ) ea CD:=⟨ob,vs,aD,gU⟩
   exact⟨_,(by rw[zaV (by lia)]),⟨ea,CD,rfl,he⟩,ea,CD,8,rfl,he,kD, .inr rfl,fun H2 s3=>q _<|(s1.trans s2).trans s3⟩
 ·refine bj (bq<|ag rfl<|ao<|fg ⟨_,rfl,iF ?_ (by decide)⟩)
  refine eJ<|aP (Cv CP CE CD) rfl<|ah<|ag rfl<|ah<|ag rfl<|ah<|ag rfl<|ah<|ag rfl<|az ⟨p,dp,s,v,t,S,cv,wv,hv,rfl,P, ?_⟩
  rcases h with⟨ho,q⟩ | ⟨hc,hb,q⟩
  ·refine .inl ⟨ho,fun H1 s1=> ⟨xE,fun ea ob vs σ' gb hl gU=> ?_⟩⟩
   have s2:=sameNew (o:= .bE ob fZ) gb
   have he:ExcAt (upd H1 ea<|.bE ob fZ) ea CE:=⟨ob,vs,aD,gU⟩
   exact⟨_,(by rw[zaV (by lia)]),⟨ea,CE,rfl,he⟩,ea,CE,7,rfl,he,kE, .inl rfl,fun H2 s3=>q _<|(s1.trans s2).trans s3⟩
  ·refine .inr ⟨hc,hb,fun H1 s1=> ⟨xD,fun ea ob vs σ' gb hl gU=> ?_⟩⟩
   have s2:=sameNew (o:= .bE ob fZ) gb
   have he:ExcAt (upd H1 ea<|.bE ob fZ) ea CD:=⟨ob,vs,aD,gU⟩
   exact⟨_,(by rw[zaV (by lia)]),⟨ea,CD,rfl,he⟩,ea,CD,8,rfl,he,kD, .inr rfl,fun H2 s3=>q _<|(s1.trans s2).trans s3⟩
end
section
variable {Γ:aX} {σ:St}
def xM(Γ:aX)(σ:St)(P:V->Hp->Prop)(e:RE):Prop:= ∀(H:Hp) (Q:VK),(∀v H',aC H H'->P v H'->Q v H')->aj Γ e σ H Q
theorem Mn{P:V->Hp->Prop}(st: ∀v H H',P v H->aC H H'->P v H'): ∀(es:List RE),(∀e∈es,xM Γ σ P e)-> ∀(H:Hp) (Q:List V->Hp->Prop),(∀vs H',aC H H'->vs.length=es.length->(∀v∈vs,P v H')->Q vs H')->aZ Γ es σ H Q
 | [],_,H,Q,q=>az (q [] H (aC.refl _) rfl<|fun v hv=>by cases hv)
 | e::es,h,H,Q,q=>ah (h e (.head _) H _ fun v H1 s1 o=>Mn st es (fun e' Co=>h e' (.tail _ Co)) H1 _ fun vs H2 s2 ln os=>q (v::vs) H2 (s1.trans s2) (by rw[zar,ln,zar]) (fun w hw=>by
   rcases zaa.mp hw with rfl | hw
   ·exact st _ _ _ o s2
   ·exact os w hw))
theorem oQ{P:V->Hp->Prop}{v:V}(h: ∀H,P v H):xM Γ σ P (.c v):=fun H Q q=>ao (q v H (aC.refl _)<|h H)
theorem abX{v:V}:xM Γ σ lI (.lst [.c v]):=fun H Q q=>bS (ah<|ao<|az ⟨(by show 1<=sizeLine;decide),fun t ft=>q _ _ (sameNew ft)<|.inl<|sQ aD rfl⟩)
theorem abY{v:V}:xM Γ σ lI (.tup [.c v]):=fun H Q q=>dS (ah<|ao<|az ⟨(by show 1<=sizeLine;decide),fun t ft=>q _ _ (sameNew ft)<|.inl<|wK aD rfl⟩)
end
structure kd (CP:Addr) (H:Hp) (p dp s:Addr) (v:V) (t:Tr) (S:List Nat) (n:Nat) (l:Addr) (xs:List V) (cs:List Cu):Prop where
 pa:ed CP H p dp s v t S
 en:(txt S t.aw).length=n
 hl:H l=some (.lst xs)
 hc:bJ H xs cs
 mV:oO cs
 iM: ∀c∈cs,c.1<=n/\c.2.1<=n
 one:1<=cs.length
 fj:cs.length<=40
theorem kd.same{CP:Addr}{H H':Hp}{p dp s:Addr}{v:V}{t:Tr}{S:List Nat}{n:Nat}{l:Addr}{xs:List V}{cs:List Cu}(A:kd CP H p dp s v t S n l xs cs)(h:aC H H'):kd CP H' p dp s v t S n l xs cs:=⟨A.pa.same h,A.en,h _ _ A.hl,A.hc.same h,A.mV,A.iM,A.one,A.fj⟩
def CC(CP:Addr):Sp:=fun vs H Q E=> ∃(p dp s:Addr) (v:V) (t:Tr) (S:List Nat) (n:Nat) (l:Addr) (xs:List V) (cs:List Cu) (c:Int),vs=[.ref p, .ref l, .int c]/\0<=c/\kd CP H p dp s v t S n l xs cs/\ ∀H',aC H H'->Q (.bl true) H'
section
variable {K:Frag} {CP:Addr} {E:XK} {H:Hp} {p dp s:Addr} {v:V} {t:Tr} {S:List Nat} {n:Nat} {l:Addr} {xs:List V} {cs:List Cu}
abbrev GR(K:Frag)(CP:Addr)(E:XK):aX:=aI K [("_law_refusal",ju CP)] [] [] [("size",CP,cG CP)] (E:=E)
theorem Mo{Q:VK}{way:Nat}{wv hv:V}(A:kd CP H p dp s v t S n l xs cs)(hw:way=0\/way=1)(hb:lJ wv hv H)(q: ∀H',aC H H'->Q (.str "d") H'):ju CP [.ref p, .ref l,wv,hv, .int (way:Nat)] H Q E:=by
 refine⟨p,dp,s,v,t,S,_,wv,hv,way,rfl,A.pa, ?_⟩
 rw[A.en]
 rcases hw with rfl | rfl
 ·have hc:=A.hc
  have hl:=A.hl
  have one:=A.one
  cases hc with
  | nil=>exact absurd one (by decide)
  | cons x r=>exact .inl ⟨rfl,l,_,_,rfl,hl, .inr ⟨⟨_,x,A.iM _<|.head _⟩,hb,q⟩⟩
 ·exact .inr ⟨rfl, .inr ⟨⟨l,xs,cs,rfl,A.hl,A.hc,A.one,A.fj,A.iM,A.mV.apart⟩,hb,q⟩⟩
theorem abZ{Q:VK}{way:Nat}{o wv hv:V}{m:Addr}(A:kd CP H p dp s v t S n l xs cs)(hw:way=0\/way=1)(hm:H m=some (.lst [o]))(ho:fh o n H)(q: ∀H',aC H H'->Q (.str "c") H'):ju CP [.ref p, .ref m,wv,hv, .int (way:Nat)] H Q E:=by
 refine⟨p,dp,s,v,t,S,_,wv,hv,way,rfl,A.pa, ?_⟩
 rw[A.en]
 rcases hw with rfl | rfl
 ·exact .inl ⟨rfl,m,_,_,rfl,hm, .inl ⟨ho,q⟩⟩
 ·exact .inr ⟨rfl, .inl ⟨Cq (xs1:=[]) (xs2:=[]) hm (fun x hx=>by cases hx) ho,q⟩⟩
theorem CF{Q:VK}{cv wv hv:V}(A:kd CP H p dp s v t S n l xs cs)(hb:qA cv n H)(q: ∀H',aC H H'->Q (.str "c") H'):ju CP [.ref p,cv,wv,hv, .int 1] H Q E:=by
 refine⟨p,dp,s,v,t,S,_,wv,hv,1,rfl,A.pa, .inr ⟨rfl, .inl ⟨?_,q⟩⟩⟩
 rw[A.en];exact hb
def CG:List RS:=[.ite (.cmp .NotEq (.call 0 [(.v 0),(.v 1),(.v 5),(.c (.bl false)),(.v 9)]) (.c (.str "d"))) [.ret (.c (.bl false))] [],
  .ite (.cmp .NotEq (.call 0 [(.v 0),(.v 1),(.c<|.str "up"),(.v 6),(.v 9)])<|.c<|.str "d") [.ret<|.c<|.bl false] [],
  .ite (.cmp .NotEq (.call 0 [(.v 0),(.lst [(.v 8)]),(.v 5),(.c (.bl false)),(.v 9)]) (.c (.str "c"))) [.ret (.c (.bl false))] []]
abbrev sR(p l:Addr)(c:Int)(u3 u4:Option V)(w h:V)(u7:Option V)(o:V)(u9 dX mW:Option V):St:=[some<|.ref p,some<|.ref l,some<|.int c,u3,u4,some w,some h,u7,some o,u9,dX,mW]
theorem ab0{D:Ends}{c:Int}{u3 u4 u7 dX mW:Option V}{w h o:V}{i:Nat}(A:kd CP H p dp s v t S n l xs cs)(hi:i<2)(hw:lI w H)(hh:uk h)(ho:fh o n H)
  (k: ∀H',aC H H'->D.nx (sR p l c u3 u4 w h u7 o (some<|.int (i:Nat)) dX mW) H'):av (GR K CP E) CG D (sR p l c u3 u4 w h u7 o (some<|.int (i:Nat)) dX mW) H:=by
 have CH:i=0\/i=1:=by lia
 refine bj<|bq<|aP (ju CP) rfl<|ah<|ag rfl<|ah<|ag rfl<|ah<|ag rfl<|ah<|ao<|ah<|ag rfl<|az<|Mo A CH (.inl hw) fun H1 s1=>ao (ot ⟨_,rfl,iF (bH ?_) (by decide+kernel)⟩)
 refine bj<|bq<|aP (ju CP) rfl<|ah<|ag rfl<|ah<|ag rfl<|ah<|ao<|ah<|ag rfl<|ah<|ag rfl<|az<|Mo (A.same s1) CH (.inr ⟨⟨.up,rfl⟩,hh⟩) fun H2 s2=>ao (ot ⟨_,rfl,iF (bH ?_) (by decide+kernel)⟩)
 have dv:=s1.trans s2
 refine bj<|bq<|aP (ju CP) rfl<|ah<|ag rfl<|ah<|bS<|ah<|ag rfl<|az ⟨(by show 1<=sizeLine;decide),fun m fm=> ?_⟩
 have s3:=dv.trans (sameNew (o:= .lst [o]) fm)
 exact ah<|ag rfl<|ah<|ao<|ah<|ag rfl<|az<|abZ (A.same s3) CH aD (ho.same s3) fun H4 s4=>ao (ot ⟨_,rfl,iF (bH<|k _<|s3.trans s4) (by decide+kernel)⟩)
theorem ab1{Q:VK}{c:Int}{u3 u4 u7 u9:Option V}{w h o:V}(A:kd CP H p dp s v t S n l xs cs)(Mp:0<=c)(hh:uk h)(ho:fh o n H)(q: ∀H',aC H H'->Q (.bl true) H'):
  av (GR K CP E) (cN.drop 7) (Dn Q) (sR p l c u3 u4 w h u7 o u9 none none) H:=by
 have lx:xs.length=cs.length:=Paired.length A.hc
 have fj:=A.fj
 refine aO<|aN<|aN<|ag rfl<|ao ⟨⟨by decide,by decide⟩,aN<|dW<|ag rfl<|.inl ⟨_,aB.of A.hl,ao<|bP ⟨(by show(0:Int) < (xs.length:Nat)+1;lia), ?_⟩⟩⟩
 obtain⟨k,ek,lk⟩:=Ma (c:=c / 27) (n:=xs.length)
 show av _ (cN.drop 8) _ (sR p l c u3 u4 w h u7 o u9 (some<|.int<|c / 27 % ((xs.length:Nat)+1:Int)) none) H
 rw[ek]
 have lo:qE (GR K CP E) (sR p l c u3 u4 w h u7 o u9 (some<|.int (k:Nat)) none) H (.lst [(.v 8)]) fun zs _=>zs=[o]:=fun H1 Q s q=>bS (ah<|ag rfl<|az ⟨(by show 1<=sizeLine;decide),fun w fw=>q w _ _ (sameNew fw) aD rfl⟩)
 have tl:=Me (Me (aby (Γ:=GR K CP E) (σ:=sR p l c u3 u4 w h u7 o u9 (some<|.int (k:Nat)) none) (i:=1) (hi:= .v 10) (j:=k) rfl A.hl<|Cp rfl) lo Cr Cr (fun zs H e=>by rw[e,zaf];lia) (fun zs H e=>by rw[e];show 1<=1000;decide)) (abz (i:=1) (lo:= .v 10) (j:=k) rfl A.hl<|Cp rfl) (fun zs H H' h s=>h) Cr (fun zs H ⟨x,y,e,e1,e2⟩=>by rw[e,e1,e2,zqA,zaf];show _+1<=1000;lia) (fun zs H e=>by rw[e,zai];lia)
 refine bj<|bq<|aP (ju CP) rfl<|ah<|ag rfl<|ah<|tl H _ (aC.refl _) fun m zs H1 s1 hm e=> ?_
 obtain⟨x,y,rfl,⟨x1,y1,rfl,rfl,rfl⟩,rfl⟩:=e
 have A1:=A.same s1
 rw[zbw] at hm
 have bad:qA (.ref m) n H1:=by
  refine Cq hm (fun z hz=>abA A1.hc A1.iM ?_)<|ho.same s1
  rcases zax.mp hz with hz | hz
  ·exact zbF hz
  ·exact zbE hz
 refine ah<|ao<|ah<|ag rfl<|ah<|ao<|az<|CF A1 bad fun H2 s2=>ao (ot ⟨_,rfl,iF (bH ?_) (by decide+kernel)⟩)
 have A2:=A1.same s2
 refine aO<|aN<|bS<|ah<|dS<|ah<|ao<|ah<|ao<|ah<|ao<|az ⟨(by show 3<=sizeLine;decide),fun t ft=>az ⟨(by show 1<=sizeLine;decide),fun w fw=> ?_⟩⟩
 have s3:=(sameNew (o:= .tup [V.int 0,V.int 0,V.aA]) ft).trans (sameNew (o:= .lst [V.ref t]) fw)
 refine ao ⟨w,41,[.ref t],rfl,rfl,aD,by decide,by decide,cp (by show 1*41<=1000000;decide),fun m2 fm2=> ?_⟩
 have s4:=s3.trans (sameNew (o:= .lst (List.replicate (41:Int).toNat [V.ref t]).flatten) fm2)
 obtain⟨ys,ly,Mq⟩: ∃ys:List V,ys.length=41/\upd (upd (upd H2 t<|.tup [V.int 0,V.int 0,V.aA]) w<|.lst [V.ref t]) m2 (.lst (List.replicate (41:Int).toNat [V.ref t]).flatten) m2=some (.lst ys):=⟨_,rfl,aD⟩
 generalize upd (upd (upd H2 t<|.tup [V.int 0,V.int 0,V.aA]) w<|.lst [V.ref t]) m2 (.lst (List.replicate (41:Int).toNat [V.ref t]).flatten)=H4 at s4 Mq⊢
 refine aY<|iH<|cZ<|aP (ju CP) rfl<|ah<|ag rfl<|ah<|bS<|az ⟨zqZ _,fun m3 f3=> ?_⟩
 have s5:=sameNew (o:= .lst []) f3
 have A5:=A2.same (s4.trans s5)
 refine ah<|ao<|ah<|ao<|ah<|ao<|az<|CF A5 (.inr ⟨m3,[],rfl,aD, .inl rfl⟩) fun H6 s6=>ao (wN ⟨_,rfl,iT ?_ (by decide+kernel)⟩)
 have oR:=s5.trans s6
 refine qv<|cZ<|aP (ju CP) rfl<|ah<|ag rfl<|ah<|ag rfl<|ah<|ao<|ah<|ao<|ah<|ao<|az<|CF (A5.same s6) (.inr ⟨m2,ys,rfl,oR _ _ Mq, .inr<|.inl (by lia)⟩) fun H7 s7=>ao (wN ?_)
 rw[show((Str.ofString "c")==(Str.ofString "c"))=true by decide+kernel]
 exact q _<|((s1.trans s2).trans s4).trans<|oR.trans s7
theorem ab3(vs:List V)(H:Hp)(Q:VK)(E:XK)(hh:CC CP vs H Q E):av (GR K CP E) cN (Dn Q) (start hJ vs) H:=by
 obtain⟨p,dp,s,v,t,S,n,l,xs,cs,c,rfl,Mp,A,q⟩:=hh
 refine aO<|gi CP (cG CP) rfl<|ag rfl ⟨p,dp,_,rfl,A.pa.ob,dD (by decide+kernel) (by decide+kernel),p,dp,s,v,t,_,rfl,A.pa, ?_⟩
 rw[A.en]
 refine aO<|bS<|Mn (P:=lI) (fun v H H' h s=>h.same s) _ ?_ H _ fun oS H1 s1 l1 o1=> ⟨cp (by rw[l1];show 9<=1000000;decide),fun a1 f1=> ?_⟩
 ·intro e he
  simp only[zaa,zac,or_false] at he
  rcases he with rfl | rfl | rfl | rfl | rfl | rfl | rfl | rfl | rfl
  ·exact oQ fun H=> .inr ⟨_,rfl,by decide+kernel⟩
  ·exact oQ fun H=> .inr ⟨_,rfl,by decide+kernel⟩
  ·exact oQ fun H=> .inr ⟨_,rfl,by decide+kernel⟩
  ·exact oQ fun H=> .inl rfl
  ·exact oQ fun H=> .inl rfl
  ·exact abX
  ·exact oQ fun H=> .inr ⟨_,rfl,by decide+kernel⟩
  ·exact oQ fun H=> .inr ⟨_,rfl,by decide+kernel⟩
  ·exact abY
 have sa:=s1.trans (sameNew (o:= .lst oS) f1)
 have js:upd H1 a1 (.lst oS) a1=some (.lst oS):=aD
 have Mr: ∀v∈oS,lI v (upd H1 a1<|.lst oS):=fun v hv=> (o1 v hv).same (sameNew f1)
 generalize upd H1 a1 (.lst oS)=H2 at sa js Mr⊢
 obtain⟨w,hw,ef⟩:=L2.N.pick (its:=oS) (j:=c / 3 % 9) (zaA _ (by decide)) (by rw[l1];exact zaF _ (by decide))
 refine aO<|aU<|ag rfl<|aN<|aN<|ag rfl<|ao ⟨⟨by decide,by decide⟩,ao ⟨(by show(0:Int) <9;decide),cI js ef ?_⟩⟩
 refine aO<|aU<|bS<|ah<|ao<|ah<|ao<|ah<|ao<|ah<|ao<|az ⟨(by show 4<=sizeLine;decide),fun a2 f2=> ?_⟩
 obtain⟨h,hh,CA⟩:=L2.N.pick (its:=[V.int 0,V.int 1,V.aA,V.str "True"]) (j:=c / 3 % 4) (zaA _ (by decide)) (zaF _ (by decide))
 have nt:uk h:=by
  simp only[zaa,zac,or_false] at hh
  rcases hh with rfl | rfl | rfl | rfl
  ·exact .inl ⟨_,rfl⟩
  ·exact .inl ⟨_,rfl⟩
  ·exact .inr (.inl rfl)
  ·exact .inr (.inr ⟨_,rfl⟩)
 refine aN<|aN<|ag rfl<|ao ⟨⟨by decide,by decide⟩,ao ⟨(by show(0:Int) <4;decide),cI aD CA ?_⟩⟩
 have s2:=sameNew (o:= .lst [V.int 0,V.int 1,V.aA,V.str "True"]) f2
 have wZ:=(Mr w hw).same s2
 have sb:=sa.trans s2
 generalize upd H2 a2 (.lst [V.int 0,V.int 1,V.aA,V.str "True"])=H3 at s2 wZ sb⊢
 refine aO<|bS<|Cn (n:=n) _ ?_ H3 _ fun iN H4 s4 l4 o4=> ⟨cp (by rw[l4];show 8<=1000000;decide),fun a4 f4=> ?_⟩
 ·intro e he
  simp only[zaa,zac,or_false] at he
  rcases he with rfl | rfl | rfl | rfl | rfl | rfl | rfl | rfl
  ·exact qD fQ (abr (Cp rfl) fQ) fQ fun H=> .inr ⟨0,rfl,by lia,by lia, .inl<|.inr ⟨_,rfl, .inr (by lia)⟩⟩
  ·exact qD Md fQ fQ fun H=> .inl (.inr ⟨_,rfl, .inl (by decide)⟩)
  ·exact abu
  ·exact qD fQ fQ Md fun H=> .inr ⟨0,rfl,by lia,by lia, .inr ⟨0,rfl,by lia,by lia, .inl ⟨_,rfl,by decide⟩⟩⟩
  ·exact qD fQ fQ fQ fun H=> .inr ⟨0,rfl,by lia,by lia, .inl<|.inl<|.inl ⟨_,rfl⟩⟩
  ·exact abv
  ·exact abt fun H=>rfl
  ·exact qD fQ fQ fQ fun H=> .inr ⟨0,rfl,by lia,by lia, .inr ⟨0,rfl,by lia,by lia, .inr<|.inr ⟨_,rfl⟩⟩⟩
 have xO:=sameNew (o:= .lst iN) f4
 have h4:upd H4 a4 (.lst iN) a4=some (.lst iN):=aD
 have Ms: ∀v∈iN,fh v n (upd H4 a4<|.lst iN):=fun v hv=> (o4 v hv).same xO
 have sc:=sb.trans (s4.trans xO)
 have Mt:=wZ.same (s4.trans xO)
 generalize upd H4 a4 (.lst iN)=H5 at xO h4 Ms sc Mt⊢
 refine aO<|aU<|aN<|ag rfl<|bS<|Cn (n:=n) _ ?_ H5 _ fun lK H6 s6 l6 o6=> ⟨cp (by rw[l6];show 1<=1000000;decide),fun a6 f6=> ?_⟩
 ·intro e he
  simp only[zaa,zac,or_false] at he
  subst he
  exact qD fQ fQ fQ fun H=> .inr ⟨0,rfl,by lia,by lia, .inr ⟨0,rfl,by lia,by lia, .inr<|.inl ⟨_,rfl⟩⟩⟩
 have uu:=sameNew (o:= .lst lK) f6
 refine .inl ⟨a4,a6,iN,lK,rfl,rfl,uu _ _<|s6 _ _ h4,aD,cp (by rw[l4,l6];show 8+1<=1000000;decide),fun a7 f7=> ?_⟩
 have s7:=sameNew (o:= .lst (iN++lK)) f7
 have hlen:(iN++lK).length=9:=by rw[zqA,l4,l6];rfl
 obtain⟨o,ho,ab4⟩:=L2.N.pick (its:=iN++lK) (j:=c / 3 % 9) (zaA _ (by decide)) (by rw[hlen];exact zaF _ (by decide))
 refine aN<|aN<|ag rfl<|ao ⟨⟨by decide,by decide⟩,ao ⟨(by show(0:Int) <9;decide),cI aD ab4 ?_⟩⟩
 have odd:fh o n (upd (upd H6 a6<|.lst lK) a7<|.lst<|iN++lK):=by
  rcases zax.mp ho with ho | ho
  ·exact(Ms o ho).same ((s6.trans uu).trans s7)
  ·exact(o6 o ho).same (uu.trans s7)
 have sd:=sc.trans ((s6.trans uu).trans s7)
 have oT:=Mt.same ((s6.trans uu).trans s7)
 generalize upd (upd H6 a6<|.lst lK) a7 (.lst<|iN++lK)=H7 at odd sd oT⊢
 have A7:=A.same sd
 refine BD (body:=CG)<|ao ⟨2,rfl,by decide,by decide,yF (lo:=0) (n:=2) (fun i σ H8=> ∃u9,σ=sR p l c (some<|.int (n:Nat)) (some<|.ref a1) w h (some<|.ref a4) o u9 none none/\aC H7 H8) ⟨none,rfl,aC.refl _⟩ ?_ ?_⟩
 ·rintro i σ H8 hi ⟨u9,rfl,s8⟩
  show av (GR K CP E) CG _ (sR p l c (some<|.int (n:Nat)) (some<|.ref a1) w h (some<|.ref a4) o (some<|.int<|0+ (i:Int)) none none) H8
  rw[Int.zero_add]
  exact ab0 (A7.same s8) hi (oT.same s8) nt (odd.same s8) fun H9 s9=> ⟨_,rfl,s8.trans s9⟩
 ·rintro σ H8 ⟨u9,rfl,s8⟩
  exact ab1 (A7.same s8) Mp nt (odd.same s8) fun H9 s9=>q _ (sd.trans<|s8.trans s9)
end
structure dE (H:Hp) (r:Addr) (z:List V) (cs:List Cu):Prop where
 h:H r=some (.lst z)
 c:bJ H z cs
theorem dE.same{H H':Hp}{r:Addr}{z:List V}{cs:List Cu}(T:dE H r z cs)(s:aC H H'):dE H' r z cs:=⟨s _ _ T.h,T.c.same s⟩
theorem dE.but{H H':Hp}{r a:Addr}{z y:List V}{cs:List Cu}(T:dE H r z cs)(n:r≠a)(ha:H a=some (.lst y))(b:bo a H H'):dE H' r z cs:=⟨b _ _ T.h n,Mc T.c ha b⟩
def gy(L:Addr)(H:Hp)(v:V):Prop:= ∃(t a b:Addr) (xs ys:List V) (cs:List Cu),v= .ref t/\H t=some (.tup [.ref a, .ref b])/\a≠L/\b≠L/\dE H a xs cs/\dE H b ys cs
theorem gy.same{L:Addr}{H H':Hp}{v:V}(h:gy L H v)(s:aC H H'):gy L H' v:=by
 obtain⟨t,a,b,xs,ys,cs,e,ht,na,nb,A,B⟩:=h
 exact⟨t,a,b,xs,ys,cs,e,s _ _ ht,na,nb,A.same s,B.same s⟩
theorem gy.but{L:Addr}{H H':Hp}{v:V}{hs:List V}(h:gy L H v)(hL:H L=some (.lst hs))(b:bo L H H'):gy L H' v:=by
 obtain⟨t,a,c,xs,ys,cs,e,ht,na,nb,A,B⟩:=h
 exact⟨t,a,c,xs,ys,cs,e,b _ _ ht (fun z=>by rw[z,hL] at ht;cases ht),na,nb,A.but na hL b,B.but nb hL b⟩
theorem qJ{a:Addr}{H0 H H':Hp}(s:aC H0 H)(f:H0 a=none)(b:bo a H H'):aC H0 H':=fun c o e=>b c o (s _ _ e) (bT e f)
theorem ka{a:Addr}{H0 H H':Hp}(s:aC H0 H)(b:bo a H H'):bo a H0 H':=fun c o e n=>b c o (s _ _ e) n
theorem iO{H:Hp}{a b:Addr}{o:HO}(h:H a=some o)(f:H b=none):b≠a:=fun z=>by rw[z,h] at f;cases f
structure Gd (x:Str) (ds:List Cu):Prop where
 mV:oO ds
 iM: ∀c∈ds,c.1<=x.length/\c.2.1<=x.length
 one:1<=ds.length
 fj:ds.length<=40
theorem Gd.step{x:Str}{ds:List Cu}{w:Wd}{b:Bool}{us:List T3}(g:Gd x ds)(S:e_ (ds.map<|fi x w b) us):Gd x (settle (ds.map<|fi x w b) us):=by
 have T:=L9 (n:=x.length) S (fun c hc=>by
  obtain⟨d,hd,rfl⟩:=zaL.mp hc
  have i:=g.iM d hd
  exact abH i.1 i.2)
 have l1:=g.one
 have l2:=g.fj
 refine⟨T.mV,T.iM,List.length_pos_iff.mpr<|T.ne<|fun z=> ?_,zaq T.len (by rw[zag];exact l2)⟩
 have:=congrArg List.length z
 rw[zag] at this
 exact absurd this (by show ¬ds.length=0;lia)
section
variable {K:Frag} {CP C:Addr} {E:XK} {Q:VK} {H0 H He:Hp} {p dp s dx lt lb lf:Addr} {v:V} {t:Tr} {ts:List Str} {x:Str}
abbrev GL(K:Frag)(CP C:Addr)(E:XK):aX:=aI K [("_law_cell_at",A9 K),("_law_words",Cy),("paper_of",BA CP C),("_law_cursors",Cz),("_law_mixed",oF),("all_stepped",qF CP C),("_law_settled",kb),("_law_stepped",BX),("_law_cursor",B0),("_law_refused",CC CP)] [] [] [("text",CP,By CP C)] (E:=E)
theorem CI{Γ:aX}{D:Ends}{σ:St}{r:List RS}{i:Nat}{l:Addr}{ys:List V}(e:σ[i]?=some (some<|.ref l))(hl:H l=some (.lst ys))(h:av Γ r D σ (upd H l<|.lst [])):av Γ (.drop (.bD .clear (.v i) [])::r) D σ H:=
 ⟨_,e, .inl ⟨rfl,_,aB.of hl⟩,ys,hl,h⟩
theorem CJ{lh:Addr}{zs:List V}{ds:List Cu}{w:Wd}{b:Bool}(B:eL CP C H p dp s dx lt lb lf v t ts x)(hx:x.length<=10000)(T:dE H lh zs ds)(g:Gd x ds)
  (k: ∀us r z H',e_ (ds.map<|fi x w b) us->aC H H'->H r=none->dE H' r z (settle (ds.map<|fi x w b) us)->Q (.ref r) H'):qF CP C [.ref p, .ref lh, .str w.str, .bl b] H Q E:=
 ⟨p,dp,s,dx,lt,lb,lf,v,t,ts,x,lh,zs,ds,w,b,rfl,B,by lia,T.h,T.c,g.one,g.fj,g.iM,g.mV.apart,fun us r z H' S s' f h c=>k us r z H' S s' f ⟨h,c⟩⟩
theorem Mu{σ:St}{i:Nat}{l:Addr}{zs:List V}{ds:List Cu}{w:Wd}{b:Bool}(hx:x.length<=10000)(gx:good x)(e:σ[i]?=some (some<|.ref l))(h5:cf σ [("_law_text",2),("_law_word_here",10),("_law_hold",11)]=[some<|.str x,some<|.str w.str,some<|.bl b])(T:dE H l zs ds)(g:Gd x ds)
  (k: ∀c z H',aC H H'->H c=none->dE H' c z (ds.map<|fi x w b)->Q (.ref c) H'):aj (GL K CP C E) (.comp none [("_law_text",2),("_law_word_here",10),("_law_hold",11)] .list [(.v i)] none<|.call 7 [(.v 1),(.v 0),(.v 2),(.v 3)]) σ H Q:=by
 have lz:zs.length=ds.length:=Paired.length T.c
 have fj:=g.fj
 refine mJ<|ag e ⟨l,rfl,⟨_,aB.of T.h⟩, ?_⟩
 refine mI T.h (by lia) (fun i ys H2=>bJ H2 ys<|(ds.take i).map<|fi x w b) .nil ?_ ?_
 ·intro i y ys H2 hy s2 e2 Q' kk
  obtain⟨c,hc,tc,rfl,ht⟩:=gM T.c hy
  have hb:=g.iM c (zaj hc)
  rw[h5]
  refine aP BX rfl<|ah<|ag rfl<|ah<|ag rfl<|ah<|ag rfl<|ah<|ag rfl<|az ⟨x,tc,_,_,_,w,b,rfl,gx,by lia,s2 _ _ ht,hb.1,hb.2,fun t' H' s' jt=>kk _ _ s' ?_⟩
  rw[mU hc,zap]
  exact hZ (bJ.same e2 s') ⟨t',rfl,jt⟩
 ·intro ys H2 p2 s2 e2 f2
  rw[lz,zao<|zqR _] at e2
  have s3:=sameNew (o:= .lst ys) f2
  exact k p2 ys _ (s2.trans s3) (s2.free f2) ⟨aD,bJ.same e2 s3⟩
theorem ab5{σ:St}{i j:Nat}{f d:Addr}{xs ys:List V}{cs:List Cu}(hi:σ[i]?=some (some<|.ref f))(hj:σ[j]?=some (some<|.ref d))(A:dE H f xs cs)(B:dE H d ys cs)(hl:cs.length<=1000)(k: ∀r H',aC H H'->H' r=some (.lst [])->Q (.ref r) H'):
  aj (GL K CP C E) (.comp (some 2) [] .zip [(.v i),(.v j)] (some<|.not<|.call 8 [(.v 0),(.v 1)])<|.v 0) σ H Q:=by
 have l1:xs.length=cs.length:=Paired.length A.c
 have l2:ys.length=cs.length:=Paired.length B.c
 refine⟨_,hi,_,hj,f,d,rfl,⟨_,aB.of A.h⟩,⟨_,aB.of B.h⟩,fun i m zs H2=>m=cs.length - i/\i<=cs.length/\zs=[]/\aC H H2,⟨_,rfl,zqZ _,rfl,aC.refl _⟩, ?_⟩
 rintro i m zs H2 ⟨rfl,hi,rfl,s2⟩
 by_cases aW:i<cs.length
 ·have h1:i<xs.length:=by lia
  have h2:i<ys.length:=by lia
  refine .inr ⟨⟨xs,ys,aB.of<|s2 _ _ A.h,aB.of<|s2 _ _ B.h,h1,h2⟩, ?_⟩
  rintro y H3 ⟨T,hT,rfl,hy⟩
  have nq:=hy xs ys xs[i] ys[i] (aB.of<|s2 _ _ A.h) (aB.of<|s2 _ _ B.h) (zav h1) (zav h2)
  subst nq
  obtain⟨c,hc,t1,e1,ht1⟩:=gM A.c (zav h1)
  obtain⟨c',bU,t2,e2,jg⟩:=gM B.c (zav h2)
  rw[hc] at bU
  cases bU
  have s3:=s2.trans (sameNew (o:= .tup [xs[i],ys[i]]) hT)
  refine⟨T,_,rfl,ba.of aD,rfl, ?_⟩
  rw[e1,e2] at s3⊢
  refine bO<|dU B0 rfl<|ah<|ag rfl<|ah<|ag rfl<|az ⟨t1,t2,_,_,_,rfl,s3 _ _ ht1,s3 _ _ jg,fun H4 s4=>cq ?_⟩
  exact⟨cs.length - (i+1),by lia,rfl,aW,rfl,s3.trans s4⟩
 ·have jn:i=cs.length:=by lia
  refine .inl ⟨⟨xs,ys,aB.of<|s2 _ _ A.h,aB.of<|s2 _ _ B.h,by rw[l1,l2,Nat.min_self];exact jn⟩,fun q hq=> ?_⟩
  exact k q _ (s2.trans<|sameNew hq) aD
abbrev sL(a:Addr)(u1:Option V)(x:Str)(p l L:Addr)(i c m u9 w b uv uw ux oU oV oW:Option V):St:=[some<|.ref a,u1,some<|.str x,some<|.ref p,some<|.ref l,some<|.ref L,i,c,m,u9,w,b,uv,uw,ux,oU,oV,oW]
def Mv:List RS:=[.drop (.bD .clear (.v 13) []),
  .asg 15 (.call 5 [(.v 3),(.v 12),(.v 10),(.v 11)]),
  .drop (.bD .clear (.v 12) []),
  .drop (.bD .extend (.v 12) [(.v 14)]),
  .asg 16 (.call 5 [(.v 3),(.v 12),(.v 10),(.v 11)]),
  .drop (.bD .clear (.v 12) []),
  .pk 17 (.comp none [("_law_text",2),("_law_word_here",10),("_law_hold",11)] .list [(.v 14)] none<|.call 7 [(.v 1),(.v 0),(.v 2),(.v 3)]),
  .ite (.or [(.cmp .NotEq (.v 15)<|.v 14),(.cmp .NotEq (.v 16)<|.call 6 [(.v 17)])]) [.ret<|.c<|.bl false] [],
  .drop (.bD .extend (.v 5) [(.lst [(.tup [(.v 15),(.blt .list [(.v 15)])]),(.tup [(.v 16),(.blt .list [(.v 16)])])])]),
  .asg 4 (.v 14)]
theorem ab7{D:Ends}{a l L lh r1 r2:Addr}{zs z1 z2 hs:List V}{ds:List Cu}{w:Wd}{b:Bool}{us:List T3}{u1 i c m u9 oU oV oW:Option V}
  (B:eL CP C H p dp s dx lt lb lf v t ts x) (hx:x.length<=10000) (hd:Gd x ds) (hS:e_ (ds.map<|fi x w b) us) (hz:bJ H zs ds) (hL:H L=some (.lst hs)) (hn:hs.length<=100)
  (sm:aC H He) (f1:H lh=none) (h1:He lh=some (.lst zs)) (f2:H r1=none) (h2:He r1=some (.lst z1)) (n21:r1≠lh) (f3:H r2=none) (T2:dE He r2 z2 (settle (ds.map<|fi x w b) us)) (CK:r2≠lh) (n32:r2≠r1)
  (k: ∀(ke kg kh ki kj km:Option V) (t3 t4:Addr) (H':Hp),bo L H H'->H' L=some (.lst<|hs++ [.ref t3, .ref t4])->dE H' r2 z2 (settle (ds.map<|fi x w b) us)->gy L H' (.ref t3)->gy L H' (.ref t4)->D.nx (sL a u1 x p r2 L i c m u9 (some<|.str w.str) (some<|.bl b) ke kg kh ki kj km) H'):
  av (GL K CP C E) Mv D (sL a u1 x p l L i c m u9 (some<|.str w.str) (some<|.bl b) (some<|.ref lh) (some<|.ref r1) (some<|.ref r2) oU oV oW) He:=by
 have gS:=hd.step hS
 have lz2:z2.length=_:=Paired.length T2.c
 have fj:=gS.fj
 refine CI rfl h2 ?_
 have b1:bo r1 He (upd He r1<|.lst []):=bo.upd
 have uz:=qJ sm f2 b1
 have xQ:=b1 _ _ h1 (Ne.symm n21)
 have Mw:=T2.but n32 h2 b1
 generalize upd He r1 (.lst [])=Hf at b1 uz xQ Mw⊢
 refine aO<|aP (qF CP C) rfl<|ah<|ag rfl<|ah<|ag rfl<|ah<|ag rfl<|ah<|ag rfl<|az<|CJ (B.same uz) hx ⟨xQ,hz.same uz⟩ hd fun us' r3 z3 Hg S' sg qS T3=> ?_
 rw[S'.eq hS] at T3
 have CL:=sg _ _ xQ
 have T2g:=Mw.same sg
 have smg:=uz.trans sg
 have n3:r3≠lh:=iO xQ qS
 have tZ:H r3=none:=uz.free qS
 refine CI rfl CL ?_
 have b2:bo lh Hg (upd Hg lh<|.lst []):=bo.upd
 have Mx:=qJ smg f1 b2
 have CM:=T2g.but CK CL b2
 have My:=T3.but n3 CL b2
 have uA:upd Hg lh (.lst []) lh=some (.lst []):=aD
 generalize upd Hg lh (.lst [])=Hh at b2 Mx CM My uA⊢
 refine eJ<|eR<|ag rfl ⟨.inl ⟨rfl,_,aB.of uA⟩,ag rfl ⟨[],z2,uA,CM.h,cp (by show 0+z2.length<=1000000;lia), ?_⟩⟩
 have b3:bo lh Hh (upd Hh lh<|.lst<|[]++z2):=bo.upd
 have xR:=qJ Mx f1 b3
 have CN:=CM.but CK uA b3
 have Mz:=My.but n3 uA b3
 have xS:upd Hh lh (.lst<|[]++z2) lh=some (.lst z2):=aD
 generalize upd Hh lh (.lst<|[]++z2)=Hi at b3 xR CN Mz xS⊢
 refine aO<|aP (qF CP C) rfl<|ah<|ag rfl<|ah<|ag rfl<|ah<|ag rfl<|ah<|ag rfl<|az<|CJ (B.same xR) hx ⟨xS,CN.c⟩ gS fun us2 r4 z4 Hj S4 sj MA T4=> ?_
 have xT:=sj _ _ xS
 have n4:r4≠lh:=iO xS MA
 have f4:H r4=none:=xR.free MA
 have smj:=xR.trans sj
 have T2j:=CN.same sj
 have T3j:=Mz.same sj
 refine CI rfl xT ?_
 have b4:bo lh Hj (upd Hj lh<|.lst []):=bo.upd
 have MB:=qJ smj f1 b4
 have CO:=T2j.but CK xT b4
 have MC:=T3j.but n3 xT b4
 have MD:=T4.but n4 xT b4
 generalize upd Hj lh (.lst [])=Hk at b4 MB CO MC MD⊢
 refine Lr<|Mu (i:=14) hx B.go rfl rfl CO gS fun c5 z5 H5 s5 f5 T5=> ?_
 have xU:=CO.same s5
 have xV:=MC.same s5
 have ME:=MD.same s5
 refine bj<|gK<|bq<|ag rfl<|ag rfl<|qC xV.h xU.h xV.c xU.c ⟨_,rfl,iF ?_ rfl⟩
 refine bq<|ag rfl<|aP kb rfl<|ah<|ag rfl<|az ⟨c5,z5,_,rfl,T5.h,T5.c,by rw[zag];lia,fun us3 r6 z6 H6 S6 s6 f6 h6 c6=> ?_⟩
 rw[S6.eq S4] at c6
 have xW:=ME.same s6
 have xX:=xV.same s6
 have MF:=xU.same s6
 refine qC xW.h h6 xW.c c6 ⟨_,rfl,iF (bH ?_) rfl⟩
 have xY:=MB.trans (s5.trans s6)
 have qK:=xY _ _ hL
 have nL3:r3≠L:=iO hL tZ
 have nL4:r4≠L:=iO hL f4
 have nL2:r2≠L:=iO hL f3
 refine eJ<|eR<|ag rfl ⟨.inl ⟨rfl,_,aB.of qK⟩,bS<|ah<|dS<|ah<|ag rfl<|ah<|dr<|ah<|ag rfl<|az ⟨z3, .inl<|aB.of xX.h,fun lL MG=>az ⟨(by show 2<=sizeLine;decide),fun t3 MH=> ?_⟩⟩⟩
 have s7:=sameNew (o:= .lst z3) MG
 have C7:dE (upd H6 lL<|.lst z3) lL z3 (settle (ds.map<|fi x w b) us):=⟨aD,xX.c.same s7⟩
 have nc3:lL≠L:=iO qK MG
 generalize upd H6 lL (.lst z3)=H7 at s7 C7 MH⊢
 have s8:=sameNew (o:= .tup [V.ref r3,V.ref lL]) MH
 have xG:upd H7 t3 (.tup [V.ref r3,V.ref lL]) t3=some (.tup [V.ref r3,V.ref lL]):=aD
 generalize upd H7 t3 (.tup [V.ref r3,V.ref lL])=H8 at s8 xG⊢
 have d3:gy L H8 (.ref t3):=⟨t3,r3,lL,z3,z3,_,rfl,xG,nL3,nc3,xX.same<|s7.trans s8,C7.same s8⟩
 have xZ:=s7.trans s8
 have x4:=xW.same xZ
 have MI:=xZ _ _ qK
 refine ah<|dS<|ah<|ag rfl<|ah<|dr<|ah<|ag rfl<|az ⟨z4, .inl<|aB.of x4.h,fun lM MJ=>az ⟨(by show 2<=sizeLine;decide),fun t4 MK=> ?_⟩⟩
 have s9:=sameNew (o:= .lst z4) MJ
 have C9:dE (upd H8 lM<|.lst z4) lM z4 _:=⟨aD,x4.c.same s9⟩
 have zY:lM≠L:=iO MI MJ
 generalize upd H8 lM (.lst z4)=H9 at s9 C9 MK⊢
 have pL:=sameNew (o:= .tup [V.ref r4,V.ref lM]) MK
 have ML:upd H9 t4 (.tup [V.ref r4,V.ref lM]) t4=some (.tup [V.ref r4,V.ref lM]):=aD
 generalize upd H9 t4 (.tup [V.ref r4,V.ref lM])=pM at pL ML⊢
 have d4:gy L pM (.ref t4):=⟨t4,r4,lM,z4,z4,_,rfl,ML,nL4,zY,x4.same<|s9.trans pL,C9.same pL⟩
 have ack:=s9.trans pL
 refine az ⟨(by show 2<=sizeLine;decide),fun e fe=> ?_⟩
 have uB:=ack.trans (sameNew (o:= .lst [V.ref t3,V.ref t4]) fe)
 have he:upd pM e (.lst [V.ref t3,V.ref t4]) e=some (.lst [V.ref t3,V.ref t4]):=aD
 have MM:=d4.same (sameNew (o:= .lst [V.ref t3,V.ref t4]) fe)
 generalize upd pM e (.lst [V.ref t3,V.ref t4])=x5 at uB he MM⊢
 have x6:=uB _ _ MI
 refine⟨hs,_,x6,he,cp (by show hs.length+2<=1000000;lia), ?_⟩
 have b5:bo L x5 (upd x5 L<|.lst<|hs++ [V.ref t3,V.ref t4]):=bo.upd
 have MN:upd x5 L (.lst<|hs++ [V.ref t3,V.ref t4]) L=some (.lst<|hs++ [V.ref t3,V.ref t4]):=aD
 generalize upd x5 L (.lst<|hs++ [V.ref t3,V.ref t4])=H12 at b5 MN⊢
 refine aO<|ag rfl ?_
 have sA:=xY.trans (xZ.trans uB)
 exact k _ _ _ _ _ _ t3 t4 H12 (ka sA b5) MN ((MF.same<|xZ.trans uB).but nL2 x6 b5) ((d3.same uB).but x6 b5)<|MM.but x6 b5
def acn:List RS:=[.asg 8 (.call 4 [(.v 7),(.bin .Add (.c (.int 700)) (.v 6))]),
  .asg 9 (.lst [(.c<|.str "left"),(.c<|.str "right"),(.c<|.str "up"),(.c<|.str "down"),(.c<|.str "home"),(.c<|.str "end"),(.c<|.str "top"),(.c<|.str "bottom"),(.c<|.str "back"),(.c<|.str "on"),(.c<|.str "back"),(.c<|.str "on")]),
  .asg 10 (.ix (.v 9)<|.bin .Mod (.v 8)<|.c<|.int 12),
  .asg 11 (.cmp .Eq (.bin .Mod (.bin .FloorDiv (.v 8)<|.c<|.int 12)<|.c<|.int 2)<|.c<|.int 1),
  .asg 12 (.blt .list [(.v 4)]),
  .asg 13 (.call 5 [(.v 3),(.v 12),(.v 10),(.v 11)]),
  .asg 14 (.call 6 [(.comp none [("_law_text",2),("_law_word_here",10),("_law_hold",11)] .list [(.v 4)] none<|.call 7 [(.v 1),(.v 0),(.v 2),(.v 3)])]),
  .ite (.or [(.not<|.eO .list<|.v 13),(.cmp .NotEq (.v 13)<|.v 14),(.cmp .NotEq (.v 12)<|.v 4)]) [.ret<|.c<|.bl false] [],
  .ite (.cmp .NotEq (.comp (some 2) [] .zip [(.v 13),(.v 14)] (some (.not (.call 8 [(.v 0),(.v 1)]))) (.v 0)) (.lst [])) [.ret (.c (.bl false))] []]++Mv
theorem aco{D:Ends}{a l L:Addr}{zs hs:List V}{ds:List Cu}{u1 u8 u9 dX mW uv uw ux oU oV oW:Option V}{i:Nat}{c:Int}
  (B:eL CP C H p dp s dx lt lb lf v t ts x) (hx:x.length<=10000) (hd:Gd x ds) (T0:dE H l zs ds) (hL:H L=some (.lst hs)) (hn:hs.length<=100)
  (k: ∀(y8 y9 kc qL ke kg kh ki kj km:Option V) (l' t3 t4:Addr) (z':List V) (x8:List Cu) (H':Hp),bo L H H'->H' L=some (.lst<|hs++ [.ref t3, .ref t4])->l'≠L->dE H' l' z' x8->Gd x x8->gy L H' (.ref t3)->gy L H' (.ref t4)->D.nx (sL a u1 x p l' L (some<|.int (i:Nat)) (some<|.int c) y8 y9 kc qL ke kg kh ki kj km) H'):
  av (GL K CP C E) acn D (sL a u1 x p l L (some<|.int (i:Nat)) (some<|.int c) u8 u9 dX mW uv uw ux oU oV oW) H:=by
 have lz:zs.length=ds.length:=Paired.length T0.c
 have fj:=hd.fj
 refine aO<|aP oF rfl<|ah<|ag rfl<|ah<|aN<|ao<|ag rfl<|bP<|az ⟨_,_,rfl,fun m hm=> ?_⟩
 refine aO<|bS<|ah<|ao<|ah<|ao<|ah<|ao<|ah<|ao<|ah<|ao<|ah<|ao ?_
 refine ah<|ao<|ah<|ao<|ah<|ao<|ah<|ao<|ah<|ao<|ah<|ao<|az ⟨(by show 12<=sizeLine;decide),fun lw MO=> ?_⟩
 generalize hits:[V.str "left",V.str "right",V.str "up",V.str "down",V.str "home",V.str "end",V.str "top",V.str "bottom",V.str "back",V.str "on",V.str "back",V.str "on"]=its at MO⊢
 have hit:its.length=12:=by rw[<-hits];rfl
 have hw: ∀v∈its,∃w:Wd,v= .str w.str:=by
  intro v hv
  rw[<-hits] at hv
  simp only[zaa,zac,or_false] at hv
  rcases hv with rfl | rfl | rfl | rfl | rfl | rfl | rfl | rfl | rfl | rfl | rfl | rfl
  ·exact⟨.left,rfl⟩
  ·exact⟨.right,rfl⟩
  ·exact⟨.up,rfl⟩
  ·exact⟨.down,rfl⟩
  ·exact⟨.oH,rfl⟩
  ·exact⟨.en,rfl⟩
  ·exact⟨.top,rfl⟩
  ·exact⟨.lF,rfl⟩
  ·exact⟨.back,rfl⟩
  ·exact⟨.on,rfl⟩
  ·exact⟨.back,rfl⟩
  ·exact⟨.on,rfl⟩
 have sa:=sameNew (o:= .lst its) MO
 obtain⟨y,hy,ef⟩:=L2.N.pick (its:=its) (j:=m % 12) (zaA _ (by decide)) (by rw[hit];exact zaF _ (by decide))
 obtain⟨w,rfl⟩:=hw y hy
 refine aO<|aU<|ag rfl<|aN<|ag rfl<|ao ⟨(by show(0:Int) <12;decide),cI aD ef ?_⟩
 generalize upd H lw (.lst its)=Ha at sa⊢
 refine aO<|cZ<|aN<|aN<|ag rfl<|ao ⟨⟨by decide,by decide⟩,ao ⟨(by show(0:Int) <2;decide),ao<|fg ?_⟩⟩
 generalize decide (m / 12 % 2=1)=b
 have Ta:=T0.same sa
 refine aO<|dr<|ah<|ag rfl<|az ⟨zs, .inl<|aB.of Ta.h,fun lh MP=> ?_⟩
 have sb:=sameNew (o:= .lst zs) MP
 have uC:upd Ha lh (.lst zs) lh=some (.lst zs):=aD
 generalize upd Ha lh (.lst zs)=Hb at sb uC⊢
 have x9:=sa.trans sb
 have Tb:=T0.same x9
 refine aO<|aP (qF CP C) rfl<|ah<|ag rfl<|ah<|ag rfl<|ah<|ag rfl<|ah<|ag rfl<|az<|CJ (B.same x9) hx ⟨uC,Tb.c⟩ hd fun us r1 z1 Hc S1 sc MQ T1=> ?_
 have CQ:=x9.trans sc
 refine aO<|aP kb rfl<|ah<|Mu (i:=4) hx B.go rfl rfl (T0.same CQ) hd fun c1 y1 Hd s1 fc1 C1=> ?_
 refine az ⟨c1,y1,_,rfl,C1.h,C1.c,by rw[zag];lia,fun us' r2 z2 He S2 se CS h2 c2=> ?_⟩
 rw[S2.eq S1] at c2
 have CU:=s1.trans se
 have uD:=T1.same CU
 have MR:=(sc.trans CU) _ _ uC
 have MS:=CQ.trans CU
 have CV:=T0.same MS
 refine bj<|qe<|bO<|mG<|ag rfl<|sQ uD.h<|iF ?_ rfl
 refine qe<|bq<|ag rfl<|ag rfl<|qC uD.h h2 uD.c c2 ⟨_,rfl,iF ?_ rfl⟩
 refine Bj<|bq<|ag rfl<|ag rfl<|qC MR CV.h CV.c CV.c ⟨_,rfl,iF (bH ?_) rfl⟩
 have gS:=hd.step S1
 have aeT:=gS.fj
 refine bj<|bq<|ab5 (i:=13) (j:=14) rfl rfl uD ⟨h2,c2⟩ (by lia) fun r5 H5 s5 h5=> ?_
 refine bS<|az ⟨zqZ _,fun e6 f6=> ?_⟩
 have s6:=sameNew (o:= .lst []) f6
 have MT:=s6 _ _ h5
 have MU:upd H5 e6 (.lst []) e6=some (.lst []):=aD
 generalize upd H5 e6 (.lst [])=H6 at s6 MT MU⊢
 refine qC MT MU .nil .nil ⟨_,rfl,iF (bH ?_) rfl⟩
 have oR:=s5.trans s6
 have MV:H r2=none:=CQ.free (s1.free CS)
 exact ab7 (us:=us) B hx hd S1 T0.c hL hn (MS.trans oR) (sa.free MP) (oR _ _ MR) (x9.free MQ) (oR _ _ uD.h) (iO uC MQ) MV ((⟨h2,c2⟩:dE He r2 z2 _).same oR) (iO (sc _ _ uC)<|s1.free CS) (iO T1.h<|s1.free CS)
  fun ke kg kh ki kj km t3 t4 H' bu ur T' d3 d4=>k _ _ _ _ ke kg kh ki kj km r2 t3 t4 z2 _ H' bu ur (iO hL MV) T' gS d3 d4
end
section
variable {K:Frag} {CP C:Addr} {E:XK} {Q:VK} {H0 H He:Hp} {p dp s dx lt lb lf:Addr} {v:V} {t:Tr} {ts:List Str} {x:Str}
theorem qM{H1:Hp}{σ:St}{Q':VK}{a:Addr}{ns:List Int}(ha:aB K H0 a (ns.map V.int))(i:Int)(s1:aC H0 H1)(e0:σ[0]?=some (some<|.ref a))(hi:0<=i)(q:Q' (.int<|cell ns i.toNat) H1):aj (GL K CP C E) (.call 0 [(.v 0),(.c<|.int i)]) σ H1 Q':=
 aP (A9 K) rfl (ah<|ag e0<|ah<|ao<|az ⟨a,ns,i,rfl,s1.seq ha,hi,q⟩)
theorem acp{σ:St}{L:Addr}{hs:List V}(h0:σ[5]?=some (some<|.ref L))(hL:H L=some (.lst hs))(hh: ∀y∈hs,gy L H y)(hn:hs.length<=1000)(k: ∀r H',H' r=some (.lst [])->Q (.ref r) H'):
  aj (GL K CP C E) (.comp (some 2) [] .list [(.v 5)] (some<|.cmp .NotEq (.v 0)<|.v 1)<|.v 0) σ H Q:=by
 refine⟨_,h0,L,rfl,⟨_,aB.of hL⟩,fun i m ys H2=>m=hs.length - i/\i<=hs.length/\ys=[]/\H2=H,⟨_,rfl,zqZ _,rfl,rfl⟩, ?_⟩
 rintro i m ys H2 ⟨rfl,hi,rfl,rfl⟩
 by_cases aW:i<hs.length
 ·refine .inr ⟨⟨hs,hs[i],aB.of hL,by simp[aW]⟩, ?_⟩
  rintro y H3 ⟨rfl,hx⟩
  have hy:=hx hs (aB.of hL)
  obtain⟨t,a,b,xs,zs,cs,rfl,ht,na,nb,A,B⟩:=hh y (zaj hy)
  refine⟨t,_,rfl,ba.of ht,rfl, ?_⟩
  refine bq<|ag rfl<|ag rfl<|qC A.h B.h A.c B.c ⟨_,rfl, ?_⟩
  exact⟨hs.length - (i+1),by lia,rfl,aW,rfl,rfl⟩
 ·have jn:i=hs.length:=by lia
  subst jn
  exact .inl ⟨⟨hs,aB.of hL,zqR _⟩,fun q hq=>k q _ aD⟩
def x_(K:Frag):Sp:=fun vs H Q E=> ∃(a:Addr) (ns:List Int),vs=[.ref a]/\aB K H a (ns.map V.int)/\ ∀H',Q (.bl true) H'
theorem acq{a l L:Addr}{ns:List Int}{zs hs:List V}{ds:List Cu}{u1 u6 u7 u8 u9 dX mW uv uw ux oU oV oW:Option V}(ha:aB K H a (ns.map V.int))(B:eL CP C H p dp s dx lt lb lf v t ts x)(hL:H L=some (.lst hs))(hn:hs.length<=1000)(hh: ∀y∈hs,gy L H y)(T:dE H l zs ds)(g:Gd x ds)(k: ∀H',Q (.bl true) H'):
  av (GL K CP C E) (dB.drop 7) (Dn Q) (sL a u1 x p l L u6 u7 u8 u9 dX mW uv uw ux oU oV oW) H:=by
 have lx:=len_list x
 have m0:0<=cell ns 3 % 1000003:=zaA _ (by decide)
 have A:kd CP H p dp s v t (au ts) x.length l zs ds:=⟨B.pa,by rw[B.tx,<-len_list],T.h,T.c,g.mV,g.iM,g.one,g.fj⟩
 refine bj<|gK<|bO<|dU (CC CP) rfl<|ah<|ag rfl<|ah<|ag rfl<|ah<|aN<|qM ha 3 (aC.refl _) rfl (by decide)<|ao ⟨(by show(0:Int) <1000003;decide),az ⟨p,dp,s,v,t,_,x.length,l,zs,ds,_,rfl,m0,A,fun H1 s1=>cq<|iF ?_ rfl⟩⟩
 have B1:=B.same s1
 refine bq<|gi CP (By CP C) rfl<|ag rfl ⟨p,dp,_,rfl,B1.pa.ob,dD (by decide+kernel) (by decide+kernel),p,dp,s,dx,lt,lb,lf,v,t,ts,rfl,B1.pa,B1.st,B1.l1,B1.l2,B1.l3,B1.l4,fun H7 s7=> ?_⟩
 rw[B1.eq]
 have MW:=s1.trans s7
 refine ag rfl<|ot ⟨_,rfl,iF (bH ?_) (by simp)⟩
 refine aY<|cZ<|acp rfl (MW _ _ hL) (fun y hy=> (hh y hy).same MW) hn fun r H8 h8=> ?_
 refine bS<|az ⟨zqZ _,fun e9 f9=> ?_⟩
 exact abq (sameNew f9 _ _ h8) aD .nil .nil<|k _
theorem acr{a l:Addr}{ns:List Int}{zs:List V}{ds:List Cu}{u1:Option V}(ha:aB K H a (ns.map V.int))(B:eL CP C H p dp s dx lt lb lf v t ts x)(hx:x.length<=10000)(T:dE H l zs ds)(g:Gd x ds)(k: ∀H',Q (.bl true) H'):
  av (GL K CP C E) (dB.drop 5) (Dn Q) [some<|.ref a,u1,some<|.str x,some<|.ref p,some<|.ref l,none,none,none,none,none,none,none,none,none,none,none,none,none] H:=by
 refine aO<|bS<|az ⟨zqZ _,fun L fL=> ?_⟩
 have s1:=sameNew (o:= .lst []) fL
 have CW:upd H L (.lst []) L=some (.lst []):=aD
 generalize upd H L (.lst [])=H1 at s1 CW⊢
 refine⟨_,rfl,_,rfl,_,rfl, .inl ⟨_,s1.seq ha,fun w fw=> ?_⟩⟩
 have s4:=sameNew (o:= .lst (dJ (ns.map V.int) (some 4)<|some 10)) fw
 have oT:upd H1 w (.lst<|dJ (ns.map V.int) (some 4)<|some 10) w=some (.lst<|dJ (ns.map V.int) (some 4)<|some 10):=aD
 have nw:w≠L:=iO CW fw
 have ec:=aaa (ns.map V.int) 4 10
 have oP:=s4 _ _ CW
 have ya:=s1.trans s4
 generalize upd H1 w (.lst<|dJ (ns.map V.int) (some 4)<|some 10)=H4 at s4 oT oP ya⊢
 rw[show((4:Nat):Int)=4 from rfl,show((10:Nat):Int)=10 from rfl] at ec
 rw[ec] at oT
 refine⟨w,rfl,⟨_,aB.of oT⟩,R4 (K:=K) (a:=w) (xs:=((ns.map V.int).drop 4).take (10 - 4)) (fun i σ H5=> ∃(l:Addr) (zs hs:List V) (ds:List Cu) (y6 y7 y8 y9 kc qL ke kg kh ki kj km:Option V),σ=sL a u1 x p l L y6 y7 y8 y9 kc qL ke kg kh ki kj km/\bo L H4 H5/\H5 L=some (.lst hs)/\hs.length=2*i/\i<=6/\(∀y∈hs,gy L H5 y)/\dE H5 l zs ds/\Gd x ds) ?_ ?_ ?_ ?_⟩
 ·exact⟨l,zs,[],ds,none,none,none,none,none,none,none,none,none,none,none,none,rfl,fun c o e _=>e,oP,rfl,zqZ _,(fun y hy=>by cases hy),T.same ya,g⟩
 ·rintro i σ H5 ⟨l,zs,hs,ds,y6,y7,y8,y9,kc,qL,ke,kg,kh,ki,kj,km,rfl,b5,_⟩
  exact aB.of<|b5 _ _ oT nw
 ·rintro i y σ H5 T5 hi ⟨l,zs,hs,ds,y6,y7,y8,y9,kc,qL,ke,kg,kh,ki,kj,km,rfl,b5,CY,ln,i6,hh,T,g⟩ hT
  obtain⟨c,rfl⟩: ∃c:Int,y= .int c:=by
   have hm:=zbE (zbF<|zaj hi)
   obtain⟨c,_,e⟩:=zaL.mp hm
   exact⟨c,e.symm⟩
  have hi6:i<6:=by
   have:=(zah.mp hi).1
   rw[zaf] at this
   lia
  have s6:=sameNew (o:= .tup [V.int (i:Nat),V.int c]) hT
  refine K9 aD ?_
  generalize upd H5 T5 (.tup [V.int (i:Nat),V.int c])=H6 at s6⊢
  have xY:=(qJ ya fL b5).trans s6
  have qK:=s6 _ _ CY
  exact aco (B.same xY) hx g (T.same s6) qK (by lia) fun z8 z9 xH z11 z12 z13 z14 z15 z16 z17 l' t3 t4 z' x8 H' bu ur nl T' g' d3 d4=>by
   refine⟨l',z',hs++ [.ref t3, .ref t4],x8,_,_,z8,z9,xH,z11,z12,z13,z14,z15,z16,z17,rfl,fun c o e n=>bu c o (s6 _ _<|b5 c o e n) n,ur, ?_,hi6,fun y hy=> ?_,T',g'⟩
   ·rw[zqA,ln];show 2*i+2=_;lia
   ·rcases zax.mp hy with hy | hy
    ·exact((hh y hy).same s6).but qK bu
    ·simp only[zaa,zac,or_false] at hy
     rcases hy with rfl | rfl
     ·exact d3
     ·exact d4
 ·rintro σ H5 ⟨l,zs,hs,ds,y6,y7,y8,y9,kc,qL,ke,kg,kh,ki,kj,km,rfl,b5,CY,ln,i6,hh,T,g⟩
  have MZ:=qJ ya fL b5
  exact acq (MZ.seq ha) (B.same MZ) CY (by lia) hh T g k
theorem acB(vs:List V)(H:Hp)(Q:VK)(E:XK)(h:x_ K vs H Q E):av (GL K CP C E) dB (Dn Q) (start ji vs) H:=by
 obtain⟨a,ns,rfl,ha,k⟩:=h
 have M0: ∀z:Int,0<=z->z<=199->av (GL K CP C E) (dB.drop 2) (Dn Q) [some<|.ref a,some<|.int z,none,none,none,none,none,none,none,none,none,none,none,none,none,none,none,none] H:=by
  intro z z0 z1
  refine aO<|aP Cy rfl<|ah<|qM ha 1 (aC.refl _) rfl (by decide)<|ah<|ag rfl<|az ⟨_,_,rfl,z0,by lia,fun x H1 gx lx s1=> ?_⟩
  refine aO<|aP (BA CP C) rfl<|ah<|ag rfl<|az ⟨x,rfl,gx,fun p dp s dx lt lb lf v t ts H2 s2 S2 P2 e2 l1 l2 l3 f1 f2 f3 f4 f5=> ?_⟩
  have B2:eL CP C H2 p dp s dx lt lb lf v t ts x:=⟨P2,S2,by lia,by lia,by lia,e2,gx⟩
  have dv:=s1.trans s2
  refine aO<|aP Cz rfl<|ah<|qM ha 2 dv rfl (by decide)<|ah<|dW<|ag rfl ⟨cp (by lia),az ⟨_,_,rfl,fun r zs ds H3 s3 f3 h3 c3 in3 acD acE fj=> ?_⟩⟩
  exact acr ((dv.trans s3).seq ha) (B2.same s3) (by lia) ⟨h3,c3⟩ ⟨acD,in3,acE,fj⟩ k
 have m25:0<=cell ns 0 % 25/\cell ns 0 % 25<25:=⟨zaA _ (by decide),zaF _ (by decide)⟩
 have aeU:0<=cell ns 0 / 200 % 140/\cell ns 0 / 200 % 140<140:=⟨zaA _ (by decide),zaF _ (by decide)⟩
 refine aO<|aN<|qM ha 0 (aC.refl _) rfl (by decide)<|ao ⟨(by show(0:Int) <25;decide), ?_⟩
 refine bj<|bq<|aN<|aN<|qM ha 0 (aC.refl _) rfl (by decide)<|ao ⟨⟨by decide,by decide⟩,ao ⟨(by show(0:Int) <8;decide),ao<|fg ⟨_,rfl, ?_⟩⟩⟩
 by_cases q:cell ns 0 / 25 % 8=1
 ·refine iT ?_ (zqT q)
  refine aO<|aN<|ao<|aN<|aN<|qM ha 0 (aC.refl _) rfl (by decide)<|ao ⟨⟨by decide,by decide⟩,ao ⟨(by show(0:Int) <140;decide),bP ?_⟩⟩
  exact M0 (60+cell ns 0 / 200 % 140) (by lia) (by lia)
 ·exact iF (bH<|M0 (cell ns 0 % 25) m25.1 (by lia)) (zqF q)
end
end L2.oa
namespace L2
open PySem PySem.Spec PyProof.Rows
open PySem.W (Frag nsIn findIn isFn keepIn codeIn fnOf mg_of mg_none_of)
def eN(st:Stmt):List Str:=(gC st).args.map (·.arg)
structure Top (P:Program) (w:World) (K:Frag) (mg:Str->Option Value) (base:Heap):Prop where
 X:K.In base
 G:base.Ns mainGlobals mg
def br(K:Frag)(x:Str)(st:Stmt):Prop:= ∃f fd,nsIn K mainGlobals x=some (some<|.ref f)/\kJ K x x st f fd
def fk(K:Frag)(C:Addr)(x q:Str)(st:Stmt):Prop:= ∃f fd,findIn K (.ref C) x=some (some<|.ref f)/\isFn K (.ref f)=true/\kJ K x q st f fd
structure yb (K:Frag) (x:Str) (C:Addr):Prop where
 g:nsIn K mainGlobals x=some (some<|.ref C)
 m:makesIn K C=true
 k:keepIn K (.ref C)=true
structure dF (K:Frag) (p:Str×V):Prop where
 ex: ∃u,nsIn K mainGlobals p.1=some (some u)/\RelV p.2 u
structure qN (K:Frag) (p:Str×Addr):Prop where
 g:nsIn K mainGlobals p.1=some (some<|.ref p.2)
 x:PySem.W.excIn K p.2 [.type "ValueError", .type "Exception", .type "BaseException", .type "object"] "ValueError.__new__"=true
section
variable {P:Program} {w:World} {K:Frag} {mg:Str->Option Value} {base:Heap} {x q:Str} {st:Stmt} {f C:Addr} {fd:FuncData} {k:Nat} {sp:Sp}
theorem dfk{oc:Value}{od an:Option Addr}{e7:Array (Option Value)}{kV doc pm bt ct:Value}(a:nsIn K mainGlobals x=some (some<|.ref f))(l:K.lookup f=some ⟨oc,od, .func<|fnOf x x (gC st) (cL st) (df st) .none kV doc pm an bt ct,e7⟩)
  (c:codeIn K bt x=true) (k:keepIn K (.ref f)=true):br K x st:=⟨f,_,a,Er l c k⟩
theorem dmk{oc:Value}{od an:Option Addr}{e7:Array (Option Value)}{kV doc pm bt ct:Value}(a:findIn K (.ref C) x=some (some<|.ref f))(i:isFn K (.ref f)=true)(l:K.lookup f=some ⟨oc,od, .func<|fnOf x q (gC st) (cL st) (df st) .none kV doc pm an bt ct,e7⟩)
  (c:codeIn K bt q=true) (k:keepIn K (.ref f)=true):fk K C x q st:=⟨f,_,a,i,Er l c k⟩
theorem acI{y:Str}{t:Tok}(h:nsIn K mainGlobals x=some (some<|.str y t)):dF K (x, .str y):=⟨_,h,⟨_,rfl⟩⟩
theorem acJ{y:Int}{t:Tok}(h:nsIn K mainGlobals x=some (some<|.int y t)):dF K (x, .int y):=⟨_,h,⟨_,rfl⟩⟩
theorem acK{y:Addr}(h:nsIn K mainGlobals x=some (some<|.ref y)):dF K (x, .ref y):=⟨_,h,rfl⟩
theorem acL{y:Str}(h:findIn K (.ref C) y=some none):fV K C y:=h
theorem Top.gv{p:Str×V}(Z:Top P w K mg base)(h:dF K p):sr mg p:=by
 obtain⟨u,a,b⟩:=h.ex
 exact⟨u,mg_of Z.X Z.G a,b⟩
theorem Top.no(Z:Top P w K mg base)(h:nsIn K mainGlobals x=some none):mg x=none:=mg_none_of Z.X Z.G h
theorem Top.exc{p:Str×Addr}(Z:Top P w K mg base)(h:qN K p):wa mg base p:=YK Z.X Z.G h.g h.x
structure gA (P:Program) (w:World) (K:Frag) (mg:Str->Option Value) (base:Heap) (k:Nat) (st:Stmt) (sp:Sp):Prop where
 ok: ∀{x q:Str} {f:Addr} {fd:FuncData},kJ K x q st f fd->cb P w K mg base (ej P w) k f fd (eN st) sp
theorem gA.or{a b:Sp}(A:gA P w K mg base k st a)(C:gA P w K mg base k st b):gA P w K mg base k st (B.fN a b):=⟨fun F=> (A.ok F).or<|C.ok F⟩
theorem uE{N P:List Str}{sc:Scope}(a:sc.kind= .function:=by kernel_rfl)(b:sc.isCoroutine=false:=by kernel_rfl)(c:sc.isGenerator=false:=by kernel_rfl)(d:N.Nodup:=by decide+kernel)(e:N.take P.length=P:=by kernel_rfl)(f: ∀x∈P,sc.names.lookup x=some .local\/sc.names.lookup x=some .cell:=by decide+kernel)(g: ∀y∈sc.names,y.2≠ .free:=by decide+kernel):jF N P sc:=⟨a,b,c,d,e,f,g⟩
theorem dL{N N0 bl:List Str}{tab:List (Str×Sp)}{gt:List (Str×V)}{dk:List (Addr×List (Key×V))}{mt kt:List (Str×Addr×Sp)}{et:List (Str×Addr)}{ht:List (Str×Sp)}{body:List RS}(Z:Top P w K mg base)
  (nS: ∀vs H Q E,sp vs H Q E->av (aI K tab gt dk mt kt et ht E) body {nx:=fun _ H'=>Q .aA H',rt:=Q} (start N0 vs) H)
  (hm: ∀{CX:bM} {Γ:aX} {X:Cx},cR CX (pR N (df st) (tab.map (·.1)) (gt.map (·.1)) bl (mt.map (·.1)) (kt.map (·.1)) (et.map (·.1)) (ht.map (·.1))) Γ X->cP X (cL st) (av Γ body)) (k:Nat)
  (len: ∀vs H Q E,sp vs H Q E->vs.length=(eN st).length:=by intro _ _ _ _ h;repeat (first | (obtain⟨rfl,_⟩:=h;kernel_rfl) | (obtain⟨_,h⟩:=h)))
  (An: ∀p∈tab,d5 P w K mg base k p.1 p.2:=by repeat (first | exact j3 | refine j4 (d5.mono (by assumption) (by first | decide | lia)) ?_))
  (nQ: ∀p∈gt,sr mg p:=by repeat (first | exact j3 | refine j4 (Top.gv (by assumption) (by assumption)) ?_))
  (nR: ∀y∈bl,mg y=none:=by repeat (first | exact j3 | refine j4 (Top.no (by assumption) (by assumption)) ?_))
  (Ao: ∀q∈dk,FZ P w K q:=by repeat (first | exact j3 | refine j4 (by assumption) ?_))
  (Ap: ∀p∈mt,nN P w K mg base k p:=by repeat (first | exact j3 | refine j4 (nN.mono (by assumption) (by first | decide | lia)) ?_))
  (Aq: ∀p∈kt,nP P w K mg base k p:=by repeat (first | exact j3 | refine j4 (nP.mono (by assumption) (by first | decide | lia)) ?_))
  (het: ∀p∈et,wa mg base p:=by repeat (first | exact j3 | refine j4 (Top.exc (by assumption) (by assumption)) ?_))
  (Ar: ∀p∈ht,mq P w K mg base k p.1 p.2:=by repeat (first | exact j3 | refine j4 (mq.mono (by assumption) (by first | decide | lia)) ?_))
  (S:jF N (eN st) (df st):=by exact uE) (hN:N0.length=N.length:=by kernel_rfl):gA P w K mg base (k+1) st sp:=
 ⟨fun F=>Ur F S tab gt bl mt kt et ht body hm An nQ nR dk Ao Ap Aq het Ar len fun vs H Q E h=>by
  have r:=nS vs H Q E h
  unfold start at r⊢
  rw[hN] at r;exact r⟩
def Bd(x q:Str)(st:Stmt):Prop:= ∀(kV doc pm:Value) (an:Option Addr) (bt ct:Value) (us:List Value),us.length=(eN st).length->bindArgs (fnOf x q (gC st) (cL st) (df st) .none kV doc pm an bt ct) ⟨us,[]⟩=pure ((eN st).zip us)
theorem acM(hp:(eN st).length=1)(h: ∀(kV doc pm:Value) (an:Option Addr) (bt ct a0:Value),bindArgs (fnOf x q (gC st) (cL st) (df st) .none kV doc pm an bt ct) ⟨[a0],[]⟩=pure ((eN st).zip [a0])):Bd x q st:=fun kV doc pm an bt ct us hl=>by
 have e:=hl.trans hp
 rcases us with _ | ⟨a0,_ | ⟨_,_⟩⟩ <;>first | exact h kV doc pm an bt ct _ | exact absurd e (by simp)
theorem acN(hp:(eN st).length=2)(h: ∀(kV doc pm:Value) (an:Option Addr) (bt ct a0 a1:Value),bindArgs (fnOf x q (gC st) (cL st) (df st) .none kV doc pm an bt ct) ⟨[a0,a1],[]⟩=pure ((eN st).zip [a0,a1])):Bd x q st:=fun kV doc pm an bt ct us hl=>by
 have e:=hl.trans hp
 rcases us with _ | ⟨a0,_ | ⟨a1,_ | ⟨_,_⟩⟩⟩ <;>first | exact h kV doc pm an bt ct _ _ | exact absurd e (by simp)
theorem acO(hp:(eN st).length=3)(h: ∀(kV doc pm:Value) (an:Option Addr) (bt ct a0 a1 a2:Value),bindArgs (fnOf x q (gC st) (cL st) (df st) .none kV doc pm an bt ct) ⟨[a0,a1,a2],[]⟩=pure ((eN st).zip [a0,a1,a2])):Bd x q st:=fun kV doc pm an bt ct us hl=>by
 have e:=hl.trans hp
 rcases us with _ | ⟨a0,_ | ⟨a1,_ | ⟨a2,_ | ⟨_,_⟩⟩⟩⟩ <;>first | exact h kV doc pm an bt ct _ _ _ | exact absurd e (by simp)
theorem acP(hp:(eN st).length=4)(h: ∀(kV doc pm:Value) (an:Option Addr) (bt ct a0 a1 a2 a3:Value),bindArgs (fnOf x q (gC st) (cL st) (df st) .none kV doc pm an bt ct) ⟨[a0,a1,a2,a3],[]⟩=pure ((eN st).zip [a0,a1,a2,a3])):Bd x q st:=fun kV doc pm an bt ct us hl=>by
 have e:=hl.trans hp
 rcases us with _ | ⟨a0,_ | ⟨a1,_ | ⟨a2,_ | ⟨a3,_ | ⟨_,_⟩⟩⟩⟩⟩ <;>first | exact h kV doc pm an bt ct _ _ _ _ | exact absurd e (by simp)
theorem acQ(hp:(eN st).length=5)(h: ∀(kV doc pm:Value) (an:Option Addr) (bt ct a0 a1 a2 a3 a4:Value),bindArgs (fnOf x q (gC st) (cL st) (df st) .none kV doc pm an bt ct) ⟨[a0,a1,a2,a3,a4],[]⟩=pure ((eN st).zip [a0,a1,a2,a3,a4])):Bd x q st:=fun kV doc pm an bt ct us hl=>by
 have e:=hl.trans hp
 rcases us with _ | ⟨a0,_ | ⟨a1,_ | ⟨a2,_ | ⟨a3,_ | ⟨a4,_ | ⟨_,_⟩⟩⟩⟩⟩⟩ <;>first | exact h kV doc pm an bt ct _ _ _ _ _ | exact absurd e (by simp)
theorem uF(hb:Bd x q st:=by first | exact acM (by kernel_rfl) fun _ _ _ _ _ _ _=>rfl | exact acN (by kernel_rfl) fun _ _ _ _ _ _ _ _=>rfl | exact acO (by kernel_rfl) fun _ _ _ _ _ _ _ _ _=>rfl | exact acP (by kernel_rfl) fun _ _ _ _ _ _ _ _ _ _=>rfl | exact acQ (by kernel_rfl) fun _ _ _ _ _ _ _ _ _ _ _=>rfl | exact aeV (by kernel_rfl) fun _ _ _ _ _ _ _ _ _ _ _ _=>rfl | exact aeW (by kernel_rfl) fun _ _ _ _ _ _ _ _ _ _ _ _ _=>rfl | exact aeX (by kernel_rfl) fun _ _ _ _ _ _=>rfl):Bd x q st:=hb
theorem dT(Z:Top P w K mg base)(D:br K x st)(R:gA P w K mg base k st sp)(hb:Bd x x st:=by exact uF):d5 P w K mg base k x sp:=by
 obtain⟨f,fd,a,F⟩:=D
 exact⟨f,fd,_,R.ok F,mg_of Z.X Z.G a,F.kp,F.binds hb⟩
theorem dM(D:fk K C x q st)(c:eZ K C)(R:gA P w K mg base k st sp)(hb:Bd x q st:=by exact uF):nN P w K mg base k (x,C,sp):=by
 obtain⟨f,fd,a,i,F⟩:=D
 exact⟨c,f,fd,_,⟨a,i,F.kp⟩,R.ok F,F.binds hb⟩
theorem dI{cn:Str}(Z:Top P w K mg base)(D:fk K C "__init__" q st)(M:yb K cn C)(R:gA P w K mg base k st sp)(hb:Bd "__init__" q st:=by exact uF):nP P w K mg base (k+1) (cn,C,sp):=by
 obtain⟨f,fd,a,i,F⟩:=D
 exact⟨k,f,fd,_,zqR _,⟨M.m,a,i,M.k⟩,R.ok F,mg_of Z.X Z.G M.g,F.binds hb⟩
theorem dH{N bl:List Str}{gt:List (Str×V)}{body:List RS}(Z:Top P w K mg base)(D:br K x st)
  (nS: ∀vs H Q,sp vs H Q E0->av (aI K [] gt) body {nx:=fun _ H'=>Q .aA H',rt:=Q} (start N vs) H)
  (hm: ∀{CX:bM} {Γ:aX} {X:Cx},cR CX (pR N (df st) [] (gt.map (·.1)) bl (md:=1)) Γ X->cP X (cL st) (av Γ body)) (k:Nat)
  (len: ∀vs H Q E,sp vs H Q E->vs.length=(eN st).length:=by intro _ _ _ _ h;repeat (first | (obtain⟨rfl,_⟩:=h;kernel_rfl) | (obtain⟨_,h⟩:=h)))
  (nQ: ∀p∈gt,sr mg p:=by repeat (first | exact j3 | refine j4 (Top.gv (by assumption) (by assumption)) ?_))
  (nR: ∀y∈bl,mg y=none:=by repeat (first | exact j3 | refine j4 (Top.no (by assumption) (by assumption)) ?_))
  (S:jF N (eN st) (df st):=by exact uE) (hb:Bd x x st:=by exact uF):mq P w K mg base (k+1) x sp:=by
 obtain⟨f,fd,a,F⟩:=D
 exact Ut F S (mg_of Z.X Z.G a) (F.binds hb) gt bl body hm nQ nR len nS
theorem dN(Z:Top P w K mg base)(D:br K x st){N:List Str}(no: ∀vs H Q E,¬sp vs H Q E)(S:jF N (eN st) (df st))(hb:Bd x x st:=by exact uF):d5 P w K mg base (k+1) x sp:=by
 obtain⟨f,fd,a,F⟩:=D
 exact Us F S (mg_of Z.X Z.G a) (F.binds hb) no
theorem d5.l{a b:Sp}(T:d5 P w K mg base k x (B.fN a b)):d5 P w K mg base k x a:=T.weak fun _ _ _ _ h=> .inl h
theorem d5.r{a b:Sp}(T:d5 P w K mg base k x (B.fN a b)):d5 P w K mg base k x b:=T.weak fun _ _ _ _ h=> .inr h
theorem acR{h:Heap}{fa:Addr}(X:K.In h)(G:h.Ns mainGlobals mg)(CZ:mg x=some (.ref fa))(D:br K x st){y:Str}
  (R: ∀base,Top P w K mg base->gA P w K mg base k st sp) (hp:eN st=[y]:=by kernel_rfl)
  (hb: ∀(kV doc pm:Value) (an:Option Addr) (bt ct a0:Value),bindArgs (fnOf x x (gC st) (cL st) (df st) .none kV doc pm an bt ct) ⟨[a0],[]⟩=pure [(y,a0)]:=by exact fun _ _ _ _ _ _ _=>rfl):
  ∃fd:FuncData,(∀(s:Shared) (v:Value),BindsTo s fd ⟨[v],[]⟩ [(y,v)])/\ ∀base:Heap,K.In base->base.Ns mainGlobals mg->cb P w K mg base rp k fa fd [y] (fun vs H Q _=>sp vs H Q E0):=by
 obtain⟨f,fd,e,F⟩:=D
 cases CZ.symm.trans (mg_of X G e)
 have F':=F
 obtain⟨oc,od,kV,doc,pm,an,bt,ct,e7,rfl,lk,fq⟩:=F'.ex
 refine⟨_,fun s v=> .of_eq<|hb kV doc pm an bt ct v,fun base X2 G2=> ?_⟩
 have r:=(R base ⟨X2,G2⟩).ok F
 rw[hp] at r
 exact cb.top r
def M1(K:Frag)(cs:List Addr)(c_ D:Addr)(j:Nat):Bool:=(cs.zipIdx.all fun c=>kitOne K (.ref D) (.ref c.1)==some (decide<|c.2=j)) && kitOne K (.ref D) (.ref c_)==some true && kitOne K (.ref D) (.type "ValueError")==some true
structure uG (K:Frag) (cs:List Addr) (c_ D:Addr) (j:Nat):Prop where
 c:pj K D
 b:M1 K cs c_ D j=true
 x:exmOne K (.ref D) (.ref c_)=some true
theorem uG.M3{cs:List Addr}{c_ D:Addr}{j:Nat}(h:uG K cs c_ D j):B.qb K cs c_ D j:=by
 have b:=h.b
 simp only[M1,zab,beq_iff_eq,zaK] at b
 refine⟨h.c,fun i c e=>b.1.1 (c,i) ?_,b.1.2,b.2⟩
 rw[List.mem_zipIdx_iff_getElem?];exact e
end
end L2
namespace L2.oa
open PySem PySem.Spec PyProof.Rows L2.B
theorem all_mk{P:Program}{w:World}{K:Frag}{h:Heap}{mg:Str->Option Value}{fa lN jv yc uH yd ye uI yf yg yh qO qP yi yj yk yl C0:Addr}(X:K.In h)(G:h.Ns mainGlobals mg)(CZ:mg "law"=some (.ref fa))
  {acS:Nat} {acT acU acV acW acX acY acZ ac0 ac1 ac2:Tok}
  (aeY:dF K ("InkError", .ref yc))
  (aeZ:dF K ("BadText", .ref uH))
  (ae0:dF K ("BadChange", .ref yd))
  (ae1:dF K ("BadFit", .ref ye))
  (ae2:dF K ("NoPlace", .ref uI))
  (ae3:dF K ("BadSide", .ref yf))
  (ae4:dF K ("NoMark", .ref yg))
  (ae5:dF K ("NoNode", .ref yh))
  (ae6:dF K ("NoCursor", .ref qO))
  (ae7:dF K ("BadDeed", .ref qP))
  (ae8:dF K ("BadLetter", .ref yi))
  (ae9:dF K ("NoLetter", .ref yj))
  (ae_:dF K ("NoHand", .ref yk))
  (afa:dF K ("NoNote", .ref yl))
  (ac3:yb K "Stock" lN)
  (ac4:yb K "Paper" jv)
  (lO:nX K lN)
  (fR:jU K jv)
  (afb:qN K ("BadText",uH))
  (afc:qN K ("NoPlace",uI))
  (afd:qN K ("NoCursor",qO))
  (afe:qN K ("BadDeed",qP))
  (M4:uG K [uH,yd,ye,uI,yf,yg,yh,qO,qP,yi,yj,yk,yl] yc qO 7)
  (M5:uG K [uH,yd,ye,uI,yf,yg,yh,qO,qP,yi,yj,yk,yl] yc qP 8)
  (a0:br K "is_whole" IC)
  (a1:br K "is_between" ID)
  (a2:br K "is_truth" IE)
  (a3:br K "is_word" IG)
  (a4:br K "is_text" IH)
  (a5:br K "need_text" II)
  (a6:br K "many_upto" IJ)
  (a7:br K "begin_of" IL)
  (a8:br K "end_of" IM)
  (a9:br K "is_empty" IP)
  (a10:br K "is_backward" IQ)
  (a11:br K "is_goal" IS)
  (a12:br K "is_cursor" IU)
  (a13:br K "meet" IW)
  (a14:br K "need_cursors" IX)
  (a15:br K "gathered" IZ)
  (a16:br K "as_one" I_)
  (a17:br K "settled" Ja)
  (a18:br K "need_step" Jb)
  (a19:br K "left_over" Jd)
  (a20:br K "right_over" Je)
  (a21:br K "place_in_line" Jf)
  (a22:br K "place_by_word" Jg)
  (a23:br K "place_in_next_line" Jh)
  (a24:br K "with_head" Ji)
  (a25:br K "step" Jj)
  (a26:br K "stepped" Jk)
  (a27:br K "all_stepped" Jl)
  (a28:br K "height_of" Jo)
  (a29:br K "size_of" Jp)
  (a30:br K "ends_of" Jq)
  (a31:br K "made" Jr)
  (a32:br K "turned_right" Js)
  (a33:br K "turned_left" Jt)
  (a34:br K "leveled" Ju)
  (M6:br K "joined" Jv)
  (a36:br K "cut_in_two" Jw)
  (M7:br K "parted" Jx)
  (M8:br K "pieces_of" Jy)
  (a39:br K "ends_ahead_of" Jz)
  (a40:br K "place_of_end" JA)
  (a41:fk K lN "__init__" "Stock.__init__" JB)
  (a42:fk K lN "put" "Stock.put" JC)
  (a43:fk K lN "read" "Stock.read" JD)
  (a44:fk K lN "ends_ahead" "Stock.ends_ahead" JE)
  (a45:fk K lN "end_place" "Stock.end_place" JF)
  (a46:br K "node_put" JG)
  (a47:br K "paper_of" JH)
  (a48:br K "texts_of" JI)
  (a49:fk K jv "__init__" "Paper.__init__" JJ)
  (a50:fk K jv "size" "Paper.size" JK)
  (a51:fk K jv "lines" "Paper.lines" JL)
  (a52:fk K jv "text" "Paper.text" JM)
  (a53:fk K jv "part" "Paper.part" JN)
  (a54:fk K jv "line_begin" "Paper.line_begin" JO)
  (a55:fk K jv "line_size" "Paper.line_size" JP)
  (a56:fk K jv "line_at" "Paper.line_at" JQ)
  (a57:fk K jv "place_at" "Paper.place_at" JR)
  (a58:br K "_law_cell_at" JS)
  (a59:br K "_law_whole" JT)
  (a60:br K "_law_mixed" JU)
  (a61:br K "_law_at_line" JV)
  (a62:br K "_law_in_line" JW)
  (a63:br K "_law_word_place" JX)
  (a64:br K "_law_led" dj)
  (a65:br K "_law_stepped" jh)
  (a66:br K "_law_cursor" JY)
  (a67:br K "_law_settled" g7)
  (a68:br K "_law_word" g8)
  (a69:br K "_law_words" k8)
  (a70:br K "_law_cursors" g_)
  (a71:br K "_law_refusal" J3)
  (a72:br K "_law_refused" dm)
  (a73:br K "law" d6)
  (aff:dF K ("SIGNS", .str SG))
  (afg:dF K ("MOST_CURSORS", .int 40))
  (afh:dF K ("FIRST_STRIDE", .int 64))
  (afi:dF K ("WORD_SIGNS", .str N.WS))
  (afj:dF K ("OTHER_SIGNS", .str N.OS))
  (afk:dF K ("STEP_WORDS", .ref C0))
  (ad6:K.lookup C0=some ⟨.type "tuple",none, .seq #[.str "left" acT, .str "right" acU, .str "home" acV, .str "end" acW, .str "top" acX, .str "bottom" acY, .str "back" acZ, .str "on" ac0, .str "up" ac1, .str "down" ac2] acS,#[]⟩)
  (afl:nsIn K mainGlobals "ValueError"=some none)
  (afm:nsIn K mainGlobals "all"=some none)
  (afn:nsIn K mainGlobals "any"=some none)
  (afo:nsIn K mainGlobals "bool"=some none)
  (afp:nsIn K mainGlobals "enumerate"=some none)
  (afq:nsIn K mainGlobals "int"=some none)
  (afr:nsIn K mainGlobals "isinstance"=some none)
  (afs:nsIn K mainGlobals "len"=some none)
  (aft:nsIn K mainGlobals "list"=some none)
  (afu:nsIn K mainGlobals "max"=some none)
  (afv:nsIn K mainGlobals "min"=some none)
  (afw:nsIn K mainGlobals "range"=some none)
  (afx:nsIn K mainGlobals "sorted"=some none)
  (afy:nsIn K mainGlobals "str"=some none)
  (afz:nsIn K mainGlobals "sum"=some none)
  (afA:nsIn K mainGlobals "tuple"=some none)
  (afB:nsIn K mainGlobals "zip"=some none)
  : ∃fd:FuncData,(∀(s:Shared) (v:Value),BindsTo s fd ⟨[v],[]⟩ [("_law_script",v)])/\ ∀base:Heap,K.In base->base.Ns mainGlobals mg->cb P w K mg base rp 110 fa fd ["_law_script"] (fun vs H Q _=> (x_ K) vs H Q E0):=by
 have M9:Yt K C0 [.str "left", .str "right", .str "home", .str "end", .str "top", .str "bottom", .str "back", .str "on", .str "up", .str "down"]:=fun _=> .inr ⟨_,_,_,ad6,rfl,rfl,(by show 10<=sizeLine;decide),(.cons ⟨_,rfl⟩<|.cons ⟨_,rfl⟩<|.cons ⟨_,rfl⟩<|.cons ⟨_,rfl⟩<|.cons ⟨_,rfl⟩<|.cons ⟨_,rfl⟩<|.cons ⟨_,rfl⟩<|.cons ⟨_,rfl⟩<|.cons ⟨_,rfl⟩<|.cons ⟨_,rfl⟩ .nil)⟩
 have ad7:=M4.M3
 have ad8:=M4.x
 have ad9:=M5.M3
 have ad_:=M5.x
 refine acR X G CZ a73 fun base Z=> ?_
 have T0:=dT Z a0 (dL Z Yy @VX 0)
 have T1:=dT Z a1 (dL Z YL @VY 1)
 have T2:=dT Z a2 (gA.or (dL Z N.aah @IF 0)<|dL Z N.abE @IF 0)
 have afC:=T2.l
 have T3:=dT Z a3 (dL Z YC @VZ 0)
 have T4:=dT Z a4 (dL Z Yz @V0 0)
 have T5:=dT Z a5 (dL Z YB @V1 1)
 have T6:=dT Z a6 (dL Z Ys @V2 0)
 have T7:=dT Z a7 (dL Z N.aac @V4 0)
 have T8:=dT Z a8 (dL Z N.aad @V5 0)
 have T9:=dT Z a9 (dL Z N.aae @V6 0)
 have T10:=dT Z a10 (dL Z N.aaQ @V7 0)
 have T11:=dT Z a11 (gA.or (dL Z N.aaf @IT 1)<|dL Z N.abl @IT 1)
 have afE:=T11.l
 have T12:=dT Z a12 (gA.or (dL Z N.aag @IV 2)<|dL Z N.abm @IV 2)
 have afF:=T12.l
 have T13:=dT Z a13 (dL Z N.aaP @V8 1)
 have T14:=dT Z a14 (gA.or (dL Z N.abe @IY 3)<|dL Z N.abn @IY 3)
 have afH:=T14.l
 have T15:=dT Z a15 (dL Z N.aaW @V9 2)
 have T16:=dT Z a16 (dL Z N.aaX @V_ 1)
 have T17:=dT Z a17 (dL Z N.aaY @Wa 3)
 have M_:=dT Z a18 (gA.or (dL Z (N.aai M9) @Jc 1)<|dL Z (N.abF M9) @Jc 1)
 have afL:=M_.r
 have afM:=M_.l
 have T29:=dT Z a29 (dL Z N.Zc @Wl 0)
 have T28:=dT Z a28 (dL Z N.Zb @Wk 0)
 have T30:=dT Z a30 (dL Z N.Zd @Wm 0)
 have T31:=dT Z a31 (dL Z N.Zf @Wn 1)
 have T32:=dT Z a32 (dL Z N.Zg @Wo 2)
 have T33:=dT Z a33 (dL Z N.Zh @Wq 2)
 have T34:=dT Z a34 (dL Z N.Zj @Wr 3)
 have R35: ∀n,d5 P w K mg base (4+n+1) "joined" (N.oz n):=by
  intro n;induction n with
  | zero=>exact dN Z M6 (N:=sy) N.Zl uE
  | succ n ih=>exact dT Z M6 (dL Z (N.Zn n) @Ws<|4+n+1)
 have xV:=R35 64
 have T44:=dM a44 lO.cl (dL Z (N.Zr lO) @WB 1)
 have xX:=dT Z a36 (dL Z N.Zt @Wt 2)
 have R37: ∀n,d5 P w K mg base (69+n+1) "parted" (N.oB lN n):=by
  intro n;induction n with
  | zero=>exact dN Z M7 (N:=Ay) (N.Zu lN) uE
  | succ n ih=>exact dT Z M7 (dL Z (N.Zw n) @Wu<|69+n+1)
 have T37:=R37 32
 have R38: ∀n,d5 P w K mg base (0+n+1) "pieces_of" (N.qk n):=by
  intro n;induction n with
  | zero=>exact dN Z M8 (N:=Az) N.Zo uE
  | succ n ih=>exact dT Z M8 (dL Z (N.Zp n) @Wv<|0+n+1)
 have T38:=R38 32
 have T43:=dM a43 lO.cl (dL Z (Y7 lO) @WA 2)
 have x4:=dT Z a48 (dL Z N.ZH @WG 33)
 have T50:=dM a50 fR.cl (dL Z (N.ZN fR) @WI 1)
 have T53:=dM a53 fR.cl (dL Z (N.ZR fR) @WL 102)
 have T19:=dT Z a19 (dL Z N.aaq @Wb 103)
 have T20:=dT Z a20 (dL Z N.aar @Wc 103)
 have T39:=dT Z a39 (dL Z N.ZZ @Ww 2)
 have ME:=dM a45 lO.cl (dL Z (N.Z0 lO) @WC 0)
 have T40:=dT Z a40 (dL Z N.Z2 @Wx 2)
 have T54:=dM a54 fR.cl (dL Z (N.Z3 fR) @WM 3)
 have T56:=dM a56 fR.cl (dL Z (N.Z5 fR) @WO 4)
 have T51:=dM a51 fR.cl (dL Z (N.ZO fR) @WJ 1)
 have T55:=dM a55 fR.cl (dL Z (N.Z4 fR) @WN 4)
 have T21:=dT Z a21 (dL Z N.aat @We 5)
 have T22:=dT Z a22 (dL Z N.aau @Wf 104)
 have T57:=dM a57 fR.cl (dL Z N.Z6 @WQ 5)
 have T23:=dT Z a23 (dL Z N.aav @Wg 6)
 have T24:=dT Z a24 (dL Z N.aaw @Wh 0)
 have xU:=dT Z a25 (dL Z N.aax @Wi 105)
 have MF:=dT Z a26 (dL Z N.abG @Wj 106)
 have Na:=dT Z a27 (gA.or (dL Z N.abI @Jm 106)<|dL Z N.abK @Jm 106)
 have agc:=Na.r
 have agd:=Na.l
 have T41:=dI Z a41 ac3 (dL Z (YO lO) @Wy 0)
 have T42:=dM a42 lO.cl (dL Z (YR lO) @Wz 2)
 have xW:=dT Z a46 (dL Z N.ZF @WD 69)
 have T49:=dI Z a49 ac4 (dL Z (N.ZM fR) @WH 0)
 have T47:=dT Z a47 (dL Z N.ZU @WE 70)
 have T52:=dM a52 fR.cl (dL Z (N.ZQ fR) @WK 34)
 have T58:=dT Z a58 (dL Z Yk @WR 0)
 have T59:=dT Z a59 (dL Z Z_ @WT 0)
 have T60:=dT Z a60 (dL Z N.ZV @WU 0)
 have T61:=dT Z a61 (dL Z N.aaA @WV 0)
 have T62:=dT Z a62 (dL Z N.aaC @WW 0)
 have T63:=dT Z a63 (dL Z N.aaI @WX 0)
 have T64:=dT Z a64 (dL Z N.aaJ @W_ 1)
 have T65:=dT Z a65 (dL Z N.aaK @Xf 2)
 have T66:=dT Z a66 (dL Z N.aaN @Xg 1)
 have T67:=dT Z a67 (dL Z N.aa7 @Xm 0)
 have T68:=dH (sp:=sS K [uH,yd,ye,uI,yf,yg,yh,qO,qP,yi,yj,yk,yl] yc) Z a68 A_ @Xs 0
 have T69:=dT Z a69 (dL Z abQ @Xw 1)
 have T70:=dT Z a70 (dL Z abU @XC 1)
 have T71:=dT Z a71 (dL Z (abW ad7 ad9 ad8 ad_) @XG 107)
 have T72:=dT Z a72 (dL Z ab3 @XW 108)
 exact dL Z acB @X7 109
theorem walk{l:PySem.W.OpenLaw}{q:Program}{loose:List Str}{XP:(Str->Option Value)->Heap->Prop}{YP:World->Heap->Prop}{d:DefRec}{K:Params->Frag}(hn:l.most=some 63)(rm:d.params.defaults=[])
  (hY: ∀(w:World) (h:Heap),YP w h->(K w.params).In h)
  (F: ∀(w:World) (mg:Str->Option Value) (fa:Addr) (h:Heap),(K w.params).In h->h.Ns mainGlobals mg->mg d.name=some (.ref fa)->
   ∃fd:FuncData,(∀(s:Shared) (u:Value),BindsTo s fd ⟨[u],[]⟩ [("_law_script",u)])/\ ∀base:Heap,(K w.params).In base->base.Ns mainGlobals mg->cb l.prog w (K w.params) mg base rp 110 fa fd ["_law_script"] ((fun K=> (fun vs H Q _=> (x_ K) vs H Q E0)) (K w.params))):
  PySem.W.WalkO q loose XP YP l.row.toRowW d [] (fun f vs=>PySem.call f vs):=
 L2.Qk (n:=63) (k:=110) (x:="_law_script") (CX:=fun _=>rp) (sp:=fun w=> (fun K=> (fun vs H Q _=> (x_ K) vs H Q E0)) (K w.params)) hn (by decide) rm ⟨rfl,by decide,by decide⟩ hY F (fun _ _ a ns hl _ hS=> ⟨a,ns,rfl,hS,fun _=>rfl⟩) fun _ _ _ _ _ z=>z
end L2.oa
namespace PySem.W.Fast
def tw4264101619188314011:=()
def tw9211748634061345535:=()
def tw12008995382131087551:=()
def tw14209678594354890580:=()
def tw17518921240011119240:=()
def tw16638156687155118631:=()
def tw1582768310561517243:=()
def tw15641312100302992920:=()
def tw16967940950953541663:=()
def tw10407974866931867097:=()
def tw15338189901943142886:=()
def tw2564266358696658665:=()
def tw11792752892117873081:=()
def tw18316556426248699192:=()
def tw3151649488160742231:=()
def tw4189836232567276904:=()
def tw8493355843970225477:=()
def tw1641275853833918740:=()
def tw10375479163114524868:=()
def tw14859782980261590461:=()
def tw11559566734348904848:=()
def tw11629575818367064134:=()
def tw4767728650743253690:=()
def tw3386252623831558136:=()
def tw12851037435590172864:=()
def tw4198893227332032203:=()
def tw15072495467636805938:=()
def tw5094249230405199700:=()
def tw930305150698553984:=()
def tw1485804715683103370:=()
def tw8381031534994070501:=()
def tw8096481032941543047:=()
def tw10090701396906445743:=()
def tw13020033251681188533:=()
def tw3735233856820137844:=()
def tw2888641939220118204:=()
def tw11110175206394374185:=()
def tw14761205504179199991:=()
def tw2630483392405994212:=()
def tw7922884691990149511:=()
def tw10025663404239873949:=()
def tw13832763629728569667:=()
def tw1609595010407610957:=()
def tw8489730043733746096:=()
def tw1294917297763877487:=()
def tw16611802392925995856:=()
def tw14166179529948612314:=()
def tw8710199041461915465:=()
def tw16302065514841478558:=()
def tw981033128181414414:=()
def tw1193768805141498333:=()
def tw9515020520050544398:=()
def tw18267642345629792650:=()
def tw4649409907677345816:=()
def tw14911096069904657623:=()
def tw18000813872875193751:=()
def tw7472147091495872462:=()
def tw12344809147177567345:=()
def tw5203559723304254454:=()
def tw16267006947296748754:=()
def tw6835586695780853424:=()
def tw2690669518545675313:=()
def tw1214613377674214978:=()
def tw7470565260559690902:=()
def tw6798652151888640213:=()
def tw3545024834577498393:=()
def tw11039908177435317802:=()
def tw17313406559591463692:=()
def tw17933618965798848319:=()
def tw11806897842613231724:=()
def tw628297266621189670:=()
def tw12313906353924037971:=()
def tw1440030751525871662:=()
def tw10036121974053433838:=()
def tw2775671950320837863:=()
def tw4916675657704190229:=()
def tw17591819227994838948:=()
def tw14606239401015975362:=()
def tw10600830692883156011:=()
def tw4979107631610089874:=()
def tw8925360340290543586:=()
def tw13466776708057118306:=()
def tw7226475082792675860:=()
def tw17898544656762406825:=()
def tw8421788033593137258:=()
def tw590248209359930914:=()
def tw14653994793172591274:=()
def tw18019606532784882781:=()
def tw1680485801296184918:=()
def tw7243702028538634784:=()
def tw4946021033319912997:=()
def tw17139926467701223777:=()
def tw6972485940052348007:=()
def tw9596405202193843396:=()
def tw16246805975558558156:=()
def tw16497531100489313384:=()
def tw2344525232818682663:=()
def tw4115425077757231280:=()
def tw15487598704915640566:=()
def tw6064752083135676032:=()
def tw7679568567962896966:=()
def tw7050404527225847033:=()
def tw18348515671862424373:=()
def tw17988696577509354140:=()
def tw1330923886886775793:=()
def tw13774082776383540001:=()
def tw4333172831203968883:=()
def tw1236124868069106822:=()
def tw15969685922277396309:=()
def tw15987332591556296615:=()
def tw17373435166125363911:=()
def tw2067652396397431992:=()
def tw1638698835313993115:=()
def tw4132573645065982875:=()
def tw6556111865422345940:=()
def tw8579915560840035734:=()
def tw10728958045232353210:=()
def tw10504717468203375577:=()
def tw9626765881567783743:=()
def tw7146007396141663595:=()
def tw4993286590614163775:=()
def tw13522905135169467040:=()
def tw7484993024402386272:=()
def tw14104763255459528722:=()
def tw16815603784450118085:=()
def tw3095891082052160226:=()
def tw1310172221559845491:=()
def tw8025705161792398176:=()
def tw10073963248783800743:=()
def tw9913522954903777633:=()
def tw7526997062464028352:=()
def tw8269415883887354606:=()
def tw3221313864887237076:=()
def tw9169851641816061758:=()
def tw5759792189002299188:=()
def tw5661195172445922440:=()
def tw1473267460942367753:=()
def tw5650175075481277687:=()
def tw8775629291506796521:=()
def tw5109513882938517451:=()
def tw12555566926606697999:=()
def tw16791065673881785814:=()
def tw3518842575900980532:=()
def tw4746072377974567686:=()
def tw5399624868492356742:=()
def tw10336788901489070407:=()
def tw8741830173095590825:=()
def tw4737082964190126953:=()
def tw16513918804111952848:=()
def tw8097546482293000180:=()
def tw17319971156186541358:=()
def tw8535813164864416061:=()
def tw13345089167238339700:=()
def tw16704385456084732617:=()
def tw8269063345102310938:=()
def tw2136396552447458690:=()
def tw10080008437816644352:=()
def tw1409989937903736620:=()
def tw732822240336374904:=()
def tw16158460739916988086:=()
def tw8941730962269804717:=()
def tw15699711722510726106:=()
def tw499697767495863722:=()
def tw962012348030119520:=()
def tw11664096531001824792:=()
def tw7487882327093120529:=()
def tw707999541967314102:=()
def tw2390472642676536610:=()
def tw1499258560872824254:=()
def tw10363361342978184141:=()
def tw1897795018477425325:=()
def tw4197028790771750468:=()
def tw6126471147169666227:=()
def tw13833788072421803411:=()
def tw7055580227694459981:=()
def tw11382027134828715221:=()
def tw657786002057832431:=()
def tw573211733548621747:=()
def tw5842652660652192463:=()
def tw11664808624421171049:=()
def tw9146142763757855641:=()
def tw5279385979585359125:=()
def tw2104929753878237886:=()
def tw16617780494849719208:=()
def tw8186480146056412024:=()
def tw18040692482000497459:=()
def tw3814435906488062949:=()
def tw7376744184141263337:=()
def tw9523334669429723273:=()
def tw4461112970647846944:=()
def tw5637477161461595113:=()
def tw16613478732111943729:=()
def tw12828556649799786854:=()
def tw17704875223856703710:=()
def tw14403007981667869315:=()
def tw7278966937243129028:=()
def tw6733068863864377384:=()
def tw2200779219202865971:=()
def tw5248479544928870133:=()
def tw1684279863577670047:=()
def tw3035351718041215170:=()
def tw4580314409599380951:=()
def tw3901812349138483982:=()
def tw8737698618916177643:=()
def tw12937038284162969160:=()
def tw8848885863495847464:=()
def tw5406780286035635589:=()
def tw8257036516585085203:=()
def tw4464874600244728985:=()
def tw11313472861408858318:=()
def tw13014821172520535386:=()
def tw6697404248859916721:=()
def tw5806759825527372345:=()
def tw10643455501928161735:=()
def tw3576049538255727866:=()
def tw6946483761708625897:=()
def tw4597144160914071354:=()
def tw1323618113820147447:=()
def tw434314205930482585:=()
def tw36234886150416864:=()
def tw7872053803192056563:=()
def tw15383259497114334426:=()
def tw16821669516360699648:=()
def tw12216356206717368259:=()
def tw5733807275541376035:=()
def tw16803748344792308382:=()
def tw7261987691028837894:=()
def tw15389790382941587383:=()
def tw14678058498201377999:=()
def tw15503255032829552853:=()
def tw9180217784074844565:=()
def tw1128346227198883100:=()
def tw12524103396275342943:=()
def tw11297000134383133220:=()
def tw9319818640933046964:=()
def tw3171166164990764572:=()
def tw4850162920967247348:=()
def tw9143291734909912943:=()
def tw17970640208214287817:=()
def tw13416687367102418313:=()
def tw976611487727477209:=()
def tw4384276074168819560:=()
def tw17456647486462936944:=()
def tw8247642801877979664:=()
def tw10667551746349500052:=()
def tw4923539440359052248:=()
def tw14370887352896224052:=()
def tw15543686117094307045:=()
def tw2087818250419831807:=()
def tw13654021768829114642:=()
def tw2712710753092926488:=()
def tw9885147050107932900:=()
def tw5519794322403907085:=()
def tw5302084029979335118:=()
def tw7287965300070909351:=()
def tw13199454198148081916:=()
def tw17713117117666516540:=()
def tw7871156813964271031:=()
def tw12837583446761970187:=()
end PySem.W.Fast
open PySem PySem.W PyProof.Rows
set_option maxRecDepth 100000 in
set_option maxHeartbeats 0 in
theorem PySem.Challenge.cw_inkloom_k30_all_cursors_stepped_holds : PySem.Challenge.rw_inkloom_k30_all_cursors_stepped.Holds := by
 w_on;o_law;k_head;(case hw=>w_witness2)
 k_fill
 refine L2.oa.walk (l:=PySem.Challenge.rw_inkloom_k30_all_cursors_stepped) rfl rfl (fun w h Y=>PySem.W.kIn_of Y) ?F
 case F=>
  intro w mg fa h KX G iW
  refine' L2.oa.all_mk KX G iW ..
  all_goals try first | refine' L2.dfk .. | refine' L2.acK .. | refine' L2.yb.mk .. | refine' L2.dmk .. | refine' L2.acJ .. | refine' L2.acI .. | refine' L2.qN.mk .. | refine' L2.uG.mk (L2.pj.mk ..) .. | refine' L2.B.nX.mk (L2.eZ.mk ..) .. | refine' L2.B.jU.mk (L2.eZ.mk ..) ..
  all_goals try refine' L2.acL ..
  all_goals try first | k_is | k_exc | kernel_rfl
