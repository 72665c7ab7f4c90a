import PyProof.Rows.All
import Wide.All
import OpenK.AllK
import Wide.FinOn
import Lean
import PyProof.EqAt
import PyProof.EqKinds
import PyProof.TupleCall
import PyProof.Rows.EqDataRows
import PyProof.DictList
import PyProof.FactsAll.dict_1
import PyProof.FactsAll.subtypes_4
import KE.KTryMore
import PyProof.WalksEnum
import PyProof.EnumMake
import PyProof.ListStr
import PyProof.TupleOfStr
import PyProof.Dict
import PyProof.ToksMono
import PyProof.StrCalls6
import PyProof.StrWalks
import PyProof.ConsumeWalk
import PyProof.CallStr
import PyProof.MeetsStr
import KE.KIntText
import PyProof.StrCalls2
import PyProof.StrOps2
import KE.KSortTup
import PyProof.WalksMore
import PyProof.TupleIter
import PyProof.SliceList
import PyProof.ListRange
import KE.KRevIter
import PyProof.StrLawsIn
import PyProof.Rows.StrCut
import PyProof.ZipIter
import PyProof.ListNew
import PyProof.StrLaws
import PySem.Challenge.RW_inkloom_k24_whole_each_text
set_option Elab.async false
set_option linter.all false
set_option maxRecDepth 100000
set_option compiler.extract_closed false
noncomputable section
open PySem.W (Frag callWith_K cellsFrom_some emptyDict exmOne handedIn hasDictIn hideAll hideAll_get instObj kia_one kitOne kitx_dict kitx_list lookIn makesIn methodObj mroIn nsIn of_hideAll plainGet plainGet_of plainOver specialIn takerIn takesIn)
theorem zqT{p:Prop}[Decidable p](h:p):decide p=true:=decide_eq_true h
theorem zqF{p:Prop}[Decidable p](h: ¬p):decide p=false:=decide_eq_false h
theorem zqA{α:Type}{a b:List α}:(a++b).length=a.length+b.length:=List.length_append
theorem zqR(n:Nat):n≤n:=Nat.le_refl n
theorem zqZ(n:Nat):0≤n:=Nat.zero_le n
def zaa:=@List.mem_cons
def zab:=@List.length_map
def zac:=@List.mem_singleton
def zad:=@List.mem_append
def zae:=@List.mem_of_getElem?
def zaf:=@List.append_nil
def zag:=@List.size_toArray
def zah:=@Bool.and_eq_true
def zai:=@List.append_assoc
def zaj:=@List.mem_cons_of_mem
def zak:=@List.getElem?_eq_some_iff
def zal:=@Option.some.inj
def zam:=@List.getElem?_map
def zan:=@Nat.ne_of_lt
def zao:=@List.length_cons
def zap:=@List.map_append
def zaq:=@List.mem_append_right
def zar:=@Nat.lt_of_lt_of_le
def zas:=@List.mem_cons_self
def zat:=@List.not_mem_nil
def zau:=@List.getElem?_eq_getElem
def zav:=@List.mem_append_left
def zaw:=@Nat.le_trans
def zax:=@Bool.false_ne_true
def zay:=@List.map_cons
def zaz:=@List.getElem?_append_left
def zaA:=@Nat.lt_irrefl
def zaB:=@List.length_drop
def zaC:=@List.reverse_cons
def zaD:=@List.length_take
def zaE:=@Nat.ne_of_gt
def zaF:=@List.length_reverse
def zaG:=@List.take_of_length_le
def zaH:=@List.getElem?_set_ne
def zaI:=@List.length_eq_zero_iff
def zaJ:=@Int.emod_nonneg
def zaK:=@List.reverse_append
def zaL:=@Int.emod_lt_of_pos
def zaM:=@Bool.false_xor
def zaN:=@List.nodup_cons
def zaO:=@List.find?_cons
def zaP:=@List.length_set
def zaQ:=@List.length_singleton
def zaR:=@Bool.false_eq_true
def zaS:=@Bool.true_xor
def zaT:=@Int.le_refl
def zaU:=@List.cons.inj
def zaV:=@List.reverse_reverse
def zaW:=@Int.toNat_natCast
def zaX:=@List.mem_map
def zaY:=@List.drop_eq_getElem_cons
def zaZ:=@Bool.not_eq_true'
def zba:=@List.getElem?_set
def zbb:=@Nat.le_succ
def zbc:=@List.getElem?_append_right
def zbd:=@List.map_nil
def zbe:=@List.all_cons
def zbf:=@List.foldl_cons
def zbg:=@List.nil_append
def zbh:=@List.length_nil
def zbi:=@Option.map_eq_some_iff
def zbj:=@List.lookup_cons
def zbk:=@Nat.le_add_right
def zbl:=@List.drop_zero
def zbm:=@List.cons_append
def zbn:=@List.mem_iff_getElem?
def zbo:=@List.filterMap_map
def zbp:=@Bool.or_false
def zbq:=@Array.getElem?_eq_getElem
def zbr:=@List.take_add_one
def zbs:=@List.map_map
def zbt:=@List.sum_cons
def zbu:=@Nat.sub_self
def zbv:=@List.mem_reverse
def zbw:=@Nat.le_of_lt
def zbx:=@List.mem_filterMap
def zby:=@List.any_cons
def zbz:=@List.replicate_succ
def zbA:=@List.all_eq_true
def zbB:=@List.take_length
def zbC:=@List.map_congr_left
def zbD:=@List.getElem?_cons_succ
def zbE:=@List.take_append_drop
def zbF:=@List.drop_length
def zbG:=@List.take_nil
def zbH:=@List.mem_of_mem_drop
def zbI:=@Int.natCast_add
def zbJ:=@List.getElem?_zip_eq_some
def zbK:=@List.map_set
def zbL:=@List.mem_range
def zbM:=@List.filterMap_cons
def zbN:=@Array.length_toList
def zbO:=@Bool.eq_iff_iff
def zbP:=@Nat.lt_succ_self
def zbQ:=@List.flatten_cons
def zbR:=@Option.map_some
def zbS:=@Nat.lt_succ_of_lt
def zbT:=@Array.eq_empty_of_size_eq_zero
def zbU:=@Nat.lt_of_succ_lt_succ
def zbV:=@List.ext_getElem?
def zbW:=@List.getElem?_reverse
def zbX:=@List.filter_append
def zbY:=@List.sum_append
def zbZ:=@List.take_left
def zca:=@List.drop_of_length_le
def zcb:=@Nat.le_of_ble_eq_true
def zcc:=@List.getLast?_concat
def zcd:=@List.length_dropLast
def zce:=@List.filterMap_cons_some
def zcf:=@List.getElem?_eq_none
def zcg:=@List.length_filter_le
def zch:=@List.getLast?_append
def zci:=@List.mem_of_mem_tail
def zcj:=@List.mem_of_mem_take
def zck:=@List.eq_nil_of_length_eq_zero
def zcl:=@List.dropLast_concat
def zcm:=@Int.toNat_of_nonneg
namespace L2
open PySem PySem.Spec PyProof.Rows
abbrev Key:=Sum Int Str
def p_:Key->Value->Bool
 | .inl k,v=>Value.isInt k v
 | .inr x,v=>Value.isStrOf x v
def MF(w:World):Key->Int
 | .inl k=>hashInt k
 | .inr x=>hashStr w x
theorem kE: ∀{k:Key} {v:Value},p_ k v=true->(∃i t,k=Sum.inl i/\v=Value.int i t)\/(∃x t,k=Sum.inr x/\v=Value.str x t)
 | .inl i,v,h=>by
  obtain⟨t,e⟩:=Value.isInt_shape (k:=i) (v:=v) h
  exact .inl ⟨i,t,rfl,e⟩
 | .inr x,v,h=>by
  obtain⟨t,e⟩:=Value.isStrOf_shape (x:=x) (v:=v) h
  exact .inr ⟨x,t,rfl,e⟩
theorem MG(i:Int)(t:Tok):p_ (.inl i) (.int i t)=true:=by simp[p_,Value.isInt]
theorem MH(x:Str)(t:Tok):p_ (.inr x) (.str x t)=true:=by simp[p_,Value.isStrOf]
theorem MI(a b:Int):decide ((Sum.inl a:Key)=Sum.inl b)=(a==b):=by
 by_cases e:a=b
 ·subst e;simp
 ·have h: ¬(Sum.inl a:Key)=Sum.inl b:=fun q=>e (Sum.inl.inj q)
  rw[zqF h]
  exact(beq_eq_false_iff_ne.mpr e).symm
theorem MJ(a b:Str):decide ((Sum.inr a:Key)=Sum.inr b)=decide (a=b):=by
 by_cases e:a=b
 ·subst e;simp
 ·have h: ¬(Sum.inr a:Key)=Sum.inr b:=fun q=>e (Sum.inr.inj q)
  rw[zqF h,zqF e]
theorem MK(a:Int)(b:Str):decide ((Sum.inl a:Key)=Sum.inr b)=false:=zqF (fun q=>nomatch q)
theorem ML(a:Str)(b:Int):decide ((Sum.inr a:Key)=Sum.inl b)=false:=zqF (fun q=>nomatch q)
def dF(prog:Program)(w:World):PySem.KeyKind prog w Key where
 is:=p_
 hash:=MF w
 inj:=fun v a b ha hb=>by
  rcases kE ha with⟨i,t,rfl,rfl⟩ | ⟨x,t,rfl,rfl⟩
  ·rcases kE hb with⟨j,u,rfl,e⟩ | ⟨y,u,rfl,e⟩
   ·injection e with e1 _;rw[e1]
   ·exact nomatch e
  ·rcases kE hb with⟨j,u,rfl,e⟩ | ⟨y,u,rfl,e⟩
   ·exact nomatch e
   ·injection e with e1 _;rw[e1]
 byValue:=fun k v h=>by
  rcases kE h with⟨i,t,rfl,rfl⟩ | ⟨x,t,rfl,rfl⟩ <;>rfl
 pyHash:=fun hv h=>by
  rcases kE hv with⟨i,t,rfl,rfl⟩ | ⟨x,t,rfl,rfl⟩
  ·exact wpAny_pyHash_int h
  ·exact wpAny_pyHash_str h
 eqBool:=fun hu hv h=>by
  rcases kE hu with⟨i,t,rfl,rfl⟩ | ⟨x,t,rfl,rfl⟩
  ·rcases kE hv with⟨j,u,rfl,rfl⟩ | ⟨y,u,rfl,rfl⟩
   ·rw[MI] at h;exact wpAny_eqBool_int h
   ·rw[MK] at h;exact SeqAt.EqAt.int_str i t y u _ _ _ _ h
  ·rcases kE hv with⟨j,u,rfl,rfl⟩ | ⟨y,u,rfl,rfl⟩
   ·rw[ML] at h;exact SeqAt.EqAt.str_int x t j u _ _ _ _ h
   ·rw[MJ] at h;exact wpAny_eqBool_str h
 «strs»:=fun k x t v h=>by
  rcases kE h with⟨i,u,rfl,e⟩ | ⟨y,u,rfl,e⟩
  ·exact nomatch e
  ·injection e with e1 _
   subst e1
   cases v<;>rfl
theorem Dm(prog:Program)(w:World)(i:Int)(t:Tok):(dF prog w).is (.inl i) (.int i t)=true:=MG i t
theorem uE(prog:Program)(w:World)(x:Str)(t:Tok):(dF prog w).is (.inr x) (.str x t)=true:=MH x t
inductive V where
 | aC | bl (b:Bool) | int (i:Int) | str (x:Str) | fQ (b:Array UInt8) | mz (b:UInt64) | ref (a:Addr) | ty (n:String)
 deriving DecidableEq
def RelV:V->Value->Prop
 | .aC,u=>u=Value.none
 | .bl b,u=>u=Value.bool b
 | .int i,u=> ∃t,u=Value.int i t
 | .str x,u=> ∃t,u=Value.str x t
 | .fQ b,u=> ∃t,u=Value.bytes b t
 | .mz b,u=> ∃t,u=Value.float b t
 | .ref a,u=>u=Value.ref a
 | .ty n,u=>u=Value.type n
abbrev Vals:List V->List Value->Prop:=Paired RelV
theorem Vals.length{xs:List V}{us:List Value}(r:Vals xs us):xs.length=us.length:=Paired.length r
theorem Vals.get: ∀{xs:List V} {us:List Value} {i:Nat} {x:V},Vals xs us->xs[i]?=some x-> ∃u,us[i]?=some u/\RelV x u
 | _,_,_,_, .nil,e=>by simp at e
 | _,_,0,_, .cons r _,e=>by simp at e;subst e;exact⟨_,rfl,r⟩
 | _,_,i+1,x, .cons _ t,e=>by
  obtain⟨u,h1,h2⟩:=Vals.get (i:=i) (x:=x) t (by simpa using e)
  exact⟨u,by simpa using h1,h2⟩
theorem Vals.set{x:V}{u:Value}(r:RelV x u): ∀{xs:List V} {us:List Value} (i:Nat),Vals xs us->Vals (xs.set i x) (us.set i u)
 | _,_,_, .nil=> .nil
 | _,_,0, .cons _ t=> .cons r t
 | _,_,i+1, .cons q t=> .cons q (Vals.set r i t)
theorem Vals.append: ∀{xs ys:List V} {us ws:List Value},Vals xs us->Vals ys ws->Vals (xs++ys) (us++ws)
 | _,_,_,_, .nil,s=>s
 | _,_,_,_, .cons r t,s=> .cons r (Vals.append t s)
theorem Vals.take: ∀{xs:List V} {us:List Value} (n:Nat),Vals xs us->Vals (xs.take n) (us.take n)
 | _,_,0,_=> .nil
 | _,_,_+1, .nil=> .nil
 | _,_,n+1, .cons r t=> .cons r (Vals.take n t)
theorem Vals.drop: ∀{xs:List V} {us:List Value} (n:Nat),Vals xs us->Vals (xs.drop n) (us.drop n)
 | _,_,0,r=>r
 | _,_,_+1, .nil=> .nil
 | _,_,n+1, .cons _ t=>Vals.drop n t
def gc:Option V->Option Value->Prop
 | some v,some u=>RelV v u
 | none,none=>True
 | _,_=>False
def KV{κ:Type}:List (κ×V)->List (κ×Value)->Prop:=Paired fun(p:κ×V) (q:κ×Value)=>p.1=q.1/\RelV p.2 q.2
def kV:Key->V
 | .inl i=> .int i
 | .inr x=> .str x
inductive HO where
 | lst (xs:List V)
 | tup (xs:List V)
 | dK (kvs:List (Key×V)) | dT (kvs:List (List Key×V))
 | set (S:Int->Bool) (n:Nat)
 | ins (C dx:Addr) (fs:List (Str×V))
 | own (x:Addr)
 | xd (fs:List (Str×V))
 | met (f x:Addr)
 | gX (lo hi:Int)
 | bX (o:Obj) (u:HO)
 | jO (ps:Array Value)
 | ext (φ:Heap->Prop)
abbrev Hp:=Addr->Option HO
def upd(H:Hp)(a:Addr)(o:HO):Hp:=fun b=>if b=a then some o else H b
theorem au{H:Hp}{a:Addr}{o:HO}:upd H a o a=some o:=by unfold upd;rw[if_pos rfl]
theorem aN{H:Hp}{a b:Addr}{o:HO}(h:b≠a):upd H a o b=H b:=by unfold upd;rw[if_neg h]
theorem uF{H:Hp}{a:Addr}{o u:HO}:upd (upd H a o) a u=upd H a u:=by
 funext b;unfold upd;split<;>rfl
theorem iM{H:Hp}{a b:Addr}{o u:HO}(h:H a=some o)(h':H b=some u)(d:o≠u):a≠b:=by
 intro e;subst e;rw[h] at h';exact d (zal h')
theorem bZ{H:Hp}{a b:Addr}{o:HO}(h:H a=some o)(h':H b=none):a≠b:=by
 intro e;subst e;rw[h] at h';cases h'
section
variable (P:Program) (w:World)
def cg(H:Hp)(h:Heap)(a:Addr):HO->Prop
 | .lst xs=>xs.length<=sizeLine/\ ∃(ak:List Value) (n:Nat),Vals xs ak/\h.get? a=some {cls:= .type "list",data:= .seq ak.toArray n}
 | .tup xs=>xs.length<=sizeLine/\ ∃ak:List Value,Vals xs ak/\IsTup h a ak.toArray
 | .dK kvs=>kvs.length<=sizeLine/\(a==sysModules)=false/\ ∃vs,KV kvs vs/\h.DictOf (dF P w) a vs
 | .dT kvs=>kvs.length<=sizeLine/\(a==sysModules)=false/\ ∃xs:List (List Key×Addr×Value),
   Paired (fun(p:List Key×V) (q:List Key×Addr×Value)=>p.1=q.1/\H q.2.1=some (.tup<|p.1.map kV)/\RelV p.2 q.2.2) kvs xs/\
   ∃o es ep,h.get? a=some o/\o.ExactDict/\o.data= .dict es ep/\es.toList=xs.map (entryOfKey<|tupleKind<|dF P w)/\(xs.map (·.1)).Nodup
 | .set S n=>h.SetOf (intKind P w) a S n
 | .ins C dx fs=>H dx=some (.own a)/\fs.length<=1000/\dx≠a/\h.get? a=some (instObj C dx)/\
   ∃mA,h.Ns1 dx mA/\(∀f,gc (fs.lookup f)<|mA f)/\PySem.Within mA (fs.map (·.1))
 | .own _=> ∃o,h.get? a=some o
 | .xd fs=> ∃mA,h.Ns1 a mA/\ ∀f,gc (fs.lookup f) (mA f)
 | .gX lo hi=> ∃t u v,h.get? a=some {cls:= .type "range",data:= .fields #[.int lo t, .int hi u, .int 1 v]}
 | .bX o u=>h.get? a=some o/\cg H h a u
 | .jO ps=>h.get? a=some {cls:= .none,data:= .fields ps}
 | .met f x=>h.get? a=some (methodObj (.ref f)<|.ref x)
 | .ext φ=>φ h/\(∃o,h.get? a=some o)/\ ∀h1 h2:Heap,φ h1->(∀o,h1.get? a=some o->h2.get? a=some o)->φ h2
def cj(H:Hp)(h:Heap):Prop:= ∀a o,H a=some o->cg P w H h a o
end
section
variable {P:Program} {w:World} {H H':Hp} {h h':Heap} {a:Addr} {o:HO}
theorem cg.lt(x:cg P w H h a o):a<h.objs.size:=by
 cases o with
 | lst xs=>obtain⟨_,_,_,_,e⟩:=x;exact Heap.lt_size e
 | tup xs=>obtain⟨_,_,_,p⟩:=x;exact p.lt
 | dK kvs=>obtain⟨_,_,_,_,o,_,_,e,_⟩:=x;exact Heap.lt_size e
 | dT kvs=>obtain⟨_,_,_,_,o,_,_,e,_⟩:=x;exact Heap.lt_size e
 | set S n=>obtain⟨o,_,_,_,e,_⟩:=x;exact Heap.lt_size e
 | ins C dx fs=>obtain⟨_,_,_,e,_⟩:=x;exact Heap.lt_size e
 | own y=>obtain⟨_,e⟩:=x;exact Heap.lt_size e
 | xd fs=>obtain⟨_,⟨_,_,_,e,_⟩,_⟩:=x;exact Heap.lt_size e
 | gX lo hi=>obtain⟨_,_,_,e⟩:=x;exact Heap.lt_size e
 | bX ob u=>obtain⟨e,_⟩:=x;exact Heap.lt_size e
 | jO ps=>exact Heap.lt_size (show h.get? a=some _ from x)
 | met f y=>exact Heap.lt_size (show h.get? a=some _ from x)
 | ext φ=>obtain⟨_,⟨_,e⟩,_⟩:=x;exact Heap.lt_size e
theorem Paired.yk{α β:Type}{F G:α->β->Prop}: ∀{l₁:List α} {l₂:List β},Paired F l₁ l₂->(∀a b,F a b->G a b)->Paired G l₁ l₂
 | _,_, .nil,_=> .nil
 | _,_, .cons r t,f=> .cons (f _ _ r) (Paired.yk t f)
theorem cg.kH(x:cg P w H h a o)(k: ∀b u,(b=a\/H b=some (.own a))->h.get? b=some u->h'.get? b=some u)
  (ho: ∀b,H b=some (.own a)->H' b=some (.own a)) (ht: ∀b xs,H b=some (.tup xs)->H' b=some (.tup xs)):cg P w H' h' a o:=by
 induction o with
 | lst xs=>obtain⟨z,ak,n,r,e⟩:=x;exact⟨z,ak,n,r,k _ _ (.inl rfl) e⟩
 | tup xs=>obtain⟨z,ak,r,ob,e,c⟩:=x;exact⟨z,ak,r,ob,k _ _ (.inl rfl) e,c⟩
 | dK kvs=>obtain⟨z,y,vs,r,ob,es,ep,e,c⟩:=x;exact⟨z,y,vs,r,ob,es,ep,k _ _ (.inl rfl) e,c⟩
 | dT kvs=>
  obtain⟨z,y,xs,r,ob,es,ep,e,c⟩:=x
  exact⟨z,y,xs,Paired.yk r fun p q z=> ⟨z.1,ht _ _ z.2.1,z.2.2⟩,ob,es,ep,k _ _ (.inl rfl) e,c⟩
 | set S n=>obtain⟨ob,es,ep,t,e,c⟩:=x;exact⟨ob,es,ep,t,k _ _ (.inl rfl) e,c⟩
 | ins C dx fs=>
  obtain⟨d,z,ne,e,mA,⟨od,es,ep,e2,c⟩,r⟩:=x
  exact⟨ho _ d,z,ne,k _ _ (.inl rfl) e,mA,⟨od,es,ep,k _ _ (.inr d) e2,c⟩,r⟩
 | own y=>obtain⟨ob,e⟩:=x;exact⟨ob,k _ _ (.inl rfl) e⟩
 | xd fs=>obtain⟨mA,⟨od,es,ep,e,c⟩,r⟩:=x;exact⟨mA,⟨od,es,ep,k _ _ (.inl rfl) e,c⟩,r⟩
 | gX lo hi=>obtain⟨t,u,v,e⟩:=x;exact⟨t,u,v,k _ _ (.inl rfl) e⟩
 | bX ob u ih=>obtain⟨e,q⟩:=x;exact⟨k _ _ (.inl rfl) e,ih q⟩
 | jO ps=>
  have e:h.get? a=some {cls:= .none,data:= .fields ps}:=x
  show h'.get? a=some {cls:= .none,data:= .fields ps}
  exact k a _ (.inl rfl) e
 | met f y=>
  have e:h.get? a=some (methodObj (.ref f)<|.ref y):=x
  show h'.get? a=some (methodObj (.ref f)<|.ref y)
  exact k a _ (.inl rfl) e
 | ext φ=>obtain⟨p,⟨o,e⟩,st⟩:=x;exact⟨st _ _ p fun o q=>k _ _ (.inl rfl) q,⟨o,k _ _ (.inl rfl) e⟩,st⟩
theorem cj.lt(x:cj P w H h)(e:H a=some o):a<h.objs.size:=(x a o e).lt
theorem cj.fresh(x:cj P w H h)(e:h.objs.size<=a):H a=none:=by
 cases q:H a with
 | none=>rfl
 | some u=>exact absurd (zar (x.lt q) e) (zaA _)
theorem cj.kept(x:cj P w H h)(k: ∀b u,h.get? b=some u->h'.get? b=some u):cj P w H h':=fun a o e=>
 (x a o e).kH (fun b u _ q=>k b u q) (fun _ q=>q) fun _ _ q=>q
theorem cj.laid(x:cj P w H h)(k: ∀b u,h.get? b=some u->h'.get? b=some u)(hp:h.objs.size<=a)(new:cg P w (upd H a o) h' a o):cj P w (upd H a o) h':=fun b u e=>by
 have hn:=x.fresh hp
 by_cases hb:b=a
 ·subst hb;rw[au] at e;cases e;exact new
 ·rw[aN hb] at e
  exact(x b u e).kH (fun c v _ q=>k c v q) (fun c q=>by rw[aN<|bZ q hn];exact q) fun c xs q=>by rw[aN<|bZ q hn];exact q
end
def Rd(H:Hp)(a:Addr)(u:HO):Prop:=H a=some u\/ ∃o,H a=some (.bX o u)
theorem Rd.ok{P:Program}{w:World}{H:Hp}{h:Heap}{a:Addr}{u:HO}(r:Rd H a u)(x:cj P w H h):cg P w H h a u:=by
 rcases r with r | ⟨o,r⟩
 ·exact x a u r
 ·obtain⟨_,q⟩:=x a _ r
  exact q
def rG:Option HO->Prop
 | some (.lst _)=>True
 | some (.dK _)=>True
 | some (.dT _)=>True
 | some (.set _ _)=>True
 | some (.ins _ _ _)=>True
 | some (.ext _)=>True
 | _=>False
section
variable {P:Program} {w:World} {H:Hp} {h h':Heap} {x e:Addr} {o':HO}
theorem cj.write(ok:cj P w H h)(mu:rG (H x))(he:e=x\/H e=some (.own x))(k: ∀b u,b≠e->h.get? b=some u->h'.get? b=some u)(qd: ∃u,h'.get? e=some u)
  (new:cg P w (upd H x o') h' x o'):cj P w (upd H x o') h':=fun b u q=>by
 have Dp: ∀c y,H c=some (.own y)->c≠x:=fun c y r z=>by subst z;rw[r] at mu;exact mu
 have MM: ∀c xs,H c=some (.tup xs)->c≠x:=fun c xs r z=>by subst z;rw[r] at mu;exact mu
 by_cases hb:b=x
 ·subst hb;rw[au] at q;cases q;exact new
 ·rw[aN hb] at q
  by_cases nX:b=e
  ·have q':H b=some (.own x):=by
    rcases he with z | z
    ·exact absurd (nX.trans z) hb
    ·rw[nX];exact z
   rw[q] at q';cases q'
   obtain⟨v,hv⟩:=qd
   exact⟨v,by rw[nX];exact hv⟩
  ·refine(ok b u q).kH (fun c v hc r=>k c v ?_ r) (fun c r=>by rw[aN<|Dp c b r];exact r) fun c xs r=>by rw[aN<|MM c xs r];exact r
   rcases hc with rfl | hc
   ·exact nX
   ·rintro rfl
    rcases he with z | z
    ·exact Dp c b hc z
    ·rw[hc] at z;cases z;exact hb rfl
end
structure Un (fs ex:List Addr) (H H':Hp) (h h':Heap):Prop where
 keep: ∀b o,h.get? b=some o->H b=none->b∉fs->b∉ex->h'.get? b=some o
 slot: ∀b o,h.get? b=some o->H b=none->b∈fs->b∉ex-> ∃sl,h'.get? b=some {o with slots:=sl}
 free: ∀b o,h.get? b=some o->H b=none->b∉ex->H' b=none
 there: ∀b o,h.get? b=some o->b∉ex-> ∃o',h'.get? b=some o'
 bz: ∀b xs,H b=some (.tup xs)->H' b=some (.tup xs)
 gY: ∀b o u,H b=some (.bX o u)->H' b=some (.bX o u)
 ib: ∀b ps,H b=some (.jO ps)-> ∃more,H' b=some (.jO<|ps++more)
section
variable {fs iN ex yl:List Addr} {H H1 H2:Hp} {h h1 h2 h':Heap} {a x e:Addr} {o:HO}
theorem Un.any(u:Un fs ex H H1 h h1){b:Addr}{ob:Obj}(q:h.get? b=some ob)(n:H b=none)(hx:b∉ex): ∃sl,h1.get? b=some {ob with slots:=sl}:=by
 by_cases hb:b∈fs
 ·exact u.slot b ob q n hb hx
 ·exact⟨ob.slots,u.keep b ob q n hb hx⟩
theorem Un.kept(k: ∀b u,h.get? b=some u->h'.get? b=some u):Un fs ex H H h h':=
 ⟨fun b ob q _ _ _=>k b ob q,fun b ob q _ _ _=> ⟨ob.slots,k b ob q⟩,fun _ _ _ n _=>n,fun b ob q _=> ⟨ob,k b ob q⟩,fun _ _ q=>q,fun _ _ _ q=>q,fun _ ps q=> ⟨#[],by rw[q];simp⟩⟩
theorem Un.refl:Un fs ex H H h h:=Un.kept fun _ _ q=>q
theorem Un.laid(k: ∀b u,h.get? b=some u->h'.get? b=some u)(hp:h.objs.size<=a)(hn:H a=none):Un fs ex H (upd H a o) h h' where
 keep:=fun b u q _ _ _=>k b u q
 slot:=fun b u q _ _ _=> ⟨u.slots,k b u q⟩
 free:=fun b u q n _=>by rw[aN<|zan<|zar (Heap.lt_size q) hp];exact n
 there:=fun b u q _=> ⟨u,k b u q⟩
 bz:=fun b xs q=>by rw[aN<|bZ q hn];exact q
 gY:=fun b u xs q=>by rw[aN<|bZ q hn];exact q
 ib:=fun b ps q=> ⟨#[],by rw[aN<|bZ q hn,q];simp⟩
theorem Un.write(mu:rG (H x))(he:e=x\/H e=some (.own x))(k: ∀b u,b≠e->h.get? b=some u->h'.get? b=some u)(qd: ∃u,h'.get? e=some u):Un fs ex H (upd H x o) h h':=by
 have hx: ∀b,H b=none->b≠x:=fun b n z=>by subst z;rw[n] at mu;exact mu
 have hb: ∀b,H b=none->b≠e:=fun b n z=>by
  subst z
  rcases he with r | r
  ·exact hx b n r
  ·rw[n] at r;cases r
 have hm: ∀b u,H b=some u-> ¬rG (some u)->b≠x:=fun b u q nm z=>by subst z;rw[q] at mu;exact nm mu
 refine⟨fun b u q n _ _=>k b u (hb b n) q,fun b u q n _ _=> ⟨u.slots,k b u (hb b n) q⟩,fun b u q n _=>by rw[aN (hx b n)];exact n,fun b u q _=> ?_,
  fun b xs q=>by rw[aN (hm b _ q fun z=>z)];exact q,fun b u xs q=>by rw[aN (hm b _ q fun z=>z)];exact q,fun b ps q=> ⟨#[],by rw[aN (hm b _ q fun z=>z),q];simp⟩⟩
 by_cases nX:b=e
 ·subst nX;exact qd
 ·exact⟨u,k b u nX q⟩
end
def fD(h:Heap)(H:Hp):List Addr:=(List.range h.objs.size).filter fun a=> (H a).isSome
def kI(h:Heap)(H:Hp):Heap:=hideAll h (fD h H)
theorem MN(h:Heap)(H:Hp):(kI h H).objs.size=h.objs.size:=PySem.W.hideAll_size _ _
theorem MO{h:Heap}{H:Hp}{b:Addr}{o:Obj}(e:h.get? b=some o)(n:H b=none):(kI h H).get? b=some o:=
 hideAll_get _ e fun hm=>by
  have q:(H b).isSome=true:=(List.mem_filter.mp hm).2
  rw[n] at q;simp at q
theorem MP{h:Heap}{H:Hp}{b:Addr}{o:Obj}(e:(kI h H).get? b=some o):h.get? b=some o/\H b=none:=by
 have e':h.get? b=some o:=of_hideAll (fD h H) e
 refine⟨e', ?_⟩
 cases q:H b with
 | none=>rfl
 | some x=>
  have hm:b∈fD h H:=List.mem_filter.mpr ⟨zbL.mpr<|Heap.lt_size e',by simp[q]⟩
  have z:(kI h H).get? b=none:=PySem.W.hideAll_none (fD h H) hm
  rw[z] at e;cases e
structure Mod (K:Frag) (mg:Str->Option Value) (base:Heap):Prop where
 rH:K.In base
 glob:base.Ns mainGlobals mg
 blt: ∃mb,base.Ns builtinsNs mb/\ ∀x:Str,x≠"__name__"->mb x=bootBuiltins x
 nolimit:base.NoLimit
structure Cx where
 prog:Program
 w:World
 K:Frag
 mg:Str->Option Value
 base:Heap
 A:Around
 N:List Str
 s₀:Shared
 H₀:Hp
 env:Env
 outer:List Env
 stack:List Env
 ex:List Addr
 fn:Str->Bool
 calm:Bool
 pn:List (Addr×Obj)
 xe:Value->Shared->Prop
def cp(l:List Env):List Addr:=l.filterMap (·.frame)
abbrev Cx.fs(X:Cx):List Addr:=cp X.outer
def uG(sc:Scope)(x:Str):Prop:=sc.names.lookup x=some .local\/sc.names.lookup x=some .cell\/sc.names.lookup x=some .free
def Loc(sc:Scope)(x:Str):Prop:=sc.names.lookup x=some .local\/sc.names.lookup x=some .cell
def Look(env:Env)(h:Heap)(m:Str->Option Value)(x:Str)(u:Value):Prop:=
 (env.kindOf x=some .local/\m x=some u)\/((env.kindOf x=some .cell\/env.kindOf x=some .free)/\ ∃c,env.cells.lookup x=some c/\h.IsCell c (some u))
structure Cx.Ok (X:Cx):Prop where
 mod:Mod X.K X.mg X.base
 kind:X.env.scope.kind= .function
 glob:X.env.globals=mainGlobals
 blt:X.env.builtins=builtinsNs
 above:X.s₀.heap.objs.size<=X.env.locals
 inj: ∀x y c,X.env.cells.lookup x=some c->X.env.cells.lookup y=some c->x=y
 has: ∀x,(X.env.kindOf x=some .cell\/X.env.kindOf x=some .free)-> ∃c,X.env.cells.lookup x=some c
 ym: ∀x c,X.fn x=true->X.env.cells.lookup x=some c->X.s₀.heap.objs.size<=c
 hd:X.calm=true->X.A.handled=none
 frames:X.A.frames=some X.stack
 rJ:X.stack=X.outer\/(X.stack=X.env::X.outer/\X.env.frame=some X.env.locals)
 exf: ∀b∈X.ex,b≠X.env.locals/\ ∀x c,X.env.cells.lookup x=some c->c≠b
 bs: ∀b o,X.base.get? b=some o->X.s₀.heap.get? b=some o/\X.H₀ b=none
 qe:X.base.objs.size<=X.s₀.heap.objs.size
 yn: ∀b o,X.base.get? b=some o->b∉X.ex
 yo: ∀b∈X.ex,b∉X.fs
 jP:X.s₀.heap.FunFrames X.base X.outer
 rL: ∀b∈X.fs,X.H₀ b=none
structure Inv (X:Cx) (pins:List (Addr×Obj)) (σ:List (Option V)) (H:Hp) (s:Shared):Prop where
 ok:X.Ok
 os:s.os=X.s₀.os
 bare:AllBare s.gens
 base:Un X.fs X.ex X.H₀ H X.s₀.heap s.heap
 loc: ∃m,s.heap.Ns X.env.locals m/\ ∀(i:Nat) (x:Str) (v:V),X.N[i]?=some x->σ[i]?=some (some v)->uG X.env.scope x-> ∃u,RelV v u/\Look X.env s.heap m x u
 cell: ∀x c,X.env.cells.lookup x=some c-> ∃v,s.heap.IsCell c v
 free:H X.env.locals=none
 kJ: ∀x c,X.env.cells.lookup x=some c->H c=none
 pin: ∀p∈X.pn++pins,s.heap.get? p.1=some p.2/\H p.1=none/\p.1≠X.env.locals/\p.1∉X.fs/\ ∀v,p.2.data≠ .cell v
 aE:cj X.prog X.w H s.heap
 len:σ.length=X.N.length
section
variable {X:Cx} {pins:List (Addr×Obj)} {σ:List (Option V)} {H H':Hp} {s:Shared} {h':Heap}
theorem Cx.Ok.MQ(ok:X.Ok){b:Addr}{o:Obj}(e:X.base.get? b=some o):b∉X.fs:=fun hb=>by
 have:=(ok.jP.mem hb).1
 rw[e] at this;cases this
theorem Inv.bs(I:Inv X pins σ H s): ∀b o,X.base.get? b=some o->s.heap.get? b=some o/\H b=none:=fun b o e=>
 ⟨I.base.keep b o (I.ok.bs b o e).1 (I.ok.bs b o e).2 (I.ok.MQ e)<|I.ok.yn b o e,I.base.free b o (I.ok.bs b o e).1 (I.ok.bs b o e).2<|I.ok.yn b o e⟩
theorem Inv.bk(I:Inv X pins σ H s): ∀b o,X.base.get? b=some o->s.heap.get? b=some o:=fun b o e=> (I.bs b o e).1
theorem Inv.mod(I:Inv X pins σ H s):Mod X.K X.mg X.base:=I.ok.mod
theorem Inv.dn(I:Inv X pins σ H s):X.K.In s.heap:=I.ok.mod.rH.keeps I.bk
theorem Inv.lt(I:Inv X pins σ H s):X.env.locals<s.heap.objs.size:=let ⟨_,hn,_⟩:=I.loc;hn.lt
theorem Inv.sz(I:Inv X pins σ H s):X.s₀.heap.objs.size<=s.heap.objs.size:=zaw I.ok.above (zbw I.lt)
theorem Inv.Dq(I:Inv X pins σ H s){a:Addr}(h:s.heap.objs.size<=a):a∉X.fs:=fun hb=>by
 obtain⟨_,o,ho,_⟩:=I.ok.jP.mem hb
 exact absurd (zar (Heap.lt_size ho)<|zaw I.sz h)<|zaA _
theorem Inv.nY(I:Inv X pins σ H s): ∀x c,X.env.cells.lookup x=some c->c≠X.env.locals:=fun x c e z=>by
 obtain⟨v,o,ho,hd⟩:=I.cell x c e
 obtain⟨m,⟨o',es,ep,gB,eE,_⟩,_⟩:=I.loc
 rw[z,gB] at ho;cases ho;rw[eE] at hd;cases hd
theorem Inv.jP(I:Inv X pins σ H s):s.heap.FunFrames X.base X.outer:=by
 have all: ∀(l:List Env),(∀b∈cp l,b∈X.fs)->X.s₀.heap.FunFrames X.base l->s.heap.FunFrames X.base l:=by
  intro l
  induction l with
  | nil=>intro _ _;trivial
  | cons env r ih=>
   intro hs hl
   obtain⟨hk,⟨L,o,hf,hn,ho,hd⟩,hr⟩:=hl
   have hL:L∈X.fs:=hs L (by unfold cp;rw[zbM,hf];exact zas)
   obtain⟨sl,e⟩:=I.base.slot L o ho (I.ok.rL L hL) hL fun z=>I.ok.yo L z hL
   exact⟨hk,⟨L,_,hf,hn,e,hd⟩,ih (fun b hb=>hs b (by unfold cp;rw[zbM,hf];exact zaj _ hb)) hr⟩
 exact all X.outer (fun _ hb=>hb) I.ok.jP
theorem Inv.stack(I:Inv X pins σ H s):s.heap.FunFrames X.base X.stack:=by
 rcases I.ok.rJ with e | ⟨e,hf⟩
 ·rw[e];exact I.jP
 ·rw[e]
  obtain⟨m,hn,_⟩:=I.loc
  refine .cons (by rw[I.ok.kind];decide) hf hn ?_ I.jP
  exact Heap.get?_none_of_le<|zaw I.ok.qe I.ok.above
theorem Inv.uH(I:Inv X pins σ H s): ∀b∈cp X.stack,b∈X.env.locals::X.fs:=fun b hb=>by
 rcases I.ok.rJ with e | ⟨e,hf⟩
 ·rw[e] at hb;exact zaj _ hb
 ·rw[e] at hb
  unfold cp at hb
  rw[zbM,hf] at hb
  exact hb
theorem Inv.uI(I:Inv X pins σ H s): ∀b∈cp X.stack,H b=none:=fun b hb=>by
 rcases zaa.mp (I.uH b hb) with e | hb
 ·rw[e];exact I.free
 ·obtain⟨_,o,ho,_⟩:=I.ok.jP.mem hb
  exact I.base.free b o ho (I.ok.rL b hb) fun z=>I.ok.yo b z hb
theorem Inv.step{g':Array GenState}{t':Nat}{d':Drawn}{ch:List Addr}(I:Inv X pins σ H s)
  (cK: ∀b∈ch,(b∈X.ex\/X.s₀.heap.objs.size<=b)/\b≠X.env.locals/\(∀x c,X.env.cells.lookup x=some c->c≠b)/\ ∀p∈X.pn++pins,p.1≠b)
  (keep: ∀b o,b≠X.env.locals->b∉X.fs->b∉ch->s.heap.get? b=some o->H b=none->h'.get? b=some o)
  (slot: ∀b o,b≠X.env.locals->b∈X.fs->b∉ch->s.heap.get? b=some o->H b=none-> ∃sl,h'.get? b=some {o with slots:=sl}) (free: ∀b o,b∉ch->s.heap.get? b=some o->H b=none->H' b=none)
  (there: ∀b o,b∉ch->s.heap.get? b=some o-> ∃o',h'.get? b=some o')
  (bz: ∀b xs,H b=some (.tup xs)->H' b=some (.tup xs)) (gY: ∀b o u,H b=some (.bX o u)->H' b=some (.bX o u)) (ib: ∀b ps,H b=some (.jO ps)-> ∃more,H' b=some (.jO<|ps++more))
  (ns: ∀m,s.heap.Ns X.env.locals m->h'.Ns X.env.locals m) (aE:cj X.prog X.w H' h') (hg:AllBare g'):
  Inv X pins σ H' {s with heap:=h',gens:=g',drawn:=d',toks:=t'}:=by
 have Dr: ∀b o,X.s₀.heap.get? b=some o->b≠X.env.locals:=fun b o e=>zan (zar (Heap.lt_size e) I.ok.above)
 have uJ: ∀b o,X.s₀.heap.get? b=some o->b∉X.ex->b∉ch:=fun b o e hx hb=>by
  rcases (cK b hb).1 with z | z
  ·exact hx z
  ·exact absurd (zar (Heap.lt_size e) z) (zaA _)
 have cellK: ∀x c,X.env.cells.lookup x=some c-> ∀v,s.heap.IsCell c v->h'.IsCell c v:=fun x c e v ⟨o,ho,hd⟩=>by
  have rM:c∉ch:=fun z=> (cK c z).2.2.1 x c e rfl
  by_cases hc:c∈X.fs
  ·obtain⟨sl,q⟩:=slot c o (I.nY x c e) hc rM ho (I.kJ x c e)
   exact⟨_,q,hd⟩
  ·exact⟨o,keep c o (I.nY x c e) hc rM ho<|I.kJ x c e,hd⟩
 refine⟨I.ok,I.os,hg,⟨fun b o e n hb hx=> ?_,fun b o e n hb hx=> ?_,fun b o e n hx=> ?_,fun b o e hx=> ?_,fun b xs e=>bz b xs<|I.base.bz b xs e,fun b o xs e=>gY b o xs<|I.base.gY b o xs e,fun b ps e=> ?_⟩, ?_,fun x c e=> ?_, ?_,fun x c e=> ?_,fun p hp=> ?_,aE,I.len⟩
 ·exact keep b o (Dr b o e) hb (uJ b o e hx) (I.base.keep b o e n hb hx) (I.base.free b o e n hx)
 ·obtain⟨sl,e1⟩:=I.base.slot b o e n hb hx
  obtain⟨MR,e2⟩:=slot b _ (Dr b o e) hb (uJ b o e hx) e1 (I.base.free b o e n hx)
  exact⟨MR,e2⟩
 ·obtain⟨o',e1⟩:=I.base.there b o e hx
  exact free b o' (uJ b o e hx) e1<|I.base.free b o e n hx
 ·obtain⟨o',e1⟩:=I.base.there b o e hx
  exact there b o' (uJ b o e hx) e1
 ·obtain⟨m1,e1⟩:=I.base.ib b ps e
  obtain⟨m2,e2⟩:=ib b _ e1
  exact⟨m1++m2,by rw[e2,Array.append_assoc]⟩
 ·obtain⟨m,hn,hl⟩:=I.loc
  refine⟨m,ns m hn,fun i x v e1 e2 e3=> ?_⟩
  obtain⟨u,r,l⟩:=hl i x v e1 e2 e3
  refine⟨u,r, ?_⟩
  rcases l with l | ⟨k,c,e,z⟩
  ·exact .inl l
  ·exact .inr ⟨k,c,e,cellK x c e _ z⟩
 ·obtain⟨v,z⟩:=I.cell x c e
  exact⟨v,cellK x c e v z⟩
 ·obtain⟨m,⟨o,_,_,ho,_⟩,_⟩:=I.loc
  exact free _ o (fun z=> (cK _ z).2.1 rfl) ho I.free
 ·obtain⟨v,o,ho,hd⟩:=I.cell x c e
  exact free c o (fun z=> (cK c z).2.2.1 x c e rfl) ho<|I.kJ x c e
 ·obtain⟨e,n,ne,nf,d⟩:=I.pin p hp
  have rM:p.1∉ch:=fun z=> (cK p.1 z).2.2.2 p hp rfl
  exact⟨keep p.1 p.2 ne nf rM e n,free p.1 p.2 rM e n,ne,nf,d⟩
theorem Inv.un{t':Nat}(I:Inv X pins σ H s)(u:Un X.fs [] H H' s.heap h')(aE:cj X.prog X.w H' h'):Inv X pins σ H' {s with heap:=h',toks:=t'}:=by
 obtain⟨m,⟨o,es,ep,ho,r⟩,_⟩:=id I.loc
 obtain⟨sl,hL⟩:=u.any ho I.free (by simp)
 exact I.step (g':=s.gens) (d':=s.drawn) (ch:=[]) (fun _ z=>nomatch z) (fun b o _ hb _ e n=>u.keep b o e n hb (by simp)) (fun b o _ hb _ e n=>u.slot b o e n hb (by simp)) (fun b o _ e n=>u.free b o e n (by simp)) (fun b o _ e=>u.there b o e (by simp)) u.bz u.gY u.ib (fun m' hm=>by
  obtain⟨o',qf,yp,gB,r'⟩:=hm
  rw[ho] at gB;cases gB
  exact⟨_,qf,yp,hL,r'⟩) aE I.bare
theorem Inv.call{g':Array GenState}{t':Nat}{d':Drawn}{ch:List Addr}(I:Inv X pins σ H s)(u:Un (cp X.stack) ch H H' s.heap h')(aE:cj X.prog X.w H' h')(hg:AllBare g')
  (cK: ∀b∈ch,(b∈X.ex\/X.s₀.heap.objs.size<=b)/\b≠X.env.locals/\(∀x c,X.env.cells.lookup x=some c->c≠b)/\ ∀p∈X.pn++pins,p.1≠b):
  Inv X pins σ H' {s with heap:=h',gens:=g',drawn:=d',toks:=t'}:=by
 obtain⟨m,⟨o,es,ep,ho,r⟩,_⟩:=id I.loc
 obtain⟨sl,hL⟩:=u.any ho I.free fun z=> (cK _ z).2.1 rfl
 exact I.step (ch:=ch) cK (fun b o hL hb hc e n=>u.keep b o e n (fun z=> (zaa.mp (I.uH b z)).elim hL hb) hc) (fun b o _ _ hc e n=>u.any e n hc) (fun b o hc e n=>u.free b o e n hc) (fun b o hc e=>u.there b o e hc) u.bz u.gY u.ib (fun m' hm=>by
  obtain⟨o',qf,yp,gB,r'⟩:=hm
  rw[ho] at gB;cases gB
  exact⟨_,qf,yp,hL,r'⟩) aE hg
theorem Inv.turned{t':Nat}{it:Addr}(I:Inv X pins σ H s)(k: ∀b o,b≠it->s.heap.get? b=some o->h'.get? b=some o)(hn:H it=none)(hL:it≠X.env.locals)
  (h1:it∈X.ex\/X.s₀.heap.objs.size<=it) (h2: ∀x c,X.env.cells.lookup x=some c->c≠it) (h3: ∀p∈X.pn++pins,p.1≠it):Inv X pins σ H {s with heap:=h',toks:=t'}:=by
 have Ds: ∀b u,H b=some u->b≠it:=fun b u e z=>by rw[z,hn] at e;cases e
 refine I.step (g':=s.gens) (d':=s.drawn) (ch:=[it]) (fun b hb=> ?_) (fun b o _ _ hc e _=>k b o (fun z=>hc (by simp[z])) e) (fun b o _ _ hc e _=> ⟨o.slots,k b o (fun z=>hc (by simp[z])) e⟩) (fun _ _ _ _ n=>n)
  (fun b o hc e=> ⟨o,k b o (fun z=>hc (by simp[z])) e⟩) (fun _ _ e=>e) (fun _ _ _ e=>e) (fun b ps e=> ⟨#[],by rw[e];simp⟩) (fun m hm=> ?_) (fun b u e=> ?_) I.bare
 ·have e:b=it:=by simpa using hb
  subst e
  exact⟨h1,hL,h2,h3⟩
 ·obtain⟨o,es,ep,ho,r⟩:=hm
  exact⟨o,es,ep,k _ o (Ne.symm hL) ho,r⟩
 ·refine(I.aE b u e).kH (fun c v hc q=>k c v ?_ q) (fun _ q=>q) fun _ _ q=>q
  rcases hc with z | z
  ·rw[z];exact Ds b u e
  ·exact Ds c _ z
theorem Inv.tok(I:Inv X pins σ H s)(t:Nat):Inv X pins σ H {s with toks:=t}:=I.un (h':=s.heap) (t':=t) Un.refl I.aE
theorem Inv.kept{t':Nat}(I:Inv X pins σ H s)(k: ∀b u,s.heap.get? b=some u->h'.get? b=some u):Inv X pins σ H {s with heap:=h',toks:=t'}:=I.un (Un.kept k) (I.aE.kept k)
theorem Inv.laid{a:Addr}{o:HO}{t':Nat}(I:Inv X pins σ H s)(k: ∀b u,s.heap.get? b=some u->h'.get? b=some u)(hp:s.heap.objs.size<=a)(new:cg X.prog X.w (upd H a o) h' a o):
  Inv X pins σ (upd H a o) {s with heap:=h',toks:=t'}:=I.un (Un.laid k hp<|I.aE.fresh hp) (I.aE.laid k hp new)
theorem Inv.write{x e:Addr}{o:HO}{t':Nat}(I:Inv X pins σ H s)(mu:rG (H x))(he:e=x\/H e=some (.own x))(k: ∀b u,b≠e->s.heap.get? b=some u->h'.get? b=some u)(qd: ∃u,h'.get? e=some u)
  (new:cg X.prog X.w (upd H x o) h' x o):Inv X pins σ (upd H x o) {s with heap:=h',toks:=t'}:=I.un (Un.write mu he k qd) (I.aE.write mu he k qd new)
theorem Inv.qg{yq:List (Addr×Obj)}(I:Inv X pins σ H s)(h: ∀p∈yq,s.heap.get? p.1=some p.2/\H p.1=none/\p.1≠X.env.locals/\p.1∉X.fs/\ ∀v,p.2.data≠ .cell v):Inv X yq σ H s:=
 ⟨I.ok,I.os,I.bare,I.base,I.loc,I.cell,I.free,I.kJ,fun p hp=> (zad.mp hp).elim (fun z=>I.pin p<|zav _ z)<|h p,I.aE,I.len⟩
theorem Dt{N:List Str}(hN:N.Nodup){i j:Nat}{x:Str}(a:N[i]?=some x)(b:N[j]?=some x):i=j:=by
 obtain⟨h1,e1⟩:=zak.mp a
 obtain⟨h2,e2⟩:=zak.mp b
 exact(List.getElem_inj hN).mp<|e1.trans e2.symm
theorem Du{M:Model}{A:Around}{E:Value->Shared->Prop}{i:Nat}{x:Str}{v:V}{u:Value}{Q:Unit->Shared->Prop}(I:Inv X pins σ H s)(hN:X.N.Nodup)(hi:X.N[i]?=some x)(hx:Loc X.env.scope x)(r:RelV v u)
  (h: ∀s',Inv X pins (σ.set i<|some v) H s'->(∃a,Heap.SameBut a s.heap s'.heap/\(a=X.env.locals\/X.env.cells.lookup x=some a))->Q () s') (hf:X.fn x=true\/X.env.scope.names.lookup x=some .local:=by first | exact .inl rfl | exact .inr rfl | assumption):wpAny M A (storeName X.env x u) Q E s:=by
 obtain⟨m,hn,hl⟩:=id I.loc
 have MS:(X.env.scope.kind== .class || (X.env.scope.kind== .module && X.env.locals !=X.env.globals))=false:=by rw[I.ok.kind];rfl
 have Dv:i<σ.length:=by rw[I.len];exact(zak.mp hi).1
 have nY:=I.nY
 have tracked: ∀{a:Addr} {h':Heap},(∃o,s.heap.get? a=some o/\H a=none)->Heap.SameBut a s.heap h'->cj X.prog X.w H h':=fun {a h'} ha hs b ob e=>by
  obtain⟨_,_,rN⟩:=ha
  refine(I.aE b ob e).kH (fun c w' hc q=> (hs.2 c ?_).trans q) (fun _ q=>q) fun _ _ q=>q
  rintro rfl
  rcases hc with rfl | hc
  ·rw[rN] at e;cases e
  ·rw[rN] at hc;cases hc
 rcases hx with hk | hk
 ·refine wpAny_storeName_local hk hn (fun h' MT hs=> ?_) MS
  obtain⟨oL,_,_,MU,_⟩:=id hn
  refine h _ ⟨I.ok,I.os,I.bare,⟨fun b o e n hb hx=> ?_,fun b o e n hb hx=> ?_,I.base.free,fun b o e hx=> ?_,I.base.bz,I.base.gY,I.base.ib⟩,⟨_,MT,fun j y v' e1 e2 e3=> ?_⟩,fun y c e=> ?_,I.free,I.kJ,fun p hp=> ?_,tracked ⟨oL,MU,I.free⟩ hs,by simpa using I.len⟩ ⟨_,hs, .inl rfl⟩
  ·exact(hs.2 b<|zan<|zar (Heap.lt_size e) I.ok.above).trans (I.base.keep b o e n hb hx)
  ·obtain⟨sl,e1⟩:=I.base.slot b o e n hb hx
   exact⟨sl,(hs.2 b<|zan<|zar (Heap.lt_size e) I.ok.above).trans e1⟩
  ·obtain⟨o',e1⟩:=I.base.there b o e hx
   exact⟨o',(hs.2 b<|zan<|zar (Heap.lt_size e) I.ok.above).trans e1⟩
  ·by_cases hj:j=i
   ·subst hj
    rw[hi] at e1;cases e1
    rw[List.getElem?_set_self Dv] at e2
    cases e2
    exact⟨u,r, .inl ⟨hk,by simp⟩⟩
   ·rw[zaH<|Ne.symm hj] at e2
    obtain⟨u',r',q⟩:=hl j y v' e1 e2 e3
    refine⟨u',r', ?_⟩
    rcases q with⟨k,e⟩ | ⟨k,c,e,z⟩
    ·refine .inl ⟨k, ?_⟩
     have:y≠x:=fun e=>hj (Dt hN e1<|e ▸ hi)
     simp[this,e]
    ·exact .inr ⟨k,c,e,z.sameBut hs<|nY y c e⟩
  ·obtain⟨w',z⟩:=I.cell y c e
   exact⟨w',z.sameBut hs<|nY y c e⟩
  ·obtain⟨e,n,ne,nf,d⟩:=I.pin p hp
   exact⟨(hs.2 p.1 ne).trans e,n,ne,nf,d⟩
 ·have yr:X.fn x=true:=by
   rcases hf with z | z
   ·exact z
   ·rw[z] at hk;cases hk
  obtain⟨c,hc⟩:=I.ok.has x (.inl hk)
  obtain⟨w',z⟩:=I.cell x c hc
  refine wpAny_storeName_cell I.ok.kind hk hc z<|fun h' eF hs=> ?_
  obtain⟨oc,Dw,MV⟩:=id z
  refine h {s with heap:=h'} ⟨I.ok,I.os,I.bare,⟨fun b o e n hb hx=> ?_,fun b o e n hb hx=> ?_,I.base.free,fun b o e hx=> ?_,I.base.bz,I.base.gY,I.base.ib⟩,⟨m,hn.sameBut hs<|Ne.symm<|nY x c hc,fun j y v' e1 e2 e3=> ?_⟩,fun y c' e=> ?_,I.free,I.kJ,fun p hp=> ?_,tracked ⟨oc,Dw,I.kJ x c hc⟩ hs,by simpa using I.len⟩ ⟨c,hs, .inr hc⟩
  ·exact(hs.2 b<|zan<|zar (Heap.lt_size e)<|I.ok.ym x c yr hc).trans (I.base.keep b o e n hb hx)
  ·obtain⟨sl,e1⟩:=I.base.slot b o e n hb hx
   exact⟨sl,(hs.2 b<|zan<|zar (Heap.lt_size e)<|I.ok.ym x c yr hc).trans e1⟩
  ·obtain⟨o',e1⟩:=I.base.there b o e hx
   exact⟨o',(hs.2 b<|zan<|zar (Heap.lt_size e)<|I.ok.ym x c yr hc).trans e1⟩
  ·by_cases hj:j=i
   ·subst hj
    rw[hi] at e1;cases e1
    rw[List.getElem?_set_self Dv] at e2
    cases e2
    exact⟨u,r, .inr ⟨.inl hk,c,hc,eF⟩⟩
   ·rw[zaH<|Ne.symm hj] at e2
    obtain⟨u',r',q⟩:=hl j y v' e1 e2 e3
    refine⟨u',r', ?_⟩
    rcases q with q | ⟨k,c',e,z'⟩
    ·exact .inl q
    ·refine .inr ⟨k,c',e,z'.sameBut hs ?_⟩
     rintro rfl
     exact hj<|Dt hN e1<|I.ok.inj _ _ _ e hc ▸ hi
  ·by_cases uK:c'=c
   ·subst uK;exact⟨_,eF⟩
   ·obtain⟨w2,z2⟩:=I.cell y c' e
    exact⟨w2,z2.sameBut hs uK⟩
  ·obtain⟨e,n,ne,nf,d⟩:=I.pin p hp
   refine⟨(hs.2 p.1 ?_).trans e,n,ne,nf,d⟩
   intro q
   rw[q,Dw] at e
   have q':oc=p.2:=zal e
   exact d w' (by rw[<-q'];exact MV)
theorem Dx{M:Model}{A:Around}{E:Value->Shared->Prop}{i:Nat}{x:Str}{v:V}{u:Value}{Q:Unit->Shared->Prop}(I:Inv X pins σ H s)(hN:X.N.Nodup)(hi:X.N[i]?=some x)(hx:Loc X.env.scope x)(r:RelV v u)
  (h: ∀s',Inv X pins (σ.set i<|some v) H s'->Q () s') (hf:X.fn x=true\/X.env.scope.names.lookup x=some .local:=by first | exact .inl rfl | exact .inr rfl | assumption):wpAny M A (storeName X.env x u) Q E s:=
 Du I hN hi hx r (fun s' I' _=>h s' I') hf
theorem Inv.MW{s':Shared}{ch:List Addr}(I:Inv X pins σ H s)(ho:s'.os=s.os)(u:Un (cp X.stack) ch H H' s.heap s'.heap)(aE:cj X.prog X.w H' s'.heap)(hg:AllBare s'.gens)
  (cK: ∀b∈ch,(b∈X.ex\/X.s₀.heap.objs.size<=b)/\b≠X.env.locals/\(∀x c,X.env.cells.lookup x=some c->c≠b)/\ ∀p∈X.pn++pins,p.1≠b):Inv X pins σ H' s':=by
 obtain⟨h',g',d',t',o'⟩:=s'
 have e:o'=s.os:=ho
 subst e
 exact I.call (g':=g') (t':=t') (d':=d') u aE hg cK
end
abbrev XK:=Value->Option Addr->Hp->Prop
abbrev St:=List (Option V)
abbrev VK:=V->Hp->Prop
abbrev TE:=St->Hp->VK->Prop
abbrev TT:=St->Hp->(Bool->Hp->Prop)->Prop
abbrev TA:=St->Hp->(List V->Hp->Prop)->Prop
structure Ends where
 nx:St->Hp->Prop
 rt:VK
 bk:St->Hp->Prop:=fun _ _=>False
 ct:St->Hp->Prop:=fun _ _=>False
abbrev TS:=Ends->St->Hp->Prop
def EP(X:Cx)(pins:List (Addr×Obj))(σ:St)(Q:VK)(u:Value)(s':Shared):Prop:= ∃v H',Inv X pins σ H' s'/\RelV v u/\Q v H'
def TP(X:Cx)(pins:List (Addr×Obj))(σ:St)(Q:Bool->Hp->Prop)(b:Bool)(s':Shared):Prop:= ∃H',Inv X pins σ H' s'/\Q b H'
def AP(X:Cx)(pins:List (Addr×Obj))(σ:St)(Q:List V->Hp->Prop)(us:List Value)(s':Shared):Prop:= ∃vs H',Inv X pins σ H' s'/\Vals vs us/\Q vs H'
def SP(X:Cx)(pins:List (Addr×Obj))(D:Ends)(f:Flow)(s':Shared):Prop:=
 match f with
 | .next=> ∃σ' H',Inv X pins σ' H' s'/\D.nx σ' H'
 | .brk=> ∃σ' H',Inv X pins σ' H' s'/\D.bk σ' H'
 | .cont=> ∃σ' H',Inv X pins σ' H' s'/\D.ct σ' H'
 | .ret u=> ∃v σ' H',Inv X pins σ' H' s'/\RelV v u/\D.rt v H'
def PE(X:Cx)(e:Expr)(t:TE):Prop:=
 ∀(pins:List (Addr×Obj)) (s:Shared) (σ:St) (H:Hp) (Q:VK),Inv X pins σ H s->t σ H Q->wpAny (model X.prog X.w) X.A (eval e X.env) (EP X pins σ Q) X.xe s
def PT(X:Cx)(e:Expr)(t:TT):Prop:=
 ∀(pins:List (Addr×Obj)) (s:Shared) (σ:St) (H:Hp) (Q:Bool->Hp->Prop),Inv X pins σ H s->t σ H Q->wpAny (model X.prog X.w) X.A (isTrue e X.env<|eval e X.env) (TP X pins σ Q) X.xe s
def PW(X:Cx)(e:Expr)(t:TT):Prop:=
 ∀(whole:Sem Value) (pins:List (Addr×Obj)) (s:Shared) (σ:St) (H:Hp) (Q:Bool->Hp->Prop),Inv X pins σ H s->t σ H Q->wpAny (model X.prog X.w) X.A (isTrue e X.env whole) (TP X pins σ Q) X.xe s
theorem PW.pt{X:Cx}{e:Expr}{t:TT}(h:PW X e t):PT X e t:=h _
def PA(X:Cx)(es:List Expr)(t:TA):Prop:=
 ∀(pos:Pos) (pins:List (Addr×Obj)) (s:Shared) (σ:St) (H:Hp) (Q:List V->Hp->Prop),Inv X pins σ H s->t σ H Q->wpAny (model X.prog X.w) X.A (spliced<|backTo pos<|starEach es X.env) (AP X pins σ Q) X.xe s
def PS(X:Cx)(st:Stmt)(t:TS):Prop:=
 ∀(pins:List (Addr×Obj)) (s:Shared) (σ:St) (H:Hp) (D:Ends),Inv X pins σ H s->t D σ H->wpAny (model X.prog X.w) X.A (exec st X.env) (SP X pins D) X.xe s
def eV(X:Cx)(st:List Stmt)(t:TS):Prop:=
 ∀(pins:List (Addr×Obj)) (s:Shared) (σ:St) (H:Hp) (D:Ends),Inv X pins σ H s->t D σ H->wpAny (model X.prog X.w) X.A (execs st X.env) (SP X pins D) X.xe s
theorem aH{α:Type}{t:Sem α}{Q Q':α->Shared->Prop}{M:Model}{A:Around}{E:Value->Shared->Prop}{s:Shared}(h:wpAny M A t Q E s)(hQ: ∀a s,Q a s->Q' a s):wpAny M A t Q' E s:=wpAny_mono h hQ fun _ _ x=>x
section
variable {X:Cx}
def yt(i:Nat):TE:=fun σ H Q=> ∃v,σ[i]?=some (some v)/\Q v H
def tC(v:V):TE:=fun _ H Q=>Q v H
theorem MZ{i:Nat}{x:Str}{pos:Pos}(hN:X.N[i]?=some x)(hv:uG X.env.scope x)(hd:(x==("__debug__":Str))=false:=by decide)(jQ:(x==("__classdict__":Str))=false:=by decide):PE X (.Name x pos) (yt i):=by
 intro pins s σ H Q I h
 obtain⟨v,e,h⟩:=h
 obtain⟨m,hn,hl⟩:=I.loc
 obtain⟨u,r,l⟩:=hl i x v hN e hv
 have fin:EP X pins σ Q u s:=⟨v,H,I,r,h⟩
 rcases l with⟨hk,hm⟩ | ⟨hk,c,hc,Dy⟩
 ·exact wpAny_Name (wpAny_loadName_local I.ok.kind hk hn hm fin) hd
 ·rcases hk with hk | hk
  ·exact wpAny_Name (wpAny_loadName_cell I.ok.kind hk hc Dy fin) hd
  ·exact wpAny_Name (wpAny_loadName_free I.ok.kind hk hc Dy fin jQ) hd
theorem M0{i j pos}:PE X (.Constant (.int i) j pos) (tC<|.int i):=fun _ _ _ H _ I h=>wpAny_Constant_int ⟨.int i,H,I.tok _,⟨_,rfl⟩,h⟩
theorem M1{b j pos}:PE X (.Constant (.bool b) j pos) (tC<|.bl b):=fun _ _ _ H _ I h=>Constant_bool ⟨.bl b,H,I,rfl,h⟩
theorem M3{j pos}:PE X (.Constant .none j pos) (tC .aC):=fun _ _ _ H _ I h=>Constant_none ⟨.aC,H,I,rfl,h⟩
theorem M4{x j pos}:PE X (.Constant (.str x) j pos) (tC<|.str x):=fun _ _ _ H _ I h=>Calls.Constant_str ⟨.str x,H,I.tok _,⟨_,rfl⟩,h⟩
def Gl(X:Cx)(x:Str):Prop:=X.env.kindOf x=some .globalImplicit
theorem yu{E:Value->Shared->Prop}{pins:List (Addr×Obj)}{s:Shared}{σ:St}{H:Hp}{x:Str}{u:Value}{pos:Pos}{Q:Value->Shared->Prop}(I:Inv X pins σ H s)(hg:Gl X x)(hm:X.mg x=some u)(h:Q u s)
  (hd:(x==("__debug__":Str))=false:=by decide):wpAny (model X.prog X.w) X.A (eval (.Name x pos) X.env) Q E s:=
 Calls.Name_function_global I.ok.kind hg (Calls.loadGlobal_global (by rw[I.ok.glob];exact I.mod.glob.keeps I.bk) hm h) hd
theorem kN{E:Value->Shared->Prop}{pins:List (Addr×Obj)}{s:Shared}{σ:St}{H:Hp}{x:Str}{u:Value}{pos:Pos}{Q:Value->Shared->Prop}(I:Inv X pins σ H s)(hg:Gl X x)(hm:X.mg x=none)(hv:bootBuiltins x=some u)(h:Q u s)
  (hn:x≠"__name__":=by decide) (hd:(x==("__debug__":Str))=false:=by decide):wpAny (model X.prog X.w) X.A (eval (.Name x pos) X.env) Q E s:=by
 obtain⟨mb,h1,h2⟩:=I.mod.blt
 exact Calls.Name_function_global I.ok.kind hg (Calls.loadGlobal_builtin (by rw[I.ok.glob];exact I.mod.glob.keeps I.bk) hm (by rw[I.ok.blt];exact h1.keeps I.bk) ((h2 x hn).trans hv) h) hd
theorem Dz{x:Str}{v:V}{u:Value}{pos:Pos}(hg:Gl X x)(hm:X.mg x=some u)(r:RelV v u)(hd:(x==("__debug__":Str))=false:=by decide):PE X (.Name x pos) (tC v):=
 fun _ _ _ H _ I h=>yu I hg hm ⟨v,H,I,r,h⟩ hd
theorem M5{x:Str}{v:V}{u:Value}{pos:Pos}(hg:Gl X x)(hm:X.mg x=none)(hv:bootBuiltins x=some u)(r:RelV v u)(hn:x≠"__name__":=by decide)(hd:(x==("__debug__":Str))=false:=by decide):PE X (.Name x pos) (tC v):=
 fun _ _ _ H _ I h=>kN I hg hm hv ⟨v,H,I,r,h⟩ hn hd
variable {a b:Expr} {ta tb:TE} {pos:Pos}
def tB(t:TE):TT:=fun σ H Q=>t σ H fun x H1=> ∃c,x= .bl c/\Q c H1
variable {tA uL:TT} {rest:List Expr}
def DA(t u:TT):TT:=fun σ H Q=>t σ H fun c H1=>if c=true then u σ H1 Q else Q false H1
def DB(t u:TT):TT:=fun σ H Q=>t σ H fun c H1=>if c=true then Q true H1 else u σ H1 Q
def DC(t:TT):TT:=fun σ H Q=>t σ H fun c H1=>Q (!c) H1
theorem pw_and1(ha:PT X a tA):PW X (.BoolOp .And [a] pos) tA:=by
 intro wh pins s σ H Q I h
 refine isTrue_and<|aH (ha pins s σ H Q I h) fun c s1 e=> ?_
 cases c with
 | true=>exact isTrue_and_nil e
 | false=>exact e
theorem pw_or1(ha:PT X a tA):PW X (.BoolOp .Or [a] pos) tA:=by
 intro wh pins s σ H Q I h
 refine isTrue_or<|aH (ha pins s σ H Q I h) fun c s1 e=> ?_
 cases c with
 | false=>exact isTrue_or_nil e
 | true=>exact e
theorem pw_and(ha:PT X a tA)(hb:PW X (.BoolOp .And (b::rest) pos) uL):PW X (.BoolOp .And (a::b::rest) pos) (DA tA uL):=by
 intro wh pins s σ H Q I h
 refine isTrue_and<|aH (ha pins s σ H _ I h) fun c s1 ⟨H1,I1,q1⟩=> ?_
 cases c with
 | true=>exact hb wh pins s1 σ H1 Q I1 q1
 | false=>exact⟨H1,I1,q1⟩
theorem pw_or(ha:PT X a tA)(hb:PW X (.BoolOp .Or (b::rest) pos) uL):PW X (.BoolOp .Or (a::b::rest) pos) (DB tA uL):=by
 intro wh pins s σ H Q I h
 refine isTrue_or<|aH (ha pins s σ H _ I h) fun c s1 ⟨H1,I1,q1⟩=> ?_
 cases c with
 | true=>exact⟨H1,I1,q1⟩
 | false=>exact hb wh pins s1 σ H1 Q I1 q1
theorem M6(ha:PT X a tA):PT X (.UnaryOp .Not a pos) (DC tA):=by
 intro pins s σ H Q I h
 exact isTrue_not<|ha pins s σ H (fun c H1=>Q (!c) H1) I h
def DD(ta tb:TE):TE:=fun σ H Q=>ta σ H fun x H1=> ∃c,x= .bl c/\if c=true then tb σ H1 Q else Q (.bl false) H1
def M7(ta tb:TE):TE:=fun σ H Q=>ta σ H fun x H1=> ∃c,x= .bl c/\if c=true then Q (.bl true) H1 else tb σ H1 Q
theorem M8{op}{t:TE}(h:PE X a t):PE X (.BoolOp op [a] pos) t:=fun pins s σ H Q I hw=>BoolOp_one (h pins s σ H Q I hw)
theorem M9(ha:PE X a ta)(hb:PE X (.BoolOp .And (b::rest) pos) tb):PE X (.BoolOp .And (a::b::rest) pos) (DD ta tb):=by
 intro pins s σ H Q I h
 refine BoolOp_and<|aH (ha pins s σ H _ I h) fun v s1 ⟨x,H1,I1,r1,q1⟩=> ?_
 obtain⟨c,rfl,q1⟩:=q1
 cases r1
 refine wpAny_truthy_bool ?_
 cases c with
 | true=>exact hb pins s1 σ H1 Q I1 q1
 | false=>exact⟨.bl false,H1,I1,rfl,q1⟩
def DE(t:TT)(ta tb:TE):TE:=fun σ H Q=>t σ H fun c H1=>if c=true then ta σ H1 Q else tb σ H1 Q
theorem M_{c:Expr}(hc:PT X c tA)(ha:PE X a ta)(hb:PE X b tb):PE X (.IfExp c a b pos) (DE tA ta tb):=by
 intro pins s σ H Q I h
 refine wpAny_IfExp<|aH (hc pins s σ H _ I h) fun d s1 ⟨H1,I1,q1⟩=> ?_
 cases d with
 | true=>exact ha pins s1 σ H1 Q I1 q1
 | false=>exact hb pins s1 σ H1 Q I1 q1
end
def aq(K:Frag)(H:Hp)(a:Addr)(xs:List V):Prop:=
 Rd H a (.lst xs)\/
  ∃(o:Obj) (ak:Array Value) (n:Nat),K.lookup a=some o/\o.cls= .type "list"/\o.dict=none/\o.data= .seq ak n/\ak.size<=sizeLine/\Vals xs ak.toList
def aG(K:Frag)(H:Hp)(a:Addr)(xs:List V):Prop:=
 Rd H a (.tup xs)\/
  ∃(o:Obj) (ak:Array Value) (n:Nat),K.lookup a=some o/\o.cls= .type "tuple"/\o.data= .seq ak n/\ak.size<=sizeLine/\Vals xs ak.toList
def Na:Value->Option V
 | .none=>some .aC
 | .bool b=>some (.bl b)
 | .int i _=>some (.int i)
 | .str x _=>some (.str x)
 | .bytes b _=>some (.fQ b)
 | .float b _=>some (.mz b)
 | .ref a=>some (.ref a)
 | .type n=>some (.ty n)
 | _=>none
theorem RelV.abs{x:V}{u:Value}(r:RelV x u):Na u=some x:=by
 cases x with
 | aC=>cases r;rfl
 | bl _=>cases r;rfl
 | int _=>obtain⟨t,rfl⟩:=r;rfl
 | str _=>obtain⟨t,rfl⟩:=r;rfl
 | fQ _=>obtain⟨t,rfl⟩:=r;rfl
 | mz _=>obtain⟨t,rfl⟩:=r;rfl
 | ref _=>cases r;rfl
 | ty _=>cases r;rfl
theorem RelV.inj{x y:V}{u:Value}(r:RelV x u)(q:RelV y u):x=y:=zal (r.abs.symm.trans q.abs)
theorem Vals.inj: ∀{xs ys:List V} {us:List Value},Vals xs us->Vals ys us->xs=ys
 | _,_,_, .nil, .nil=>rfl
 | _,_,_, .cons r t, .cons r' t'=>by rw[r.inj r',Vals.inj t t']
section
variable {X:Cx} {pins:List (Addr×Obj)} {σ:St} {H:Hp} {s:Shared} {a:Addr} {xs ys:List V}
theorem aq.of{K:Frag}(h:H a=some (.lst xs)):aq K H a xs:= .inl (.inl h)
theorem aG.of{K:Frag}(h:H a=some (.tup xs)):aG K H a xs:= .inl (.inl h)
theorem Inv.list(I:Inv X pins σ H s)(h:aq X.K H a xs): ∃ak:List Value,Vals xs ak/\PlainL s.heap a ak.toArray/\xs.length<=sizeLine:=by
 rcases h with h | ⟨o,ak,n,hk,hc,hd,hs,hz,r⟩
 ·obtain⟨z,ak,n,r,e⟩:=h.ok I.aE
  exact⟨ak,r,⟨_,n,e,rfl,rfl,rfl⟩,z⟩
 ·refine⟨ak.toList,r,⟨o,n,I.dn a o hk,hc,hd,by simpa using hs⟩, ?_⟩
  have e:=r.length
  simp only[zbN] at e
  omega
theorem Inv.tuple(I:Inv X pins σ H s)(h:aG X.K H a xs): ∃ak:List Value,Vals xs ak/\IsTup s.heap a ak.toArray/\xs.length<=sizeLine:=by
 rcases h with h | ⟨o,ak,n,hk,hc,hs,hz,r⟩
 ·obtain⟨z,ak,r,p⟩:=h.ok I.aE
  exact⟨ak,r,p,z⟩
 ·refine⟨ak.toList,r,⟨o,I.dn a o hk,hc,n,by simpa using hs⟩, ?_⟩
  have e:=r.length
  simp only[zbN] at e
  omega
theorem Inv.yv(I:Inv X pins σ H s)(h:aq X.K H a xs)(h':aq X.K H a ys):xs=ys:=by
 obtain⟨ak,r,⟨o,n,e,_,_,d⟩,_⟩:=I.list h
 obtain⟨gC,r',⟨o',n',e',_,_,d'⟩,_⟩:=I.list h'
 rw[e] at e';cases e'
 rw[d] at d'
 injection d' with d1 _
 have:ak=gC:=by simpa using congrArg Array.toList d1
 subst this
 exact r.inj r'
end
section
variable {X:Cx} {pins:List (Addr×Obj)} {σ:St} {H:Hp} {s:Shared} {E:Value->Shared->Prop}
end
section
variable {X:Cx} {st:Stmt} {rest:List Stmt} {t u:TS} {e:Expr} {te:TE} {pos:Pos}
def yw:TS:=fun D σ H=>D.nx σ H
def DF(t u:TS):TS:=fun D σ H=>t {D with nx:=u D} σ H
theorem Nb:eV X [] yw:=fun _ _ σ H _ I h=>wpAny_execs_nil ⟨σ,H,I,h⟩
theorem Nc(h1:PS X st t)(h2:eV X rest u):eV X (st::rest) (DF t u):=by
 intro pins s σ H D I h
 refine wpAny_execs_cons<|aH (h1 pins s σ H {D with nx:=u D} I h) fun f s1 q=> ?_
 cases f with
 | next=>
  obtain⟨σ',H',I',q⟩:=q
  exact h2 pins s1 σ' H' D I' q
 | ret v=>exact q
 | brk=>exact q
 | cont=>exact q
def Nd:TS:=fun D σ H=>D.bk σ H
def DG:TS:=fun D σ H=>D.ct σ H
theorem Nf:PS X (.Continue pos) DG:=fun _ _ σ H _ I h=>wpAny_Continue ⟨σ,H,I,h⟩
theorem Inv.quiet{pins:List (Addr×Obj)}{σ:St}{H:Hp}{s:Shared}(I:Inv X pins σ H s):interactive X.env=false:=by simp[interactive,I.ok.kind]
def DH(te:TE):TS:=fun D σ H=>te σ H fun _ H1=>D.nx σ H1
theorem Ng(he:PE X e te)(hs:swapsWith e none pos.line X.env=pure false:=by rfl):PS X (.Expr e pos) (DH te):=by
 intro pins s σ H D I h
 exact wpAny_Expr_any (aH (he pins s σ H _ I h) fun v s1 ⟨x,H1,I1,r1,q1⟩=> ⟨σ,H1,I1,q1⟩) I.quiet hs
def DI(te:TE):TS:=fun D σ H=>te σ H D.rt
theorem Nh(he:PE X e te):PS X (.Return (some e) pos) (DI te):=by
 intro pins s σ H D I h
 exact wpAny_Return_some<|aH (he pins s σ H _ I h) fun v s1 ⟨x,H1,I1,r1,q1⟩=> ⟨x,σ,H1,I1,r1,q1⟩
def Ni:TS:=fun D _ H=>D.rt .aC H
def DJ(c:TT)(t u:TS):TS:=fun D σ H=>c σ H fun b H1=>if b=true then t D σ H1 else u D σ H1
theorem Nj{c:Expr}{a b:List Stmt}{tc:TT}(hc:PT X c tc)(ha:eV X a t)(hb:eV X b u):PS X (.If c a b pos) (DJ tc t u):=by
 intro pins s σ H D I h
 refine wpAny_If<|aH (hc pins s σ H _ I h) fun d s1 ⟨H1,I1,q1⟩=> ?_
 cases d with
 | true=>exact ha pins s1 σ H1 D I1 q1
 | false=>exact hb pins s1 σ H1 D I1 q1
def Nk:TS:=fun _ _ _=>False
end
abbrev TG:=V->St->Hp->(St->Hp->Prop)->Prop
abbrev jR:=List V->St->Hp->(St->Hp->Prop)->Prop
def PG(X:Cx)(target:Expr)(t:TG):Prop:=
 ∀(pins:List (Addr×Obj)) (s:Shared) (σ:St) (H:Hp) (v:V) (u:Value) (Q:St->Hp->Prop),Inv X pins σ H s->RelV v u->t v σ H Q->
  wpAny (model X.prog X.w) X.A (assign target X.env u) (fun _ s'=> ∃σ' H',Inv X pins σ' H' s'/\Q σ' H') X.xe s
def qi(X:Cx)(ts:List Expr)(t:jR):Prop:=
 ∀(pins:List (Addr×Obj)) (s:Shared) (σ:St) (H:Hp) (vs:List V) (us:List Value) (Q:St->Hp->Prop),Inv X pins σ H s->Vals vs us->t vs σ H Q->
  wpAny (model X.prog X.w) X.A (assignInOrder ((assignEach ts X.env).map (·.2)) us) (fun _ s'=> ∃σ' H',Inv X pins σ' H' s'/\Q σ' H') X.xe s
abbrev yx:=V->V->V->Hp->(Hp->Prop)->Prop
def DK(X:Cx)(t:yx):Prop:=
 ∀(pins:List (Addr×Obj)) (s:Shared) (σ:St) (H:Hp) (o i v:V) (ov iv u:Value) (Q:Hp->Prop),Inv X pins σ H s->RelV o ov->RelV i iv->RelV v u->t o i v H Q->
  wpAny (model X.prog X.w) X.A (setItem ov iv u) (fun _ s'=> ∃H',Inv X pins σ H' s'/\Q H') X.xe s
section
variable {X:Cx} {pos:Pos}
def fE(i:Nat):TG:=fun v σ H Q=>Q (σ.set i<|some v) H
theorem uM{i:Nat}{x:Str}(hN:X.N.Nodup)(hi:X.N[i]?=some x)(hx:Loc X.env.scope x)(hf:X.fn x=true\/X.env.scope.names.lookup x=some .local:=by first | exact .inl rfl | exact .inr rfl | assumption):PG X (.Name x pos) (fE i):=by
 intro pins s σ H v u Q I r h
 exact wpAny_assign_Name<|Dx I hN hi hx r (fun s' I'=> ⟨_,H,I',h⟩) hf
def yy:jR:=fun vs σ H Q=>vs=[]/\Q σ H
def uN(t:TG)(u:jR):jR:=fun vs σ H Q=> ∃v r,vs=v::r/\t v σ H fun σ' H'=>u r σ' H' Q
theorem DL:qi X [] yy:=by
 intro pins s σ H vs us Q I r h
 obtain⟨e,h⟩:=h
 subst e
 cases r
 exact assignInOrder_nil ⟨σ,H,I,h⟩
theorem yz{e:Expr}{es:List Expr}{t:TG}{u:jR}(h1:PG X e t)(h2:qi X es u)
  (hs:(assignEach (e::es) X.env).map (·.2)=assign e X.env::(assignEach es X.env).map (·.2):=by rfl):qi X (e::es) (uN t u):=by
 intro pins s σ H vs us Q I r h
 obtain⟨v,vr,e1,h⟩:=h
 subst e1
 cases r with
 | cons r rr=>
  rw[hs]
  refine assignInOrder_cons<|aH (h1 pins s σ H _ _ _ I r h) fun _ s1 ⟨σ1,H1,I1,q1⟩=> ?_
  exact h2 pins s1 σ1 H1 _ _ Q I1 rr q1
def DM(K:Frag)(n:Nat)(t:jR):TG:=fun v σ H Q=> ∃a xs,v= .ref a/\aG K H a xs/\xs.length=n/\t xs σ H Q
theorem DN{es:List Expr}{k:Nat}{t:jR}{n:Nat}(hc:X.calm=true)(h:qi X es t)
  (hn:(assignEach es X.env).length=n:=by rfl) (jS:(assignEach es X.env).findIdx? (·.1)=none:=by rfl):PG X (.Tuple es k pos) (DM X.K n t):=by
 intro pins s σ H v u Q I r hw
 obtain⟨a,xs,e1,hq,hl,hw⟩:=hw
 subst e1
 cases r
 obtain⟨ak,rv,ht,hz⟩:=I.tuple hq
 refine assign_Tuple_tuple (I.ok.hd hc) ht (by simp[hn,<-hl,rv.length]) jS fun h' hx=> ?_
 have I1:Inv X pins σ H {s with heap:=h'}:=I.kept (t':=s.toks) fun b o e=>hx b o (zan<|Heap.lt_size e) e
 exact h pins _ σ H xs _ Q I1 (by simpa using rv) hw
def DO(to ti:TE)(t:yx):TG:=fun v σ H Q=>to σ H fun o H1=>ti σ H1 fun i H2=>t o i v H2 fun H3=>Q σ H3
theorem Nl{o i:Expr}{to ti:TE}{t:yx}(ho:PE X o to)(hi:PE X i ti)(hs:DK X t)
  (ha: ∀v,assign (.Subscript o i pos) X.env v=(do
   let ov <-holding [v] (eval o X.env)
   let iv <-holding [v,ov] (eval i X.env)
   standAt pos
   holding [v,ov,iv] (setItem ov iv v)
   release [v,ov,iv] []):=by intro _;rfl):PG X (.Subscript o i pos) (DO to ti t):=by
 intro pins s σ H v u Q I r h
 rw[ha]
 refine wpAny_bind<|wpAny_holding<|aH (ho pins s σ H _ I h) fun ov s1 ⟨x,H1,I1,r1,q1⟩=> ?_
 refine wpAny_bind<|wpAny_holding<|aH (hi pins s1 σ H1 _ I1 q1) fun iv s2 ⟨y,H2,I2,r2,q2⟩=> ?_
 refine wpAny_bind<|wpAny_standAt<|wpAny_bind<|wpAny_holding<|aH (hs pins s2 σ H2 x y v ov iv u _ I2 r1 r2 r q2) fun _ s3 ⟨H3,I3,q3⟩=> ?_
 exact wpAny_release ⟨σ,H3,I3,q3⟩
def js(te:TE)(g:TG):TS:=fun D σ H=>te σ H fun x H1=>g x σ H1 D.nx
theorem DP{tg e:Expr}{te:TE}{g:TG}(he:PE X e te)(hg:PG X tg g)(hs:swapsWithSole [tg] e pos.line X.env=pure false:=by rfl)(hw:swappedStores [tg] e X.env=pure none:=by rfl)
  (h1:(assignEach [tg] X.env).map (·.2)=[assign tg X.env]:=by rfl):PS X (.Assign [tg] e pos) (js te g):=by
 intro pins s σ H D I h
 refine wpAny_Assign_stores (aH (he pins s σ H _ I h) fun v s1 ⟨x,H1,I1,r1,q1⟩=> ?_) hs hw
 rw[h1]
 exact aH (hg pins s1 σ H1 x v _ I1 r1 q1) fun _ s2 q=>q
theorem Nm{i:Nat}{x:Str}{e:Expr}{te:TE}{pos':Pos}(hN:X.N.Nodup)(hi:X.N[i]?=some x)(hx:Loc X.env.scope x)(he:PE X e te)(hs:swapsWith e (some<|.Name x pos') pos.line X.env=pure false:=by rfl)(hf:X.fn x=true\/X.env.scope.names.lookup x=some .local:=by first | exact .inl rfl | exact .inr rfl | assumption):
  PS X (.Assign [.Name x pos'] e pos) (js te<|fE i):=by
 intro pins s σ H D I h
 refine wpAny_Assign_Name (aH (he pins s σ H _ I h) fun v s1 ⟨y,H1,I1,r1,q1⟩=> ?_) hs
 exact Dx I1 hN hi hx r1 (fun s2 I2=> ⟨_,H1,I2,q1⟩) hf
end
section
variable {X:Cx} {pos:Pos}
def DQ(c:TT)(tb:TS):TS:=fun D σ H=> ∃W:Nat->St->Hp->Prop,(∃m,W m σ H)/\ ∀m σ H,W m σ H->
 c σ H fun b H1=>if b=true then ∃N:St->Hp->Prop,(∀σ' H',N σ' H'-> ∃m',m'<m/\W m' σ' H')/\tb {D with nx:=N,ct:=N,bk:=D.nx} σ H1 else D.nx σ H1
theorem Nn{c:Expr}{body:List Stmt}{tc:TT}{tb:TS}(hp:PassesOwn (model X.prog X.w) X.A X.env X.xe)(hc:PT X c tc)(hb:eV X body tb):PS X (.While c body [] pos) (DQ tc tb):=by
 intro pins s σ H D I h
 obtain⟨W,⟨m0,w0⟩,turn⟩:=h
 refine wpAny_While<|codeAny_whileLoop (fun n s'=> ∃σ' H',Inv X pins σ' H' s'/\W n σ' H') ?_ m0 ⟨σ,H,I,w0⟩
 rintro n s1 ⟨σ1,H1,I1,w1⟩
 refine wpAny_passesOwn hp<|aH (hc pins s1 σ1 H1 _ I1<|turn n σ1 H1 w1) fun b s2 ⟨H2,I2,q2⟩=> ?_
 cases b with
 | true=>
  obtain⟨N,hN,q2⟩:=q2
  rw[if_pos rfl]
  refine wpAny_passesOwn hp<|aH (hb pins s2 σ1 H2 _ I2 q2) fun f s3 q3=> ?_
  cases f with
  | next=>
   obtain⟨σ3,H3,I3,n3⟩:=q3
   obtain⟨m',hm,w3⟩:=hN σ3 H3 n3
   exact⟨m',hm,σ3,H3,I3,w3⟩
  | cont=>
   obtain⟨σ3,H3,I3,n3⟩:=q3
   obtain⟨m',hm,w3⟩:=hN σ3 H3 n3
   exact⟨m',hm,σ3,H3,I3,w3⟩
  | brk=>exact q3
  | ret v=>exact q3
 | false=>
  rw[if_neg zax]
  exact wpAny_execs_nil ⟨σ1,H2,I2,q2⟩
end
structure It where
 go:Nat->Hp->Prop
 gf:Nat->Hp->V->Hp->Prop
 stop:Nat->Hp->Prop
def iO(X:Cx)(pins:List (Addr×Obj))(H:Hp)(b:Addr):Prop:=
 H b=none/\b≠X.env.locals/\b∉X.fs/\(b∈X.ex\/X.s₀.heap.objs.size<=b)/\(∀x c,X.env.cells.lookup x=some c->c≠b)/\ ∀p∈X.pn++pins,p.1≠b
theorem Inv.yA{X:Cx}{pins:List (Addr×Obj)}{σ:St}{H H':Hp}{s:Shared}{b:Addr}(I:Inv X pins σ H s)(hb:s.heap.objs.size<=b)(hn:H' b=none):iO X pins H' b:=by
 refine⟨hn,zaE<|zar I.lt hb,I.Dq hb, .inr<|zaw I.sz hb,fun x c e z=> ?_,fun p hp z=> ?_⟩
 ·obtain⟨v,q⟩:=I.cell x c e
  exact absurd (zar q.lt (by rw[z];exact hb))<|zaA _
 ·exact absurd (zar (Heap.lt_size (I.pin p hp).1) (by rw[z];exact hb)) (zaA _)
structure Turn (P:Program) (w:World) (K:Frag) (tg:Expr) (J:It) (fp:List Addr) (it:Addr) (tn:Nat->Heap->Prop):Prop where
 mem:it∈fp
 obj: ∀i h,tn i h-> ∀b∈fp,∃o,h.get? b=some o/\ ∀v,o.data≠ .cell v
 keep: ∀i h h',tn i h->(∀b∈fp,∀o,h.get? b=some o->h'.get? b=some o)->tn i h'
 item: ∀(X:Cx),X.prog=P->X.w=w->X.K=K->X.calm=true-> ∀(i:Nat) (pins:List (Addr×Obj)) (s:Shared) (σ:St) (H:Hp) (E:Value->Shared->Prop),Inv X pins σ H s->(∀b∈fp,iO X pins H b)->tn i s.heap->J.go i H->
  wpAny (model P w) X.A (pyNext (.ref it)) (fun r s1=> ∃u,r=some u/\
   wpAny (model P w) X.A (letOwnedTupleGo tg (.ref it) u) (fun _ s2=> ∃x H',Inv X pins σ H' s2/\RelV x u/\J.gf i H x H'/\tn (i+1) s2.heap/\ ∀b∈fp,H' b=none) E s1) E s
 done: ∀(X:Cx),X.prog=P->X.w=w->X.K=K->X.calm=true-> ∀(i:Nat) (pins:List (Addr×Obj)) (s:Shared) (σ:St) (H:Hp) (E:Value->Shared->Prop),Inv X pins σ H s->(∀b∈fp,iO X pins H b)->tn i s.heap->J.stop i H->
  wpAny (model P w) X.A (pyNext<|.ref it) (fun r s1=>r=none/\Inv X pins σ H s1) E s
 self: ∀(A:Around) (i:Nat) (s:Shared) (Q:Value->Shared->Prop) (E:Value->Shared->Prop),tn i s.heap->Q (.ref it) s->wpAny (model P w) A (pyIter<|.ref it) Q E s
abbrev TI:=St->Hp->(It->Hp->Prop)->Prop
def DR(X:Cx)(pins:List (Addr×Obj))(σ:St)(tg:Expr)(R:It->Hp->Prop)(nZ:Value)(s2:Shared):Prop:=
 ∃(it:Addr) (fp:List Addr) (tn:Nat->Heap->Prop) (J:It) (H':Hp),nZ= .ref it/\Inv X pins σ H' s2/\Turn X.prog X.w X.K tg J fp it tn/\tn 0 s2.heap/\(∀b∈fp,iO X pins H' b)/\R J H'
def PI(X:Cx)(tg iter:Expr)(wi:TI):Prop:=
 ∀(pins:List (Addr×Obj)) (s:Shared) (σ:St) (H:Hp) (R:It->Hp->Prop),Inv X pins σ H s->wi σ H R->
  wpAny (model X.prog X.w) X.A (eval iter X.env) (fun v s1=>wpAny (model X.prog X.w) X.A (pyIter v) (DR X pins σ tg R) X.xe s1) X.xe s
theorem DS{M:Model}{A:Around}{E:Value->Shared->Prop}{s:Shared}{tg:Expr}{it:Addr}{u:Value}{o:Obj}{n:String}{vs:Array Value}{Q:Unit->Shared->Prop}(ho:s.heap.get? it=some o)(hc:o.cls= .type n)(hd:o.data= .fields vs)
    (hn:["enumerate","zip","dict_itemiterator","dict_reverseitemiterator","odict_iterator","itertools.zip_longest","itertools.pairwise"].contains n=false) (hQ:Q () s):wpAny M A (letOwnedTupleGo tg (.ref it) u) Q E s:=by
  unfold letOwnedTupleGo
  cases tg<;>first
    | exact wpAny_pure hQ
    | (cases u<;>first
        | exact wpAny_pure hQ
        | (refine wpAny_bind (wpAny_load ho ?_)
           rw[hc,hd]
           show wpAny M A (if (["enumerate","zip","dict_itemiterator","dict_reverseitemiterator","odict_iterator","itertools.zip_longest","itertools.pairwise"].contains n && vs[0]?==some (rawInt _))=true then _ else _) Q E s
           rw[if_neg (by intro h;rw[hn,Bool.false_and] at h;cases h)]
           exact wpAny_pure hQ))
def eP(K:Frag)(a:Addr):It:=
 ⟨fun i H=> ∃xs x,aq K H a xs/\xs[i]?=some x,fun i H x H'=>H'=H/\ ∀xs,aq K H a xs->xs[i]?=some x,fun i H=> ∃xs,aq K H a xs/\xs.length<=i⟩
def Np(K:Frag)(a:Addr):It:=
 ⟨fun i H=> ∃xs x,aG K H a xs/\xs[i]?=some x,fun i H x H'=>H'=H/\ ∀xs,aG K H a xs->xs[i]?=some x,fun i H=> ∃xs,aG K H a xs/\xs.length<=i⟩
def jT(lo:Int)(n:Nat):It:=⟨fun i _=>i<n,fun i H x H'=>H'=H/\x= .int (lo+i),fun i _=>n<=i⟩
theorem Nq{P:Program}{w:World}{K:Frag}{tg:Expr}(a it:Addr):Turn P w K tg (eP K a) [it] it (fun i h=>h.IsListIter it a i) where
 mem:=by simp
 obj:=fun i h st b hb=>by
  have e:b=it:=by simpa using hb
  subst e
  obtain⟨o,e,c,d⟩:=st
  exact⟨o,e,fun v z=>by rw[d] at z;cases z⟩
 keep:=fun i h h' st k=>st.at fun o e=>k it (by simp) o e
 item:=by
  intro X hP hw hK hc i pins s σ H E I hf st hg
  subst hP hw hK
  obtain⟨xs,x,hq,hx⟩:=hg
  obtain⟨ak,rv,p,hz⟩:=I.list hq
  obtain⟨u,hu,ru⟩:=rv.get hx
  obtain⟨f0,f1,f2,f3,f4,f5⟩:=hf it (by simp)
  refine wpAny_pyNext_list_item st p.isList (x:=u) (by simpa using hu) fun h' mB sb=> ?_
  have I1:Inv X pins σ H {s with heap:=h'}:=I.turned (t':=s.toks) (fun b o hb e=> (sb.2 b hb).trans e) f0 f1 f3 f4 f5
  obtain⟨o,e,c,d⟩:=id mB
  exact⟨u,rfl,DS (s:={s with heap:=h'}) e c d (by decide) ⟨x,H,I1,ru,⟨rfl,fun ys hy=>by rw[I.yv hy hq];exact hx⟩,mB,fun b hb=> (hf b hb).1⟩⟩
 done:=by
  intro X hP hw hK hc i pins s σ H E I hf st hg
  subst hP hw hK
  obtain⟨xs,hq,hx⟩:=hg
  obtain⟨ak,rv,p,hz⟩:=I.list hq
  obtain⟨f0,f1,f2,f3,f4,f5⟩:=hf it (by simp)
  have hl:=rv.length
  exact wpAny_pyNext_list_end (I.ok.hd hc) st p.isList (by simp;omega) fun h' eb=> ⟨rfl,I.turned (t':=s.toks) (fun b o hb e=>eb b o hb e) f0 f1 f3 f4 f5⟩
 self:=fun _ _ _ _ _ st h=>wpAny_pyIter_listiter st h
theorem Nr{P:Program}{w:World}{K:Frag}{tg:Expr}(it:Addr)(lo:Int)(n:Nat):Turn P w K tg (jT lo n) [it] it (fun i h=>IsRangeIter h it (lo+ (i:Nat)*1) ((n:Int) - (i:Nat)) 1) where
 mem:=by simp
 obj:=fun i h st b hb=>by
  have e:b=it:=by simpa using hb
  subst e
  exact⟨_,st,fun v z=>by
   have z':Data.fields _=Data.cell v:=z
   cases z'⟩
 keep:=fun i h h' st k=>k it (by simp) _ st
 item:=by
  intro X hP hw hK hc i pins s σ H E I hf st hg
  subst hP hw hK
  obtain⟨f0,f1,f2,f3,f4,f5⟩:=hf it (by simp)
  have W:=Walks.range (prog:=X.prog) (w:=X.w) (I.ok.hd hc) it lo 1 n
  refine W.item i s _ _ hg st fun v h' tk hv mB kk=> ?_
  obtain⟨t,rfl⟩:=hv
  have I1:Inv X pins σ H {s with heap:=h',toks:=tk}:=I.turned (fun b o hb e=>kk b o (by simpa using hb) e) f0 f1 f3 f4 f5
  refine⟨_,rfl,DS (s:={s with heap:=h',toks:=tk}) (n:="range_iterator") mB rfl rfl (by decide) ⟨.int<|lo+i,H,I1,⟨t, ?_⟩,⟨rfl,rfl⟩,mB,fun b hb=> (hf b hb).1⟩⟩
  rw[Int.mul_one]
 done:=by
  intro X hP hw hK hc i pins s σ H E I hf st hg
  subst hP hw hK
  obtain⟨f0,f1,f2,f3,f4,f5⟩:=hf it (by simp)
  exact wpAny_pyNext_range_end (I.ok.hd hc) st (by have:n<=i:=hg;omega) fun h' eb=> ⟨rfl,I.turned (t':=s.toks) (fun b o hb e=>eb b o hb e) f0 f1 f3 f4 f5⟩
 self:=fun _ _ _ _ _ st h=>wpAny_pyIter_rangeiter st h
section
variable {X:Cx} {tg:Expr}
def yB(K:Frag)(tl:TE):TI:=fun σ H R=>tl σ H fun x H1=> ∃a,x= .ref a/\(∃xs,aq K H1 a xs)/\R (eP K a) H1
def Nt(K:Frag)(tl:TE):TI:=fun σ H R=>tl σ H fun x H1=> ∃a,x= .ref a/\(∃xs,aG K H1 a xs)/\R (Np K a) H1
theorem Nu{l:Expr}{tl:TE}(hl:PE X l tl):PI X tg l (yB X.K tl):=by
 intro pins s σ H R I h
 refine aH (hl pins s σ H _ I h) fun v s1 ⟨x,H1,I1,r1,q1⟩=> ?_
 obtain⟨a,e,⟨xs,hq⟩,q⟩:=q1
 subst e
 cases r1
 obtain⟨ak,rv,p,hz⟩:=I1.list hq
 refine wpAny_pyIter_list p.isList ?_
 refine⟨s1.heap.objs.size,[s1.heap.objs.size],_,_,H1,rfl,I1.kept (t':=s1.toks) fun b o e=>Heap.get?_push_of_some _ e,Nq a _,⟨_,Heap.get?_push_size _ rfl,rfl,rfl⟩,fun b hb=> ?_,q⟩
 have e:b=s1.heap.objs.size:=by simpa using hb
 subst e
 exact I1.yA (zqR _)<|I1.aE.fresh<|zqR _
theorem Nv{pins:List (Addr×Obj)}{σ:St}{H:Hp}{s:Shared}{R:It->Hp->Prop}{E:Value->Shared->Prop}{lo hi:Int}{t u v:Tok}{tk:Nat}(I:Inv X pins σ H s)(h1: -(2 ^ 62)<=lo)(h2:lo<2 ^ 62)(h3: -(2 ^ 62)<=hi)(h4:hi<2 ^ 62)
  (q:R (jT lo (hi - lo).toNat) H):wpAny (model X.prog X.w) X.A (pyIter<|.ref s.heap.objs.size) (DR X pins σ tg R) E {s with heap:=s.heap.push {cls:= .type "range",data:= .fields #[.int lo t, .int hi u, .int 1 v]},toks:=tk}:=by
 refine wpAny_pyIter_range (IsRange.new ..) (small_one h1 h2 h3 h4) ?_
 have I1:Inv X pins σ H {s with heap:=s.heap.push {cls:= .type "range",data:= .fields #[.int lo t, .int hi u, .int 1 v]},toks:=tk}:=I.kept fun b o e=>Heap.get?_push_of_some _ e
 refine⟨(s.heap.push {cls:= .type "range",data:= .fields #[.int lo t, .int hi u, .int 1 v]}).objs.size,[(s.heap.push {cls:= .type "range",data:= .fields #[.int lo t, .int hi u, .int 1 v]}).objs.size],_,_,H,rfl,
  I1.kept (t':=tk) fun b o e=>Heap.get?_push_of_some _ e,Nr _ lo (hi - lo).toNat, ?_,fun b hb=> ?_,q⟩
 ·have e1:lo+ ((0:Nat):Int)*1=lo:=by simp
  have e2:(((hi - lo).toNat:Nat):Int) - ((0:Nat):Int)=Builtin.Range.rangeSize lo hi 1:=by rw[rangeSize_one];split<;>omega
  show IsRangeIter _ _ (lo+ ((0:Nat):Int)*1) ((((hi - lo).toNat:Nat):Int) - ((0:Nat):Int)) 1
  rw[e1,e2]
  exact Heap.get?_push_size _ rfl
 ·have e:b=(s.heap.push {cls:= .type "range",data:= .fields #[.int lo t, .int hi u, .int 1 v]}).objs.size:=by simpa using hb
  subst e
  exact I1.yA (zqR _)<|I1.aE.fresh<|zqR _
def DT(ta:TA):TI:=fun σ H R=>ta σ H fun vs H1=> ∃j:Int,vs=[.int j]/\ -(2 ^ 62)<=j/\j<2 ^ 62/\R (jT 0 j.toNat) H1
def Nw(ta:TA):TI:=fun σ H R=>ta σ H fun vs H1=> ∃i j:Int,vs=[.int i, .int j]/\(-(2 ^ 62)<=i/\i<2 ^ 62/\ -(2 ^ 62)<=j/\j<2 ^ 62)/\R (jT i (j - i).toNat) H1
theorem Nx{a:Expr}{ta:TA}{p pos:Pos}(hg:Gl X "range")(hm:X.mg "range"=none)(ha:PA X [a] ta)(hs:starEach [a] X.env=[(false,eval a X.env)]:=by rfl):PI X tg (.Call (.Name "range" p) [a] [] pos) (DT ta):=by
 intro pins s σ H R I h
 refine Call_<|kN I hg hm boot_range<|PyProof.Rows.callWith_type1 (aH (ha pos pins s σ H _ I h) fun us s1 ⟨vs,H1,I1,r1,q1⟩=> ?_) hs rfl
 obtain⟨j,e,q1,q2,q⟩:=q1
 subst e
 cases r1 with
 | cons r rr=>
  cases rr
  obtain⟨t,rfl⟩:=r
  exact call_range_1<|Nv I1 (by omega) (by omega) q1 q2 (by simpa using q)
def uO(wi:TI)(g:TG)(tb:TS):TS:=fun D σ H=>wi σ H fun J H1=> ∃W:Nat->Nat->St->Hp->Prop,(∃m,W 0 m σ H1)/\ ∀i m σ H,W i m σ H->
 (J.stop i H/\D.nx σ H)\/(J.go i H/\ ∃N:St->Hp->Prop,(∀σ' H',N σ' H'-> ∃m',m'<m/\W (i+1) m' σ' H')/\ ∀x H',J.gf i H x H'->g x σ H' fun σ2 H2=>tb {D with nx:=N,ct:=N,bk:=D.nx} σ2 H2)
def qj(fp:List Addr)(h:Heap):List (Addr×Obj):=fp.filterMap fun b=> (h.get? b).map fun o=> (b,o)
theorem uP{fp:List Addr}{h:Heap}{b:Addr}{o:Obj}(hb:b∈fp)(e:h.get? b=some o):(b,o)∈qj fp h:=zbx.mpr ⟨b,hb,by rw[e];rfl⟩
theorem Ny{fp:List Addr}{h:Heap}{p:Addr×Obj}(hp:p∈qj fp h):p.1∈fp/\h.get? p.1=some p.2:=by
 obtain⟨b,hb,e⟩:=zbx.mp hp
 cases q:h.get? b with
 | none=>rw[q] at e;cases e
 | some o=>
  rw[q] at e
  have e':(b,o)=p:=zal e
  subst e'
  exact⟨hb,q⟩
theorem Inv.pinned{pins:List (Addr×Obj)}{σ:St}{H:Hp}{s:Shared}{fp:List Addr}(I:Inv X pins σ H s)(hf: ∀b∈fp,iO X pins H b)(ho: ∀b∈fp,∃o,s.heap.get? b=some o/\ ∀v,o.data≠ .cell v):Inv X (pins++qj fp s.heap) σ H s:=
 I.qg fun p hp=> (zad.mp hp).elim (fun z=>I.pin p<|zaq _ z) fun z=>by
  obtain⟨hb,e⟩:=Ny z
  obtain⟨f0,f1,f2,_⟩:=hf p.1 hb
  obtain⟨o,e',d⟩:=ho p.1 hb
  rw[e] at e';cases e'
  exact⟨e,f0,f1,f2,d⟩
theorem Inv.yC{pins pl:List (Addr×Obj)}{σ:St}{H:Hp}{s:Shared}(I:Inv X (pins++pl) σ H s):Inv X pins σ H s:=I.qg fun p hp=>I.pin p (zaq _<|zav _ hp)
theorem DU{iter:Expr}{body:List Stmt}{wi:TI}{g:TG}{tb:TS}{pos:Pos}(hp:PassesOwn (model X.prog X.w) X.A X.env X.xe)(hc:X.calm=true)(hi:PI X tg iter wi)(hg:PG X tg g)(hb:eV X body tb)
  (hs: ∀x,foldedSetIterable iter X.env x=pure x:=by intro _;rfl):PS X (.For tg iter body [] pos) (uO wi g tb):=by
 intro pins s σ H D I h
 refine wpAny_For (aH (hi pins s σ H _ I h) fun v s1 h1=>aH h1 fun nZ s2 h2=> ?_) hs
 obtain⟨it,fp,tn,J,H2,e,I2,T,rO,f2,W,⟨m0,w0⟩,turn⟩:=h2
 subst e
 have n_: ∀{H':Hp},(∀b∈fp,H' b=none)-> ∀b∈fp,iO X pins H' b:=fun hn b hb=> ⟨hn b hb,(f2 b hb).2⟩
 refine codeAny_forLoop_any (fun n s'=> ∃i σ' H',Inv X pins σ' H' s'/\tn i s'.heap/\(∀b∈fp,H' b=none)/\W i n σ' H') ?_ m0 ⟨0,σ,H2,I2,rO,fun b hb=> (f2 b hb).1,w0⟩
 rintro n s3 ⟨i,σ3,H3,I3,DV,DW,w3⟩
 rcases turn i n σ3 H3 w3 with⟨stop,qn⟩ | ⟨go,N,hN,step⟩
 ·refine wpAny_passesOwn hp (aH (T.done X rfl rfl rfl hc i pins s3 σ3 H3 X.xe I3 (n_ DW) DV stop) fun r s4 ⟨hr,I4⟩=> ?_)
  subst hr
  exact wpAny_execs_nil ⟨σ3,H3,I4,qn⟩
 ·refine wpAny_passesOwn hp (aH (T.item X rfl rfl rfl hc i pins s3 σ3 H3 X.xe I3 (n_ DW) DV go) fun r s4 ⟨u,hr,h4⟩=> ?_)
  subst hr
  refine wpAny_passesOwn hp<|aH h4 fun _ s5 ⟨x,H5,I5,r5,y5,og,yD⟩=> ?_
  have yE:=I5.pinned (n_ yD) (T.obj _ _ og)
  refine wpAny_passesOwn hp<|aH (hg _ s5 σ3 H5 x u _ yE r5<|step x H5 y5) fun _ s6 ⟨σ6,H6,I6,q6⟩=> ?_
  refine wpAny_passesOwn hp<|aH (hb _ s6 σ6 H6 _ I6 q6) fun f s7 q7=> ?_
  have again: ∀{σ7:St} {H7:Hp},Inv X (pins++qj fp s5.heap) σ7 H7 s7->N σ7 H7-> ∃m,m<n/\ ∃i σ' H',Inv X pins σ' H' s7/\tn i s7.heap/\(∀b∈fp,H' b=none)/\W i m σ' H':=fun {σ7 H7} I7 n7=>by
   obtain⟨m',hm,w7⟩:=hN σ7 H7 n7
   refine⟨m',hm,i+1,σ7,H7,I7.yC,T.keep _ _ _ og fun b hb o e=> (I7.pin (b,o)<|zaq _<|zaq _<|uP hb e).1,fun b hb=> ?_,w7⟩
   obtain⟨o,e,d⟩:=T.obj _ _ og b hb
   exact(I7.pin (b,o)<|zaq _<|zaq _<|uP hb e).2.1
  cases f with
  | next=>obtain⟨σ7,H7,I7,n7⟩:=q7;exact again I7 n7
  | cont=>obtain⟨σ7,H7,I7,n7⟩:=q7;exact again I7 n7
  | brk=>obtain⟨σ7,H7,I7,q7⟩:=q7;exact⟨σ7,H7,I7.yC,q7⟩
  | ret v=>obtain⟨x7,σ7,H7,I7,r7,q7⟩:=q7;exact⟨x7,σ7,H7,I7.yC,r7,q7⟩
end
theorem mD{K:Frag}{a:Addr}{xs:List V}{g:TG}{tb:TS}{D:Ends}{σ:St}{H:Hp}(Pv:Nat->St->Hp->Prop)(h0:Pv 0 σ H)(hl: ∀i σ H,i<=xs.length->Pv i σ H->aq K H a xs)
  (hs: ∀i x σ H,xs[i]?=some x->Pv i σ H->g x σ H fun σ2 H2=>tb {D with nx:=Pv (i+1),ct:=Pv (i+1),bk:=D.nx} σ2 H2) (hd: ∀σ H,Pv xs.length σ H->D.nx σ H):
  ∃W:Nat->Nat->St->Hp->Prop,(∃m,W 0 m σ H)/\ ∀i m σ H,W i m σ H->
   ((eP K a).stop i H/\D.nx σ H)\/((eP K a).go i H/\ ∃N:St->Hp->Prop,(∀σ' H',N σ' H'-> ∃m',m'<m/\W (i+1) m' σ' H')/\ ∀x H',(eP K a).gf i H x H'->g x σ H' fun σ2 H2=>tb {D with nx:=N,ct:=N,bk:=D.nx} σ2 H2):=by
 refine⟨fun i m σ H=>m=xs.length - i/\i<=xs.length/\Pv i σ H,⟨xs.length,by simp,zqZ _,h0⟩, ?_⟩
 rintro i m σ H ⟨rfl,hi,p⟩
 have q:=hl i σ H hi p
 by_cases aK:i<xs.length
 ·refine .inr ⟨⟨xs,xs[i],q,by simp[aK]⟩,Pv<|i+1,fun σ' H' p'=> ⟨xs.length - (i+1),by omega,rfl,aK,p'⟩,fun x H' y=> ?_⟩
  obtain⟨e,y⟩:=y
  subst e
  exact hs i x σ _ (y xs q) p
 ·have e:i=xs.length:=by omega
  subst e
  exact .inl ⟨⟨xs,q,zqR _⟩,hd σ H p⟩
theorem yF{lo:Int}{n:Nat}{g:TG}{tb:TS}{D:Ends}{σ:St}{H:Hp}(Pv:Nat->St->Hp->Prop)(h0:Pv 0 σ H)
  (hs: ∀i σ H,i<n->Pv i σ H->g (.int<|lo+i) σ H fun σ2 H2=>tb {D with nx:=Pv (i+1),ct:=Pv (i+1),bk:=D.nx} σ2 H2) (hd: ∀σ H,Pv n σ H->D.nx σ H):
  ∃W:Nat->Nat->St->Hp->Prop,(∃m,W 0 m σ H)/\ ∀i m σ H,W i m σ H->
   ((jT lo n).stop i H/\D.nx σ H)\/((jT lo n).go i H/\ ∃N:St->Hp->Prop,(∀σ' H',N σ' H'-> ∃m',m'<m/\W (i+1) m' σ' H')/\ ∀x H',(jT lo n).gf i H x H'->g x σ H' fun σ2 H2=>tb {D with nx:=N,ct:=N,bk:=D.nx} σ2 H2):=by
 refine⟨fun i m σ H=>m=n - i/\i<=n/\Pv i σ H,⟨n,by simp,zqZ _,h0⟩, ?_⟩
 rintro i m σ H ⟨rfl,hi,p⟩
 by_cases aK:i<n
 ·refine .inr ⟨aK,Pv<|i+1,fun σ' H' p'=> ⟨n - (i+1),by omega,rfl,aK,p'⟩,fun x H' y=> ?_⟩
  obtain⟨e,y⟩:=y
  subst e y
  exact hs i σ _ aK p
 ·have e:i=n:=by omega
  subst e
  exact .inl ⟨zqR _,hd σ H p⟩
abbrev R2:=V->V->Hp->VK->Prop
def bo(X:Cx)(f:Value->Value->Sem Value)(r:R2):Prop:=
 ∀(pins:List (Addr×Obj)) (s:Shared) (σ:St) (H:Hp) (x y:V) (v u:Value) (Q:VK),Inv X pins σ H s->RelV x v->RelV y u->r x y H Q->
  wpAny (model X.prog X.w) X.A (f v u) (EP X pins σ Q) X.xe s
def uQ(X:Cx)(f:Value->Sem Value)(r:V->Hp->VK->Prop):Prop:=
 ∀(pins:List (Addr×Obj)) (s:Shared) (σ:St) (H:Hp) (x:V) (v:Value) (Q:VK),Inv X pins σ H s->RelV x v->r x H Q->
  wpAny (model X.prog X.w) X.A (f v) (EP X pins σ Q) X.xe s
def cy(X:Cx)(f:Value)(r:List V->Hp->VK->Prop):Prop:=
 ∀(pins:List (Addr×Obj)) (s:Shared) (σ:St) (H:Hp) (xs:List V) (us:List Value) (Q:VK),Inv X pins σ H s->Vals xs us->r xs H Q->
  wpAny (model X.prog X.w) X.A (call f us) (EP X pins σ Q) X.xe s
def Nz(X:Cx)(r:V->Hp->(Bool->Hp->Prop)->Prop):Prop:=
 ∀(pins:List (Addr×Obj)) (s:Shared) (σ:St) (H:Hp) (x:V) (v:Value) (Q:Bool->Hp->Prop),Inv X pins σ H s->RelV x v->r x H Q->
  wpAny (model X.prog X.w) X.A (truthy v) (TP X pins σ Q) X.xe s
def eW(r:R2)(ta tb:TE):TE:=fun σ H Q=>ta σ H fun x H1=>tb σ H1 fun y H2=>r x y H2 Q
def DX(r:V->Hp->VK->Prop)(ta:TE):TE:=fun σ H Q=>ta σ H fun x H1=>r x H1 Q
def rI(C:Int->Int->Prop)(g:Int->Int->V):R2:=fun x y H Q=> ∃i j,x= .int i/\y= .int j/\C i j/\Q (g i j) H
def kO(g:Int->Int->V):R2:=fun x y H Q=> ∃i j,x= .int i/\y= .int j/\Q (g i j) H
def rU(g:Int->V):V->Hp->VK->Prop:=fun x H Q=> ∃i,x= .int i/\Q (g i) H
section
variable {X:Cx} {a b c:Expr} {ta tb tc:TE} {pos:Pos}
theorem yG(ha:PE X a ta)(hb:PE X b tb){pins:List (Addr×Obj)}{s:Shared}{σ:St}{H:Hp}{R:V->V->Hp->Prop}(I:Inv X pins σ H s)
  (h:ta σ H fun x H1=>tb σ H1 fun y H2=>R x y H2) {Q:Value->Shared->Prop} {f:Value->Value->Sem Value}
  (hf: ∀v u s2 x y H2,Inv X pins σ H2 s2->RelV x v->RelV y u->R x y H2->wpAny (model X.prog X.w) X.A (f v u) Q X.xe s2):
  wpAny (model X.prog X.w) X.A (eval a X.env) (fun v s₁=>wpAny (model X.prog X.w) X.A (eval b X.env) (fun u s₂=>wpAny (model X.prog X.w) X.A (f v u) Q X.xe s₂) X.xe s₁) X.xe s:=by
 refine aH (ha pins s σ H _ I h) fun v s1 ⟨x,H1,I1,r1,q1⟩=> ?_
 refine aH (hb pins s1 σ H1 _ I1 q1) fun u s2 ⟨y,H2,I2,r2,q2⟩=> ?_
 exact hf v u s2 x y H2 I2 r1 r2 q2
theorem NA{op:Operator}{r:R2}(ho:bo X (binaryOp op) r)(ha:PE X a ta)(hb:PE X b tb):PE X (.BinOp a op b pos) (eW r ta tb):=by
 intro pins s σ H Q I h
 exact wpAny_BinOp<|yG ha hb I h fun v u s2 x y H2 I2 rx ry q=>ho pins s2 σ H2 x y v u Q I2 rx ry q
theorem NB{op:UnaryOp}{r:V->Hp->VK->Prop}(ho:uQ X (unaryOp op) r)(ha:PE X a ta):PE X (.UnaryOp op a pos) (DX r ta):=by
 intro pins s σ H Q I h
 exact UnaryOp_<|aH (ha pins s σ H _ I h) fun v s1 ⟨x,H1,I1,r1,q1⟩=>ho pins s1 σ H1 x v Q I1 r1 q1
theorem uR{f:Value->Value->Sem Value}{C:Int->Int->Prop}{g:Int->Int->Int}
  (rule: ∀(i j:Int) (t u:Tok) (s:Shared) (Q:Value->Shared->Prop) (E:Value->Shared->Prop),C i j->Q (.int (g i j) s.toks) {s with toks:=s.toks+1}->wpAny (model X.prog X.w) X.A (f (.int i t)<|.int j u) Q E s):
  bo X f (rI C fun i j=> .int (g i j)):=by
 intro pins s σ H x y v u Q I rx ry h
 obtain⟨i,j,rfl,rfl,hc,q⟩:=h
 obtain⟨t,rfl⟩:=rx
 obtain⟨t',rfl⟩:=ry
 exact rule i j t t' s _ _ hc ⟨.int<|g i j,H,I.tok _,⟨_,rfl⟩,q⟩
theorem DY{f:Value->Value->Sem Value}{g:Int->Int->Int}
  (rule: ∀(i j:Int) (t u:Tok) (s:Shared) (Q:Value->Shared->Prop) (E:Value->Shared->Prop),Q (.int (g i j) s.toks) {s with toks:=s.toks+1}->wpAny (model X.prog X.w) X.A (f (.int i t)<|.int j u) Q E s):
  bo X f (kO fun i j=> .int (g i j)):=by
 intro pins s σ H x y v u Q I rx ry h
 obtain⟨i,j,rfl,rfl,q⟩:=h
 obtain⟨t,rfl⟩:=rx
 obtain⟨t',rfl⟩:=ry
 exact rule i j t t' s _ _ ⟨.int<|g i j,H,I.tok _,⟨_,rfl⟩,q⟩
theorem uS{f:Value->Value->Sem Value}{g:Int->Int->Bool}
  (rule: ∀(i j:Int) (t u:Tok) (s:Shared) (Q:Value->Shared->Prop) (E:Value->Shared->Prop),Q (.bool<|g i j) s->wpAny (model X.prog X.w) X.A (f (.int i t)<|.int j u) Q E s):
  bo X f (kO fun i j=> .bl (g i j)):=by
 intro pins s σ H x y v u Q I rx ry h
 obtain⟨i,j,rfl,rfl,q⟩:=h
 obtain⟨t,rfl⟩:=rx
 obtain⟨t',rfl⟩:=ry
 exact rule i j t t' s _ _ ⟨.bl<|g i j,H,I,rfl,q⟩
def DZ(i j:Int):Prop:=0<j/\j<1073741824
def D0(i j:Int):Prop:=0<=j/\j<=1000000/\i.natAbs<2 ^ 64
def uT(i j:Int):Prop:=(-(2 ^ 64) <i/\i<2 ^ 64)\/(-(2 ^ 64) <j/\j<2 ^ 64)
theorem uT.ok{i j:Int}(h:uT i j):IntMulOk i j:=by
 rcases h with⟨h1,h2⟩ | ⟨h1,h2⟩
 ·exact .of_left (intBits_le_64 h1 h2)
 ·exact .of_right (intBits_le_64 h1 h2)
theorem NC:bo X (binaryOp .Add) (kO fun i j=> .int (i+j)):=DY fun _ _ _ _ _ _ _ q=>add_int q
theorem ND:bo X (binaryOp .Sub) (kO fun i j=> .int (i - j)):=DY fun _ _ _ _ _ _ _ q=>sub_int q
theorem NF:bo X (binaryOp .Mult) (rI uT fun i j=> .int (i*j)):=uR fun _ _ _ _ _ _ _ hc q=>mul_int q hc.ok
theorem NG:bo X (binaryOp .FloorDiv) (rI DZ fun i j=> .int (i / j)):=uR fun i j _ _ _ _ _ hc q=>by
 have h1:(0:Int) <j:=hc.1
 have h2:j<1073741824:=hc.2
 exact floordiv_int (by omega) (by rw[Int.fdiv_eq_ediv_of_nonneg i (by omega)];exact q)<|.inl<|PyProof.noPylong_small (by omega)
theorem NH:bo X (binaryOp .Mod) (rI (fun _ j=>0<j) fun i j=> .int (i % j)):=uR fun i j _ _ _ _ _ hc q=>by
 have h1:(0:Int) <j:=hc
 exact mod_int' (by omega) (by rw[Int.fmod_eq_emod_of_nonneg i (by omega)];exact q)
theorem NI:bo X (binaryOp .Pow) (rI D0 fun i j=> .int (i ^ j.toNat)):=uR fun _ _ _ _ _ _ _ hc q=>pow_int_small hc.1 hc.2.1 hc.2.2 q
theorem NJ{f:Value->Sem Value}{g:Int->Int}
  (rule: ∀(i:Int) (t:Tok) (s:Shared) (Q:Value->Shared->Prop) (E:Value->Shared->Prop),Q (.int (g i) s.toks) {s with toks:=s.toks+1}->wpAny (model X.prog X.w) X.A (f<|.int i t) Q E s):
  uQ X f (rU fun i=> .int (g i)):=by
 intro pins s σ H x v Q I rx h
 obtain⟨i,rfl,q⟩:=h
 obtain⟨t,rfl⟩:=rx
 exact rule i t s _ _ ⟨.int<|g i,H,I.tok _,⟨_,rfl⟩,q⟩
theorem NK:uQ X (unaryOp .USub) (rU fun i=> .int (-i)):=NJ fun _ _ _ _ _ q=>neg_int q
end
def oh:V->V->Bool
 | .aC, .aC=>true | .aC, .int _=>true | .int _, .aC=>true | .aC, .bl _=>true | .bl _, .aC=>true | .aC, .str _=>true | .str _, .aC=>true
 | .int _, .int _=>true | .bl _, .bl _=>true | .str _, .str _=>true | .fQ _, .fQ _=>true
 | .int _, .str _=>true | .str _, .int _=>true | .bl _, .str _=>true | .str _, .bl _=>true
 | _,_=>false
def NL:R2:=fun x y H Q=>oh x y=true/\Q (.bl<|decide<|x=y) H
def NM:R2:=fun x y H Q=>oh x y=true/\Q (.bl<|!decide (x=y)) H
theorem D1{i j:Int}:decide (V.int i=V.int j)=(i==j):=by
 rw[zbO]
 simp
theorem D2{i j:Bool}:decide (V.bl i=V.bl j)=(i==j):=by
 rw[zbO]
 simp
theorem gZ{i j:Str}:decide (V.str i=V.str j)=(i==j):=by
 rw[zbO]
 simp
theorem D3{i j:Array UInt8}:decide (V.fQ i=V.fQ j)=(i.toList==j.toList):=by
 rw[zbO]
 cases i
 cases j
 simp
section
variable {X:Cx} {a b c:Expr} {ta tb tc:TE} {pos:Pos}
theorem bY{pins:List (Addr×Obj)}{σ:St}{H:Hp}{s:Shared}{Q:VK}{k k':Bool}(I:Inv X pins σ H s)(q:Q (.bl k) H)(e:k=k'):EP X pins σ Q (.bool k') s:=by
 subst e
 exact⟨.bl k,H,I,rfl,q⟩
theorem NN:bo X (compareOp .Eq) NL:=by
 intro pins s σ H x y v u Q I rx ry h
 obtain⟨hs,q⟩:=h
 cases x with
 | aC=>
  cases rx
  cases y with
  | aC=>cases ry;exact PySem.EqNone.eq_none_none (bY I q (by simp))
  | bl j=>cases ry;exact PySem.EqNone.eq_none_bool (bY I q (by simp))
  | int j=>obtain⟨t',rfl⟩:=ry;exact PySem.EqNone.eq_none_int (bY I q (by simp))
  | str j=>obtain⟨t',rfl⟩:=ry;exact PySem.EqNone.eq_none_str (bY I q (by simp))
  | _=>exact absurd (show false=true from hs) zax
 | bl i=>
  cases rx
  cases y with
  | aC=>cases ry;exact PySem.EqNone.eq_bool_none (bY I q (by simp))
  | bl j=>cases ry;exact eq_bool (bY I q D2)
  | str j=>obtain⟨t',rfl⟩:=ry;exact PySem.EqMixed.eq_bool_str (bY I q (by simp))
  | _=>exact absurd (show false=true from hs) zax
 | int i=>
  obtain⟨t,rfl⟩:=rx
  cases y with
  | aC=>cases ry;exact PySem.EqNone.eq_int_none (bY I q (by simp))
  | int j=>obtain⟨t',rfl⟩:=ry;exact eq_int (bY I q D1)
  | str j=>obtain⟨t',rfl⟩:=ry;exact PySem.EqMixed.eq_int_str (bY I q (by simp))
  | _=>exact absurd (show false=true from hs) zax
 | str i=>
  obtain⟨t,rfl⟩:=rx
  cases y with
  | aC=>cases ry;exact PySem.EqNone.eq_str_none (bY I q (by simp))
  | bl j=>cases ry;exact PySem.EqMixed.eq_str_bool (bY I q (by simp))
  | int j=>obtain⟨t',rfl⟩:=ry;exact PySem.EqMixed.eq_str_int (bY I q (by simp))
  | str j=>obtain⟨t',rfl⟩:=ry;exact eq_str (bY I q gZ)
  | _=>exact absurd (show false=true from hs) zax
 | fQ i=>
  obtain⟨t,rfl⟩:=rx
  cases y with
  | fQ j=>obtain⟨t',rfl⟩:=ry;exact PySem.W.eq_bytes (bY I q D3)
  | _=>exact absurd (show false=true from hs) zax
 | _=>cases y<;>exact absurd (show false=true from hs) zax
theorem NO:bo X (compareOp .NotEq) NM:=by
 intro pins s σ H x y v u Q I rx ry h
 obtain⟨hs,q⟩:=h
 cases x with
 | aC=>
  cases rx
  cases y with
  | aC=>cases ry;exact PySem.EqNone.ne_none_none (bY I q (by simp))
  | bl j=>cases ry;exact PySem.EqNone.ne_none_bool (bY I q (by simp))
  | int j=>obtain⟨t',rfl⟩:=ry;exact PySem.EqNone.ne_none_int (bY I q (by simp))
  | str j=>obtain⟨t',rfl⟩:=ry;exact PySem.EqNone.ne_none_str (bY I q (by simp))
  | _=>exact absurd (show false=true from hs) zax
 | bl i=>
  cases rx
  cases y with
  | aC=>cases ry;exact PySem.EqNone.ne_bool_none (bY I q (by simp))
  | bl j=>cases ry;exact ne_bool (bY I q<|congrArg not D2)
  | str j=>obtain⟨t',rfl⟩:=ry;exact PySem.EqMixed.ne_bool_str (bY I q (by simp))
  | _=>exact absurd (show false=true from hs) zax
 | int i=>
  obtain⟨t,rfl⟩:=rx
  cases y with
  | aC=>cases ry;exact PySem.EqNone.ne_int_none (bY I q (by simp))
  | int j=>obtain⟨t',rfl⟩:=ry;exact ne_int (bY I q<|congrArg not D1)
  | str j=>obtain⟨t',rfl⟩:=ry;exact PySem.EqMixed.ne_int_str (bY I q (by simp))
  | _=>exact absurd (show false=true from hs) zax
 | str i=>
  obtain⟨t,rfl⟩:=rx
  cases y with
  | aC=>cases ry;exact PySem.EqNone.ne_str_none (bY I q (by simp))
  | bl j=>cases ry;exact PySem.EqMixed.ne_str_bool (bY I q (by simp))
  | int j=>obtain⟨t',rfl⟩:=ry;exact PySem.EqMixed.ne_str_int (bY I q (by simp))
  | str j=>obtain⟨t',rfl⟩:=ry;exact ne_str (bY I q<|congrArg not gZ)
  | _=>exact absurd (show false=true from hs) zax
 | fQ i=>
  obtain⟨t,rfl⟩:=rx
  cases y with
  | fQ j=>obtain⟨t',rfl⟩:=ry;exact PySem.W.ne_bytes (bY I q<|congrArg not D3)
  | _=>exact absurd (show false=true from hs) zax
 | _=>cases y<;>exact absurd (show false=true from hs) zax
theorem NP:bo X (compareOp .Lt) (kO fun i j=> .bl (decide<|i<j)):=uS fun _ _ _ _ _ _ _ q=>lt_int q
theorem NQ:bo X (compareOp .LtE) (kO fun i j=> .bl (decide<|i<=j)):=uS fun _ _ _ _ _ _ _ q=>le_int q
theorem NR:bo X (compareOp .Gt) (kO fun i j=> .bl (decide<|j<i)):=uS fun _ _ _ _ _ _ _ q=>gt_int q
theorem NT:bo X (compareOp .GtE) (kO fun i j=> .bl (decide<|j<=i)):=uS fun _ _ _ _ _ _ _ q=>ge_int q
theorem NU:bo X (compareOp .In) (fun x y H Q=> ∃i j,x= .str i/\y= .str j/\Q (.bl<|!(Builtin.Str.occurrences j i 0 j.length 1).isEmpty) H):=by
 intro pins s σ H x y v u Q I rx ry h
 obtain⟨i,j,rfl,rfl,q⟩:=h
 obtain⟨t,rfl⟩:=rx
 obtain⟨t',rfl⟩:=ry
 exact in_str<|bY I q rfl
theorem NV:bo X (compareOp .Is) (fun x y H Q=>y= .aC/\Q (.bl<|decide<|x= .aC) H):=by
 intro pins s σ H x y v u Q I rx ry h
 obtain⟨rfl,q⟩:=h
 cases ry
 refine is_none_gen<|bY I q ?_
 cases x<;>first
  | (cases rx;rfl)
  | (obtain⟨t,rfl⟩:=rx;rfl)
theorem NW:bo X (compareOp .IsNot) (fun x y H Q=>y= .aC/\Q (.bl<|!decide (x= .aC)) H):=by
 intro pins s σ H x y v u Q I rx ry h
 obtain⟨rfl,q⟩:=h
 cases ry
 refine isnot_none_gen<|bY I q ?_
 cases x<;>first
  | (cases rx;rfl)
  | (obtain⟨t,rfl⟩:=rx;rfl)
theorem NX:bo X (compareOp .NotIn) (fun x y H Q=> ∃i j,x= .str i/\y= .str j/\Q (.bl<|!(!(Builtin.Str.occurrences j i 0 j.length 1).isEmpty)) H):=by
 intro pins s σ H x y v u Q I rx ry h
 obtain⟨i,j,rfl,rfl,q⟩:=h
 obtain⟨t,rfl⟩:=rx
 obtain⟨t',rfl⟩:=ry
 exact notIn_str<|bY I q rfl
theorem bo.or{f:Value->Value->Sem Value}{r r':R2}(h:bo X f r)(h':bo X f r'):bo X f (fun x y H Q=>r x y H Q\/r' x y H Q):=by
 intro pins s σ H x y v u Q I rx ry q
 rcases q with q | q
 ·exact h pins s σ H x y v u Q I rx ry q
 ·exact h' pins s σ H x y v u Q I rx ry q
theorem NY{op:CmpOp}{r:R2}(ho:bo X (compareOp op) r)(ha:PE X a ta)(hb:PE X b tb)(hm:behindInMarks op b=false):PE X (.Compare a [op] [b] pos) (eW r ta tb):=by
 intro pins s σ H Q I h
 exact wpAny_Compare1 (yG ha hb I h fun v u s2 x y H2 I2 rx ry q=>ho pins s2 σ H2 x y v u Q I2 rx ry q) hm
def qk(t:TE):TT:=fun σ H Q=>t σ H fun x H'=> ∃k,x= .bl k/\Q k H'
theorem NZ{op:CmpOp}{r:R2}(ho:bo X (compareOp op) r)(ha:PE X a ta)(hb:PE X b tb)(hm:behindInMarks op b=false):PT X (.Compare a [op] [b] pos) (qk<|eW r ta tb):=by
 intro pins s σ H Q I h
 refine wpAny_isTrue_Compare1 (aH (ha pins s σ H _ I h) fun v s1 ⟨x,H1,I1,r1,q1⟩=>aH (hb pins s1 σ H1 _ I1 q1) fun u s2 ⟨y,H2,I2,r2,q2⟩=>
  aH (ho pins s2 σ H2 x y v u _ I2 r1 r2 q2) fun c s3 ⟨z,H3,I3,r3,k,e,q3⟩=> ?_) hm
 subst e
 cases r3
 exact wpAny_truthy_bool ⟨H3,I3,q3⟩
def uU(r r':R2)(ta tb tc:TE):TE:=fun σ H Q=>ta σ H fun x H1=>tb σ H1 fun y H2=>r x y H2 fun z H3=> ∃k,z= .bl k/\
 (if k=true then tc σ H3 fun w' H4=>r' y w' H4 Q else Q (.bl false) H3)
theorem N1{op fR:CmpOp}{r r':R2}(ho:bo X (compareOp op) r)(gB:bo X (compareOp fR) r')(ha:PE X a ta)(hb:PE X b tb)(hc:PE X c tc)
  (hm:lastMarks [op,fR] [b,c]=false:=by with_unfolding_all rfl):PE X (.Compare a [op,fR] [b,c] pos) (uU r r' ta tb tc):=by
 intro pins s σ H Q I h
 refine Compare_chain (aH (ha pins s σ H _ I h) fun v s1 ⟨x,H1,I1,r1,q1⟩=>chain_link (aH (hb pins s1 σ H1 _ I1 q1) fun u s2 ⟨y,H2,I2,r2,q2⟩=>
  aH (ho pins s2 σ H2 x y v u _ I2 r1 r2 q2) fun d s3 ⟨z,H3,I3,r3,k,e,q3⟩=> ?_)) hm
 subst e
 cases r3
 refine wpAny_truthy_bool ?_
 cases k with
 | false=>exact ite_ff ⟨.bl false,H3,I3,rfl,q3⟩
 | true=>exact ite_tt (chain_last<|aH (hc pins s3 σ H3 _ I3 q3) fun w' s4 ⟨z',H4,I4,r4,q4⟩=>gB pins s4 σ H4 y z' u w' Q I4 r2 r4 q4)
def D4(K:Frag)(x:V)(H:Hp)(k:Bool):Prop:=
 match x with
 | .aC=>k=false
 | .bl b=>k=b
 | .int i=>k=(i !=0)
 | .str y=>y.length<=sizeLine/\k=((y.length:Int) !=0)
 | .fQ y=>y.size<=sizeLine/\k=((y.size:Int) !=0)
 | .ref p=> (∃xs,aq K H p xs/\k= !xs.isEmpty)\/(∃xs,aG K H p xs/\k= !xs.isEmpty)\/ ∃kvs,H p=some (.dK kvs)/\k= !kvs.isEmpty
 | _=>False
theorem N2{κ:Type}{kvs:List (κ×V)}{vs:List (κ×Value)}(r:KV kvs vs):(!vs.isEmpty)= !kvs.isEmpty:=by
 cases r<;>rfl
theorem D5{xs:List V}{ak:List Value}(r:Vals xs ak):(!ak.toArray.isEmpty)= !xs.isEmpty:=by
 cases r<;>simp
theorem mE:(sizeLine:Nat) <2 ^ 63:=by rw[sizeLine_eq];decide
theorem D6:Nz X (fun x H Q=> ∃k,D4 X.K x H k/\Q k H):=by
 intro pins s σ H x v Q I rx h
 obtain⟨k,e,q⟩:=h
 have hl:=mE
 have hs:sizeLine=16777216:=sizeLine_eq
 cases x with
 | aC=>
  cases rx
  have e':k=false:=e
  subst e'
  exact truthy_none ⟨H,I,q⟩
 | bl b=>
  cases rx
  have e':k=b:=e
  subst e'
  exact wpAny_truthy_bool ⟨H,I,q⟩
 | int i=>
  obtain⟨t,rfl⟩:=rx
  have e':k=(i !=0):=e
  subst e'
  exact PySem.P.truthy_int ⟨H,I,q⟩
 | str y=>
  obtain⟨t,rfl⟩:=rx
  obtain⟨hy,e'⟩:y.length<=sizeLine/\k=((y.length:Int) !=0):=e
  subst e'
  exact PySem.P.truthy_str (by omega) ⟨H,I.tok _,q⟩
 | fQ y=>
  obtain⟨t,rfl⟩:=rx
  obtain⟨hy,e'⟩:y.size<=sizeLine/\k=((y.size:Int) !=0):=e
  subst e'
  exact PySem.W.truthy_bytes (by omega) ⟨H,I.tok _,q⟩
 | ref p=>
  cases rx
  have e':(∃xs,aq X.K H p xs/\k= !xs.isEmpty)\/(∃xs,aG X.K H p xs/\k= !xs.isEmpty)\/ ∃kvs,H p=some (.dK kvs)/\k= !kvs.isEmpty:=e
  rcases e' with⟨xs,hx,e'⟩ | ⟨xs,hx,e'⟩ | ⟨kvs,hx,e'⟩
  ·subst e'
   obtain⟨ak,r,pl,hz⟩:=I.list hx
   have hlen:=r.length
   exact wpAny_truthy_list pl.isList (by simp only[zag];omega) ⟨H,I.tok _,by rw[D5 r];exact q⟩
  ·subst e'
   obtain⟨ak,r,pl,hz⟩:=I.tuple hx
   have hlen:=r.length
   exact truthy_tuple pl (by simp only[zag];omega) ⟨H,I.tok _,by rw[D5 r];exact q⟩
  ·subst e'
   obtain⟨hz,hS,vs,r,m⟩:kvs.length<=sizeLine/\(p==sysModules)=false/\ ∃vs,KV kvs vs/\s.heap.DictOf (dF X.prog X.w) p vs:=I.aE p _ hx
   have hlen:kvs.length=vs.length:=Paired.length r
   exact wpAny_truthy_dict hS m (by omega) ⟨H,I.tok _,by rw[N2 r];exact q⟩
 | _=>exact(show False from e).elim
theorem N3:bo X (binaryOp .Add) (fun x y H Q=> ∃i j,x= .str i/\y= .str j/\i.length+j.length<=sizeLine/\Q (.str<|i++j) H):=by
 intro pins s σ H x y v u Q I rx ry h
 obtain⟨i,j,rfl,rfl,hz,q⟩:=h
 obtain⟨t,rfl⟩:=rx
 obtain⟨t',rfl⟩:=ry
 exact add_str (fun t' tk=> ⟨.str<|i++j,H,I.tok _,⟨_,rfl⟩,q⟩) hz
theorem vals1{x:V}{us:List Value}(r:Vals [x] us): ∃u,us=[u]/\RelV x u:=by
 cases r with
 | cons r1 r2=>cases r2;exact⟨_,rfl,r1⟩
theorem vals2{x y:V}{us:List Value}(r:Vals [x,y] us): ∃u w',us=[u,w']/\RelV x u/\RelV y w':=by
 cases r with
 | cons r1 r2=>
  cases r2 with
  | cons r3 r4=>cases r4;exact⟨_,_,rfl,r1,r3⟩
theorem N4:cy X (.builtin "abs") (fun xs H Q=> ∃i,xs=[.int i]/\Q (.int (if i<0 then -i else i)) H):=by
 intro pins s σ H xs us Q I r h
 obtain⟨i,rfl,q⟩:=h
 obtain⟨u,rfl,t,rfl⟩:=vals1 r
 exact call_abs_int fun u tk=> ⟨.int (if i<0 then -i else i),H,I.tok _,⟨_,rfl⟩,q⟩
theorem N5(hc:X.calm=true):cy X (.builtin "max") (fun xs H Q=> ∃i j,xs=[.int i, .int j]/\Q (.int (if j>i then j else i)) H):=by
 intro pins s σ H xs us Q I r h
 obtain⟨i,j,rfl,q⟩:=h
 obtain⟨u,w',rfl,⟨t,rfl⟩,⟨t',rfl⟩⟩:=vals2 r
 refine max_two_ints (I.ok.hd hc) fun h' tk k=> ⟨_,H,I.kept k, ?_,q⟩
 by_cases hj:j>i
 ·rw[if_pos hj,if_pos hj];exact⟨_,rfl⟩
 ·rw[if_neg hj,if_neg hj];exact⟨_,rfl⟩
theorem N6(hc:X.calm=true):cy X (.builtin "min") (fun xs H Q=> ∃i j,xs=[.int i, .int j]/\Q (.int (if j<i then j else i)) H):=by
 intro pins s σ H xs us Q I r h
 obtain⟨i,j,rfl,q⟩:=h
 obtain⟨u,w',rfl,⟨t,rfl⟩,⟨t',rfl⟩⟩:=vals2 r
 refine min_two_ints (I.ok.hd hc) fun h' tk k=> ⟨_,H,I.kept k, ?_,q⟩
 by_cases hj:j<i
 ·rw[if_pos hj,if_pos hj];exact⟨_,rfl⟩
 ·rw[if_neg hj,if_neg hj];exact⟨_,rfl⟩
theorem N7:cy X (.type "int") (fun xs H Q=> (∃i,xs=[.int i]/\Q (.int i) H)\/ ∃k,xs=[.bl k]/\Q (.int (if k then 1 else 0)) H):=by
 intro pins s σ H xs us Q I r h
 rcases h with⟨i,rfl,q⟩ | ⟨k,rfl,q⟩
 ·obtain⟨u,rfl,t,rfl⟩:=vals1 r
  exact call_int_int ⟨.int i,H,I,⟨_,rfl⟩,q⟩
 ·obtain⟨u,rfl,r1⟩:=vals1 r
  cases r1
  exact call_int_bool ⟨.int (if k then 1 else 0),H,I.tok _,⟨_,rfl⟩,q⟩
def D7(K:Frag)(x:V)(H:Hp)(n:Nat):Prop:=
 match x with
 | .str y=>y.length<=sizeLine/\n=y.length
 | .fQ y=>y.size<=sizeLine/\n=y.size
 | .ref p=> (∃xs,aq K H p xs/\n=xs.length)\/ ∃xs,aG K H p xs/\n=xs.length
 | _=>False
theorem N8:cy X (.builtin "len") (fun xs H Q=> ∃x n,xs=[x]/\D7 X.K x H n/\Q (.int n) H):=by
 intro pins s σ H xs us Q I r h
 obtain⟨x,n,rfl,e,q⟩:=h
 obtain⟨u,rfl,rx⟩:=vals1 r
 have hl:=mE
 have hs:sizeLine=16777216:=sizeLine_eq
 cases x with
 | str y=>
  obtain⟨t,rfl⟩:=rx
  obtain⟨hy,e'⟩:y.length<=sizeLine/\n=y.length:=e
  subst e'
  exact len_str (by omega) ⟨.int _,H,I.tok _,⟨_,rfl⟩,q⟩
 | fQ y=>
  obtain⟨t,rfl⟩:=rx
  obtain⟨hy,e'⟩:y.size<=sizeLine/\n=y.size:=e
  subst e'
  exact PySem.W.len_bytes (by omega) ⟨.int _,H,I.tok _,⟨_,rfl⟩,q⟩
 | ref p=>
  cases rx
  have e':(∃xs,aq X.K H p xs/\n=xs.length)\/ ∃xs,aG X.K H p xs/\n=xs.length:=e
  rcases e' with⟨xs,hx,e'⟩ | ⟨xs,hx,e'⟩
  ·subst e'
   obtain⟨ak,r',pl,hz⟩:=I.list hx
   have hlen:=r'.length
   exact Calls.call_len_list pl.isList (by simp only[zag];omega) ⟨.int xs.length,H,I.tok _,⟨_,by simp only[zag];rw[hlen]⟩,q⟩
  ·subst e'
   obtain⟨ak,r',pl,hz⟩:=I.tuple hx
   have hlen:=r'.length
   exact len_tuple pl (by simp only[zag];omega) ⟨.int xs.length,H,I.tok _,⟨_,by simp only[zag];rw[hlen]⟩,q⟩
 | _=>exact(show False from e).elim
end
structure oi (h:Heap) (x dx C:Addr) (mA:Str->Option Value):Prop where
 obj:h.get? x=some (instObj C dx)
 ns:h.Ns1 dx mA
 ne:dx≠x
theorem N9{h:Heap}{dx:Addr}{mA:Str->Option Value}(n:h.Ns1 dx mA): ∃od,h.get? dx=some od/\ ∀name,lookIn name od=some (mA name):=by
 obtain⟨o,es,ep,ho,hd,hk,_,hm⟩:=n
 refine⟨o,ho,fun name=> ?_⟩
 have e:=hm name
 unfold nsFind findBy at e
 rw[<-Array.find?_toList] at e
 unfold lookIn
 rw[hd]
 dsimp only
 split
 ·rename_i y q
  rw[q] at e
  exact congrArg some e
 ·rename_i q
  rw[q] at e
  have a:es.toList.any (·.refKey)=false:=by
   rw[List.any_eq_false]
   intro y hy
   obtain⟨z,t,N_⟩:=hk y (Array.mem_toList_iff.mp hy)
   simp[DictEntry.refKey,N_]
  have a': ¬es.toList.any (·.refKey)=true:=by rw[a];exact zax
  rw[if_neg a']
  exact congrArg some e
theorem oi.look{h:Heap}{x dx C:Addr}{mA:Str->Option Value}(I:oi h x dx C mA): ∃od,PySem.W.InstAt h x (instObj C dx) C (some od)/\ ∀name,lookIn name od=some (mA name):=
 let ⟨od,ho,hl⟩:=N9 I.ns
 ⟨od,⟨I.obj,rfl,rfl,ho⟩,hl⟩
section
variable {prog:Program} {w:World} {A:Around} {E:Value->Shared->Prop} {s:Shared} {K:Frag} {x dx C f:Addr} {mA:Str->Option Value} {name:Str} {v:Value}
theorem get_map{expr:Bool}{Q:Value->Shared->Prop}(X:K.In s.heap)(I:oi s.heap x dx C mA)(hg:plainGet K C name=true)(hh:hasDictIn K C=true)
  (ha:PySem.W.findIn K (.ref C) name=some none) (hv:mA name=some v) (Oa:handedIn v=true) (h:Q v {s with toks:=s.toks+1}):
  wpAny (model prog w) A (getAttr (.ref x) name expr) Q E s:=by
 obtain⟨od,J,hl⟩:=I.look
 exact PySem.W.get_value X J (plainGet_of hg).1 (PySem.W.findObj_own hh ha rfl (by rw[hl,hv])) Oa h
theorem Ob{pl:Sem Bool}{Q:Value×List Value->Shared->Prop}(X:K.In s.heap)(I:oi s.heap x dx C mA)(hg:plainGet K C name=true)
  (hf:PySem.W.findIn K (.ref C) name=some (some<|.ref f)) (ht:PySem.W.isFn K (.ref f)=true) (hv:mA name=none) (h:Q (.ref f,[.ref x]) s):
  wpAny (model prog w) A (getMethod (.ref x) name pl) Q E s:=by
 obtain⟨od,J,hl⟩:=I.look
 exact PySem.W.method_fn X J (plainGet_of hg).1 (plainGet_of hg).2 hf (beq_iff_eq.mp ht) (by show(lookIn name od).map (·.isSome)=some false;rw[hl,hv];rfl) h
theorem Oc{ns:List Str}{Q:Unit->Shared->Prop}(X:K.In s.heap)(I:oi s.heap x dx C mA)
  (hs:PySem.W.findIn K (.ref C) "__setattr__"=some (some<|.builtin "object.__setattr__")) (hp:plainOver K C=true) (ht:takerIn K C name=some none) (hh:hasDictIn K C=true)
  (hw:PySem.Within mA ns) (hsz:ns.length<=sizeLine)
  (h: ∀h',oi h' x dx C (fun y=>if y=name then some v else mA y)->Heap.SameBut dx s.heap h'->Q () {s with heap:=h',toks:=s.toks+2}):
  wpAny (model prog w) A (setAttr (.ref x) name v) Q E s:=by
 obtain⟨od,J,hl⟩:=I.look
 refine PySem.W.set_plain X J hs<|PySem.W.osa_open (s:={s with toks:=s.toks+1}) (r:=none) X J hp ht fun b=> ?_
 obtain⟨cd,hc,eE⟩:=PySem.W.any_some hh
 have hx:s.heap.get? x=some ⟨.ref C,some dx, .plain,#[]⟩:=I.obj
 refine wpAny_bind<|wpAny_pure<|wpAny_bind<|wpAny_bind<|wpAny_loadPart hx<|wpAny_bind<|PySem.W.Looks.here (s:={s with toks:=s.toks+1}) (PySem.W.looks_clsIn X hc) ?_
 rw[eE]
 refine wpAny_pure (a:=some dx)<|wpAny_bind<|wpAny_pure<|wpAny_bind ?_
 refine wpAny_nsSet1 (s:={s with toks:=s.toks+1}) I.ns fun h' iP uV=> ?_
 obtain⟨oD,esD,epD,Od,Oe,Of⟩:=iP.count (PySem.Within.cons name v hw)
 refine wpAny_bind<|wpAny_lookBehind Od (by rw[Oe];exact pastItsLine_dict (zaw Of (by rw[zao];omega))) ?_
 exact wpAny_pure<|h _ ⟨(uV.2 _<|Ne.symm I.ne).trans I.obj,iP,I.ne⟩ uV
theorem Og{R:Result->Shared->Prop}{vs:List Value}{kw:List (Str×Value)}(X:K.In s.heap)(hm:makesIn K C=true)
  (hi:PySem.W.findIn K (.ref C) "__init__"=some (some<|.ref f)) (hf:PySem.W.typeIn K (.ref f)=some (.type "function"))
  (h:codeAny (model prog w) (A.under (.builtin "type.__call__" ⟨.ref C::vs,kw⟩)) (.call (.ref f) ⟨.ref (s.heap.objs.size+1)::vs,kw⟩) (PySem.W.InitBack (s.heap.objs.size+1) R)
   {s with heap:=(s.heap.push emptyDict).push (instObj C s.heap.objs.size)}):
  codeAny (model prog w) A (.call (.ref C) ⟨vs,kw⟩) R s:=by
 obtain⟨hh,g,d,t,os⟩:=s
 exact PySem.W.make_core (PySem.W.makes_of X hm) (PySem.W.looks_findIn X hi) (fun self=>PySem.W.bind_fn X self hf) (.inl rfl) h
end
def bM(f:Str)(v:V):List (Str×V)->List (Str×V)
 | []=> [(f,v)]
 | (g,x)::r=>if g=f then (g,v)::r else (g,x)::bM f v r
theorem D8(f g:Str)(v:V): ∀fs:List (Str×V),(bM f v fs).lookup g=if g=f then some v else fs.lookup g
 | []=>by
  show List.lookup g [(f,v)]=_
  by_cases h:g=f
  ·have hb:(g==f)=true:=beq_iff_eq.mpr h
   simp only[List.lookup,hb,if_pos h]
  ·have hb:(g==f)=false:=beq_eq_false_iff_ne.mpr h
   simp only[List.lookup,hb,if_neg h]
 | (k,x)::r=>by
  have ih:=D8 f g v r
  rw[show bM f v ((k,x)::r)=(if k=f then (k,v)::r else (k,x)::bM f v r) from rfl]
  by_cases hk:k=f
  ·rw[if_pos hk]
   by_cases h:g=k
   ·have hb:(g==k)=true:=beq_iff_eq.mpr h
    simp only[List.lookup,hb,if_pos<|h.trans hk]
   ·have hb:(g==k)=false:=beq_eq_false_iff_ne.mpr h
    simp only[List.lookup,hb,if_neg (fun e:g=f=>h (e.trans hk.symm))]
  ·rw[if_neg hk]
   by_cases h:g=k
   ·have hb:(g==k)=true:=beq_iff_eq.mpr h
    simp only[List.lookup,hb,if_neg (fun e:g=f=>hk (h.symm.trans e))]
   ·have hb:(g==k)=false:=beq_eq_false_iff_ne.mpr h
    simp only[List.lookup,hb]
    exact ih
theorem yH(f:Str)(v:V): ∀fs:List (Str×V),f∈ (bM f v fs).map (·.1)/\ ∀g,g∈fs.map (·.1)->g∈ (bM f v fs).map (·.1)
 | []=> ⟨by simp[bM],fun g h=>by simp at h⟩
 | (k,x)::r=>by
  obtain⟨i1,i2⟩:=yH f v r
  rw[show bM f v ((k,x)::r)=(if k=f then (k,v)::r else (k,x)::bM f v r) from rfl]
  by_cases hk:k=f
  ·rw[if_pos hk]
   subst hk
   exact⟨by simp,fun g h=>by simpa using h⟩
  ·rw[if_neg hk]
   refine⟨?_,fun g h=> ?_⟩
   ·rw[zay]
    exact zaj _ i1
   ·rw[zay] at h⊢
    rcases zaa.mp h with e | e
    ·exact zaa.mpr (.inl e)
    ·exact zaj _ (i2 g e)
theorem D9(f:Str)(v:V): ∀fs:List (Str×V),(bM f v fs).length<=fs.length+1
 | []=>by simp[bM]
 | (k,x)::r=>by
  have ih:=D9 f v r
  rw[show bM f v ((k,x)::r)=(if k=f then (k,v)::r else (k,x)::bM f v r) from rfl]
  by_cases hk:k=f
  ·rw[if_pos hk,zao,zao];omega
  ·rw[if_neg hk,zao,zao];omega
theorem gc.some_of{v:V}{o:Option Value}(r:gc (some v) o): ∃u,o=some u/\RelV v u:=by
 cases o with
 | none=>exact(show False from r).elim
 | some u=>exact⟨u,rfl,r⟩
theorem gc.none_of{o:Option Value}(r:gc none o):o=none:=by
 cases o with
 | none=>rfl
 | some u=>exact(show False from r).elim
theorem Oh{v:V}{u:Value}(r:RelV v u):handedIn u=true:=by
 cases v with
 | aC=>cases (show u=Value.none from r);rfl
 | bl b=>cases (show u=Value.bool b from r);rfl
 | int i=>obtain⟨t,e⟩:=(show ∃t,u=Value.int i t from r);cases e;rfl
 | str x=>obtain⟨t,e⟩:=(show ∃t,u=Value.str x t from r);cases e;rfl
 | fQ b=>obtain⟨t,e⟩:=(show ∃t,u=Value.bytes b t from r);cases e;rfl
 | mz b=>obtain⟨t,e⟩:=(show ∃t,u=Value.float b t from r);cases e;rfl
 | ref a=>cases (show u=Value.ref a from r);rfl
 | ty n=>cases (show u=Value.type n from r);rfl
section
variable {P:Program} {w:World} {H H':Hp} {h h':Heap} {a C dx:Addr} {fs iN:List (Str×V)}
theorem uW(aE:cj P w H h)(e:H a=some (.ins C dx fs)): ∃mA,oi h a dx C mA/\(∀f,gc (fs.lookup f)<|mA f)/\PySem.Within mA (fs.map (·.1))/\fs.length<=1000/\H dx=some (.own a):=by
 obtain⟨d,z,ne,ob,mA,n,r,q⟩:=(show cg P w H h a (.ins C dx fs) from aE a _ e)
 exact⟨mA,⟨ob,n,ne⟩,r,q,z,d⟩
end
structure fF (K:Frag) (C:Addr):Prop where
 pg:plainGet K C Str.empty=true
 hd:hasDictIn K C=true
 po:plainOver K C=true
 sa:PySem.W.findIn K (.ref C) "__setattr__"=some (some<|.builtin "object.__setattr__")
theorem fF.get{K:Frag}{C:Addr}(c:fF K C)(f:Str):plainGet K C f=true:=c.pg
def eY(K:Frag)(C:Addr)(f:Str):Prop:=PySem.W.findIn K (.ref C) f=some none
theorem eY.Oi{K:Frag}{C:Addr}{f:Str}(n:eY K C f):takerIn K C f=some none:=by
 unfold takerIn
 rw[show PySem.W.findIn K (.ref C) f=some none from n]
 rfl
structure Meth (K:Frag) (C:Addr) (m:Str) (f:Addr):Prop where
 at_:PySem.W.findIn K (.ref C) m=some (some<|.ref f)
 fn:PySem.W.isFn K (.ref f)=true
 kp:PySem.W.keepIn K (.ref f)=true
section
variable {X:Cx} {pins:List (Addr×Obj)} {σ:St} {H:Hp} {s:Shared} {a C dx:Addr} {fs:List (Str×V)} {f:Str} {v:V} {A:Around} {E:Value->Shared->Prop}
theorem Oj{b:Bool}{Q:Value->Shared->Prop}(I:Inv X pins σ H s)(e:H a=some (.ins C dx fs))(c:fF X.K C)(n:eY X.K C f)(l:fs.lookup f=some v)
  (h: ∀u s',Inv X pins σ H s'->RelV v u->Q u s'):wpAny (model X.prog X.w) A (getAttr (.ref a) f b) Q E s:=by
 obtain⟨mA,O,r,_,_,_⟩:=uW I.aE e
 obtain⟨u,hu,ru⟩:=gc.some_of (v:=v) (o:=mA f) (by rw[<-l];exact r f)
 exact get_map I.dn O (c.get f) c.hd n hu (Oh ru)<|h u _ (I.tok _) ru
theorem D_{m:Str}{g:Addr}{pl:Sem Bool}{Q:Value×List Value->Shared->Prop}(I:Inv X pins σ H s)(e:H a=some (.ins C dx fs))(c:fF X.K C)(k:Meth X.K C m g)(l:fs.lookup m=none)
  (h:Q (.ref g,[.ref a]) s):wpAny (model X.prog X.w) A (getMethod (.ref a) m pl) Q E s:=by
 obtain⟨mA,O,r,_,_,_⟩:=uW I.aE e
 have hn:mA m=none:=gc.none_of (by rw[<-l];exact r m)
 exact Ob I.dn O (c.get m) k.at_ k.fn hn h
theorem Ol{y:V}{u:Value}{Q:Unit->Shared->Prop}(I:Inv X pins σ H s)(e:H a=some (.ins C dx fs))(c:fF X.K C)(n:eY X.K C f)(hl:fs.length<1000)(ry:RelV y u)
  (h: ∀s',Inv X pins σ (upd H a<|.ins C dx<|bM f y fs) s'->Q () s'):wpAny (model X.prog X.w) A (setAttr (.ref a) f u) Q E s:=by
 obtain⟨mA,O,r,wi,_,ho⟩:=uW I.aE e
 have hz:(fs.map (·.1)).length<=sizeLine:=by rw[zab,sizeLine_eq];omega
 refine Oc I.dn O c.sa c.po n.Oi c.hd wi hz fun h' O' sb=>h _ ?_
 have hd: ∃o,h'.get? dx=some o:=let ⟨o,_,_,e',_⟩:=O'.ns;⟨o,e'⟩
 refine I.write (x:=a) (e:=dx) (by rw[e];exact True.intro) (.inr ho) (fun b q hb z=> (sb.2 b hb).trans z) hd ?_
 refine⟨by rw[aN O.ne];exact ho, ?_,O.ne,O'.obj,_,O'.ns,fun g=> ?_,fun g hg=> ?_⟩
 ·have:=D9 f y fs;omega
 ·show gc ((bM f y fs).lookup g) (if g=f then some u else mA g)
  rw[D8]
  by_cases q:g=f
  ·rw[if_pos q,if_pos q];exact ry
  ·rw[if_neg q,if_neg q];exact r g
 ·by_cases q:g=f
  ·rw[q];exact(yH f y fs).1
  ·refine(yH f y fs).2 g (wi g fun z=>hg ?_)
   show(if g=f then some u else mA g)=none
   rw[if_neg q];exact z
theorem Inv.made(I:Inv X pins σ H s):Inv X pins σ (upd (upd H s.heap.objs.size<|.own<|s.heap.objs.size+1) (s.heap.objs.size+1)<|.ins C s.heap.objs.size [])
  {s with heap:=(s.heap.push emptyDict).push (instObj C s.heap.objs.size)}:=by
 have e1:(s.heap.push emptyDict).get? s.heap.objs.size=some emptyDict:=Heap.get?_push_size s.heap rfl
 have e2:((s.heap.push emptyDict).push<|instObj C s.heap.objs.size).get? (s.heap.objs.size+1)=some (instObj C s.heap.objs.size):=by
  have:=Heap.get?_push_size (s.heap.push emptyDict) (o:=instObj C s.heap.objs.size) rfl
  rwa [Heap.size_push] at this
 have e3:(s.heap.push emptyDict).Ns s.heap.objs.size (fun _=>none):=⟨emptyDict,#[],_,e1,rfl,(fun e he=>absurd he (by simp)),fun _=>rfl⟩
 have I1:=I.laid (a:=s.heap.objs.size) (o:= .own (s.heap.objs.size+1)) (h':=s.heap.push emptyDict) (t':=s.toks) (fun b u q=>Heap.get?_push_of_some _ q) (zqR _) ⟨_,e1⟩
 refine I1.laid (a:=s.heap.objs.size+1) (o:= .ins C s.heap.objs.size []) (t':=s.toks) (fun b u q=>Heap.get?_push_of_some _ q) (Nat.le_of_eq<|Heap.size_push _ _) ?_
 have ne:s.heap.objs.size≠s.heap.objs.size+1:=zan (zbP _)
 refine⟨by rw[aN ne,au],zqZ _,ne,e2,fun _=>none,(Heap.Ns1.of_empty e3).at fun o q=>Heap.get?_push_of_some _ q,fun _=>True.intro,fun y hy=>absurd rfl hy⟩
theorem Om{prog:Program}{w:World}{env:Env}{e:Expr}{f:Str}{pos:Pos}{s:Shared}{Q:Value->Shared->Prop}(hb:attributeBase e f env (eval e env)=eval e env)
  (h:wpAny (model prog w) A (eval e env) (fun o s₁=>wpAny (model prog w) A (getAttr o f true) Q E s₁) E s):wpAny (model prog w) A (eval (.Attribute e f pos) env) Q E s:=
 Attribute_any_ h (by rw[arm_eval_Attribute,hb])
end
def uX(K:Frag)(ta:TE)(f:Str):TE:=fun σ H Q=>ta σ H fun x H1=> ∃a C dx fs v,x= .ref a/\H1 a=some (.ins C dx fs)/\fF K C/\eY K C f/\fs.lookup f=some v/\Q v H1
def yI(K:Frag)(ta tv:TE)(f:Str):TS:=fun D σ H=>tv σ H fun y H1=>ta σ H1 fun x H2=> ∃a C dx fs,x= .ref a/\H2 a=some (.ins C dx fs)/\fF K C/\eY K C f/\fs.length<1000/\
 D.nx σ (upd H2 a<|.ins C dx<|bM f y fs)
section
variable {X:Cx} {o e value:Expr} {f:Str} {pos pos' yJ:Pos} {ta tv:TE}
theorem Oo(he:PE X e ta)(hb:attributeBase e f X.env (eval e X.env)=eval e X.env):PE X (.Attribute e f pos) (uX X.K ta f):=by
 intro pins s σ H Q I h
 refine Om hb<|aH (he pins s σ H _ I h) fun u s1 ⟨x,H1,I1,rx,a,C,dx,fs,v,ex,ea,c,n,l,q⟩=> ?_
 subst ex
 obtain rfl:u=Value.ref a:=rx
 exact Oj I1 ea c n l fun u' s2 I2 ru=> ⟨v,H1,I2,ru,q⟩
theorem Oq(ha:PE X o ta)(hv:PE X value tv)(hs:swapsWith value (some<|.Attribute o f pos') pos.line X.env=pure false):PS X (.Assign [.Attribute o f pos'] value pos) (yI X.K ta tv f):=by
 intro pins s σ H D I h
 refine plainObj_wpAny_Assign_Attribute (aH (hv pins s σ H _ I h) fun u s1 ⟨y,H1,I1,ry,q⟩=>aH (ha pins s1 σ H1 _ I1 q) fun ov s2 ⟨x,H2,I2,rx,a,C,dx,fs,ex,ea,c,n,l,q2⟩=> ?_) hs
 subst ex
 obtain rfl:ov=Value.ref a:=rx
 exact Ol I2 ea c n l ry fun s3 I3=> ⟨σ,_,I3,q2⟩
end
section
variable {X:Cx} {pins:List (Addr×Obj)} {σ:St} {H:Hp} {s:Shared} {A:Around} {E:Value->Shared->Prop} {Q:Value->Shared->Prop} {c:Value} {b:Bool}
inductive iQ (K:Frag) (H:Hp):V->Value->Prop where
 | aC:iQ K H .aC (.type "NoneType")
 | bl (x:Bool):iQ K H (.bl x) (.type "bool")
 | int (i:Int):iQ K H (.int i) (.type "int")
 | str (x:Str):iQ K H (.str x) (.type "str")
 | mz (x:UInt64):iQ K H (.mz x) (.type "float")
 | lst {a:Addr} {xs:List V} (e:H a=some (.lst xs)):iQ K H (.ref a) (.type "list")
 | bX {a:Addr} {o:Obj} {xs:List V} (e:H a=some (.bX o<|.lst xs)):iQ K H (.ref a) (.type "list")
 | tup {a:Addr} {xs:List V} (e:H a=some (.tup xs)):iQ K H (.ref a) (.type "tuple")
 | dK {a:Addr} {kvs:List (Key×V)} (e:H a=some (.dK kvs)):iQ K H (.ref a) (.type "dict")
 | dT {a:Addr} {kvs:List (List Key×V)} (e:H a=some (.dT kvs)):iQ K H (.ref a) (.type "dict")
 | ins {a C dx:Addr} {fs:List (Str×V)} (e:H a=some (.ins C dx fs)) (cl:fF K C) (ha:PySem.W.findIn K (.ref C) "__class__"=some (some<|.builtin "object.__class__"))
   (hn:specialIn K (.builtin "object.__class__") "__get__"=some (some<|.builtin "getset_descriptor.__get__")) (yK:takesIn K (.builtin "object.__class__")=some true)
   (hm:mroIn K C (.type "object")=some true):iQ K H (.ref a) (.ref C)
theorem kP{x:V}{u t:Value}(I:Inv X pins σ H s)(rx:RelV x u)(ty:iQ X.K H x t)(e:kitOne X.K t c=some b)(h: ∀tk,Q (.bool b) {s with toks:=tk}):
  wpAny (model X.prog X.w) A (call (.builtin "isinstance") [u,c]) Q E s:=by
 cases ty with
 | aC=>cases (show u=Value.none from rx);exact kia_one PySem.W.kitx_none I.dn True.intro e (fun z=>nomatch z) h
 | bl y=>cases (show u=Value.bool y from rx);exact kia_one PySem.W.kitx_bool I.dn True.intro e (fun z=>nomatch z) h
 | int i=>obtain⟨t,q⟩:=(show ∃t,u=Value.int i t from rx);cases q;exact kia_one PySem.W.kitx_int I.dn True.intro e (fun z=>nomatch z) h
 | str y=>obtain⟨t,q⟩:=(show ∃t,u=Value.str y t from rx);cases q;exact kia_one PySem.W.kitx_str I.dn True.intro e (fun z=>nomatch z) h
 | mz y=>obtain⟨t,q⟩:=(show ∃t,u=Value.float y t from rx);cases q;exact kia_one PySem.W.kitx_float I.dn True.intro e (fun z=>nomatch z) h
 | @lst a xs ea=>
  cases (show u=Value.ref a from rx)
  obtain⟨_,_,n,_,h1⟩:=(show cg X.prog X.w H s.heap a (.lst xs) from I.aE a _ ea)
  exact kia_one kitx_list I.dn ⟨_,h1,rfl⟩ e (fun z=>nomatch z) h
 | @bX a ob xs ea=>
  cases (show u=Value.ref a from rx)
  obtain⟨_,_,_,n,_,h1⟩:=(show cg X.prog X.w H s.heap a (.bX ob<|.lst xs) from I.aE a _ ea)
  exact kia_one kitx_list I.dn ⟨_,h1,rfl⟩ e (fun z=>nomatch z) h
 | @tup a xs ea=>
  cases (show u=Value.ref a from rx)
  obtain⟨_,_,_,p⟩:=(show cg X.prog X.w H s.heap a (.tup xs) from I.aE a _ ea)
  obtain⟨o,h1,h2,_⟩:=p
  exact kia_one PySem.W.kitx_tuple I.dn ⟨o,h1,h2⟩ e (fun z=>nomatch z) h
 | @dK a kvs ea=>
  cases (show u=Value.ref a from rx)
  obtain⟨_,_,vs,_,p⟩:=(show cg X.prog X.w H s.heap a (.dK kvs) from I.aE a _ ea)
  obtain⟨o,es,ep,h1,h2,_⟩:=p
  exact kia_one kitx_dict I.dn ⟨o,h1,h2.1⟩ e (fun z=>nomatch z) h
 | @dT a kvs ea=>
  cases (show u=Value.ref a from rx)
  obtain⟨_,_,xs,_,o,es,ep,h1,h2,_⟩:=(show cg X.prog X.w H s.heap a (.dT kvs) from I.aE a _ ea)
  exact kia_one kitx_dict I.dn ⟨o,h1,h2.1⟩ e (fun z=>nomatch z) h
 | @ins a C dx fs ea cl ha hn yK hm=>
  cases (show u=Value.ref a from rx)
  obtain⟨mA,O,_⟩:=uW I.aE ea
  obtain⟨od,J,_⟩:=O.look
  exact kia_one (PySem.W.kitx_own (cl.get _) cl.hd ha hn yK hm) I.dn J e (fun z=>nomatch z) h
end
structure dq (k:Nat) (A:Around):Prop where
 hd:A.handled=none
 dp:A.depth+3*k+5<recursionLimit
 un:A.units+16*k+200<cLine
theorem dq.mono{j k:Nat}{A:Around}(r:dq k A)(h:j<=k):dq j A:=⟨r.hd,by have:=r.dp;omega,by have:=r.un;omega⟩
theorem dq.deeper{k:Nat}{A:Around}(r:dq (k+1) A)(env:Env):dq k (A.deeper env):=
 ⟨r.hd,by have:=r.dp;show A.depth+1+3*k+5<_;omega,by have:=r.un;show A.units+3+16*k+200<_;omega⟩
theorem Ot{A:Around}{C:Addr}{us:List Value}{kw:List (Str×Value)}:(A.under<|.builtin "type.__call__" ⟨.ref C::us,kw⟩).depth=A.depth+1:=by
 first | rfl | simp[Around.under,Code.weight,Code.isCreation,Code.isGuard,Code.isCaller,Code.frames,Code.isFrame,guardIds]
theorem Ou{A:Around}{C:Addr}{us:List Value}{kw:List (Str×Value)}:(A.under<|.builtin "type.__call__" ⟨.ref C::us,kw⟩).units=A.units+1:=by
 first | rfl | simp[Around.under,Code.cUnits,Code.frames,Code.isFrame]
theorem dq.make{k:Nat}{A:Around}(r:dq (k+1) A)(C:Addr)(us:List Value)(kw:List (Str×Value)):dq k (A.under<|.builtin "type.__call__" ⟨.ref C::us,kw⟩):=
 ⟨r.hd,by have:=r.dp;rw[Ot];omega,by have:=r.un;rw[Ou];omega⟩
theorem dq.depth{k:Nat}{A:Around}(r:dq k A):A.depth<recursionLimit:=by have:=r.dp;omega
theorem dq.units{k:Nat}{A:Around}(r:dq k A):A.units+64<cLine:=by have:=r.un;omega
def iR:TA:=fun _ H Q=>Q [] H
def dU(ta:TE)(tr:TA):TA:=fun σ H Q=>ta σ H fun x H1=>tr σ H1 fun xs H2=>Q (x::xs) H2
section
variable {X:Cx} {e:Expr} {es:List Expr} {te:TE} {t:TA} {pos:Pos}
theorem uY:PA X [] iR:=fun _ _ _ _ H Q I h=>Calls.spliced_nil ⟨[],H,I, .nil,h⟩
theorem ql(ha:PE X e te)(hr:PA X es t)(hs:starEach (e::es) X.env=(false,eval e X.env)::starEach es X.env:=by rfl):PA X (e::es) (dU te t):=by
 intro pos pins s σ H Q I h
 rw[hs]
 show wpAny _ _ (spliced ((false,eval e X.env)::backTo pos (starEach es X.env))) _ _ s
 refine Calls.spliced_cons<|aH (ha pins s σ H _ I h) fun u s1 ⟨x,H1,I1,r1,q1⟩=> ?_
 exact aH (hr pos pins s1 σ H1 _ I1 q1) fun us s2 ⟨xs,H2,I2,r2,q2⟩=> ⟨x::xs,H2,I2, .cons r1 r2,q2⟩
def Ea(t:TA):TE:=fun σ H Q=>t σ H fun xs H1=>xs.length<=sizeLine/\ ∀p,H1 p=none->Q (.ref p) (upd H1 p<|.tup xs)
def Eb(t:TA):TE:=fun σ H Q=>t σ H fun xs H1=>xs.length<=sizeLine/\ ∀p,H1 p=none->Q (.ref p) (upd H1 p<|.lst xs)
theorem Ov{x1}(h:PA X es t):PE X (.Tuple es x1 pos) (Ea t):=by
 intro pins s σ H Q I hq
 refine wpAny_Tuple_spliced<|aH (h pos pins s σ H _ I hq) fun us s1 ⟨xs,H1,I1,r,z,q⟩=> ⟨by rw[<-r.length];exact z, ?_⟩
 have hf:H1 s1.heap.objs.size=none:=I1.aE.fresh (zqR _)
 refine⟨.ref s1.heap.objs.size,upd H1 s1.heap.objs.size<|.tup xs,I1.laid (t':=s1.toks) (fun b u e=>Heap.get?_push_of_some _ e) (zqR _) ?_,rfl,q _ hf⟩
 exact⟨z,us,r,⟨_,Heap.get?_push_size _ rfl,rfl,_,rfl⟩⟩
theorem Ow(h:PA X es t):PE X (.List es pos) (Eb t):=by
 intro pins s σ H Q I hq
 refine wpAny_List_spliced<|aH (h pos pins s σ H _ I hq) fun us s1 ⟨xs,H1,I1,r,z,q⟩=> ⟨by rw[<-r.length];exact z, ?_⟩
 have hf:H1 s1.heap.objs.size=none:=I1.aE.fresh (zqR _)
 refine⟨.ref s1.heap.objs.size,upd H1 s1.heap.objs.size<|.lst xs,I1.laid (t':=s1.toks) (fun b u e=>Heap.get?_push_of_some _ e) (zqR _) ?_,rfl,q _ hf⟩
 exact⟨z,us,0,r,Heap.get?_push_size _ rfl⟩
end
abbrev Sp:=List V->Hp->VK->XK->Prop
abbrev bN:=List Env->Hp->Shared->XK->Value->Shared->Prop
structure mF (P:Program) (w:World) (K:Frag) (mg:Str->Option Value) (base:Heap) (A:Around) (outer:List Env) (s:Shared) (H:Hp):Prop where
 frames:A.frames=some outer
 mod:Mod K mg base
 bs: ∀b o,base.get? b=some o->s.heap.get? b=some o/\H b=none
 qe:base.objs.size<=s.heap.objs.size
 jP:s.heap.FunFrames base outer
 rL: ∀b∈cp outer,H b=none
 aE:cj P w H s.heap
 bare:AllBare s.gens
def CE(outer:List Env)(P:Program)(w:World)(H:Hp)(s:Shared)(Q:VK)(u:Value)(s':Shared):Prop:=
 ∃v H',s'.os=s.os/\AllBare s'.gens/\Un (cp outer) [] H H' s.heap s'.heap/\cj P w H' s'.heap/\RelV v u/\Q v H'
def CR(CX:bN)(outer:List Env)(P:Program)(w:World)(H:Hp)(s:Shared)(Q:VK)(E:XK)(r:Result)(s':Shared):Prop:=
 match r with
 | .ok (.ret u)=>CE outer P w H s Q u s'
 | .ok _=>False
 | .error e=>CX outer H s E e s'
structure cX (P:Program) (w:World) (K:Frag) (mg:Str->Option Value) (base:Heap) (CX:bN) (k:Nat) (f:Addr) (fd:FuncData) (ps:List Str) (sp:Sp):Prop where
 len: ∀vs H Q E,sp vs H Q E->vs.length=ps.length
 run: ∀(A:Around) (outer:List Env) (s:Shared) (H:Hp) (args:Args) (us:List Value) (vs:List V) (Q:VK) (E:XK),dq k A->mF P w K mg base A outer s H->BindsTo s fd args (ps.zip us)->Vals vs us->sp vs H Q E->
  codeAny (model P w) A (.call (.ref f) args) (CR CX outer P w H s Q E) s
theorem cX.mono{P:Program}{w:World}{K:Frag}{mg:Str->Option Value}{base:Heap}{CX:bN}{j k:Nat}{f:Addr}{fd:FuncData}{ps:List Str}{sp:Sp}(F:cX P w K mg base CX j f fd ps sp)(h:j<=k):
  cX P w K mg base CX k f fd ps sp:=⟨F.len,fun A outer s H args us vs Q E hr=>F.run A outer s H args us vs Q E<|hr.mono h⟩
theorem mF.make{P:Program}{w:World}{K:Frag}{mg:Str->Option Value}{base:Heap}{A:Around}{outer:List Env}{s:Shared}{H:Hp}(e:mF P w K mg base A outer s H)(C:Addr)(us:List Value)(kw:List (Str×Value)):
  mF P w K mg base (A.under<|.builtin "type.__call__" ⟨.ref C::us,kw⟩) outer s H:=⟨by first | exact e.frames | (simpa[Around.under,Code.envs,Code.isFrame,pushEnvs] using e.frames),e.mod,e.bs,e.qe,e.jP,e.rL,e.aE,e.bare⟩
section
variable {X:Cx} {pins:List (Addr×Obj)} {σ:St} {H:Hp} {s s':Shared}
theorem Inv.Ec(I:Inv X pins σ H s):mF X.prog X.w X.K X.mg X.base X.A X.stack s H:=
 ⟨I.ok.frames,I.ok.mod,I.bs,zaw I.ok.qe I.sz,I.stack,I.uI,I.aE,I.bare⟩
theorem Inv.after{Q:VK}{u:Value}(I:Inv X pins σ H s)(h:CE X.stack X.prog X.w H s Q u s'):EP X pins σ Q u s':=by
 obtain⟨v,H',os,bare,un,aE,r,q⟩:=h
 obtain⟨hh,g,d,t,Ox⟩:=s'
 obtain rfl:Ox=s.os:=os
 exact⟨v,H',I.call (h':=hh) (g':=g) (d':=d) (t':=t) (ch:=[]) un aE bare<|fun b z=>absurd z (by simp),r,q⟩
end
def yL(sp:Sp)(fS:List V)(E:XK)(t:TA):TE:=fun σ H Q=>t σ H fun vs H1=>sp (vs++fS) H1 Q E
def oj(C:Addr)(m:Str)(sp:Sp)(fS:List V)(E:XK)(ta:TE)(t:TA):TE:=fun σ H Q=>ta σ H fun x H1=> ∃a dx fs,x= .ref a/\H1 a=some (.ins C dx fs)/\fs.lookup m=none/\
 t σ H1 fun vs H2=>sp (x::(vs++fS)) H2 Q E
def yM(C:Addr)(sp:Sp)(fS:List V)(E:XK)(t:TA):TE:=fun σ H Q=>t σ H fun vs H1=> ∀x dx,H1 x=none->H1 dx=none->dx≠x->
 sp (.ref x::(vs++fS)) (upd (upd H1 dx<|.own x) x<|.ins C dx []) (fun v H2=>v= .aC/\Q (.ref x) H2) E
def Binds(K:Frag)(fd:FuncData)(ps:List Str)(ds:List Value):Prop:=
 ∀(s:Shared) (us:List Value),K.In s.heap->(us++ds).length=ps.length->BindsTo s fd ⟨us,[]⟩ (ps.zip<|us++ds)
theorem Binds.all{K:Frag}{fd:FuncData}{ps:List Str}(h: ∀us:List Value,us.length=ps.length->bindArgs fd ⟨us,[]⟩=pure (ps.zip us)):Binds K fd ps []:=fun s us _ hl=>by
 rw[zaf] at hl⊢
 exact .of_eq<|h us hl
def Passes(CX:bN)(X:Cx)(E:XK):Prop:= ∀(pins:List (Addr×Obj)) (σ:St) (H:Hp) (s:Shared) (e:Value) (s':Shared),Inv X pins σ H s->CX X.stack H s E e s'->X.xe e s'
section
variable {X:Cx} {CX:bN} {k:Nat} {f C:Addr} {fd:FuncData} {ps:List Str} {sp:Sp} {fS:List V} {ds:List Value} {E:XK} {x m:Str} {p pos apos:Pos} {e o:Expr} {es:List Expr} {ta:TE} {t:TA}
theorem yN{pins:List (Addr×Obj)}{σ:St}{H:Hp}{s:Shared}{Q:VK}{us:List Value}{vs:List V}(F:cX X.prog X.w X.K X.mg X.base CX k f fd ps sp)(hr:dq k X.A)(hb:Binds X.K fd ps ds)(hd:Vals fS ds)(hx:Passes CX X E)
  (I:Inv X pins σ H s) (r:Vals vs us) (h:sp (vs++fS) H Q E):wpAny (model X.prog X.w) X.A (call (.ref f) us) (EP X pins σ Q) X.xe s:=by
 have r2:Vals (vs++fS) (us++ds):=r.append hd
 have hl:(us++ds).length=ps.length:=by rw[<-r2.length];exact F.len _ _ _ _ h
 refine wpAny_call<|codeAny_mono (F.run X.A X.stack s H ⟨us,[]⟩ (us++ds) (vs++fS) Q E hr I.Ec (hb s us I.dn hl) r2 h) fun r s' hq=> ?_
 cases r with
 | error e=>exact hx pins σ H s e s' I hq
 | ok fl=>
  cases fl with
  | ret u=>exact I.after hq
  | next=>exact False.elim hq
  | brk=>exact False.elim hq
  | cont=>exact False.elim hq
theorem Oy(F:cX X.prog X.w X.K X.mg X.base CX k f fd ps sp)(hr:dq k X.A)(hg:Gl X x)(hm:X.mg x=some (.ref f))(hk:PySem.W.keepIn X.K (.ref f)=true)(hb:Binds X.K fd ps ds)(hd:Vals fS ds)(hx:Passes CX X E)
  (ha:PA X (e::es) t) (om:(x==("__debug__":Str))=false:=by decide) (he:starEach (e::es) X.env=(false,eval e X.env)::starEach es X.env:=by rfl) (iS:(backTo pos<|starEach es X.env).any (·.1)=false:=by rfl):
  PE X (.Call (.Name x p) (e::es) [] pos) (yL sp fS E t):=by
 intro pins s σ H Q I h
 refine wpAny_Call_Name_kw<|yu I hg hm ?_ om
 refine callWith_K (h₀:=X.base) I.ok.mod.rH hk (aH (ha pos pins s σ H _ I h) fun us s1 ⟨vs,H1,I1,r,q⟩=> ⟨I1.dn, ?_⟩) he iS
 exact yN F hr hb hd hx I1 r q
structure Mk (K:Frag) (C f:Addr):Prop where
 makes:makesIn K C=true
 init:PySem.W.findIn K (.ref C) "__init__"=some (some<|.ref f)
 fn:PySem.W.isFn K (.ref f)=true
 kp:PySem.W.keepIn K (.ref C)=true
theorem Oz{pins:List (Addr×Obj)}{σ:St}{H:Hp}{s:Shared}{Q:VK}{us:List Value}{vs:List V}(M:Mk X.K C f)(F:cX X.prog X.w X.K X.mg X.base CX k f fd ps sp)(hr:dq (k+1) X.A)(hb:Binds X.K fd ps ds)(hd:Vals fS ds)
  (hx:Passes CX X E) (I:Inv X pins σ H s) (r:Vals vs us)
  (h: ∀x dx,H x=none->H dx=none->dx≠x->sp (.ref x::(vs++fS)) (upd (upd H dx<|.own x) x<|.ins C dx []) (fun v H2=>v= .aC/\Q (.ref x) H2) E):
  wpAny (model X.prog X.w) X.A (call (.ref C) us) (EP X pins σ Q) X.xe s:=by
 have hq:=h (s.heap.objs.size+1) s.heap.objs.size (I.aE.fresh<|zbb _) (I.aE.fresh<|zqR _) (zan<|zbP _)
 have I2:=Inv.made (C:=C) I
 have r2:Vals (V.ref (s.heap.objs.size+1)::(vs++fS)) (Value.ref (s.heap.objs.size+1)::(us++ds)):= .cons rfl (r.append hd)
 have hl:(Value.ref (s.heap.objs.size+1)::us++ds).length=ps.length:=by
  have e:=r2.length
  rw[F.len _ _ _ _ hq] at e
  exact e.symm
 refine wpAny_call (Og (f:=f) I.dn M.makes M.init (beq_iff_eq.mp M.fn) (codeAny_mono (F.run _ X.stack _ _ ⟨Value.ref (s.heap.objs.size+1)::us,[]⟩ (Value.ref (s.heap.objs.size+1)::(us++ds)) _ _ E (hr.make C us [])
  (I2.Ec.make C us []) (hb _ (Value.ref (s.heap.objs.size+1)::us) I2.dn hl) r2 hq) fun r s' ju=> ?_))
 cases r with
 | error e=>exact hx pins σ _ _ e s' I2 ju
 | ok fl=>
  cases fl with
  | ret u=>
   obtain⟨v,H',I3,rv,ev,q3⟩:=I2.after ju
   subst ev
   exact⟨rv,⟨V.ref<|s.heap.objs.size+1,H',I3,rfl,q3⟩⟩
  | next=>exact False.elim ju
  | brk=>exact False.elim ju
  | cont=>exact False.elim ju
theorem OA(M:Mk X.K C f)(F:cX X.prog X.w X.K X.mg X.base CX k f fd ps sp)(hr:dq (k+1) X.A)(hg:Gl X x)(hm:X.mg x=some (.ref C))(hb:Binds X.K fd ps ds)(hd:Vals fS ds)(hx:Passes CX X E)
  (ha:PA X (e::es) t) (om:(x==("__debug__":Str))=false:=by decide) (he:starEach (e::es) X.env=(false,eval e X.env)::starEach es X.env:=by rfl) (iS:(backTo pos<|starEach es X.env).any (·.1)=false:=by rfl):
  PE X (.Call (.Name x p) (e::es) [] pos) (yM C sp fS E t):=by
 intro pins s σ H Q I h
 refine wpAny_Call_Name_kw<|yu I hg hm ?_ om
 refine callWith_K (h₀:=X.base) I.ok.mod.rH M.kp (aH (ha pos pins s σ H _ I h) fun us s1 ⟨vs,H1,I1,r,q⟩=> ⟨I1.dn, ?_⟩) he iS
 exact Oz M F hr hb hd hx I1 r q
end
section
variable {X:Cx} {CX:bN} {k:Nat} {f C:Addr} {fd:FuncData} {ps ks:List Str} {sp:Sp} {E:XK} {x m:Str} {p pos apos acJ:Pos} {e o:Expr} {es:List Expr} {kws:List Keyword} {te ta:TE} {t tk:TA} {nm:Option Str}
variable {g:List Value->List Value->List Value} {gV:List V->List V->List V}
end
structure rP (N P:List Str) (sc:Scope):Prop where
 kind:sc.kind= .function
 co:sc.isCoroutine=false
 gen:sc.isGenerator=false
 nd:N.Nodup
 pre:N.take P.length=P
 par: ∀x∈P,sc.names.lookup x=some .local\/sc.names.lookup x=some .cell
 OB: ∀y∈sc.names,y.2≠ .free
theorem Ee{kindOf:Str->Option NameKind}{x:Str}: ∀{binds:List (Str×Value)} {m:Str->Option Value},(∀v,(x,v)∉binds)->bindL kindOf binds m x=m x
 | [],_,_=>rfl
 | (n,v)::r,m,h=>by
  unfold bindL
  rw[Ee fun w hw=>h w (zaj _ hw)]
  split
  ·have:x≠n:=by rintro rfl;exact h v zas
   simp[this]
  ·rfl
theorem Ef{kindOf:Str->Option NameKind}{x:Str}: ∀{binds:List (Str×Value)} {m:Str->Option Value},(∀v,(x,v)∉binds)->bindC kindOf binds m x=m x
 | [],_,_=>rfl
 | (n,v)::r,m,h=>by
  unfold bindC
  rw[Ef fun w hw=>h w (zaj _ hw)]
  split
  ·rfl
  ·have:x≠n:=by rintro rfl;exact h v zas
   simp[this]
theorem Eg{kindOf:Str->Option NameKind}{x:Str}{v:Value}: ∀{P:List Str} {vs:List Value} {i:Nat} {m:Str->Option Value},P.Nodup->P[i]?=some x->vs[i]?=some v->kindOf x=some .local->
  bindL kindOf (P.zip vs) m x=some v
 | [],_,_,_,_,h,_,_=>by simp at h
 | _::_,[],_,_,_,_,h,_=>by simp at h
 | p::P,w::vs,0,m,nd,h1,h2,hk=>by
  simp at h1 h2;subst h1;subst h2
  show bindL kindOf ((p,w)::P.zip vs) m p=_
  unfold bindL
  rw[Ee fun v hv=> (zaN.mp nd).1 (List.of_mem_zip hv).1,if_pos hk]
  simp
 | p::P,w::vs,i+1,m,nd,h1,h2,hk=>by
  show bindL kindOf ((p,w)::P.zip vs) m x=_
  unfold bindL
  exact Eg (i:=i) (zaN.mp nd).2 (by simpa using h1) (by simpa using h2) hk
theorem Eh{kindOf:Str->Option NameKind}{x:Str}{v:Value}: ∀{P:List Str} {vs:List Value} {i:Nat} {m:Str->Option Value},P.Nodup->P[i]?=some x->vs[i]?=some v->kindOf x≠some .local->
  bindC kindOf (P.zip vs) m x=some v
 | [],_,_,_,_,h,_,_=>by simp at h
 | _::_,[],_,_,_,_,h,_=>by simp at h
 | p::P,w::vs,0,m,nd,h1,h2,hk=>by
  simp at h1 h2;subst h1;subst h2
  show bindC kindOf ((p,w)::P.zip vs) m p=_
  unfold bindC
  rw[Ef fun v hv=> (zaN.mp nd).1 (List.of_mem_zip hv).1,if_neg hk]
  simp
 | p::P,w::vs,i+1,m,nd,h1,h2,hk=>by
  show bindC kindOf ((p,w)::P.zip vs) m x=_
  unfold bindC
  exact Eh (i:=i) (zaN.mp nd).2 (by simpa using h1) (by simpa using h2) hk
def start(N:List Str)(vs:List V):St:=vs.map some++List.replicate (N.length - vs.length) none
def ou(CX:bN)(P:Program)(w:World)(K:Frag)(mg:Str->Option Value)(base:Heap)(N:List Str)(qual:Str)(scope:Scope)(f:Addr)(cd:Value)(A:Around)(outer:List Env)(s:Shared)(H:Hp)(E:XK):Cx where
 prog:=P
 w:=w
 K:=K
 mg:=mg
 base:=base
 A:=A.deeper (envOfC qual scope s.heap.objs.size f cd)
 N:=N
 s₀:=s
 H₀:=H
 env:=envOfC qual scope s.heap.objs.size f cd
 outer:=outer
 stack:=envOfC qual scope s.heap.objs.size f cd::outer
 ex:=[]
 calm:=true
 fn:=fun _=>true
 pn:=[]
 xe:=fun e s'=>wpAny (model P w) (A.deeper<|envOfC qual scope s.heap.objs.size f cd) (leaving (envOfC qual scope s.heap.objs.size f cd) e) (fun _ kQ=>CX outer H s E e kQ) (fun e' kQ=>CX outer H s E e' kQ) s'
theorem Ei{sc:Scope}{n:Nat}{x:Str}(h:sc.names.lookup x=some .cell): ∃c,(cellsFrom n sc.names []).lookup x=some c:=by
 have q:=cellsFrom_some sc.names n [] (.inl h)
 exact Option.isSome_iff_exists.mp q
theorem OC{CX:bN}{P:Program}{w:World}{K:Frag}{mg:Str->Option Value}{base:Heap}{N ps:List Str}{qual:Str}{scope:Scope}{f:Addr}{cd:Value}{A:Around}{outer:List Env}{s s1:Shared}{H:Hp}{E:XK}{us:List Value}{vs:List V}
  (S:rP N ps scope) (hd:A.handled=none) (e0:mF P w K mg base A outer s H) (hl:vs.length=ps.length) (r:Vals vs us)
  (x:InCallC s s.heap.objs.size (bindL (envOfC qual scope s.heap.objs.size f cd).kindOf (ps.zip us) fun _=>none) (cellsFrom (s.heap.objs.size+1) scope.names []) (bindC (envOfC qual scope s.heap.objs.size f cd).kindOf (ps.zip us) fun _=>none) s1):
  Inv (ou CX P w K mg base N qual scope f cd A outer s H E) [] (start N vs) H s1:=by
 have iS:ps.length<=N.length:=by have:=congrArg List.length S.pre;rw[zaD] at this;omega
 obtain⟨h1,tk,rfl,hk⟩:=x.done
 have rQ: ∀b:Addr,b∉ (ou CX P w K mg base N qual scope f cd A outer s H E).ex:=fun b z=>absurd (show b∈ ([]:List Addr) from z) (by simp)
 refine⟨⟨e0.mod,S.kind,rfl,rfl,zqR _,fun y z c h1 h2=> ?_,fun y hy=> ?_,fun y c _ h=> ?_,fun _=>hd,Around.frames_deeper e0.frames, .inr ⟨rfl,rfl⟩,fun b z=>absurd z (rQ b),e0.bs,e0.qe,fun b _ _=>rQ b,fun b z=>absurd z (rQ b),e0.jP,e0.rL⟩,
  rfl,e0.bare,Un.kept hk,⟨_,x.toInCall.ns,fun i y v h1 h2 h3=> ?_⟩,fun y c h=> ⟨_,x.cell y c h⟩,e0.aE.fresh (zqR _),fun y c h=> ?_,fun p hp=>absurd (show p∈ ([]:List (Addr×Obj)) from hp) (by simp),e0.aE.kept hk, ?_⟩
 ·exact name_of_addr x.apart (PySem.mem_of_lookup h1) (PySem.mem_of_lookup h2)
 ·have hy:scope.names.lookup y=some .cell\/scope.names.lookup y=some .free:=hy
  rcases hy with hy | hy
  ·exact Ei hy
  ·exact absurd rfl (S.OB _<|PySem.mem_of_lookup hy)
 ·exact zbw (x.above y c<|PySem.mem_of_lookup h)
 ·have hi:i<vs.length:=by
   unfold start at h2
   by_cases hi:i<vs.length
   ·exact hi
   ·rw[zbc (by simpa using hi)] at h2
    rw[List.getElem?_replicate] at h2
    split at h2<;>cases h2
  have ha:vs[i]?=some v:=by
   unfold start at h2
   rw[zaz (by simpa using hi),zam] at h2
   cases e:vs[i]? with
   | none=>rw[e] at h2;cases h2
   | some a=>rw[e] at h2;cases h2;rfl
  obtain⟨u,hu,rv⟩:=r.get ha
  have hp:ps[i]?=some y:=by
   rw[<-S.pre,List.getElem?_take_of_lt (by omega)];exact h1
  have Ej:ps.Nodup:=by rw[<-S.pre];exact S.nd.sublist (List.take_sublist _ _)
  refine⟨u,rv, ?_⟩
  rcases S.par y (zae hp) with k | k
  ·exact .inl ⟨k,Eg Ej hp hu k⟩
  ·obtain⟨c,e⟩:=Ei (n:=s.heap.objs.size+1) k
   refine .inr ⟨.inl k,c,e, ?_⟩
   have q:=x.cell y c e
   rw[Eh Ej hp hu (by show scope.names.lookup y≠_;rw[k];decide)] at q
   exact q
 ·exact e0.aE.fresh (zbw<|x.above y c<|PySem.mem_of_lookup h)
 ·unfold start
  show _=N.length
  rw[zqA,zab,List.length_replicate]
  omega
theorem OD{CX:bN}{P:Program}{w:World}{K:Frag}{mg:Str->Option Value}{base:Heap}{k:Nat}{f:Addr}{name qual:Str}{params:Arguments}{body:List Stmt}{scope:Scope}{dV kV doc pm bE ct oc:Value}{an od:Option Addr}
  {ie:Array (Option Value)} {N ps:List Str} {sp:Sp} (lk:K.lookup f=some ⟨oc,od, .func<|PySem.W.fnOf name qual params body scope dV kV doc pm an bE ct,ie⟩) (jQ:PySem.W.codeIn K bE qual=true) (S:rP N ps scope)
  (len: ∀vs H Q E,sp vs H Q E->vs.length=ps.length)
  (OE: ∀(A:Around) (outer:List Env) (s:Shared) (H:Hp) (vs:List V) (Q:VK) (E:XK),dq k (A.deeper (envOfC qual scope s.heap.objs.size f bE))->sp vs H Q E->
   ∃t,eV (ou CX P w K mg base N qual scope f bE A outer s H E) body t/\t {nx:=fun _ H'=>Q .aC H',rt:=Q} (start N vs) H):
  cX P w K mg base CX (k+1) f (PySem.W.fnOf name qual params body scope dV kV doc pm an bE ct) ps sp:=by
 refine⟨len,fun A outer s H args us vs Q E hr e0 hb r mG=> ?_⟩
 have hl:=len _ _ _ _ mG
 have KX:K.In s.heap:=e0.mod.rH.keeps fun b o e=> (e0.bs b o e).1
 have lim:s.heap.NoLimit:=e0.mod.nolimit.keeps fun b o e=> (e0.bs b o e).1
 have OF: ∀y∈ps.zip us,scope.names.lookup y.1=some .local\/(scope.names.lookup y.1=some .cell/\((cellsFrom (s.heap.objs.size+1) scope.names []).lookup y.1).isSome=true):=fun⟨n,v⟩ hy=>by
  rcases S.par n (List.of_mem_zip hy).1 with q | q
  ·exact .inl q
  ·exact .inr ⟨q,cellsFrom_some _ _ _<|.inl q⟩
 refine codeAny_call_function hr.depth (KX _ _ lk) rfl S.co S.gen rfl (PySem.W.codeRec_of KX jQ)<|hb _ _ _ _ ?_
 refine wpAny_newFunctionEnv_cells S.kind OF fun env he s1 x=> ?_
 subst he
 refine⟨lim.keeps x.toInCall.keep,codeAny_func ?_⟩
 obtain⟨t,ht,hq⟩:=OE A outer s H vs Q E (hr.deeper _) mG
 have I:Inv (ou CX P w K mg base N qual scope f bE A outer s H E) [] (start N vs) H s1:=OC S hr.hd e0 hl r x
 refine wpAny_mono (ht [] s1 (start N vs) H _ I hq) (fun fl s' hs=> ?_) fun e s' hs=>hs
 have fin: ∀{σ':St} {H':Hp} {v:V} {u:Value},Inv (ou CX P w K mg base N qual scope f bE A outer s H E) [] σ' H' s'->RelV v u->Q v H'->CE outer P w H s Q u s':=
  fun {σ' H' v u} J rv q=> ⟨v,H',J.os,J.bare,J.base,J.aE,rv,q⟩
 cases fl with
 | ret u=>
  obtain⟨v,σ',H',J,rv,q⟩:=hs
  exact fin J rv q
 | next=>
  obtain⟨σ',H',J,q⟩:=hs
  exact fin (v:=V.aC) (u:=Value.none) J rfl q
 | brk=>
  obtain⟨_,_,_,q⟩:=hs
  exact False.elim q
 | cont=>
  obtain⟨_,_,_,q⟩:=hs
  exact False.elim q
section
variable {X:Cx} {x:Str} {p pos:Pos} {e:Expr} {es:List Expr} {t:TA} {id T:String} {r:List V->Hp->VK->Prop}
def gg(r:List V->Hp->VK->Prop)(t:TA):TE:=fun σ H Q=>t σ H fun vs H1=>r vs H1 Q
theorem Ek(hc:cy X (.builtin id) r)(hg:Gl X x)(hm:X.mg x=none)(hv:bootBuiltins x=some (.builtin id))(ha:PA X (e::es) t)(hn:x≠"__name__":=by decide)(om:(x==("__debug__":Str))=false:=by decide)
  (he:starEach (e::es) X.env=(false,eval e X.env)::starEach es X.env:=by rfl) (iS:(backTo pos<|starEach es X.env).any (·.1)=false:=by rfl):PE X (.Call (.Name x p) (e::es) [] pos) (gg r t):=by
 intro pins s σ H Q I h
 refine wpAny_Call_Name_kw<|kN I hg hm hv ?_ hn om
 exact PyProof.Rows.callWith_builtin1 (aH (ha pos pins s σ H _ I h) fun us s1 ⟨vs,H1,I1,r1,q1⟩=>hc pins s1 σ H1 vs us Q I1 r1 q1) he iS
theorem OG(hc:cy X (.type T) r)(hg:Gl X x)(hm:X.mg x=none)(hv:bootBuiltins x=some (.type T))(ha:PA X (e::es) t)(hn:x≠"__name__":=by decide)(om:(x==("__debug__":Str))=false:=by decide)
  (he:starEach (e::es) X.env=(false,eval e X.env)::starEach es X.env:=by rfl) (iS:(backTo pos<|starEach es X.env).any (·.1)=false:=by rfl):PE X (.Call (.Name x p) (e::es) [] pos) (gg r t):=by
 intro pins s σ H Q I h
 refine wpAny_Call_Name_kw<|kN I hg hm hv ?_ hn om
 exact PyProof.Rows.callWith_type1 (aH (ha pos pins s σ H _ I h) fun us s1 ⟨vs,H1,I1,r1,q1⟩=>hc pins s1 σ H1 vs us Q I1 r1 q1) he iS
end
end L2
namespace HT
open PySem PyProof.Rows
section
open PySem.SeqAt
open PySem.AutoSeq1 (wpAny_loadPart')
open PySem.MeetsSeq PySem.MeetsSeq2 PySem.MeetsSeq3
end
section
variable {prog:Program} {w:World} {A:Around} {E:Value->Shared->Prop} {s:Shared}
theorem OH{t b:Addr}{vs ws:List Value}{Q:Value->Shared->Prop}(ht:IsTup s.heap t vs.toArray)(hb:IsTup s.heap b ws.toArray)(hv:vs≠ [])
  (h1:ws=[]->Q (.ref t) s) (h2:ws≠ []->Q (.ref s.heap.objs.size) {s with heap:=s.heap.push {cls:= .type "tuple",data:= .seq (vs++ws).toArray}})
  (hsz:vs.length+ws.length<=sizeLine):wpAny (model prog w) A (binaryOp .Add (.ref t)<|.ref b) Q E s:=by
 obtain⟨⟨cls,dd,data,sl⟩,ho,hc,n,hd⟩:=id ht
 obtain⟨⟨acL,El,data2,yO⟩,jv,cE,n2,hd2⟩:=id hb
 simp only at hc hd cE hd2
 subst hc hd cE hd2
 have e:vs.toArray++ws.toArray=(vs++ws).toArray:=by simp
 by_cases hw:ws=[]
 ·exact concat_meets ⟨_,ho,rfl⟩ ⟨_,jv,rfl⟩ noFill_tuple_add seq_tuple_add PySem.F.slot_tuple_add PySem.F.entry_tuple_add (PySem.F.args_tuple_add_2 _ _)
   (tuple_addW1 t b vs.toArray ws.toArray n n2 dd El sl yO (by simpa using hv) (by simp[hw])) ⟨ho,jv,h1 hw⟩
 ·refine concat_meets ⟨_,ho,rfl⟩ ⟨_,jv,rfl⟩ noFill_tuple_add seq_tuple_add PySem.F.slot_tuple_add PySem.F.entry_tuple_add (PySem.F.args_tuple_add_2 _ _)
   (tuple_addW2 t b vs.toArray ws.toArray n n2 dd El sl yO (by simpa using hv) (by simpa using hw) (by rw[zag,zag];exact hsz)) ⟨ho,jv, ?_⟩
  rw[e]
  exact h2 hw
def a_(n d:Nat):Option Int->Nat
 | none=>d
 | some v=>if v<0 then (v+ (n:Int)).toNat else min v.toNat n
theorem yP(n d:Nat):a_ n d none=d:=rfl
theorem mH(n d k:Nat):a_ n d (some (k:Int))=min k n:=by
 show(if (k:Int) <0 then ((k:Int)+ (n:Int)).toNat else min (k:Int).toNat n)=min k n
 rw[if_neg (by omega),zaW]
theorem yQ(n d:Nat)(hd:d<=n)(o:Option Int):a_ n d o<=n:=by
 cases o with
 | none=>exact hd
 | some v=>
  show(if v<0 then (v+ (n:Int)).toNat else min v.toNat n)<=n
  by_cases hv:v<0
  ·rw[if_pos hv];omega
  ·rw[if_neg hv];exact Nat.min_le_right _ _
theorem Em(v:Int)(n d:Nat):(if v<0 then max (v+ (n:Int)) 0 else min v (n:Int))=((a_ n d (some v):Nat):Int):=by
 show(if v<0 then max (v+ (n:Int)) 0 else min v (n:Int))=(((if v<0 then (v+ (n:Int)).toNat else min v.toNat n):Nat):Int)
 by_cases hv:v<0
 ·simp only[if_pos hv];omega
 ·simp only[if_neg hv];omega
theorem OI(lo hi:Option Int)(n:Nat):Builtin.Slice.sliceAdjust lo hi 1 (n:Int)=(((a_ n 0 lo:Nat):Int),((a_ n n hi:Nat):Int)):=by
 have h1: ¬((1:Int) <0):=by omega
 unfold Builtin.Slice.sliceAdjust
 simp only[h1,if_false]
 refine Prod.ext ?_ ?_
 ·cases lo with
  | none=>rfl
  | some v=>exact Em v n 0
 ·cases hi with
  | none=>rfl
  | some v=>exact Em v n n
theorem OJ(i j:Nat):Builtin.Slice.slicePlaces (i:Int) (j:Int) 1=j - i:=by
 unfold Builtin.Slice.slicePlaces
 have h1:(1:Int) >0:=by omega
 simp only[h1,if_true,Int.ediv_one]
 split<;>omega
theorem En{v:Value}{o:Option Int}{Q:Option Int->Shared->Prop}(p:IsPart v o)(h:Q o s):wpAny (model prog w) A (Builtin.Slice.slicePartIndex v) Q E s:=by
 cases p with
 | none=>exact slicePart_none h
 | int i t=>exact slicePart_int h
theorem OK{sl:Addr}{vl vu:Value}{lo hi:Option Int}{n:Nat}{Q:Int×Int×Nat->Shared->Prop}(hs:s.heap.IsSliceOf sl vl vu .none)(pl:IsPart vl lo)(pu:IsPart vu hi)
  (h:Q (((a_ n 0 lo:Nat):Int),1,a_ n n hi - a_ n 0 lo) s):wpAny (model prog w) A (Builtin.Slice.sliceApplied (.ref sl)<|pure (n:Int)) Q E s:=by
 obtain⟨os,rR,Eo,uZ⟩:=id hs
 unfold Builtin.Slice.sliceApplied Builtin.Slice.sliceFields
 refine wpAny_bind<|wpAny_bind<|wpAny_field rR uZ (x:=vl) rfl<|wpAny_bind<|wpAny_field rR uZ (x:=vu) rfl<|wpAny_bind<|wpAny_field rR uZ (x:= .none) rfl<|wpAny_pure ?_
 refine wpAny_bind<|slicePart_none ?_
 show wpAny _ _ (if ((1:Int)==0)=true then _ else _) _ _ s
 rw[if_neg (by decide)]
 refine wpAny_bind<|En pl<|wpAny_bind<|En pu<|wpAny_bind<|wpAny_pure ?_
 show wpAny _ _ (match Builtin.Slice.sliceAdjust lo hi 1 (n:Int) with | (lo,hi)=>pure (lo,(1:Int),Builtin.Slice.slicePlaces lo hi 1)) _ _ s
 rw[OI lo hi n]
 show wpAny _ _ (pure (((a_ n 0 lo:Nat):Int),(1:Int),Builtin.Slice.slicePlaces ((a_ n 0 lo:Nat):Int) ((a_ n n hi:Nat):Int) 1)) _ _ s
 rw[OJ]
 exact wpAny_pure h
theorem OL(xs:Array Value)(i k:Nat):((List.range k).filterMap fun(m:Nat)=>xs[((i:Int)+ (m:Int)*1).toNat]?).toArray=((xs.toList.drop i).take k).toArray:=by
 have e:(fun(m:Nat)=>xs[((i:Int)+ (m:Int)*1).toNat]?)=fun m=>xs[i+m]?:=by
  funext m
  have:((i:Int)+ (m:Int)*1).toNat=i+m:=by omega
  rw[this]
 rw[e]
 have:=pick_run xs i k
 rw[zbo] at this
 have e2:((fun x=>xs[x]?)∘fun x=>i+x)=fun m=>xs[i+m]?:=rfl
 rw[e2] at this
 rw[this]
theorem OM{t sl:Addr}{items:Array Value}{vl vu:Value}{lo hi:Option Int}{Q:Value->Shared->Prop}(ht:IsTup s.heap t items)(hs:s.heap.IsSliceOf sl vl vu .none)(pl:IsPart vl lo)(pu:IsPart vu hi)
  (hw: ¬(a_ items.size 0 lo=0/\a_ items.size items.size hi=items.size))
  (h:Q (.ref s.heap.objs.size) {s with heap:=s.heap.push {cls:= .type "tuple",data:= .seq ((items.toList.drop<|a_ items.size 0 lo).take<|a_ items.size items.size hi - a_ items.size 0 lo).toArray}})
  (hsz:items.size<=sizeLine):wpAny (model prog w) A (getItem (.ref t)<|.ref sl) Q E s:=by
 have u0:sizeOk (.seq ((items.toList.drop<|a_ items.size 0 lo).take<|a_ items.size items.size hi - a_ items.size 0 lo).toArray):=by
  show((items.toList.drop<|a_ items.size 0 lo).take<|a_ items.size items.size hi - a_ items.size 0 lo).toArray.size<=sizeLine
  rw[zag,zaD,zaB,zbN]
  omega
 have hj:a_ items.size items.size hi<=items.size:=yQ _ _ (zqR _) hi
 obtain⟨os,rR,Eo,uZ⟩:=id hs
 have ON:s.TypeIs (.ref sl) "slice":=⟨os,rR,Eo⟩
 unfold getItem
 try with_reducible refine wpAny_holding ?_
 first | refine wpAny_bind (wpAny_pure ?_) | skip
 refine wpAny_bind<|wpAny_sequenceKey ht.typeIs (by decide) ?_
 refine wpAny_bind (wpAny_callSpecial?_slot (name:=Str.ofString "__getitem__") ht.typeIs PyProof.Rows.slot_tuple_getitem
  (wpAny_call_entry PyProof.Rows.slot_tuple_getitem ht.typeIs entry_tuple_getitem ?_ (args_tuple_getitem _ _)))
 show wpAny _ _ (Builtin.Tuple.tupleItemsOf (.ref t) >>=_) _ _ s
 refine wpAny_bind<|tupleItemsOf_ ht ?_
 refine wpAny_bind<|wpAny_typeOf ON ?_
 rw[if_pos (by decide)]
 refine wpAny_bind<|OK hs pl pu ?_
 have OO: ¬((((a_ items.size 0 lo:Nat):Int)==0 && (1:Int)==1 && (a_ items.size items.size hi - a_ items.size 0 lo)==items.size)=true):=by
  intro q
  rw[zah,zah] at q
  have q1:((a_ items.size 0 lo:Nat):Int)=0:=eq_of_beq q.1.1
  have q2:a_ items.size items.size hi - a_ items.size 0 lo=items.size:=eq_of_beq q.2
  exact hw ⟨by omega,by omega⟩
 show wpAny _ _ (if (((a_ items.size 0 lo:Nat):Int)==0 && (1:Int)==1 && (a_ items.size items.size hi - a_ items.size 0 lo)==items.size)=true then _ else _) _ _ s
 rw[if_neg OO,OL]
 first
  | exact wpAny_bind (m:=Builtin.Tuple.tupleExact _) (wpAny_newObj_type (wpAny_pure ⟨_,rfl,wpAny_pure h⟩) u0)
  | exact wpAny_bind (m:=Builtin.Tuple.tupleExact _) (wpAny_newObj_type (wpAny_bind<|wpAny_pure<|wpAny_pure ⟨_,rfl,wpAny_pure h⟩) u0)
  | exact wpAny_bind (wpAny_bind (m:=Builtin.Tuple.tupleExact _)<|wpAny_newObj_type (wpAny_pure<|wpAny_pure ⟨_,rfl,wpAny_pure h⟩) u0)
  | exact wpAny_bind (wpAny_bind (m:=Builtin.Tuple.tupleExact _)<|wpAny_newObj_type (wpAny_pure ⟨_,rfl,wpAny_pure h⟩) u0)
end
end HT
namespace L2
open PySem PySem.Spec PyProof.Rows
abbrev TO:=St->Hp->(Option Int->Hp->Prop)->Prop
def PO(X:Cx)(e:Option Expr)(t:TO):Prop:=
 ∀(pins:List (Addr×Obj)) (s:Shared) (σ:St) (H:Hp) (Q:Option Int->Hp->Prop),Inv X pins σ H s->t σ H Q->
  wpAny (model X.prog X.w) X.A (evalPart e X.env) (fun u s'=> ∃o H',Inv X pins σ H' s'/\IsPart u o/\Q o H') X.xe s
def rS:TO:=fun _ H Q=>Q none H
def ow(t:TE):TO:=fun σ H Q=>t σ H fun x H1=> ∃i,x= .int i/\Q (some i) H1
theorem intsAre_of{ns:List Int}: ∀{us:List Value},Vals (ns.map V.int) us->IntsAre us ns:=by
 induction ns with
 | nil=>intro us r;rw[zbd] at r;cases r;exact .nil
 | cons n ns ih=>
  intro us r
  rw[zay] at r
  cases r with
  | cons r1 r2=>
   obtain⟨t,e⟩:=r1
   subst e
   exact .cons n t<|ih r2
section
variable {X:Cx} {e:Expr} {te:TE} {lo hi:Option Expr} {tl th:TO} {pos p2:Pos}
theorem u9:PO X none rS:=by
 intro pins s σ H Q I h
 rw[evalPart_none]
 exact wpAny_pure ⟨none,H,I, .none,h⟩
theorem u_(h:PE X e te):PO X (some e) (ow te):=by
 intro pins s σ H Q I hw
 rw[evalPart_some]
 refine aH (h pins s σ H _ I hw) fun u s1 ⟨x,H1,I1,r1,q1⟩=> ?_
 obtain⟨i,rfl,q⟩:=q1
 obtain⟨t,rfl⟩:=r1
 exact⟨some i,H1,I1, .int i t,q⟩
def vb(X:Cx)(r:V->Option Int->Option Int->Hp->VK->Prop):Prop:=
 ∀(pins:List (Addr×Obj)) (s:Shared) (σ:St) (H:Hp) (x:V) (v vl vu:Value) (lo hi:Option Int) (sl:Addr) (Q:VK),Inv X pins σ H s->RelV x v->s.heap.IsSliceOf sl vl vu .none->IsPart vl lo->IsPart vu hi->r x lo hi H Q->
  ∃T id,typeLookup (.type T) "__getitem__"=pure (some<|.builtin id)/\s.TypeIs v T/\wpAny (model X.prog X.w) X.A (getItem v<|.ref sl) (EP X pins σ Q) X.xe s
def yR(r:V->Option Int->Option Int->Hp->VK->Prop)(te:TE)(tl th:TO):TE:=fun σ H Q=>te σ H fun x H1=>tl σ H1 fun l H2=>th σ H2 fun u H3=>r x l u H3 Q
theorem OP{r:V->Option Int->Option Int->Hp->VK->Prop}(hr:vb X r)(he:PE X e te)(hl:PO X lo tl)(hu:PO X hi th):PE X (.Subscript e (.Slice lo hi none p2) pos) (yR r te tl th):=by
 intro pins s σ H Q I h
 refine Subscript_<|aH (he pins s σ H _ I h) fun v s1 ⟨x,H1,I1,r1,q1⟩=> ?_
 refine wpAny_Slice<|aH (hl pins s1 σ H1 _ I1 q1) fun vl s2 ⟨l,H2,I2,pl,q2⟩=>aH (hu pins s2 σ H2 _ I2 q2) fun vu s3 ⟨u,H3,I3,pu,q3⟩=> ?_
 rw[evalPart_none]
 refine wpAny_pure ?_
 have I4:Inv X pins σ H3 {s3 with heap:=s3.heap.push {cls:= .type "slice",data:= .fields #[vl,vu, .none]}}:=I3.kept (t':=s3.toks) fun b ob q=>Heap.get?_push_of_some _ q
 obtain⟨T,id,hT,ht,hg⟩:=hr pins {s3 with heap:=s3.heap.push {cls:= .type "slice",data:= .fields #[vl,vu, .none]}} σ H3 x v vl vu l u s3.heap.objs.size Q I4 r1 (Heap.IsSliceOf.new ..) pl pu q3
 show wpAny (model X.prog X.w) X.A (subscriptTail e (.Slice lo hi none p2) v<|.ref s3.heap.objs.size) (EP X pins σ Q) X.xe {s3 with heap:=s3.heap.push {cls:= .type "slice",data:= .fields #[vl,vu, .none]}}
 exact tail_any (ops:=[.ref s3.heap.objs.size,v]) ht hT hg (by with_unfolding_all rfl)
def du(xs:List V)(lo hi:Option Int):List V:=(xs.drop<|HT.a_ xs.length 0 lo).take (HT.a_ xs.length xs.length hi - HT.a_ xs.length 0 lo)
theorem yS(xs:List V)(lo hi:Option Int):(du xs lo hi).length<=xs.length:=by
 unfold du
 rw[zaD,zaB]
 omega
def OQ(K:Frag):V->Option Int->Option Int->Hp->VK->Prop:=fun x lo hi H Q=> ∃a xs,x= .ref a/\aG K H a xs/\
 ¬(HT.a_ xs.length 0 lo=0/\HT.a_ xs.length xs.length hi=xs.length)/\ ∀p,H p=none->Q (.ref p) (upd H p<|.tup<|du xs lo hi)
theorem OR:vb X (OQ X.K):=by
 intro pins s σ H x v vl vu lo hi sl Q I rx hs pl pu h
 obtain⟨a,xs,rfl,hx,hw,q⟩:=h
 cases rx
 obtain⟨ak,r,ht,hz⟩:=I.tuple hx
 have hlen:ak.toArray.size=xs.length:=by rw[zag];exact r.length.symm
 refine⟨"tuple",_,PyProof.Rows.slot_tuple_getitem.lookup,ht.typeIs, ?_⟩
 refine HT.OM ht hs pl pu (by rw[hlen];exact hw) ?_ (by rw[hlen];exact hz)
 rw[hlen]
 refine⟨.ref s.heap.objs.size,_,I.laid (t':=s.toks) (o:= .tup (du xs lo hi)) (fun b ob q=>Heap.get?_push_of_some _ q) (zqR _) ?_,rfl,q _<|I.aE.fresh<|zqR _⟩
 exact⟨zaw (yS xs lo hi) hz,_,(r.drop<|HT.a_ xs.length 0 lo).take<|HT.a_ xs.length xs.length hi - HT.a_ xs.length 0 lo,IsTup.new _ _⟩
def Ep(K:Frag):R2:=fun x y H Q=> ∃a b xs ys,x= .ref a/\y= .ref b/\aG K H a xs/\aG K H b ys/\xs≠ []/\xs.length+ys.length<=sizeLine/\
 (ys=[]->Q (.ref a) H)/\(ys≠ []-> ∀p,H p=none->Q (.ref p) (upd H p<|.tup<|xs++ys))
theorem Vals.yT{xs:List V}{us:List Value}(r:Vals xs us):us=[]↔xs=[]:=by
 cases r with
 | nil=>simp
 | cons _ _=>simp
theorem OS:bo X (binaryOp .Add) (Ep X.K):=by
 intro pins s σ H x y v u Q I rx ry h
 obtain⟨a,b,xs,ys,rfl,rfl,ha,hb,hx,hz,q1,q2⟩:=h
 cases rx
 cases ry
 obtain⟨ak,r1,p1,_⟩:=I.tuple ha
 obtain⟨eQ,r2,p2,_⟩:=I.tuple hb
 refine HT.OH p1 p2 (fun z=>hx<|r1.yT.mp z) (fun z=> ⟨.ref a,H,I,rfl,q1<|r2.yT.mp z⟩) (fun z=> ?_) (by rw[<-r1.length,<-r2.length];exact hz)
 refine⟨.ref s.heap.objs.size,_,I.laid (t':=s.toks) (o:= .tup (xs++ys)) (fun b ob q=>Heap.get?_push_of_some _ q) (zqR _) ?_,rfl,q2 (fun w=>z<|r2.yT.mpr w) _<|I.aE.fresh<|zqR _⟩
 exact⟨by rw[zqA];exact hz,_,r1.append r2,IsTup.new _ _⟩
end
def eZ(n:Nat)(i:Int):Option Nat:=if 0<=i then (if i<n then some i.toNat else none) else if -(n:Int)<=i then some (i+n).toNat else none
def fG{α:Type}(xs:List α)(i:Int):Option α:=(eZ xs.length i).bind fun j=>xs[j]?
theorem Er{n:Nat}{i:Int}{j:Nat}(h:eZ n i=some j):seqIndex? i n=some j/\j<n/\ -(n:Int)<=i/\i<n:=by
 unfold eZ at h
 by_cases h0:0<=i
 ·rw[if_pos h0] at h
  by_cases h1:i<n
  ·rw[if_pos h1] at h
   have e:i.toNat=j:=zal h
   exact⟨by rw[seqIndex_of h0 h1,e],by omega,by omega,h1⟩
  ·rw[if_neg h1] at h;cases h
 ·rw[if_neg h0] at h
  by_cases h1: -(n:Int)<=i
  ·rw[if_pos h1] at h
   have e:(i+n).toNat=j:=zal h
   exact⟨by rw[seqIndex_neg (by omega) h1,e],by omega,h1,by omega⟩
  ·rw[if_neg h1] at h;cases h
theorem yU{α:Type}{xs:List α}{i:Int}{v:α}(h:fG xs i=some v): ∃j,seqIndex? i xs.length=some j/\xs[j]?=some v/\j<xs.length/\ -(xs.length:Int)<=i/\i<xs.length:=by
 unfold fG at h
 cases e:eZ xs.length i with
 | none=>rw[e] at h;cases h
 | some j=>
  rw[e] at h
  obtain⟨h1,h2,h3,h4⟩:=Er e
  exact⟨j,h1,h,h2,h3,h4⟩
theorem cq{α:Type}{xs:List α}{j:Nat}{v:α}(h:xs[j]?=some v):fG xs (j:Int)=some v:=by
 have hj:j<xs.length:=(zak.mp h).1
 have e:eZ xs.length (j:Int)=some j:=by
  unfold eZ
  rw[if_pos (by omega),if_pos (by omega)];simp
 unfold fG;rw[e];exact h
theorem oy{α:Type}(xs:List α)(v:α):fG (xs++ [v]) (-1)=some v:=by
 have hl:(xs++ [v]).length=xs.length+1:=by simp
 have e:eZ (xs++ [v]).length (-1)=some xs.length:=by
  unfold eZ
  rw[hl,if_neg (by decide),if_pos (by omega)]
  congr 1
  omega
 unfold fG
 rw[e]
 show(xs++ [v])[xs.length]?=some v
 simp
def Es(b:Expr):Prop:= ∀o i,subscripted b false o i=operate [o,i] (getItem o i)
def jU(X:Cx)(r:R2):Prop:=
 ∀(value slice:Expr) (pins:List (Addr×Obj)) (s:Shared) (σ:St) (H:Hp) (x y:V) (v u:Value) (Q:VK),Inv X pins σ H s->RelV x v->RelV y u->r x y H Q->
  subscripted slice false v u=operate [v,u] (getItem v u)->wpAny (model X.prog X.w) X.A (subscriptTail value slice v u) (EP X pins σ Q) X.xe s
def kS(X:Cx)(id:String)(r:V->List V->Hp->VK->Prop):Prop:=
 ∀(pins:List (Addr×Obj)) (s:Shared) (σ:St) (H:Hp) (x:V) (xs:List V) (v:Value) (us:List Value) (Q:VK),Inv X pins σ H s->RelV x v->Vals xs us->r x xs H Q->
  wpAny (model X.prog X.w) X.A (call (.builtin id) (v::us)) (EP X pins σ Q) X.xe s
section
variable {X:Cx} {a b:Expr} {ta tb:TE} {pos:Pos}
theorem jU.or{r r':R2}(h:jU X r)(h':jU X r'):jU X (fun x y H Q=>r x y H Q\/r' x y H Q):=by
 intro value slice pins s σ H x y v u Q I rx ry q hs
 rcases q with q | q
 ·exact h value slice pins s σ H x y v u Q I rx ry q hs
 ·exact h' value slice pins s σ H x y v u Q I rx ry q hs
theorem OT{r:R2}(hr:jU X r)(ha:PE X a ta)(hb:PE X b tb)(hs:Es b):PE X (.Subscript a b pos) (eW r ta tb):=by
 intro pins s σ H Q I h
 exact Subscript_<|yG ha hb I h fun v u s2 x y H2 I2 rx ry q=>hr a b pins s2 σ H2 x y v u Q I2 rx ry q (hs _ _)
def Et(K:Frag):R2:=fun x y H Q=> ∃p xs i v,x= .ref p/\y= .int i/\aq K H p xs/\fG xs i=some v/\Q v H
def Eu(K:Frag):R2:=fun x y H Q=> ∃p xs i v,x= .ref p/\y= .int i/\aG K H p xs/\fG xs i=some v/\Q v H
def Ew:R2:=fun x y H Q=> ∃z i c,x= .str z/\y= .int i/\z.length<=sizeLine/\fG z.cps.toList i=some c/\Q (.str ⟨#[c]⟩) H
theorem OU:jU X (Et X.K):=by
 intro value slice pins s σ H x y v u Q I rx ry h hs
 obtain⟨p,xs,i,z,rfl,rfl,hq,he,q⟩:=h
 cases rx
 obtain⟨t,rfl⟩:=ry
 obtain⟨ak,r,pl,hz⟩:=I.list hq
 obtain⟨j,h1,h2,h3,h4,h5⟩:=yU he
 obtain⟨w,ew,ig⟩:=r.get h2
 have hl:=r.length
 have hn:=mE
 have fin:EP X pins σ Q w s:=⟨z,H,I,ig,q⟩
 by_cases h0:0<=i
 ·have hj:i.toNat=j:=by
   rw[seqIndex_of h0 h5] at h1
   exact zal h1
  exact item_listR pl.isList h0 (by omega) (by rw[hj];simpa using ew) fin hs
 ·have hj:(i+ (ak.toArray.size:Int)).toNat=j:=by
   rw[seqIndex_neg (by omega) h4] at h1
   rw[zag,<-hl]
   exact zal h1
  exact subscriptTail_builtinR (x:=w) pl.isList.typeIs slot_list_getitem.lookup
   (wpAny_getItem_list_neg (Q:=fun r s'=>r=w/\EP X pins σ Q r s') pl.isList (by omega) (by rw[zag] <;>omega) (by omega) (by rw[hj];simpa using ew) ⟨rfl,fin⟩) hs
theorem OV:jU X (Eu X.K):=by
 intro value slice pins s σ H x y v u Q I rx ry h hs
 obtain⟨p,xs,i,z,rfl,rfl,hq,he,q⟩:=h
 cases rx
 obtain⟨t,rfl⟩:=ry
 obtain⟨ak,r,pl,hz⟩:=I.tuple hq
 obtain⟨j,h1,h2,h3,h4,h5⟩:=yU he
 obtain⟨w,ew,ig⟩:=r.get h2
 have hl:=r.length
 have hn:=mE
 have fin:EP X pins σ Q w s:=⟨z,H,I,ig,q⟩
 exact subscriptTail_builtinR (x:=w) pl.typeIs slot_tuple_getitem.lookup
  (getItem_tuple (j:=j) (Q:=fun r s'=>r=w/\EP X pins σ Q r s') pl (by omega) (by omega) (by rw[zag,<-hl];exact h1) (by simpa using ew) ⟨rfl,fin⟩) hs
theorem OW:jU X Ew:=by
 intro value slice pins s σ H x y v u Q I rx ry h hs
 obtain⟨z,i,c,rfl,rfl,hz,he,q⟩:=h
 obtain⟨t,rfl⟩:=rx
 obtain⟨t',rfl⟩:=ry
 obtain⟨j,h1,h2,h3,h4,h5⟩:=yU he
 have hl:z.cps.toList.length=z.length:=by simp[Str.length]
 rw[hl] at h1 h4 h5
 have hn:=mE
 exact tail_any (typeIs_str s z t) slot_str_getitem.lookup (getItem_str (c:=c) (by
  have e1:decide (i< -(2 ^ 63:Int))=false:=zqF (by omega)
  have e2:decide (i≥2 ^ 63)=false:=zqF (by omega)
  rw[e1,e2,zbp]) (by rw[h1];simpa using h2) ⟨.str ⟨#[c]⟩,H,I.tok _,⟨_,rfl⟩,q⟩) hs
theorem OX(ak:List Value)(n j:Nat)(u:Value):Obj.mapSeq (·.setIfInBounds j u) {cls:= .type "list",data:= .seq ak.toArray n}={cls:= .type "list",data:= .seq (ak.set j u).toArray n}:=by
 simp[Obj.mapSeq]
theorem Inv.lst{pins:List (Addr×Obj)}{σ:St}{H:Hp}{s:Shared}{p:Addr}{xs:List V}(I:Inv X pins σ H s)(h:H p=some (.lst xs)):
  ∃(ak:List Value) (n:Nat),Vals xs ak/\s.heap.get? p=some {cls:= .type "list",data:= .seq ak.toArray n}/\xs.length<=sizeLine:=by
 obtain⟨z,ak,n,r,e⟩:=I.aE p _ h
 exact⟨ak,n,r,e,z⟩
theorem Inv.OY{pins:List (Addr×Obj)}{σ:St}{H:Hp}{s:Shared}{p:Addr}{xs ys:List V}{ak gC:List Value}{n n':Nat}{f:Obj->Obj}(I:Inv X pins σ H s)(h:H p=some (.lst xs))
  (ho:s.heap.get? p=some {cls:= .type "list",data:= .seq ak.toArray n}) (hf:f {cls:= .type "list",data:= .seq ak.toArray n}={cls:= .type "list",data:= .seq gC.toArray n'}) (r:Vals ys gC) (hz:ys.length<=sizeLine) (t:Nat):
  Inv X pins σ (upd H p<|.lst ys) {s with heap:=s.heap.update p f,toks:=t}:=by
 have e:(s.heap.update p f).get? p=some {cls:= .type "list",data:= .seq gC.toArray n'}:=by
  rw[Heap.get?_update_self f ho (by rw[hf] <;>rfl),hf]
 refine I.write (x:=p) (e:=p) (by rw[h];trivial) (.inl rfl) (fun b u hb q=> (Heap.get?_update_other _ _<|Ne.symm hb).trans q) ⟨_,e⟩ ?_
 exact⟨hz,gC,n',r,e⟩
def yV:V->V->V->Hp->(Hp->Prop)->Prop:=fun o i v H Q=> ∃p xs k j,o= .ref p/\i= .int k/\H p=some (.lst xs)/\eZ xs.length k=some j/\Q (upd H p<|.lst<|xs.set j v)
theorem set_list:DK X yV:=by
 intro pins s σ H o i v ov iv u Q I ro ri rv h
 obtain⟨p,xs,k,j,rfl,rfl,hp,hj,q⟩:=h
 cases ro
 obtain⟨t,rfl⟩:=ri
 obtain⟨ak,n,r,ho,hz⟩:=I.lst hp
 obtain⟨h1,h2,h3,h4⟩:=Er hj
 have hl:=r.length
 have hn:=mE
 have I':Inv X pins σ (upd H p<|.lst<|xs.set j v) {s with heap:=s.heap.update p (Obj.mapSeq (·.setIfInBounds j u))}:=
  I.OY hp ho (OX ak n j u) (r.set rv j) (by rw[zaP];exact hz) s.toks
 by_cases h0:0<=k
 ·have hk:k.toNat=j:=by
   rw[seqIndex_of h0 h4] at h1
   exact zal h1
  exact PySem.W.ki_setAt ho h0 (by omega) (by rw[zag,<-hl];exact h4) (by rw[hk];exact⟨_,I',q⟩)
 ·have hk:(k+ (ak.toArray.size:Int)).toNat=j:=by
   rw[seqIndex_neg (by omega) h3] at h1
   rw[zag,<-hl]
   exact zal h1
  exact PySem.W.ki_setBack ho (by omega) (by rw[zag,<-hl];exact h3) (by omega) (by rw[hk];exact⟨_,I',q⟩)
theorem yW(lo hi:Option Int)(n:Nat):(sliceBounds lo hi none n).1=((HT.a_ n 0 lo:Nat):Int)/\(sliceBounds lo hi none n).2.1=((HT.a_ n n hi:Nat):Int)/\(sliceBounds lo hi none n).2.2=1:=by
 refine⟨?_, ?_,rfl⟩
 ·cases lo with
  | none=>simp[sliceBounds,HT.a_]
  | some i=>
   simp only[sliceBounds,HT.a_,Option.getD_none,show(1:Int) >0 by decide,if_true]
   by_cases h:i<0
   ·simp only[h,if_true] <;>omega
   ·simp only[h,if_false] <;>omega
 ·cases hi with
  | none=>simp[sliceBounds,HT.a_]
  | some i=>
   simp only[sliceBounds,HT.a_,Option.getD_none,show(1:Int) >0 by decide,if_true]
   by_cases h:i<0
   ·simp only[h,if_true] <;>omega
   ·simp only[h,if_false] <;>omega
theorem OZ(ak:List Value)(lo hi:Option Int):slicePick ak.toArray lo hi none=((ak.drop<|HT.a_ ak.length 0 lo).take<|HT.a_ ak.length ak.length hi - HT.a_ ak.length 0 lo).toArray:=by
 obtain⟨h1,h2,h3⟩:=yW lo hi ak.toArray.size
 unfold slicePick
 rw[h1,h2,h3]
 simp only[sliceRange_one,pick_run,zag] <;>rfl
def O0(K:Frag):V->Option Int->Option Int->Hp->VK->Prop:=fun x lo hi H Q=> ∃a xs,x= .ref a/\aq K H a xs/\ ∀p,H p=none->Q (.ref p) (upd H p<|.lst<|du xs lo hi)
theorem O1:vb X (O0 X.K):=by
 intro pins s σ H x v vl vu lo hi sl Q I rx hs pl pu h
 obtain⟨a,xs,rfl,hx,q⟩:=h
 cases rx
 obtain⟨ak,r,ht,hz⟩:=I.list hx
 have hlen:=r.length
 refine⟨"list",_,slot_list_getitem.lookup,ht.isList.typeIs, ?_⟩
 refine wpAny_getItem_list_slice ht.isList hs pl pu .none (by simp) ?_ (by rw[zag] <;>omega)
 rw[OZ,<-hlen]
 refine⟨.ref s.heap.objs.size,_,I.laid (t':=s.toks) (o:= .lst (du xs lo hi)) (fun b ob q=>Heap.get?_push_of_some _ q) (zqR _) ?_,rfl,q _<|I.aE.fresh<|zqR _⟩
 exact⟨zaw (yS xs lo hi) hz,_,0,(r.drop<|HT.a_ xs.length 0 lo).take<|HT.a_ xs.length xs.length hi - HT.a_ xs.length 0 lo,Heap.get?_push_size _ rfl⟩
def eR:V->Bool
 | .aC=>true
 | .bl _=>true
 | .int _=>true
 | .str _=>true
 | _=>false
def dN:V->V->Bool
 | .aC, .aC=>true
 | .bl a, .bl b=>a==b
 | .bl a, .int b=> (if a then 1 else 0)==b
 | .int a, .bl b=>a==(if b then 1 else 0)
 | .int a, .int b=>a==b
 | .str a, .str b=>a==b
 | _,_=>false
theorem O2{A:Around}{s:Shared}{y x:V}{u v:Value}(ry:RelV y u)(rx:RelV x v)(fy:eR y=true)(fx:eR x=true):SeqAt.EqAt A s u v (dN y x):=by
 cases y with
 | aC=>
  cases ry
  cases x with
  | aC=>cases rx;exact SeqAt.EqAt.same _
  | bl b=>cases rx;exact SeqAt.EqAt.none_bool b
  | int b=>obtain⟨t,rfl⟩:=rx;exact SeqAt.EqAt.none_int b t
  | str b=>obtain⟨t,rfl⟩:=rx;exact SeqAt.EqAt.none_str b t
  | _=>exact absurd (show false=true from fx) zax
 | bl a=>
  cases ry
  cases x with
  | aC=>cases rx;exact SeqAt.EqAt.bool_none a
  | bl b=>cases rx;exact SeqAt.EqAt.bool_bool a b
  | int b=>obtain⟨t,rfl⟩:=rx;exact SeqAt.EqAt.bool_int a b t
  | str b=>obtain⟨t,rfl⟩:=rx;exact SeqAt.EqAt.bool_str a b t
  | _=>exact absurd (show false=true from fx) zax
 | int a=>
  obtain⟨t',rfl⟩:=ry
  cases x with
  | aC=>cases rx;exact SeqAt.EqAt.int_none a t'
  | bl b=>cases rx;exact SeqAt.EqAt.int_bool a t' b
  | int b=>obtain⟨t,rfl⟩:=rx;exact SeqAt.EqAt.int_int a t' b t
  | str b=>obtain⟨t,rfl⟩:=rx;exact SeqAt.EqAt.int_str a t' b t
  | _=>exact absurd (show false=true from fx) zax
 | str a=>
  obtain⟨t',rfl⟩:=ry
  cases x with
  | aC=>cases rx;exact SeqAt.EqAt.str_none a t'
  | bl b=>cases rx;exact SeqAt.EqAt.str_bool a t' b
  | int b=>obtain⟨t,rfl⟩:=rx;exact SeqAt.EqAt.str_int a t' b t
  | str b=>obtain⟨t,rfl⟩:=rx;exact SeqAt.EqAt.str_str a t' b t
  | _=>exact absurd (show false=true from fx) zax
 | _=>exact absurd (show false=true from fy) zax
def eG(x:V)(u:Value):Bool:=match u with
 | .none=>dN .aC x
 | .bool b=>dN (.bl b) x
 | .int i _=>dN (.int i) x
 | .str z _=>dN (.str z) x
 | _=>false
theorem vc{x y:V}{u:Value}(r:RelV y u)(f:eR y=true):eG x u=dN y x:=by
 cases y with
 | aC=>cases r;rfl
 | bl b=>cases r;rfl
 | int i=>obtain⟨t,rfl⟩:=r;rfl
 | str z=>obtain⟨t,rfl⟩:=r;rfl
 | _=>exact absurd (show false=true from f) zax
theorem rT{x:V}: ∀{xs:List V} {us:List Value},Vals xs us->xs.all eR=true->us.any (eG x)=xs.any fun y=>dN y x
 | _,_, .nil,_=>rfl
 | y::xs,u::us, .cons r t,f=>by
  rw[zbe,zah] at f
  rw[zby,zby,vc r f.1,rT t f.2]
theorem oA{A:Around}{s:Shared}{x:V}{v:Value}(rx:RelV x v)(fx:eR x=true): ∀{xs:List V} {us:List Value},Vals xs us->xs.all eR=true-> ∀u∈us,SeqAt.EqAt A s u v (eG x u)
 | _,_, .nil,_=>fun u hu=>by cases hu
 | y::xs,u::us, .cons r t,f=>fun u' hu=>by
  rw[zbe,zah] at f
  rcases zaa.mp hu with rfl | hu
  ·rw[vc r f.1];exact O2 r rx f.1 fx
  ·exact oA rx fx t f.2 u' hu
def cG(x:V)(xs:List V):Bool:=xs.any fun y=>dN y x
def yX(K:Frag)(neg:Bool):R2:=fun x y H Q=> ∃p xs,y= .ref p/\(aq K H p xs\/aG K H p xs)/\eR x=true/\xs.all eR=true/\Q (.bl (if neg then !cG x xs else cG x xs)) H
theorem O3:bo X (compareOp .In) (yX X.K false):=by
 intro pins s σ H x y v u Q I rx ry h
 obtain⟨p,xs,rfl,hq,fx,fs,q⟩:=h
 cases ry
 rcases hq with hq | hq
 ·obtain⟨ak,r,pl,hz⟩:=I.list hq
  refine SeqAt.in_listAt (eG x) pl.isList (fun w hw=>oA rx fx r fs w (by simpa using hw)) ⟨.bl _,H,I,rfl, ?_⟩
  rw[show ak.toArray.any (eG x)=ak.any (eG x) by simp,rT r fs]
  exact q
 ·obtain⟨ak,r,pl,hz⟩:=I.tuple hq
  refine SeqAt.in_tupleAt (eG x) pl (fun w hw=>oA rx fx r fs w (by simpa using hw)) ⟨.bl _,H,I,rfl, ?_⟩
  rw[show ak.toArray.any (eG x)=ak.any (eG x) by simp,rT r fs]
  exact q
theorem O4:bo X (compareOp .NotIn) (yX X.K true):=by
 intro pins s σ H x y v u Q I rx ry h
 obtain⟨p,xs,rfl,hq,fx,fs,q⟩:=h
 cases ry
 rcases hq with hq | hq
 ·obtain⟨ak,r,pl,hz⟩:=I.list hq
  refine SeqAt.notIn_listAt (eG x) pl.isList (fun w hw=>oA rx fx r fs w (by simpa using hw)) ⟨.bl _,H,I,rfl, ?_⟩
  rw[show ak.toArray.any (eG x)=ak.any (eG x) by simp,rT r fs]
  exact q
 ·obtain⟨ak,r,pl,hz⟩:=I.tuple hq
  refine SeqAt.notIn_tupleAt (eG x) pl (fun w hw=>oA rx fx r fs w (by simpa using hw)) ⟨.bl _,H,I,rfl, ?_⟩
  rw[show ak.toArray.any (eG x)=ak.any (eG x) by simp,rT r fs]
  exact q
theorem cy.or{f:Value}{r r':List V->Hp->VK->Prop}(h:cy X f r)(h':cy X f r'):cy X f (fun xs H Q=>r xs H Q\/r' xs H Q):=by
 intro pins s σ H xs us Q I rs q
 rcases q with q | q
 ·exact h pins s σ H xs us Q I rs q
 ·exact h' pins s σ H xs us Q I rs q
theorem O5:cy X (.type "list") (fun xs H Q=> ∃p ys,xs=[.ref p]/\(aq X.K H p ys\/aG X.K H p ys)/\ ∀l,H l=none->Q (.ref l) (upd H l<|.lst ys)):=by
 intro pins s σ H xs us Q I r h
 obtain⟨p,ys,rfl,hq,q⟩:=h
 obtain⟨u,rfl,rx⟩:=vals1 r
 cases rx
 have fin: ∀(ak:List Value),Vals ys ak->ys.length<=sizeLine-> ∀(h':Heap) (c':Nat),(∀b o',s.heap.get? b=some o'->h'.get? b=some o')->
   h'.get? s.heap.objs.size=some {cls:= .type "list",dict:=none,data:= .seq ak.toArray c',slots:= #[]}->EP X pins σ Q (.ref s.heap.objs.size) {s with heap:=h'}:=fun ak r' hz h' c' kp e=>
  ⟨.ref s.heap.objs.size,_,I.laid (t':=s.toks) kp (zqR _) (show cg X.prog X.w _ h' _ (.lst ys) from⟨hz,ak,c',r',e⟩),rfl,q _<|I.aE.fresh<|zqR _⟩
 rcases hq with hq | hq
 ·obtain⟨ak,r',pl,hz⟩:=I.list hq
  have hlen:=r'.length
  obtain⟨o,ho,hc,n,hd⟩:=pl.isList
  exact call_list_seq p (.inl rfl) ho hc hd (fun h' c' kp e=>fin ak r' hz h' c' kp e) (by simp only[zag] <;>omega)
 ·obtain⟨ak,r',pl,hz⟩:=I.tuple hq
  have hlen:=r'.length
  obtain⟨o,ho,hc,n,hd⟩:=pl
  exact call_list_seq p (.inr rfl) ho hc hd (fun h' c' kp e=>fin ak r' hz h' c' kp e) (by simp only[zag] <;>omega)
theorem O6:cy X (.type "tuple") (fun xs H Q=> ∃p ys,xs=[.ref p]/\((aq X.K H p ys/\ ∀l,H l=none->Q (.ref l) (upd H l<|.tup ys))\/(aG X.K H p ys/\Q (.ref p) H))):=by
 intro pins s σ H xs us Q I r h
 obtain⟨p,ys,rfl,h⟩:=h
 obtain⟨u,rfl,rx⟩:=vals1 r
 cases rx
 rcases h with⟨hq,q⟩ | ⟨hq,q⟩
 ·obtain⟨ak,r',pl,hz⟩:=I.list hq
  have hlen:=r'.length
  refine call_tuple_list pl.isList (fun h' kp=> ?_) (by simp only[zag] <;>omega)
  have I1:Inv X pins σ H {s with heap:=h'}:=I.kept (t':=s.toks) kp
  have I2:Inv X pins σ (upd H h'.objs.size<|.tup ys) {s with heap:=h'.push {cls:= .type "tuple",data:= .seq ak.toArray}}:=
   I1.laid (t':=s.toks) (fun b o e=>Heap.get?_push_of_some _ e) (zqR _) (show cg X.prog X.w _ _ _ (.tup ys) from⟨hz,ak,r',IsTup.new _ _⟩)
  exact⟨.ref h'.objs.size,_,I2,rfl,q _<|I1.aE.fresh<|zqR _⟩
 ·obtain⟨ak,r',pl,hz⟩:=I.tuple hq
  exact call_tuple_same pl ⟨.ref p,H,I,rfl,q⟩
def qm(K:Frag)(T:String)(x:V)(H:Hp):Prop:=match x with
 | .str _=>T="str"
 | .int _=>T="int"
 | .ref p=> (T="list"/\ ∃xs,aq K H p xs)\/(T="tuple"/\ ∃o,K.lookup p=some o/\o.cls= .type "tuple"/\o.dict=none)\/
   (T="dict"/\((∃kvs,H p=some (.dK kvs))\/ ∃kvs,H p=some (.dT kvs)))\/(T="set"/\ ∃S n,H p=some (.set S n))
 | _=>False
theorem Ex{pins:List (Addr×Obj)}{σ:St}{H:Hp}{s:Shared}{T:String}{x:V}{v:Value}(I:Inv X pins σ H s)(r:RelV x v)(ty:qm X.K T x H):
  s.TypeIs v T/\ ∀a,v= .ref a-> ∃ob,s.heap.get? a=some ob/\ob.dict=none:=by
 cases x with
 | str z=>
  obtain⟨t,rfl⟩:=r
  cases (show T="str" from ty)
  exact⟨typeIs_str s z t,fun _ e=>nomatch e⟩
 | int i=>
  obtain⟨t,rfl⟩:=r
  cases (show T="int" from ty)
  exact⟨typeIs_int s i t,fun _ e=>nomatch e⟩
 | ref p=>
  cases r
  rcases ty with⟨rfl,xs,hq⟩ | ⟨rfl,o,hk,hc,hd⟩ | ⟨rfl,hk⟩ | ⟨rfl,S,n,hk⟩
  ·obtain⟨ak,_,pl,_⟩:=I.list hq
   refine⟨pl.isList.typeIs,fun a e=> ?_⟩
   cases e
   obtain⟨o,n,e,c,hd,_⟩:=pl
   exact⟨o,e,hd⟩
  ·refine⟨⟨o,I.dn p o hk,hc⟩,fun a e=> ?_⟩
   cases e
   exact⟨o,I.dn _ o hk,hd⟩
  ·have z: ∃o,s.heap.get? p=some o/\o.ExactDict:=by
    rcases hk with⟨kvs,hk⟩ | ⟨kvs,hk⟩
    ·obtain⟨_,_,_,_,o,_,_,e,ex,_⟩:=I.aE p _ hk
     exact⟨o,e,ex⟩
    ·obtain⟨_,_,_,_,o,_,_,e,ex,_⟩:=I.aE p _ hk
     exact⟨o,e,ex⟩
   obtain⟨o,e,ex⟩:=z
   refine⟨⟨o,e,ex.1⟩,fun a e2=> ?_⟩
   cases e2
   exact⟨o,e,ex.2.1⟩
  ·obtain⟨o,_,_,_,e,ex,_⟩:=I.aE p _ hk
   refine⟨⟨o,e,ex.1⟩,fun a e2=> ?_⟩
   cases e2
   exact⟨o,e,ex.2.1⟩
 | _=>exact False.elim ty
def O7(K:Frag)(T:String)(r:V->List V->Hp->VK->Prop)(to:TE):TE:=fun σ H Q=>to σ H fun x H1=>qm K T x H1/\r x [] H1 Q
def O8(K:Frag)(T:String)(r:V->List V->Hp->VK->Prop)(to:TE)(t:TA):TE:=fun σ H Q=>to σ H fun x H1=>qm K T x H1/\t σ H1 fun xs H2=>r x xs H2 Q
variable {o e:Expr} {es:List Expr} {to:TE} {t:TA} {name:Str} {apos dv:Pos} {T id:String} {r:V->List V->Hp->VK->Prop}
theorem O9(pa:PlainAttrs T)(slot:Slot T name id)(yY:typeOf (.builtin id)=pure (.type "method_descriptor"))(hm:kS X id r)(ho:PE X o to)
  (yZ:attributeBase o name X.env (eval o X.env)=eval o X.env:=by rfl) (y2:(apos.endLine==dv.line)=true:=by rfl):PE X (.Call (.Attribute o name apos) [] [] dv) (O7 X.K T r to):=by
 intro pins s σ H Q I h
 refine wpAny_Call_method0_late yZ y2<|aH (ho pins s σ H _ I h) fun v s1 ⟨x,H1,I1,r1,ty,q1⟩=> ?_
 obtain⟨h1,h2⟩:=Ex I1 r1 ty
 exact⟨T,id,pa,slot,yY,h1,h2,Calls.callWith_builtin rfl<|PySem.evalArgs_none<|hm pins s1 σ H1 x [] v [] Q I1 r1 .nil q1⟩
theorem O_(pa:PlainAttrs T)(slot:Slot T name id)(yY:typeOf (.builtin id)=pure (.type "method_descriptor"))(hm:kS X id r)(ho:PE X o to)(ha:PA X (e::es) t)
  (yZ:attributeBase o name X.env (eval o X.env)=eval o X.env:=by rfl)
  (Pa:((backTo dv (starEach (e::es) X.env)).all (fun x=> !x.1) && (backToKw dv (keywordEach [] X.env)).all (fun x=>x.1.isSome)
   && decide ((e::es).length+ ([]:List Keyword).length+ (if ([]:List Keyword).isEmpty then 0 else 1) <30))=true:=by rfl)
  (y2:(apos.endLine==dv.line)=true:=by rfl) (hs:starEach (e::es) X.env=(false,eval e X.env)::starEach es X.env:=by rfl) (Pb:(backTo dv<|starEach es X.env).any (·.1)=false:=by rfl):
  PE X (.Call (.Attribute o name apos) (e::es) [] dv) (O8 X.K T r to t):=by
 intro pins s σ H Q I h
 refine wpAny_Call_method_late yZ Pa y2 rfl<|aH (ho pins s σ H _ I h) fun v s1 ⟨x,H1,I1,r1,ty,q1⟩=> ?_
 obtain⟨h1,h2⟩:=Ex I1 r1 ty
 refine⟨T,id,pa,slot,yY,h1,h2, ?_⟩
 have hA:=ha dv pins s1 σ H1 _ I1 q1
 rw[hs] at hA⊢
 refine Calls.callWith_builtin (by show(false || (backTo dv<|starEach es X.env).any (·.1))=false;rw[Pb] <;>rfl)<|Calls.evalArgs_plain ?_
 exact aH hA fun us s2 ⟨vs,H2,I2,r2,q2⟩=>hm pins s2 σ H2 x vs v us Q I2 r1 r2 q2
end
def rV(X:Cx)(id:String)(r:V->List V->Hp->VK->Prop):Prop:=
 ∀(pins:List (Addr×Obj)) (s:Shared) (σ:St) (H:Hp) (x:V) (xs:List V) (v:Value) (us:List Value) (Q:VK),Inv X pins σ H s->RelV x v->Vals xs us->r x xs H Q->
  wpAny (model X.prog X.w) X.A (call (.builtin id) (v::us)) (EP X pins σ Q) X.xe s
theorem Vals.one: ∀{x:V} {us:List Value},Vals [x] us-> ∃u,us=[u]/\RelV x u
 | _,_, .cons r .nil=> ⟨_,rfl,r⟩
theorem Vals.zero: ∀{us:List Value},Vals [] us->us=[]
 | _, .nil=>rfl
theorem Vals.dropLast{xs:List V}{us:List Value}(h:Vals xs us):Vals xs.dropLast us.dropLast:=by
 induction h with
 | nil=>exact .nil
 | cons r t ih=>
  cases t with
  | nil=>exact .nil
  | cons q t'=>exact .cons r ih
theorem Vals.reverse{xs:List V}{us:List Value}(h:Vals xs us):Vals xs.reverse us.reverse:=by
 induction h with
 | nil=>exact .nil
 | cons r t ih=>rw[zaC,zaC];exact Vals.append ih (.cons r .nil)
theorem Vals.rep{xs:List V}{us:List Value}(h:Vals xs us): ∀k:Nat,Vals (List.replicate k xs).flatten (List.replicate k us).flatten
 | 0=> .nil
 | k+1=>by
  rw[zbz,zbz,zbQ,zbQ]
  exact Vals.append h<|Vals.rep h k
theorem Pc{α:Type}(l:List α):l.eraseIdx (l.length - 1)=l.dropLast:=by
 induction l with
 | nil=>rfl
 | cons a r ih=>
  cases r with
  | nil=>rfl
  | cons b r=>
   have e:(a::b::r).length - 1=((b::r).length - 1)+1:=by
    have h1:(a::b::r).length=r.length+2:=rfl
    have h2:(b::r).length=r.length+1:=rfl
    omega
   rw[e,List.eraseIdx_cons_succ,ih]
   all_goals rfl
theorem foldl_rep(ak:List Value): ∀(k:Nat) (acc:List Value),
  List.foldl (fun x1 x2=>x1++x2) acc.toArray (List.replicate k ak.toArray)=(acc++ (List.replicate k ak).flatten).toArray
 | 0,acc=>by simp
 | k+1,acc=>by
  have e:acc.toArray++ak.toArray=(acc++ak).toArray:=by simp
  have e2:(acc++ak)++ (List.replicate k ak).flatten=acc++ (List.replicate (k+1) ak).flatten:=by
   rw[zbz,zbQ,zai]
  rw[<-e2,<-foldl_rep ak k (acc++ak),<-e,zbz,zbf]
section
variable {X:Cx} {pins:List (Addr×Obj)} {σ:St} {H:Hp} {s:Shared} {l b:Addr} {xs ys zs:List V}
theorem Inv.rW{ak gC:List Value}{n:Nat}{f:Array Value->Array Value}{t':Nat}(I:Inv X pins σ H s)(hH:H l=some (.lst xs))
  (e:s.heap.get? l=some {cls:= .type "list",data:= .seq ak.toArray n}) (hf:f ak.toArray=gC.toArray) (hv:Vals ys gC) (hz:ys.length<=sizeLine):
  Inv X pins σ (upd H l<|.lst ys) {s with heap:=s.heap.update l (Obj.mapSeq f),toks:=t'}:=by
 have q:=PySem.IsL.update e f
 rw[hf] at q
 refine I.write (x:=l) (e:=l) (by rw[hH];exact trivial) (.inl rfl) (fun b' u hb hu=> (Heap.get?_update_other s.heap (Obj.mapSeq f)<|Ne.symm hb).trans hu) ⟨_,q⟩ ?_
 exact⟨hz,gC,_,hv,q⟩
theorem Inv.Ey{ak:List Value}{t':Nat}(I:Inv X pins σ H s)(hv:Vals ys ak)(hz:ys.length<=sizeLine):
  Inv X pins σ (upd H s.heap.objs.size<|.lst ys) {s with heap:=s.heap.push {cls:= .type "list",data:= .seq ak.toArray},toks:=t'}:=
 I.laid (fun _ _ q=>Heap.get?_push_of_some _ q) (zqR _) ⟨hz,ak,0,hv,Heap.get?_push_size _ rfl⟩
theorem Inv.fresh(I:Inv X pins σ H s):H s.heap.objs.size=none:=I.aE.fresh (zqR _)
theorem Inv.kT(I:Inv X pins σ H s)(hH:H l=some (.lst xs)):xs.length<=sizeLine/\ ∃(ak:List Value) (n:Nat),Vals xs ak/\xs.length=ak.length/\s.heap.get? l=some {cls:= .type "list",data:= .seq ak.toArray n}:=by
 obtain⟨z,ak,n,r,e⟩:=I.aE l _ hH
 exact⟨z,ak,n,r,r.length,e⟩
theorem Ez{n:Nat}(h:n<=sizeLine):Builtin.List.listTooLong n=false:=by
 unfold Builtin.List.listTooLong
 exact zqF (by omega)
end
section
variable {X:Cx}
def Pd:V->List V->Hp->VK->Prop:=fun x vs H Q=> ∃l xs y,x= .ref l/\vs=[y]/\H l=some (.lst xs)/\xs.length<sizeLine/\Q .aC (upd H l<|.lst<|xs++ [y])
theorem Pe:rV X "list.append" Pd:=by
 intro pins s σ H x vs v us Q I rx rv h
 obtain⟨l,xs,y,rfl,rfl,hH,hz,q⟩:=h
 cases rx
 obtain⟨u,rfl,ru⟩:=rv.one
 obtain⟨z,ak,n,r,hl,e⟩:=I.kT hH
 refine call_meets F.slot_list_append ⟨_,e,rfl⟩ F.entry_list_append (F.args_list_append_2 _ _) (PySem.list_append l ak.toArray n u (by rw[zag];omega)) ⟨e, ?_⟩
 refine⟨.aC,_,I.rW (gC:=ak++ [u]) hH e (by simp) (r.append<|.cons ru .nil) ?_,rfl,q⟩
 rw[zqA,zaQ]
 omega
def Pf:V->List V->Hp->VK->Prop:=fun x vs H Q=> ∃l b xs zs,x= .ref l/\vs=[.ref b]/\H l=some (.lst xs)/\H b=some (.lst zs)/\xs.length+zs.length<=sizeLine/\Q .aC (upd H l<|.lst<|xs++zs)
theorem Pg:rV X "list.extend" Pf:=by
 intro pins s σ H x vs v us Q I rx rv h
 obtain⟨l,b,xs,zs,rfl,rfl,hH,hB,hz,q⟩:=h
 cases rx
 obtain⟨u,rfl,ru⟩:=rv.one
 cases ru
 obtain⟨z,ak,n,r,hl,e⟩:=I.kT hH
 obtain⟨z2,eQ,n2,r2,dO,e2⟩:=I.kT hB
 have hsz:ak.toArray.size+eQ.toArray.size<=sizeLine:=by rw[zag,zag];omega
 have y6: ¬(!ak.toArray.isEmpty && Builtin.List.listTooLong (ak.toArray.size+eQ.toArray.size))=true:=by
  rw[Ez hsz,Bool.and_false]
  exact zax
 refine call_meets F.slot_list_extend ⟨_,e,rfl⟩ F.entry_list_extend (F.args_list_extend_2 _ _)
  (AutoSeq1.list_extend_list_list_0 l ak.toArray n b eQ.toArray n2 y6 (by rw[zag];omega) (by omega)) ⟨e,e2, ?_⟩
 refine⟨.aC,_,I.rW (gC:=ak++eQ) hH e (by simp) (r.append r2) ?_,rfl,q⟩
 rw[zqA]
 omega
def Ph:V->List V->Hp->VK->Prop:=fun x vs H Q=> ∃l xs y,x= .ref l/\vs=[]/\H l=some (.lst xs)/\xs[xs.length - 1]?=some y/\Q y (upd H l<|.lst xs.dropLast)
theorem Pj:rV X "list.pop" Ph:=by
 intro pins s σ H x vs v us Q I rx rv h
 obtain⟨l,xs,y,rfl,rfl,hH,hy,q⟩:=h
 cases rx
 have rX:=rv.zero
 subst rX
 obtain⟨z,ak,n,r,hl,e⟩:=I.kT hH
 obtain⟨u,hu,ru⟩:=r.get hy
 have rY:ak.toArray[ak.toArray.size - 1]?=some u:=by
  show ak.toArray[ak.length - 1]?=some u
  rw[<-Array.getElem?_toList,<-hl]
  exact hu
 refine call_meets F.slot_list_pop ⟨_,e,rfl⟩ F.entry_list_pop (F.args_list_pop_1 _) (MeetsSeq.list_pop_last l ak.toArray n u rY (by rw[zag];omega)) ⟨e, ?_⟩
 refine⟨y,_,I.rW (gC:=ak.dropLast) hH e ?_ r.dropLast ?_,ru,q⟩
 ·show ak.toArray.eraseIdxIfInBounds (ak.toArray.size - 1)=ak.dropLast.toArray
  rw[zag,List.eraseIdxIfInBounds_toArray,Pc]
 ·rw[zcd]
  omega
def Pk:V->List V->Hp->VK->Prop:=fun x vs H Q=> ∃l xs,x= .ref l/\vs=[]/\H l=some (.lst xs)/\Q .aC (upd H l<|.lst xs.reverse)
theorem Pl:rV X "list.reverse" Pk:=by
 intro pins s σ H x vs v us Q I rx rv h
 obtain⟨l,xs,rfl,rfl,hH,q⟩:=h
 cases rx
 have rX:=rv.zero
 subst rX
 obtain⟨z,ak,n,r,hl,e⟩:=I.kT hH
 refine call_meets F.slot_list_reverse ⟨_,e,rfl⟩ F.entry_list_reverse (F.args_list_reverse_1 _) (AutoSeq1.list_reverse_list_0 l ak.toArray n (by rw[zag];omega)) ⟨e, ?_⟩
 refine⟨.aC,_,I.rW (gC:=ak.reverse) hH e (by simp) r.reverse ?_,rfl,q⟩
 rw[zaF]
 omega
def Pm:V->List V->Hp->VK->Prop:=fun x vs H Q=> ∃l xs,x= .ref l/\vs=[]/\H l=some (.lst xs)/\Q .aC (upd H l<|.lst [])
theorem Pn:rV X "list.clear" Pm:=by
 intro pins s σ H x vs v us Q I rx rv h
 obtain⟨l,xs,rfl,rfl,hH,q⟩:=h
 cases rx
 have rX:=rv.zero
 subst rX
 obtain⟨z,ak,n,r,hl,e⟩:=I.kT hH
 refine call_meets F.slot_list_clear ⟨_,e,rfl⟩ F.entry_list_clear (F.args_list_clear_1 _) (AutoSeq1.list_clear_list_0 l ak.toArray n (by rw[zag];omega)) ⟨e, ?_⟩
 exact⟨.aC,_,I.rW (gC:=[]) (ys:=[]) hH e rfl .nil<|zqZ _,rfl,q⟩
def EA:R2:=fun x y H Q=> ∃l b xs zs,x= .ref l/\y= .ref b/\H l=some (.lst xs)/\H b=some (.lst zs)/\xs.length+zs.length<=sizeLine/\ ∀p,H p=none->Q (.ref p) (upd H p<|.lst<|xs++zs)
theorem Po:bo X (binaryOp .Add) EA:=by
 intro pins s σ H x y v u Q I rx ry h
 obtain⟨l,b,xs,zs,rfl,rfl,hH,hB,hz,q⟩:=h
 cases rx
 cases ry
 obtain⟨z,ak,n,r,hl,e⟩:=I.kT hH
 obtain⟨z2,eQ,n2,r2,dO,e2⟩:=I.kT hB
 refine PySem.P.add_list e e2 ?_ (by rw[zag,zag];omega)
 have ea:ak.toArray++eQ.toArray=(ak++eQ).toArray:=by simp
 rw[ea]
 exact⟨.ref _,_,I.Ey (t':=s.toks) (r.append r2) (by rw[zqA];omega),rfl,q _ I.fresh⟩
def EB:R2:=fun x y H Q=> ∃l k xs,x= .ref l/\y= .int k/\H l=some (.lst xs)/\ -(2 ^ 63)<=k/\k<2 ^ 63/\xs.length*k.toNat<=sizeLine/\
 ∀p,H p=none->Q (.ref p) (upd H p<|.lst (List.replicate k.toNat xs).flatten)
theorem len_rep{α:Type}(xs:List α)(k:Nat):(List.replicate k xs).flatten.length=k*xs.length:=by
 induction k with
 | zero=>simp
 | succ k ih=>rw[zbz,zbQ,zqA,ih,Nat.succ_mul,Nat.add_comm]
theorem Pp:bo X (binaryOp .Mult) EB:=by
 intro pins s σ H x y v u Q I rx ry h
 obtain⟨l,k,xs,rfl,rfl,hH,h1,h2,hz,q⟩:=h
 cases rx
 obtain⟨t,rfl⟩:=ry
 obtain⟨z,ak,n,r,hl,e⟩:=I.kT hH
 have hlen:ak.toArray.size*k.toNat<=sizeLine:=by rw[zag,<-hl];exact hz
 have Pq: ¬ak.toArray.size*k.toNat> (2 ^ 63 - 1) / 8:=by
  have:(sizeLine:Nat)<= (2 ^ 63 - 1) / 8:=by decide
  omega
 have Pr: ¬(!Builtin.List.listFitsIndex k)=true:=by
  rw[fitsIndex_both h1 h2]
  exact zax
 have y6: ¬Builtin.List.listTooLong (ak.toArray.size*k.toNat)=true:=by
  rw[Ez hlen]
  exact zax
 have Pu:List.foldl (fun x1 x2=>x1++x2) #[] (List.replicate (if ak.toArray.isEmpty=true then 0 else k.toNat) ak.toArray)=(List.replicate k.toNat ak).flatten.toArray:=by
  have f0: ∀m:Nat,List.foldl (fun x1 x2=>x1++x2) #[] (List.replicate m ak.toArray)=(List.replicate m ak).flatten.toArray:=fun m=>by
   have:=foldl_rep ak m []
   rw[zbg] at this
   exact this
  rw[f0]
  cases ak with
  | nil=>simp
  | cons a r'=>rw[if_neg (by simp)]
 refine wpAny_binaryOp_repeat_ref (T:="list") (U:="int") (by decide) ⟨_,e,rfl⟩ (fun s'=>typeIs_int s' k t) noFill_list_mul F.fills_int_mul F.slot_int_rmul repeat_list F.slot_int_index.lookup
  (call_meets F.slot_int_rmul (typeIs_int s k t) F.entry_int_rmul (F.args_int_rmul_2 _ _) (int___rmul___int_list k t l ak.toArray n)
   ⟨e,rfl,⟨_,e,rfl⟩,call_meets F.slot_list_mul ⟨_,e,rfl⟩ F.entry_list_mul (F.args_list_mul_2 _ _) (AutoListH.list___mul___list_int_3 l ak.toArray n k t Pr Pq y6) ⟨e, ?_⟩⟩)
 rw[Pu]
 exact⟨.ref _,_,I.Ey (t':=s.toks) (r.rep k.toNat) (by rw[len_rep,Nat.mul_comm];exact hz),rfl,q _ I.fresh⟩
end
section
variable {prog:Program} {w:World} {A:Around} {E:Value->Shared->Prop} {s:Shared}
end
section
variable {X:Cx}
end
end L2
namespace EC
open PySem PySem.W PySem.Calls PyProof.Rows
theorem Pw{P:Params}{h:Heap}: ∀(ns:List Int) (vs:List Value),WellAll P h vs (ns.map WData.int)->IntsAre vs ns:=by
 intro ns
 induction ns with
 | nil=>
  intro vs w
  rw[zbd] at w
  cases w
  exact .nil
 | cons n ns ih=>
  intro vs w
  rw[zay] at w
  cases w with
  | cons a b=>
   cases a
   exact .cons _ _<|ih _ b
theorem Px{l:OpenLaw}{n:Nat}(hn:l.most=some n){P:Params}{h:Heap}{args:List WData}{vals:List Value}
  (kU:l.row.toRowW.claim.pre args=true) (y7:WellAll P h vals args):
  ∃a vs ns,vals=[Value.ref a]/\args=[WData.list<|ns.map WData.int]/\h.get? a=some {cls:= .type "list",data:= .seq vs.toArray}/\IntsAre vs ns/\ns.length<=n:=by
 have Py:WShape.hasAll [] args [.list .int]=true:=(pre_splitW kU).1
 have hc:l.pre.holds [] {args:=args}=true:=(pre_splitW kU).2
 obtain⟨d,r,rfl,h1,h2⟩:=hasAllW_cons Py
 obtain rfl:=hasAllW_nil h2
 obtain⟨xs,rfl,h3⟩:=hasW_list h1
 obtain⟨ns,rfl⟩:=items_int h3
 have hlen:ns.length<=n:=by
  unfold OpenLaw.pre at hc
  have h4:(WTm.not<|.lt (.lit<|.int (n:Int))<|.len<|.arg 0).holds [] {args:=[.list<|ns.map .int]}=true:=by
   have h4:=(holds_andW hc).1
   rw[hn] at h4
   exact h4
  have h5:=condW_of h4 (w_not<|w_lt w_lit<|w_len_list<|w_arg rfl)
  rw[zab] at h5
  refine Nat.le_of_not_lt fun q=> ?_
  have q':(n:Int) < ((ns.length:Nat):Int):=by omega
  first
   | (rw[zqT q'] at h5;exact absurd h5 (by decide))
   | (simp at h5;omega)
 cases y7 with
 | cons w1 w2=>
  cases w2
  cases w1 with
  | list ho mI=>exact⟨_,_,ns,rfl,rfl,ho,Pw ns _ mI,hlen⟩
theorem Pz(l:OpenLaw)(args:List WData):l.row.toRowW.claim.post args (.bool true) args=true:=
 postW_of (r:=l.row.toRowW) (X:=(true==true))
  (show WShape.has [] (.bool true) .bool=true by first | rfl | decide | simp[WShape.has,WShape.arms,WShape.armsAll])
  (show(WTm.eq .res<|.lit<|.bool true).value [] {args:=args,res:=some (.bool true),after:=args}=some (.bool<|true==true) from w_eq_bool (w_res rfl) w_lit) rfl
theorem PB{l:OpenLaw}{n:Nat}{q:Program}{loose:List Str}{XP:(Str->Option Value)->Heap->Prop}{YP:World->Heap->Prop}{d:DefRec}
  (hn:l.most=some n) (rZ:d.params.defaults=[])
  (call: ∀(w:World) (s₀ s₁:Shared) (mg mb:Str->Option Value) (fa:Addr) (o:Obj) (pm cd doc:Value) (a:Addr) (vs:List Value) (ns:List Int),
   Ground q loose [] XP w s₀ mg mb s₁.heap->YP w s₁.heap->
   s₁.heap.get? fa=some o->o.data= .func (docDef d.name d.params d.body d.scope pm cd doc)->s₁.heap.CodeRec cd d.name->mg d.name=some (.ref fa)->
   s₁.heap.get? a=some {cls:= .type "list",data:= .seq vs.toArray}->IntsAre vs ns->ns.length<=n->s₁.gens= #[]->
   codeAny (model l.prog w) callerA (.call (.ref fa) ⟨[.ref a],[]⟩) (fun r s'=>r= .ok (.ret (.bool true))/\OldK s₁.heap s'.heap/\s'.os=s₁.os/\AllBare s'.gens) s₁):
  WalkO q loose XP YP l.row.toRowW d [] (fun f vs=>PySem.call f vs):=by
 intro w s₀ s₁ mg mb G Y fa o pm cd doc dV kV ho hd jQ hD r9 hg args vals as kU acM hrd y7 vd
 obtain rfl:dV= .none:=Dflts.none hD rZ
 obtain rfl:kV= .none:=Dflts.noKw hD
 obtain⟨a,vs,ns,rfl,rfl,y8,hints,hlen⟩:=Px hn kU y7
 refine enter_call<|codeAny_mono (call w s₀ s₁ mg mb fa o pm cd doc a vs ns G Y ho (fd_plain hd) jQ r9 y8 hints hlen hg) fun r s' hq=> ?_
 obtain⟨rfl,h2,h3,h4⟩:=hq
 exact⟨.inl ⟨.bool true, .bool true,[],rfl,fun _=>rfl, .bool true,Pz l _,fun _=> ⟨List.Pairwise.nil,fun _ hm=> (nomatch hm)⟩⟩,h2,h3,h4⟩
section
variable {prog:Program} {w:World} {A:Around} {E:Value->Shared->Prop} {s:Shared} {K:Frag}
end
end EC
namespace L2
open PySem PySem.Spec PyProof.Rows
theorem ED: ∀{vs:List Value} {ns:List Int},IntsAre vs ns->Vals (ns.map V.int) vs
 | _,_, .nil=> .nil
 | _,_, .cons n t h=> .cons ⟨t,rfl⟩ (ED h)
def y9(H:Hp):Prop:= ∀b,H b=none\/ ∃o xs,H b=some (.bX o<|.lst xs)
theorem PC{P:Program}{w:World}{K:Frag}{mg mb:Str->Option Value}{CX:bN}{k:Nat}{fa a:Addr}{fd:FuncData}{x:Str}{sp:Sp}{s₁:Shared}{vs:List Value}{ns:List Int}
  (KX:K.In s₁.heap) (ve:s₁.heap.Ns mainGlobals mg) (hb:s₁.heap.Ns builtinsNs mb) (PD: ∀x:Str,x≠"__name__"->mb x=bootBuiltins x) (PF:s₁.heap.NoLimit) (hg:s₁.gens= #[])
  (ha:s₁.heap.get? a=some {cls:= .type "list",data:= .seq vs.toArray}) (hi:IntsAre vs ns) (hl:ns.length<=sizeLine) (hr:dq k callerA)
  (F: ∀base:Heap,K.In base->base.Ns mainGlobals mg->cX P w K mg base CX k fa fd [x] sp) (PH: ∀(s:Shared) (u:Value),BindsTo s fd ⟨[u],[]⟩ [(x,u)])
  (mG: ∀H:Hp,y9 H->aq K H a (ns.map V.int)->sp [.ref a] H (fun v _=>v= .bl true) fun _ _ _=>False)
  (y_: ∀H e s',CX [] H s₁ (fun _ _ _=>False) e s'->False):
  codeAny (model P w) callerA (.call (.ref fa) ⟨[.ref a],[]⟩) (fun r s'=>r= .ok (.ret<|.bool true)/\OldK s₁.heap s'.heap/\s'.os=s₁.os/\AllBare s'.gens) s₁:=by
 have rv:=ED hi
 have r_:=hi.length
 have core: ∀H:Hp,y9 H->aq K H a (ns.map V.int)->cj P w H s₁.heap->(∀b,H b≠none->b=a)->(H a≠none->K.lookup a=none)->
   codeAny (model P w) callerA (.call (.ref fa) ⟨[.ref a],[]⟩) (fun r s'=>r= .ok (.ret<|.bool true)/\OldK s₁.heap s'.heap/\s'.os=s₁.os/\AllBare s'.gens) s₁:=by
  intro H hO hS aE hA hK
  have oB: ∀{b:Addr} {o:Obj},s₁.heap.get? b=some o->H b=none->(kI s₁.heap H).get? b=some o:=fun e n=>MO e n
  have rQ: ∀{b:Addr} {o:Obj} {es:Array DictEntry} {ep:Nat},s₁.heap.get? b=some o->o.data= .dict es ep->H b=none:=fun {b o es ep} e d=>by
   cases q:H b with
   | none=>rfl
   | some u=>
    have e':b=a:=hA b (by rw[q];simp)
    subst e'
    rw[ha] at e;cases e
    have d':Data.seq vs.toArray _=Data.dict es ep:=d
    cases d'
  have vf: ∀{b:Addr} {m:Str->Option Value},s₁.heap.Ns b m->(kI s₁.heap H).Ns b m:=fun {b m} ⟨o,es,ep,e,d,r⟩=> ⟨o,es,ep,oB e<|rQ e d,d,r⟩
  have EE:K.In (kI s₁.heap H):=fun b o e=>oB (KX b o e) (by
   cases q:H b with
   | none=>rfl
   | some u=>
    have e':b=a:=hA b (by rw[q];simp)
    subst e'
    rw[hK (by rw[q];simp)] at e;cases e)
  have hM:Mod K mg (kI s₁.heap H):=⟨EE,vf ve,⟨mb,vf hb,PD⟩,let ⟨mc,h1,h2⟩:=PF;⟨mc,vf h1,h2⟩⟩
  have e0:mF P w K mg (kI s₁.heap H) callerA [] s₁ H:=⟨rfl,hM,fun b o e=>MP e,Nat.le_of_eq<|MN _ _,trivial,fun b hb=>absurd (show b∈ ([]:List Addr) from hb) (by simp),aE, .of_eq hg⟩
  refine codeAny_mono ((F _ EE<|vf ve).run callerA [] s₁ H ⟨[.ref a],[]⟩ [.ref a] [.ref a] _ _ hr e0 (PH s₁<|.ref a) (.cons rfl .nil)<|mG H hO hS) fun r s' h=> ?_
  cases r with
  | error e=>exact(y_ H e s' h).elim
  | ok fl=>
   cases fl with
   | next=>exact False.elim h
   | brk=>exact False.elim h
   | cont=>exact False.elim h
   | ret u=>
    obtain⟨v,H',os,bare,un,PJ,r',q⟩:=h
    have q':v= .bl true:=q
    subst q'
    obtain rfl:u=Value.bool true:=r'
    refine⟨rfl,OldK.of_keep fun b o e=> ?_,os,bare⟩
    cases q:H b with
    | none=>exact un.keep b o e q (by intro z;exact absurd (show b∈ ([]:List Addr) from z) (by simp)) (by simp)
    | some u=>
     rcases hO b with z | ⟨ob,xs,z⟩
     ·rw[q] at z;cases z
     ·have z2:=un.gY b ob _ z
      obtain⟨e1,_⟩:=aE b _ z
      obtain⟨e2,_⟩:=PJ b _ z2
      rw[e] at e1;cases e1
      exact e2
 cases hk:K.lookup a with
 | some o=>
  have e:=KX a o hk
  rw[ha] at e
  cases e
  refine core (fun _=>none) (fun _=> .inl rfl) (.inr ⟨_,vs.toArray,_,hk,rfl,rfl,rfl,by rw[zag,r_];exact hl,by simpa using rv⟩) (fun b u z=>by have z':(none:Option HO)=some u:=z;cases z') (fun b z=>absurd rfl z) fun z=>absurd rfl z
 | none=>
  refine core (fun b=>if b=a then some (.bX {cls:= .type "list",data:= .seq vs.toArray}<|.lst<|ns.map V.int) else none) (fun b=> ?_) (.inl<|.inr ⟨{cls:= .type "list",data:= .seq vs.toArray},if_pos rfl⟩) (fun b u z=> ?_) (fun b z=> ?_) fun _=>hk
  ·by_cases hb:b=a
   ·exact .inr ⟨_,_,if_pos hb⟩
   ·exact .inl (if_neg hb)
  ·by_cases hb:b=a
   ·have z':=(if_pos hb).symm.trans z
    cases z'
    subst hb
    exact⟨ha,by rw[zab];exact hl,vs,_,rv,ha⟩
   ·have z':=(if_neg hb).symm.trans z
    cases z'
  ·by_cases hb:b=a
   ·exact hb
   ·exact absurd (if_neg hb) z
theorem PK{l:PySem.W.OpenLaw}{n k:Nat}{q:Program}{loose:List Str}{XP:(Str->Option Value)->Heap->Prop}{YP:World->Heap->Prop}{d:DefRec}{K:Params->Frag}{CX:World->bN}{sp:World->Sp}{x:Str}
  (hn:l.most=some n) (iP:n<=sizeLine) (rZ:d.params.defaults=[]) (hr:dq k callerA)
  (hY: ∀(w:World) (h:Heap),YP w h->(K w.params).In h)
  (F: ∀(w:World) (mg:Str->Option Value) (fa:Addr) (h:Heap),(K w.params).In h->h.Ns mainGlobals mg->mg d.name=some (.ref fa)->
   ∃fd:FuncData,(∀(s:Shared) (u:Value),BindsTo s fd ⟨[u],[]⟩ [(x,u)])/\
    ∀base:Heap,(K w.params).In base->base.Ns mainGlobals mg->cX l.prog w (K w.params) mg base (CX w) k fa fd [x] (sp w))
  (mG: ∀(w:World) (H:Hp) (a:Addr) (ns:List Int),ns.length<=n->y9 H->aq (K w.params) H a (ns.map V.int)->sp w [.ref a] H (fun v _=>v= .bl true) fun _ _ _=>False)
  (y_: ∀(w:World) (H:Hp) (s:Shared) (e:Value) (s':Shared),CX w [] H s (fun _ _ _=>False) e s'->False):
  PySem.W.WalkO q loose XP YP l.row.toRowW d [] (fun f vs=>PySem.call f vs):=by
 refine EC.PB hn rZ fun w s₀ s₁ mg mb fa o pm cd doc a vs ns G Y ho hd jQ r9 y8 hints hlen hg=> ?_
 have KX:=hY w _ Y
 obtain⟨fd,hb,hF⟩:=F w mg fa _ KX G.T.g r9
 exact PC KX G.T.g G.T.b G.T.builtins G.T.nolimit hg y8 hints (zaw hlen iP) hr hF hb (fun H hO hS=>mG w H a ns hlen hO hS) fun H e s'=>y_ w H s₁ e s'
end L2
namespace L2
open PySem PySem.Spec PyProof.Rows
def inClass(s:Stmt)(j:Nat):Stmt:=match s with
 | .ClassDef _ _ _ body _ _ _ _ _ _ _=>body.getD j (.Pass ⟨0,0,0,0⟩)
 | _=> .Pass ⟨0,0,0,0⟩
def iU(s:Stmt):Arguments:=match s with
 | .FunctionDef _ a _ _ _ _ _ _ _ _=>a
 | _=> {posonlyargs:=[],args:=[],vararg:=none,kwonlyargs:=[],kw_defaults:=[],kwarg:=none,defaults:=[]}
def fU(s:Stmt):List Stmt:=match s with
 | .FunctionDef _ _ b _ _ _ _ _ _ _=>b
 | _=> []
def fV(s:Stmt):Scope:=match s with
 | .FunctionDef _ _ _ _ _ _ sc _ _ _=>sc
 | _=> {kind:= .function,names:=[],isGenerator:=false,isCoroutine:=false}
abbrev se:bN:=fun _ _ _ _ _ _=>False
abbrev E0:XK:=fun _ _ _=>False
structure oC (K:Frag) (x qual:Str) (st:Stmt) (f:Addr) (fd:FuncData):Prop where
 ex: ∃(oc:Value) (od:Option Addr) (kV doc pm:Value) (an:Option Addr) (bE ct:Value) (ie:Array (Option Value)),
  fd=PySem.W.fnOf x qual (iU st) (fU st) (fV st) .none kV doc pm an bE ct/\K.lookup f=some ⟨oc,od, .func fd,ie⟩/\PySem.W.codeIn K bE qual=true
 kp:PySem.W.keepIn K (.ref f)=true
section
variable {P:Program} {w:World} {K:Frag} {mg:Str->Option Value} {base:Heap}
theorem oC.binds{x qual:Str}{st:Stmt}{f:Addr}{fd:FuncData}{ps:List Str}(F:oC K x qual st f fd)
  (h: ∀(kV doc pm:Value) (an:Option Addr) (bE ct:Value) (us:List Value),us.length=ps.length->bindArgs (PySem.W.fnOf x qual (iU st) (fU st) (fV st) .none kV doc pm an bE ct) ⟨us,[]⟩=pure (ps.zip us)):Binds K fd ps []:=by
 obtain⟨oc,od,kV,doc,pm,an,bE,ct,ie,rfl,lk,jQ⟩:=F.ex
 exact .all<|h kV doc pm an bE ct
theorem EF{x qual:Str}{st:Stmt}{f:Addr}{oc:Value}{od an:Option Addr}{ie:Array (Option Value)}{kV doc pm bE ct:Value}(l:K.lookup f=some ⟨oc,od, .func<|PySem.W.fnOf x qual (iU st) (fU st) (fV st) .none kV doc pm an bE ct,ie⟩)
  (c:PySem.W.codeIn K bE qual=true) (k:PySem.W.keepIn K (.ref f)=true):oC K x qual st f (PySem.W.fnOf x qual (iU st) (fU st) (fV st) .none kV doc pm an bE ct):=⟨⟨oc,od,kV,doc,pm,an,bE,ct,ie,rfl,l,c⟩,k⟩
end
section
variable {X:Cx}
end
theorem gE{A B:Prop}(h:B):if false=true then A else B:=by
 rw[if_neg zax]
 exact h
theorem fI{A B:Prop}(h:A):if true=true then A else B:=by
 rw[if_pos rfl]
 exact h
theorem mJ{c A B:Prop}[Decidable c](h1:c->A)(h2: ¬c->B):if c then A else B:=by
 by_cases h:c
 ·rw[if_pos h]
  exact h1 h
 ·rw[if_neg h]
  exact h2 h
def aB(H H':Hp):Prop:= ∀b o,H b=some o->H' b=some o
theorem aB.refl(H:Hp):aB H H:=fun _ _ h=>h
theorem aB.trans{H H1 H2:Hp}(a:aB H H1)(b:aB H1 H2):aB H H2:=fun c o h=>b c o (a c o h)
theorem aB.free{H H':Hp}(e:aB H H'){l:Addr}(h:H' l=Option.none):H l=Option.none:=by
 cases q:H l with
 | none=>rfl
 | some o=>
  rw[e l o q] at h
  cases h
theorem aB.seq{K:Frag}{H H':Hp}{a:Addr}{xs:List V}(e:aB H H')(h:aq K H a xs):aq K H' a xs:=by
 rcases h with(h | ⟨o,h⟩) | h
 ·exact .inl (.inl<|e _ _ h)
 ·exact .inl (.inr ⟨o,e _ _ h⟩)
 ·exact .inr h
section
variable {κ:Type} [DecidableEq κ]
def eT(kvs:List (κ×V))(k:κ):Option V:=(kvs.find? fun kv=>decide (kv.1=k)).map (·.2)
def putK(kvs:List (κ×V))(k:κ)(v:V):List (κ×V):=
 if (kvs.any fun kv=>decide (kv.1=k))=true then kvs.map (fun kv=>if kv.1=k then (kv.1,v) else kv) else kvs++ [(k,v)]
theorem mK{p:κ×V}{r:List (κ×V)}{k:κ}(e:p.1=k):eT (p::r) k=some p.2:=by simp[eT,zaO,e]
theorem g_{p:κ×V}{r:List (κ×V)}{k:κ}(e: ¬p.1=k):eT (p::r) k=eT r k:=by simp[eT,zaO,e]
theorem za(k:κ): ∀kvs:List (κ×V),(kvs.any fun kv=>decide (kv.1=k))=(eT kvs k).isSome
 | []=>rfl
 | p::r=>by
  rw[zby]
  by_cases e:p.1=k
  ·simp only[mK e,zqT e,Bool.true_or,Option.isSome_some]
  ·rw[g_ e,zqF e,Bool.false_or];exact za k r
theorem zb(kvs:List (κ×V))(k:κ)(v:V):(putK kvs k v).length<=kvs.length+1:=by
 unfold putK
 split
 ·rw[zab];omega
 ·rw[zqA,zao,zbh];omega
theorem sf{kvs:List (κ×V)}{k:κ}(v:V)(h:eT kvs k=none):putK kvs k v=kvs++ [(k,v)]:=by
 unfold putK
 rw[za,h]
 exact if_neg (by decide)
theorem gc.PL{o:Option V}{u:Option Value}(r:gc o u):o.isSome=u.isSome:=by
 cases o with
 | none=>cases u with
  | none=>rfl
  | some _=>exact(show False from r).elim
 | some _=>cases u with
  | none=>exact(show False from r).elim
  | some _=>rfl
theorem KV.val{kvs:List (κ×V)}{vs:List (κ×Value)}(r:KV kvs vs)(k:κ):gc (eT kvs k) (valueAt vs k):=by
 unfold KV at r
 induction r with
 | nil=>exact True.intro
 | @cons p q ps qs h t ih=>
  obtain⟨h1,h2⟩:=h
  by_cases e:p.1=k
  ·have e':q.1=k:=h1.symm.trans e
   have b:valueAt (q::qs) k=some q.2:=by simp[valueAt,zaO,e']
   rw[mK e,b];exact h2
  ·have e': ¬q.1=k:=fun z=>e (h1.trans z)
   have b:valueAt (q::qs) k=valueAt qs k:=by simp[valueAt,zaO,e']
   rw[g_ e,b];exact ih
theorem KV.any{kvs:List (κ×V)}{vs:List (κ×Value)}(r:KV kvs vs)(k:κ):(kvs.any fun kv=>decide (kv.1=k))=vs.any fun kv=>decide (kv.1=k):=by
 unfold KV at r
 induction r with
 | nil=>rfl
 | cons h t ih=>rw[zby,zby,ih,h.1]
theorem KV.zc{kvs:List (κ×V)}{vs:List (κ×Value)}(r:KV kvs vs)(k:κ){y:V}{u:Value}(ry:RelV y u):
  KV (kvs.map fun kv=>if kv.1=k then (kv.1,y) else kv) (vs.map fun kv=>if kv.1=k then (kv.1,u) else kv):=by
 unfold KV at r⊢
 induction r with
 | nil=>exact .nil
 | @cons p q ps qs h t ih=>
  rw[zay,zay]
  refine .cons ?_ ih
  obtain⟨h1,h2⟩:=h
  by_cases e:p.1=k
  ·rw[if_pos e,if_pos<|h1.symm.trans e];exact⟨h1,ry⟩
  ·rw[if_neg e,if_neg<|fun z=>e<|h1.trans z];exact⟨h1,h2⟩
theorem KV.put{kvs:List (κ×V)}{vs:List (κ×Value)}(r:KV kvs vs)(k:κ){y:V}{u:Value}(ry:RelV y u):KV (putK kvs k y) (stored vs k u):=by
 unfold putK stored
 rw[r.any k]
 by_cases e:(vs.any fun kv=>decide (kv.1=k))=true
 ·rw[if_pos e,if_pos e];exact r.zc k ry
 ·rw[if_neg e,if_neg e];exact Paired.snoc r ⟨rfl,ry⟩
theorem KV.length{kvs:List (κ×V)}{vs:List (κ×Value)}(r:KV kvs vs):kvs.length=vs.length:=Paired.length r
end
theorem vg{P:Program}{w:World}{k:Key}{u:Value}(r:RelV (kV k) u):(dF P w).is k u=true:=by
 cases k with
 | inl i=>obtain⟨t,e⟩:=(show ∃t,u=Value.int i t from r);subst e;exact Dm P w i t
 | inr x=>obtain⟨t,e⟩:=(show ∃t,u=Value.str x t from r);subst e;exact uE P w x t
theorem EG{P:Program}{w:World}: ∀{ks:List Key} {us:List Value},Vals (ks.map kV) us->ItemsAre (dF P w) ks us
 | [],_,r=>by rw[zbd] at r;cases r;exact .nil
 | k::ks,_,r=>by
  rw[zay] at r
  cases r with
  | cons h t=>exact .cons (vg h) (EG t)
abbrev KT(H:Hp):List (List Key×V)->List (List Key×Addr×Value)->Prop:=Paired fun p q=>p.1=q.1/\H q.2.1=some (.tup<|p.1.map kV)/\RelV p.2 q.2.2
theorem KT.val{H:Hp}{kvs:List (List Key×V)}{xs:List (List Key×Addr×Value)}(r:KT H kvs xs)(k:List Key):gc (eT kvs k) ((atKey xs k).map (·.2)):=by
 induction r with
 | nil=>exact True.intro
 | @cons p q ps qs h t ih=>
  obtain⟨h1,_,h2⟩:=h
  by_cases e:p.1=k
  ·have e':q.1=k:=h1.symm.trans e
   have b:atKey (q::qs) k=some q.2:=by simp[atKey,zaO,e']
   rw[mK e,b];exact h2
  ·have e': ¬q.1=k:=fun z=>e (h1.trans z)
   have b:atKey (q::qs) k=atKey qs k:=by simp[atKey,zaO,e']
   rw[g_ e,b];exact ih
theorem KT.zc{H:Hp}{kvs:List (List Key×V)}{xs:List (List Key×Addr×Value)}(r:KT H kvs xs)(k:List Key){y:V}{u:Value}(ry:RelV y u):
  KT H (kvs.map fun kv=>if kv.1=k then (kv.1,y) else kv) (xs.map<|putAt k u):=by
 induction r with
 | nil=>exact .nil
 | @cons p q ps qs h t ih=>
  rw[zay,zay]
  refine .cons ?_ ih
  obtain⟨h1,h2,h3⟩:=h
  unfold putAt
  by_cases e:p.1=k
  ·rw[if_pos e,if_pos<|h1.symm.trans e];exact⟨h1,h2,ry⟩
  ·rw[if_neg e,if_neg<|fun z=>e<|h1.trans z];exact⟨h1,h2,h3⟩
theorem KT.put{H:Hp}{kvs:List (List Key×V)}{xs:List (List Key×Addr×Value)}(r:KT H kvs xs)(k:List Key){b:Addr}{y:V}{u:Value}(hb:H b=some (.tup<|k.map kV))(ry:RelV y u):
  KT H (putK kvs k y) (storedH xs k b u):=by
 have e:(kvs.any fun kv=>decide (kv.1=k))=(atKey xs k).isSome:=by
  rw[za,(r.val k).PL,Option.isSome_map]
 unfold putK storedH
 rw[e]
 by_cases q:(atKey xs k).isSome=true
 ·rw[if_pos q,if_pos q];exact r.zc k ry
 ·rw[if_neg q,if_neg q];exact Paired.snoc r ⟨rfl,hb,ry⟩
theorem KT.keeps{H H':Hp}{kvs:List (List Key×V)}{xs:List (List Key×Addr×Value)}(r:KT H kvs xs)(ht: ∀b ys,H b=some (.tup ys)->H' b=some (.tup ys)):KT H' kvs xs:=
 Paired.yk r fun _ _ z=> ⟨z.1,ht _ _ z.2.1,z.2.2⟩
section
variable {P:Program} {w:World} {H:Hp} {h:Heap} {a:Addr}
theorem EH{u:HO}(ok:cj P w H h)(e:Rd H a u):cg P w H h a u:=e.ok ok
theorem zd{kvs:List (Key×V)}(ok:cj P w H h)(e:Rd H a (.dK kvs)):kvs.length<=sizeLine/\(a==sysModules)=false/\ ∃vs,KV kvs vs/\h.DictOf (dF P w) a vs:=
 show cg P w H h a (.dK kvs) from EH ok e
theorem EI{kvs:List (Key×V)}(ok:cj P w H h)(e:H a=some (.dK kvs)):kvs.length<=sizeLine/\(a==sysModules)=false/\ ∃vs,KV kvs vs/\h.DictOf (dF P w) a vs:=zd ok (.inl e)
theorem ze{ks:List Key}(ok:cj P w H h)(e:H a=some (.tup<|ks.map kV)):(tupleKind<|dF P w).is h ks a:=by
 obtain⟨_,ak,r,o,h1,h2,n,h3⟩:=(show cg P w H h a (.tup<|ks.map kV) from ok a _ e)
 exact⟨o,ak.toArray,n,h1,h2,h3,by simpa using EG r⟩
theorem zf{kvs:List (List Key×V)}(ok:cj P w H h)(e:Rd H a (.dT kvs)):kvs.length<=sizeLine/\(a==sysModules)=false/\
  ∃xs,KT H kvs xs/\h.DictOfH (tupleKind<|dF P w) a xs:=by
 obtain⟨z,y,xs,r,o,es,ep,h1,h2,h3,h4,h5⟩:=(show cg P w H h a (.dT kvs) from EH ok e)
 refine⟨z,y,xs,r,o,es,ep,h1,h2,h3,h4,fun x hx=> ?_,h5⟩
 have all: ∀{l:List (List Key×V)} {m:List (List Key×Addr×Value)},KT H l m-> ∀x∈m,(tupleKind<|dF P w).is h x.1 x.2.1:=by
  intro l m q
  induction q with
  | nil=>intro x hx;exact nomatch hx
  | @cons p q ps qs hq t ih=>
   intro x hx
   rcases zaa.mp hx with e | hx
   ·subst e
    exact ze ok (by rw[<-hq.1];exact hq.2.1)
   ·exact ih x hx
 exact all r x hx
theorem PM{kvs:List (List Key×V)}(ok:cj P w H h)(e:H a=some (.dT kvs)):kvs.length<=sizeLine/\(a==sysModules)=false/\
  ∃xs,KT H kvs xs/\h.DictOfH (tupleKind<|dF P w) a xs:=zf ok (.inl e)
end
def qo(H:Hp)(a:Addr)(y:V)(r:Option V):Prop:=
 (∃kvs k,Rd H a (.dK kvs)/\y=kV k/\r=eT kvs k)\/ ∃kvs k b,Rd H a (.dT kvs)/\y= .ref b/\H b=some (.tup<|k.map kV)/\r=eT kvs k
def vh(H:Hp)(a:Addr)(y v:V)(H':Hp):Prop:=
 (∃kvs k,H a=some (.dK kvs)/\y=kV k/\kvs.length<sizeLine/\H'=upd H a (.dK<|putK kvs k v))\/
 ∃kvs k b,H a=some (.dT kvs)/\y= .ref b/\H b=some (.tup<|k.map kV)/\kvs.length<sizeLine/\H'=upd H a (.dT<|putK kvs k v)
section
variable {X:Cx} {pins:List (Addr×Obj)} {σ:St} {H:Hp} {s:Shared} {a:Addr} {y v:V} {u r:Value} {o:Option V} {A:Around} {E:Value->Shared->Prop}
theorem Inv.big(I:Inv X pins σ H s):sysModules<s.heap.objs.size:=by
 have h:mainGlobals<s.heap.objs.size:=(I.mod.glob.keeps I.bk).lt
 exact Nat.lt_trans (by decide) h
theorem PN{Q:Value->Shared->Prop}(hu:A.units+1<cLine)(I:Inv X pins σ H s)(g:qo H a y (some v))(ry:RelV y u)(h: ∀w' s',Inv X pins σ H s'->RelV v w'->Q w' s'):
  wpAny (model X.prog X.w) A (getItem (.ref a) u) Q E s:=by
 rcases g with⟨kvs,k,e,ey,l⟩ | ⟨kvs,k,b,e,ey,eb,l⟩
 ·subst ey
  obtain⟨z,hd,vs,rel,dd⟩:=zd I.aE e
  obtain⟨w',hw,ig⟩:=gc.some_of (v:=v) (o:=valueAt vs k) (by rw[l];exact rel.val k)
  exact wpAny_getItem_of (vg ry) dd.mapOf hw<|h w' _ (I.tok _) ig
 ·subst ey
  cases (show u=Value.ref b from ry)
  obtain⟨z,hd,xs,rel,dd⟩:=zf I.aE e
  obtain⟨w',hw,ig⟩:=gc.some_of (v:=v) (o:=(atKey xs k).map (·.2)) (by rw[l];exact rel.val k)
  obtain⟨p,hp,si⟩:=zbi.mp hw
  refine wpAny_getItem_heap (tupleKind_room_in1 hu) (ze I.aE eb) dd hp ?_
  rw[si]
  exact h w' _ (I.tok _) ig
theorem zg{h':Heap}{t':Nat}{ob:HO}(I:Inv X pins σ H s)(mu:rG (H a))(hs:Heap.SameBut a s.heap h')(he: ∃q,h'.get? a=some q)(new:cg X.prog X.w (upd H a ob) h' a ob):
  Inv X pins σ (upd H a ob) {s with heap:=h',toks:=t'}:=
 I.write (x:=a) (e:=a) mu (.inl rfl) (fun b q hb z=> (hs.2 b hb).trans z) he new
theorem EJ{P:Program}{w:World}{H':Hp}{h':Heap}{kvs:List (Key×V)}{vs:List (Key×Value)}(z:kvs.length<=sizeLine)(hd:(a==sysModules)=false)(rel:KV kvs vs)(dd:h'.DictOf (dF P w) a vs):
  cg P w H' h' a (.dK kvs):=⟨z,hd,vs,rel,dd⟩
theorem PQ{H':Hp}{Q:Unit->Shared->Prop}(hu:A.units+1<cLine)(I:Inv X pins σ H s)(g:vh H a y v H')(ry:RelV y u)(rv:RelV v r)(h: ∀s',Inv X pins σ H' s'->Q () s'):
  wpAny (model X.prog X.w) A (setItem (.ref a) u r) Q E s:=by
 rcases g with⟨kvs,k,e,ey,l,eH⟩ | ⟨kvs,k,b,e,ey,eb,l,eH⟩
 ·subst ey eH
  obtain⟨z,hd,vs,rel,dd⟩:=EI I.aE e
  have hz:vs.length<=sizeLine:=by rw[<-rel.length];exact z
  have hl:(putK kvs k v).length<=sizeLine:=by have:=zb kvs k v;omega
  refine wpAny_setItem_pairs (hsz:=hz) (vg ry) dd fun h' oE hs=>h _ ?_
  have he: ∃q,h'.get? a=some q:=let ⟨q,_,_,hq,_⟩:=oE;⟨q,hq⟩
  exact zg I (by rw[e];exact True.intro) hs he<|EJ hl hd (rel.put k rv) oE
 ·subst ey eH
  cases (show u=Value.ref b from ry)
  obtain⟨z,hd,xs,rel,dd⟩:=PM I.aE e
  have hz:xs.length<=sizeLine:=by rw[<-Paired.length rel];exact z
  have hl:(putK kvs k v).length<=sizeLine:=by have:=zb kvs k v;omega
  refine wpAny_setItem_heap (hsz:=hz) (tupleKind_room_in1 hu) (ze I.aE eb) dd fun h' oE hs=>h _ ?_
  obtain⟨q,es,ep,hq,h2,h3,h4,_,h5⟩:=oE
  refine zg I (by rw[e];exact True.intro) hs ⟨q,hq⟩ ⟨hl,hd,_,(rel.put k eb rv).keeps fun c ys ec=> ?_,q,es,ep,hq,h2,h3,h4,h5⟩
  rw[aN<|iM ec e<|fun z=>nomatch z]
  exact ec
end
section
variable {X:Cx} {pins:List (Addr×Obj)} {σ:St} {H:Hp} {s:Shared} {a:Addr} {kvs:List (Key×V)} {k:Key} {u:Value} {A:Around} {E:Value->Shared->Prop}
end
def zh(i:Expr):Prop:= ∀ov iv,subscripted i false ov iv=operate [ov,iv] (getItem ov iv)
theorem PR{prog:Program}{w:World}{A:Around}{E:Value->Shared->Prop}{s:Shared}{env:Env}{value slice:Expr}{pos:Pos}{T id:String}{Q:Value->Shared->Prop}
  (hl:typeLookup (.type T) "__getitem__"=pure (some<|.builtin id)) (hs:zh slice)
  (h:wpAny (model prog w) A (eval value env) (fun o s₁=>wpAny (model prog w) A (eval slice env) (fun i s₂=>s₂.TypeIs o T/\wpAny (model prog w) A (getItem o i) Q E s₂) E s₁) E s):
  wpAny (model prog w) A (eval (.Subscript value slice pos) env) Q E s:=by
 refine Subscript_<|wpAny_mono h (fun o s₁ h₁=>wpAny_mono h₁ (fun i s₂ h₂=> ?_) fun _ _ x=>x) fun _ _ x=>x
 obtain⟨hT,h₂⟩:=h₂
 unfold subscriptTail
 refine wpAny_bind ?_
 rw[getitemInPython_of_ne hT.not_modules]
 refine wpAny_bind<|wpAny_specialOf hT hl ?_
 have fin:wpAny (model prog w) A (subscripted slice false o i) (fun r s₃=>wpAny (model prog w) A (letTemporaryGo value o r>>=fun _=>pure r) Q E s₃) E s₂:=by
  rw[hs o i]
  exact wpAny_operating<|wpAny_mono h₂ (fun r s₃ h₃=>wpAny_bind<|wpAny_letTemporaryGo<|wpAny_pure h₃) fun _ _ x=>x
 first
  | exact wpAny_pure (wpAny_bind fin)
  | exact wpAny_bind (wpAny_pure<|wpAny_bind fin)
  | exact wpAny_bind fin
theorem PU{X:Cx}{pins:List (Addr×Obj)}{σ:St}{H:Hp}{s:Shared}{a:Addr}{y:V}{o:Option V}(I:Inv X pins σ H s)(g:qo H a y o):s.TypeIs (.ref a) "dict":=by
 rcases g with⟨kvs,k,e,_,_⟩ | ⟨kvs,k,b,e,_,_,_⟩
 ·obtain⟨_,_,vs,_,dd⟩:=zd I.aE e
  exact dd.typeIs
 ·obtain⟨_,_,xs,_,dd⟩:=zf I.aE e
  exact dd.typeIs
def EK(td ty:TE):TE:=fun σ H Q=>td σ H fun x H1=>ty σ H1 fun y H2=> ∃a v,x= .ref a/\qo H2 a y (some v)/\Q v H2
def EL(ty td:TE):TE:=fun σ H Q=>ty σ H fun y H1=>td σ H1 fun x H2=> ∃a o,x= .ref a/\qo H2 a y o/\Q (.bl o.isSome) H2
def EM(ty td:TE):TE:=fun σ H Q=>ty σ H fun y H1=>td σ H1 fun x H2=> ∃a o,x= .ref a/\qo H2 a y o/\Q (.bl<|!o.isSome) H2
def EN(td ty tv:TE):TS:=fun D σ H=>tv σ H fun v H1=>td σ H1 fun x H2=>ty σ H2 fun y H3=> ∃a H4,x= .ref a/\vh H3 a y v H4/\D.nx σ H4
section
variable {X:Cx} {o i e value:Expr} {pos pos' yJ:Pos} {td ty tv:TE}
theorem PV(hu:X.A.units+1<cLine)(ho:PE X o td)(hi:PE X i ty)(hs:zh i):PE X (.Subscript o i pos) (EK td ty):=by
 intro pins s σ H Q I h
 refine PR PySem.F.slot_dict_getitem.lookup hs<|aH (ho pins s σ H _ I h) fun u s1 ⟨x,H1,I1,rx,q1⟩=>aH (hi pins s1 σ H1 _ I1 q1) fun iv s2 ⟨y,H2,I2,ry,a,v,ex,g,q2⟩=> ?_
 subst ex
 obtain rfl:u=Value.ref a:=rx
 exact⟨PU I2 g,PN hu I2 g ry fun w' s3 I3 ig=> ⟨v,H2,I3,ig,q2⟩⟩
theorem PX(hu:X.A.units+1<cLine)(ho:PE X o td)(hi:PE X i ty)(hv:PE X value tv)(hs:swapsWith value (some<|.Subscript o i pos') pos.line X.env=pure false):
  PS X (.Assign [.Subscript o i pos'] value pos) (EN td ty tv):=by
 intro pins s σ H D I h
 refine wpAny_Assign_Subscript (aH (hv pins s σ H _ I h) fun r s1 ⟨v,H1,I1,rv,q1⟩=>aH (ho pins s1 σ H1 _ I1 q1) fun u s2 ⟨x,H2,I2,rx,q2⟩=>aH (hi pins s2 σ H2 _ I2 q2) fun iv s3 ⟨y,H3,I3,ry,a,H4,ex,g,q3⟩=> ?_) hs
 subst ex
 obtain rfl:u=Value.ref a:=rx
 exact PQ hu I3 g ry rv fun s4 I4=> ⟨σ,H4,I4,q3⟩
end
theorem PY{P:Program}{w:World}{H:Hp}(h:Heap)(hb:sysModules<h.objs.size):cg P w H (h.push {cls:= .type "dict",data:= .dict #[]}) h.objs.size (.dK []):=
 ⟨zqZ _,beq_eq_false_iff_ne.mpr<|Ne.symm<|zan hb,[], .nil,Heap.DictOf.new h⟩
def PZ:TE:=fun _ H Q=> ∀p,H p=none->Q (.ref p) (upd H p<|.dT [])
section
variable {X:Cx} {pos:Pos}
end
def P0(H:Hp)(a:Addr):Prop:=(∃kvs,Rd H a<|.dK kvs)\/ ∃kvs,Rd H a (.dT kvs)
section
variable {X:Cx} {pins:List (Addr×Obj)} {σ:St} {H:Hp} {s:Shared} {a:Addr} {y d:V} {u r:Value} {o:Option V} {A:Around} {E:Value->Shared->Prop}
end
def P1(td ty tx:TE):TE:=fun σ H Q=>td σ H fun x H1=> ∃a,x= .ref a/\P0 H1 a/\ty σ H1 fun y H2=>tx σ H2 fun z H3=> ∃o,qo H3 a y o/\Q (o.getD z) H3
section
variable {X:Cx} {o e f:Expr} {apos dv:Pos} {td ty tx:TE}
end
end L2
set_option maxHeartbeats 4000000
namespace L2
open PySem PySem.Spec PyProof.Rows
section
variable {X:Cx} {pins:List (Addr×Obj)} {σ:St} {H:Hp} {s:Shared} {a:Addr} {o:HO}
theorem Inv.vi(I:Inv X pins σ H s)(hn:H a=none)(h0:X.s₀.heap.objs.size<=a)(hL:a≠X.env.locals)(hC: ∀x c,X.env.cells.lookup x=some c->c≠a)
  (hp: ∀p∈X.pn++pins,p.1≠a) (new:cg X.prog X.w (upd H a o) s.heap a o):Inv X pins σ (upd H a o) s:=by
 have P2: ∀b u,X.s₀.heap.get? b=some u->b≠a:=fun b u e=>zan (zar (Heap.lt_size e) h0)
 have sj: ∀b u,H b=some u->b≠a:=fun b u e=>bZ e hn
 refine⟨I.ok,I.os,I.bare,⟨I.base.keep,I.base.slot,fun b u e n hx=> ?_,I.base.there,fun b xs e=> ?_,fun b u xs e=> ?_,fun b ps e=> ?_⟩,I.loc,I.cell, ?_,fun x c e=> ?_,fun p q=> ?_,fun b u e=> ?_,I.len⟩
 ·rw[aN<|P2 b u e];exact I.base.free b u e n hx
 ·have z:=I.base.bz b xs e
  rw[aN<|sj b _ z];exact z
 ·have z:=I.base.gY b u xs e
  rw[aN<|sj b _ z];exact z
 ·obtain⟨m,z⟩:=I.base.ib b ps e
  exact⟨m,by rw[aN<|sj b _ z];exact z⟩
 ·rw[aN<|Ne.symm hL];exact I.free
 ·rw[aN<|hC x c e];exact I.kJ x c e
 ·obtain⟨z1,z2,z3⟩:=I.pin p q
  exact⟨z1,by rw[aN<|hp p q];exact z2,z3⟩
 ·by_cases hb:b=a
  ·subst hb;rw[au] at e;cases e;exact new
  ·rw[aN hb] at e
   exact(I.aE b u e).kH (fun _ _ _ q=>q) (fun c q=>by rw[aN<|sj c _ q];exact q) fun c xs q=>by rw[aN<|sj c _ q];exact q
end
def dG(cells:List (Str×Addr)):List (Str×NameKind)->List (Str×Addr)->List (Str×Addr)
 | [],acc=>acc
 | (n,k)::r,acc=>dG cells r (if k= .free then (n,(cells.lookup n).getD 0)::acc else acc)
theorem EO(env:Env): ∀(names:List (Str×NameKind)) (acc:List (Str×Addr)),(∀y∈names,y.2= .free-> ∃c,env.cells.lookup y.1=some c)->
  (forIn names acc (fun(x:Str×NameKind) (cs:List (Str×Addr))=>match x with
   | (name,kind)=>if (kind==NameKind.free)=true then do let a <-cellOf env name;pure (ForInStep.yield ((name,a)::cs)) else pure (ForInStep.yield cs)):Sem (List (Str×Addr)))=pure (dG env.cells names acc)
 | [],acc,_=>rfl
 | (n,k)::r,acc,h=>by
  have hr:=fun jV=>EO env r jV fun y hy=>h y (zaj _ hy)
  rw[List.forIn_cons]
  by_cases hk:k= .free
  ·subst hk
   obtain⟨c,e⟩:=h (n, .free) zas rfl
   have e':cellOf env n=pure c:=by unfold cellOf;rw[e]
   have ec:dG env.cells ((n, .free)::r) acc=dG env.cells r ((n,c)::acc):=by simp[dG,e]
   rw[ec,<-hr]
   simp[e']
  ·have hb:(k==NameKind.free)=false:=by simpa using hk
   have ec:dG env.cells ((n,k)::r) acc=dG env.cells r acc:=by simp[dG,hk]
   rw[ec,<-hr]
   simp[hb]
theorem P4{scope:Scope}{env:Env}(h: ∀y∈scope.names,y.2= .free-> ∃c,env.cells.lookup y.1=some c):closureFor scope env=pure (dG env.cells scope.names []):=by
 have:=EO env scope.names [] h
 simp only[closureFor]
 rw[<-this]
 simp
theorem ER{cells:List (Str×Addr)}: ∀(names:List (Str×NameKind)) (acc:List (Str×Addr)) (x:Str) (c:Addr),(dG cells names acc).lookup x=some c->(acc.lookup x=some c)\/((x, .free)∈names/\(cells.lookup x).getD 0=c)
 | [],acc,x,c,h=> .inl h
 | (n,k)::r,acc,x,c,h=>by
  simp only[dG] at h
  rcases ER r _ x c h with z | ⟨z1,z2⟩
  ·by_cases hk:k= .free
   ·subst hk
    simp only[if_true] at z
    rw[zbj] at z
    by_cases hx:x==n
    ·simp only[hx] at z
     have P5:x=n:=eq_of_beq hx
     subst P5
     exact .inr ⟨zas,zal z⟩
    ·have kW:(x==n)=false:=by simpa using hx
     simp only[kW] at z
     exact .inl z
   ·simp only[if_neg hk] at z
    exact .inl z
  ·exact .inr ⟨zaj _ z1,z2⟩
theorem zj{cells:List (Str×Addr)}: ∀(names:List (Str×NameKind)) (acc:List (Str×Addr)) (x:Str),((x,NameKind.free)∈names\/ ∃c,acc.lookup x=some c)-> ∃c,(dG cells names acc).lookup x=some c
 | [],acc,x,h=>by
  rcases h with h | h
  ·cases h
  ·exact h
 | (n,k)::r,acc,x,h=>by
  simp only[dG]
  refine zj r _ x ?_
  rcases h with h | ⟨c,h⟩
  ·rcases zaa.mp h with e | h
   ·cases e
    refine .inr ?_
    simp[zbj]
   ·exact .inl h
  ·refine .inr ?_
   by_cases hk:k= .free
   ·simp only[if_pos hk,zbj]
    cases hx:x==n
    ·exact⟨c,h⟩
    ·exact⟨_,rfl⟩
   ·simp only[if_neg hk];exact⟨c,h⟩
theorem ES{env:Env}: ∀(names:List (Str×NameKind)) (x:Str),
  (names.map fun(n,k)=>if (k==NameKind.free && env.scope.kind== .function && env.kindOf n==some .cell) then (n,NameKind.cell) else (n,k)).lookup x=
   (names.lookup x).map fun k=>if (k==NameKind.free && env.scope.kind== .function && env.kindOf x==some .cell) then NameKind.cell else k
 | [],_=>rfl
 | (n,k)::r,x=>by
  have ih:=ES (env:=env) r x
  show List.lookup x ((if (k==NameKind.free && env.scope.kind== .function && env.kindOf n==some .cell)=true then (n,NameKind.cell) else (n,k))::_)=_
  cases hx:x==n with
  | true=>
   have e:x=n:=eq_of_beq hx
   subst e
   by_cases hc:(k==NameKind.free && env.scope.kind== .function && env.kindOf x==some .cell)=true
   ·rw[if_pos hc];simp only[zbj,beq_self_eq_true,zbR];rw[if_pos hc]
   ·rw[if_neg hc];simp only[zbj,beq_self_eq_true,zbR];rw[if_neg hc]
  | false=>
   by_cases hc:(k==NameKind.free && env.scope.kind== .function && env.kindOf n==some .cell)=true
   ·rw[if_pos hc];simp only[zbj,hx];exact ih
   ·rw[if_neg hc];simp only[zbj,hx];exact ih
section
variable {prog:Program} {w:World} {A:Around} {R:Result->Shared->Prop} {s:Shared}
theorem P6{elt target iter:Expr}{ifs:List Expr}{scope:Scope}{pos:Pos}{it acc:Value}{env:Env}(I:Nat->Shared->Prop)
  (turn: ∀n s,I n s->wpAny (model prog w) A (pyNext it) (fun r s₁=>match r with
   | none=>R (.ok .next) s₁
   | some v=>wpAny (model prog w) A (letOwnedTupleGo target it v) (fun _ ET=>wpAny (model prog w) A (assign target env v) (fun _ s₂=>
     wpAny (model prog w) A (forIn ifs true fun c r=>if r=true then do let ok <-isTrue c env (eval c env);pure (ForInStep.yield ok) else pure (ForInStep.yield r)) (fun ok s₃=>
      if ok=true then wpAny (model prog w) A (eval elt env) (fun x s₄=>
       wpAny (model prog w) A (call (.builtin "list.append") [acc,x]) (fun _ s₅=> ∃m,m<n/\I m s₅) (fun _ _=>False) s₄) (fun _ _=>False) s₃
      else ∃m,m<n/\I m s₃) (fun _ _=>False) s₂) (fun _ _=>False) ET) (fun _ _=>False) s₁) (fun _ _=>False) s)
  (n:Nat) (h:I n s):codeAny (model prog w) A (.compLoop (.ListComp elt [⟨target,iter,ifs,0⟩] scope pos) 0 it acc env) R s:=by
 refine codeAny_loop rfl I (fun n s hI=> ?_) n h
 show wpAny _ A ((compTurn (.ListComp elt [⟨target,iter,ifs,0⟩] scope pos) 0 it acc env).onRaise (fun x=>do noteFrame x env;theTreesLotGoes x)) _ _ s
 refine wpAny_noted ?_
 rw[compTurn_list]
 refine wpAny_bind<|wpAny_standAt<|wpAny_bind<|wpAny_mono (turn n s hI) (fun r s₁ h₁=> ?_) fun _ _ h'=>h'.elim
 cases r with
 | none=>exact wpAny_pure h₁
 | some v=>
  refine wpAny_bind<|wpAny_mono h₁ (fun _ ET P7=> ?_) fun _ _ h'=>h'.elim
  refine wpAny_bind<|wpAny_mono P7 (fun _ s₂ h₂=>wpAny_bind<|wpAny_mono h₂ (fun ok s₃ h₃=> ?_) fun _ _ h'=>h'.elim) fun _ _ h'=>h'.elim
  cases ok with
  | false=>exact wpAny_pure ⟨rfl,h₃⟩
  | true=>
   exact wpAny_bind<|wpAny_bind<|wpAny_mono h₃ (fun x s₄ h₄=>wpAny_bind<|wpAny_mono h₄ (fun _ s₅ h₅=>wpAny_pure<|wpAny_pure ⟨rfl,h₅⟩) fun _ _ h'=>h'.elim) fun _ _ h'=>h'.elim
end
def gF(X:Cx)(scope:Scope)(N:List Str)(ex:List Addr)(C:Addr)(s:Shared)(H:Hp):Cx where
 prog:=X.prog
 w:=X.w
 K:=X.K
 mg:=X.mg
 base:=X.base
 A:=X.A
 N:=N
 s₀:=s
 H₀:=H
 env:=compEnvC scope (dG X.env.cells scope.names []) C X.env
 outer:=X.stack
 stack:=X.stack
 ex:=ex
 fn:=fun _=>false
 calm:=X.calm
 pn:=[]
 xe:=fun _ _=>False
structure jw (X:Cx) (scope:Scope) (ln:List Str) (fv:List (Str×Nat)):Prop where
 kind:scope.kind= .function
 EU: ∀y∈scope.names,y.2≠ .cell
 locals: ∀y∈scope.names,y.2= .local->scope.names.lookup y.1=some .local
 free: ∀y∈scope.names,y.2= .free->(X.env.kindOf y.1=some .cell\/X.env.kindOf y.1=some .free)
 P8: ∀p∈fv,X.N[p.2]?=some p.1/\scope.names.lookup p.1=some .free
def cL(σ:St)(fv:List (Str×Nat)):St:=fv.map fun p=> (σ[p.2]?).join
def jW(K:Frag):Option Nat->V->Hp->(List V->Prop)->Prop
 | none,x,_,Q=>Q [x]
 | some n,x,H,Q=>if n=102 then ∃a xs,x= .ref a/\aq K H a xs/\xs.length=2/\Q xs else ∃a xs,x= .ref a/\aG K H a xs/\xs.length=n/\Q xs
theorem P9{K:Frag}{n:Nat}{x:V}{H:Hp}{P Q:List V->Prop}(h:jW K (some n) x H P)(k: ∀xs,P xs->Q xs):jW K (some n) x H Q:=by
 by_cases e:n=102
 ·have h:if n=102 then ∃a xs,x= .ref a/\aq K H a xs/\xs.length=2/\P xs else ∃a xs,x= .ref a/\aG K H a xs/\xs.length=n/\P xs:=h
  show if n=102 then ∃a xs,x= .ref a/\aq K H a xs/\xs.length=2/\Q xs else ∃a xs,x= .ref a/\aG K H a xs/\xs.length=n/\Q xs
  rw[if_pos e] at h⊢;obtain⟨a,xs,e1,e2,e3,q⟩:=h;exact⟨a,xs,e1,e2,e3,k _ q⟩
 ·have h:if n=102 then ∃a xs,x= .ref a/\aq K H a xs/\xs.length=2/\P xs else ∃a xs,x= .ref a/\aG K H a xs/\xs.length=n/\P xs:=h
  show if n=102 then ∃a xs,x= .ref a/\aq K H a xs/\xs.length=2/\Q xs else ∃a xs,x= .ref a/\aG K H a xs/\xs.length=n/\Q xs
  rw[if_neg e] at h⊢;obtain⟨a,xs,e1,e2,e3,q⟩:=h;exact⟨a,xs,e1,e2,e3,k _ q⟩
def oF:Option TT->TT
 | none=>fun _ H k=>k true H
 | some t=>t
def oG(K:Frag)(wi:TI)(tk:Option Nat)(fv:List (Str×Nat))(tc:Option TT)(te:TE):TE:=fun σ H Q=>
 wi σ H fun J H1=> ∃W:Nat->Nat->List V->Hp->Prop,(∃m,W 0 m [] H1)/\ ∀i m ys H2,W i m ys H2->
  (J.stop i H2/\ ∀p,H2 p=none->Q (.ref p) (upd H2 p<|.lst ys))\/
  (J.go i H2/\ ∀x H3,J.gf i H2 x H3->jW K tk x H3 fun xs=>
   oF tc (xs.map some++cL σ fv) H3 fun b H5=>
    if b=true then te (xs.map some++cL σ fv) H5 fun y H6=>ys.length<sizeLine/\ ∃m',m'<m/\W (i+1) m' (ys++ [y]) H6
    else ∃m',m'<m/\W (i+1) m' ys H5)
section
variable {X:Cx} {pins:List (Addr×Obj)} {σ:St} {H:Hp} {s₂ s₃:Shared} {scope:Scope} {ln:List Str} {fv:List (Str×Nat)} {fp:List Addr} {h₁:Heap} {D C:Addr} {m:Str->Option Value} {t:Nat}
theorem jw.cells(S:jw X scope ln fv)(I:Inv X pins σ H s₂){x:Str}{c:Addr}(h:(dG X.env.cells scope.names []).lookup x=some c):X.env.cells.lookup x=some c/\(x,NameKind.free)∈scope.names:=by
 rcases ER _ _ _ _ h with z | ⟨z1,z2⟩
 ·cases z
 ·obtain⟨c',e⟩:=I.ok.has x (S.free _ z1 rfl)
  rw[e] at z2
  have z3:c'=c:=z2
  subst z3
  exact⟨e,z1⟩
theorem jw.EV(S:jw X scope ln fv)(I:Inv X pins σ H s₂):closureFor scope X.env=pure (dG X.env.cells scope.names []):=
 P4 fun y hy hk=>I.ok.has y.1 (S.free y hy hk)
theorem P_(S:jw X scope ln fv)(I:Inv X pins σ H s₂)(f2: ∀b∈fp,iO X pins H b)(sk: ∀b∈fp,∃o,s₂.heap.get? b=some o)
  (os:s₃.os=s₂.os) (gens:s₃.gens=s₂.gens) (k3: ∀b o,s₂.heap.get? b=some o->s₃.heap.get? b=some o) (hD:D=s₂.heap.objs.size) (h3:s₃.heap.objs.size=s₂.heap.objs.size+1) (hC:C=s₃.heap.objs.size)
  (k4: ∀b o,s₃.heap.get? b=some o->h₁.get? b=some o) (ve:h₁.Ns C m):
  Inv (gF X scope (ln++fv.map (·.1)) (D::fp) C s₃ H) [] (ln.map (fun _=>none)++cL σ fv) H {s₃ with heap:=h₁,toks:=t}:=by
 have cl: ∀{x c},(dG X.env.cells scope.names []).lookup x=some c->X.env.cells.lookup x=some c:=fun h=> (S.cells I h).1
 have Qa: ∀{x c},(dG X.env.cells scope.names []).lookup x=some c->c<s₂.heap.objs.size:=fun h=>by
  obtain⟨v,q⟩:=I.cell _ _ (cl h)
  exact q.lt
 have Qc: ∀b∈fp,b<s₂.heap.objs.size:=fun b hb=>by obtain⟨o,e⟩:=sk b hb;exact Heap.lt_size e
 have Qd: ∀b∈D::fp,b<=s₂.heap.objs.size:=fun b hb=>by
  rcases zaa.mp hb with e | hb
  ·rw[e,hD];exact zqR _
  ·exact zbw (Qc b hb)
 have EW: ∀x,(relabel scope X.env).names.lookup x=(scope.names.lookup x).map fun k=>if (k==NameKind.free && X.env.scope.kind== .function && X.env.kindOf x==some .cell) then NameKind.cell else k:=fun x=>ES scope.names x
 have Qe: ∀x,scope.names.lookup x=some .free->((relabel scope X.env).names.lookup x=some .cell\/(relabel scope X.env).names.lookup x=some .free):=fun x e=>by
  rw[EW,e]
  simp only[zbR]
  split
  ·exact .inl rfl
  ·exact .inr rfl
 have Qf: ∀x,((relabel scope X.env).names.lookup x=some .cell\/(relabel scope X.env).names.lookup x=some .free)->(x,NameKind.free)∈scope.names:=fun x e=>by
  rw[EW] at e
  cases q:scope.names.lookup x with
  | none=>rw[q] at e;rcases e with e | e<;>cases e
  | some k=>
   rw[q] at e
   have hm:(x,k)∈scope.names:=PySem.mem_of_lookup q
   simp only[zbR] at e
   by_cases hk:k= .free
   ·rw[hk] at hm;exact hm
   ·have hb:(k==NameKind.free)=false:=by simpa using hk
    simp only[hb,Bool.false_and,zaR,if_false] at e
    rcases e with e | e
    ·exact absurd (zal e) (S.EU _ hm)
    ·exact absurd (zal e) hk
 refine⟨⟨I.ok.mod,S.kind,I.ok.glob,I.ok.blt,Nat.le_of_eq hC.symm,fun x y c h1 h2=>I.ok.inj x y c (cl h1) (cl h2),fun x hx=>zj _ _ x (.inl (Qf x hx)),fun x c h _=> (by cases h),I.ok.hd,I.ok.frames, .inl rfl,fun b hb=> ⟨?_,fun x c e=> ?_⟩,fun b o e=> ⟨k3 b o (I.bs b o e).1,(I.bs b o e).2⟩, ?_,fun b o e hb=> ?_,fun b hb hf=> ?_, ?_,I.uI⟩,
  rfl, ?_,Un.kept fun b u e=>k4 b u e,⟨m,ve,fun i x v e1 e2 e3=> ?_⟩,fun x c e=> ?_,I.aE.fresh ?_,fun x c e=>I.kJ x c (cl e),fun p hp=>absurd (show p∈ ([]:List (Addr×Obj)) from hp) (by simp),I.aE.kept fun b u e=>k4 b u (k3 b u e), ?_⟩
 ·show b≠C
  have:=Qd b hb
  rw[hC,h3];exact zan (Nat.lt_succ_of_le this)
 ·have q1:=Qa e
  rcases zaa.mp hb with z | z
  ·rw[z,hD];exact zan q1
  ·exact(f2 b z).2.2.2.2.1 x c (cl e)
 ·show X.base.objs.size<=s₃.heap.objs.size
  have:=zaw I.ok.qe I.sz
  lia
 ·have e2:=(I.bs b o e).1
  have zk:b∈D::fp:=hb
  rcases zaa.mp zk with z | z
  ·have:=Heap.lt_size e2
   rw[z,hD] at this;exact zaA _ this
  ·rcases (f2 b z).2.2.2.1 with q | q
   ·exact I.ok.yn b o e q
   ·exact absurd (zar (Heap.lt_size (I.ok.bs b o e).1) q) (zaA _)
 ·have EX:b∈cp X.stack:=hf
  have zk:b∈D::fp:=hb
  rcases zaa.mp zk with z | z
  ·rcases zaa.mp (I.uH b EX) with q | q
   ·have:=I.lt
    rw[<-q,z,hD] at this;exact zaA _ this
   ·exact I.Dq (by rw[z,hD];exact zqR _) q
  ·rcases zaa.mp (I.uH b EX) with q | q
   ·exact(f2 b z).2.1 q
   ·exact(f2 b z).2.2.1 q
 ·exact PySem.Heap.FunFrames.of_keeps (fun b o e _=> ⟨o,k3 b o e,rfl⟩) I.stack
 ·show AllBare s₃.gens
  rw[gens];exact I.bare
 ·have hi:ln.length<=i:=by
   by_cases hi:i<ln.length
   ·exfalso
    rw[zaz (by simpa using hi),zam] at e2
    cases q:ln[i]? with
    | none=>rw[q] at e2;cases e2
    | some y=>rw[q] at e2;cases e2
   ·lia
  have oH:(ln++fv.map (·.1))[i]?=some x:=e1
  rw[zbc hi,zam] at oH
  rw[zbc (by simpa using hi),zab] at e2
  unfold cL at e2
  rw[zam] at e2
  cases q:fv[i - ln.length]? with
  | none=>rw[q] at oH;cases oH
  | some p=>
   rw[q] at oH e2
   have ex:p.1=x:=zal oH
   have ev:(σ[p.2]?).join=some v:=zal e2
   obtain⟨g1,g2⟩:=S.P8 p (zae q)
   rw[ex] at g1 g2
   have Qg:σ[p.2]?=some (some v):=by
    cases z:σ[p.2]? with
    | none=>rw[z] at ev;cases ev
    | some o=>rw[z] at ev;rw[show o=some v from ev]
   have hk:=S.free _ (PySem.mem_of_lookup g2) rfl
   obtain⟨m2,iP,hl⟩:=I.loc
   obtain⟨u,r,l⟩:=hl p.2 x v g1 Qg (by rcases hk with k | k;exact .inr (.inl k);exact .inr (.inr k))
   refine⟨u,r, .inr ?_⟩
   rcases l with⟨k,_⟩ | ⟨_,c,ec,z⟩
   ·rcases hk with k' | k'<;> (rw[k] at k';cases k')
   ·refine⟨Qe x g2,c, ?_, ?_⟩
    ·obtain⟨c',e'⟩:=zj (cells:=X.env.cells) scope.names [] x (.inl<|PySem.mem_of_lookup g2)
     have:=cl e'
     rw[ec] at this;cases this
     exact e'
    ·obtain⟨o,ho,hd⟩:=z
     exact⟨o,k4 c o<|k3 c o ho,hd⟩
 ·obtain⟨v,o,ho,hd⟩:=I.cell x c (cl e)
  exact⟨v,o,k4 c o<|k3 c o ho,hd⟩
 ·show s₂.heap.objs.size<=C
  rw[hC,h3];exact zbb _
 ·show(ln.map (fun _=>none)++cL σ fv).length=(ln++fv.map (·.1)).length
  simp[cL]
end
structure EY (Φ:Cx->Prop) (P:Program) (w:World) (K:Frag) (tg:Expr) (J:It) (fp:List Addr) (it:Addr) (tn:Nat->Heap->Prop):Prop where
 mem:it∈fp
 obj: ∀i h,tn i h-> ∀b∈fp,∃o,h.get? b=some o/\ ∀v,o.data≠ .cell v
 keep: ∀i h h',tn i h->(∀b∈fp,∀o,h.get? b=some o->h'.get? b=some o)->tn i h'
 item: ∀(X:Cx),X.prog=P->X.w=w->X.K=K->Φ X-> ∀(i:Nat) (pins:List (Addr×Obj)) (s:Shared) (σ:St) (H:Hp) (E:Value->Shared->Prop),Inv X pins σ H s->(∀b∈fp,iO X pins H b)->tn i s.heap->J.go i H->
  wpAny (model P w) X.A (pyNext (.ref it)) (fun r s1=> ∃u,r=some u/\
   wpAny (model P w) X.A (letOwnedTupleGo tg (.ref it) u) (fun _ s2=> ∃x H',Inv X pins σ H' s2/\RelV x u/\J.gf i H x H'/\tn (i+1) s2.heap/\ ∀b∈fp,H' b=none) E s1) E s
 done: ∀(X:Cx),X.prog=P->X.w=w->X.K=K->Φ X-> ∀(i:Nat) (pins:List (Addr×Obj)) (s:Shared) (σ:St) (H:Hp) (E:Value->Shared->Prop),Inv X pins σ H s->(∀b∈fp,iO X pins H b)->tn i s.heap->J.stop i H->
  wpAny (model P w) X.A (pyNext<|.ref it) (fun r s1=>r=none/\Inv X pins σ H s1) E s
 self: ∀(A:Around) (i:Nat) (s:Shared) (Q:Value->Shared->Prop) (E:Value->Shared->Prop),tn i s.heap->Q (.ref it) s->wpAny (model P w) A (pyIter<|.ref it) Q E s
def zl(Φ:Cx->Prop)(X:Cx)(tg iter:Expr)(wi:TI):Prop:=
 ∀(pins:List (Addr×Obj)) (s:Shared) (σ:St) (H:Hp) (R:It->Hp->Prop),Inv X pins σ H s->wi σ H R->
  wpAny (model X.prog X.w) X.A (eval iter X.env) (fun v s1=>wpAny (model X.prog X.w) X.A (pyIter v) (fun nZ s2=>
   ∃(it:Addr) (fp:List Addr) (tn:Nat->Heap->Prop) (J:It) (H':Hp),nZ= .ref it/\Inv X pins σ H' s2/\EY Φ X.prog X.w X.K tg J fp it tn/\tn 0 s2.heap/\(∀b∈fp,iO X pins H' b)/\R J H') X.xe s1) X.xe s
abbrev Calm(X:Cx):Prop:=X.calm=true
theorem PI.p{X:Cx}{tg iter:Expr}{wi:TI}(h:PI X tg iter wi):zl Calm X tg iter wi:=fun pins s σ H R I q=>
 aH (h pins s σ H R I q) fun v s1 h1=>aH h1 fun nZ s2 ⟨it,fp,tn,J,H',e,I',T,st,f,r⟩=> ⟨it,fp,tn,J,H',e,I',⟨T.mem,T.obj,T.keep,T.item,T.done,T.self⟩,st,f,r⟩
section
variable {X:Cx} {pins:List (Addr×Obj)} {σ:St} {H:Hp} {s₂:Shared} {scope:Scope} {ln:List Str} {fv:List (Str×Nat)} {elt tg iter:Expr} {ifs:List Expr} {pos:Pos}
 {J:It} {fp:List Addr} {it:Addr} {tn:Nat->Heap->Prop} {tk:Option Nat} {tc:Option TT} {te:TE} {Qv:VK} {RR:Value->Addr->Result->Shared->Prop} {E:Value->Shared->Prop}
def zm(Ψ:Hp->Prop)(X:Cx)(scope:Scope)(ln:List Str)(fv:List (Str×Nat))(tg:Expr)(tk:Option Nat):Prop:=
 ∀(ex:List Addr) (C:Addr) (s:Shared) (H:Hp),Ψ H-> ∃g,PG (gF X scope (ln++fv.map (·.1)) ex C s H) tg g/\
  ∀(x:V) (pre φ:St) (H':Hp) (Q:St->Hp->Prop),pre.length=ln.length->jW X.K tk x H' (fun xs=>xs.length=ln.length->Q (xs.map some++φ) H')->g x (pre++φ) H' Q
def so(X:Cx)(scope:Scope)(ln:List Str)(fv:List (Str×Nat))(tg:Expr)(tk:Option Nat):Prop:=
 ∀(ex:List Addr) (C:Addr) (s:Shared) (H:Hp),∃g,PG (gF X scope (ln++fv.map (·.1)) ex C s H) tg g/\
  ∀(x:V) (pre φ:St) (H':Hp) (Q:St->Hp->Prop),pre.length=ln.length->jW X.K tk x H' (fun xs=>xs.length=ln.length->Q (xs.map some++φ) H')->g x (pre++φ) H' Q
def sq(X:Cx)(scope:Scope)(N:List Str)(ifs:List Expr)(tc:Option TT):Prop:=
 match tc with
 | none=>ifs=[]
 | some t=> ∃c,ifs=[c]/\ ∀(ex:List Addr) (C:Addr) (s:Shared) (H:Hp),PT (gF X scope N ex C s H) c t
theorem EZ{Φ:Cx->Prop}{Ψ:Hp->Prop}(S:jw X scope ln fv)(hc: ∀Xc:Cx,Xc.A=X.A->Xc.calm=X.calm->Xc.H₀=H->Φ Xc)(hΨ:Ψ H)(hg:zm Ψ X scope ln fv tg tk)(ht:sq X scope (ln++fv.map (·.1)) ifs tc)
  (he: ∀(ex:List Addr) (C:Addr) (s:Shared) (H:Hp),PE (gF X scope (ln++fv.map (·.1)) ex C s H) elt te)
  (I:Inv X pins σ H s₂) (T:EY Φ X.prog X.w X.K tg J fp it tn) (st:tn 0 s₂.heap) (f2: ∀b∈fp,iO X pins H b)
  (h: ∃W:Nat->Nat->List V->Hp->Prop,(∃m,W 0 m [] H)/\ ∀i m ys H2,W i m ys H2->
   (J.stop i H2/\ ∀p,H2 p=none->Qv (.ref p) (upd H2 p<|.lst ys))\/
   (J.go i H2/\ ∀x H3,J.gf i H2 x H3->jW X.K tk x H3 fun xs=>
    oF tc (xs.map some++cL σ fv) H3 fun b H5=>
     if b=true then te (xs.map some++cL σ fv) H5 fun y H6=>ys.length<sizeLine/\ ∃m',m'<m/\W (i+1) m' (ys++ [y]) H6
     else ∃m',m'<m/\W (i+1) m' ys H5))
  (Qh: ∀D C H' s' m,Inv X pins σ H' s'->s'.heap.Ns C m->H' C=none->C≠X.env.locals->X.s₀.heap.objs.size<=C->(∀x c,X.env.cells.lookup x=some c->c≠C)->(∀p∈X.pn++pins,p.1≠C)->Qv (.ref D) H'->RR (.ref D) C (.ok .next) s'):
  wpAny (model X.prog X.w) X.A (newList []) (fun acc s₃=>wpAny (model X.prog X.w) X.A (newFunctionEnv scope X.env.globals (dG X.env.cells scope.names []) [] X.env.qual none .none (some X.env)) (fun E1 s₄=>
   codeAny (model X.prog X.w) X.A (.compStart (.ListComp elt [⟨tg,iter,ifs,0⟩] scope pos) 0 (.ref it) acc {E1 with scope:=relabel scope X.env}) (RR acc E1.locals) s₄) E s₃) E s₂:=by
 obtain⟨W,⟨m0,w0⟩,turn⟩:=h
 refine wpAny_newObj_type<|wpAny_newFunctionEnv S.EU (by intro y hy;simp at hy) (fun h₁ vj vk=> ?_) S.kind
 dsimp only at vj vk⊢
 generalize vm:({s₂ with heap:=s₂.heap.push {cls:= .type "list",dict:=none,data:= .seq ([]:List Value).toArray}}:Shared)=s₃
 have vn:s₂.heap.push {cls:= .type "list",dict:=none,data:= .seq ([]:List Value).toArray}=s₃.heap:=by rw[<-vm]
 rw[vn] at vj vk⊢
 have E2:s₃.os=s₂.os:=by rw[<-vm]
 have Qi:s₃.gens=s₂.gens:=by rw[<-vm]
 have oI:s₃.heap.objs.size=s₂.heap.objs.size+1:=by rw[<-vn,Heap.size_push]
 have k3: ∀b o,s₂.heap.get? b=some o->s₃.heap.get? b=some o:=fun b o e=>by rw[<-vn];exact Heap.get?_push_of_some _ e
 have k4: ∀b o,s₃.heap.get? b=some o->h₁.get? b=some o:=fun b o e=>vk.extBut b o (zan<|Heap.lt_size e) (Heap.get?_push_of_some _ e)
 have gD:s₃.heap.get? s₂.heap.objs.size=some {cls:= .type "list",dict:=none,data:= .seq ([]:List Value).toArray}:=by rw[<-vn];exact Heap.get?_push_size _ rfl
 generalize eD:s₂.heap.objs.size=D at gD
 generalize eC:s₃.heap.objs.size=C at vj vk⊢
 have vo:D≠C:=by rw[<-eD,<-eC,oI];exact zan (zbP _)
 have sk: ∀b∈fp,∃o,s₂.heap.get? b=some o:=fun b hb=>by obtain⟨o,e,_⟩:=T.obj 0 _ st b hb;exact⟨o,e⟩
 have E3: ∀b∈fp,b≠D:=fun b hb=>by obtain⟨o,e⟩:=sk b hb;rw[<-eD];exact zan (Heap.lt_size e)
 have Qj: ∀b∈fp,b≠C:=fun b hb=>by
  obtain⟨o,e⟩:=sk b hb
  have:=Heap.lt_size e
  rw[<-eC,oI];exact zan (zbS this)
 generalize eX:gF X scope (ln++fv.map (·.1)) (D::fp) C s₃ H=Xc
 have I4: ∀t,Inv Xc [] (ln.map (fun _=>none)++cL σ fv) H {s₃ with heap:=h₁,toks:=t}:=fun t=>by
  rw[<-eX]
  exact P_ S I f2 sk E2 Qi k3 eD.symm oI eC.symm k4 vj
 have xL:Xc.env.locals=C:=by rw[<-eX];rfl
 have vp:Xc.ex=D::fp:=by rw[<-eX];rfl
 have Qk:Xc.fs=cp X.stack:=by rw[<-eX];rfl
 have xP:Xc.prog=X.prog:=by rw[<-eX];rfl
 have xw:Xc.w=X.w:=by rw[<-eX];rfl
 have xK:Xc.K=X.K:=by rw[<-eX];rfl
 have xA:Xc.A=X.A:=by rw[<-eX];rfl
 have xc:Φ Xc:=hc Xc xA (by rw[<-eX];rfl) (by rw[<-eX];rfl)
 have E4:Xc.pn=[]:=by rw[<-eX];rfl
 have zo:Xc.xe=fun _ _=>False:=by rw[<-eX];rfl
 have E5:Xc.env.cells=dG X.env.cells scope.names []:=by rw[<-eX];rfl
 have zp:Xc.env=compEnvC scope (dG X.env.cells scope.names []) C X.env:=by rw[<-eX];rfl
 have cD: ∀x c,Xc.env.cells.lookup x=some c->c≠D:=fun x c e=>by
  rw[E5] at e
  obtain⟨v,q⟩:=I.cell x c (S.cells I e).1
  rw[<-eD];exact zan q.lt
 have cF: ∀x c,Xc.env.cells.lookup x=some c-> ∀b∈fp,c≠b:=fun x c e b hb=>by
  rw[E5] at e
  exact(f2 b hb).2.2.2.2.1 x c (S.cells I e).1
 have sF: ∀b∈D::fp,b∉Xc.fs:=fun b hb hf=>by
  have:=(I4 0).ok.yo b (by rw[vp];exact hb)
  exact this hf
 have n_: ∀{H':Hp} {oD:Obj},(∀b∈fp,H' b=none)-> ∀b∈fp,iO Xc [(D,oD)] H' b:=fun hn b hb=>
  ⟨hn b hb,by rw[xL];exact Qj b hb,sF b (zaj _ hb), .inl (by rw[vp];exact zaj _ hb),fun x c e=>cF x c e b hb,fun p hp=>by
   rw[E4] at hp
   rcases zac.mp (show p∈ [(D,_)] from hp) with rfl
   exact(E3 b hb).symm⟩
 have loop: ∀s₄:Shared,s₄={s₃ with heap:=h₁,toks:=s₃.toks+ ([]:List (Str×Value)).length}->
   codeAny (model X.prog X.w) X.A (.compLoop (.ListComp elt [⟨tg,iter,ifs,0⟩] scope pos) 0 (.ref it) (.ref D)<|compEnvC scope (dG X.env.cells scope.names []) C X.env) (RR (.ref D) C) s₄:=by
  rintro s₄ rfl
  refine P6 (fun n s'=> ∃i pre ys ak nn H',Inv Xc [(D,{cls:= .type "list",data:= .seq (List.toArray ak) nn})] (pre++cL σ fv) H' s'/\pre.length=ln.length/\tn i s'.heap/\(∀b∈fp,H' b=none)/\Vals ys ak/\ys.length<=sizeLine/\W i n ys H') ?_ m0
   ⟨0,ln.map<|fun _=>none,[],[],0,H,(I4 _).qg<|fun p hp=> ?_,by simp,T.keep 0 _ _ st<|fun b _ o e=>k4 b o<|k3 b o e,fun b hb=> (f2 b hb).1, .nil,zqZ _,w0⟩
  rotate_left
  ·have qp:=zac.mp hp
   subst qp
   refine⟨k4 _ _ gD,I.aE.fresh<|Nat.le_of_eq eD,by rw[xL];exact vo,sF D zas,fun v z=>by cases z⟩
  rintro n s' ⟨i,pre,ys,ak,nn,H',I',kU,mB,E6,hv,hz,w'⟩
  have acO:=I'.pin (D,_) (zaq _ zas)
  rcases turn i n ys H' w' with⟨stop,qn⟩ | ⟨go,step⟩
  ·have td:=T.done Xc xP xw xK xc i _ s' _ H' (fun _ _=>False) I' (n_ E6) mB stop
   rw[xA] at td
   refine aH td fun r s1 ⟨hr,I1⟩=> ?_
   subst hr
   have zq:=I1.pin (D,_) (zaq _ zas)
   have b1:=I1.base
   rw[Qk,vp] at b1
   have E7:Xc.s₀=s₃:=by rw[<-eX];rfl
   have Ql:Xc.H₀=H:=by rw[<-eX];rfl
   rw[E7,Ql] at b1
   have nD: ∀b o,s₂.heap.get? b=some o->b∉fp->b∉D::fp:=fun b o e hb hm=>by
    rcases zaa.mp hm with z | z
    ·have:=Heap.lt_size e
     rw[z,eD] at this;exact zaA _ this
    ·exact hb z
   have un:Un (cp X.stack) fp H H' s₂.heap s1.heap:=⟨fun b o e nb hb hx=>b1.keep b o (k3 b o e) nb hb (nD b o e hx),fun b o e nb hb hx=>b1.slot b o (k3 b o e) nb hb (nD b o e hx),fun b o e nb hx=>b1.free b o (k3 b o e) nb (nD b o e hx),
    fun b o e hx=>b1.there b o (k3 b o e) (nD b o e hx),b1.bz,b1.gY,b1.ib⟩
   have Qm:s1.os=s₂.os:=by rw[I1.os,E7,E2]
   have E8:=I1.aE
   rw[xP,xw] at E8
   have J1:Inv X pins σ H' s1:=I.MW Qm un E8 I1.bare fun b hb=> ⟨(f2 b hb).2.2.2.1,(f2 b hb).2.1,(f2 b hb).2.2.2.2.1,(f2 b hb).2.2.2.2.2⟩
   have Qn: ∀x c,X.env.cells.lookup x=some c->c≠D:=fun x c e=>by
    obtain⟨v,q⟩:=I.cell x c e
    rw[<-eD];exact zan q.lt
   have Qo: ∀x c,X.env.cells.lookup x=some c->c≠C:=fun x c e=>by
    obtain⟨v,q⟩:=I.cell x c e
    rw[<-eC,oI];exact zan (zbS q.lt)
   have pD: ∀p∈X.pn++pins,p.1≠D:=fun p hp=>by rw[<-eD];exact zan (Heap.lt_size (I.pin p hp).1)
   have pC: ∀p∈X.pn++pins,p.1≠C:=fun p hp=>by
    rw[<-eC,oI];exact zan (zbS<|Heap.lt_size (I.pin p hp).1)
   have lD:D≠X.env.locals:=by rw[<-eD];exact zaE I.lt
   have lC:C≠X.env.locals:=by
    rw[<-eC,oI];exact zaE (zbS I.lt)
   have J2:Inv X pins σ (upd H' D<|.lst ys) s1:=Inv.vi J1 zq.2.1 (by rw[<-eD];exact I.sz) lD Qn pD ⟨hz,ak,nn,hv,zq.1⟩
   obtain⟨mC,E9,_⟩:=I1.loc
   rw[xL] at E9
   have fC:H' C=none:=by have:=I1.free;rw[xL] at this;exact this
   exact Qh D C _ s1 mC J2 E9 (by rw[aN<|Ne.symm vo];exact fC) lC (by rw[<-eC,oI];exact Nat.le_succ_of_le I.sz) Qo pC<|qn D zq.2.1
  ·have ti:=T.item Xc xP xw xK xc i _ s' _ H' (fun _ _=>False) I' (n_ E6) mB go
   rw[xA] at ti
   refine aH ti fun r s4 ⟨u,hr,h4⟩=> ?_
   subst hr
   refine aH h4 fun _ s5 ⟨x,H5,I5,r5,y5,og,yD⟩=> ?_
   have yE:=I5.pinned (n_ yD) (T.obj _ _ og)
   obtain⟨g,pg,gq⟩:=hg (D::fp) C s₃ H hΨ
   rw[eX] at pg
   have rd:=step x H5 y5
   have E_:=pg _ s5 _ H5 x u (fun σ6 H6=> ∃xs:List V,σ6=xs.map some++cL σ fv/\xs.length=ln.length/\H6=H5/\
     oF tc (xs.map some++cL σ fv) H5 fun b H5=>
     if b=true then te (xs.map some++cL σ fv) H5 fun y H6=>ys.length<sizeLine/\ ∃m',m'<n/\W (i+1) m' (ys++ [y]) H6
     else ∃m',m'<n/\W (i+1) m' ys H5) yE r5 (gq x pre (cL σ fv) H5 _ kU (by
      cases tk with
      | none=>exact fun hl=> ⟨_,rfl,hl,rfl,rd⟩
      | some k=>exact P9 rd fun xs rd hl=> ⟨xs,rfl,hl,rfl,rd⟩))
   rw[xA,xP,xw,zo,zp] at E_
   refine aH E_ fun _ s6 ⟨σ6,H6,I6,xs,e6,mL,eH,Fb⟩=> ?_
   subst e6 eH
   have Fc: ∀{H7:Hp} {σ7:St} {s7:Shared},Inv Xc ([(D,{cls:= .type "list",data:= .seq (List.toArray ak) nn})]++qj fp s5.heap) σ7 H7 s7->tn (i+1) s7.heap/\(∀b∈fp,H7 b=none)/\s7.heap.get? D=some {cls:= .type "list",data:= .seq (List.toArray ak) nn}/\H7 D=none:=fun {H7 σ7 s7} I7=>by
    refine⟨T.keep _ _ _ og fun b hb o e=> (I7.pin (b,o)<|zaq _<|zaq _<|uP hb e).1,fun b hb=> ?_, ?_, ?_⟩
    ·obtain⟨o,e,d⟩:=T.obj _ _ og b hb
     exact(I7.pin (b,o)<|zaq _<|zaq _<|uP hb e).2.1
    ·exact(I7.pin (D,_)<|zaq _<|zav _ zas).1
    ·exact(I7.pin (D,_)<|zaq _<|zav _ zas).2.1
   have tests:wpAny (model X.prog X.w) X.A (forIn ifs true fun c r=>if r=true then do let ok <-isTrue c (compEnvC scope (dG X.env.cells scope.names []) C X.env) (eval c<|compEnvC scope (dG X.env.cells scope.names []) C X.env);pure (ForInStep.yield ok) else pure (ForInStep.yield r))
     (fun ok s7=> ∃H7,Inv Xc ([(D,{cls:= .type "list",data:= .seq (List.toArray ak) nn})]++qj fp s5.heap) (xs.map some++cL σ fv) H7 s7/\
      if ok=true then te (xs.map some++cL σ fv) H7 fun y H6=>ys.length<sizeLine/\ ∃m',m'<n/\W (i+1) m' (ys++ [y]) H6
      else ∃m',m'<n/\W (i+1) m' ys H7) (fun _ _=>False) s6:=by
    cases tc with
    | none=>
     have qq:ifs=[]:=ht
     subst qq
     exact wpAny_tests_nil ⟨_,I6,Fb⟩
    | some t=>
     obtain⟨c,qq,pt⟩:=(show ∃c,ifs=[c]/\ ∀(ex:List Addr) (C:Addr) (s:Shared) (H:Hp),PT (gF X scope (ln++fv.map (·.1)) ex C s H) c t from ht)
     subst qq
     have Fd:=pt (D::fp) C s₃ H
     rw[eX] at Fd
     have q:=Fd _ s6 _ _ _ I6 Fb
     rw[xA,xP,xw,zo,zp] at q
     exact wpAny_tests_one<|aH q fun b s7 ⟨H7,I7,q7⟩=> ⟨H7,I7,q7⟩
   refine aH tests fun ok s7 ⟨H7,I7,q7⟩=> ?_
   cases ok with
   | false=>
    simp only[zaR,if_false] at q7⊢
    obtain⟨m',hm,w7⟩:=q7
    obtain⟨t7,f7,d7,n7⟩:=Fc I7
    refine⟨m',hm,i+1,xs.map some,ys,ak,nn,H7,I7.qg<|fun p hp=> ?_,by simpa using mL,t7,f7,hv,hz,w7⟩
    exact I7.pin p<|zaq _<|zav _ hp
   | true=>
    simp only[if_true] at q7⊢
    have q:=he (D::fp) C s₃ H
    rw[eX] at q
    have q:=q _ s7 _ H7 _ I7 q7
    rw[xA,xP,xw,zo,zp] at q
    refine aH q fun uy s8 ⟨y,H8,I8,r8,aK,m',hm,w8⟩=> ?_
    obtain⟨t8,f8,d8,n8⟩:=Fc I8
    have hl:=hv.length
    refine call_meets F.slot_list_append ⟨_,d8,rfl⟩ F.entry_list_append (F.args_list_append_2 _ _) (PySem.list_append D ak.toArray nn uy (by rw[zag];lia)) ⟨d8, ?_⟩
    have I9: ∀t,Inv Xc [] (xs.map some++cL σ fv) H8 {s8 with heap:=s8.heap.update D (Obj.mapSeq (·.push uy)),toks:=t}:=fun t=>
     (I8.qg (yq:=[])<|fun p hp=>absurd hp (by simp)).turned (it:=D) (t':=t) (fun b o hb e=> (Heap.get?_update_other s8.heap (Obj.mapSeq (·.push uy))<|Ne.symm hb).trans e) n8 (by rw[xL];exact vo) (.inl (by rw[vp];exact zas)) cD
      (fun p hp=>by rw[E4] at hp;exact absurd hp (by simp))
    have g9:=PySem.IsL.update d8 (·.push uy)
    obtain⟨n9,Qp⟩: ∃n9,(s8.heap.update D (Obj.mapSeq (·.push uy))).get? D=some {cls:= .type "list",data:= .seq (ak++ [uy]).toArray n9}:=
     ⟨_,by rw[show(ak++ [uy]).toArray=ak.toArray.push uy by simp];exact g9⟩
    refine⟨m',hm,i+1,xs.map some,ys++ [y],ak++ [uy],n9,H8,(I9 _).qg<|fun p hp=> ?_,by simpa using mL, ?_,f8,hv.append<|.cons r8 .nil, ?_,w8⟩
    ·have qp:=zac.mp hp
     subst qp
     exact⟨Qp,n8,by rw[xL];exact vo,sF D zas,fun v z=>by cases z⟩
    ·exact T.keep _ _ _ t8 fun b hb o e=> (Heap.get?_update_other s8.heap (Obj.mapSeq (·.push uy))<|Ne.symm<|E3 b hb).trans e
    ·rw[zqA,zaQ];lia
 have Qq:tn 0 h₁:=T.keep 0 _ _ st fun b _ o e=>k4 b o (k3 b o e)
 have e4:({s₂ with heap:=h₁,toks:=s₂.toks+ ([]:List (Str×Value)).length}:Shared)={s₃ with heap:=h₁,toks:=s₃.toks+ ([]:List (Str×Value)).length}:=by rw[<-vm]
 exact codeAny_compStart_list (loop _ e4)<|T.self X.A 0 _ _ _ Qq<|loop _ e4
end
section
variable {X:Cx} {scope:Scope} {ln:List Str} {fv:List (Str×Nat)} {elt tg iter:Expr} {ifs:List Expr} {pos:Pos} {wi:TI} {tk:Option Nat} {tc:Option TT} {te:TE}
theorem Qr{Φ:Cx->Prop}{Ψ:Hp->Prop}(S:jw X scope ln fv)(hc: ∀H,Ψ H-> ∀Xc:Cx,Xc.A=X.A->Xc.calm=X.calm->Xc.H₀=H->Φ Xc)(hΨ: ∀pins σ H s,Inv X pins σ H s->Ψ H)(hi:zl Φ X tg iter wi)(hg:zm Ψ X scope ln fv tg tk)(ht:sq X scope (ln++fv.map (·.1)) ifs tc)
  (he: ∀(ex:List Addr) (C:Addr) (s:Shared) (H:Hp),PE (gF X scope (ln++fv.map (·.1)) ex C s H) elt te) (hs: ∀x,foldedSetIterable iter X.env x=pure x:=by intro _;rfl):
  PE X (.ListComp elt [⟨tg,iter,ifs,0⟩] scope pos) (oG X.K wi tk fv tc te):=by
 intro pins s σ H Q I h
 rw[eval_ListComp]
 refine wpAny_comprehension_free (use:=none) rfl hs (S.EV I) S.kind S.locals<|aH (hi pins s σ H _ I h) fun v s1 h1=>aH h1 fun nZ s2 h2=> ?_
 obtain⟨it,fp,tn,J,H2,e,I2,T,rO,f2,hW⟩:=h2
 subst e
 refine EZ (RR:=fun acc C=>compPost (model X.prog X.w) X.A X.xe none (EP X pins σ Q) acc C) S (hc H2<|hΨ _ _ _ _ I2) (hΨ _ _ _ _ I2) hg ht he I2 T rO f2 hW ?_
 intro D C H' s' m I' ns hn hL h0 vq hp q
 refine⟨m,ns,fun h' sb=> ⟨.ref D,H', ?_,rfl,q⟩⟩
 exact I'.turned (it:=C) (t':=s'.toks) (fun b o hb e=>sb.extBut b o hb e) hn hL (.inr h0) vq hp
theorem Qs{Φ:Cx->Prop}{Ψ:Hp->Prop}{i:Nat}{y:Str}{py sv:Pos}(hN:X.N.Nodup)(e9:X.N[i]?=some y)(hy:Loc X.env.scope y)(zr:swapsWith (.ListComp elt [⟨tg,iter,ifs,0⟩] scope pos) (some<|.Name y py) sv.line X.env=pure true)
  (S:jw X scope ln fv) (hc: ∀H,Ψ H-> ∀Xc:Cx,Xc.A=X.A->Xc.calm=X.calm->Xc.H₀=H->Φ Xc) (hΨ: ∀pins σ H s,Inv X pins σ H s->Ψ H) (hi:zl Φ X tg iter wi) (hg:zm Ψ X scope ln fv tg tk) (ht:sq X scope (ln++fv.map (·.1)) ifs tc)
  (he: ∀(ex:List Addr) (C:Addr) (s:Shared) (H:Hp),PE (gF X scope (ln++fv.map (·.1)) ex C s H) elt te) (hs: ∀x,foldedSetIterable iter X.env x=pure x:=by intro _;rfl)
  (hf:X.fn y=true\/X.env.scope.names.lookup y=some .local:=by first | exact .inl rfl | exact .inr rfl | assumption):
  PS X (.Assign [.Name y py] (.ListComp elt [⟨tg,iter,ifs,0⟩] scope pos) sv) (js (oG X.K wi tk fv tc te)<|fE i):=by
 intro pins s σ H D I h
 rw[exec_Assign_Name_used _ _ _ _ zr]
 refine wpAny_bind<|wpAny_standAt<|wpAny_bind ?_
 show wpAny _ X.A (do let _ <-comprehension (.ListComp elt [⟨tg,iter,ifs,0⟩] scope pos) scope X.env _ (newList []) false (eval iter X.env) (some<|assign (.Name y py) X.env)) _ _ s
 refine wpAny_bind (wpAny_mono (wpAny_comprehension_free (use:=some (assign (.Name y py) X.env)) (Q:=fun _ s'=>SP X pins D .next s') rfl hs (S.EV I) S.kind S.locals
  (aH (hi pins s σ H _ I h) fun v s1 h1=>aH h1 fun nZ s2 h2=> ?_)) (fun _ s' hq=>wpAny_pure (wpAny_pure hq)) fun _ _ e=>e)
 obtain⟨it,fp,tn,J,H2,e,I2,T,rO,f2,hW⟩:=h2
 subst e
 refine EZ (Qv:=fun x H1=>fE i x σ H1 D.nx) (RR:=fun acc C=>compPost (model X.prog X.w) X.A X.xe (some<|assign (.Name y py) X.env) (fun _ s'=>SP X pins D .next s') acc C) S (hc H2<|hΨ _ _ _ _ I2) (hΨ _ _ _ _ I2) hg ht he I2 T rO f2 hW ?_
 intro Da C H' s' m I' ns hn hL h0 vq hp q
 show wpAny _ X.A (assign (.Name y py) X.env<|.ref Da) _ _ _
 refine wpAny_assign_Name<|Du I' hN e9 hy (v:= .ref Da) rfl (fun s4 I4 ⟨a,sb,ha⟩=> ?_) hf
 have Qt:C≠a:=by
  rcases ha with z | z
  ·rw[z];exact hL
  ·exact Ne.symm (vq _ _ z)
 refine⟨m,ns.sameBut sb Qt,fun h' Qu=> ⟨_,H', ?_,q⟩⟩
 exact I4.turned (it:=C) (t':=s4.toks) (fun b o hb e=>Qu.extBut b o hb e) hn hL (.inr h0) vq hp
theorem Qw(S:jw X scope ln fv)(hc:X.calm=true)(hi:PI X tg iter wi)(hg:so X scope ln fv tg tk)(ht:sq X scope (ln++fv.map (·.1)) ifs tc)
  (he: ∀(ex:List Addr) (C:Addr) (s:Shared) (H:Hp),PE (gF X scope (ln++fv.map (·.1)) ex C s H) elt te) (hs: ∀x,foldedSetIterable iter X.env x=pure x:=by intro _;rfl):
  PE X (.ListComp elt [⟨tg,iter,ifs,0⟩] scope pos) (oG X.K wi tk fv tc te):=
 Qr (Φ:=Calm) (Ψ:=fun _=>True) S (fun _ _ Xc _ e _=>e.trans hc) (fun _ _ _ _ _=>trivial) hi.p (fun ex C s H _=>hg ex C s H) ht he hs
theorem Qx{i:Nat}{y:Str}{py sv:Pos}(hN:X.N.Nodup)(e9:X.N[i]?=some y)(hy:Loc X.env.scope y)(zr:swapsWith (.ListComp elt [⟨tg,iter,ifs,0⟩] scope pos) (some<|.Name y py) sv.line X.env=pure true)
  (S:jw X scope ln fv) (hc:X.calm=true) (hi:PI X tg iter wi) (hg:so X scope ln fv tg tk) (ht:sq X scope (ln++fv.map (·.1)) ifs tc)
  (he: ∀(ex:List Addr) (C:Addr) (s:Shared) (H:Hp),PE (gF X scope (ln++fv.map (·.1)) ex C s H) elt te) (hs: ∀x,foldedSetIterable iter X.env x=pure x:=by intro _;rfl)
  (hf:X.fn y=true\/X.env.scope.names.lookup y=some .local:=by first | exact .inl rfl | exact .inr rfl | assumption):
  PS X (.Assign [.Name y py] (.ListComp elt [⟨tg,iter,ifs,0⟩] scope pos) sv) (js (oG X.K wi tk fv tc te)<|fE i):=
 Qs (Φ:=Calm) (Ψ:=fun _=>True) hN e9 hy zr S (fun _ _ Xc _ e _=>e.trans hc) (fun _ _ _ _ _=>trivial) hi.p (fun ex C s H _=>hg ex C s H) ht he hs hf
end
section
variable {X:Cx} {scope:Scope} {fv:List (Str×Nat)}
theorem Qy{x:Str}{px:Pos}(hl:scope.names.lookup x=some .local)(vt:(x::fv.map (·.1)).Nodup):so X scope [x] fv (.Name x px) none:=by
 intro ex C s H
 have Qz:Loc (gF X scope ([x]++fv.map (·.1)) ex C s H).env.scope x:= .inl (lookup_relabel_local hl)
 refine⟨fE 0,uM (X:=gF X scope ([x]++fv.map (·.1)) ex C s H) vt rfl Qz<|.inr<|lookup_relabel_local hl,fun v pre φ H' Q hp h=> ?_⟩
 obtain⟨a,rfl⟩: ∃a,pre=[a]:=by
  match pre,hp with
  | [a],_=>exact⟨a,rfl⟩
 exact h rfl
theorem QC{x y:Str}{px py pos:Pos}{k:Nat}(hc:X.calm=true)(hx:scope.names.lookup x=some .local)(hy:scope.names.lookup y=some .local)(vt:(x::y::fv.map (·.1)).Nodup):so X scope [x,y] fv (.Tuple [.Name x px, .Name y py] k pos) (some 2):=by
 intro ex C s H
 generalize eX:gF X scope ([x,y]++fv.map (·.1)) ex C s H=Xc
 have xN:Xc.N=x::y::fv.map (·.1):=by rw[<-eX];rfl
 have xc:Xc.calm=true:=by rw[<-eX];exact hc
 have lx:Xc.env.scope.names.lookup x=some .local:=by rw[<-eX];exact lookup_relabel_local hx
 have ly:Xc.env.scope.names.lookup y=some .local:=by rw[<-eX];exact lookup_relabel_local hy
 have p1:PG Xc (.Name x px) (fE 0):=uM (by rw[xN];exact vt) (by rw[xN];rfl) (.inl lx) (.inr lx)
 have p2:PG Xc (.Name y py) (fE 1):=uM (by rw[xN];exact vt) (by rw[xN];rfl) (.inl ly) (.inr ly)
 have xK:Xc.K=X.K:=by rw[<-eX];rfl
 refine⟨DM Xc.K 2<|uN (fE 0)<|uN (fE 1) yy,DN xc<|yz p1<|yz p2 DL,fun v pre φ H' Q hp h=> ?_⟩
 obtain⟨a,b,rfl⟩: ∃a b,pre=[a,b]:=by
  match pre,hp with
  | [a,b],_=>exact⟨a,b,rfl⟩
 obtain⟨a',xs,rfl,e2,e3,q⟩:=h
 obtain⟨v1,v2,rfl⟩: ∃v1 v2,xs=[v1,v2]:=by
  match xs,e3 with
  | [v1,v2],_=>exact⟨v1,v2,rfl⟩
 exact⟨a',_,rfl,by rw[xK];exact e2,rfl,v1,_,rfl,v2,_,rfl,rfl,q rfl⟩
end
section
variable {X:Cx}
theorem bo.imp{f:Value->Value->Sem Value}{r r':R2}(h:bo X f r)(i: ∀x y H Q,r' x y H Q->r x y H Q):bo X f r':=fun pins s σ H x y v u Q I rx ry q=>h pins s σ H x y v u Q I rx ry (i _ _ _ _ q)
theorem cy.imp{f:Value}{r r':List V->Hp->VK->Prop}(h:cy X f r)(i: ∀xs H Q,r' xs H Q->r xs H Q):cy X f r':=fun pins s σ H xs us Q I rv q=>h pins s σ H xs us Q I rv (i _ _ _ q)
def Fe(K:Frag):R2:=fun x y H Q=>match x,y with
 | .int i, .int j=>Q (.int<|i+j) H
 | .str i, .str j=>i.length+j.length<=sizeLine/\Q (.str<|i++j) H
 | .ref l, .ref b=>EA (.ref l) (.ref b) H Q\/Ep K (.ref l) (.ref b) H Q
 | _,_=>False
theorem QD:bo X (binaryOp .Add) (Fe X.K):=by
 refine bo.imp ((NC.or N3).or<|Po.or OS) fun x y H Q h=> ?_
 cases x<;>cases y<;>first
  | exact False.elim h
  | exact .inl (.inl ⟨_,_,rfl,rfl,h⟩)
  | exact .inl (.inr ⟨_,_,rfl,rfl,h⟩)
  | exact .inr h
def jX(C:Int->Int->Prop)(g:Int->Int->V):R2:=fun x y H Q=>match x,y with
 | .int i, .int j=>C i j/\Q (g i j) H
 | _,_=>False
theorem zt{C:Int->Int->Prop}{g:Int->Int->V}(x y:V)(H:Hp)(Q:VK)(h:jX C g x y H Q):rI C g x y H Q:=by
 cases x<;>cases y<;>first
  | exact False.elim h
  | exact⟨_,_,rfl,rfl,h⟩
theorem sx{g:Int->Int->V}(x y:V)(H:Hp)(Q:VK)(h:jX (fun _ _=>True) g x y H Q):kO g x y H Q:=by
 cases x<;>cases y<;>first
  | exact False.elim h
  | exact⟨_,_,rfl,rfl,h.2⟩
def vv:R2:=fun x y H Q=>match x,y with
 | .int i, .int j=>uT i j/\Q (.int<|i*j) H
 | .ref l, .int k=>EB (.ref l) (.int k) H Q
 | _,_=>False
theorem QE:bo X (binaryOp .Mult) vv:=by
 refine bo.imp (NF.or Pp) fun x y H Q h=> ?_
 cases x<;>cases y<;>first
  | exact False.elim h
  | exact .inl ⟨_,_,rfl,rfl,h⟩
  | exact .inr h
def qr(K:Frag):Operator->R2
 | .Add=>Fe K
 | .Sub=>jX (fun _ _=>True) fun i j=> .int (i - j)
 | .Mult=>vv
 | .FloorDiv=>jX DZ fun i j=> .int (i / j)
 | .Mod=>jX (fun _ j=>0<j) fun i j=> .int (i % j)
 | .Pow=>jX D0 fun i j=> .int (i ^ j.toNat)
 | _=>fun _ _ _ _=>False
theorem QF(op:Operator):bo X (binaryOp op) (qr X.K op):=by
 cases op<;>first
  | exact QD
  | exact bo.imp ND sx
  | exact QE
  | exact bo.imp NG zt
  | exact bo.imp NH zt
  | exact bo.imp NI zt
  | exact fun _ _ _ _ _ _ _ _ _ _ _ _ h=>False.elim h
mutual
def Is(H:Hp):PyData->V->Prop
 | .none,v=>v= .aC
 | .bool b,v=>v= .bl b
 | .int i,v=>v= .int i
 | .str x,v=>v= .str x
 | .list xs,v=> ∃a vs,v= .ref a/\H a=some (.lst vs)/\IsL H xs vs
 | .tuple xs,v=> ∃a vs,v= .ref a/\H a=some (.tup vs)/\IsL H xs vs
 | .dict _,_=>False
def IsL(H:Hp):List PyData->List V->Prop
 | [],vs=>vs=[]
 | d::ds,vs=> ∃v r,vs=v::r/\Is H d v/\IsL H ds r
end
mutual
theorem Is.reads{pins:List (Addr×Obj)}{σ:St}{H:Hp}{s:Shared}(I:Inv X pins σ H s): ∀(d:PyData) (v:V) (u:Value),Is H d v->RelV v u-> ∃as,Reads s.heap u d as
 | .none,v,u,h,r=>by rw[show v= .aC from h] at r;rw[show u= .none from r];exact⟨_, .none⟩
 | .bool b,v,u,h,r=>by rw[show v= .bl b from h] at r;rw[show u= .bool b from r];exact⟨_, .bool b⟩
 | .int i,v,u,h,r=>by rw[show v= .int i from h] at r;obtain⟨t,e⟩:=r;rw[e];exact⟨_, .int i t⟩
 | .str x,v,u,h,r=>by rw[show v= .str x from h] at r;obtain⟨t,e⟩:=r;rw[e];exact⟨_, .str x t⟩
 | .list xs,v,u,h,r=>by
  obtain⟨a,vs,e,hH,hl⟩:=(show ∃a vs,v= .ref a/\H a=some (.lst vs)/\IsL H xs vs by simpa only[Is] using h)
  rw[e] at r
  rw[show u= .ref a from r]
  obtain⟨_,ak,n,hv,hg⟩:=I.aE a _ hH
  obtain⟨as,q⟩:=IsL.reads I xs vs ak hl hv
  exact⟨_, .list hg rfl rfl (by simpa using q)⟩
 | .tuple xs,v,u,h,r=>by
  obtain⟨a,vs,e,hH,hl⟩:=(show ∃a vs,v= .ref a/\H a=some (.tup vs)/\IsL H xs vs by simpa only[Is] using h)
  rw[e] at r
  rw[show u= .ref a from r]
  obtain⟨_,ak,hv,o,hg,hc,n,hd⟩:=I.aE a _ hH
  obtain⟨as,q⟩:=IsL.reads I xs vs ak hl hv
  exact⟨_, .tuple hg hc hd (by simpa using q)⟩
 | .dict _,v,u,h,r=>by simp only[Is] at h
theorem IsL.reads{pins:List (Addr×Obj)}{σ:St}{H:Hp}{s:Shared}(I:Inv X pins σ H s): ∀(ds:List PyData) (vs:List V) (us:List Value),IsL H ds vs->Vals vs us-> ∃as,ReadsAll s.heap us ds as
 | [],vs,us,h,r=>by
  rw[show vs=[] from h] at r
  cases r
  exact⟨_, .nil⟩
 | d::ds,vs,us,h,r=>by
  obtain⟨v,q,e,h1,h2⟩:=(show ∃v r,vs=v::r/\Is H d v/\IsL H ds r by simpa only[IsL] using h)
  rw[e] at r
  cases r with
  | cons r1 r2=>
   obtain⟨as,q1⟩:=Is.reads I d v _ h1 r1
   obtain⟨bs,q2⟩:=IsL.reads I ds q _ h2 r2
   exact⟨_, .cons q1 q2⟩
end
def QG:V->Bool
 | .mz _=>false
 | .fQ _=>false
 | _=>true
def QH:R2:=fun x y H Q=> ∃a b xs,x= .ref a/\y= .ref b/\H a=some (.lst xs)/\H b=some (.lst xs)/\xs.all QG=true/\Q (.bl true) H
def oJ(neg:Bool):R2:=fun x y H Q=>match oh x y with
 | true=>Q (.bl<|neg ^^ decide (x=y)) H
 | false=> ∃d e,Is H d x/\Is H e y/\SeqAt.shaped d=true/\SeqAt.shaped e=true/\Q (.bl<|neg ^^ PyData.eqv d e) H
def QI:R2:=fun x y H Q=>oJ false x y H Q\/QH x y H Q
theorem QJ(hu:X.A.units+64<cLine):bo X (compareOp .Eq) (oJ false):=by
 intro pins s σ H x y v u Q I rx ry h
 unfold oJ at h
 by_cases hs:oh x y=true
 ·rw[hs] at h
  simp only[zaM] at h
  exact NN pins s σ H x y v u Q I rx ry ⟨hs,h⟩
 ·rw[show oh x y=false by simpa using hs] at h
  obtain⟨d,e,h1,h2,h3,h4,q⟩:=h
  rw[zaM] at q
  obtain⟨as,r1⟩:=Is.reads I d x v h1 rx
  obtain⟨bs,r2⟩:=Is.reads I e y u h2 ry
  exact eq_dataH r1 r2 h3 h4 hu ⟨.bl _,H,I,rfl,q⟩
theorem QK(hu:X.A.units+64<cLine):bo X (compareOp .NotEq) (oJ true):=by
 intro pins s σ H x y v u Q I rx ry h
 unfold oJ at h
 by_cases hs:oh x y=true
 ·rw[hs] at h
  simp only[zaS] at h
  exact NO pins s σ H x y v u Q I rx ry ⟨hs,h⟩
 ·rw[show oh x y=false by simpa using hs] at h
  obtain⟨d,e,h1,h2,h3,h4,q⟩:=h
  rw[zaS] at q
  obtain⟨as,r1⟩:=Is.reads I d x v h1 rx
  obtain⟨bs,r2⟩:=Is.reads I e y u h2 ry
  exact ne_dataH r1 r2 h3 h4 hu ⟨.bl _,H,I,rfl,q⟩
theorem QL(l:Addr)(o:Obj)(es:Array DictEntry)(ep:Nat)(hc:o.cls= .type "dict")(hd:o.data= .dict es ep)(b:Str)(u:Tok):
  Meets (Builtin.«dict.__eq__» ⟨[.ref l, .str b u],[]⟩) (fun _ R s=>s.heap.get? l=some o/\R (.ok<|.ret .notImplemented) s):=
 .of_wp fun prog w A R s h=>by obtain⟨hp,g,d,tk,os⟩:=s;obtain⟨hl,h⟩:=h;obtain⟨cls,dd,data,sl⟩:=o;simp only at hc hd;subst hc hd;have f1:=F.sub_str_dict;wp_walk using AutoSeq1.wpAny_loadPart' hl;exact⟨_,rfl,h⟩
theorem QM(b:Str)(u:Tok)(l:Addr)(o:Obj)(es:Array DictEntry)(ep:Nat)(hc:o.cls= .type "dict")(hd:o.data= .dict es ep):
  Meets (Builtin.«str.__eq__» ⟨[.str b u, .ref l],[]⟩) (fun _ R s=>s.heap.get? l=some o/\R (.ok<|.ret .notImplemented) s):=
 .of_wp fun prog w A R s h=>by obtain⟨hp,g,d,tk,os⟩:=s;obtain⟨hl,h⟩:=h;obtain⟨cls,dd,data,sl⟩:=o;simp only at hc hd;subst hc hd;wp_walk using AutoSeq1.wpAny_loadPart' hl,wpAny_load hl;exact⟨_,rfl,h⟩
theorem QN{A:Around}{s:Shared}{l:Addr}{o:Obj}{es:Array DictEntry}{ep:Nat}(b:Str)(u:Tok)(ho:s.heap.get? l=some o)(hc:o.cls= .type "dict")(hd:o.data= .dict es ep)(hu:A.units<cLine):SeqAt.EqAt A s (.str b u) (.ref l) false:=fun prog w E Q h=>by
 have rc:SeqAt.RcAt A s (.str b u) (.ref l) false:=fun prog w E Q h=>
  SeqAt.rc_eq_decline_or (k:=false) (typeIs_str s b u) ⟨_,ho,hc⟩ (by decide) F.sub_dict_str F.slot_str_eq F.slot_dict_eq_refl
   (fun _ hq=>call_meets F.slot_str_eq (typeIs_str s b u) F.entry_str_eq (F.args_str_eq_2 _ _) (QM b u l o es ep hc hd) ⟨ho,hq⟩)
   (fun _ hq=>call_meets F.slot_dict_eq_refl ⟨_,ho,hc⟩ F.entry_dict_eq (F.args_dict_eq_2 _ _) (QL l o es ep hc hd b u) ⟨ho,hq⟩)
   (fun _ hq=>wpAny_of_eq (rfl:isSame (.str b u) (.ref l)=pure false) hq) (.inr hu) h
 unfold eqBool
 refine wpAny_holding ?_
 refine wpAny_ite_split (fun dw=>absurd (eq_of_beq dw) nofun)<|fun _=> ?_
 exact wpAny_bind<|rc prog w E _<|wpAny_truthy_bool h
def Ff(K:Frag)(H:Hp)(a:Addr):Prop:=(∃xs,aq K H a xs)\/(∃xs,aG K H a xs)\/ ∃kvs,H a=some (.dK kvs)
theorem sy{pins:List (Addr×Obj)}{σ:St}{H:Hp}{s:Shared}{a:Addr}(I:Inv X pins σ H s)(hc:Ff X.K H a)(hu:X.A.units+64<cLine): ∀{ts:List Str} {us:List Value},Vals (ts.map V.str) us-> ∀u∈us,SeqAt.EqAt X.A.in1 s u (.ref a) false
 | [],_, .nil=>fun u hu=>by cases hu
 | t::ts,u::us, .cons r rs=>fun u' zu=>by
  rcases zaa.mp zu with rfl | zu
  ·obtain⟨k,rfl⟩:=(show ∃k,_=Value.str t k from r)
   have zv:X.A.in1.units<cLine:=by show X.A.units+1<cLine;lia
   rcases hc with⟨xs,hc⟩ | ⟨xs,hc⟩ | ⟨kvs,hc⟩
   ·obtain⟨ak,_,pl,_⟩:=I.list hc
    exact SeqAt.EqAt.str_list t k pl.isList zv
   ·obtain⟨ak,_,pl,_⟩:=I.tuple hc
    exact SeqAt.EqAt.str_tuple t k pl zv
   ·obtain⟨_,_,vs,_,o,es,ep,ho,hx,hd,_⟩:=(show cg X.prog X.w H s.heap a (.dK kvs) from I.aE a _ hc)
    exact QN t k ho hx.1 hd zv
  ·exact sy I hc hu rs u' zu
def vw(K:Frag)(neg:Bool):R2:=fun x y H Q=>match y with
 | .str j=> ∃i,x= .str i/\Q (.bl (if neg then !(!(Builtin.Str.occurrences j i 0 j.length 1).isEmpty) else !(Builtin.Str.occurrences j i 0 j.length 1).isEmpty)) H
 | .ref p=>match x with
  | .ref a=> ∃ts:List Str,(aq K H p (ts.map V.str)\/aG K H p (ts.map V.str))/\Ff K H a/\Q (.bl neg) H
  | x=>yX K neg x (.ref p) H Q
 | _=>False
theorem QO(hu:X.A.units+64<cLine):bo X (compareOp .In) (vw X.K false):=by
 intro pins s σ H x y v u Q I rx ry h
 cases y with
 | str j=>
  obtain⟨i,e,q⟩:=h
  exact NU pins s σ H x _ v u Q I rx ry ⟨i,j,e,rfl,q⟩
 | ref p=>
  cases x with
  | ref a=>
   obtain⟨ts,hq,hc,q⟩:=h
   cases rx
   cases ry
   rcases hq with hq | hq
   ·obtain⟨ak,r,pl,hz⟩:=I.list hq
    refine SeqAt.in_listAt (fun _=>false) pl.isList (fun w hw=>sy I hc hu r w (by simpa using hw)) ⟨.bl _,H,I,rfl, ?_⟩
    rw[show(ak.toArray.any fun _=>false)=false by simp];exact q
   ·obtain⟨ak,r,pl,hz⟩:=I.tuple hq
    refine SeqAt.in_tupleAt (fun _=>false) pl (fun w hw=>sy I hc hu r w (by simpa using hw)) ⟨.bl _,H,I,rfl, ?_⟩
    rw[show(ak.toArray.any fun _=>false)=false by simp];exact q
  | _=>exact O3 pins s σ H _ _ v u Q I rx ry h
 | _=>exact False.elim h
theorem QP(hu:X.A.units+64<cLine):bo X (compareOp .NotIn) (vw X.K true):=by
 intro pins s σ H x y v u Q I rx ry h
 cases y with
 | str j=>
  obtain⟨i,e,q⟩:=h
  exact NX pins s σ H x _ v u Q I rx ry ⟨i,j,e,rfl,q⟩
 | ref p=>
  cases x with
  | ref a=>
   obtain⟨ts,hq,hc,q⟩:=h
   cases rx
   cases ry
   rcases hq with hq | hq
   ·obtain⟨ak,r,pl,hz⟩:=I.list hq
    refine SeqAt.notIn_listAt (fun _=>false) pl.isList (fun w hw=>sy I hc hu r w (by simpa using hw)) ⟨.bl _,H,I,rfl, ?_⟩
    rw[show(ak.toArray.any fun _=>false)=false by simp];exact q
   ·obtain⟨ak,r,pl,hz⟩:=I.tuple hq
    refine SeqAt.notIn_tupleAt (fun _=>false) pl (fun w hw=>sy I hc hu r w (by simpa using hw)) ⟨.bl _,H,I,rfl, ?_⟩
    rw[show(ak.toArray.any fun _=>false)=false by simp];exact q
  | _=>exact O4 pins s σ H _ _ v u Q I rx ry h
 | _=>exact False.elim h
theorem QR{M:Model}{A:Around}{E:Value->Shared->Prop}{s:Shared}{Q:Value->Shared->Prop}{v:Value}{d:Bool}(hv: ∀id,v≠ .builtin id)(h:Q (.bool<|v== .bool d) s):wpAny M A (compareOp .Is v<|.bool d) Q E s:=by
 cases v<;>first | exact wpAny_pure h | exact absurd rfl (hv _)
theorem QS{M:Model}{A:Around}{E:Value->Shared->Prop}{s:Shared}{Q:Value->Shared->Prop}{v:Value}{d:Bool}(hv: ∀id,v≠ .builtin id)(h:Q (.bool<|!(v== .bool d)) s):wpAny M A (compareOp .IsNot v<|.bool d) Q E s:=by
 cases v<;>first | exact wpAny_pure h | exact absurd rfl (hv _)
def Fg:R2:=fun x y H Q=>match y with
 | .bl b=>Q (.bl<|decide<|x= .bl b) H
 | _=>y= .aC/\Q (.bl<|decide<|x= .aC) H
def Fh:R2:=fun x y H Q=>match y with
 | .bl b=>Q (.bl<|!decide (x= .bl b)) H
 | _=>y= .aC/\Q (.bl<|!decide (x= .aC)) H
theorem QU:bo X (compareOp .Is) Fg:=by
 intro pins s σ H x y v u Q I rx ry h
 cases y with
 | bl b=>
  cases ry
  have nb: ∀id,v≠ .builtin id:=fun id z=>by
   subst z
   cases x<;>first
    | (obtain⟨t,e⟩:=rx;cases e;done)
    | (cases rx;done)
  refine QR nb<|bY I (show Q (.bl<|decide<|x= .bl b) H from h) ?_
  cases x<;>first
   | (cases rx;rfl)
   | (obtain⟨t,rfl⟩:=rx;rfl)
   | (cases rx;rename_i a;cases a<;>cases b<;>rfl)
 | _=>exact NV pins s σ H x _ v u Q I rx ry h
theorem QV:bo X (compareOp .IsNot) Fh:=by
 intro pins s σ H x y v u Q I rx ry h
 cases y with
 | bl b=>
  cases ry
  have nb: ∀id,v≠ .builtin id:=fun id z=>by
   subst z
   cases x<;>first
    | (obtain⟨t,e⟩:=rx;cases e;done)
    | (cases rx;done)
  refine QS nb<|bY I (show Q (.bl<|!decide (x= .bl b)) H from h) ?_
  cases x<;>first
   | (cases rx;rfl)
   | (obtain⟨t,rfl⟩:=rx;rfl)
   | (cases rx;rename_i a;cases a<;>cases b<;>rfl)
 | _=>exact NW pins s σ H x _ v u Q I rx ry h
def cY(K:Frag):CmpOp->R2
 | .Eq=>oJ false
 | .NotEq=>oJ true
 | .Lt=>jX (fun _ _=>True) fun i j=> .bl (decide<|i<j)
 | .LtE=>jX (fun _ _=>True) fun i j=> .bl (decide<|i<=j)
 | .Gt=>jX (fun _ _=>True) fun i j=> .bl (decide<|j<i)
 | .GtE=>jX (fun _ _=>True) fun i j=> .bl (decide<|j<=i)
 | .In=>vw K false
 | .NotIn=>vw K true
 | .Is=>Fg
 | .IsNot=>Fh
theorem vx(hu:X.A.units+64<cLine)(op:CmpOp):bo X (compareOp op) (cY X.K op):=by
 cases op with
 | Eq=>exact QJ hu
 | NotEq=>exact QK hu
 | Lt=>exact bo.imp NP sx
 | LtE=>exact bo.imp NQ sx
 | Gt=>exact bo.imp NR sx
 | GtE=>exact bo.imp NT sx
 | In=>exact QO hu
 | NotIn=>exact QP hu
 | Is=>exact QU
 | IsNot=>exact QV
inductive Ty where | int | str | bool | list | tuple | dict
 deriving DecidableEq
def Ty.nm:Ty->String
 | .int=> "int" | .str=> "str" | .bool=> "bool" | .list=> "list" | .tuple=> "tuple" | .dict=> "dict"
def bF(T:Ty)(x:V)(H:Hp)(Q:Bool->Prop):Prop:=match x with
 | .aC=>Q false
 | .bl _=>Q (T== .bool || T== .int)
 | .int _=>Q (T== .int)
 | .str _=>Q (T== .str)
 | .ref a=>match H a with
  | some (.lst _)=>Q (T== .list)
  | some (.bX _<|.lst _)=>Q (T== .list)
  | some (.tup _)=>Q (T== .tuple)
  | some (.dK _)=>Q (T== .dict)
  | some (.dT _)=>Q (T== .dict)
  | _=>False
 | _=>False
theorem mM(K:Frag)(S T:Ty):kitOne K (.type S.nm) (.type T.nm)=some (S==T || (S== .bool && T== .int)):=by
 cases S<;>cases T<;>rfl
theorem QW(K:Frag)(T:Ty):kitOne K (.type "NoneType") (.type T.nm)=some false:=by
 cases T<;>rfl
theorem QX(hc:X.calm=true):cy X (.builtin "sum") (fun xs H Q=> ∃(p:Addr) (ns:List Int),xs=[.ref p]/\aq X.K H p (ns.map V.int)/\Q (.int ns.sum) H):=by
 intro pins s σ H xs us Q I r h
 obtain⟨p,ns,rfl,hq,q⟩:=h
 obtain⟨u,rfl,ru⟩:=vals1 r
 cases ru
 obtain⟨ak,rv,pl,hz⟩:=I.list hq
 have hi:=intsAre_of rv
 obtain⟨xs,hx⟩:=hi.allInts.items
 have QY:s.heap.IsList p (intItems xs):=hx ▸ pl.isList
 refine sum_intListG (I.ok.hd hc) QY fun h' tk t' hk=> ?_
 have e1:ns=xs.toList.map (·.1):=by
  rw[<-nums_intItems,<-hx]
  exact(show numsOf ak.toArray.toList=ns from hi.numsOf).symm
 have e2:preSum (numAt xs) xs.size=ns.sum:=by
  rw[preSum_eq,zaG (by simp),e1]
 rw[e2]
 exact⟨.int ns.sum,H,I.kept (t':=tk) hk,⟨t',rfl⟩,q⟩
theorem Fi: ∀{ts:List Str} {us:List Value},Vals (ts.map V.str) us-> ∃l:List (Str×Tok),us=strValues l/\l.map (·.1)=ts
 | [],_, .nil=> ⟨[],rfl,rfl⟩
 | x::ts,_, .cons ⟨t,e⟩ r=>by
  obtain⟨l,e1,e2⟩:=Fi r
  subst e e1
  exact⟨(x,t)::l,rfl,by simp[e2]⟩
def rJoin(K:Frag):V->List V->Hp->VK->Prop:=fun x vs H Q=> ∃(sep:Str) (p:Addr) (ts:List Str),x= .str sep/\vs=[.ref p]/\aq K H p (ts.map V.str)/\JoinOk sep ts=true/\Q (.str<|Txt.join sep ts) H
theorem QZ:kS X "str.join" (rJoin X.K):=by
 intro pins s σ H x vs v us Q I rx rv h
 obtain⟨sep,p,ts,rfl,rfl,hq,hj,q⟩:=h
 obtain⟨t,rfl⟩:=rx
 obtain⟨u,rfl,ru⟩:=vals1 rv
 cases ru
 obtain⟨ak,rv,pl,hz⟩:=I.list hq
 obtain⟨l,rfl,e2⟩:=Fi rv
 exact SC.join pl.isList e2 hj fun t' k=> ⟨.str _,H,I.tok k,⟨t',rfl⟩,q⟩
def Q0:V->List V->Hp->VK->Prop:=fun x vs H Q=> ∃z y,x= .str z/\vs=[.str y]/\z.length<=sizeLine/\Q (.str<|Txt.lstripChars z y) H
theorem Q2:kS X "str.lstrip" Q0:=by
 intro pins s σ H x vs v us Q I rx rv h
 obtain⟨z,y,rfl,rfl,hz,q⟩:=h
 obtain⟨t,rfl⟩:=rx
 obtain⟨u,rfl,⟨t2,rfl⟩⟩:=vals1 rv
 refine call_gives F.slot_str_lstrip (typeIs_str _ _ _) F.entry_str_lstrip (F.args_str_lstrip_2 _ _) (gives_str_lstrip_chars z y t t2)<|post_val_or_made (fun _=>fits_stripped _ _ _ hz) fun t' k=> ?_
 exact⟨.str _,H,I.tok k,⟨t',rfl⟩,q⟩
def Q3:V->List V->Hp->VK->Prop:=fun x vs H Q=> ∃z y i,x= .str z/\vs=[.str y, .int i]/\Q (.bl<|decide (fromIndex z.length i+y.length<=z.length) && Builtin.Str.subAt z y (fromIndex z.length i)) H
theorem Q4:kS X "str.startswith" Q3:=by
 intro pins s σ H x vs v us Q I rx rv h
 obtain⟨z,y,i,rfl,rfl,q⟩:=h
 obtain⟨t,rfl⟩:=rx
 obtain⟨u,w,rfl,⟨t2,rfl⟩,⟨t3,rfl⟩⟩:=vals2 rv
 exact call_gives F.slot_str_startswith (typeIs_str _ _ _) F.entry_str_startswith (F.args_str_startswith_3 _ _ _) (gives_str_startswith_from z y i t t2 t3) ⟨.bl _,H,I,rfl,q⟩
def kY{α:Type}(xs:List α)(lo hi:Option Int):List α:=(xs.drop<|HT.a_ xs.length 0 lo).take (HT.a_ xs.length xs.length hi - HT.a_ xs.length 0 lo)
def jx(z:Str)(lo hi:Option Int):Str:=⟨(kY z.cps.toList lo hi).toArray⟩
theorem Q5(z:Str)(lo hi:Option Int):((Builtin.Str.strSliceIndices lo hi 1 z.length).filterMap (z.cps[·]?))=kY z.cps.toList lo hi:=by
 obtain⟨h1,h2,h3⟩:=yW lo hi z.length
 have e0:Builtin.Str.strSliceIndices lo hi 1 z.length=sliceRange (sliceBounds lo hi none z.length).1 (sliceBounds lo hi none z.length).2.1 (sliceBounds lo hi none z.length).2.2:=rfl
 have hz:z.cps.toList.length=z.length:=by simp[Str.length]
 rw[e0,h1,h2,h3,sliceRange_one,pick_run]
 unfold kY
 rw[hz]
end
section
variable {X:Cx}
def vy(K:Frag)(neg:Bool):R2:=fun x y H Q=> ∃p xs d es,y= .ref p/\aq K H p xs/\Is H d x/\IsL H es xs/\SeqAt.shaped d=true/\d.depth<=60/\(∀e∈es,SeqAt.shaped e=true)/\Q (.bl<|neg ^^ es.any fun e=>PyData.eqv e d) H
open Classical in
end
def zw:HO:= .ext fun _=>True
structure zx (ob:Obj) (cls:Value) (vs:Array Value):Prop where
 cls:ob.cls=cls
 data:ob.data= .fields vs
 acP:vs[2]?=some .none
 dict:ob.dict=none
def ExcAt(H:Hp)(ea D:Addr):Prop:= ∃ob vs,H ea=some (.bX ob zw)/\zx ob (.ref D) vs
structure Q6 (K:Frag) (D:Addr):Prop where
 hga:PySem.W.findIn K (.ref D) "__getattribute__"=some (some<|.builtin "BaseException.__getattribute__")
 hgn:PySem.W.findIn K (.ref D) "__getattr__"=some none
 hk:(PySem.W.clsIn K D).isSome=true
 ha:PySem.W.findIn K (.ref D) "__class__"=some (some<|.builtin "object.__class__")
 hn:specialIn K (.builtin "object.__class__") "__get__"=some (some<|.builtin "getset_descriptor.__get__")
 yK:takesIn K (.builtin "object.__class__")=some true
 hm:mroIn K D (.type "object")=some true
 hb:mroIn K D (.type "BaseException")=some true
def cV:V->Value
 | .ref a=> .ref a
 | .ty n=> .type n
 | _=> .none
def Fj(K:Frag):List V->Hp->VK->Prop
 | [.ref ea,c],H,Q=> ∃D b,ExcAt H ea D/\Q6 K D/\((∃C,c= .ref C)\/ ∃n,c= .ty n)/\kitOne K (.ref D) (cV c)=some b/\Q (.bl b) H
 | _,_,_=>False
def Q7(sp:Sp)(hv:Option Addr)(t:TA):TE:=fun σ H Q=>t σ H fun vs H1=> (∃ea D,hv=some ea/\ExcAt H1 ea D)/\sp vs H1 Q E0
def zy(C:Addr)(E:XK)(t:TA):TS:=fun _ σ H=>t σ H fun vs H1=>vs.length<=sizeLine/\E (.ref C) none H1
def Q8(K:Frag)(C:Addr)(i n:Nat)(th:Addr->TS)(D:Ends):XK:=fun cls _ H'=>exmOne K cls (.ref C)=some true/\
 ∀(ea:Addr) (ob:Obj) (vs:Array Value) (σ':St),H' ea=none->σ'.length=n->zx ob cls vs->th ea {nx:=fun _ _=>False,rt:=D.rt} (σ'.set i<|some<|.ref ea) (upd H' ea<|.bX ob zw)
def Q9(K:Frag)(C:Addr)(i n:Nat)(tb:XK->TS)(th:Addr->TS):TS:=fun D σ H=>tb (Q8 K C i n th D) {nx:=D.nx,rt:=D.rt} σ H
def Q_(K:Frag)(C:Addr)(i:Nat)(th:Addr->TS)(D:Ends)(σ:St):XK:=fun cls _ H'=>exmOne K cls (.ref C)=some true/\
 ∀(ea:Addr) (ob:Obj) (vs:Array Value),H' ea=none->zx ob cls vs->th ea {nx:=fun _ _=>False,rt:=D.rt} (σ.set i<|some<|.ref ea) (upd H' ea<|.bX ob zw)
def Ra(K:Frag)(C:Addr)(i k:Nat)(sp:Sp)(ta:TA)(th:Addr->TS):TS:=fun D σ H=>ta σ H fun vs H1=>sp vs H1 (fun v H2=>D.nx (σ.set k<|some v) H2) (Q_ K C i th D σ)
inductive kZ where | len | min | max | sum | int | list | tuple | abs
 deriving DecidableEq
inductive hJ where | append | pop | extend | join | lstrip | starts | reverse | clear | index | find | count | zA | sA
 deriving DecidableEq
inductive IK where | list | tup | gX | Rb | zip | Rc | txt | Rf | Rg
 deriving DecidableEq
inductive RE where
 | v (i:Nat) | c (x:V) | g (j:Nat)
 | bin (op:Operator) (a b:RE) | neg (a:RE)
 | cmp (op:CmpOp) (a b:RE) | sD (op fR:CmpOp) (a b d:RE) | Fl (op fR Fm:CmpOp) (a b d f:RE)
 | and (as:List RE) | or (as:List RE) | not (a:RE) | iW (t a b:RE)
 | call (j:Nat) (as:List RE) | blt (b:kZ) (as:List RE) | dW (T:Ty) (a:RE)
 | bg (m:hJ) (o:RE) (as:List RE)
 | ix (a b:RE) | sl (a:RE) (lo hi:Option RE)
 | tup (as:List RE) | lst (as:List RE)
 | comp (tk:Option Nat) (fv:List (Str×Nat)) (k:IK) (ak:List RE) (cond:Option RE) (elt:RE)
 | Fn (a c:RE) | Rh (j:Nat) (a:RE) | Ri | same (a b:RE)
 | Rj | bh (a b:RE) | Fo (a b:RE) | Fp (a b:RE) | Rk (o a b:RE) | inD (a b:RE) | Fq (a b:RE)
 | xt (T:Frag->TA->TE) (as:List RE) | xm (T:Frag->TE->TA->TE) (o:RE) (as:List RE)
 | fld (o:RE) (f:Str) | bK (j:Nat) (m:Str) (o:RE) (as:List RE) | make (j:Nat) (as:List RE)
inductive RS where
 | asg (i:Nat) (e:RE) | vz (i:Nat) (e:RE) | set (o ix e:RE)
 | drop (e:RE) | ret (e:RE) | Rl
 | ite (c:RE) (t e:List RS)
 | jy (i:Nat) (k:IK) (ak:List RE) (body:List RS)
 | k_ (is:List Nat) (k:IK) (ak:List RE) (body:List RS)
 | lA (c:RE) (body:List RS)
 | pass | brk | cont | never
 | Rm (o lo hi e:RE) | fW (o:RE) (f:Str) (e:RE)
 | sE (is:List Nat) (e:RE) | dput (o i e:RE) | iX (j:Nat) (as:List RE) | Rn (n i j:Nat) (body su:List RS) | Ro (k i j f:Nat) (as:List RE) (su:List RS)
structure aQ where
 K:Frag
 fs:Nat->Sp
 gv:Nat->V
 E:XK
 sd:Addr->List (Key×V)->Prop
 ms:Nat->Addr×Sp
 kt:Nat->Addr×Sp
 ex:Nat->Addr
 hs:Nat->Sp
 hv:Option Addr
abbrev aQ.calm(Γ:aQ):aQ:={Γ with E:=E0}
def jY(K:Frag)(x:V)(H:Hp)(Q:Bool->Prop):Prop:=match x with
 | .aC=>Q false
 | .bl b=>Q b
 | .int i=>Q (i !=0)
 | .str y=>y.length<=sizeLine/\Q ((y.length:Int) !=0)
 | .ref p=> (∃xs,aq K H p xs/\Q (!xs.isEmpty))\/(∃xs,aG K H p xs/\Q (!xs.isEmpty))\/ ∃kvs,H p=some (.dK kvs)/\Q (!kvs.isEmpty)
 | _=>False
theorem Fs{K:Frag}{x:V}{H:Hp}{Q:Bool->Prop}(h:jY K x H Q): ∃k,D4 K x H k/\Q k:=by
 cases x with
 | aC=>exact⟨_,rfl,h⟩
 | bl b=>exact⟨_,rfl,h⟩
 | int i=>exact⟨_,rfl,h⟩
 | str y=>exact⟨_,⟨h.1,rfl⟩,h.2⟩
 | ref p=>
  rcases h with⟨xs,h1,h2⟩ | ⟨xs,h1,h2⟩ | ⟨xs,h1,h2⟩
  ·exact⟨_, .inl ⟨xs,h1,rfl⟩,h2⟩
  ·exact⟨_, .inr<|.inl ⟨xs,h1,rfl⟩,h2⟩
  ·exact⟨_, .inr<|.inr ⟨xs,h1,rfl⟩,h2⟩
 | _=>exact False.elim h
def gG(K:Frag)(t:TE):TT:=fun σ H Q=>t σ H fun x H1=>jY K x H1 fun b=>Q b H1
def zB(K:Frag)(t:TE):TE:=fun σ H Q=>t σ H fun x H1=>jY K x H1 fun b=>Q (.bl<|!b) H1
def Ft:V->Hp->VK->Prop:=fun x H Q=>match x with | .int i=>Q (.int<|-i) H | _=>False
def r_(K:Frag)(x:V)(H:Hp)(Q:Nat->Prop):Prop:=match x with
 | .str y=>y.length<=sizeLine/\Q y.length
 | .ref p=> (∃xs,aq K H p xs/\Q xs.length)\/ ∃xs,aG K H p xs/\Q xs.length
 | _=>False
def signs(x:Str):List V:=x.cps.toList.map fun c=>V.str ⟨#[c]⟩
def Rp:TE:=fun _ H Q=> ∀p,H p=none->Q (.ref p) (upd H p<|.dK [])
def mO(K:Frag):kZ->List V->Hp->VK->Prop
 | .len,[x],H,Q=>r_ K x H fun n=>Q (.int n) H
 | .min,[.int i, .int j],H,Q=>Q (.int (if j<i then j else i)) H
 | .max,[.int i, .int j],H,Q=>Q (.int (if j>i then j else i)) H
 | .min,[.ref p],H,Q=> ∃ns:List Int,aq K H p (ns.map V.int)/\ns≠ []/\ ∀m:Int,m∈ns->(∀n∈ns,m<=n)->Q (.int m) H
 | .max,[.ref p],H,Q=> ∃ns:List Int,aq K H p (ns.map V.int)/\ns≠ []/\ ∀m:Int,m∈ns->(∀n∈ns,n<=m)->Q (.int m) H
 | .sum,[.ref p],H,Q=> ∃ns:List Int,aq K H p (ns.map V.int)/\Q (.int ns.sum) H
 | .int,[.int i],H,Q=>Q (.int i) H
 | .int,[.bl k],H,Q=>Q (.int (if k then 1 else 0)) H
 | .list,[.ref p],H,Q=> ∃ys,(aq K H p ys\/aG K H p ys)/\ ∀l,H l=none->Q (.ref l) (upd H l<|.lst ys)
 | .list,[.str x],H,Q=>x.length<=sizeLine/\ ∀l,H l=none->Q (.ref l) (upd H l<|.lst<|signs x)
 | .tuple,[.str x],H,Q=>x.length<=sizeLine/\ ∀l,H l=none->Q (.ref l) (upd H l<|.tup<|signs x)
 | .abs,[.int i],H,Q=>Q (.int (if i<0 then -i else i)) H
 | .tuple,[.ref p],H,Q=> ∃ys,(aq K H p ys/\ ∀l,H l=none->Q (.ref l) (upd H l<|.tup ys))\/(aG K H p ys/\Q (.ref p) H)
 | _,_,_,_=>False
def jZ(T:Ty):List V->Hp->VK->Prop
 | [x, .ty n],H,Q=>n=T.nm/\bF T x H fun b=>Q (.bl b) H
 | _,_,_=>False
def vA(K:Frag):hJ->V->List V->Hp->VK->Prop
 | .append, .ref l,[y],H,Q=> ∃xs,H l=some (.lst xs)/\xs.length<sizeLine/\Q .aC (upd H l<|.lst<|xs++ [y])
 | .pop, .ref l,[],H,Q=> ∃xs y,H l=some (.lst xs)/\xs[xs.length - 1]?=some y/\Q y (upd H l<|.lst xs.dropLast)
 | .extend, .ref l,[.ref b],H,Q=> ∃xs zs,H l=some (.lst xs)/\H b=some (.lst zs)/\xs.length+zs.length<=sizeLine/\Q .aC (upd H l<|.lst<|xs++zs)
 | .join, .str sep,[.ref p],H,Q=> ∃ts:List Str,aq K H p (ts.map V.str)/\JoinOk sep ts=true/\Q (.str<|Txt.join sep ts) H
 | .lstrip, .str z,[.str y],H,Q=>z.length<=sizeLine/\Q (.str<|Txt.lstripChars z y) H
 | .starts, .str z,[.str y, .int i],H,Q=>Q (.bl<|decide (fromIndex z.length i+y.length<=z.length) && Builtin.Str.subAt z y (fromIndex z.length i)) H
 | .find, .str z,[.str y],H,Q=>Q (.int (match Builtin.Str.occurrences z y 0 z.length 1 with | i::_=> (i:Int) | []=> -1)) H
 | .find, .str z,[.str y, .int i],H,Q=>Q (.int (match Builtin.Str.occurrences z y (fromIndex z.length i) z.length 1 with | k::_=> (k:Int) | []=> -1)) H
 | .count, .str z,[.str y],H,Q=>Q (.int (Builtin.Str.occurrences z y 0 z.length<|z.length+1).length) H
 | .reverse, .ref l,[],H,Q=> ∃xs,H l=some (.lst xs)/\Q .aC (upd H l<|.lst xs.reverse)
 | .index, .ref l,[.str y],H,Q=> ∃ts:List Str,aq K H l (ts.map V.str)/\y∈ts/\Q (.int (ts.idxOf y:Nat)) H
 | .clear, .ref l,[],H,Q=> ∃xs,H l=some (.lst xs)/\Q .aC (upd H l<|.lst [])
 | .zA, .ref l,[y],H,Q=> ∃xs,aq K H l xs/\eR y=true/\xs.all eR=true/\Q (.int (xs.countP (fun z=>dN z y):Nat)) H
 | .sA, .ref l,[y],H,Q=> ∃xs,aq K H l xs/\eR y=true/\xs.all eR=true/\cG y xs=true/\Q (.int (xs.findIdx (fun z=>dN z y):Nat)) H
 | _,_,_,_,_=>False
def sG:hJ->String
 | .join | .lstrip | .starts | .find | .count=> "str"
 | _=> "list"
def qt(K:Frag)(m:hJ)(to:TE)(t:TA):TE:=fun σ H Q=>to σ H fun x H1=>qm K (sG m) x H1/\t σ H1 fun xs H2=>vA K m x xs H2 Q
def qu(K:Frag):V->Option Int->Option Int->Hp->VK->Prop:=fun x lo hi H Q=>match x with
 | .str z=>z.length<=sizeLine/\Q (.str<|jx z lo hi) H
 | .ref a=> (∃xs,aq K H a xs/\ ∀p,H p=none->Q (.ref p) (upd H p<|.lst<|du xs lo hi))\/
  (∃xs,aG K H a xs/\ ¬(HT.a_ xs.length 0 lo=0/\HT.a_ xs.length xs.length hi=xs.length)/\ ∀p,H p=none->Q (.ref p) (upd H p<|.tup<|du xs lo hi))
 | _=>False
def lB(kvs:List (Key×V))(k:Key):Option V:=(kvs.find? fun kv=>decide (kv.1=k)).map (·.2)
def Fu(sd:Addr->List (Key×V)->Prop):R2:=fun x y H Q=> ∃p kvs k v,x= .ref p/\y=kV k/\sd p kvs/\lB kvs k=some v/\Q v H
def mP(K:Frag)(sd:Addr->List (Key×V)->Prop):R2:=fun x y H Q=>Et K x y H Q\/Eu K x y H Q\/Ew x y H Q\/Fu sd x y H Q
def Rq(r r' r2:R2)(ta tb tc td:TE):TT:=fun σ H Q=>ta σ H fun x H1=>tb σ H1 fun y H2=>r x y H2 fun z H3=> ∃k,z= .bl k/\
 (if k=true then tc σ H3 fun w H4=>r' y w H4 fun z2 H5=> ∃k2,z2= .bl k2/\(if k2=true then td σ H5 fun u H6=>r2 w u H6 fun z3 H7=> ∃k3,z3= .bl k3/\Q k3 H7 else Q false H5) else Q false H3)
def jz(K:Frag)(a b:Addr):It:=
  ⟨fun i H=> ∃xs ys,aq K H a xs/\aq K H b ys/\i<xs.length/\i<ys.length,
   fun i H x H'=> ∃T,H T=none/\x= .ref T/\ ∀xs ys u v,aq K H a xs->aq K H b ys->xs[i]?=some u->ys[i]?=some v->H'=upd H T (.tup [u,v]),
   fun i H=> ∃xs ys,aq K H a xs/\aq K H b ys/\i=min xs.length ys.length⟩
def Rr(K:Frag)(a:Addr):It:=
  ⟨fun i H=> ∃xs,aq K H a xs/\i<xs.length,
   fun i H x H'=> ∃T,H T=none/\x= .ref T/\ ∀xs u,aq K H a xs->xs[i]?=some u->H'=upd H T (.tup [.int (i:Nat),u]),
   fun i H=> ∃xs,aq K H a xs/\i=xs.length⟩
def Rt(K:Frag)(ta:TA):TI:=fun σ H R=>ta σ H fun vs H1=> ∃a,vs=[.ref a]/\(∃xs,aq K H1 a xs)/\R (Rr K a) H1
def zC(K:Frag)(ta:TA):TI:=fun σ H R=>ta σ H fun vs H1=> ∃a b,vs=[.ref a, .ref b]/\(∃xs,aq K H1 a xs)/\(∃ys,aq K H1 b ys)/\R (jz K a b) H1
def Ru(K:Frag)(a b:Addr):It:=
  ⟨fun i H=> ∃xs ys,aG K H a xs/\aG K H b ys/\i<xs.length/\i<ys.length,
   fun i H x H'=> ∃T,H T=none/\x= .ref T/\ ∀xs ys u v,aG K H a xs->aG K H b ys->xs[i]?=some u->ys[i]?=some v->H'=upd H T (.tup [u,v]),
   fun i H=> ∃xs ys,aG K H a xs/\aG K H b ys/\i=min xs.length ys.length⟩
def Rv(K:Frag)(ta:TA):TI:=fun σ H R=>ta σ H fun vs H1=> ∃a b,vs=[.ref a, .ref b]/\(∃xs,aG K H1 a xs)/\(∃ys,aG K H1 b ys)/\R (Ru K a b) H1
def Rw(z:Str):It:=⟨fun i _=>i<z.length,fun i H x H'=>H'=H/\ ∃c,z.cps[i]?=some c/\x= .str ⟨#[c]⟩,fun i _=>i=z.length⟩
def Rx(ta:TE):TI:=fun σ H R=>ta σ H fun x H1=> ∃z,x= .str z/\R (Rw z) H1
def Ry(lo c:Int)(n:Nat):It:=⟨fun i _=>i<n,fun i H x H'=>H'=H/\x= .int (lo+i*c),fun i _=>n<=i⟩
def Rz(ta:TA):TI:=fun σ H R=>ta σ H fun vs H1=> ∃(i j c:Int) (n:Nat),vs=[.int i, .int j, .int c]/\c≠0/\Builtin.Range.small i j c=true/\Builtin.divisionGoesByPylong (j - i) c=false/\Builtin.Range.rangeSize i j c=n/\R (Ry i c n) H1
mutual
def af(Γ:aQ):RE->TE
 | .v i=>yt i
 | .c x=>tC x
 | .g j=>tC (Γ.gv j)
 | .bin op a b=>eW (qr Γ.K op) (af Γ a) (af Γ b)
 | .neg a=>DX Ft (af Γ a)
 | .cmp op a b=>eW (cY Γ.K op) (af Γ a) (af Γ b)
 | .sD op fR a b d=>uU (cY Γ.K op) (cY Γ.K fR) (af Γ a) (af Γ b) (af Γ d)
 | .Fl _ _ _ _ _ _ _=>fun _ _ _=>False
 | .and as=>Fv Γ as
 | .or as=>Fw Γ as
 | .not a=>zB Γ.K (af Γ a)
 | .iW t a b=>DE (bu Γ t) (af Γ a) (af Γ b)
 | .call j as=>yL (Γ.fs j) [] Γ.E (aY Γ as)
 | .blt b as=>gg (mO Γ.K b) (aY Γ as)
 | .dW T a=>gg (jZ T) (dU (af Γ a)<|dU (tC<|.ty T.nm) iR)
 | .bg m o as=>qt Γ.K m (af Γ o) (aY Γ as)
 | .ix a b=>eW (mP Γ.K Γ.sd) (af Γ a) (af Γ b)
 | .sl a lo hi=>yR (qu Γ.K) (af Γ a) (mQ Γ lo) (mQ Γ hi)
 | .tup as=>Ea (aY Γ as)
 | .lst as=>Eb (aY Γ as)
 | .comp tk fv k ak cond elt=>oG Γ.K (ij Γ k ak) tk fv (zD Γ.calm cond) (af Γ.calm elt)
 | .Fn a c=>gg (Fj Γ.K) (dU (af Γ a)<|dU (af Γ c) iR)
 | .Ri=>Rp
 | .same a b=>eW QI (af Γ a) (af Γ b)
 | .inD a b=>eW (vy Γ.K false) (af Γ a) (af Γ b)
 | .Fq a b=>eW (vy Γ.K true) (af Γ a) (af Γ b)
 | .Rj=>PZ
 | .bh a b=>EK (af Γ a) (af Γ b)
 | .Fo a b=>EL (af Γ a) (af Γ b)
 | .Fp a b=>EM (af Γ a) (af Γ b)
 | .Rk o a b=>P1 (af Γ o) (af Γ a) (af Γ b)
 | .xt T as=>T Γ.K (aY Γ as)
 | .xm T o as=>T Γ.K (af Γ o) (aY Γ as)
 | .Rh j a=>Q7 (Γ.hs j) Γ.hv (dU (af Γ a) iR)
 | .fld o f=>uX Γ.K (af Γ o) f
 | .bK j m o as=>oj (Γ.ms j).1 m (Γ.ms j).2 [] Γ.E (af Γ o) (aY Γ as)
 | .make j as=>yM (Γ.kt j).1 (Γ.kt j).2 [] Γ.E (aY Γ as)
def bu(Γ:aQ):RE->TT
 | .not a=>DC (bu Γ a)
 | .inD a b=>qk (eW (vy Γ.K false) (af Γ a)<|af Γ b)
 | .Fq a b=>qk (eW (vy Γ.K true) (af Γ a)<|af Γ b)
 | .Fo a b=>tB (EL (af Γ a)<|af Γ b)
 | .Fp a b=>tB (EM (af Γ a)<|af Γ b)
 | .and as=>Fx Γ as
 | .or as=>Fy Γ as
 | .cmp op a b=>qk (eW (cY Γ.K op) (af Γ a)<|af Γ b)
 | .sD op fR a b d=>qk (uU (cY Γ.K op) (cY Γ.K fR) (af Γ a) (af Γ b)<|af Γ d)
 | .Fl op fR Fm a b d f=>Rq (cY Γ.K op) (cY Γ.K fR) (cY Γ.K Fm) (af Γ a) (af Γ b) (af Γ d) (af Γ f)
 | .v i=>gG Γ.K (yt i)
 | .call j as=>gG Γ.K (yL (Γ.fs j) [] Γ.E<|aY Γ as)
 | .dW T a=>gG Γ.K (gg (jZ T)<|dU (af Γ a)<|dU (tC<|.ty T.nm) iR)
 | .Fn a c=>gG Γ.K (gg (Fj Γ.K)<|dU (af Γ a)<|dU (af Γ c) iR)
 | .bg m o as=>gG Γ.K (qt Γ.K m (af Γ o)<|aY Γ as)
 | .ix a b=>gG Γ.K (eW (mP Γ.K Γ.sd) (af Γ a)<|af Γ b)
 | .bin op a b=>gG Γ.K (eW (qr Γ.K op) (af Γ a)<|af Γ b)
 | .fld o f=>gG Γ.K (uX Γ.K (af Γ o) f)
 | .xt T as=>gG Γ.K (T Γ.K<|aY Γ as)
 | .xm T o as=>gG Γ.K (T Γ.K (af Γ o)<|aY Γ as)
 | .bK j m o as=>gG Γ.K (oj (Γ.ms j).1 m (Γ.ms j).2 [] Γ.E (af Γ o)<|aY Γ as)
 | _=>fun _ _ _=>False
def aY(Γ:aQ):List RE->TA
 | []=>iR
 | a::r=>dU (af Γ a) (aY Γ r)
def Fv(Γ:aQ):List RE->TE
 | []=>fun _ _ _=>False
 | [a]=>af Γ a
 | a::r=>DD (af Γ a) (Fv Γ r)
def Fw(Γ:aQ):List RE->TE
 | []=>fun _ _ _=>False
 | [a]=>af Γ a
 | a::r=>M7 (af Γ a) (Fw Γ r)
def Fx(Γ:aQ):List RE->TT
 | []=>fun _ _ _=>False
 | [a]=>bu Γ a
 | a::r=>DA (bu Γ a) (Fx Γ r)
def Fy(Γ:aQ):List RE->TT
 | []=>fun _ _ _=>False
 | [a]=>bu Γ a
 | a::r=>DB (bu Γ a) (Fy Γ r)
def mQ(Γ:aQ):Option RE->TO
 | none=>rS
 | some a=>ow (af Γ a)
def zD(Γ:aQ):Option RE->Option TT
 | none=>none
 | some a=>some (bu Γ a)
def ij(Γ:aQ)(k:IK):List RE->TI
 | []=>fun _ _ _=>False
 | a::r=>match k with
  | .list=>yB Γ.K (af Γ a)
  | .tup=>Nt Γ.K (af Γ a)
  | .gX=>DT (dU (af Γ a)<|aY Γ r)
  | .Rb=>Nw (dU (af Γ a)<|aY Γ r)
  | .zip=>zC Γ.K (dU (af Γ a)<|aY Γ r)
  | .Rc=>Rt Γ.K (dU (af Γ a)<|aY Γ r)
  | .txt=>Rx (af Γ a)
  | .Rf=>Rv Γ.K (dU (af Γ a)<|aY Γ r)
  | .Rg=>Rz (dU (af Γ a)<|aY Γ r)
end
structure cz where
 N:List Str
 sc:Scope
 fn:List Str
 gn:List Str
 bl:List Str
 mn:List Str
 kn:List Str
 en:List Str
 hn:List Str
 md:Nat
def zE(sc:Scope)(x:Str):Bool:=match sc.names.lookup x with
 | some .local=>true | some .cell=>true | some .free=>true | _=>false
def loc(sc:Scope)(x:Str):Bool:=match sc.names.lookup x with
 | some .local=>true | some .cell=>true | _=>false
def mR(sc:Scope)(x:Str):Bool:=match sc.names.lookup x with
 | some .globalImplicit=>true | _=>false
theorem RA{sc:Scope}{x:Str}(h:zE sc x=true):uG sc x:=by
 unfold zE at h
 unfold uG
 cases e:sc.names.lookup x with
 | none=>rw[e] at h;cases h
 | some k=>rw[e] at h;cases k<;>first | exact .inl rfl | exact .inr (.inl rfl) | exact .inr (.inr rfl) | cases h
theorem zF{sc:Scope}{x:Str}(h:loc sc x=true):Loc sc x:=by
 unfold loc at h
 unfold Loc
 cases e:sc.names.lookup x with
 | none=>rw[e] at h;cases h
 | some k=>rw[e] at h;cases k<;>first | exact .inl rfl | exact .inr rfl | cases h
theorem RB{sc:Scope}{x:Str}(h:mR sc x=true):sc.names.lookup x=some .globalImplicit:=by
 unfold mR at h
 cases e:sc.names.lookup x with
 | none=>rw[e] at h;cases h
 | some k=>rw[e] at h;cases k<;>first | rfl | cases h
structure sI where
 elt:Expr
 tg:Expr
 iter:Expr
 ifs:List Expr
 sc:Scope
def kZ.nm:kZ->Str
 | .len=> "len" | .min=> "min" | .max=> "max" | .sum=> "sum" | .int=> "int" | .list=> "list" | .tuple=> "tuple" | .abs=> "abs"
def hJ.nm:hJ->Str
 | .append=> "append" | .pop=> "pop" | .extend=> "extend" | .join=> "join" | .lstrip=> "lstrip" | .starts=> "startswith" | .reverse=> "reverse" | .clear=> "clear" | .index=> "index" | .find=> "find" | .count=> "count" | .zA=> "count" | .sA=> "index"
def mS:Expr->Bool
 | .Call (.Name _ _) [] [] _=>false
 | _=>true
def noStar:Expr->Bool
 | .Starred ..=>false
 | _=>true
def sJ:Expr->Bool
 | .Set ..=>false
 | _=>true
def zG(Fz sc:Scope):Scope:=
 {Fz with names:=Fz.names.map fun(n,k)=>if (k== .free && sc.kind== .function && sc.names.lookup n==some .cell) then (n, .cell) else (n,k)}
def zH(tk:Option Nat)(tg:Expr):Option (List Str):=match tk,tg with
 | none, .Name x _=>some [x]
 | some 2, .Tuple [.Name x _, .Name y _] _ _=>some [x,y]
 | _,_=>none
def FA(S:cz)(c:sI)(ln:List Str)(fv:List (Str×Nat)):cz:={S with N:=ln++fv.map (·.1),sc:=zG c.sc S.sc,en:=[],md:=if S.md=0 then 0 else 2}
def zI(S:cz)(c:sI)(ln:List Str)(fv:List (Str×Nat)):Bool:=
 decide (c.sc.kind= .function) && c.sc.names.all (fun y=>decide<|y.2≠ .cell) && c.sc.names.all (fun y=>decide (y.2≠ .local) || decide (c.sc.names.lookup y.1=some .local))
 && c.sc.names.all (fun y=>decide (y.2≠ .free) || decide (S.sc.names.lookup y.1=some .cell) || decide (S.sc.names.lookup y.1=some .free))
 && fv.all (fun p=>decide (S.N[p.2]?=some p.1) && decide (c.sc.names.lookup p.1=some .free))
 && ln.all (fun x=>decide<|c.sc.names.lookup x=some .local) && decide ((ln++fv.map (·.1)).Nodup) && sJ c.iter
theorem RC{P:Program}{w:World}{K:Frag}{elts:List Expr}{k:Nat}{pos:Pos}{z TI TO i1 i2 l1 l2:Addr}(D:ZipApart z TI TO i1 i2 l1 l2)(dl:l1≠TI/\l2≠TI):
  Turn P w K (.Tuple elts k pos) (jz K l1 l2) [z,TI,TO,i1,i2] z
   (fun i h=>IsZip h z TI TO .none/\IsPair h TI (.ref i1) (.ref i2)/\(∃a b,IsPair h TO a b)/\h.IsListIter i1 l1 i/\h.IsListIter i2 l2 i) where
 mem:=by simp
 obj:=fun i h st b hb=>by
  obtain⟨hz,cH,⟨a,b',cM⟩,⟨o1,e1,c1,d1⟩,⟨o2,e2,c2,d2⟩⟩:=st
  simp only[zaa,zat,or_false] at hb
  rcases hb with rfl | rfl | rfl | rfl | rfl
  ·exact⟨_,hz,fun v q=>by cases q⟩
  ·exact⟨_,cH,fun v q=>by cases q⟩
  ·exact⟨_,cM,fun v q=>by cases q⟩
  ·exact⟨_,e1,fun v q=>by rw[d1] at q;cases q⟩
  ·exact⟨_,e2,fun v q=>by rw[d2] at q;cases q⟩
 keep:=fun i h h' st hk=>by
  obtain⟨hz,cH,⟨a,b',cM⟩,h1,h2⟩:=st
  exact⟨hk z (by simp) _ hz,hk TI (by simp) _ cH,⟨a,b',hk TO (by simp) _ cM⟩,h1.at fun o e=>hk i1 (by simp) o e,h2.at fun o e=>hk i2 (by simp) o e⟩
 item:=by
  intro X hP hw hK hc i pins s σ H E I hf st hg
  subst hP hw hK
  obtain⟨xs,ys,hx,hy,hi1,RD⟩:=hg
  obtain⟨jA,r1,p1,z1⟩:=I.list hx
  obtain⟨eQ,r2,p2,z2⟩:=I.list hy
  have da:=r1.length
  have dO:=r2.length
  have W:=WalksT.zip2 (prog:=X.prog) (w:=X.w) (A:=X.A) (I.ok.hd hc) z TI TO i1 i2 l1 l2 D jA.toArray eQ.toArray
  obtain⟨hz,cH,cM,h1,h2⟩:=id st
  have hn:i<min jA.toArray.size eQ.toArray.size:=by simp only[zag];lia
  refine W.item i s _ _ hn ⟨hz,cH,cM,h1,h2,p1.isList,p2.isList⟩ fun T vals h' tk hv hT RF mid hk=> ?_
  refine⟨.ref T,rfl, ?_⟩
  refine W.go elts k pos i T _ _ _ mid fun vB RG FC=> ?_
  obtain⟨u,v,eu,ev,rfl⟩:=hv
  have fz: ∀b∈ [z,TO,i1,i2],b∈ [z,TI,TO,i1,i2]:=fun b hb=>by
   simp only[zaa,zat,or_false] at hb⊢
   rcases hb with rfl | rfl | rfl | rfl<;>simp
  have kk: ∀b o,b∉ [z,TO,i1,i2]->s.heap.get? b=some o->vB.get? b=some o:=fun b o hb e=>FC b o hb (hk b o hb e)
  have I1:Inv X pins σ H {s with heap:=vB,toks:=tk}:=by
   refine I.step (g':=s.gens) (d':=s.drawn) (ch:=[z,TO,i1,i2]) (fun b hb=> ?_) (fun b o _ _ hc e _=>kk b o hc e) (fun b o _ _ hc e _=> ⟨o.slots,kk b o hc e⟩) (fun _ _ _ _ n=>n)
    (fun b o hc e=> ⟨o,kk b o hc e⟩) (fun _ _ e=>e) (fun _ _ _ e=>e) (fun b ps e=> ⟨#[],by rw[e];simp⟩) (fun m hm=> ?_) (fun b o e=> ?_) I.bare
   ·obtain⟨f0,f1,f2,f3,f4,f5⟩:=hf b (fz b hb)
    exact⟨f3,f1,f4,f5⟩
   ·obtain⟨o,es,ep,ho,r⟩:=hm
    exact⟨o,es,ep,kk _ o (fun hb=> (hf _<|fz _ hb).2.1 rfl) ho,r⟩
   ·have nb: ∀c o',H c=some o'->c∉ [z,TO,i1,i2]:=fun c o' e hb=>by
     rw[(hf c<|fz c hb).1] at e;cases e
    refine(I.aE b o e).kH (fun c q eF e'=>kk c q ?_ e') (fun _ q=>q) fun _ _ q=>q
    rcases eF with rfl | eF
    ·exact nb _ _ e
    ·exact nb _ _ eF
  have jB:s.heap.objs.size<=T:=hT
  have fT:H T=none:=I.aE.fresh jB
  have aT:T∉ [z,TO,i1,i2]:=W.apart i T h' mid
  have tT:vB.IsTuple T #[u,v]:=by
   obtain⟨o,ho,q⟩:=RF
   exact⟨o,FC T o aT ho,q⟩
  obtain⟨a,RH,ra⟩: ∃a,xs[i]?=some a/\RelV a u:=by
   have e:jA[i]?=some u:=by simpa using eu
   have:i<xs.length:=by lia
   obtain⟨u',e',r'⟩:=r1.get (i:=i) (x:=xs[i]) (by simp[this])
   rw[e] at e';cases e'
   exact⟨xs[i],by simp[this],r'⟩
  obtain⟨b,RJ,rb⟩: ∃b,ys[i]?=some b/\RelV b v:=by
   have e:eQ[i]?=some v:=by simpa using ev
   have:i<ys.length:=by lia
   obtain⟨u',e',r'⟩:=r2.get (i:=i) (x:=ys[i]) (by simp[this])
   rw[e] at e';cases e'
   exact⟨ys[i],by simp[this],r'⟩
  have sz0:=I.sz
  have I2:Inv X pins σ (upd H T<|.tup [a,b]) {s with heap:=vB,toks:=tk}:=by
   refine Inv.vi I1 fT (zaw I.sz jB) (zaE<|zar I.lt jB) (fun x c e q=> ?_) (fun p hp q=> ?_) ⟨by show 2<=sizeLine;decide,[u,v], .cons ra<|.cons rb .nil,tT⟩
   ·obtain⟨v',q'⟩:=I.cell x c e
    have:=q'.lt
    rw[q] at this
    exact absurd (zar this jB)<|zaA _
   ·have:=Heap.lt_size (I.pin p hp).1
    rw[q] at this
    exact absurd (zar this jB)<|zaA _
  refine⟨.ref T,_,I2,rfl,⟨T,fT,rfl,fun br de a' b' kW rY ea eb=> ?_⟩, ?_,fun c eF=> ?_⟩
  ·rw[I.yv kW hx,RH] at ea
   rw[I.yv rY hy,RJ] at eb
   cases ea;cases eb;rfl
  ·obtain⟨q1,q2,q3,q4,q5,_⟩:=RG
   exact⟨q1,q2,q3,q4,q5⟩
  ·have n0:=(hf c eF).1
   have:c≠T:=fun q=>by
    obtain⟨o,e,_⟩: ∃o,s.heap.get? c=some o/\True:=by
     obtain⟨hz,cH,⟨a',b',cM⟩,⟨o1,e1,_⟩,⟨o2,e2,_⟩⟩:=st
     simp only[zaa,zat,or_false] at eF
     rcases eF with rfl | rfl | rfl | rfl | rfl
     ·exact⟨_,hz,trivial⟩
     ·exact⟨_,cH,trivial⟩
     ·exact⟨_,cM,trivial⟩
     ·exact⟨_,e1,trivial⟩
     ·exact⟨_,e2,trivial⟩
    have:=Heap.lt_size e
    rw[q] at this
    exact absurd (zar this jB)<|zaA _
   rw[aN this];exact n0
 done:=by
  intro X hP hw hK hc i pins s σ H E I hf st hg
  subst hP hw hK
  obtain⟨xs,ys,hx,hy,hi⟩:=hg
  obtain⟨jA,r1,p1,z1⟩:=I.list hx
  obtain⟨eQ,r2,p2,z2⟩:=I.list hy
  have da:=r1.length
  have dO:=r2.length
  have W:=WalksT.zip2 (prog:=X.prog) (w:=X.w) (A:=X.A) (I.ok.hd hc) z TI TO i1 i2 l1 l2 D jA.toArray eQ.toArray
  obtain⟨hz,cH,cM,h1,h2⟩:=id st
  have hn:i=min jA.toArray.size eQ.toArray.size:=by simp only[zag];lia
  subst hn
  refine W.done s _ _ ⟨hz,cH,cM,h1,h2,p1.isList,p2.isList⟩ fun h' tk hk=> ⟨rfl, ?_⟩
  have fz: ∀b∈ [z,TO,i1,i2],b∈ [z,TI,TO,i1,i2]:=fun b hb=>by
   simp only[zaa,zat,or_false] at hb⊢
   rcases hb with rfl | rfl | rfl | rfl<;>simp
  refine I.step (g':=s.gens) (d':=s.drawn) (ch:=[z,TO,i1,i2]) (fun b hb=> ?_) (fun b o _ _ hc e _=>hk b o hc e) (fun b o _ _ hc e _=> ⟨o.slots,hk b o hc e⟩) (fun _ _ _ _ n=>n)
   (fun b o hc e=> ⟨o,hk b o hc e⟩) (fun _ _ e=>e) (fun _ _ _ e=>e) (fun b ps e=> ⟨#[],by rw[e];simp⟩) (fun m hm=> ?_) (fun b o e=> ?_) I.bare
  ·obtain⟨f0,f1,f2,f3,f4,f5⟩:=hf b (fz b hb)
   exact⟨f3,f1,f4,f5⟩
  ·obtain⟨o,es,ep,ho,r⟩:=hm
   exact⟨o,es,ep,hk _ o (fun hb=> (hf _<|fz _ hb).2.1 rfl) ho,r⟩
  ·have nb: ∀c o',H c=some o'->c∉ [z,TO,i1,i2]:=fun c o' e hb=>by
    rw[(hf c<|fz c hb).1] at e;cases e
   refine(I.aE b o e).kH (fun c q eF e'=>hk c q ?_ e') (fun _ q=>q) fun _ _ q=>q
   rcases eF with rfl | eF
   ·exact nb _ _ e
   ·exact nb _ _ eF
 self:=fun A i s Q E st hQ=>wpAny_pyIter_zip st.1 hQ
theorem boot_zip:bootBuiltins "zip"=some (.type "zip"):=by decide+kernel
theorem RK{X:Cx}{elts:List Expr}{k:Nat}{yJ:Pos}{a b:Expr}{ta:TA}{p pos:Pos}(hg:Gl X "zip")(hm:X.mg "zip"=none)(ha:PA X [a,b] ta)
  (hs:starEach [a,b] X.env=(false,eval a X.env)::starEach [b] X.env) (iS:(backTo pos<|starEach [b] X.env).any (·.1)=false):
  PI X (.Tuple elts k yJ) (.Call (.Name "zip" p) [a,b] [] pos) (zC X.K ta):=by
 intro pins s σ H R I h
 refine Call_<|kN I hg hm boot_zip<|PyProof.Rows.callWith_type1 (aH (ha pos pins s σ H _ I h) fun us s1 ⟨vs,H1,I1,r1,q1⟩=> ?_) hs iS
 obtain⟨l1,l2,e,⟨xs,hx⟩,⟨ys,hy⟩,q⟩:=q1
 subst e
 obtain⟨u,v,rfl,ru,rv⟩:=vals2 r1
 cases ru
 cases rv
 obtain⟨jA,vC,p1,z1⟩:=I1.list hx
 obtain⟨eQ,vD,p2,z2⟩:=I1.list hy
 refine call_zip_2 p1.isList p2.isList fun h' a1 a2 a3 a4 a5 a6 hk=> ?_
 refine wpAny_pyIter_zip a1 ?_
 have RL: @LT.lt Nat _ l1 s1.heap.objs.size:=by obtain⟨_,e,_⟩:=p1.isList;exact Heap.lt_size e
 have RM: @LT.lt Nat _ l2 s1.heap.objs.size:=by obtain⟨_,e,_⟩:=p2.isList;exact Heap.lt_size e
 have D:ZipApart (s1.heap.objs.size+4) (s1.heap.objs.size+2) (s1.heap.objs.size+3) s1.heap.objs.size (s1.heap.objs.size+1) l1 l2:=by
  constructor<;> (show @Ne Nat _ _;lia)
 have I2:Inv X pins σ H1 {s1 with heap:=h'}:=I1.kept (t':=s1.toks) hk
 refine⟨_,_,_,_,H1,rfl,I2,RC D ⟨by show @Ne Nat _ _;lia,by show @Ne Nat _ _;lia⟩,⟨a1,a2,⟨_,_,a3⟩,a4,a5⟩,fun b' hb=> ?_,q⟩
 have hle:s1.heap.objs.size<=b':=by
  simp only[zaa,zat,or_false] at hb
  rcases hb with rfl | rfl | rfl | rfl | rfl
  ·exact zbk _ _
  ·exact zbk _ _
  ·exact zbk _ _
  ·exact zqR _
  ·exact zbk _ _
 have:=I1.yA (b:=b') (H':=H1) hle (I1.aE.fresh hle)
 exact this
end L2
set_option maxHeartbeats 400000
namespace L2
open PySem PySem.Spec PyProof.Rows
section
variable {prog:Program} {w:World} {A:Around} {E:Value->Shared->Prop} {s:Shared}
end
end L2
set_option maxHeartbeats 1000000
namespace L2
open PySem PySem.Spec PyProof.Rows PySem.W
section
variable {prog:Program} {w:World} {A:Around} {E:Value->Shared->Prop} {s:Shared} {K:Frag} {x D:Addr} {ox:Obj}
end
end L2
set_option maxHeartbeats 400000
namespace L2
open PySem PySem.Spec PyProof.Rows
inductive bI (J:Shared->Prop) {α:Type}:Sem α->Prop
 | pure (a:α):bI J (.pure a)
 | raise (e:Value):bI J (.raise e)
 | unsupported (w:String):bI J (.unsupported w)
 | rule {t:String} {k:Unit->Sem α}:bI J (k ())->bI J (.rule t k)
 | load {a:Addr} {p:Option Value} {k:Obj->Sem α}:(∀o,bI J<|k o)->bI J (.load a p k)
 | update {a:Addr} {p:Option Value} {f:Obj->Obj} {k:Unit->Sem α}:(∀s,J s->J {s with heap:=s.heap.update a f})->bI J (k ())->bI J (.update a p f k)
 | alloc {o:Obj} {k:Addr->Sem α}:(∀s,J s->J {s with heap:=s.heap.push o})->(∀a,bI J<|k a)->bI J (.alloc o k)
 | stack {k:List (Code×Pos)->Sem α}:(∀t,bI J<|k t)->bI J (.stack k)
theorem RN{M:Model}{Γ:PySem.Ctx}{J:Shared->Prop}{α:Type}{t:Sem α}(kt:bI J t): ∀{Q:α->Pos->Shared->Prop} {E:Value->Pos->Shared->Prop} {p:Pos} {s:Shared},J s->Sem.wp M Γ t Q E p s->
  Sem.wp M Γ t (fun a p s=>Q a p s/\J s) (fun e p s=>E e p s/\J s) p s:=by
 induction kt with
 | pure a=>intro Q E p s j h;rw[Sem.wp] at h⊢;exact⟨h,j⟩
 | raise e=>intro Q E p s j h;rw[Sem.wp] at h⊢;exact⟨h,j⟩
 | unsupported w=>intro Q E p s j h;rw[Sem.wp] at h;exact h.elim
 | rule _ ih=>intro Q E p s j h;rw[Sem.wp] at h⊢;exact ih j h
 | load _ ih=>intro Q E p s j h;rw[Sem.wp] at h⊢;obtain⟨o,e,h⟩:=h;exact⟨o,e,ih o j h⟩
 | update f _ ih=>intro Q E p s j h;rw[Sem.wp] at h⊢;exact⟨h.1,ih (f _ j) h.2⟩
 | alloc f _ ih=>intro Q E p s j h;rw[Sem.wp] at h⊢;exact ih _ (f _ j) h
 | stack _ ih=>intro Q E p s j h;rw[Sem.wp] at h⊢;exact ih _ j h
theorem FD{M:Model}{A:Around}{J:Shared->Prop}{α:Type}{t:Sem α}{Q:α->Shared->Prop}{E:Value->Shared->Prop}{s:Shared}(k:bI J t)(j:J s)(h:wpAny M A t Q E s):
  wpAny M A t (fun a s=>Q a s/\J s) (fun e s=>E e s/\J s) s:=fun Γ p hΓ=>RN k j (h Γ p hΓ)
def dX(e:Addr)(s:Shared):Prop:= ∃o vs,s.heap.get? e=some o/\o.data= .fields vs/\vs[2]?=some .none/\o.dict=none
theorem RO(f:Array Value->Array Value)(o:Obj):(Obj.mapFields f o).dict=o.dict:=by
 unfold Obj.mapFields
 split<;>rfl
theorem RP{e a:Addr}{i:Nat}{v:Value}(hi:i≠2)(s:Shared)(j:dX e s):dX e {s with heap:=s.heap.update a (Obj.mapFields (·.setIfInBounds i v))}:=by
 obtain⟨o,vs,h1,h2,h3,h4⟩:=j
 by_cases z:a=e
 ·subst z
  have d:=Obj.data_mapFields h2 (·.setIfInBounds i v)
  exact⟨_,_,Heap.get?_update_self _ h1<|Obj.isFreed_of_fields d,d,by rw[Array.getElem?_setIfInBounds_ne hi];exact h3,(RO _ _).trans h4⟩
 ·exact⟨o,vs,(Heap.get?_update_other _ _ z).trans h1,h2,h3,h4⟩
theorem RQ{e a:Addr}{f:Obj->Obj}(hf: ∀o,(f o).data=o.data/\(f o).dict=o.dict)(s:Shared)(j:dX e s):dX e {s with heap:=s.heap.update a f}:=by
 obtain⟨o,vs,h1,h2,h3,h4⟩:=j
 by_cases z:a=e
 ·subst z
  exact⟨_,vs,Heap.get?_update_self _ h1<|Obj.isFreed_of_fields<|(hf o).1.trans h2,(hf o).1.trans h2,h3,(hf o).2.trans h4⟩
 ·exact⟨o,vs,(Heap.get?_update_other _ _ z).trans h1,h2,h3,h4⟩
theorem RT{e:Addr}{ob:Obj}(s:Shared)(j:dX e s):dX e {s with heap:=s.heap.push ob}:=by
 obtain⟨o,vs,h1,h2,h3,h4⟩:=j
 exact⟨o,vs,Heap.get?_push_of_some _ h1,h2,h3,h4⟩
theorem bI.bind{J:Shared->Prop}{α β:Type}{t:Sem α}{f:α->Sem β}(kt:bI J t)(h: ∀a,bI J<|f a):bI J (t>>=f):=by
 show bI J (t.bind f)
 induction kt with
 | pure a=>exact h a
 | raise e=>exact .raise e
 | unsupported w=>exact .unsupported w
 | rule _ ih=>exact .rule ih
 | load _ ih=>exact .load ih
 | update g _ ih=>exact .update g ih
 | alloc g _ ih=>exact .alloc g ih
 | stack _ ih=>exact .stack ih
section
variable {e:Addr}
theorem zJ{a:Addr}:bI (dX e) (load a):= .load fun o=> .pure o
theorem zK{v x:Value}{i:Nat}(hi:i≠2):bI (dX e) (setField v i x):=by
 unfold setField
 split
 ·rename_i a
  unfold updateField
  refine zJ.bind fun o=> ?_
  split
  ·split
   ·exact .update (fun s j=>RP hi s j) (.pure ())
   ·exact .unsupported _
  ·exact .unsupported _
 ·exact .unsupported _
theorem RU{v:Value}:bI (dX e) (fieldsOf v):=by
 unfold fieldsOf
 split
 ·refine zJ.bind fun o=> ?_
  split
  ·exact .pure _
  ·exact .unsupported _
 ·exact .unsupported _
theorem vE{v:Value}{i:Nat}:bI (dX e) (field v i):=by
 unfold field
 refine RU.bind fun vs=> ?_
 split
 ·exact .pure _
 ·exact .unsupported _
theorem RV{v:Value}{f:Option Addr}:bI (dX e) (setFlight v f):=by
 unfold setFlight
 refine vE.bind fun tb=> ?_
 split
 ·exact zK (by decide)
 ·exact .pure _
theorem zL:bI (dX e) stack:= .stack fun t=> .pure t
theorem RW{ty:String}{vs:List Value}:bI (dX e) (newFields ty vs):=by
 unfold newFields newObj newObjAsIs
 show bI (dX e) (if vs.toArray.size>sizeLine+2 then (unsupported "record:memory" >>=_) else _)
 split
 ·exact .unsupported _
 ·exact bI.bind (.alloc (fun s j=>RT s j) fun a=> .pure a) fun a=> .pure _
theorem RX{f:Addr}{b:Bool}:bI (dX e) (entryPlaceOf f b):=by
 unfold entryPlaceOf
 refine zL.bind fun acU=> ?_
 split
 ·exact .pure _
 ·exact .pure _
theorem FE: ∀l:List Env,bI (dX e) (readyFrames l)
 | []=> .pure _
 | env::outer=>by
  unfold readyFrames
  split
  ·refine zJ.bind fun o=> ?_
   split
   ·exact .pure _
   ·refine bI.bind ?_ fun im=>bI.bind ?_ fun bk=>bI.bind (.update (fun s j=>RQ (by intro o;exact⟨rfl,rfl⟩) s j)<|.pure ()) fun _=>FE outer
    ·unfold behindIsImport
     split
     ·exact .pure _
     ·split
      ·exact .pure _
      ·exact vE.bind fun _=> .pure _
    ·unfold keptBack
     split
     ·split
      ·exact .pure _
      ·unfold underTheClaimsCaller
       exact bI.bind (zL.bind fun _=> .pure _) fun _=> .pure _
     ·exact .pure _
  ·exact .unsupported _
theorem RY{env:Env}:bI (dX e) (PySem.frameOf env):=by
 unfold PySem.frameOf frameEnvs
 refine bI.bind (zL.bind fun _=> .pure _) fun l=> ?_
 refine bI.bind ?_ fun r=> ?_
 ·unfold frameObject
  split
  ·exact .pure _
  ·exact(FE _).bind fun _=> .pure _
 ·split
  ·exact .pure _
  ·exact .unsupported _
theorem RZ{v:Value}{env:Env}:bI (dX e) (noteFrame v env):=by
 unfold noteFrame
 split
 ·rename_i x d hq
  refine vE.bind fun hd=> ?_
  have tail:bI (dX e) (do let a <-PySem.frameOf env;let pl <-entryPlaceOf d (hd != .none);let b <-EntryCells.newEntry hd a .none (rawInt d) .none pl;setField v 1 b):=
   RY.bind fun a=>RX.bind fun pl=>bI.bind RW fun b=>zK (by decide)
  dsimp only
  split
  ·refine vE.bind fun x=> ?_
   split
   ·exact .pure _
   ·exact(zK (by decide)).bind fun _=>tail
  ·exact tail
 ·exact .unsupported _
theorem FF{v:Value}{env:Env}:bI (dX e) (leaving env v):=by
 unfold leaving
 exact RZ.bind fun _=>RV
end
end L2
set_option maxHeartbeats 4000000
namespace L2
open PySem PySem.Spec PyProof.Rows
theorem cg.zM{P:Program}{w:World}{H:Hp}{h:Heap}{a:Addr}{o:HO}(x:cg P w H h a o): ∃ob,h.get? a=some ob:=by
 cases o with
 | lst xs=>obtain⟨_,_,_,_,e⟩:=x;exact⟨_,e⟩
 | tup xs=>obtain⟨_,_,_,ob,e,_⟩:=x;exact⟨_,e⟩
 | dK kvs=>obtain⟨_,_,_,_,o,_,_,e,_⟩:=x;exact⟨_,e⟩
 | dT kvs=>obtain⟨_,_,_,_,o,_,_,e,_⟩:=x;exact⟨_,e⟩
 | set S n=>obtain⟨o,_,_,_,e,_⟩:=x;exact⟨_,e⟩
 | ins C dx fs=>obtain⟨_,_,_,e,_⟩:=x;exact⟨_,e⟩
 | own y=>obtain⟨_,e⟩:=x;exact⟨_,e⟩
 | xd fs=>obtain⟨_,⟨_,_,_,e,_⟩,_⟩:=x;exact⟨_,e⟩
 | gX lo hi=>obtain⟨_,_,_,e⟩:=x;exact⟨_,e⟩
 | bX ob u=>obtain⟨e,_⟩:=x;exact⟨_,e⟩
 | jO ps=>exact⟨_,(show h.get? a=some _ from x)⟩
 | met f y=>exact⟨_,(show h.get? a=some _ from x)⟩
 | ext φ=>obtain⟨_,⟨_,e⟩,_⟩:=x;exact⟨_,e⟩
theorem cj.FG{P:Program}{w:World}{H:Hp}{h h':Heap}(ok:cj P w H h)(k: ∀b u,H b≠none->h.get? b=some u->h'.get? b=some u):cj P w H h':=fun a o e=>
 (ok a o e).kH (fun b u hb hu=>k b u (by
  rcases hb with rfl | hb
  ·rw[e];exact Option.some_ne_none _
  ·rw[hb];exact Option.some_ne_none _) hu) (fun _ z=>z) (fun _ _ z=>z)
def gH(P:Program)(w:World):bN:=fun outer H s E e s'=> ∃(ea:Addr) (cls:Value) (t:Addr) (B:Heap) (H':Hp),
 e= .ref ea/\s'.os=s.os/\AllBare s'.gens/\Un (cp outer) [] H H' s.heap s'.heap/\cj P w H' s'.heap/\Heap.FlyingW B outer ea cls (.ref t) s'.heap/\dX ea s'/\H' ea=none/\
 (∀b,H' b≠none-> ∀o,s'.heap.get? b=some o->B.get? b=some o)/\(∀b o,s.heap.get? b=some o->b∉cp outer-> ∀o',s'.heap.get? b=some o'->B.get? b=some o')/\E cls none H'
theorem FH{P:Program}{w:World}{outer:List Env}{H:Hp}{s:Shared}{e:Value}{s':Shared}(h:gH P w outer H s E0 e s'):False:=by
 obtain⟨_,_,_,_,_,_,_,_,_,_,_,_,_,_,_,h⟩:=h
 exact h
section
variable {P:Program} {w:World} {K:Frag} {mg:Str->Option Value} {base:Heap} {N:List Str} {qual:Str} {scope:Scope} {f:Addr} {cd:Value} {A:Around} {outer:List Env} {s₀:Shared} {H₀:Hp} {E:XK}
theorem R0:Passes (gH P w) (ou (gH P w) P w K mg base N qual scope f cd A outer s₀ H₀ E) E:=by
 intro pins σ H s e s' I hx
 obtain⟨ea,cls,t,B,H',rfl,os,bare,u,aE,fl,zN,R4,c1,c2,hE⟩:=hx
 have zO:=I.ok.frames
 have hL:s₀.heap.objs.size<= (envOfC qual scope s₀.heap.objs.size f cd).locals:=I.ok.above
 have nL: ∀b o,s₀.heap.get? b=some o->b∉cp outer->b∉cp (envOfC qual scope s₀.heap.objs.size f cd::outer):=fun b o hb hn hm=>by
  have zP:b∈ (envOfC qual scope s₀.heap.objs.size f cd).locals::cp outer:=hm
  rcases zaa.mp zP with rfl | z
  ·exact absurd (Heap.lt_size hb) (Nat.not_lt.mpr hL)
  ·exact hn z
 have rJ: ∀b∈cp (envOfC qual scope s₀.heap.objs.size f cd::outer),H' b=none:=fun b hb=>by
  obtain⟨o,ho,_⟩:=(I.stack.mem hb).2
  exact u.free b o ho (I.uI b hb) zat
 refine wpAny_mono (FD FF zN<|wpAny_leaves_onW (Q:=fun _ kQ=> ∃h',kQ={s' with heap:=h'}/\Heap.FlyingW B outer ea cls (.ref t) h'/\s'.heap.UpToSlots h') (E:=fun _ _=>False) zO rfl fl fun h' j0 up=> ⟨h',rfl,j0,up⟩)
  (fun _ kQ hq=> ?_) (fun _ _ z=>z.1.elim)
 obtain⟨⟨h',rfl,j0,up⟩,zQ⟩:=hq
 have into: ∀b o,s.heap.get? b=some o->b∉cp (envOfC qual scope s₀.heap.objs.size f cd::outer)-> ∀o',s'.heap.get? b=some o'->h'.get? b=some o':=fun b o hb hn o' gB=>j0.1 b o' (c2 b o hb hn o' gB)
 have fD: ∀b o,H' b≠none->s'.heap.get? b=some o->h'.get? b=some o:=fun b o hb ho=>j0.1 b o (c1 b hb o ho)
 have oK: ∀b∈cp (envOfC qual scope s₀.heap.objs.size f cd::outer),∀o,s'.heap.get? b=some o-> ∃sl,h'.get? b=some {o with slots:=sl}:=fun b hb o ho=>by
  obtain⟨o1,mT,hd⟩:=(fl.2.2.1.mem hb).2
  rw[ho] at mT
  cases mT
  exact up b o ho hd
 refine⟨ea,cls,t,B,H',rfl,os.trans I.os,bare,⟨fun b o q n hn _=> ?_,fun b o q n hn _=> ?_,fun b o q n _=> ?_,fun b o q _=> ?_,fun b xs q=>u.bz b xs (I.base.bz b xs q),fun b o v q=>u.gY b o v (I.base.gY b o v q),fun b ps q=> ?_⟩,
  aE.FG (fun b o hb ho=>fD b o hb ho),j0,zQ,R4,fun b hb o ho=> ?_,fun b o q hn o' gB=> ?_,hE⟩
 ·have q1:=I.base.keep b o q n hn zat
  have n1:=I.base.free b o q n zat
  have fJ:=nL b o q hn
  exact into b o q1 fJ o<|u.keep b o q1 n1 fJ zat
 ·obtain⟨sl,q1⟩:=I.base.slot b o q n hn zat
  have n1:=I.base.free b o q n zat
  have fJ:b∈cp (envOfC qual scope s₀.heap.objs.size f cd::outer):=zaj _ hn
  obtain⟨yO,q2⟩:=u.slot b _ q1 n1 fJ zat
  obtain⟨zR,q3⟩:=oK b fJ _ q2
  exact⟨zR,q3⟩
 ·obtain⟨o1,q1⟩:=I.base.there b o q zat
  exact u.free b o1 q1 (I.base.free b o q n zat) zat
 ·obtain⟨o1,q1⟩:=I.base.there b o q zat
  obtain⟨o2,q2⟩:=u.there b o1 q1 zat
  by_cases hm:b∈cp (envOfC qual scope s₀.heap.objs.size f cd::outer)
  ·obtain⟨sl,q3⟩:=oK b hm o2 q2
   exact⟨_,q3⟩
  ·exact⟨o2,into b o1 q1 hm o2 q2⟩
 ·obtain⟨m1,e1⟩:=I.base.ib b ps q
  obtain⟨m2,e2⟩:=u.ib b _ e1
  exact⟨m1++m2,by rw[e2,Array.append_assoc]⟩
 ·obtain⟨jv,hH⟩:=Option.ne_none_iff_exists'.mp hb
  obtain⟨o2,q2⟩:=(aE b jv hH).zM
  have q3:=fD b o2 hb q2
  have jC:h'.get? b=some o:=ho
  rw[q3] at jC
  cases jC
  exact c1 b hb _ q2
 ·obtain⟨o1,q1⟩:=I.base.there b o q zat
  obtain⟨o2,q2⟩:=u.there b o1 q1 zat
  have fJ:=nL b o q hn
  have q3:=into b o1 q1 fJ o2 q2
  have jC:h'.get? b=some o':=gB
  rw[q3] at jC
  cases jC
  exact c2 b o1 q1 fJ _ q2
def Raises(X:Cx)(E:XK):Prop:= ∀(pins:List (Addr×Obj)) (σ:St) (H:Hp) (s:Shared) (h':Heap) (e:Addr) (cls:Value) (vs:List Value),Inv X pins σ H s->Heap.MadeExcOf s.heap h' e cls vs->E cls none H->X.xe (.ref e) {s with heap:=h'}
theorem R6:Raises (ou (gH P w) P w K mg base N qual scope f cd A outer s₀ H₀ E) E:=by
 intro pins σ H s h1 e cls vs I hx hE
 have zO:=I.ok.frames
 have hL:s₀.heap.objs.size<= (envOfC qual scope s₀.heap.objs.size f cd).locals:=I.ok.above
 have nL: ∀b o,s₀.heap.get? b=some o->b∉cp outer->b∉cp (envOfC qual scope s₀.heap.objs.size f cd::outer):=fun b o hb hn hm=>by
  have zP:b∈ (envOfC qual scope s₀.heap.objs.size f cd).locals::cp outer:=hm
  rcases zaa.mp zP with rfl | z
  ·exact absurd (Heap.lt_size hb) (Nat.not_lt.mpr hL)
  ·exact hn z
 have qv: ∀env∈ (envOfC qual scope s₀.heap.objs.size f cd::outer),∀b,env.frame=some b->b∈cp (envOfC qual scope s₀.heap.objs.size f cd::outer):=fun env he b hb=>zbx.mpr ⟨env,he,hb⟩
 have zN:dX e {s with heap:=h1}:=by
  obtain⟨t,ht,_,_⟩:=hx.there
  exact⟨_,_,ht,rfl,rfl,rfl⟩
 refine wpAny_mono (FD FF zN (wpAny_leaves_madeW (Q:=fun _ kQ=> ∃h' t,kQ={s with heap:=h'}/\Heap.FlyingW (hideAll s.heap (cp (envOfC qual scope s₀.heap.objs.size f cd::outer))) outer e cls (.ref t) h'/\h1.UpToSlots h') (E:=fun _ _=>False)
  zO rfl (fun b o q=>of_hideAll _ q) (PySem.W.funFrames_hide I.stack qv) hx fun h' t j0 _ _ up=> ⟨h',t,rfl,j0,up⟩)) (fun _ kQ hq=> ?_) (fun _ _ z=>z.1.elim)
 obtain⟨⟨h',t,rfl,j0,up⟩,zQ⟩:=hq
 have into: ∀b o,s.heap.get? b=some o->b∉cp (envOfC qual scope s₀.heap.objs.size f cd::outer)->h'.get? b=some o:=fun b o hb hn=>j0.1 b o (hideAll_get _ hb hn)
 have zS: ∀b,H b≠none->b∉cp (envOfC qual scope s₀.heap.objs.size f cd::outer):=fun b hb hm=>hb (I.uI b hm)
 have oK: ∀b∈cp (envOfC qual scope s₀.heap.objs.size f cd::outer),∀o,s.heap.get? b=some o-> ∃sl,h'.get? b=some {o with slots:=sl}:=fun b hb o ho=>by
  obtain⟨o1,mT,hd⟩:=(I.stack.mem hb).2
  rw[ho] at mT
  cases mT
  exact up b o (hx.keeps b o ho) hd
 refine⟨e,cls,t,_,H,rfl,I.os,I.bare,⟨fun b o q n hn _=> ?_,fun b o q n hn _=> ?_,fun b o q n _=>I.base.free b o q n zat,fun b o q _=> ?_,I.base.bz,I.base.gY,I.base.ib⟩,
  I.aE.FG (fun b o hb ho=>into b o ho (zS b hb)),j0,zQ, ?_,fun b hb o ho=> ?_,fun b o q hn o' gB=> ?_,hE⟩
 ·exact into b o (I.base.keep b o q n hn zat) (nL b o q hn)
 ·obtain⟨sl,q1⟩:=I.base.slot b o q n hn zat
  obtain⟨zR,q3⟩:=oK b (zaj _ hn) _ q1
  exact⟨zR,q3⟩
 ·obtain⟨o1,q1⟩:=I.base.there b o q zat
  by_cases hm:b∈cp (envOfC qual scope s₀.heap.objs.size f cd::outer)
  ·obtain⟨sl,q3⟩:=oK b hm o1 q1
   exact⟨_,q3⟩
  ·exact⟨o1,into b o1 q1 hm⟩
 ·cases q:H e with
  | none=>rfl
  | some ho=>
   obtain⟨o2,q2⟩:=(I.aE e ho q).zM
   rw[hx.new] at q2
   cases q2
 ·obtain⟨jv,hH⟩:=Option.ne_none_iff_exists'.mp hb
  obtain⟨o2,q2⟩:=(I.aE b jv hH).zM
  have q3:=into b o2 q2 (zS b hb)
  have jC:h'.get? b=some o:=ho
  rw[q3] at jC
  cases jC
  exact hideAll_get _ q2<|zS b hb
 ·obtain⟨o1,q1⟩:=I.base.there b o q zat
  have fJ:=nL b o q hn
  have q3:=into b o1 q1 fJ
  have jC:h'.get? b=some o':=gB
  rw[q3] at jC
  cases jC
  exact hideAll_get _ q1 fJ
end
section
variable {X:Cx}
theorem R7{x:Str}{C:Addr}{bm:List Value}{B newId qw:String}{e:Expr}{es:List Expr}{t:TA}{np dv pos:Pos}{E:XK}(hc:X.calm=true)(O:OwnCls x C bm newId X.mg X.base)(FB:ExcBaseFacts B newId qw bm)(R8:Gl X x)
  (hd:(x==("__debug__":Str))=false) (ha:PA X (e::es) t) (hs:starEach (e::es) X.env=(false,eval e X.env)::starEach es X.env) (h1:(backTo dv<|starEach es X.env).any (·.1)=false) (hR:Raises X E):
  PS X (.Raise (some<|.Call (.Name x np) (e::es) [] dv) none pos) (zy C E t):=by
 intro pins s σ H D I h
 obtain⟨tl,N,nm,q,bs,hdct,sn,sub,ab,col,dd,k0,k1,k2,k3,k5,mN,hC,hN,vF,T⟩:=O.obj
 have hg:PE X (.Name x np) (tC<|.ref C):=Dz R8 O.bound rfl hd
 refine wpAny_Raise_call_subT (C:=C) (nm:=nm) (q:=q) (N:=N) (bs:=bs) (bm:=tl) (hdct:=hdct) (sn:=sn) (sub:=sub) (ab:=ab) (col:=col) (dd:=dd) (k0:=k0) (k1:=k1) (k2:=k2) (k3:=k3) (k5:=k5)
  FB (mN:=mN) (T.hasType FB.hasBase) (I.ok.hd hc) (by rw[hs];show(false || (backTo dv<|starEach es X.env).any (·.1))=false;rw[h1];rfl) vF
  (aH (hg pins s σ H (fun v H1=>v= .ref C/\zy C E t D σ H1) I ⟨rfl,h⟩) fun f s1 ⟨v,H1,I1,r1,ev,q1⟩=> ?_)
 subst ev
 obtain rfl:f=Value.ref C:=r1
 refine⟨rfl, ?_⟩
 have hA:=ha dv pins s1 σ H1 _ I1 q1
 rw[hs] at hA⊢
 refine Calls.evalArgs_plain<|aH hA fun us s2 ⟨vs,H2,I2,r2,hl,q2⟩=> ⟨rfl, ?_,I2.bk _ _ hC,hN.keeps I2.bk,T.keeps I2.bk,fun h' e' hm=>hR pins σ H2 s2 h' e' _ _ I2 hm q2⟩
 have:=r2.length
 show us.length<=sizeLine
 lia
end
section
variable {X:Cx}
end
def FI(A:Around)(H:Hp):Prop:= ∃e D,A.handled=some (.ref e)/\ExcAt H e D
def Hd(X:Cx):Prop:=FI X.A X.H₀
section
variable {X:Cx} {pins:List (Addr×Obj)} {σ:St} {H:Hp} {s:Shared}
end
section
variable {X:Cx} {tg:Expr}
end
structure zT (k:Nat) (A:Around):Prop where
 dp:A.depth+3*k+5<recursionLimit
 un:A.units+16*k+200<cLine
theorem dq.h{k:Nat}{A:Around}(r:dq k A):zT k A:=⟨r.dp,r.un⟩
def R9(outer:List Env)(P:Program)(w:World)(H:Hp)(s:Shared)(Q:VK)(r:Result)(s':Shared):Prop:=
 match r with
 | .ok (.ret u)=>CE outer P w H s Q u s'
 | _=>False
structure FJ (P:Program) (w:World) (K:Frag) (mg:Str->Option Value) (base:Heap) (k:Nat) (f:Addr) (fd:FuncData) (ps:List Str) (sp:Sp):Prop where
 len: ∀vs H Q E,sp vs H Q E->vs.length=ps.length
 run: ∀(A:Around) (outer:List Env) (s:Shared) (H:Hp) (args:Args) (us:List Value) (vs:List V) (Q:VK),zT k A->FI A H->mF P w K mg base A outer s H->BindsTo s fd args (ps.zip us)->Vals vs us->sp vs H Q E0->
  codeAny (model P w) A (.call (.ref f) args) (R9 outer P w H s Q) s
section
variable {X:Cx} {k:Nat} {f:Addr} {fd:FuncData} {ps:List Str} {sp:Sp} {x:Str} {p pos:Pos} {e:Expr} {ta:TE} {hv:Option Addr}
end
def FK(CX:bN)(X:Cx)(x:Str)(sp:Sp):Prop:=
 ∃k f fd ps,cX X.prog X.w X.K X.mg X.base CX k f fd ps sp/\dq k X.A/\X.mg x=some (.ref f)/\PySem.W.keepIn X.K (.ref f)=true/\Binds X.K fd ps []
def vG(CX:bN)(X:Cx)(C:Addr)(m:Str)(sp:Sp):Prop:=
 fF X.K C/\ ∃k f fd ps,Meth X.K C m f/\cX X.prog X.w X.K X.mg X.base CX k f fd ps sp/\dq k X.A/\Binds X.K fd ps []
def FL(CX:bN)(X:Cx)(x:Str)(C:Addr)(sp:Sp):Prop:=
 ∃k f fd ps,Mk X.K C f/\cX X.prog X.w X.K X.mg X.base CX k f fd ps sp/\dq (k+1) X.A/\X.mg x=some (.ref C)/\Binds X.K fd ps []
def FN(X:Cx)(x:Str)(sp:Sp):Prop:=
 ∃k f fd ps,FJ X.prog X.w X.K X.mg X.base k f fd ps sp/\zT k X.A/\X.mg x=some (.ref f)/\PySem.W.keepIn X.K (.ref f)=true/\Binds X.K fd ps []
def FO(X:Cx)(x:Str)(C:Addr):Prop:= ∃bm B newId qw,OwnCls x C bm newId X.mg X.base/\ExcBaseFacts B newId qw bm
structure Good (CX:bN) (S:cz) (Γ:aQ) (X:Cx):Prop where
 N:X.N=S.N
 sc:X.env.scope=S.sc
 K:X.K=Γ.K
 calm:S.md=0->X.calm=true
 units:X.A.units+64<cLine
 fns:S.md=0-> ∀j x,S.fn[j]?=some x->FK CX X x (Γ.fs j)
 gh: ∀j x,S.gn[j]?=some x-> ∃u,X.mg x=some u/\RelV (Γ.gv j) u
 ik: ∀x,S.bl.contains x=true->X.mg x=none
 pass:Passes CX X Γ.E
 vH: ∀outer H s e s',CX outer H s E0 e s'->False
 vI: ∀p kvs,Γ.sd p kvs-> ∀h:Heap,X.K.In h-> ∃vs,KV kvs vs/\h.DictOf (dF X.prog X.w) p vs
 sL:S.md=0-> ∀j m,S.mn[j]?=some m->vG CX X (Γ.ms j).1 m (Γ.ms j).2
 vJ:S.md=0-> ∀j x,S.kn[j]?=some x->FL CX X x (Γ.kt j).1 (Γ.kt j).2
 zU: ∀j x,S.en[j]?=some x->FO X x (Γ.ex j)
 zV: ∀j x,S.hn[j]?=some x->FN X x (Γ.hs j)
 zW: ∀e,Γ.hv=some e->X.A.handled=some (.ref e)
 FP:S.md=1->Hd X
theorem vK{S:cz}(h:(if S.md=0 then 0 else 2)=0):S.md=0:=by
 split at h
 ·assumption
 ·cases h
section
variable {CX:bN} {S:cz} {Γ:aQ} {X:Cx}
theorem Good.inner(G:Good CX S Γ X)(c:sI)(ln:List Str)(fv:List (Str×Nat))(ex:List Addr)(C:Addr)(s:Shared)(H:Hp):
  Good CX (FA S c ln fv) Γ.calm (gF X c.sc (ln++fv.map (·.1)) ex C s H) where
 N:=rfl
 sc:=by
  show relabel c.sc X.env=zG c.sc S.sc
  rw[<-G.sc];rfl
 K:=G.K
 calm:=fun h=>G.calm (vK h)
 units:=G.units
 fns:=fun m j x h=>G.fns (vK m) j x h
 gh:=G.gh
 ik:=G.ik
 pass:=fun _ _ _ _ _ _ _ h=> (G.vH _ _ _ _ _ h).elim
 vH:=G.vH
 vI:=G.vI
 sL:=fun z j m h=>G.sL (vK z) j m h
 vJ:=fun z j x h=>G.vJ (vK z) j x h
 zU:=fun j x h=>by simp[FA] at h
 zV:=fun j x h=>G.zV j x h
 zW:=fun e h=>G.zW e h
 FP:=fun h=>by
  have h':(if S.md=0 then 0 else 2)=1:=h
  split at h'<;>cases h'
theorem Good.gl(G:Good CX S Γ X){x:Str}(h:mR S.sc x=true):Gl X x:=by
 show X.env.scope.names.lookup x=_
 rw[G.sc];exact RB h
theorem e_{e:Expr}{es:List Expr}{env:Env}(h:noStar e=true):starEach (e::es) env=(false,eval e env)::starEach es env:=by
 cases e<;>first | rfl | cases h
theorem oB{o:Expr}{x:Str}{env:Env}(h:mS o=true):attributeBase o x env (eval o env)=eval o env:=by
 unfold attributeBase
 split
 ·cases h
 ·rfl
theorem vL{e:Expr}{env:Env}(h:sJ e=true): ∀x,foldedSetIterable e env x=pure x:=by
 intro x
 cases e<;>first | rfl | cases h
def gi(es:List Expr):Bool:=es.all noStar
theorem j5(env:Env)(pos:Pos): ∀(es:List Expr),gi es=true->(backTo pos<|starEach es env).any (·.1)=false
 | [],h=>rfl
 | e::es,h=>by
  simp only[gi,zbe,zah] at h
  rw[e_ h.1]
  have ih:=j5 env pos es h.2
  show(false || (backTo pos<|starEach es env).any (·.1))=false
  rw[ih];rfl
theorem zX(env:Env)(pos:Pos): ∀(es:List Expr),gi es=true->(backTo pos<|starEach es env).all (fun x=> !x.1)=true
 | [],h=>rfl
 | e::es,h=>by
  simp only[gi,zbe,zah] at h
  rw[e_ h.1]
  have ih:=zX env pos es h.2
  show(!false && (backTo pos<|starEach es env).all (fun x=> !x.1))=true
  rw[ih];rfl
theorem eI{e:Expr}{es:List Expr}(h:gi (e::es)=true):noStar e=true/\gi es=true:=by
 simp only[gi,zbe,zah] at h
 exact h
theorem FQ(G:Good CX S Γ X){c:sI}{ln:List Str}{fv:List (Str×Nat)}(h:zI S c ln fv=true):
  jw X c.sc ln fv/\(∀x∈ln,c.sc.names.lookup x=some .local)/\(ln++fv.map (·.1)).Nodup/\sJ c.iter=true:=by
 simp only[zI,zah,decide_eq_true_eq,zbA,Bool.or_eq_true] at h
 obtain⟨⟨⟨⟨⟨⟨⟨h1,h2⟩,h3⟩,h4⟩,h5⟩,h6⟩,h7⟩,h8⟩:=h
 refine⟨⟨h1,fun y hy=>h2 y hy,fun y hy hl=> ?_,fun y hy hf=> ?_,fun p hp=> ?_⟩,h6,h7,h8⟩
 ·rcases h3 y hy with z | z
  ·exact absurd hl z
  ·exact z
 ·show X.env.scope.names.lookup y.1=_\/X.env.scope.names.lookup y.1=_
  rw[G.sc]
  rcases h4 y hy with(z | z) | z
  ·exact absurd hf z
  ·exact .inl z
  ·exact .inr z
 ·rw[G.N];exact h5 p hp
theorem FR(hc:X.calm=true){c:sI}{tk:Option Nat}{ln:List Str}{fv:List (Str×Nat)}(h:zH tk c.tg=some ln)(hl: ∀x∈ln,c.sc.names.lookup x=some .local)(hn:(ln++fv.map (·.1)).Nodup):
  so X c.sc ln fv c.tg tk:=by
 unfold zH at h
 split at h
 ·rename_i x p he
  cases h
  rw[he]
  exact Qy (hl x (by simp)) hn
 ·rename_i x p y q k pos he
  cases h
  rw[he]
  exact QC hc (hl x (by simp)) (hl y (by simp)) hn
 ·cases h
theorem R_{xs:List V}{H:Hp}{Q:VK}{K:Frag}(h:mO K .int xs H Q):(∃i,xs=[.int i]/\Q (.int i) H)\/ ∃k,xs=[.bl k]/\Q (.int (if k then 1 else 0)) H:=by
 match xs,h with
 | [.int i],h=>exact .inl ⟨i,rfl,h⟩
 | [.bl k],h=>exact .inr ⟨k,rfl,h⟩
theorem Sa{K:Frag}{x:V}{H:Hp}{Q:Nat->Prop}(h:r_ K x H Q): ∃n,D7 K x H n/\Q n:=by
 match x,h with
 | .str y,h=>exact⟨_,⟨h.1,rfl⟩,h.2⟩
 | .ref p, .inl ⟨xs,a,b⟩=>exact⟨_, .inl ⟨xs,a,rfl⟩,b⟩
 | .ref p, .inr ⟨xs,a,b⟩=>exact⟨_, .inr ⟨xs,a,rfl⟩,b⟩
inductive Sb (X:Cx) (b:kZ):Prop where
 | fn (id:String) (hv:bootBuiltins b.nm=some (.builtin id)) (hc:cy X (.builtin id) (mO X.K b))
 | ty (T:String) (hv:bootBuiltins b.nm=some (.type T)) (hc:cy X (.type T) (mO X.K b))
theorem boot_min:bootBuiltins "min"=some (.builtin "min"):=by decide+kernel
theorem boot_max:bootBuiltins "max"=some (.builtin "max"):=by decide+kernel
theorem boot_abs:bootBuiltins "abs"=some (.builtin "abs"):=by decide+kernel
theorem boot_sum:bootBuiltins "sum"=some (.builtin "sum"):=by decide+kernel
theorem Sd:bootBuiltins "isinstance"=some (.builtin "isinstance"):=by decide+kernel
theorem Se:bootBuiltins "int"=some (.type "int"):=by decide+kernel
theorem zY:bootBuiltins "list"=some (.type "list"):=by decide+kernel
theorem Sf:bootBuiltins "tuple"=some (.type "tuple"):=by decide+kernel
theorem zZ(f:Nat->Int)(lt:Nat->Nat->Bool)(h: ∀i j,lt i j=decide (f i<f j)): ∀n,argBest lt n<=n/\ ∀i,i<=n->f (argBest lt n)<=f i
 | 0=> ⟨zqR _,fun i hi=>by
   obtain rfl:i=0:=by lia
   exact zaT _⟩
 | n+1=>by
  obtain⟨a,b⟩:=zZ f lt h n
  have e:argBest lt (n+1)=if lt (n+1) (argBest lt n)=true then n+1 else argBest lt n:=rfl
  rw[e,h]
  split
  ·rename_i q
   have q:=of_decide_eq_true q
   refine⟨zqR _,fun i hi=> ?_⟩
   by_cases z:i=n+1
   ·rw[z];exact zaT _
   ·have:=b i (by lia);lia
  ·rename_i q
   have q: ¬f (n+1) <f (argBest lt n):=fun z=>q (zqT z)
   refine⟨by lia,fun i hi=> ?_⟩
   by_cases z:i=n+1
   ·rw[z];lia
   ·exact b i (by lia)
theorem FT{xs:Array (Int×Tok)}{i:Nat}(h:i<xs.size):numAt xs i=xs[i].1:=by
 unfold numAt
 rw[zbq h];rfl
theorem FU{xs:Array (Int×Tok)}{i:Nat}(h:i<xs.size):numAt xs i∈xs.toList.map (·.1):=by
 rw[FT h]
 exact zaX.mpr ⟨xs[i],by simp,rfl⟩
theorem FV{xs:Array (Int×Tok)}{n:Int}(h:n∈xs.toList.map (·.1)): ∃i,i<xs.size/\n=numAt xs i:=by
 obtain⟨y,hy,rfl⟩:=zaX.mp h
 obtain⟨i,hi,rfl⟩:=List.getElem_of_mem hy
 have e9:i<xs.size:=by simpa using hi
 exact⟨i,e9,by rw[FT e9];simp⟩
theorem FW{pins:List (Addr×Obj)}{σ:St}{H:Hp}{s:Shared}{p:Addr}{ns:List Int}(I:Inv X pins σ H s)(hq:aq X.K H p (ns.map V.int)): ∃xs:Array (Int×Tok),s.heap.IsList p (intItems xs)/\ns=xs.toList.map (·.1):=by
 obtain⟨ak,rv,pl,hz⟩:=I.list hq
 have hi:=intsAre_of rv
 obtain⟨xs,hx⟩:=hi.allInts.items
 refine⟨xs,hx ▸ pl.isList, ?_⟩
 rw[<-nums_intItems,<-hx]
 exact(show numsOf ak.toArray.toList=ns from hi.numsOf).symm
theorem Sh(hc:X.calm=true):cy X (.builtin "min") (fun xs H Q=> ∃(p:Addr) (ns:List Int),xs=[.ref p]/\aq X.K H p (ns.map V.int)/\ns≠ []/\ ∀m:Int,m∈ns->(∀n∈ns,m<=n)->Q (.int m) H):=by
 intro pins s σ H xs us Q I r h
 obtain⟨p,ns,rfl,hq,gI,q⟩:=h
 obtain⟨u,rfl,ru⟩:=vals1 r
 cases ru
 obtain⟨xs,hl,rfl⟩:=FW I hq
 have sz:0<xs.size:=Nat.pos_of_ne_zero fun z=>gI (by rw[zbT z];rfl)
 refine min_intList (I.ok.hd hc) hl sz fun v h' tk hv hk=> ?_
 obtain⟨t,rfl⟩:=intItems_at hv
 obtain⟨b1,b2⟩:=zZ (numAt xs) (fun i j=>decide<|numAt xs i<numAt xs j) (fun _ _=>rfl) (xs.size - 1)
 refine⟨.int _,H,I.kept (t':=tk) hk,⟨t,rfl⟩,q _ (FU (by lia)) fun n hn=> ?_⟩
 obtain⟨i,hi,rfl⟩:=FV hn
 exact b2 i (by lia)
theorem Si(hc:X.calm=true):cy X (.builtin "max") (fun xs H Q=> ∃(p:Addr) (ns:List Int),xs=[.ref p]/\aq X.K H p (ns.map V.int)/\ns≠ []/\ ∀m:Int,m∈ns->(∀n∈ns,n<=m)->Q (.int m) H):=by
 intro pins s σ H xs us Q I r h
 obtain⟨p,ns,rfl,hq,gI,q⟩:=h
 obtain⟨u,rfl,ru⟩:=vals1 r
 cases ru
 obtain⟨xs,hl,rfl⟩:=FW I hq
 have sz:0<xs.size:=Nat.pos_of_ne_zero fun z=>gI (by rw[zbT z];rfl)
 refine max_intList (I.ok.hd hc) hl sz fun v h' tk hv hk=> ?_
 obtain⟨t,rfl⟩:=intItems_at hv
 obtain⟨b1,b2⟩:=zZ (fun i=> - numAt xs i) (fun i j=>decide<|numAt xs i>numAt xs j) (fun i j=>decide_eq_decide.mpr (by lia)) (xs.size - 1)
 refine⟨.int _,H,I.kept (t':=tk) hk,⟨t,rfl⟩,q _ (FU (by lia)) fun n hn=> ?_⟩
 obtain⟨i,hi,rfl⟩:=FV hn
 have:=b2 i (by lia)
 lia
theorem FX{x:Str}{acc:Array Value}(h:ItemsOf (SignAt x) acc x.cps.size):Vals (signs x) acc.toList:=by
 have go: ∀(l:List Nat) (us:List Value),us.length=l.length->(∀(j:Nat) (v:Value),us[j]?=some v-> ∃(c:Nat) (t:Tok),l[j]?=some c/\v=Value.str ⟨#[c]⟩ t)->Vals (l.map fun c=>V.str ⟨#[c]⟩) us:=by
  intro l
  induction l with
  | nil=>
   intro us hl _
   rw[zaI.mp hl]
   exact .nil
  | cons c l ih=>
   intro us hl hv
   cases us with
   | nil=>cases hl
   | cons u us=>
    obtain⟨c',t,e1,e2⟩:=hv 0 u rfl
    have oH:c=c':=by simpa using e1
    subst oH
    exact .cons ⟨t,e2⟩ (ih us (by simpa using hl) fun j v hj=>by
     obtain⟨c2,t2,g1,g2⟩:=hv (j+1) v (by simpa using hj)
     exact⟨c2,t2,by simpa using g1,g2⟩)
 refine go x.cps.toList acc.toList ?_ fun j v hj=> ?_
 ·have:=h.1;simpa using this
 ·obtain⟨c,t,e1,e2⟩:=h.2 j v (by simpa using hj)
  exact⟨c,t,by simpa using e1,e2⟩
theorem FY(x:Str):(signs x).length=x.length:=by simp[signs,Str.length]
theorem Sj(hc:X.calm=true):cy X (.type "list") (fun xs H Q=> ∃x,xs=[.str x]/\x.length<=sizeLine/\ ∀l,H l=none->Q (.ref l) (upd H l<|.lst<|signs x)):=by
 intro pins s σ H xs us Q I r h
 obtain⟨x,rfl,hx,q⟩:=h
 obtain⟨u,rfl,t,rfl⟩:=vals1 r
 refine call_list_str (I.ok.hd hc) x t (fun h' tk jV c' hk e ff=> ?_) hx
 have rv:=FX ff
 exact⟨.ref s.heap.objs.size,_,I.laid (t':=tk) hk (zqR _) (show cg X.prog X.w _ h' _ (.lst<|signs x) from⟨by rw[FY];exact hx,jV.toList,c',rv,by simpa using e⟩),rfl,q _<|I.aE.fresh<|zqR _⟩
theorem Sk(hc:X.calm=true):cy X (.type "tuple") (fun xs H Q=> ∃x,xs=[.str x]/\x.length<=sizeLine/\ ∀l,H l=none->Q (.ref l) (upd H l<|.tup<|signs x)):=by
 intro pins s σ H xs us Q I r h
 obtain⟨x,rfl,hx,q⟩:=h
 obtain⟨u,rfl,t,rfl⟩:=vals1 r
 refine call_tuple_str (I.ok.hd hc) x t (fun h' tk acc hk ff=> ?_) hx
 have rv:=FX ff
 have I1:Inv X pins σ H {s with heap:=h',toks:=tk}:=I.kept (t':=tk) hk
 have I2:Inv X pins σ (upd H h'.objs.size<|.tup<|signs x) {s with heap:=h'.push {cls:= .type "tuple",data:= .seq acc},toks:=tk}:=
  I1.laid (t':=tk) (fun b o e=>Heap.get?_push_of_some _ e) (zqR _) (show cg X.prog X.w _ _ _ (.tup<|signs x) from⟨by rw[FY];exact hx,acc.toList,rv,by simpa using IsTup.new _ _⟩)
 exact⟨.ref h'.objs.size,_,I2,rfl,q _<|I1.aE.fresh<|zqR _⟩
theorem Sl(hc:X.calm=true)(b:kZ):Sb X b:=by
 cases b with
 | len=>exact .fn "len" boot_len (cy.imp N8 fun xs H Q h=>by
   rcases xs with _ | ⟨x,_ | ⟨_,_⟩⟩ <;> (try exact False.elim h)
   obtain⟨n,h1,h2⟩:=Sa (Q:=fun n=>Q (.int n) H) h;exact⟨x,n,rfl,h1,h2⟩)
 | min=>exact .fn "min" boot_min (cy.imp ((N6 hc).or (Sh hc)) fun xs H Q h=>by
   match xs,h with
   | [.int i, .int j],h=>exact .inl ⟨i,j,rfl,h⟩
   | [.ref p],⟨ns,h1,h2,h3⟩=>exact .inr ⟨p,ns,rfl,h1,h2,h3⟩)
 | max=>exact .fn "max" boot_max (cy.imp ((N5 hc).or (Si hc)) fun xs H Q h=>by
   match xs,h with
   | [.int i, .int j],h=>exact .inl ⟨i,j,rfl,h⟩
   | [.ref p],⟨ns,h1,h2,h3⟩=>exact .inr ⟨p,ns,rfl,h1,h2,h3⟩)
 | sum=>exact .fn "sum" boot_sum (cy.imp (QX hc) fun xs H Q h=>by
   rcases xs with _ | ⟨x,_ | ⟨_,_⟩⟩ <;> (try exact False.elim h) <;>cases x<;> (try exact False.elim h)
   obtain⟨ns,h1,h2⟩:=h;exact⟨_,ns,rfl,h1,h2⟩)
 | abs=>exact .fn "abs" boot_abs (cy.imp N4 fun xs H Q h=>by
   rcases xs with _ | ⟨x,_ | ⟨_,_⟩⟩ <;> (try exact False.elim h) <;>cases x<;> (try exact False.elim h)
   exact⟨_,rfl,h⟩)
 | int=>exact .ty "int" Se (cy.imp N7 fun xs H Q h=>R_ h)
 | list=>exact .ty "list" zY (cy.imp (O5.or (Sj hc)) fun xs H Q h=>by
   rcases xs with _ | ⟨x,_ | ⟨_,_⟩⟩ <;> (try exact False.elim h) <;>cases x<;> (try exact False.elim h)
   ·exact .inr ⟨_,rfl,h.1,h.2⟩
   ·obtain⟨ys,h1,h2⟩:=h;exact .inl ⟨_,ys,rfl,h1,h2⟩)
 | tuple=>exact .ty "tuple" Sf (cy.imp (O6.or (Sk hc)) fun xs H Q h=>by
   rcases xs with _ | ⟨x,_ | ⟨_,_⟩⟩ <;> (try exact False.elim h) <;>cases x<;> (try exact False.elim h)
   ·exact .inr ⟨_,rfl,h.1,h.2⟩
   ·obtain⟨ys,h1⟩:=h;exact .inl ⟨_,ys,rfl,h1⟩)
structure Sm (X:Cx) (m:hJ) (id:String):Prop where
 pa:PlainAttrs (sG m)
 slot:Slot (sG m) m.nm id
 ty:typeOf (.builtin id)=pure (.type "method_descriptor")
 mt:kS X id (vA X.K m)
theorem Sn{P:Program}{w:World}{k:Key}{u:Value}(r:RelV (kV k) u):(dF P w).is k u=true:=by
 cases k with
 | inl i=>obtain⟨t,e⟩:=(show ∃t,u=Value.int i t from r);subst e;exact Dm P w i t
 | inr x=>obtain⟨t,e⟩:=(show ∃t,u=Value.str x t from r);subst e;exact uE P w x t
theorem So{kvs:List (Key×V)}{vs:List (Key×Value)}(r:KV kvs vs)(k:Key){v:V}(h:lB kvs k=some v): ∃u,valueAt vs k=some u/\RelV v u:=by
 unfold KV at r
 induction r with
 | nil=>cases h
 | @cons p q ps qs hh t ih=>
  obtain⟨h1,h2⟩:=hh
  by_cases e:p.1=k
  ·have e':q.1=k:=h1.symm.trans e
   have b:valueAt (q::qs) k=some q.2:=by simp[valueAt,zaO,e']
   have a:lB (p::ps) k=some p.2:=by simp[lB,zaO,e]
   rw[a] at h
   cases h
   exact⟨_,b,h2⟩
  ·have e': ¬q.1=k:=fun z=>e (h1.trans z)
   have b:valueAt (q::qs) k=valueAt qs k:=by simp[valueAt,zaO,e']
   have a:lB (p::ps) k=lB ps k:=by simp[lB,zaO,e]
   rw[a] at h
   rw[b]
   exact ih h
theorem Sq{sd:Addr->List (Key×V)->Prop}(z6: ∀p kvs,sd p kvs-> ∀h:Heap,X.K.In h-> ∃vs,KV kvs vs/\h.DictOf (dF X.prog X.w) p vs):jU X (Fu sd):=by
 intro value slice pins s σ H x y v u Q I rx ry h hs
 obtain⟨p,kvs,k,z,rfl,rfl,hq,he,q⟩:=h
 cases rx
 obtain⟨vs,r,dd⟩:=z6 p kvs hq s.heap I.dn
 obtain⟨w,ew,ig⟩:=So r k he
 exact subscriptTail_builtinR (x:=w) dd.mapOf.typeIs PySem.F.slot_dict_getitem.lookup
  (wpAny_getItem_of (Q:=fun r s'=>r=w/\EP X pins σ Q r s') (Sn ry) dd.mapOf ew ⟨rfl,z,H,I.tok _,ig,q⟩) hs
theorem Sr{sd:Addr->List (Key×V)->Prop}(z6: ∀p kvs,sd p kvs-> ∀h:Heap,X.K.In h-> ∃vs,KV kvs vs/\h.DictOf (dF X.prog X.w) p vs):jU X (mP X.K sd):=OU.or (OV.or<|OW.or<|Sq z6)
theorem vM(y:Str): ∀{ts:List Str} {us:List Value},Vals (ts.map V.str) us-> ∀(j:Nat) (h1:j<us.length) (h2:j<ts.length),(Value.isStrOf y us[j]=(ts[j]==y))
 | [],_, .nil,j,h1,_=>absurd h1 (Nat.not_lt_zero _)
 | t::ts,_, .cons r rs,0,_,_=>by
  obtain⟨k,rfl⟩:=(show ∃k,_=Value.str t k from r)
  rfl
 | t::ts,_, .cons r rs,j+1,h1,h2=>vM y rs j (zbU h1) (zbU h2)
theorem FZ{y:Str}: ∀{ts:List Str} {j:Nat},j<ts.idxOf y-> ∀(h2:j<ts.length),(ts[j]==y)=false
 | n::r,0,h,_=>by
  by_cases e:n=y
  ·subst e;simp at h
  ·simpa using e
 | n::r,j+1,h,h2=>by
  by_cases e:n=y
  ·subst e;simp at h
  ·have hb:(n==y)=false:=by simpa using e
   have h':j<r.idxOf y:=by
    rw[List.idxOf_cons,hb] at h
    exact zbU h
   exact FZ h'<|zbU h2
theorem Ss:kS X "list.index" (fun x vs H Q=> ∃(l:Addr) (y:Str) (ts:List Str),x= .ref l/\vs=[.str y]/\aq X.K H l (ts.map V.str)/\y∈ts/\Q (.int (ts.idxOf y:Nat)) H):=by
 intro pins s σ H x vs v us Q I rx rv h
 obtain⟨l,y,ts,rfl,rfl,hq,hy,q⟩:=h
 cases rx
 obtain⟨u,rfl,⟨t,rfl⟩⟩:=vals1 rv
 obtain⟨ak,r,⟨⟨cls,dd,data,sl⟩,n,ho,hc,F0,hd⟩,hz⟩:=I.list hq
 simp only at hc hd
 subst hc hd
 have hlen:=r.length
 rw[zab] at hlen hz
 have hj:ts.idxOf y<ts.length:=List.idxOf_lt_length_iff.mpr hy
 have hn:=mE
 refine call_meets PySem.F.slot_list_index ⟨_,ho,rfl⟩ PySem.F.entry_list_index (PySem.F.args_list_index_2 _ _)
  (PySem.SeqAt.list_indexAt l ak.toArray n dd sl (.str y t) (Value.isStrOf y) (ts.idxOf y) (by simp;lia) (by lia) ?_ ?_) ⟨ho,fun z il=> ?_,⟨.int _,H,I.tok _,⟨_,rfl⟩,q⟩⟩
 ·show Value.isStrOf y ak[ts.idxOf y]=true
  rw[vM y r _ (by lia) hj]
  simpa using List.getElem_idxOf hj
 ·intro j z7 aK
  show Value.isStrOf y ak[j]=false
  rw[vM y r j (by simpa using z7) (by lia)]
  exact FZ aK _
 ·have hm:z∈ak:=by simpa using il
  obtain⟨j,z8,rfl⟩:=List.getElem_of_mem hm
  have F1:j<ts.length:=by lia
  have e:=vM y r j z8 F1
  obtain⟨k,ek⟩:=(r.get (i:=j) (x:= .str ts[j]) (by simp[F1]))
  obtain⟨sM,k2,Su⟩:=ek
  have Sv:ak[j]= .str ts[j] k2:=by
   have:=zau z8
   rw[sM] at this
   exact(zal this).symm.trans Su
  rw[e,Sv]
  exact PySem.SeqAt.EqAt.str_str _ _ _ _
theorem F2{x:V}: ∀{xs:List V} {us:List Value},Vals xs us->xs.all eR=true->us.countP (eG x)=xs.countP fun y=>dN y x
 | _,_, .nil,_=>rfl
 | y::xs,u::us, .cons r t,f=>by
  rw[zbe,zah] at f
  rw[List.countP_cons,List.countP_cons,vc r f.1,F2 t f.2]
theorem Sw:kS X "list.count" (fun x vs H Q=> ∃(l:Addr) (y:V) (xs:List V),x= .ref l/\vs=[y]/\aq X.K H l xs/\eR y=true/\xs.all eR=true/\Q (.int (xs.countP (fun z=>dN z y):Nat)) H):=by
 intro pins s σ H x vs v us Q I rx rv h
 obtain⟨l,y,xs,rfl,rfl,hq,fy,fs,q⟩:=h
 cases rx
 obtain⟨u,rfl,ru⟩:=vals1 rv
 obtain⟨ak,r,⟨⟨cls,dd,data,sl⟩,n,ho,hc,F0,hd⟩,hz⟩:=I.list hq
 simp only at hc hd
 subst hc hd
 rw[<-F2 r fs] at q
 exact call_meets PySem.F.slot_list_count ⟨_,ho,rfl⟩ PySem.F.entry_list_count (PySem.F.args_list_count_2 _ _)
  (PySem.SeqAt.list_countAt l ak.toArray n dd sl u<|eG y) ⟨ho,fun z il=>oA ru fy r fs z (by simpa using il),⟨.int _,H,I.tok _,⟨_,rfl⟩,q⟩⟩
theorem Sx:kS X "list.index" (fun x vs H Q=> ∃(l:Addr) (y:V) (xs:List V),x= .ref l/\vs=[y]/\aq X.K H l xs/\eR y=true/\xs.all eR=true/\cG y xs=true/\Q (.int (xs.findIdx (fun z=>dN z y):Nat)) H):=by
 intro pins s σ H x vs v us Q I rx rv h
 obtain⟨l,y,xs,rfl,rfl,hq,fy,fs,qv,q⟩:=h
 cases rx
 obtain⟨u,rfl,ru⟩:=vals1 rv
 obtain⟨ak,r,⟨⟨cls,dd,data,sl⟩,n,ho,hc,F0,hd⟩,hz⟩:=I.list hq
 simp only at hc hd
 subst hc hd
 have hlen:=r.length
 have e: ∀j (h1:j<ak.length) (h2:j<xs.length),eG y ak[j]=dN xs[j] y:=fun j h1 h2=>by
  obtain⟨w,e1,r1⟩:=r.get (i:=j) (x:=xs[j]) (by simp[h2])
  have e2:=zau h1
  rw[e1] at e2
  rw[<-zal e2]
  exact vc r1<|zbA.mp fs _<|List.getElem_mem h2
 have hj:xs.findIdx (fun z=>dN z y) <xs.length:=List.findIdx_lt_length.mpr (List.any_eq_true.mp qv)
 have hn:=mE
 refine call_meets PySem.F.slot_list_index ⟨_,ho,rfl⟩ PySem.F.entry_list_index (PySem.F.args_list_index_2 _ _)
  (PySem.SeqAt.list_indexAt l ak.toArray n dd sl u (eG y) (xs.findIdx fun z=>dN z y) (by simp;lia) (by lia) ?_ ?_) ⟨ho,fun z il=>oA ru fy r fs z (by simpa using il),⟨.int _,H,I.tok _,⟨_,rfl⟩,q⟩⟩
 ·show eG y ak[xs.findIdx fun z=>dN z y]=true
  rw[e _ (by lia) hj]
  exact List.findIdx_getElem (w:=hj)
 ·intro j z7 aK
  show eG y ak[j]=false
  rw[e j (by simpa using z7) (by lia)]
  simpa using List.not_of_lt_findIdx aK
theorem F3(m:hJ): ∃id,Sm X m id:=by
 cases m with
 | append=>exact⟨_,F.plainAttrs_list,F.slot_list_append,F.type_list_append,fun pins s σ H x xs v us Q I rx rv h=>by
   cases x<;> (try exact False.elim h) <;>rcases xs with _ | ⟨y0,_ | ⟨_,_⟩⟩ <;> (try exact False.elim h)
   obtain⟨zs,h1,h2,h3⟩:=h
   exact Pe pins s σ H _ _ v us Q I rx rv ⟨_,zs,_,rfl,rfl,h1,h2,h3⟩⟩
 | pop=>exact⟨_,F.plainAttrs_list,F.slot_list_pop,F.type_list_pop,fun pins s σ H x xs v us Q I rx rv h=>by
   cases x<;> (try exact False.elim h) <;>rcases xs with _ | ⟨_,_⟩ <;> (try exact False.elim h)
   obtain⟨zs,y,h1,h2,h3⟩:=h
   exact Pj pins s σ H _ _ v us Q I rx rv ⟨_,zs,y,rfl,rfl,h1,h2,h3⟩⟩
 | extend=>exact⟨_,F.plainAttrs_list,F.slot_list_extend,F.type_list_extend,fun pins s σ H x xs v us Q I rx rv h=>by
   cases x<;> (try exact False.elim h) <;>rcases xs with _ | ⟨y0,_ | ⟨_,_⟩⟩ <;> (try exact False.elim h) <;>cases y0<;> (try exact False.elim h)
   obtain⟨ys,zs,h1,h2,h3,h4⟩:=h
   exact Pg pins s σ H _ _ v us Q I rx rv ⟨_,_,ys,zs,rfl,rfl,h1,h2,h3,h4⟩⟩
 | join=>exact⟨_,F.plainAttrs_str,F.slot_str_join,F.type_str_join,fun pins s σ H x xs v us Q I rx rv h=>by
   cases x<;> (try exact False.elim h) <;>rcases xs with _ | ⟨y0,_ | ⟨_,_⟩⟩ <;> (try exact False.elim h) <;>cases y0<;> (try exact False.elim h)
   obtain⟨ts,h1,h2,h3⟩:=h
   exact QZ pins s σ H _ _ v us Q I rx rv ⟨_,_,ts,rfl,rfl,h1,h2,h3⟩⟩
 | lstrip=>exact⟨_,F.plainAttrs_str,F.slot_str_lstrip,F.type_str_lstrip,fun pins s σ H x xs v us Q I rx rv h=>by
   cases x<;> (try exact False.elim h) <;>rcases xs with _ | ⟨y0,_ | ⟨_,_⟩⟩ <;> (try exact False.elim h) <;>cases y0<;> (try exact False.elim h)
   obtain⟨h1,h2⟩:=h
   exact Q2 pins s σ H _ _ v us Q I rx rv ⟨_,_,rfl,rfl,h1,h2⟩⟩
 | starts=>exact⟨_,F.plainAttrs_str,F.slot_str_startswith,F.type_str_startswith,fun pins s σ H x xs v us Q I rx rv h=>by
   cases x<;> (try exact False.elim h) <;>rcases xs with _ | ⟨y0,_ | ⟨y1,_ | ⟨_,_⟩⟩⟩ <;> (try exact False.elim h) <;>cases y0<;> (try exact False.elim h) <;>cases y1<;> (try exact False.elim h)
   exact Q4 pins s σ H _ _ v us Q I rx rv ⟨_,_,_,rfl,rfl,h⟩⟩
 | find=>exact⟨_,F.plainAttrs_str,F.slot_str_find,F.type_str_find,fun pins s σ H x xs v us Q I rx rv h=>by
   match x,xs,h with
   | .str z,[.str y],h1=>
    obtain⟨t,rfl⟩:=rx
    obtain⟨u,rfl,⟨t2,rfl⟩⟩:=vals1 rv
    exact call_gives F.slot_str_find (typeIs_str _ _ _) F.entry_str_find (F.args_str_find_2 _ _) (gives_str_find z y t t2) ⟨.int _,H,I.tok _,⟨_,rfl⟩,h1⟩
   | .str z,[.str y, .int i],h1=>
    obtain⟨t,rfl⟩:=rx
    obtain⟨u,w',rfl,⟨t2,rfl⟩,⟨t3,rfl⟩⟩:=vals2 rv
    exact call_gives F.slot_str_find (typeIs_str _ _ _) F.entry_str_find (F.args_str_find_3 _ _ _) (gives_str_find_from z y i t t2 t3) ⟨.int _,H,I.tok _,⟨_,rfl⟩,h1⟩⟩
 | count=>exact⟨_,F.plainAttrs_str,F.slot_str_count,F.type_str_count,fun pins s σ H x xs v us Q I rx rv h=>by
   match x,xs,h with
   | .str z,[.str y],h1=>
    obtain⟨t,rfl⟩:=rx
    obtain⟨u,rfl,⟨t2,rfl⟩⟩:=vals1 rv
    exact call_gives F.slot_str_count (typeIs_str _ _ _) F.entry_str_count (F.args_str_count_2 _ _) (gives_str_count z y t t2) ⟨.int _,H,I.tok _,⟨_,rfl⟩,h1⟩⟩
 | reverse=>exact⟨_,F.plainAttrs_list,F.slot_list_reverse,F.type_list_reverse,fun pins s σ H x xs v us Q I rx rv h=>by
   cases x<;> (try exact False.elim h) <;>rcases xs with _ | ⟨_,_⟩ <;> (try exact False.elim h)
   obtain⟨zs,h1,h2⟩:=h
   exact Pl pins s σ H _ _ v us Q I rx rv ⟨_,zs,rfl,rfl,h1,h2⟩⟩
 | index=>exact⟨_,F.plainAttrs_list,F.slot_list_index,F.type_list_index,fun pins s σ H x xs v us Q I rx rv h=>by
   cases x<;> (try exact False.elim h) <;>rcases xs with _ | ⟨y0,_ | ⟨_,_⟩⟩ <;> (try exact False.elim h) <;>cases y0<;> (try exact False.elim h)
   obtain⟨ts,h1,h2,h3⟩:=h
   exact Ss pins s σ H _ _ v us Q I rx rv ⟨_,_,ts,rfl,rfl,h1,h2,h3⟩⟩
 | zA=>exact⟨_,F.plainAttrs_list,F.slot_list_count,F.type_list_count,fun pins s σ H x xs v us Q I rx rv h=>by
   cases x<;> (try exact False.elim h) <;>rcases xs with _ | ⟨y0,_ | ⟨_,_⟩⟩ <;> (try exact False.elim h)
   obtain⟨zs,h1,h2,h3,h4⟩:=h
   exact Sw pins s σ H _ _ v us Q I rx rv ⟨_,_,zs,rfl,rfl,h1,h2,h3,h4⟩⟩
 | sA=>exact⟨_,F.plainAttrs_list,F.slot_list_index,F.type_list_index,fun pins s σ H x xs v us Q I rx rv h=>by
   cases x<;> (try exact False.elim h) <;>rcases xs with _ | ⟨y0,_ | ⟨_,_⟩⟩ <;> (try exact False.elim h)
   obtain⟨zs,h1,h2,h3,h4,h5⟩:=h
   exact Sx pins s σ H _ _ v us Q I rx rv ⟨_,_,zs,rfl,rfl,h1,h2,h3,h4,h5⟩⟩
 | clear=>exact⟨_,F.plainAttrs_list,F.slot_list_clear,F.type_list_clear,fun pins s σ H x xs v us Q I rx rv h=>by
   cases x<;> (try exact False.elim h) <;>rcases xs with _ | ⟨_,_⟩ <;> (try exact False.elim h)
   obtain⟨zs,h1,h2⟩:=h
   exact Pn pins s σ H _ _ v us Q I rx rv ⟨_,zs,rfl,rfl,h1,h2⟩⟩
theorem Sy{pins:List (Addr×Obj)}{σ:St}{H:Hp}{s:Shared}{T:Ty}{x:V}{u:Value}{Qb:Bool->Prop}{Q:Value->Shared->Prop}{E:Value->Shared->Prop}(I:Inv X pins σ H s)(rx:RelV x u)(h:bF T x H Qb)
  (hq: ∀b tk,Qb b->Q (.bool b) {s with toks:=tk}):wpAny (model X.prog X.w) X.A (call (.builtin "isinstance") [u, .type T.nm]) Q E s:=by
 match x,rx,h with
 | .aC,rx,h=>exact kP I rx (.aC) (QW _ T) fun tk=>hq _ _ h
 | .bl b,rx,h=>exact kP I rx (.bl b) (mM X.K .bool T) fun tk=>hq _ _ (by cases T<;>exact h)
 | .int i,rx,h=>exact kP I rx (.int i) (mM X.K .int T) fun tk=>hq _ _ (by cases T<;>exact h)
 | .str i,rx,h=>exact kP I rx (.str i) (mM X.K .str T) fun tk=>hq _ _ (by cases T<;>exact h)
 | .ref a,rx,h=>
  cases e:H a with
  | none=>simp only[bF,e] at h
  | some o=>
   match o,e with
   | .lst xs,e=>simp only[bF,e] at h;exact kP I rx (.lst e) (mM X.K .list T) fun tk=>hq _ _ (by cases T<;>exact h)
   | .bX ob (.lst xs),e=>simp only[bF,e] at h;exact kP I rx (.bX e) (mM X.K .list T) fun tk=>hq _ _ (by cases T<;>exact h)
   | .tup xs,e=>simp only[bF,e] at h;exact kP I rx (.tup e) (mM X.K .tuple T) fun tk=>hq _ _ (by cases T<;>exact h)
   | .dK xs,e=>simp only[bF,e] at h;exact kP I rx (.dK e) (mM X.K .dict T) fun tk=>hq _ _ (by cases T<;>exact h)
   | .dT xs,e=>simp only[bF,e] at h;exact kP I rx (.dT e) (mM X.K .dict T) fun tk=>hq _ _ (by cases T<;>exact h)
   | .set _ _,e=>simp only[bF,e] at h
   | .ins _ _ _,e=>simp only[bF,e] at h
   | .own _,e=>simp only[bF,e] at h
   | .xd _,e=>simp only[bF,e] at h
   | .met _ _,e=>simp only[bF,e] at h
   | .gX _ _,e=>simp only[bF,e] at h
   | .jO _,e=>simp only[bF,e] at h
   | .ext _,e=>simp only[bF,e] at h
   | .bX ob (.tup xs),e=>simp only[bF,e] at h
   | .bX ob (.dK xs),e=>simp only[bF,e] at h
   | .bX ob (.dT xs),e=>simp only[bF,e] at h
   | .bX ob (.set _ _),e=>simp only[bF,e] at h
   | .bX ob (.ins _ _ _),e=>simp only[bF,e] at h
   | .bX ob (.own _),e=>simp only[bF,e] at h
   | .bX ob (.xd _),e=>simp only[bF,e] at h
   | .bX ob (.met _ _),e=>simp only[bF,e] at h
   | .bX ob (.gX _ _),e=>simp only[bF,e] at h
   | .bX ob (.jO _),e=>simp only[bF,e] at h
   | .bX ob (.ext _),e=>simp only[bF,e] at h
   | .bX ob (.bX _ _),e=>simp only[bF,e] at h
theorem Sz(T:Ty):bootBuiltins (Str.ofString T.nm)=some (.type T.nm):=by cases T<;>decide+kernel
theorem SA(T:Ty):cy X (.builtin "isinstance") (jZ T):=by
 intro pins s σ H xs us Q I r h
 match xs,r,h with
 | [x, .ty n],r,⟨e,h⟩=>
  subst e
  obtain⟨u,w',rfl,ru,ig⟩:=vals2 r
  cases ig
  exact Sy I ru h fun b tk hb=> ⟨.bl b,H,I.tok tk,rfl,hb⟩
theorem SD{T:Ty}{a:Expr}{ta:TE}{p q pos:Pos}(ha:PE X a ta)(hs:noStar a=true)(hg:Gl X "isinstance")(hm:X.mg "isinstance"=none)(SE:Gl X (Str.ofString T.nm))(SF:X.mg (Str.ofString T.nm)=none):
  PE X (.Call (.Name "isinstance" p) [a, .Name (Str.ofString T.nm) q] [] pos) (gg (jZ T)<|dU ta<|dU (tC<|.ty T.nm) iR):=by
 have hT:PE X (.Name (Str.ofString T.nm) q) (tC<|.ty T.nm):=M5 SE SF (Sz T) rfl (by cases T<;>decide) (by cases T<;>decide)
 exact Ek (SA T) hg hm Sd (ql ha (ql hT uY rfl)<|e_ hs) (by decide) (by decide) (e_ hs) rfl
end
section
variable {X:Cx}
theorem SH:vb X (qu X.K):=by
 intro pins s σ H x v vl vu lo hi sl Q I rx hs pl pu h
 match x,rx,h with
 | .ref a,rx, .inl ⟨xs,h1,h2⟩=>exact O1 pins s σ H _ v vl vu lo hi sl Q I rx hs pl pu ⟨a,xs,rfl,h1,h2⟩
 | .ref a,rx, .inr ⟨xs,h1,h2,h3⟩=>exact OR pins s σ H _ v vl vu lo hi sl Q I rx hs pl pu ⟨a,xs,rfl,h1,h2,h3⟩
 | .str z,rx,⟨h1,h2⟩=>
  obtain⟨t,rfl⟩:=rx
  obtain⟨l,el,ml⟩: ∃l:Option (Int×Tok),vl=partValue l/\l.map (·.1)=lo:=by
   cases pl with
   | none=>exact⟨none,rfl,rfl⟩
   | int i t=>exact⟨some (i,t),rfl,rfl⟩
  obtain⟨u,eu,mu⟩: ∃u:Option (Int×Tok),vu=partValue u/\u.map (·.1)=hi:=by
   cases pu with
   | none=>exact⟨none,rfl,rfl⟩
   | int i t=>exact⟨some (i,t),rfl,rfl⟩
  subst el eu
  refine⟨"str",_,F.slot_str_getitem.lookup,typeIs_str _ _ _, ?_⟩
  refine wpAny_getItem_str_slice (l:=l) (u:=u) (st:=none) hs rfl ?_
  obtain⟨b1,b2,b3⟩:=yW lo hi z.length
  have hp:slicePicked z l u none=(List.range<|HT.a_ z.length z.length hi - HT.a_ z.length 0 lo).map (HT.a_ z.length 0 lo+ ·):=by
   show Builtin.Str.strSliceIndices (l.map (·.1)) (u.map (·.1)) 1 z.length=_
   rw[ml,mu]
   have e0:Builtin.Str.strSliceIndices lo hi 1 z.length=sliceRange (sliceBounds lo hi none z.length).1 (sliceBounds lo hi none z.length).2.1 (sliceBounds lo hi none z.length).2.2:=rfl
   rw[e0,b1,b2,b3,sliceRange_one]
  have hc:((slicePicked z l u none).filterMap (z.cps[·]?))=kY z.cps.toList lo hi:=by
   show(Builtin.Str.strSliceIndices (l.map (·.1)) (u.map (·.1)) 1 z.length).filterMap (z.cps[·]?)=_
   rw[ml,mu,Q5]
  have hz:z.cps.toList.length=z.length:=by simp[Str.length]
  have hA:=HT.yQ z.length 0 (zqZ _) lo
  have hB:=HT.yQ z.length z.length (zqR _) hi
  unfold sliceMade
  refine post_val_or_made (fun _=> ?_) fun t' k=> ?_
  ·show(List.toArray ((slicePicked z l u none).filterMap (z.cps[·]?))).size<=sizeLine
   rw[hc,zag]
   have:(kY z.cps.toList lo hi).length<=z.cps.toList.length:=by unfold kY;simp only[zaD,zaB];lia
   lia
  ·have e:(if (((none:Option (Int×Tok)).map (·.1)).getD 1==1 && (slicePicked z l u none).length==z.length)=true then z else ⟨((slicePicked z l u none).filterMap (z.cps[·]?)).toArray⟩)=jx z lo hi:=by
    split
    ·rename_i hq
     simp only[zah,beq_iff_eq] at hq
     have SI:=hq.2
     rw[hp,zab,List.length_range] at SI
     have a0:HT.a_ z.length 0 lo=0:=by lia
     have b0:HT.a_ z.length z.length hi=z.length:=by lia
     unfold jx kY
     rw[hz,a0,b0,<-hz,Nat.sub_zero,zbl,zbB]
    ·rw[hc];rfl
   rw[e]
   exact⟨.str _,H,I.tok k,⟨t',rfl⟩,h2⟩
theorem SJ:uQ X (unaryOp .USub) Ft:=by
 intro pins s σ H x v Q I rx h
 match x,rx,h with
 | .int i,rx,h=>exact NK pins s σ H _ v Q I rx ⟨i,rfl,h⟩
theorem SK{a:Expr}{ta:TE}{pos:Pos}(ha:PE X a ta):PE X (.UnaryOp .Not a pos) (zB X.K ta):=by
 intro pins s σ H Q I h
 refine UnaryOp_<|aH (ha pins s σ H _ I h) fun v s1 ⟨x,H1,I1,r1,q1⟩=>not_of ?_
 exact aH (D6 pins s1 σ H1 x v (fun b H2=>Q (.bl<|!b) H2) I1 r1<|Fs q1) fun b s2 ⟨H2,I2,q2⟩=> ⟨.bl<|!b,H2,I2,rfl,q2⟩
theorem F4{a:Expr}{ta:TE}(ha:PE X a ta)(he: ∀whole,isTrue a X.env whole=(do let v <-whole;standAt a.pos;holding [v] (truthy v))):PT X a (gG X.K ta):=by
 intro pins s σ H Q I h
 exact isTrue_plain (aH (ha pins s σ H _ I h) fun v s1 ⟨x,H1,I1,r1,q1⟩=>D6 pins s1 σ H1 x v Q I1 r1 (Fs q1))<|he _
theorem SM{m:hJ}{o e:Expr}{es:List Expr}{to:TE}{t:TA}{apos dv:Pos}(ho:PE X o to)(ha:PA X (e::es) t)(hb:mS o=true)(hl:(apos.endLine==dv.line)=true)(hn:(e::es).length<29)
  (hs:starEach (e::es) X.env=(false,eval e X.env)::starEach es X.env) (h1:(backTo dv<|starEach es X.env).any (·.1)=false) (h2:(backTo dv<|starEach (e::es) X.env).all (fun x=> !x.1)=true):
  PE X (.Call (.Attribute o m.nm apos) (e::es) [] dv) (qt X.K m to t):=by
 obtain⟨id,M⟩:=F3 (X:=X) m
 exact O_ M.pa M.slot M.ty M.mt ho ha (oB hb) (by
  rw[h2]
  show(true && true && decide ((e::es).length+0+0<30))=true
  rw[zqT (by lia)];rfl) hl hs h1
theorem SN{m:hJ}{o:Expr}{to:TE}{apos dv:Pos}(ho:PE X o to)(hb:mS o=true)(hl:(apos.endLine==dv.line)=true):
  PE X (.Call (.Attribute o m.nm apos) [] [] dv) (qt X.K m to iR):=by
 obtain⟨id,M⟩:=F3 (X:=X) m
 exact O9 M.pa M.slot M.ty M.mt ho (oB hb) hl
end
section
variable {X:Cx} {CX:bN}
theorem F5{o:Expr}{m:Str}{apos pos:Pos}{args:List Expr}{Q:Value->Shared->Prop}{E:Value->Shared->Prop}{A:Around}{s:Shared}{env:Env}{prog:Program}{w:World}
  (hb:mS o=true) (hl:(apos.endLine==pos.line)=true) (hn:args.length<29) (hf:(backTo pos<|starEach args env).all (fun x=> !x.1)=true)
  (h:wpAny (model prog w) A (eval o env) (fun ov s1=> ∀pl,wpAny (model prog w) A (getMethod ov m pl) (fun fx s2=>wpAny (model prog w) A (callWith pos fx.1 fx.2 (backTo pos<|starEach args env)<|backToKw pos<|keywordEach [] env) Q E s2) E s1) E s):
  wpAny (model prog w) A (eval (.Call (.Attribute o m apos) args [] pos) env) Q E s:=by
 have SO:methodCallForm (args.length+0) (backTo pos<|starEach args env) (backToKw pos<|keywordEach [] env)=true:=by
  show((backTo pos<|starEach args env).all (fun x=> !x.1) && true && decide (args.length+0+0<30))=true
  rw[hf,zqT (by lia)];rfl
 have line:methodCallPos true o env apos pos=pure pos:=by unfold methodCallPos;simp[hl]
 rw[arm_eval_Call,oB hb]
 refine wpAny_bind<|wpAny_mono h (fun ov s1 h1=>wpAny_bind<|wpAny_standAt ?_) fun _ _ e=>e
 unfold methodCall
 rw[show([]:List Keyword).length=0 from rfl,SO]
 refine wpAny_bind<|wpAny_holding<|wpAny_mono (h1 _) (fun fx s2 h2=> ?_) fun _ _ e=>e
 exact wpAny_bind<|wpAny_of_eq line h2
theorem SQ{o e:Expr}{es:List Expr}{to:TE}{t:TA}{apos pos:Pos}{C:Addr}{m:Str}{sp:Sp}{E:XK}(M:vG CX X C m sp)(hx:Passes CX X E)(ho:PE X o to)(ha:PA X (e::es) t)(hb:mS o=true)(hl:(apos.endLine==pos.line)=true)(hn:(e::es).length<29)
  (hs:starEach (e::es) X.env=(false,eval e X.env)::starEach es X.env) (h1:(backTo pos<|starEach es X.env).any (·.1)=false) (h2:(backTo pos<|starEach (e::es) X.env).all (fun x=> !x.1)=true):
  PE X (.Call (.Attribute o m apos) (e::es) [] pos) (oj C m sp [] E to t):=by
 obtain⟨c,k,f,fd,ps,hm,F,hr,z9⟩:=M
 intro pins s σ H Q I h
 refine F5 hb hl hn h2<|aH (ho pins s σ H _ I h) fun u s1 ⟨x,H1,I1,rx,a,dx,fs,ex,ea,l,q⟩=>fun pl=> ?_
 subst ex
 obtain rfl:u=Value.ref a:=rx
 refine D_ I1 ea c hm l ?_
 refine callWith_K (first:=[.ref a]) (h₀:=X.base) I.ok.mod.rH hm.kp (aH (ha pos pins s1 σ H1 _ I1 q) fun us s2 ⟨vs,H2,I2,r,q2⟩=> ⟨I2.dn, ?_⟩) hs h1
 exact yN (us:= .ref a::us) (vs:= .ref a::vs) F hr z9 .nil hx I2 (.cons rfl r) q2
theorem SR{o:Expr}{to:TE}{apos pos:Pos}{C:Addr}{m:Str}{sp:Sp}{E:XK}(M:vG CX X C m sp)(hx:Passes CX X E)(ho:PE X o to)(hb:mS o=true)(hl:(apos.endLine==pos.line)=true):
  PE X (.Call (.Attribute o m apos) [] [] pos) (oj C m sp [] E to iR):=by
 obtain⟨c,k,f,fd,ps,hm,F,hr,z9⟩:=M
 intro pins s σ H Q I h
 refine F5 hb hl (by decide) rfl<|aH (ho pins s σ H _ I h) fun u s1 ⟨x,H1,I1,rx,a,dx,fs,ex,ea,l,q⟩=>fun pl=> ?_
 subst ex
 obtain rfl:u=Value.ref a:=rx
 refine D_ I1 ea c hm l ?_
 exact PySem.W.callWith_K0 (first:=[.ref a]) I1.dn hm.kp<|yN (us:=[.ref a]) (vs:=[.ref a]) F hr z9 .nil hx I1 (.cons rfl .nil) q
end
section
variable {prog:Program} {w:World} {A:Around} {E:Value->Shared->Prop} {s:Shared}
theorem F6{it l:Addr}{items:Array Value}(gI:l≠it): ∀(n i:Nat) (s:Shared) (Q:List Value->Shared->Prop),s.heap.IsListIter it l i->s.heap.IsList l items->i+n<=items.size->
  (∀h',h'.IsListIter it l (i+n)->Heap.SameBut it s.heap h'->Q ((items.toList.drop i).take n) {s with heap:=h'})->wpAny (model prog w) A (draw (.ref it) n) Q E s
 | 0,i,s,Q,hit,_,_,hQ=>by
  show wpAny _ _ (pure []) Q E s
  exact wpAny_pure (by simpa using hQ s.heap hit (Heap.SameBut.refl ..))
 | n+1,i,s,Q,hit,ht,hle,hQ=>by
  have aK:i<items.size:=by lia
  show wpAny _ _ (pyNext (.ref it) >>=_) Q E s
  refine wpAny_bind<|wpAny_pyNext_list_item hit ht (x:=items[i]) (by simp[aK]) fun h₁ z_ dP=> ?_
  refine wpAny_bind<|wpAny_holding<|F6 gI n (i+1) _ _ z_ (ht.extBut dP.extBut gI) (by lia) fun h₂ SS ip=>wpAny_pure ?_
  have hd:items.toList.drop i=items[i]::items.toList.drop (i+1):=by simp[zaY,aK]
  have:=hQ h₂ (by rw[show i+ (n+1)=i+1+n by lia];exact SS) (dP.trans ip)
  rw[hd,List.take_succ_cons] at this
  exact this
theorem SU{t:Addr}{items:Array Value}{Q:List Value->Shared->Prop}(hh:A.handled=none)(ht:s.heap.IsList t items)
  (hQ: ∀h',Heap.ExtBut s.heap.objs.size s.heap h'->Q items.toList {s with heap:=h'}):wpAny (model prog w) A (unpackItems (.ref t) items.size none) Q E s:=by
 have aK:t≠s.heap.objs.size:=by obtain⟨o,ho,_⟩:=ht;exact zan (Heap.lt_size ho)
 unfold unpackItems
 refine wpAny_bind ?_
 ·unfold notIterableAtAll
  refine wpAny_bind<|wpAny_specialOf ht.typeIs slot_list_iter.lookup ?_
  refine wpAny_pure ?_
  simp only[zaR,if_false]
  refine wpAny_bind<|wpAny_holding<|wpAny_pyIter_list ht ?_
  refine wpAny_bind<|wpAny_holding<|F6 aK items.size 0 _ _ ⟨_,Heap.get?_push_size _ rfl,rfl,rfl⟩ (ht.push _) (by lia) fun h₁ z_ dP=> ?_
  have mI:List.take items.size (List.drop 0 items.toList)=items.toList:=by
   rw[zbl];exact zaG (by simp)
  rw[mI]
  rw[if_neg (by simp)]
  have SV:h₁.IsList t items:=(ht.push _).extBut dP.extBut aK
  refine wpAny_bind<|wpAny_holding<|wpAny_pyNext_list_end hh z_ SV (by simp) fun h₂ SW=> ?_
  simp only[Option.isSome_none,zaR,if_false]
  refine wpAny_pure<|hQ h₂ fun b o hb e=>SW b o hb (dP.extBut b o hb<|Heap.get?_push_of_some _ e)
theorem SX{env:Env}{elts:List Expr}{x1}{pos:Pos}{t:Addr}{items:Array Value}{Q:Unit->Shared->Prop}(hh:A.handled=none)(ht:s.heap.IsList t items)
  (hn:(assignEach elts env).length=items.size) (SY:(assignEach elts env).findIdx? (·.1)=none)
  (h: ∀h',Heap.ExtBut s.heap.objs.size s.heap h'->wpAny (model prog w) A (assignInOrder ((assignEach elts env).map (·.2)) items.toList) Q E {s with heap:=h'}):
  wpAny (model prog w) A (assign (.Tuple elts x1 pos) env<|.ref t) Q E s:=by
 rw[assign_Tuple]
 refine wpAny_bind<|wpAny_standAt ?_
 unfold unpack
 rw[hn,SY]
 exact wpAny_bind<|wpAny_holding<|SU hh ht h
end
def mU(K:Frag)(n:Nat)(t:jR):TG:=fun v σ H Q=> ∃a xs,v= .ref a/\(aG K H a xs\/aq K H a xs)/\xs.length=n/\t xs σ H Q
theorem F7{X:Cx}{es:List Expr}{k:Nat}{t:jR}{n:Nat}{pos:Pos}(hc:X.calm=true)(h:qi X es t)
  (hn:(assignEach es X.env).length=n) (jS:(assignEach es X.env).findIdx? (·.1)=none):PG X (.Tuple es k pos) (mU X.K n t):=by
 intro pins s σ H v u Q I r hw
 obtain⟨a,xs,e1,hq,hl,hw⟩:=hw
 rcases hq with hq | hq
 ·exact DN hc h hn jS pins s σ H v u Q I r ⟨a,xs,e1,hq,hl,hw⟩
 ·subst e1
  cases r
  obtain⟨ak,rv,ht,hz⟩:=I.list hq
  refine SX (I.ok.hd hc) ht.isList (by simp[hn,<-hl,rv.length]) jS fun h' hx=> ?_
  have I1:Inv X pins σ H {s with heap:=h'}:=I.kept (t':=s.toks) fun b o e=>hx b o (zan<|Heap.lt_size e) e
  exact h pins _ σ H xs _ Q I1 (by simpa using rv) hw
def lE:List Nat->jR
 | []=>yy
 | i::r=>uN (fE i) (lE r)
def S0(to:TE)(tl th:TO):TG:=fun v σ H Q=>to σ H fun o H1=>tl σ H1 fun i H2=>th σ H2 fun j H3=> ∃l b xs ys a c,o= .ref l/\v= .ref b/\i=some a/\j=some c/\H3 l=some (.lst xs)/\H3 b=some (.lst ys)/\l≠b/\
 0<=a/\a<=c/\c<=xs.length/\xs.length+ys.length<=sizeLine/\Q σ (upd H3 l<|.lst<|xs.take a.toNat++ys++xs.drop c.toNat)
mutual
def cR(Γ:aQ):RS->TS
 | .asg i e=>js (af Γ e) (fE i)
 | .vz i e=>js (af Γ e) (fE i)
 | .set o ix e=>js (af Γ e) (DO (af Γ o) (af Γ ix) yV)
 | .dput o i e=>EN (af Γ o) (af Γ i) (af Γ e)
 | .drop e=>DH (af Γ e)
 | .ret e=>DI (af Γ e)
 | .Rl=>Ni
 | .ite c t e=>DJ (bu Γ c) (ax Γ t) (ax Γ e)
 | .jy i k ak body=>uO (ij Γ k ak) (fE i) (ax Γ body)
 | .k_ is k ak body=>uO (ij Γ k ak) (mU Γ.K is.length<|lE is) (ax Γ body)
 | .lA c body=>DQ (bu Γ c) (ax Γ body)
 | .pass=>yw
 | .brk=>Nd
 | .cont=>DG
 | .never=>Nk
 | .Rm o lo hi e=>js (af Γ e) (S0 (af Γ o) (ow<|af Γ lo)<|ow<|af Γ hi)
 | .fW o f e=>yI Γ.K (af Γ o) (af Γ e) f
 | .sE is e=>js (af Γ e) (mU Γ.K is.length<|lE is)
 | .iX j as=>zy (Γ.ex j) Γ.E (aY Γ as)
 | .Rn n i j body su=>fun D σ H=> ∃C,Γ.gv j= .ref C/\Q9 Γ.K C i n (fun E=>ax {Γ with E:=E} body) (fun ea=>ax {Γ with E:=E0,hv:=some ea} su) D σ H
 | .Ro k i j f as su=>fun D σ H=> ∃C,Γ.gv j= .ref C/\Ra Γ.K C i k (Γ.fs f) (aY {Γ with E:=E0} as) (fun ea=>ax {Γ with E:=E0,hv:=some ea} su) D σ H
def ax(Γ:aQ):List RS->TS
 | []=>yw
 | s::r=>DF (cR Γ s) (ax Γ r)
end
def sN:Expr->Bool
 | .Slice ..=>false | _=>true
def sO:Expr->Bool
 | .ListComp ..=>false | .SetComp ..=>false | .DictComp ..=>false | _=>true
def F8(sc:Scope)(x:Str)(line:Nat)(s:Scope)(p:Pos):Bool:=
 decide (sc.kind= .function) && decide (sc.names.lookup x=some .local) && (line==p.line) && !(s.names.any fun(n,k)=>n==x && (k== .local || k== .cell))
def oM(N:List Str)(sc:Scope):List Nat->List Str->Bool
 | [],xs=>xs.isEmpty
 | i::r,xs=>match xs with
  | []=>false
  | x::t=>decide (N[i]?=some x) && loc sc x && oM N sc r t
structure gj (CX:bN) (S:cz) (Γ:aQ) (X:Cx):Prop extends Good CX S Γ X where
 nd:S.N.Nodup
 vN: ∀x,X.fn x=true
 own:PassesOwn (model X.prog X.w) X.A X.env X.xe
 F9:X.env.scope.kind= .function
 rs: ∀(j:Nat) (x:Str),S.en[j]?=some x->Raises X Γ.E
 rJ:X.stack=X.env::X.outer
 oK:X.env.frame=some X.env.locals
 S7:X.ex=[]
 S9:CX=gH X.prog X.w
def qV(S:cz)(i:Nat)(x:Str):Bool:=decide (S.N[i]?=some x) && zE S.sc x && !(x==("__debug__":Str)) && !(x==("__classdict__":Str))
def kG(S:cz)(j:Nat)(x:Str):Bool:=decide (S.gn[j]?=some x) && mR S.sc x && !(x==("__debug__":Str))
def kF(S:cz)(j:Nat)(x:Str):Bool:=decide (S.fn[j]?=some x) && mR S.sc x && !(x==("__debug__":Str))
def kK(S:cz)(j:Nat)(x:Str):Bool:=decide (S.kn[j]?=some x) && mR S.sc x && !(x==("__debug__":Str))
def kB(S:cz)(x y:Str):Bool:=decide (x=y) && mR S.sc x && S.bl.contains x
def kM(o:Expr)(m:Str)(x:Str)(n:Nat)(a c:Pos):Bool:=decide (x=m) && mS o && (a.endLine==c.line) && decide (n<29)
def kL(S:cz)(i:Nat)(x:Str):Bool:=decide (S.N[i]?=some x) && loc S.sc x
section
variable {CX:bN} {S:cz} {Γ:aQ} {X:Cx} {e e2 a b c d:Expr} {es:List Expr} {x:Str} {p q pos:Pos} {r ra rb rc:RE} {rs:List RE} {i j:Nat}
theorem aa(G:Good CX S Γ X)(h:qV S i x=true:=by kernel_rfl):PE X (.Name x p) (af Γ<|.v i):=by
 simp only[qV,zah,decide_eq_true_eq,zaZ] at h
 exact MZ (by rw[G.N];exact h.1.1.1) (by rw[G.sc];exact RA h.1.1.2) h.1.2 h.2
theorem az{v:Int}{k:Nat}:PE X (.Constant (.int v) k p) (af Γ<|.c<|.int v):=M0
theorem aD{v:Str}{k:Nat}:PE X (.Constant (.str v) k p) (af Γ<|.c<|.str v):=M4
theorem gJ{v:Bool}{k:Nat}:PE X (.Constant (.bool v) k p) (af Γ<|.c<|.bl v):=M1
theorem lG{k:Nat}:PE X (.Constant .none k p) (af Γ<|.c .aC):=M3
theorem F_(G:Good CX S Γ X)(h:kG S j x=true:=by kernel_rfl):PE X (.Name x p) (af Γ<|.g j):=by
 simp only[kG,zah,decide_eq_true_eq,zaZ] at h
 obtain⟨u,hm,r⟩:=G.gh j x h.1.1
 exact Dz (G.gl h.1.2) hm r h.2
theorem aP{op:Operator}(G:Good CX S Γ X)(ha:PE X a (af Γ ra))(hb:PE X b (af Γ rb)):PE X (.BinOp a op b p) (af Γ<|.bin op ra rb):=by
 show PE X _ (eW (qr Γ.K op) (af Γ ra)<|af Γ rb)
 rw[<-G.K]
 exact NA (QF op) ha hb
theorem iq(ha:PE X a (af Γ ra)):PE X (.UnaryOp .USub a p) (af Γ<|.neg ra):=NB SJ ha
theorem gK{op:CmpOp}(G:Good CX S Γ X)(ha:PE X a (af Γ ra))(hb:PE X b (af Γ rb))(hm:behindInMarks op b=false:=by kernel_rfl):PE X (.Compare a [op] [b] p) (af Γ<|.cmp op ra rb):=by
 show PE X _ (eW (cY Γ.K op) (af Γ ra)<|af Γ rb)
 rw[<-G.K]
 exact NY (vx G.units op) ha hb hm
theorem S_{op fR:CmpOp}(G:Good CX S Γ X)(ha:PE X a (af Γ ra))(hb:PE X b (af Γ rb))(hc:PE X c (af Γ rc))(hm:lastMarks [op,fR] [b,c]=false:=by kernel_rfl):PE X (.Compare a [op,fR] [b,c] p) (af Γ<|.sD op fR ra rb rc):=by
 show PE X _ (uU (cY Γ.K op) (cY Γ.K fR) (af Γ ra) (af Γ rb)<|af Γ rc)
 rw[<-G.K]
 exact N1 (vx G.units op) (vx G.units fR) ha hb hc hm
theorem jD(h:PE X e (af Γ r)):PE X (.BoolOp .And [e] p) (af Γ<|.and [r]):=M8 h
theorem ir{r2:RE}(h:PE X e (af Γ r))(t:PE X (.BoolOp .And (e2::es) p) (af Γ<|.and (r2::rs))):PE X (.BoolOp .And (e::e2::es) p) (af Γ<|.and (r::r2::rs)):=M9 h t
theorem Aa(G:Good CX S Γ X)(ha:PE X a (af Γ ra)):PE X (.UnaryOp .Not a p) (af Γ<|.not ra):=by
 show PE X _ (zB Γ.K<|af Γ ra)
 rw[<-G.K]
 exact SK ha
theorem qx(hc:PT X c (bu Γ rc))(ha:PE X a (af Γ ra))(hb:PE X b (af Γ rb)):PE X (.IfExp c a b p) (af Γ<|.iW rc ra rb):=M_ hc ha hb
theorem ao:PA X [] (aY Γ []):=uY
theorem aj(h:PE X e (af Γ r))(t:PA X es (aY Γ rs))(hs:noStar e=true:=by kernel_rfl):PA X (e::es) (aY Γ (r::rs)):=ql h t (e_ hs)
theorem bq(G:Good CX S Γ X)(hA:PA X (e::es) (aY Γ (r::rs)))(h:kF S j x=true:=by kernel_rfl)(hn:gi (e::es)=true:=by kernel_rfl)(hq:S.md=0:=by rfl):PE X (.Call (.Name x p) (e::es) [] pos) (af Γ<|.call j (r::rs)):=by
 simp only[kF,zah,decide_eq_true_eq,zaZ] at h
 obtain⟨k,f,fd,ps,F,hr,hm,hk,hb⟩:=G.fns hq j x h.1.1
 exact Oy F hr (G.gl h.1.2) hm hk hb .nil G.pass hA h.2 (e_ (eI hn).1)<|j5 _ _ es (eI hn).2
theorem Ga(G:Good CX S Γ X)(hA:PA X (e::es) (aY Γ (r::rs)))(h:kK S j x=true:=by kernel_rfl)(hn:gi (e::es)=true:=by kernel_rfl)(hq:S.md=0:=by rfl):PE X (.Call (.Name x p) (e::es) [] pos) (af Γ<|.make j (r::rs)):=by
 simp only[kK,zah,decide_eq_true_eq,zaZ] at h
 obtain⟨k,f,fd,ps,M,F,hr,hm,hb⟩:=G.vJ hq j x h.1.1
 exact OA M F hr (G.gl h.1.2) hm hb .nil G.pass hA h.2 (e_ (eI hn).1)<|j5 _ _ es (eI hn).2
theorem bO{t:kZ}(G:Good CX S Γ X)(hA:PA X (e::es) (aY Γ (r::rs)))(h:kB S x t.nm=true:=by kernel_rfl)(hn:gi (e::es)=true:=by kernel_rfl)(hq:S.md=0:=by rfl):PE X (.Call (.Name x p) (e::es) [] pos) (af Γ<|.blt t (r::rs)):=by
 simp only[kB,zah,decide_eq_true_eq] at h
 obtain⟨⟨rfl,h2⟩,h3⟩:=h
 have n1:t.nm≠"__name__":=by cases t<;>decide
 have n2:(t.nm==("__debug__":Str))=false:=by cases t<;>decide
 show PE X _ (gg (mO Γ.K t)<|aY Γ (r::rs))
 rw[<-G.K]
 cases Sl (X:=X) (G.calm hq) t with
 | fn id hv hc=>exact Ek hc (G.gl h2) (G.ik _ h3) hv hA n1 n2 (e_ (eI hn).1) (j5 _ _ es (eI hn).2)
 | ty T hv hc=>exact OG hc (G.gl h2) (G.ik _ h3) hv hA n1 n2 (e_ (eI hn).1) (j5 _ _ es (eI hn).2)
theorem iY{T:Ty}{y:Str}(G:Good CX S Γ X)(ha:PE X a (af Γ ra))(h:kB S x "isinstance"=true:=by kernel_rfl)(h2:kB S y (Str.ofString T.nm)=true:=by kernel_rfl)(hs:noStar a=true:=by kernel_rfl):PE X (.Call (.Name x p) [a, .Name y q] [] pos) (af Γ<|.dW T ra):=by
 simp only[kB,zah,decide_eq_true_eq] at h h2
 obtain⟨⟨rfl,g2⟩,g3⟩:=h
 obtain⟨⟨rfl,k2⟩,k3⟩:=h2
 exact SD ha hs (G.gl g2) (G.ik _ g3) (G.gl k2)<|G.ik _ k3
theorem qy{m:hJ}{o:Expr}{ro:RE}{ap:Pos}(G:Good CX S Γ X)(ho:PE X o (af Γ ro))(h:kM o m.nm x 0 ap pos=true:=by kernel_rfl):PE X (.Call (.Attribute o x ap) [] [] pos) (af Γ<|.bg m ro []):=by
 simp only[kM,zah,decide_eq_true_eq] at h
 obtain⟨⟨⟨rfl,h2⟩,h3⟩, -⟩:=h
 show PE X _ (qt Γ.K m (af Γ ro) iR)
 rw[<-G.K]
 exact SN ho h2 h3
theorem cA{m:hJ}{o:Expr}{ro:RE}{ap:Pos}(G:Good CX S Γ X)(ho:PE X o (af Γ ro))(hA:PA X (e::es) (aY Γ (r::rs)))(h:kM o m.nm x (es.length+1) ap pos=true:=by kernel_rfl)(hn:gi (e::es)=true:=by kernel_rfl):PE X (.Call (.Attribute o x ap) (e::es) [] pos) (af Γ<|.bg m ro (r::rs)):=by
 simp only[kM,zah,decide_eq_true_eq] at h
 obtain⟨⟨⟨rfl,h2⟩,h3⟩,h4⟩:=h
 show PE X _ (qt Γ.K m (af Γ ro)<|aY Γ (r::rs))
 rw[<-G.K]
 exact SM ho hA h2 h3 h4 (e_ (eI hn).1) (j5 _ _ es (eI hn).2)<|zX _ _ (e::es) hn
theorem bP{f:Str}{ro:RE}(G:Good CX S Γ X)(ho:PE X a (af Γ ro))(h:mS a=true:=by kernel_rfl):PE X (.Attribute a f p) (af Γ<|.fld ro f):=by
 show PE X _ (uX Γ.K (af Γ ro) f)
 rw[<-G.K]
 exact Oo ho<|oB h
theorem j6{m:Str}{o:Expr}{ro:RE}{ap:Pos}(G:Good CX S Γ X)(ho:PE X o (af Γ ro))(h:(kM o m m 0 ap pos && decide (S.mn[j]?=some m))=true:=by kernel_rfl)(hq:S.md=0:=by rfl):PE X (.Call (.Attribute o m ap) [] [] pos) (af Γ<|.bK j m ro []):=by
 simp only[kM,zah,decide_eq_true_eq] at h
 obtain⟨⟨⟨⟨-,h2⟩,h3⟩, -⟩,h5⟩:=h
 exact SR (G.sL hq j _ h5) G.pass ho h2 h3
theorem fK{m:Str}{o:Expr}{ro:RE}{ap:Pos}(G:Good CX S Γ X)(ho:PE X o (af Γ ro))(hA:PA X (e::es) (aY Γ (r::rs)))(h:(kM o m m (es.length+1) ap pos && decide (S.mn[j]?=some m))=true:=by kernel_rfl)(hn:gi (e::es)=true:=by kernel_rfl)(hq:S.md=0:=by rfl):PE X (.Call (.Attribute o m ap) (e::es) [] pos) (af Γ<|.bK j m ro (r::rs)):=by
 simp only[kM,zah,decide_eq_true_eq] at h
 obtain⟨⟨⟨⟨-,h2⟩,h3⟩,h4⟩,h5⟩:=h
 exact SQ (G.sL hq j _ h5) G.pass ho hA h2 h3 h4 (e_ (eI hn).1) (j5 _ _ es (eI hn).2)<|zX _ _ (e::es) hn
theorem Ta(h:sN b=true):Es b:=fun o i=>by cases b<;>first | rfl | cases h
theorem aM(G:Good CX S Γ X)(ha:PE X a (af Γ ra))(hb:PE X b (af Γ rb))(h:sN b=true:=by kernel_rfl):PE X (.Subscript a b p) (af Γ<|.ix ra rb):=by
 show PE X _ (eW (mP Γ.K Γ.sd) (af Γ ra)<|af Γ rb)
 rw[<-G.K]
 exact OT (Sr G.vI) ha hb<|Ta h
theorem Tb(h:sN b=true):zh b:=fun ov iv=>by cases b<;>first | rfl | cases h
theorem bT(G:Good CX S Γ X)(ha:PE X a (af Γ ra))(hb:PE X b (af Γ rb))(h:sN b=true:=by kernel_rfl):PE X (.Subscript a b p) (af Γ<|.bh ra rb):=
 PV (by have:=G.units;lia) ha hb (Tb h)
theorem iZ{lo hi:Option Expr}{rl rh:Option RE}(G:Good CX S Γ X)(ha:PE X a (af Γ ra))(hl:PO X lo (mQ Γ rl))(hh:PO X hi (mQ Γ rh)):PE X (.Subscript a (.Slice lo hi none q) p) (af Γ<|.sl ra rl rh):=by
 show PE X _ (yR (qu Γ.K) (af Γ ra) (mQ Γ rl)<|mQ Γ rh)
 rw[<-G.K]
 exact OP SH ha hl hh
theorem qz:PO X none (mQ Γ none):=u9
theorem fN(ha:PE X a (af Γ ra)):PO X (some a) (mQ Γ<|some ra):=u_ ha
theorem dQ{k}(hA:PA X es (aY Γ rs)):PE X (.Tuple es k p) (af Γ<|.tup rs):=Ov hA
theorem bU(hA:PA X es (aY Γ rs)):PE X (.List es p) (af Γ<|.lst rs):=Ow hA
def vO(CX:bN)(S:cz)(Γ:aQ)(cond:Option RE)(ifs:List Expr):Prop:=match cond with
 | none=>ifs=[]
 | some r=> ∃e0,ifs=[e0]/\ ∀X,Good CX S Γ X->PT X e0 (bu Γ r)
theorem vP:vO CX S Γ none []:=rfl
theorem sQ(h: ∀X,Good CX S Γ X->PT X e (bu Γ r)):vO CX S Γ (some r) [e]:=⟨e,rfl,h⟩
def kC(S:cz)(tk:Option Nat)(tg iter:Expr)(sc:Scope)(k:IK)(ln:List Str)(fv:List (Str×Nat)):Bool:=decide (zH tk tg=some ln) && (decide (k≠ .zip) || tk.isSome) && zI S ⟨.Constant .none 0 ⟨0,0,0,0⟩,tg,iter,[],sc⟩ ln fv
abbrev cS(S:cz)(sc:Scope)(ln:List Str)(fv:List (Str×Nat)):cz:={S with N:=ln++fv.map (·.1),sc:=zG sc S.sc,en:=[],md:=if S.md=0 then 0 else 2}
theorem mV{tk:Option Nat}{fv:List (Str×Nat)}{k:IK}{ak:List RE}{cond:Option RE}{elt:RE}{el tg iter:Expr}{ifs:List Expr}{sc:Scope}{ln:List Str}(G:Good CX S Γ X)(h:kC S tk tg iter sc k ln fv=true)(hi:PI X tg iter (ij Γ k ak))
  (hc:vO CX (cS S sc ln fv) Γ.calm cond ifs) (he: ∀X,Good CX (cS S sc ln fv) Γ.calm X->PE X el (af Γ.calm elt)) (hq:S.md=0:=by rfl):PE X (.ListComp el [⟨tg,iter,ifs,0⟩] sc p) (af Γ<|.comp tk fv k ak cond elt):=by
 simp only[kC,zah,decide_eq_true_eq] at h
 obtain⟨⟨h1,h2⟩,h3⟩:=h
 obtain⟨o1,o2,o3,o4⟩:=FQ (c:=⟨.Constant .none 0 ⟨0,0,0,0⟩,tg,iter,[],sc⟩) G h3
 show PE X _ (oG Γ.K (ij Γ k ak) tk fv (zD Γ.calm cond)<|af Γ.calm elt)
 rw[<-G.K]
 refine Qw o1 (G.calm hq) hi (FR (c:=⟨.Constant .none 0 ⟨0,0,0,0⟩,tg,iter,[],sc⟩) (G.calm hq) h1 o2 o3) ?_ (fun ex C s H=>he _<|G.inner ⟨.Constant .none 0 ⟨0,0,0,0⟩,tg,iter,[],sc⟩ ln fv ex C s H)<|vL o4
 cases cond with
 | none=>exact hc
 | some r=>
  obtain⟨e0,q,hq⟩:=hc
  exact⟨e0,q,fun ex C s H=>hq _<|G.inner ⟨.Constant .none 0 ⟨0,0,0,0⟩,tg,iter,[],sc⟩ ln fv ex C s H⟩
theorem gL(h:PT X a (bu Γ ra)):PT X (.UnaryOp .Not a p) (bu Γ<|.not ra):=M6 h
theorem mW(h:PT X e (bu Γ r)):PW X (.BoolOp .And [e] p) (bu Γ<|.and [r]):=pw_and1 h
theorem j7{r2:RE}(h:PT X e (bu Γ r))(t:PW X (.BoolOp .And (e2::es) p) (bu Γ<|.and (r2::rs))):PW X (.BoolOp .And (e::e2::es) p) (bu Γ<|.and (r::r2::rs)):=pw_and h t
theorem mX(h:PT X e (bu Γ r)):PW X (.BoolOp .Or [e] p) (bu Γ<|.or [r]):=pw_or1 h
theorem j8{r2:RE}(h:PT X e (bu Γ r))(t:PW X (.BoolOp .Or (e2::es) p) (bu Γ<|.or (r2::rs))):PW X (.BoolOp .Or (e::e2::es) p) (bu Γ<|.or (r::r2::rs)):=pw_or h t
theorem aW{op:CmpOp}(G:Good CX S Γ X)(ha:PE X a (af Γ ra))(hb:PE X b (af Γ rb))(hm:behindInMarks op b=false:=by kernel_rfl):PT X (.Compare a [op] [b] p) (bu Γ<|.cmp op ra rb):=by
 show PT X _ (qk<|eW (cY Γ.K op) (af Γ ra)<|af Γ rb)
 rw[<-G.K]
 exact NZ (vx G.units op) ha hb hm
theorem i5(G:Good CX S Γ X)(h:PE X (.Call a es [] p) (af Γ<|.call j rs)):PT X (.Call a es [] p) (bu Γ<|.call j rs):=by
 show PT X _ (gG Γ.K<|af Γ<|.call j rs)
 rw[<-G.K]
 exact F4 h fun _=>rfl
theorem sR{T:Ty}(G:Good CX S Γ X)(h:PE X (.Call a es [] p) (af Γ<|.dW T ra)):PT X (.Call a es [] p) (bu Γ<|.dW T ra):=by
 show PT X _ (gG Γ.K<|af Γ<|.dW T ra)
 rw[<-G.K]
 exact F4 h fun _=>rfl
theorem gM{tg:Expr}(G:Good CX S Γ X)(ha:PE X a (af Γ ra)):PI X tg a (ij Γ .list [ra]):=by
 show PI X tg a (yB Γ.K<|af Γ ra)
 rw[<-G.K]
 exact Nu ha
theorem vQ{tg:Expr}(G:Good CX S Γ X)(ha:PE X a (af Γ ra))(h:kB S x "range"=true:=by kernel_rfl)(hs:noStar a=true:=by kernel_rfl):PI X tg (.Call (.Name x p) [a] [] pos) (ij Γ .gX [ra]):=by
 simp only[kB,zah,decide_eq_true_eq] at h
 obtain⟨⟨rfl,h2⟩,h3⟩:=h
 exact Nx (G.gl h2) (G.ik _ h3) (ql ha uY<|e_ hs)<|e_ hs
theorem Gb{ts:List Expr}{k}{tp:Pos}(G:Good CX S Γ X)(ha:PE X a (af Γ ra))(hb:PE X b (af Γ rb))(h:kB S x "zip"=true:=by kernel_rfl)(hn:gi [a,b]=true:=by kernel_rfl):PI X (.Tuple ts k tp) (.Call (.Name x p) [a,b] [] pos) (ij Γ .zip [ra,rb]):=by
 simp only[kB,zah,decide_eq_true_eq] at h
 obtain⟨⟨rfl,h2⟩,h3⟩:=h
 show PI X _ _ (zC Γ.K<|dU (af Γ ra)<|aY Γ [rb])
 rw[<-G.K]
 exact RK (G.gl h2) (G.ik _ h3) (ql ha (ql hb uY<|e_ (eI (eI hn).2).1)<|e_ (eI hn).1) (e_ (eI hn).1)<|j5 _ _ _ (eI hn).2
end
section
variable {CX:bN} {S:cz} {Γ:aQ} {X:Cx} {e a b c v:Expr} {es:List Expr} {x:Str} {p q pos:Pos} {r ra rb rc:RE} {i j:Nat} {st:Stmt} {Gd:List Stmt} {s:RS} {ss t u:List RS}
theorem vR{v:Expr}{t:Option Expr}{l:Nat}{env:Env}(h:sO v=true):swapsWith v t l env=pure false:=by
 cases v<;>first | rfl | cases h
theorem Tc{v:Expr}{x:Str}{p:Pos}{l:Nat}{env:Env}(h:env.kindOf x=some .cell):swapsWith v (some<|.Name x p) l env=pure false:=by
 cases v<;>first
  | rfl
  | (unfold swapsWith;simp only[h];have q:(some NameKind.cell==some NameKind.local)=false:=rfl;simp only[q,Bool.and_false,Bool.false_and])
theorem Ge{v o i:Expr}{p:Pos}{l:Nat}{env:Env}:swapsWith v (some<|.Subscript o i p) l env=pure false:=by
 cases v<;>rfl
theorem Td{v o i:Expr}{p:Pos}{env:Env}:swappedStores [.Subscript o i p] v env=pure none:=by
 cases v<;>rfl
theorem gj.name(G:gj CX S Γ X)(h:kL S i x=true):PG X (.Name x p) (fE i):=by
 simp only[kL,zah,decide_eq_true_eq] at h
 exact uM (by rw[G.N];exact G.nd) (by rw[G.N];exact h.1) (by rw[G.sc];exact zF h.2)<|.inl<|G.vN x
theorem av:eV X [] (ax Γ []):=Nb
theorem ah(h:PS X st (cR Γ s))(t:eV X Gd (ax Γ ss)):eV X (st::Gd) (ax Γ (s::ss)):=Nc h t
theorem aO(G:gj CX S Γ X)(he:PE X v (af Γ r))(h:kL S i x=true:=by kernel_rfl)(hc:(sO v || decide (S.sc.names.lookup x=some .cell))=true:=by kernel_rfl):PS X (.Assign [.Name x p] v q) (cR Γ<|.asg i r):=by
 simp only[kL,zah,decide_eq_true_eq,Bool.or_eq_true] at h hc
 refine Nm (by rw[G.N];exact G.nd) (by rw[G.N];exact h.1) (by rw[G.sc];exact zF h.2) he ?_<|.inl<|G.vN x
 rcases hc with h4 | h4
 ·exact vR h4
 ·exact Tc (by show X.env.scope.names.lookup x=_;rw[G.sc];exact h4)
theorem Te{tk:Option Nat}{fv:List (Str×Nat)}{k:IK}{ak:List RE}{cond:Option RE}{elt:RE}{el tg iter:Expr}{ifs:List Expr}{sc:Scope}{ln:List Str}{pc:Pos}(G:gj CX S Γ X)(h0:kL S i x=true)(hs:F8 S.sc x p.line sc pc=true)(h:kC S tk tg iter sc k ln fv=true)(hi:PI X tg iter (ij Γ k ak))
  (hc:vO CX (cS S sc ln fv) Γ.calm cond ifs) (he: ∀X,Good CX (cS S sc ln fv) Γ.calm X->PE X el (af Γ.calm elt)) (hq:S.md=0:=by rfl):PS X (.Assign [.Name x p] (.ListComp el [⟨tg,iter,ifs,0⟩] sc pc) q) (cR Γ<|.vz i<|.comp tk fv k ak cond elt):=by
 simp only[kC,kL,F8,zah,decide_eq_true_eq,beq_iff_eq,zaZ] at h h0 hs
 obtain⟨⟨h1,h2⟩,h3⟩:=h
 obtain⟨o1,o2,o3,o4⟩:=FQ (c:=⟨.Constant .none 0 ⟨0,0,0,0⟩,tg,iter,[],sc⟩) G.toGood h3
 show PS X _ (js (oG Γ.K (ij Γ k ak) tk fv (zD Γ.calm cond)<|af Γ.calm elt)<|fE i)
 rw[<-G.K]
 refine Qx (by rw[G.N];exact G.nd) (by rw[G.N];exact h0.1) (by rw[G.sc];exact zF h0.2) ?_ o1 (G.calm hq) hi (FR (c:=⟨.Constant .none 0 ⟨0,0,0,0⟩,tg,iter,[],sc⟩) (G.calm hq) h1 o2 o3) ?_ (fun ex C s H=>he _<|G.toGood.inner ⟨.Constant .none 0 ⟨0,0,0,0⟩,tg,iter,[],sc⟩ ln fv ex C s H) (vL o4)<|.inl<|G.vN x
 ·have e1:X.env.kindOf x=some .local:=by show X.env.scope.names.lookup x=_;rw[G.sc];exact hs.1.1.2
  have e2:X.env.blockKind= .function:=by unfold Env.blockKind;rw[G.F9];rfl
  unfold swapsWith
  simp only[e1,e2,hs.1.2,hs.2]
  show pure (true && true && (pc.line==pc.line) && !false)=pure true
  rw[beq_self_eq_true];rfl
 ·cases cond with
  | none=>exact hc
  | some r=>
   obtain⟨e0,q,hq⟩:=hc
   exact⟨e0,q,fun ex C s H=>hq _<|G.toGood.inner ⟨.Constant .none 0 ⟨0,0,0,0⟩,tg,iter,[],sc⟩ ln fv ex C s H⟩
theorem qA(he:PE X v (af Γ r))(ha:PE X a (af Γ ra))(hb:PE X b (af Γ rb))(h:sN b=true:=by kernel_rfl):PS X (.Assign [.Subscript a b p] v q) (cR Γ<|.set ra rb r):=
 DP he (Nl ha hb set_list (by intro w;cases b<;>first | rfl | cases h)) (by exact Ge (o:=a) (i:=b) (p:=p) (l:=q.line) (env:=X.env)) Td rfl
theorem vS(G:gj CX S Γ X)(he:PE X v (af Γ r))(ha:PE X a (af Γ ra))(hb:PE X b (af Γ rb)):PS X (.Assign [.Subscript a b p] v q) (cR Γ<|.dput ra rb r):=
 PX (by have:=G.toGood.units;lia) ha hb he (by exact Ge (o:=a) (i:=b) (p:=p) (l:=q.line) (env:=X.env))
theorem hU{f:Str}(G:gj CX S Γ X)(ho:PE X a (af Γ ra))(he:PE X v (af Γ r))(h:sO v=true:=by kernel_rfl):PS X (.Assign [.Attribute a f p] v q) (cR Γ<|.fW ra f r):=by
 show PS X _ (yI Γ.K (af Γ ra) (af Γ r) f)
 rw[<-G.K]
 exact Oq ho he<|vR h
theorem bJ(he:PE X v (af Γ r))(h:sO v=true:=by kernel_rfl):PS X (.Expr v p) (cR Γ<|.drop r):=Ng he (vR h)
theorem bc(he:PE X v (af Γ r)):PS X (.Return (some v) p) (cR Γ<|.ret r):=Nh he
theorem bw{as bs:List Stmt}(hc:PT X c (bu Γ rc))(ha:eV X as (ax Γ t))(hb:eV X bs (ax Γ u)):PS X (.If c as bs p) (cR Γ<|.ite rc t u):=Nj hc ha hb
theorem qB{as:List Stmt}(G:gj CX S Γ X)(hc:PT X c (bu Γ rc))(ha:eV X as (ax Γ t)):PS X (.While c as [] p) (cR Γ<|.lA rc t):=Nn G.own hc ha
theorem oN{k:IK}{ak:List RE}{iter:Expr}{as:List Stmt}(G:gj CX S Γ X)(hi:PI X (.Name x p) iter (ij Γ k ak))(ha:eV X as (ax Γ t))(h:kL S i x=true:=by kernel_rfl)(hs:sJ iter=true:=by kernel_rfl)(hq:S.md=0:=by rfl):PS X (.For (.Name x p) iter as [] q) (cR Γ<|.jy i k ak t):=
 DU G.own (G.calm hq) hi (G.name h) ha (vL hs)
theorem Ab(G:gj CX S Γ X): ∀(is:List Nat) (xs:List (Str×Pos)),oM S.N S.sc is (xs.map (·.1))=true->
  qi X (xs.map fun y=> .Name y.1 y.2) (lE is)/\(assignEach (xs.map fun y=>Expr.Name y.1 y.2) X.env).length=is.length/\(assignEach (xs.map fun y=>Expr.Name y.1 y.2) X.env).findIdx? (·.1)=none
 | [],xs,h=>by
  simp only[oM,List.isEmpty_iff,List.map_eq_nil_iff] at h
  subst h;exact⟨DL,rfl,rfl⟩
 | i::r,[],h=>by simp only[zbd,oM] at h;cases h
 | i::r,y::t,h=>by
  simp only[zay,oM,zah] at h
  obtain⟨i1,i2,i3⟩:=Ab G r t h.2
  refine⟨yz (G.name (by simp only[kL,zah];exact h.1)) i1 rfl, ?_, ?_⟩
  ·show(assignEach _ X.env).length+1=r.length+1
   rw[i2]
  ·show List.findIdx? (·.1) ((false,assign (.Name y.1 y.2) X.env)::assignEach _ X.env)=none
   rw[List.findIdx?_cons,i3];rfl
theorem sS{is:List Nat}{k:IK}{ak:List RE}{iter:Expr}{as:List Stmt}{kt}{tp:Pos}(xs:List (Str×Pos))(G:gj CX S Γ X)(hi:PI X (.Tuple (xs.map fun y=> .Name y.1 y.2) kt tp) iter (ij Γ k ak))(ha:eV X as (ax Γ t))(h:oM S.N S.sc is (xs.map (·.1))=true:=by kernel_rfl)(hs:sJ iter=true:=by kernel_rfl)(hq:S.md=0:=by rfl):
  PS X (.For (.Tuple (xs.map fun y=> .Name y.1 y.2) kt tp) iter as [] q) (cR Γ<|.k_ is k ak t):=by
 obtain⟨i1,i2,i3⟩:=Ab G is xs h
 show PS X _ (uO (ij Γ k ak) (mU Γ.K is.length<|lE is)<|ax Γ t)
 rw[<-G.K]
 exact DU G.own (G.calm hq) hi (F7 (G.calm hq) i1 i2 i3) ha<|vL hs
def Tf:Expr->Bool
 | .Tuple ..=>false | _=>true
theorem Tg{is:List Nat}{kt}{tp:Pos}(xs:List (Str×Pos))(G:gj CX S Γ X)(he:PE X v (af Γ r))(h:oM S.N S.sc is (xs.map (·.1))=true:=by kernel_rfl)(hc:(sO v && Tf v)=true:=by kernel_rfl)(hq:S.md=0:=by rfl):
  PS X (.Assign [.Tuple (xs.map fun y=> .Name y.1 y.2) kt tp] v q) (cR Γ<|.sE is r):=by
 simp only[zah] at hc
 obtain⟨i1,i2,i3⟩:=Ab G is xs h
 show PS X _ (js (af Γ r)<|mU Γ.K is.length<|lE is)
 rw[<-G.K]
 refine DP he (F7 (G.calm hq) i1 i2 i3) (by show swapsWith v (some<|.Tuple (xs.map fun y=>Expr.Name y.1 y.2) kt tp) q.line X.env=pure false;exact vR hc.1) ?_ rfl
 have h2:=hc.2
 cases v<;>first | rfl | cases h2
def kX(S:cz)(j:Nat)(x:Str):Bool:=decide (S.en[j]?=some x) && mR S.sc x && !(x==("__debug__":Str))
theorem j9{rs:List RE}{np dv:Pos}(G:gj CX S Γ X)(hA:PA X (e::es) (aY Γ (r::rs)))(h:kX S j x=true:=by kernel_rfl)(hn:gi (e::es)=true:=by kernel_rfl)(hq:S.md=0:=by rfl):PS X (.Raise (some<|.Call (.Name x np) (e::es) [] dv) none pos) (cR Γ<|.iX j (r::rs)):=by
 simp only[kX,zah,decide_eq_true_eq,zaZ] at h
 obtain⟨bm,B,newId,qw,O,FB⟩:=G.zU j x h.1.1
 exact R7 (G.calm hq) O FB (G.gl h.1.2) h.2 hA (e_ (eI hn).1) (j5 _ _ es (eI hn).2)<|G.rs j x h.1.1
theorem Th:PS X (.Continue p) (cR Γ .cont):=Nf
end
section
variable {P:Program} {w:World} {K:Frag} {mg:Str->Option Value} {base:Heap}
def j_(P:Program)(w:World)(K:Frag)(mg:Str->Option Value)(base:Heap)(k:Nat)(x:Str)(sp:Sp):Prop:=
 ∃f fd ps,cX P w K mg base (gH P w) k f fd ps sp/\mg x=some (.ref f)/\PySem.W.keepIn K (.ref f)=true/\Binds K fd ps []
theorem j_.mono{j k:Nat}{x:Str}{sp:Sp}(h:j_ P w K mg base j x sp)(hk:j<=k):j_ P w K mg base k x sp:=by
 obtain⟨f,fd,ps,F,r⟩:=h
 exact⟨f,fd,ps,F.mono hk,r⟩
def mY(tab:List (Str×Sp))(j:Nat):Sp:=match tab[j]? with
 | some p=>p.2
 | none=>fun _ _ _ _=>False
def vT(tab:List (Str×V))(j:Nat):V:=match tab[j]? with
 | some p=>p.2
 | none=> .aC
structure Ac (mg:Str->Option Value) (p:Str×V):Prop where
 ex: ∃u,mg p.1=some u/\RelV p.2 u
def ka(tab:List (Str×Addr×Sp))(j:Nat):Addr×Sp:=match tab[j]? with
 | some p=>p.2
 | none=> (0,fun _ _ _ _=>False)
def vU(tab:List (Str×Addr))(j:Nat):Addr:=match tab[j]? with
 | some p=>p.2
 | none=>0
abbrev aS(K:Frag)(tab:List (Str×Sp))(gt:List (Str×V))(dk:List (Addr×List (Key×V)):=[])(mt kt:List (Str×Addr×Sp):=[])(et:List (Str×Addr):=[])(ht:List (Str×Sp):=[])(E:XK:=E0):aQ:=
 {K:=K,fs:=mY tab,gv:=vT gt,E:=E,sd:=fun p kvs=> (p,kvs)∈dk,ms:=ka mt,kt:=ka kt,ex:=vU et,hs:=mY ht,hv:=none}
def kb(P:Program)(w:World)(K:Frag)(mg:Str->Option Value)(base:Heap)(k:Nat)(p:Str×Addr×Sp):Prop:=
 fF K p.2.1/\ ∃f fd ps,Meth K p.2.1 p.1 f/\cX P w K mg base (gH P w) k f fd ps p.2.2/\Binds K fd ps []
def oO(P:Program)(w:World)(K:Frag)(mg:Str->Option Value)(base:Heap)(k:Nat)(p:Str×Addr×Sp):Prop:=
 ∃j f fd ps,j+1<=k/\Mk K p.2.1 f/\cX P w K mg base (gH P w) j f fd ps p.2.2/\mg p.1=some (.ref p.2.1)/\Binds K fd ps []
theorem kb.mono{j k:Nat}{p:Str×Addr×Sp}(h:kb P w K mg base j p)(hk:j<=k):kb P w K mg base k p:=by
 obtain⟨c,f,fd,ps,m,F,b⟩:=h
 exact⟨c,f,fd,ps,m,F.mono hk,b⟩
theorem oO.mono{j k:Nat}{p:Str×Addr×Sp}(h:oO P w K mg base j p)(hk:j<=k):oO P w K mg base k p:=by
 obtain⟨i,f,fd,ps,m,r⟩:=h
 exact⟨i,f,fd,ps,zaw m hk,r⟩
def vV(P:Program)(w:World)(K:Frag)(q:Addr×List (Key×V)):Prop:= ∀h:Heap,K.In h-> ∃vs,KV q.2 vs/\h.DictOf (dF P w) q.1 vs
abbrev vW(N:List Str)(sc:Scope)(tab:List Str)(gt:List Str)(bl:List Str)(mn kn:List Str:=[])(en hn:List Str:=[])(md:Nat:=0):cz:={N:=N,sc:=sc,fn:=tab,gn:=gt,bl:=bl,mn:=mn,kn:=kn,en:=en,hn:=hn,md:=md}
def vX(mg:Str->Option Value)(base:Heap)(p:Str×Addr):Prop:= ∃bm B newId qw,OwnCls p.1 p.2 bm newId mg base/\ExcBaseFacts B newId qw bm
def Ad(P:Program)(w:World)(K:Frag)(mg:Str->Option Value)(base:Heap)(k:Nat)(x:Str)(sp:Sp):Prop:=
 ∃f fd ps,FJ P w K mg base k f fd ps sp/\mg x=some (.ref f)/\PySem.W.keepIn K (.ref f)=true/\Binds K fd ps []
theorem Ti{x qual:Str}{st:Stmt}{f:Addr}{fd:FuncData}{N ps:List Str}{k:Nat}{sp:Sp}(F:oC K x qual st f fd)(S:rP N ps (fV st))
  (tab:List (Str×Sp)) (gt:List (Str×V)) (bl:List Str) (mt kt:List (Str×Addr×Sp)) (et:List (Str×Addr)) (ht:List (Str×Sp)) (body:List RS)
  (hm: ∀{CX:bN} {Γ:aQ} {X:Cx},gj CX (vW N (fV st) (tab.map (·.1)) (gt.map (·.1)) bl (mt.map (·.1)) (kt.map (·.1)) (et.map (·.1)) (ht.map (·.1))) Γ X->eV X (fU st) (ax Γ body))
  (Ae: ∀p∈tab,j_ P w K mg base k p.1 p.2) (Af: ∀p∈gt,Ac mg p) (sT: ∀y∈bl,mg y=none) (dk:List (Addr×List (Key×V))) (Ag: ∀q∈dk,vV P w K q)
  (Ah: ∀p∈mt,kb P w K mg base k p) (Ai: ∀p∈kt,oO P w K mg base k p) (het: ∀p∈et,vX mg base p) (Aj: ∀p∈ht,Ad P w K mg base k p.1 p.2)
  (len: ∀vs H Q E,sp vs H Q E->vs.length=ps.length)
  (Ak: ∀vs H Q E,sp vs H Q E->ax (aS K tab gt dk mt kt et ht E) body {nx:=fun _ H'=>Q .aC H',rt:=Q} (start N vs) H):cX P w K mg base (gH P w) (k+1) f fd ps sp:=by
 obtain⟨oc,od,kV,doc,pm,an,bE,ct,ie,rfl,lk,jQ⟩:=F.ex
 refine OD lk jQ S len fun A outer s H vs Q E hr mG=> ⟨_,hm (CX:=gH P w) (Γ:=aS K tab gt dk mt kt et ht E) ?_,Ak vs H Q E mG⟩
 refine {N:=rfl,sc:=rfl,K:=rfl,calm:=fun _=>rfl,units:=hr.units,fns:=fun _ j y hj=> ?_,gh:=fun j y hj=> ?_,ik:=fun y hy=> ?_,pass:=R0,vH:=fun _ _ _ _ _ h=>FH h,vI:=fun p kvs h=>Ag _ h,sL:=fun _ j y hj=> ?_,vJ:=fun _ j y hj=> ?_,zU:=fun j y hj=> ?_,zV:=fun j y hj=> ?_,zW:=fun _ h=> (nomatch h),FP:=fun h=> (nomatch h),nd:=S.nd,vN:=fun _=>rfl,own:=PassesOwn.leaving,F9:=S.kind,rs:=fun _ _ _=>R6,rJ:=rfl,oK:=rfl,S7:=rfl,S9:=rfl}
 ·have bG:(tab.map (·.1))[j]?=some y:=hj
  rw[zam] at bG
  cases q:tab[j]? with
  | none=>rw[q] at bG;cases bG
  | some p=>
   rw[q] at bG
   have e:p.1=y:=zal bG
   obtain⟨f',oP,ke,F',m',k',b'⟩:=Ae p (zae q)
   have es:mY tab j=p.2:=by unfold mY;rw[q]
   show FK (gH P w) _ y (mY tab j)
   rw[es,<-e]
   exact⟨k,f',oP,ke,F',hr,m',k',b'⟩
 ·have bG:(gt.map (·.1))[j]?=some y:=hj
  rw[zam] at bG
  cases q:gt[j]? with
  | none=>rw[q] at bG;cases bG
  | some p=>
   rw[q] at bG
   have e:p.1=y:=zal bG
   obtain⟨u,h1,h2⟩:=(Af p<|zae q).ex
   have es:vT gt j=p.2:=by unfold vT;rw[q]
   show ∃u,mg y=some u/\RelV (vT gt j) u
   rw[es,<-e]
   exact⟨u,h1,h2⟩
 ·exact sT y (by simpa using hy)
 ·have bG:(mt.map (·.1))[j]?=some y:=hj
  rw[zam] at bG
  cases q:mt[j]? with
  | none=>rw[q] at bG;cases bG
  | some p=>
   rw[q] at bG
   have e:p.1=y:=zal bG
   obtain⟨c,f',oP,ke,m',F',b'⟩:=Ah p (zae q)
   have es:ka mt j=p.2:=by unfold ka;rw[q]
   show vG (gH P w) _ (ka mt j).1 y (ka mt j).2
   rw[es,<-e]
   exact⟨c,k,f',oP,ke,m',F',hr,b'⟩
 ·have bG:(kt.map (·.1))[j]?=some y:=hj
  rw[zam] at bG
  cases q:kt[j]? with
  | none=>rw[q] at bG;cases bG
  | some p=>
   rw[q] at bG
   have e:p.1=y:=zal bG
   obtain⟨i,f',oP,ke,hi,m',F',g',b'⟩:=Ai p (zae q)
   have es:ka kt j=p.2:=by unfold ka;rw[q]
   show FL (gH P w) _ y (ka kt j).1 (ka kt j).2
   rw[es,<-e]
   exact⟨i,f',oP,ke,m',F',hr.mono hi,g',b'⟩
 ·have bG:(et.map (·.1))[j]?=some y:=hj
  rw[zam] at bG
  cases q:et[j]? with
  | none=>rw[q] at bG;cases bG
  | some p=>
   rw[q] at bG
   have e:p.1=y:=zal bG
   have es:vU et j=p.2:=by unfold vU;rw[q]
   show FO _ y (vU et j)
   rw[es,<-e]
   exact het p<|zae q
 ·have bG:(ht.map (·.1))[j]?=some y:=hj
  rw[zam] at bG
  cases q:ht[j]? with
  | none=>rw[q] at bG;cases bG
  | some p=>
   rw[q] at bG
   have e:p.1=y:=zal bG
   obtain⟨f',oP,ke,F',m',k',b'⟩:=Aj p (zae q)
   have es:mY ht j=p.2:=by unfold mY;rw[q]
   show FN _ y (mY ht j)
   rw[es,<-e]
   exact⟨k,f',oP,ke,F',hr.h,m',k',b'⟩
section
variable {x qual:Str} {st:Stmt} {f C:Addr} {fd:FuncData} {N ps:List Str} {k:Nat} {sp:Sp}
end
end
section
variable {P:Program} {w:World} {K:Frag} {mg:Str->Option Value} {base:Heap} {x qual:Str} {st:Stmt} {f:Addr} {fd:FuncData} {N ps:List Str} {k:Nat} {sp:Sp}
theorem cX.top{k:Nat}(F:cX P w K mg base (gH P w) k f fd ps sp):cX P w K mg base se k f fd ps (fun vs H Q _=>sp vs H Q E0):=
 ⟨fun vs H Q E h=>F.len vs H Q E0 h,fun A outer s H args us vs Q E hr e0 hb hv hs=>codeAny_mono (F.run A outer s H args us vs Q E0 hr e0 hb hv hs) fun r s' h=>by
  cases r with
  | error e=>exact(FH h).elim
  | ok fl=>cases fl<;>exact h⟩
end
section
variable {Γ:aQ} {D:Ends} {σ:St} {H:Hp} {r:List RS} {Q:VK}
theorem Gf{i:Nat}{e:RE}(h:af Γ e σ H fun x H1=>ax Γ r D (σ.set i<|some x) H1):ax Γ (.asg i e::r) D σ H:=h
theorem Gg{b:kZ}{as:List RE}(h:aY Γ as σ H fun vs H1=>mO Γ.K b vs H1 Q):af Γ (.blt b as) σ H Q:=h
theorem Gh{a:RE}{Q:List V->Hp->Prop}(h:af Γ a σ H fun x H1=>Q [x] H1):aY Γ [a] σ H Q:=h
end
end L2
namespace L2.B
open PySem PySem.Spec PyProof.Rows
def lH:List Str:=["thing"]
noncomputable def Gi:List RS:=
 [.ret<|.and [(.dW .int<|.v 0),(.not<|.dW .bool<|.v 0)]]
def ag:List Str:=[]
def Tj:List Str:=["isinstance","int","bool"]
def Al:List Str:=["thing","words"]
noncomputable def Am:List RS:=
 [.ret<|.and [(.dW .str<|.v 0),(.cmp .In (.v 0)<|.v 1)]]
def Gj:List Str:=["isinstance","str"]
noncomputable def An:List RS:=
 [.ret<|.and [(.dW .str<|.v 0),(.cmp .Eq (.bg .lstrip (.v 0) [(.g 0)])<|.c<|.str "")]]
def Tn:List Str:=["SIGNS"]
noncomputable def vY:List RS:=
 [.ite (.or [(.not (.dW .tuple (.v 0))),(.cmp .NotEq (.blt .len [(.v 0)]) (.c (.int 2)))]) [.ret (.c (.bl false))] [],
 .ite (.call 0 [(.ix (.v 0)<|.c<|.int 0),(.tup [(.c<|.str "keep")])]) [.ret<|.and [(.call 1 [(.ix (.v 0)<|.c<|.int 1)]),(.cmp .GtE (.ix (.v 0)<|.c<|.int 1)<|.c<|.int 1)]] [],
 .ret (.and [(.call 0 [(.ix (.v 0) (.c (.int 0))),(.tup [(.c (.str "cut")),(.c (.str "put"))])]),(.call 2 [(.ix (.v 0) (.c (.int 1)))]),(.cmp .NotEq (.ix (.v 0) (.c (.int 1))) (.c (.str "")))])]
def To:List Str:=["is_word","is_whole","is_text"]
def Tp:List Str:=["isinstance","tuple","len"]
def Gk:List Str:=["word","ahead"]
noncomputable def Gm:List RS:=
 [.ret<|.and [(.cmp .NotEq (.v 0)<|.v 1),(.not<|.and [(.cmp .Eq (.v 1)<|.c<|.str "cut"),(.cmp .Eq (.v 0)<|.c<|.str "put")])]]
def Gn:List Str:=["change","ahead","part"]
noncomputable def Gp:List RS:=
 [.ite (.not (.dW .list (.v 0))) [.iX 0 [(.c (.str "a change is a list"))]] [],
 .asg 1 (.c<|.str ""),
 .jy 2 .list [(.v 0)] [.ite (.not (.call 0 [(.v 2)])) [.iX 0 [(.c (.str "a part is a keep of 1 sign or more, or a cut or put of a text that is not empty"))]] [],
  .ite (.not<|.call 1 [(.ix (.v 2)<|.c<|.int 0),(.v 1)]) [.iX 0 [(.c<|.str "neighbours have two words, and no put stands right behind a cut")]] [],
  .asg 1 (.ix (.v 2) (.c (.int 0)))]]
def Tq:List Str:=["is_part","may_follow"]
def Ts:List Str:=["isinstance","list"]
def Tt:List Str:=["BadChange"]
def Gq:List Str:=["part"]
noncomputable def Gr:List RS:=
 [.ret<|.iW (.cmp .Eq (.ix (.v 0)<|.c<|.int 0)<|.c<|.str "keep") (.ix (.v 0)<|.c<|.int 1)<|.blt .len [(.ix (.v 0)<|.c<|.int 1)]]
def oQ:List Str:=["len"]
def Gs:List Str:=["change","over","gives"]
noncomputable def Gu:List RS:=
 [.drop (.call 0 [(.v 0)]),
 .asg 1 (.blt .sum [(.comp none [] .list [(.v 0)] (some<|.cmp .NotEq (.ix (.v 0)<|.c<|.int 0)<|.c<|.str "put")<|.call 1 [(.v 0)])]),
 .asg 2 (.blt .sum [(.comp none [] .list [(.v 0)] (some<|.cmp .NotEq (.ix (.v 0)<|.c<|.int 0)<|.c<|.str "cut")<|.call 1 [(.v 0)])]),
 .ret (.tup [(.v 1),(.v 2)])]
def Tu:List Str:=["need_change","part_size"]
def Tv:List Str:=["sum"]
def Gv:List Str:=["change","size"]
noncomputable def Gw:List RS:=
 [.ite (.and [(.cmp .Gt (.blt .len [(.v 0)]) (.c (.int 0))),(.cmp .Eq (.ix (.ix (.v 0) (.neg (.c (.int 1)))) (.c (.int 0))) (.c (.str "keep")))]) [.asg 1 (.bin .Add (.v 1) (.ix (.bg .pop (.v 0) []) (.c (.int 1))))] [],
 .drop (.bg .append (.v 0) [(.tup [(.c (.str "keep")),(.v 1)])])]
def Gx:List Str:=["change","puts","cuts","put","cut"]
noncomputable def Gy:List RS:=
 [.asg 3 (.bg .join (.c (.str "")) [(.v 1)]),
 .asg 4 (.bg .join (.c<|.str "") [(.v 2)]),
 .ite (.cmp .NotEq (.v 3)<|.c<|.str "") [.drop<|.bg .append (.v 0) [(.tup [(.c<|.str "put"),(.v 3)])]] [],
 .ite (.cmp .NotEq (.v 4) (.c (.str ""))) [.drop (.bg .append (.v 0) [(.tup [(.c (.str "cut")),(.v 4)])])] []]
def Gz:List Str:=["parts","change","puts","cuts","word","what"]
noncomputable def GA:List RS:=
 [.asg 1 (.lst []),
 .asg 2 (.lst []),
 .asg 3 (.lst []),
 .k_ [4,5] .list [(.v 0)] [.ite (.cmp .Eq (.v 4) (.c (.str "put"))) [.drop (.bg .append (.v 2) [(.v 5)])] [.ite (.cmp .Eq (.v 4) (.c (.str "cut"))) [.drop (.bg .append (.v 3) [(.v 5)])] [.ite (.cmp .Gt (.v 5) (.c (.int 0))) [.drop (.call 0 [(.v 1),(.v 2),(.v 3)]),
     .asg 2 (.lst []),
     .asg 3 (.lst []),
     .drop (.call 1 [(.v 1),(.v 5)])] []]]],
 .drop (.call 0 [(.v 1),(.v 2),(.v 3)]),
 .ret (.v 1)]
def Tw:List Str:=["add_texts","add_keep"]
def GB:List Str:=["change"]
noncomputable def GC:List RS:=
 [.drop (.call 0 [(.v 0)]),
 .ret (.call 1 [(.comp (some 2) [] .list [(.v 0)] none (.tup [(.ix (.g 0) (.v 0)),(.v 1)]))])]
def Tx:List Str:=["need_change","neat"]
def Tz:List Str:=["WAYS_BACK"]
def GD:List Str:=["_law_script","_law_k"]
noncomputable def GF:List RS:=
 [.ite (.cmp .Lt (.v 1) (.blt .len [(.v 0)])) [.ret (.ix (.v 0) (.v 1))] [],
 .ret (.c (.int 0))]
def GG:List Str:=["thing","least","most"]
noncomputable def GH:List RS:=
 [.ret<|.and [(.call 0 [(.v 0)]),(.sD .LtE .LtE (.v 1) (.v 0)<|.v 2)]]
def GI:List Str:=["is_whole"]
end L2.B
namespace L2
open PySem PySem.Spec PyProof.Rows
section
variable {X:Cx}
end
section
variable {CX:bN} {S:cz} {Γ:aQ} {X:Cx} {e e2 a b c d:Expr} {es:List Expr} {x:Str} {p q pos:Pos} {r ra rb rc:RE} {rs:List RE} {i j:Nat}
end
section
variable {CX:bN} {S:cz} {Γ:aQ} {X:Cx} {a b:Expr} {x:Str} {p q pos:Pos} {ra rb:RE}
end
end L2
namespace L2.B
open PySem PySem.Spec PyProof.Rows
def GJ:List Str:=["_law_text","_law_change","_law_found","_law_at","_law_word","_law_thing"]
noncomputable def GK:List RS:=
 [.asg 2 (.c (.str "")),
 .asg 3 (.c<|.int 0),
 .k_ [4,5] .list [(.v 1)] [.ite (.cmp .Eq (.v 4) (.c (.str "put"))) [.asg 2 (.bin .Add (.v 2) (.v 5))] [.ite (.cmp .Eq (.v 4) (.c (.str "keep"))) [.asg 2 (.bin .Add (.v 2) (.sl (.v 0) (some (.v 3)) (some (.bin .Add (.v 3) (.v 5))))),
    .asg 3 (.bin .Add (.v 3) (.v 5))] [.asg 3 (.bin .Add (.v 3) (.blt .len [(.v 5)]))]]],
 .ret (.v 2)]
end L2.B
namespace L2
open PySem PySem.Spec PyProof.Rows
section
variable {X:Cx}
end
section
variable {CX:bN} {S:cz} {Γ:aQ} {X:Cx} {e e2 a b c d:Expr} {es:List Expr} {x:Str} {p q pos:Pos} {r ra rb rc:RE} {rs:List RE} {i j:Nat}
end
section
variable {X:Cx}
end
section
variable {CX:bN} {S:cz} {Γ:aQ} {X:Cx} {e:Expr} {es:List Expr} {x:Str} {p pos:Pos} {r:RE} {rs:List RE}
end
end L2
namespace L2.B
open PySem PySem.Spec PyProof.Rows
end L2.B
namespace L2.GN
open PySem PySem.W PyProof.Rows
section
variable {n:Nat} {lt:Nat->Nat->Bool} {p:Array Nat}
variable {cmp:Nat->Nat->(Bool->Shared->Prop)->Shared->Prop} {R:Shared->Prop}
end
end L2.GN
namespace L2
open PySem PySem.Spec PyProof.Rows PySem.W L2.GN
section
variable {prog:Program} {w:World} {A:Around} {E:Value->Shared->Prop} {s:Shared} {vs:List Value} {ts:List T3}
end
section
variable {X:Cx}
end
section
variable {CX:bN} {S:cz} {Γ:aQ} {X:Cx} {e:Expr} {es:List Expr} {x:Str} {p pos:Pos} {r:RE} {rs:List RE}
end
end L2
namespace L2
open PySem PySem.Spec PyProof.Rows
section
variable {prog:Program} {w:World} {A:Around} {E:Value->Shared->Prop} {s:Shared} {l:Addr} {xs:Array (Int×Tok)}
end
section
variable {X:Cx}
end
section
variable {CX:bN} {S:cz} {Γ:aQ} {X:Cx} {e:Expr} {es:List Expr} {x:Str} {p pos:Pos} {r:RE} {rs:List RE}
end
end L2
namespace L2.B
open PySem PySem.Spec PyProof.Rows
end L2.B
namespace L2
open PySem PySem.Spec PyProof.Rows
def sU:List (TE×TE)->St->Hp->(List (V×V)->Hp->Prop)->Prop
 | [],_,H,Q=>Q [] H
 | (tk,tv)::r,σ,H,Q=>tk σ H fun x H1=>tv σ H1 fun y H2=>sU r σ H2 fun ps H3=>Q ((x,y)::ps) H3
abbrev VV:List (V×V)->List (Value×Value)->Prop:=Paired fun p q=>RelV p.1 q.1/\RelV p.2 q.2
def mZ(X:Cx)(pos:Pos)(keys:List (Option Expr))(values:List Expr)(lI:List (TE×TE)):Prop:=
 ∀(pins:List (Addr×Obj)) (s:Shared) (σ:St) (H:Hp) (Q:List (V×V)->Hp->Prop),Inv X pins σ H s->sU lI σ H Q->
  wpAny (model X.prog X.w) X.A (evalPairs<|pairTrees keys values X.env pos) (fun vs s'=> ∃ps H',Inv X pins σ H' s'/\VV ps vs/\Q ps H') X.xe s
theorem TB{X:Cx}{pos:Pos}:mZ X pos [] [] []:=fun pins s σ H Q I h=>pairTrees_nil_walk ⟨[],H,I, .nil,h⟩
theorem TC{X:Cx}{pos:Pos}{k v:Expr}{ks:List (Option Expr)}{vs:List Expr}{tk tv:TE}{lI:List (TE×TE)}(hk:PE X k tk)(hv:PE X v tv)(hr:mZ X pos ks vs lI):
  mZ X pos (some k::ks) (v::vs) ((tk,tv)::lI):=fun pins s σ H Q I h=>
 pairTrees_cons_walk (aH (hk pins s σ H _ I h) fun u s1 ⟨x,H1,I1,rx,q1⟩=>aH (hv pins s1 σ H1 _ I1 q1) fun w2 s2 ⟨y,H2,I2,ry,q2⟩=>
  aH (hr pins s2 σ H2 _ I2 q2) fun ws s3 ⟨ps,H3,I3,rel,q3⟩=> ⟨(x,y)::ps,H3,I3, .cons ⟨rx,ry⟩ rel,q3⟩)
def i6(kvs more:List (Key×V)):List (Key×V):=more.foldl (fun acc kv=>putK acc kv.1 kv.2) kvs
theorem KV.merge: ∀{more:List (Key×V)} {rs:List (Key×Value)} {kvs:List (Key×V)} {vs:List (Key×Value)},KV more rs->KV kvs vs->KV (i6 kvs more) (merged vs rs):=by
 intro more rs kvs vs r
 unfold KV at r
 induction r generalizing kvs vs with
 | nil=>intro q;exact q
 | @cons p q ps qs h t ih=>
  intro r0
  have e:KV (putK kvs p.1 p.2) (stored vs q.1 q.2):=by
   have:=r0.put p.1 h.2
   rw[<-h.1];exact this
  exact ih e
theorem GO: ∀(more kvs:List (Key×V)),(i6 kvs more).length<=kvs.length+more.length
 | [],kvs=>by show kvs.length<=kvs.length+0;omega
 | p::r,kvs=>by
  have h1:=GO r (putK kvs p.1 p.2)
  have h2:=zb kvs p.1 p.2
  show(i6 (putK kvs p.1 p.2) r).length<=_
  rw[zao];omega
theorem GP{P:Program}{w:World}: ∀{kvs:List (Key×V)} {ws:List (Value×Value)},VV (kvs.map fun kv=> (kV kv.1,kv.2)) ws-> ∃rs,Carries (dF P w) ws rs/\KV kvs rs
 | [],_,r=>by rw[zbd] at r;cases r;exact⟨[],True.intro, .nil⟩
 | p::kvs,_,r=>by
  rw[zay] at r
  cases r with
  | @cons a b as bs h t=>
   obtain⟨rs,c,q⟩:=GP (P:=P) (w:=w) t
   obtain⟨b1,b2⟩:=b
   exact⟨(p.1,b2)::rs,⟨vg h.1,rfl,c⟩, .cons ⟨rfl,h.2⟩ q⟩
def Ao(lI:List (TE×TE)):TE:=fun σ H Q=> ∀p,H p=none->sU lI σ (upd H p<|.dK []) fun ps H2=>H2 p=some (.dK [])/\ ∃kvs:List (Key×V),ps=kvs.map (fun kv=> (kV kv.1,kv.2))/\kvs.length<=15/\Q (.ref p) (upd H2 p<|.dK<|i6 [] kvs)
theorem TF{X:Cx}{pos:Pos}{keys:List (Option Expr)}{values:List Expr}{lI:List (TE×TE)}(h:mZ X pos keys values lI)(mI:keys.all (·.isSome)=true)(hl:keys.length=values.length)(h0:keys≠ [])
  (TH:keys.length<=15):PE X (.Dict keys values pos) (Ao lI):=by
 intro pins s σ H Q I q
 have hn:=I.aE.fresh (zqR s.heap.objs.size)
 have I1:=I.laid (a:=s.heap.objs.size) (o:= .dK []) (h':=s.heap.push {cls:= .type "dict",data:= .dict #[]}) (t':=s.toks) (fun _ _ q=>Heap.get?_push_of_some _ q) (zqR _) (PY s.heap I.big)
 refine wpAny_Dict_walk (knd:=dF X.prog X.w) mI hl h0 TH<|aH (h pins _ σ _ _ I1<|q _ hn) fun ws s2 ⟨ps,H2,I2,rel,e,kvs,ep,lk,q2⟩=> ?_
 subst ep
 obtain⟨rs,c,rk⟩:=GP (P:=X.prog) (w:=X.w) rel
 obtain⟨z,hd,vs0,r0,dd⟩:=EI I2.aE e
 cases r0
 refine⟨rs,c,dd,fun h' oE hs=> ⟨.ref s.heap.objs.size,_, ?_,rfl,q2⟩⟩
 have hz:(i6 [] kvs).length<=sizeLine:=by
  have h1:=GO kvs []
  rw[zbh] at h1
  rw[sizeLine_eq];omega
 have he: ∃q,h'.get? s.heap.objs.size=some q:=let ⟨q,_,_,hq,_⟩:=oE;⟨q,hq⟩
 exact zg I2 (by rw[e];exact True.intro) hs he<|EJ hz hd (rk.merge .nil) oE
def oR:List (Key×V)->List V
 | []=> []
 | kv::r=>kV kv.1::kv.2::oR r
def oS:List (V×V)->List V
 | []=> []
 | p::r=>p.1::p.2::oS r
def qC:Frag->TA->TE:=fun _ t σ H Q=> ∀p,H p=none->t σ (upd H p<|.dK []) fun vs H2=>H2 p=some (.dK [])/\ ∃kvs:List (Key×V),vs=oR kvs/\kvs.length<=15/\Q (.ref p) (upd H2 p<|.dK<|i6 [] kvs)
def m3(Γ:aQ):List RE->List (TE×TE)
 | a::b::r=> (af Γ a,af Γ b)::m3 Γ r
 | _=> []
theorem Ap{Γ:aQ}{σ:St}: ∀(rs:List RE) (H:Hp) (Q:List V->Hp->Prop),rs.length % 2=0->aY Γ rs σ H Q=sU (m3 Γ rs) σ H fun ps H2=>Q (oS ps) H2
 | [],H,Q,_=>rfl
 | [a],H,Q,e=>absurd e (by show ¬(1 % 2=0);decide)
 | a::b::r,H,Q,e=>by
  have e':r.length % 2=0:=by
   have:(r.length+1+1) % 2=0:=e
   lia
  show(af Γ a σ H fun x H1=>af Γ b σ H1 fun y H2=>aY Γ r σ H2 fun vs H3=>Q (x::y::vs) H3)=af Γ a σ H fun x H1=>af Γ b σ H1 fun y H2=>sU (m3 Γ r) σ H2 fun ps H3=>Q (x::y::oS ps) H3
  congr 1
  funext x H1
  congr 1
  funext y H2
  exact Ap r H2 (fun vs H3=>Q (x::y::vs) H3) e'
theorem vZ: ∀(ps:List (V×V)) (kvs:List (Key×V)),oS ps=oR kvs↔ps=kvs.map fun kv=> (kV kv.1,kv.2)
 | [],[]=> ⟨fun _=>rfl,fun _=>rfl⟩
 | [],kv::r=> ⟨(fun h=>by cases h),(fun h=>by cases h)⟩
 | p::ps,[]=> ⟨(fun h=>by cases h),(fun h=>by cases h)⟩
 | p::ps,kv::r=>by
  constructor
  ·intro h
   have h1:p.1=kV kv.1:=(zaU h).1
   have h2:p.2=kv.2:=(zaU (zaU h).2).1
   have h3:=(vZ ps r).mp (zaU (zaU h).2).2
   rw[h3,zay,<-h1,<-h2]
  ·intro h
   rw[zay] at h
   obtain⟨h1,h2⟩:=zaU h
   show p.1::p.2::oS ps=kV kv.1::kv.2::oR r
   rw[(vZ ps r).mpr h2,h1]
theorem TJ{Γ:aQ}{K:Frag}(rs:List RE)(e:rs.length % 2=0):qC K (aY Γ rs)=Ao (m3 Γ rs):=by
 funext σ H Q
 unfold qC Ao
 apply propext
 constructor
 ·intro h p hp
  have:=h p hp
  rw[Ap rs _ _ e] at this
  have e2:(fun(ps:List (V×V)) (H2:Hp)=>H2 p=some (.dK [])/\ ∃kvs:List (Key×V),oS ps=oR kvs/\kvs.length<=15/\Q (.ref p) (upd H2 p<|.dK<|i6 [] kvs))=fun ps H2=>H2 p=some (.dK [])/\ ∃kvs:List (Key×V),ps=kvs.map (fun kv=> (kV kv.1,kv.2))/\kvs.length<=15/\Q (.ref p) (upd H2 p<|.dK<|i6 [] kvs):=by
   funext ps H2
   simp only[vZ]
  rw[e2] at this
  exact this
 ·intro h p hp
  have:=h p hp
  rw[Ap rs _ _ e]
  have e2:(fun(ps:List (V×V)) (H2:Hp)=>H2 p=some (.dK [])/\ ∃kvs:List (Key×V),oS ps=oR kvs/\kvs.length<=15/\Q (.ref p) (upd H2 p<|.dK<|i6 [] kvs))=fun ps H2=>H2 p=some (.dK [])/\ ∃kvs:List (Key×V),ps=kvs.map (fun kv=> (kV kv.1,kv.2))/\kvs.length<=15/\Q (.ref p) (upd H2 p<|.dK<|i6 [] kvs):=by
   funext ps H2
   simp only[vZ]
  rw[e2]
  exact this
section
variable {CX:bN} {S:cz} {Γ:aQ} {X:Cx} {pos:Pos} {k v:Expr} {ks:List (Option Expr)} {vs:List Expr} {rk rv:RE} {rs:List RE}
theorem TK:mZ X pos [] [] (m3 Γ []):=TB
theorem sV(hk:PE X k (af Γ rk))(hv:PE X v (af Γ rv))(h:mZ X pos ks vs (m3 Γ rs)):mZ X pos (some k::ks) (v::vs) (m3 Γ (rk::rv::rs)):=TC hk hv h
def GQ(keys:List (Option Expr))(values:List Expr)(rs:List RE):Bool:=keys.all (·.isSome) && decide (keys.length=values.length) && decide (keys.length≠0) && decide (keys.length<=15) && decide (rs.length % 2=0)
theorem TL(hp:mZ X pos ks vs (m3 Γ rs))(h:GQ ks vs rs=true:=by kernel_rfl):PE X (.Dict ks vs pos) (af Γ<|.xt qC rs):=by
 simp only[GQ,zah,decide_eq_true_eq] at h
 obtain⟨⟨⟨⟨h1,h2⟩,h3⟩,h4⟩,h5⟩:=h
 show PE X _ (qC Γ.K<|aY Γ rs)
 rw[TJ rs h5]
 exact TF hp h1 h2 (fun z=>h3 (by rw[z];rfl)) h4
end
def lJ(xs:List V)(lo hi st:Option Int):List V:=(sliceRange (sliceBounds lo hi st xs.length).1 (sliceBounds lo hi st xs.length).2.1 (sliceBounds lo hi st xs.length).2.2).filterMap (xs[·]?)
def m6(K:Frag):V->Option Int->Option Int->Option Int->Hp->VK->Prop:=fun x lo hi st H Q=> ∃a xs,x= .ref a/\aq K H a xs/\st≠some 0/\ ∀p,H p=none->Q (.ref p) (upd H p<|.lst<|lJ xs lo hi st)
theorem GR{xs:List V}{us:List Value}(r:Vals xs us): ∀(is:List Nat),Vals (is.filterMap (xs[·]?)) (is.filterMap (us.toArray[·]?))
 | []=> .nil
 | i::is=>by
  have ih:=GR r is
  by_cases h:i<xs.length
  ·obtain⟨w,e1,r1⟩:=r.get (i:=i) (x:=xs[i]) (by simp[h])
   have e2:xs[i]?=some xs[i]:=by simp[h]
   have e3:us.toArray[i]?=some w:=by simpa using e1
   rw[zce e2,zce e3]
   exact .cons r1 ih
  ·have hl:=r.length
   have e2:xs[i]?=none:=by simp;lia
   have e3:us.toArray[i]?=none:=by simp;lia
   rw[List.filterMap_cons_none e2,List.filterMap_cons_none e3]
   exact ih
section
variable {X:Cx} {e ee el st:Expr} {te tl ts:TE} {p2 pos:Pos}
theorem TM{pins:List (Addr×Obj)}{σ:St}{H:Hp}{s:Shared}{x:V}{v vl vu vs:Value}{lo hi k:Option Int}{sl:Addr}{Q:VK}(I:Inv X pins σ H s)(rx:RelV x v)(hs:s.heap.IsSliceOf sl vl vu vs)(pl:IsPart vl lo)(pu:IsPart vu hi)(ps:IsPart vs k)(h:m6 X.K x lo hi k H Q):
  ∃T id,typeLookup (.type T) "__getitem__"=pure (some<|.builtin id)/\s.TypeIs v T/\wpAny (model X.prog X.w) X.A (getItem v<|.ref sl) (EP X pins σ Q) X.xe s:=by
 obtain⟨a,xs,rfl,hx,h0,q⟩:=h
 cases rx
 obtain⟨ak,r,ht,hz⟩:=I.list hx
 have hlen:=r.length
 refine⟨"list",_,slot_list_getitem.lookup,ht.isList.typeIs, ?_⟩
 refine wpAny_getItem_list_slice ht.isList hs pl pu ps h0 ?_ (by rw[zag] <;>lia)
 have hle:=slicePick_size_le ak.toArray lo hi k
 refine⟨.ref s.heap.objs.size,_,I.laid (t':=s.toks) (o:= .lst (lJ xs lo hi k)) (fun b ob q=>Heap.get?_push_of_some _ q) (zqR _) ?_,rfl,q _<|I.aE.fresh<|zqR _⟩
 have hv:=GR r (sliceRange (sliceBounds lo hi k xs.length).1 (sliceBounds lo hi k xs.length).2.1 (sliceBounds lo hi k xs.length).2.2)
 have e:(slicePick ak.toArray lo hi k)=((sliceRange (sliceBounds lo hi k xs.length).1 (sliceBounds lo hi k xs.length).2.1 (sliceBounds lo hi k xs.length).2.2).filterMap (ak.toArray[·]?)).toArray:=by
  unfold slicePick
  rw[zag,<-hlen]
 refine⟨?_,_,0,hv,by rw[<-e];exact Heap.get?_push_size _ rfl⟩
 have:=hv.length
 unfold lJ
 rw[this,<-zag,<-e]
 have h2:ak.toArray.size=ak.length:=zag
 lia
def Aq(K:Frag)(te:TE)(tl th ts:TO):TE:=fun σ H Q=>te σ H fun x H1=>tl σ H1 fun l H2=>th σ H2 fun u H3=>ts σ H3 fun k H4=>m6 K x l u k H4 Q
theorem GS{lo hi:Option Expr}{to tu ts:TO}(he:PE X ee te)(hl:PO X lo to)(hu:PO X hi tu)(hs:PO X (some st) ts):PE X (.Subscript ee (.Slice lo hi (some st) p2) pos) (Aq X.K te to tu ts):=by
 intro pins s σ H Q I h
 refine Subscript_<|aH (he pins s σ H _ I h) fun v s1 ⟨x,H1,I1,r1,q1⟩=> ?_
 refine wpAny_Slice<|aH (hl pins s1 σ H1 _ I1 q1) fun vl s2 ⟨l,H2,I2,pl,q2⟩=>aH (hu pins s2 σ H2 _ I2 q2) fun vu s3 ⟨u,H3,I3,pu,q3⟩=>aH (hs pins s3 σ H3 _ I3 q3) fun vs s4 ⟨k,H4,I4,pk,q4⟩=> ?_
 have I5:Inv X pins σ H4 {s4 with heap:=s4.heap.push {cls:= .type "slice",data:= .fields #[vl,vu,vs]}}:=I4.kept (t':=s4.toks) fun b ob q=>Heap.get?_push_of_some _ q
 obtain⟨T,id,hT,ht,hg⟩:=TM (sl:=s4.heap.objs.size) I5 r1 (Heap.IsSliceOf.new ..) pl pu pk q4
 show wpAny (model X.prog X.w) X.A (subscriptTail ee (.Slice lo hi (some st) p2) v<|.ref s4.heap.objs.size) (EP X pins σ Q) X.xe {s4 with heap:=s4.heap.push {cls:= .type "slice",data:= .fields #[vl,vu,vs]}}
 exact tail_any (ops:=[v, .ref s4.heap.objs.size]) ht hT hg (by with_unfolding_all rfl)
end
def kf(lo:Option Int)(k:Int):Frag->TA->TE:=fun K t σ H Q=>t σ H fun vs H1=>match vs with
 | [x]=>m6 K x lo none (some k) H1 Q
 | _=>False
theorem TN{Γ:aQ}{K:Frag}{ra rl rs:RE}{i k:Int}(hl: ∀σ H Q,af Γ rl σ H Q=Q (.int i) H)(hs: ∀σ H Q,af Γ rs σ H Q=Q (.int k) H):kf (some i) k K (aY Γ [ra])=Aq K (af Γ ra) (ow<|af Γ rl) rS (ow<|af Γ rs):=by
 funext σ H Q
 show(af Γ ra σ H fun x H1=>m6 K x (some i) none (some k) H1 Q)=af Γ ra σ H fun x H1=>af Γ rl σ H1 fun y H2=> ∃i',y=V.int i'/\af Γ rs σ H2 fun z H3=> ∃k',z=V.int k'/\m6 K x (some i') none (some k') H3 Q
 congr 1
 funext x H1
 rw[hl]
 apply propext
 constructor
 ·intro h
  refine⟨i,rfl, ?_⟩
  rw[hs]
  exact⟨k,rfl,h⟩
 ·rintro⟨i',e,h⟩
  cases e
  rw[hs] at h
  obtain⟨k',e,h⟩:=h
  cases e
  exact h
theorem TQ{Γ:aQ}{K:Frag}{ra rs:RE}{k:Int}(hs: ∀σ H Q,af Γ rs σ H Q=Q (.int k) H):kf none k K (aY Γ [ra])=Aq K (af Γ ra) rS rS (ow<|af Γ rs):=by
 funext σ H Q
 show(af Γ ra σ H fun x H1=>m6 K x none none (some k) H1 Q)=af Γ ra σ H fun x H1=>af Γ rs σ H1 fun z H3=> ∃k',z=V.int k'/\m6 K x none none (some k') H3 Q
 congr 1
 funext x H1
 rw[hs]
 apply propext
 constructor
 ·intro h
  exact⟨k,rfl,h⟩
 ·rintro⟨k',e,h⟩
  cases e
  exact h
section
variable {CX:bN} {S:cz} {Γ:aQ} {X:Cx} {a:Expr} {ra:RE} {p q p1 p2 p3:Pos}
theorem GU{i k:Int}{c1 c2}(G:Good CX S Γ X)(ha:PE X a (af Γ ra))(h1:PE X (.Constant (.int i) c1 p1) (af Γ<|.c<|.int i))(h2:PE X (.Constant (.int k) c2 p2) (af Γ<|.c<|.int k)):PE X (.Subscript a (.Slice (some<|.Constant (.int i) c1 p1) none (some<|.Constant (.int k) c2 p2) q) p) (af Γ<|.xt (kf (some i) k) [ra]):=by
 show PE X _ (kf (some i) k Γ.K<|aY Γ [ra])
 rw[TN (Γ:=Γ) (rl:= .c (.int i)) (rs:= .c (.int k)) (fun _ _ _=>rfl)<|fun _ _ _=>rfl,<-G.K]
 exact GS ha (u_ h1) u9<|u_ h2
theorem TR{k:Int}{c2}(G:Good CX S Γ X)(ha:PE X a (af Γ ra))(h2:PE X (.UnaryOp .USub (.Constant (.int k) c2 p2) p3) (af Γ<|.neg<|.c<|.int k)):PE X (.Subscript a (.Slice none none (some<|.UnaryOp .USub (.Constant (.int k) c2 p2) p3) q) p) (af Γ<|.xt (kf none<|-k) [ra]):=by
 show PE X _ (kf none (-k) Γ.K<|aY Γ [ra])
 rw[TQ (Γ:=Γ) (rs:= .neg (.c<|.int k)) (k:= -k) ?_,<-G.K]
 ·exact GS ha u9 u9 (u_ h2)
 ·intro σ H Q
  apply propext
  constructor
  ·intro h
   exact h
  ·intro h
   exact h
end
theorem TU:typeLookup (.type "list_reverseiterator") "__len__"=pure none:=by rw[typeLookup_type,builtinLookup_eq_fast];kernel_rfl
theorem TV:typeLookup (.type "list_reverseiterator") "__length_hint__"=pure (some<|.builtin "list_reverseiterator.__length_hint__"):=by rw[typeLookup_type,builtinLookup_eq_fast];kernel_rfl
section
variable {prog:Program} {w:World} {A:Around} {E:Value->Shared->Prop} {s:Shared}
theorem TX{I:Addr}{Q:Bool->Shared->Prop}(hT:s.TypeIs (.ref I) "list_reverseiterator")(h:Q false s):wpAny (model prog w) A (Builtin.List.listLengthHint<|.ref I) Q E s:=by
 unfold Builtin.List.listLengthHint
 refine wpAny_bind<|wpAny_specialOf hT TU ?_
 show wpAny _ A (specialOf (Value.ref I) (Str.ofString "__length_hint__") >>=_) _ _ _
 refine wpAny_bind<|wpAny_specialOf hT TV ?_
 generalize GV:("list_reverseiterator.__length_hint__":String)=TY
 wp_delta
 rw[show splitId TY=some ("list_reverseiterator","__length_hint__") from by subst GV;decide+kernel]
 subst GV
 refine wpAny_bind<|wpAny_isInstance (T:="list_reverseiterator") (b:=true) hT (by rw[isSubtype_type];kernel_rfl) ?_
 refine wpAny_ite_split (fun dw=>absurd dw (by decide))<|fun _=> ?_
 refine wpAny_ite_split (fun _=> ?_)<|fun dw=>absurd (by decide+kernel) dw
 refine wpAny_ite_split (fun dw=>absurd dw (by decide))<|fun _=> ?_
 exact wpAny_pure h
theorem TZ{Q:Value->Shared->Prop}{I l:Addr}{items:Array Value}(hh:A.handled=none)(hit:s.heap.IsRevIter I l ((items.size:Int) - 1))(hl:s.heap.IsList l items)(gI:l≠I)(hn:items.size<=sizeLine)
  (hQ: ∀h' tk jV c',(∀b o,b≠I->s.heap.get? b=some o->h'.get? b=some o)->
   h'.get? s.heap.objs.size=some {cls:= .type "list",dict:=none,data:= .seq jV c',slots:= #[]}->ItemsOf (fun i v=>items[items.size - 1 - i]?=some v) jV items.size->Q (.ref s.heap.objs.size) {s with heap:=h',toks:=tk}):
  wpAny (model prog w) A (call (.type "list") [.ref I]) Q E s:=by
 have hI:I<s.heap.objs.size:=by obtain⟨o,ho,_⟩:=hit;exact Heap.lt_size ho
 have aK:l<s.heap.objs.size:=by obtain⟨o,ho,_⟩:=hl;exact Heap.lt_size ho
 refine callType_codes (Q₁:=fun obj s₁=>obj= .ref s.heap.objs.size/\s₁={s with heap:=s.heap.push {cls:= .type "list",data:= .seq #[]}}) F.called_list (F.typeCall_list_1 _) F.entry_list_init
  (code_list_new _ ⟨rfl,rfl⟩) fun obj s₁ h₁=> ?_
 obtain⟨rfl,rfl⟩:=h₁
 have hS:(s.heap.push {cls:= .type "list",data:= .seq #[]}).get? s.heap.objs.size=some {cls:= .type "list",data:= .seq #[]}:=Heap.get?_push_size _ rfl
 refine⟨⟨_,hS,rfl⟩,F.args_list_init_2 _ _, ?_⟩
 have T_:(s.heap.push {cls:= .type "list",data:= .seq #[]}).IsRevIter I l ((items.size:Int) - 1):=hit.at fun o e=>Heap.get?_push_of_some _ e
 have da:(s.heap.push {cls:= .type "list",data:= .seq #[]}).IsList l items:=hl.at fun o e=>Heap.get?_push_of_some _ e
 have Ua: ∀b o,s.heap.get? b=some o->(s.heap.push {cls:= .type "list",data:= .seq #[]}).get? b=some o:=fun b o e=>Heap.get?_push_of_some _ e
 have GW: ∀b o,s.heap.get? b=some o->b≠s.heap.objs.size:=fun b o e=>zan (Heap.lt_size e)
 generalize hS0:s.heap.objs.size=S at*
 generalize s.heap.push {cls:= .type "list",data:= .seq #[]}=h1 at*
 show wpAny _ _ (do let old <-Builtin.List.listItems (.ref S);Builtin.List.listUpdate (.ref S) (fun _=> #[]);letGo old.toList.reverse;Builtin.List.listExtendWith (.ref S) (.ref I) .none) _ _ {s with heap:=h1}
 refine wpAny_bind ?_
 unfold Builtin.List.listItems
 refine wpAny_bind<|wpAny_seqItems hS rfl<|wpAny_pure ?_
 show wpAny _ _ (updateSeq S (fun _=> #[]) >>=fun _=>letGo (#[]:Array Value).toList.reverse>>=fun _=>Builtin.List.listExtendWith (.ref S) (.ref I) .none) _ _ {s with heap:=h1}
 refine wpAny_bind<|wpAny_updateSeq hS rfl ?_
 have qD:=Heap.get?_update_self (Obj.mapSeq<|fun _=> (#[]:Array Value)) hS rfl
 have fX: ∀b o,b≠S->h1.get? b=some o->(h1.update S<|Obj.mapSeq<|fun _=> (#[]:Array Value)).get? b=some o:=
  fun b o hb e=> (Heap.get?_update_other _ _<|Ne.symm hb).trans e
 have Ar:I≠S:=zan hI
 have GX:l≠S:=zan aK
 have As:=T_.at (h':=h1.update S (Obj.mapSeq<|fun _=> (#[]:Array Value))) fun o e=>fX I o Ar e
 have dO:=da.at (h':=h1.update S (Obj.mapSeq<|fun _=> (#[]:Array Value))) fun o e=>fX l o GX e
 refine wpAny_bind<|wpAny_letGo ?_
 generalize h1.update S (Obj.mapSeq<|fun _=> (#[]:Array Value))=h2 at*
 have hT:({s with heap:=h2}:Shared).TypeIs (.ref I) "list_reverseiterator":=As.typeIs (s:={s with heap:=h2})
 unfold Builtin.List.listExtendWith
 refine wpAny_bind<|wpAny_typeOf hT ?_
 have lK:Builtin.List.listSameRef (.ref S) (.ref I)=false:=by simp[Builtin.List.listSameRef,Ne.symm Ar]
 have qE:(Value.type "list_reverseiterator"==Value.type "list")=false:=by decide
 have Au:(Value.type "list_reverseiterator"==Value.type "tuple")=false:=by decide
 simp only[lK,qE,Au,zbp,zaR,if_false]
 refine wpAny_bind<|wpAny_pyIter_revIter As ?_
 refine wpAny_bind<|wpAny_holding<|TX hT ?_
 have W:=(Walks.listRev (prog:=prog) (w:=w) (A:=A.in1.in1) hh I l gI items).toS
 have Ub:S∉ [I,l]:=fun hm=>by
  rcases zaa.mp hm with e | hm
  ·exact Ar e.symm
  ·exact GX (zac.mp hm).symm
 refine wpAny_ite_split (fun dw=>absurd dw (by decide))<|fun _=>wpAny_pure ⟨plainId_quiet F.plain_extend_loop _, ?_⟩
 refine codeAny_extend_loopS W hn S Ub _ items.size 0 _ #[] _ rfl (zqZ _) ⟨zqZ _, ?_,dO⟩ qD (ItemsOf.nil _) fun s' jV c' hm m7 ff=> ?_
 ·have e:(items.size:Int) - 1 - ((0:Nat):Int)=(items.size:Int) - 1:=by lia
  rw[e];exact As
 ·rw[Moved.eq_with hm]
  refine⟨rfl,hQ s'.heap s'.toks jV c' (fun b o hb e=>hm.heap b o (fun Av=> ?_)<|fX b o (GW b o e)<|Ua b o e) m7 ff⟩
  rcases zaa.mp Av with e' | Av
  ·exact GW b o e e'
  ·exact hb (zac.mp Av)
end
theorem Uc{x:V}{u:Value}(r:RelV x u): ∀{xs:List V} {us:List Value},Vals xs us->Vals (xs++ [x]) (us++ [u]):=fun h=>Vals.append h (.cons r .nil)
theorem GY: ∀{xs:List V} {us:List Value},Vals xs us->Vals xs.reverse us.reverse
 | [],[], .nil=> .nil
 | x::xs,u::us, .cons r h=>by
  rw[zaC,zaC]
  exact Uc r<|GY h
theorem Ud{ak:List Value}{acc:Array Value}(h:ItemsOf (fun i v=>ak.toArray[ak.toArray.size - 1 - i]?=some v) acc ak.toArray.size):acc.toList=ak.reverse:=by
 obtain⟨h1,h2⟩:=h
 refine zbV fun i=> ?_
 by_cases hi:i<ak.length
 ·have hs:i<acc.size:=by rw[h1];simpa using hi
  have e:=h2 i acc[i] (zbq hs)
  rw[zbW hi]
  have e2:acc.toList[i]?=some acc[i]:=by simp[hs]
  rw[e2]
  simpa using e.symm
 ·have hs:acc.toList.length=ak.length:=by simpa using h1
  rw[zcf (by lia),zcf (by rw[zaF];lia)]
def v3(K:Frag):List V->Hp->VK->Prop:=fun xs H Q=> ∃p ys,xs=[.ref p]/\aq K H p ys/\ ∀l,H l=none->Q (.ref l) (upd H l<|.lst ys.reverse)
def Aw:Frag->TA->TE:=fun K t=>gg (v3 K) t
theorem boot_reversed:bootBuiltins "reversed"=some (.type "reversed"):=by decide+kernel
section
variable {CX:bN} {S:cz} {Γ:aQ} {X:Cx} {e:Expr} {es:List Expr} {x y:Str} {p p2 pos kg:Pos} {r:RE} {rs:List RE}
theorem Ue{t:TA}(hc:X.calm=true)(g1:Gl X "list")(m1:X.mg "list"=none)(g2:Gl X "reversed")(m2:X.mg "reversed"=none)(ha:PA X [e] t)(hs:starEach [e] X.env=[(false,eval e X.env)]):
  PE X (.Call (.Name "list" p) [.Call (.Name "reversed" p2) [e] [] kg] [] pos) (gg (v3 X.K) t):=by
 intro pins s σ H Q I h
 refine wpAny_Call_Name_kw<|kN I g1 m1 zY ?_ (by decide) (by decide)
 refine PyProof.Rows.callWith_type1 ?_ rfl rfl
 show wpAny _ _ (spliced ((false,eval (.Call (.Name "reversed" p2) [e] [] kg) X.env)::backTo pos (starEach [] X.env))) _ _ s
 refine Calls.spliced_cons ?_
 refine wpAny_Call_Name_kw<|kN I g2 m2 boot_reversed ?_ (by decide) (by decide)
 refine PyProof.Rows.callWith_type1 ?_ hs rfl
 refine aH (ha kg pins s σ H _ I h) fun us s1 ⟨vs,H1,I1,r1,q1⟩=> ?_
 obtain⟨l,ys,rfl,hq,q⟩:=q1
 obtain⟨u,rfl,ru⟩:=vals1 r1
 cases ru
 obtain⟨ak,rv,pl,hz⟩:=I1.list hq
 have hl:=pl.isList
 have aK:l<s1.heap.objs.size:=by obtain⟨o,ho,_⟩:=hl;exact Heap.lt_size ho
 refine call_reversed_list hl ?_
 refine Calls.spliced_nil ?_
 have hln:=rv.length
 refine TZ (I.ok.hd hc) (items:=ak.toArray) ⟨_,Heap.get?_push_size _ rfl,rfl,rfl⟩ (hl.push _) (zan aK) (by simp only[zag];lia) fun h' tk jV c' kp e ff=> ?_
 have ea:=Ud ff
 refine⟨.ref _,_,I1.laid (a:=(s1.heap.push (revObj l ((ak.toArray.size:Int) - 1))).objs.size) (t':=tk) (fun b o eb=>kp b o (zan (Heap.lt_size eb)) (Heap.get?_push_of_some _ eb)) (by rw[Heap.size_push];exact zbb _)
  (show cg X.prog X.w _ h' _ (.lst ys.reverse) from⟨by rw[zaF];exact hz,jV.toList,c',by rw[ea];exact GY rv,by simpa using e⟩),rfl,q _ (I1.aE.fresh (by rw[Heap.size_push];exact zbb _))⟩
theorem Ug(G:Good CX S Γ X)(hA:PA X [e] (aY Γ [r]))(h:kB S x "list"=true:=by kernel_rfl)(h':kB S y "reversed"=true:=by kernel_rfl)(hn:gi [e]=true:=by kernel_rfl)(hq:S.md=0:=by rfl):PE X (.Call (.Name x p) [.Call (.Name y p2) [e] [] kg] [] pos) (af Γ<|.xt Aw [r]):=by
 simp only[kB,zah,decide_eq_true_eq] at h h'
 obtain⟨⟨rfl,h2⟩,h3⟩:=h
 obtain⟨⟨rfl,h5⟩,h6⟩:=h'
 show PE X _ (gg (v3 Γ.K)<|aY Γ [r])
 rw[<-G.K]
 exact Ue (G.calm hq) (G.gl h2) (G.ik _ h3) (G.gl h5) (G.ik _ h6) hA<|e_ (eI hn).1
end
end L2
namespace L2.B
open PySem PySem.Spec PyProof.Rows
def GZ:List Str:=["changes","pairs"]
noncomputable def G0:List RS:=
 [.lA (.cmp .Gt (.blt .len [(.v 0)]) (.c (.int 1))) [.vz 1 (.comp (some 2) [] .zip [(.xt (kf (some 0) 2) [(.v 0)]),(.xt (kf (some 1) 2) [(.v 0)])] none (.call 0 [(.v 0),(.v 1)])),
  .asg 0 (.bin .Add (.v 1) (.sl (.v 0) (some (.bin .Mult (.c (.int 2)) (.blt .len [(.v 1)]))) none))],
 .ret (.ix (.v 0) (.c (.int 0)))]
def Uh:List Str:=["then"]
def Ui:List Str:=["len","zip"]
def G1:List Str:=["self","size"]
noncomputable def G3:List RS:=
 [.ite (.or [(.not (.call 0 [(.v 1)])),(.cmp .Lt (.v 1) (.c (.int 0)))]) [.iX 0 [(.c (.str "a text has no such number of signs"))]] [],
 .fW (.v 0) "here" (.c<|.int 0),
 .fW (.v 0) "lengths" (.lst [(.v 1)]),
 .fW (.v 0) "parents" (.lst [(.c .aC)]),
 .fW (.v 0) "edges" (.lst [(.c .aC)]),
 .fW (.v 0) "below" (.lst [(.lst [])]),
 .fW (.v 0) "last_gone" (.lst [(.c .aC)])]
def Uj:List Str:=["NoPlace"]
def qF:List Str:=["self","node"]
noncomputable def G4:List RS:=
 [.ite (.not<|.call 0 [(.v 1),(.c<|.int 0),(.bin .Sub (.bK 0 "many" (.v 0) [])<|.c<|.int 1)]) [.iX 0 [(.c<|.str "there is no such node")]] []]
def Uk:List Str:=["is_between"]
def Ul:List Str:=["many"]
def Ax:List Str:=["NoNode"]
def v5:List Str:=["self","change"]
noncomputable def G5:List RS:=
 [.ite (.cmp .NotEq (.ix (.call 0 [(.v 1)])<|.c<|.int 0)<|.ix (.fld (.v 0) "lengths")<|.fld (.v 0) "here") [.iX 0 [(.c<|.str "the change is over a text of another number of signs")]] []]
def G6:List Str:=["sizes"]
def Ay:List Str:=["BadFit"]
def m_:List Str:=["self"]
noncomputable def G7:List RS:=
 [.ret<|.blt .len [(.fld (.v 0) "parents")]]
noncomputable def G8:List RS:=
 [.drop (.bK 0 "need_node" (.v 0) [(.v 1)]),
 .ret (.ix (.fld (.v 0) "lengths") (.v 1))]
def Um:List Str:=["need_node"]
def G9:List Str:=["self","change","node"]
noncomputable def G_:List RS:=
 [.drop (.bK 0 "need_over" (.v 0) [(.v 1)]),
 .asg 2 (.bK 1 "many" (.v 0) []),
 .drop (.bg .append (.fld (.v 0) "parents") [(.fld (.v 0) "here")]),
 .drop (.bg .append (.fld (.v 0) "edges") [(.blt .list [(.v 1)])]),
 .drop (.bg .append (.fld (.v 0) "lengths") [(.ix (.call 0 [(.v 1)])<|.c<|.int 1)]),
 .drop (.bg .append (.fld (.v 0) "below") [(.lst [])]),
 .drop (.bg .append (.fld (.v 0) "last_gone") [(.c .aC)]),
 .drop (.bg .append (.ix (.fld (.v 0) "below")<|.fld (.v 0) "here") [(.v 2)]),
 .fW (.v 0) "here" (.v 2),
 .ret (.v 2)]
def Ha:List Str:=["list"]
def Uo:List Str:=["need_over","many"]
def Hb:List Str:=["self","node","other"]
noncomputable def Hc:List RS:=
 [.ret<|.iW (.cmp .Eq (.ix (.fld (.v 0) "parents")<|.v 2)<|.v 1) (.ix (.fld (.v 0) "edges")<|.v 2)<|.call 0 [(.ix (.fld (.v 0) "edges")<|.v 1)]]
def Up:List Str:=["back"]
noncomputable def He:List RS:=
 [.ite (.cmp .Eq (.fld (.v 0) "here") (.c (.int 0))) [.iX 0 [(.c (.str "the root has no parent"))]] [],
 .ret (.bK 0 "along" (.v 0) [(.lst [(.fld (.v 0) "here"),(.ix (.fld (.v 0) "parents") (.fld (.v 0) "here"))])])]
def Hf:List Str:=["along"]
def Hg:List Str:=["self","child"]
noncomputable def Hh:List RS:=
 [.asg 1 (.ix (.fld (.v 0) "last_gone") (.fld (.v 0) "here")),
 .ite (.cmp .Is (.v 1)<|.c .aC) [.iX 0 [(.c<|.str "this node has no child")]] [],
 .ret (.bK 0 "along" (.v 0) [(.lst [(.fld (.v 0) "here"),(.v 1)])])]
noncomputable def Hi:List RS:=
 [.ret<|.bK 0 "along" (.v 0) [(.bK 1 "way" (.v 0) [(.fld (.v 0) "here"),(.v 1)])]]
def Uq:List Str:=["along","way"]
def Hj:List Str:=["self","node","row"]
noncomputable def Hk:List RS:=
 [.asg 2 (.lst [(.v 1)]),
 .lA (.cmp .NotEq (.ix (.v 2)<|.neg<|.c<|.int 1)<|.c<|.int 0) [.drop<|.bg .append (.v 2) [(.ix (.fld (.v 0) "parents")<|.ix (.v 2)<|.neg<|.c<|.int 1)]],
 .ret (.v 2)]
def Hl:List Str:=["self","one","other","ups","downs"]
noncomputable def Az:List RS:=
 [.drop (.bK 0 "need_node" (.v 0) [(.v 1)]),
 .drop (.bK 0 "need_node" (.v 0) [(.v 2)]),
 .asg 3 (.bK 1 "upward" (.v 0) [(.v 1)]),
 .asg 4 (.bK 1 "upward" (.v 0) [(.v 2)]),
 .lA (.and [(.cmp .Gt (.blt .len [(.v 3)]) (.c (.int 1))),(.cmp .Gt (.blt .len [(.v 4)]) (.c (.int 1))),(.cmp .Eq (.ix (.v 3) (.neg (.c (.int 2)))) (.ix (.v 4) (.neg (.c (.int 2)))))]) [.drop (.bg .pop (.v 3) []),
  .drop (.bg .pop (.v 4) [])],
 .ret (.bin .Add (.v 3) (.xt Aw [(.sl (.v 4) none (some (.neg (.c (.int 1)))))]))]
def Ur:List Str:=["len","list","reversed"]
def Us:List Str:=["need_node","upward"]
structure iu (K:Frag) (C:Addr):Prop where
 cl:fF K C
 iw:eY K C "here"
 sW:eY K C "lengths"
 oT:eY K C "parents"
 v7:eY K C "edges"
 AA:eY K C "below"
 v8:eY K C "last_gone"
end L2.B
namespace L2.N
open PySem PySem.Spec
theorem Ut(n:Nat):sliceRange ((n:Int) - 1) (-1) (-1)=(List.range n).map fun k=>n - 1 - k:=by
 unfold sliceRange
 have h1: ¬((-1:Int) >0):=by decide
 simp only[h1,if_false]
 have e:(if (n:Int) - 1> -1 then ((n:Int) - 1 - -1 - -1 - 1) / (- -1) else 0).toNat=n:=by
  by_cases z:n=0
  ·subst z;rfl
  ·rw[if_pos (by lia)]
   have:((n:Int) - 1 - -1 - -1 - 1) / (- -1)=n:=by
    have h2:(n:Int) - 1 - -1 - -1 - 1=n:=by lia
    rw[h2]
    show(n:Int) / 1=n
    exact Int.ediv_one _
   rw[this];lia
 rw[e]
 refine zbC fun k hk=> ?_
 have:=zbL.mp hk
 show((n:Int) - 1+ -1* (k:Int)).toNat=n - 1 - k
 lia
theorem Uu(xs:List V):lJ xs none none (some<|-1)=xs.reverse:=by
 unfold lJ
 show(sliceRange ((xs.length:Int) - 1) (-1)<|-1).filterMap (xs[·]?)=xs.reverse
 rw[Ut,zbo]
 refine zbV fun i=> ?_
 have e:(List.range xs.length).filterMap ((fun x=>xs[x]?)∘fun k=>xs.length - 1 - k)=xs.reverse:=by
  have: ∀m,m<=xs.length->(List.range m).filterMap ((fun x=>xs[x]?)∘fun k=>xs.length - 1 - k)=xs.reverse.take m:=by
   intro m
   induction m with
   | zero=>intro _;rfl
   | succ m ih=>
    intro hm
    rw[List.range_succ,List.filterMap_append,ih (by lia),zbr,zbW (by lia)]
    have h:xs.length - 1 - m<xs.length:=by lia
    have e1:((fun x=>xs[x]?)∘fun k=>xs.length - 1 - k) m=some xs[xs.length - 1 - m]:=zau h
    rw[zce e1,zau h];rfl
  rw[this xs.length<|zqR _,zaG (by rw[zaF];exact zqR _)]
 rw[e]
def df:List V->List V
 | []=> []
 | [x]=> [x]
 | x::_::r=>x::df r
theorem Hm(a n:Nat)(ha:a<=n):sliceRange (a:Int) (n:Int) 2=(List.range<|(n - a+1) / 2).map fun k=>a+2*k:=by
 unfold sliceRange
 have h1:(2:Int) >0:=by decide
 simp only[h1,if_true]
 have e:(if (a:Int) < (n:Int) then ((n:Int) - (a:Int)+2 - 1) / 2 else 0).toNat=(n - a+1) / 2:=by
  by_cases z:a<n
  ·rw[if_pos (by lia)];lia
  ·rw[if_neg (by lia)];lia
 rw[e]
 refine zbC fun k hk=> ?_
 show((a:Int)+2* (k:Int)).toNat=a+2*k
 lia
theorem AB: ∀(xs:List V),((List.range<|(xs.length+1) / 2).map fun k=>2*k).filterMap (xs[·]?)=df xs
 | []=>rfl
 | [x]=>by
  have e:([x].length+1) / 2=1:=by simp
  rw[e]
  simp[df]
 | x::y::r=>by
  have ih:=AB r
  have e:((x::y::r).length+1) / 2=(r.length+1) / 2+1:=by
   show(r.length+1+1+1) / 2=_;lia
  rw[e,List.range_succ_eq_map,zay,zbs,zbM]
  show x::List.filterMap _ _=x::df r
  rw[<-ih,zbo,zbo]
  congr 1
theorem Uv(xs:List V):lJ xs (some 0) none (some 2)=df xs:=by
 unfold lJ
 have e:sliceBounds (some 0) none (some 2) xs.length=(((0:Nat):Int),(xs.length:Int),2):=by
  unfold sliceBounds
  simp
  lia
 rw[e]
 show(sliceRange ((0:Nat):Int) (xs.length:Int) 2).filterMap (xs[·]?)=_
 rw[Hm 0 _<|zqZ _,Nat.sub_zero,<-AB xs]
 congr 1
 refine zbC fun k _=> ?_
 lia
theorem Uw(xs:List V):lJ xs (some 1) none (some 2)=df (xs.drop 1):=by
 unfold lJ
 cases xs with
 | nil=>rfl
 | cons x r=>
  have e:sliceBounds (some 1) none (some 2) (x::r).length=(((1:Nat):Int),((x::r).length:Int),2):=by
   unfold sliceBounds
   simp
   lia
  rw[e]
  show(sliceRange ((1:Nat):Int) ((x::r).length:Int) 2).filterMap ((x::r)[·]?)=_
  rw[Hm 1 _ (by rw[zao];lia)]
  show _=df r
  rw[<-AB r,zbo,zbo,zao,Nat.add_sub_cancel]
  congr 1
  funext k
  show(x::r)[1+2*k]?=r[2*k]?
  rw[Nat.add_comm 1<|2*k,zbD]
end L2.N
namespace L2.B
open PySem PySem.Spec PyProof.Rows
def fg(H H':Hp):Prop:= ∀b xs,H b=some (.tup xs)->H' b=some (.tup xs)
theorem dr{H H':Hp}(h:aB H H'):fg H H':=fun b xs e=>h b _ e
theorem sameNew{H:Hp}{p:Addr}{o:HO}(h:H p=none):aB H (upd H p o):=fun b u e=>by rw[aN<|bZ e h];exact e
def aF(c:Addr)(H H':Hp):Prop:= ∀b o,H b=some o->b≠c->H' b=some o
theorem aF.upd{H:Hp}{c:Addr}{o:HO}:aF c H (upd H c o):=fun b u e n=>by rw[aN n];exact e
theorem aF.trans{c:Addr}{H H1 H2:Hp}(a:aF c H H1)(b:aF c H1 H2):aF c H H2:=fun d o e n=>b d o (a d o e n) n
theorem aF.same{c:Addr}{H H1 H2:Hp}(a:aF c H H1)(b:aB H1 H2):aF c H H2:=fun d o e n=>b d o (a d o e n)
theorem sameBut{c:Addr}{H H1 H2:Hp}(a:aB H H1)(b:aF c H1 H2):aF c H H2:=fun d o e n=>b d o (a d o e) n
theorem ni{c:Addr}{H H1 H2:Hp}(a:aB H H1)(hc:H c=none)(b:aF c H1 H2):aB H H2:=fun d o e=>b d o (a d o e) (bZ e hc)
theorem aF.bz{c:Addr}{H H':Hp}{xs:List V}(h:aF c H H')(hc:H c=some (.lst xs)):fg H H':=fun b ys e=>h b _ e (fun z=>by rw[z,hc] at e;cases e)
theorem iF{c:Bool}{A B:Prop}(q:B)(h:c=false:=by first | rfl | decide):if c=true then A else B:=by
 rw[h];exact gE q
theorem iT{c:Bool}{A B:Prop}(q:A)(h:c=true:=by first | rfl | decide):if c=true then A else B:=by
 rw[h];exact fI q
inductive Pt where | keep (n:Int) | put (s:Str) | cut (s:Str)
 deriving DecidableEq
def Pt.word:Pt->Str | .keep _=> "keep" | .put _=> "put" | .cut _=> "cut"
def Pt.val:Pt->V | .keep n=> .int n | .put s=> .str s | .cut s=> .str s
def hV(H:Hp)(v:V)(p:Pt):Prop:= ∃a,v= .ref a/\H a=some (.tup [.str p.word,p.val])
abbrev aR(H:Hp):List V->List Pt->Prop:=Paired (hV H)
theorem hV.mono{H H':Hp}{v:V}{p:Pt}(t:fg H H')(h:hV H v p):hV H' v p:=by
 obtain⟨a,e,h⟩:=h
 exact⟨a,e,t _ _ h⟩
theorem aR.mono{H H':Hp}(t:fg H H'): ∀{vs:List V} {ps:List Pt},aR H vs ps->aR H' vs ps
 | _,_, .nil=> .nil
 | _,_, .cons h r=> .cons (h.mono t) (aR.mono t r)
theorem aR.get{H:Hp}: ∀{vs:List V} {ps:List Pt} {i:Nat} {v:V},aR H vs ps->vs[i]?=some v-> ∃p,ps[i]?=some p/\hV H v p
 | _,_,i,v, .nil,e=>by simp at e
 | _,_,0,v, .cons h r,e=>by simp at e;subst e;exact⟨_,rfl,h⟩
 | _,_,i+1,v, .cons h r,e=>by
  obtain⟨p,a,b⟩:=aR.get (i:=i) r (by simpa using e)
  exact⟨p,by simpa using a,b⟩
theorem aR.snoc{H:Hp}{vs:List V}{ps:List Pt}{v:V}{p:Pt}(h:aR H vs ps)(q:hV H v p):aR H (vs++ [v]) (ps++ [p]):=Paired.snoc h q
theorem aR.dropLast{H:Hp}: ∀{vs:List V} {ps:List Pt},aR H vs ps->aR H vs.dropLast ps.dropLast
 | _,_, .nil=> .nil
 | _,_, .cons h .nil=> .nil
 | _,_, .cons h (.cons h2 r)=> .cons h (aR.dropLast<|.cons h2 r)
def fi(w a:Str):Bool:=w !=a && !(a=="cut" && w=="put")
def Hn:Sp:=fun vs H Q E=> ∃w a,vs=[.str w, .str a]/\Q (.bl<|fi w a) H
theorem Ux{K:Frag}(vs:List V)(H:Hp)(Q:VK)(E:XK)(h:Hn vs H Q E):ax (aS K [] [] (E:=E)) Gm {nx:=fun _ H'=>Q .aC H',rt:=Q} (start Gk vs) H:=by
 obtain⟨w,a,rfl,q⟩:=h
 refine⟨_,rfl,_,rfl,_,rfl, ?_⟩
 unfold fi at q
 refine mJ (fun h=> ?_)<|fun h=> ?_
 ·rw[zaS,gZ] at h
  have e:(w !=a)=true:=h
  rw[e] at q
  refine⟨_,rfl,_,rfl, ?_⟩
  refine mJ (fun h2=> ?_)<|fun h2=> ?_
  ·rw[zaM,gZ] at h2
   rw[h2] at q
   refine⟨_,rfl, ?_⟩
   show Q (.bl<|!(false ^^ decide (V.str w=V.str "put"))) H
   rw[zaM,gZ]
   exact q
  ·rw[zaM,gZ] at h2
   have e2:(a=="cut")=false:=by simpa using h2
   rw[e2] at q
   exact q
 ·rw[zaS,gZ] at h
  have e:(w !=a)=false:=by simpa using h
  rw[e] at q
  exact q
def qG:Pt->Int | .keep n=>n | .put s=>s.length | .cut s=>s.length
def AD:Pt->Prop | .keep _=>True | .put s=>s.length<=1000000 | .cut s=>s.length<=1000000
theorem bQ{n:Nat}(h:n<=1000000):n<=sizeLine:=zaw h (by decide)
theorem dY{n:Nat}(h:n<=1000000):n<sizeLine:=Nat.lt_of_le_of_lt h (by decide)
def qH:Sp:=fun vs H Q E=> ∃v p,vs=[v]/\hV H v p/\AD p/\Q (.int<|qG p) H
theorem Uy{K:Frag}(vs:List V)(H:Hp)(Q:VK)(E:XK)(h:qH vs H Q E):ax (aS K [] [] (E:=E)) Gr {nx:=fun _ H'=>Q .aC H',rt:=Q} (start Gq vs) H:=by
 obtain⟨v,p,rfl,⟨a,rfl,ha⟩,ho,q⟩:=h
 refine⟨_,rfl, .inr<|.inl ⟨_,_,_,_,rfl,rfl,aG.of ha,rfl,_,rfl, ?_⟩⟩
 rw[zaM,gZ]
 cases p with
 | keep n=>exact fI ⟨_,rfl, .inr<|.inl ⟨_,_,_,_,rfl,rfl,aG.of ha,rfl,q⟩⟩
 | put s=>exact gE ⟨_,rfl, .inr<|.inl ⟨_,_,_,_,rfl,rfl,aG.of ha,rfl,bQ ho,q⟩⟩
 | cut s=>exact gE ⟨_,rfl, .inr<|.inl ⟨_,_,_,_,rfl,rfl,aG.of ha,rfl,bQ ho,q⟩⟩
def cell(ns:List Int)(k:Nat):Int:=ns.getD k 0
def AE(K:Frag):Sp:=fun vs H Q E=> ∃(a:Addr) (ns:List Int) (k:Int),vs=[.ref a, .int k]/\aq K H a (ns.map V.int)/\0<=k/\Q (.int<|cell ns k.toNat) H
theorem Uz{K:Frag}(vs:List V)(H:Hp)(Q:VK)(E:XK)(h:AE K vs H Q E):ax (aS K [] [] (E:=E)) GF {nx:=fun _ H'=>Q .aC H',rt:=Q} (start GD vs) H:=by
 obtain⟨a,ns,k,rfl,ha,hk,q⟩:=h
 refine⟨_,rfl,_,rfl, .inl ⟨_,ha,trivial,_,rfl, ?_⟩⟩
 rw[zab]
 refine mJ (fun h=> ?_)<|fun h=> ?_
 ·have aK:k< (ns.length:Int):=of_decide_eq_true h
  refine⟨_,rfl,_,rfl, .inl ⟨_,_,_,_,rfl,rfl,ha, ?_,q⟩⟩
  have e:=cq (xs:=ns.map V.int) (j:=k.toNat) (v:= .int (cell ns k.toNat)) (by
   have:k.toNat<ns.length:=by lia
   simp[cell,this])
  rw[show((k.toNat:Nat):Int)=k by lia] at e
  exact e
 ·have hge: ¬k< (ns.length:Int):=fun z=>h (zqT z)
  have e:cell ns k.toNat=0:=by
   have z:ns[k.toNat]?=none:=List.getElem?_eq_none_iff.mpr (by lia)
   unfold cell
   rw[List.getD_eq_getElem?_getD,z];rfl
  rw[e] at q
  exact q
def SG:Str:=" !\"#$&'()*+,-./0123456789:;<=>?@ABCDEFGHIJKLMNOPQRSTUVWXYZ[\\]^_`abcdefghijklmnopqrstuvwxyz{|}~\n"
def good(x:Str):Prop:=x.length<=1000000/\ ∀c∈x.cps.toList,SG.cps.contains c=true
theorem takeWhile_all{α:Type}(p:α->Bool): ∀l:List α,(∀c∈l,p c=true)->l.takeWhile p=l
 | [],_=>rfl
 | c::l,h=>by rw[List.takeWhile_cons,h c zas,takeWhile_all p l fun d hd=>h d (zaj _ hd)];rfl
theorem UA(x y:Str)(h: ∀c∈x.cps.toList,y.cps.contains c=true):Txt.lstripChars x y="":=by
 have e0:stripLo y.cps.contains true x=x.length:=by
  unfold stripLo
  rw[if_pos rfl,takeWhile_all _ _ h]
  simp[Str.length]
 have e1:stripHi y.cps.contains false x x.length=x.length:=rfl
 unfold Txt.lstripChars Txt.stripBy stripSame stripped
 rw[e0,e1]
 split
 ·rename_i hq
  simp only[zah,beq_iff_eq] at hq
  have:x.cps= #[]:=zbT hq.1
  obtain⟨c⟩:=x
  have e:c= #[]:=this
  subst e
  rfl
 ·show(⟨x.cps.extract x.length x.length⟩:Str)=_
  have:x.cps.extract x.length x.length= #[]:=by simp[Str.length]
  rw[this];rfl
theorem AF{H:Hp}{a:Addr}{xs:List V}{T:Ty}{k:Bool->Prop}(h:H a=some (.tup xs))(q:k (T== .tuple)):bF T (.ref a) H k:=by
 show(match H a with | some (.lst _)=>k (T== .list) | some (.bX _<|.lst _)=>k (T== .list) | some (.tup _)=>k (T== .tuple) | some (.dK _)=>k (T== .dict) | some (.dT _)=>k (T== .dict) | _=>False)
 rw[h];exact q
theorem Ho{H:Hp}{a:Addr}{xs:List V}{T:Ty}{k:Bool->Prop}(h:H a=some (.lst xs))(q:k (T== .list)):bF T (.ref a) H k:=by
 show(match H a with | some (.lst _)=>k (T== .list) | some (.bX _<|.lst _)=>k (T== .list) | some (.tup _)=>k (T== .tuple) | some (.dK _)=>k (T== .dict) | some (.dT _)=>k (T== .dict) | _=>False)
 rw[h];exact q
abbrev gS:List (Str×V):=[("SIGNS", .str SG)]
def UB:Sp:=fun vs H Q E=> ∃x,vs=[.str x]/\good x/\Q (.bl true) H
theorem UC{K:Frag}(vs:List V)(H:Hp)(Q:VK)(E:XK)(h:UB vs H Q E):ax (aS K [] gS (E:=E)) An {nx:=fun _ H'=>Q .aC H',rt:=Q} (start lH vs) H:=by
 obtain⟨x,rfl,hx,q⟩:=h
 refine⟨_,rfl,rfl,_,rfl,fI ⟨_,rfl,rfl,bQ hx.1, ?_⟩⟩
 show Q (.bl<|false ^^ decide (V.str (Txt.lstripChars x SG)=V.str "")) H
 rw[UA x SG hx.2,zqT rfl]
 exact q
def bC:Pt->Prop | .keep n=>1<=n | .put s=>good s/\s≠"" | .cut s=>good s/\s≠""
def UD(K:Frag):Sp:=fun vs H Q E=> ∃w p xs,vs=[.str w, .ref p]/\aG K H p xs/\xs.all eR=true/\Q (.bl<|cG (.str w) xs) H
theorem UE{K:Frag}(vs:List V)(H:Hp)(Q:VK)(E:XK)(h:UD K vs H Q E):ax (aS K [] [] (E:=E)) Am {nx:=fun _ H'=>Q .aC H',rt:=Q} (start Al vs) H:=by
 obtain⟨w,p,xs,rfl,hp,hf,q⟩:=h
 exact⟨_,rfl,rfl,_,rfl,fI ⟨_,rfl,_,rfl,p,xs,rfl,(.inr hp),rfl,hf,q⟩⟩
def oU:Sp:=fun vs H Q E=> ∃v p,vs=[v]/\hV H v p/\bC p/\ ∀H',aB H H'->Q (.bl true) H'
def chainOk:Str->List Pt->Bool
 | _,[]=>true
 | a,p::r=>fi p.word a && chainOk p.word r
def i7(a:Str)(ps:List Pt):Nat->Str
 | 0=>a
 | i+1=>match ps[i]? with | some p=>p.word | none=> ""
theorem AG: ∀(ps:List Pt) (a:Str) (i:Nat) (p:Pt),chainOk a ps=true->ps[i]?=some p->fi p.word (i7 a ps i)=true
 | [],_,_,_,_,h=>by simp at h
 | q::r,a,0,p,h,e=>by
  simp only[chainOk,zah] at h
  simp at e;subst e;exact h.1
 | q::r,a,i+1,p,h,e=>by
  simp only[chainOk,zah] at h
  have e':r[i]?=some p:=by simpa using e
  have ih:=AG r q.word i p h.2 e'
  cases i with
  | zero=>simpa[i7] using ih
  | succ i=>simpa[i7] using ih
abbrev UG:List (Str×Sp):=[("is_part",oU),("may_follow",Hn)]
def AH:Sp:=fun vs H Q E=> ∃a xs ps,vs=[.ref a]/\H a=some (.lst xs)/\aR H xs ps/\(∀p∈ps,bC p)/\chainOk "" ps=true/\ ∀H',aB H H'->Q .aC H'
theorem UH{K:Frag}{et:List (Str×Addr)}(vs:List V)(H:Hp)(Q:VK)(E:XK)(h:AH vs H Q E):ax (aS K UG [] (et:=et) (E:=E)) Gp {nx:=fun _ H'=>Q .aC H',rt:=Q} (start Gn vs) H:=by
 obtain⟨a,xs,ps,rfl,ha,cN,aE,cK,q⟩:=h
 refine⟨_,rfl,rfl,Ho ha ⟨_,rfl,a,rfl,⟨_,aq.of ha⟩,mD (K:=K) (a:=a) (xs:=xs) (fun i σ H2=> ∃v,σ=[some (.ref a),some (.str (i7 "" ps i)),v]/\aB H H2) ⟨none,rfl,aB.refl _⟩
  (fun i σ H2 _ ⟨_,_,s2⟩=>aq.of (s2 _ _ ha)) ?_ ?_⟩⟩
 ·rintro i x σ H2 hi ⟨v,rfl,s2⟩
  obtain⟨p,hp,iy⟩:=cN.get hi
  obtain⟨b,rfl,hb⟩:=iy.mono (dr s2)
  refine⟨_,rfl,_,p,rfl,⟨b,rfl,hb⟩,aE p<|zae hp,fun H3 s3=> ?_⟩
  refine⟨_,rfl, .inr<|.inl ⟨_,_,_,_,rfl,rfl,aG.of<|s3 _ _ hb,rfl,_,rfl,p.word,_,rfl, ?_⟩⟩
  have e:=AG ps "" i p cK hp
  show(fun c H1=>if (!c)=true then _ else _) (fi p.word<|i7 "" ps i) H3
  rw[e]
  refine⟨_,rfl, .inr<|.inl ⟨_,_,_,_,rfl,rfl,aG.of<|s3 _ _ hb,rfl,some<|.ref b, ?_,s2.trans s3⟩⟩
  show[some<|V.ref a,some<|V.str p.word,some<|V.ref b]=_
  have e2:i7 "" ps (i+1)=p.word:=by simp only[i7,hp]
  rw[e2]
 ·rintro σ H2 ⟨v,rfl,s2⟩
  exact q H2 s2
def overOf(ps:List Pt):List Int:=(ps.filter fun p=>decide (p.word≠ ("put":Str))).map qG
def qI(ps:List Pt):List Int:=(ps.filter fun p=>decide (p.word≠ ("cut":Str))).map qG
abbrev Hq:List (Str×Sp):=[("need_change",AH),("part_size",qH)]
def lL:Sp:=fun vs H Q E=> ∃a xs ps,vs=[.ref a]/\H a=some (.lst xs)/\aR H xs ps/\(∀p∈ps,bC p)/\chainOk "" ps=true/\ps.length<=1000000/\
 ∀t H',aB H H'->H' t=some (.tup [.int (overOf ps).sum, .int (qI ps).sum])->Q (.ref t) H'
theorem v9{p:Pt}(h:bC p):AD p:=by
 cases p with
 | keep n=>trivial
 | put s=>exact h.1.1
 | cut s=>exact h.1.1
theorem UI{α:Type}(p:α->Bool)(l:List α)(i:Nat)(v:α)(h:l[i]?=some v):(l.take<|i+1).filter p=(l.take i).filter p++ (if p v then [v] else []):=by
 rw[zbr,h,zbX]
 cases hp:p v<;>simp[hp]
theorem UJ{K:Frag}(vs:List V)(H:Hp)(Q:VK)(E:XK)(h:lL vs H Q E):ax (aS K Hq [] (E:=E)) Gu {nx:=fun _ H'=>Q .aC H',rt:=Q} (start Gs vs) H:=by
 obtain⟨a,xs,ps,rfl,ha,cN,aE,cK,hlen,q⟩:=h
 refine⟨_,rfl,a,xs,ps,rfl,ha,cN,aE,cK,fun H1 s1=> ?_⟩
 have hl:=Paired.length cN
 have comp: ∀(w:Str) (H1:Hp) (Q1:VK) (σ:St),aB H H1->σ[0]?=some (some<|.ref a)->
   (∀b H2,aB H H2->H2 b=some (.lst<|((ps.filter fun p=>decide (p.word≠w)).map qG).map V.int)->Q1 (.ref b) H2)->
   af (aS K Hq [] (E:=E)) (.comp none [] .list [(.v 0)] (some<|.cmp .NotEq (.ix (.v 0)<|.c<|.int 0)<|.c<|.str w)<|.call 1 [(.v 0)]) σ H1 Q1:=by
  intro w H1 Q1 σ s1 hσ hq
  refine⟨_,hσ,a,rfl,⟨_,aq.of<|s1 _ _ ha⟩,fun i m ys H2=>m=xs.length - i/\i<=xs.length/\aB H H2/\ys=(((ps.take i).filter fun p=>decide (p.word≠w)).map qG).map V.int,⟨_,rfl,zqZ _,s1,rfl⟩, ?_⟩
  rintro i m ys H2 ⟨rfl,hi,s2,rfl⟩
  by_cases aK:i<xs.length
  ·refine .inr ⟨⟨xs,xs[i],aq.of<|s2 _ _ ha,by simp[aK]⟩, ?_⟩
   rintro x H3 ⟨rfl,hx⟩
   have kW:=hx xs (aq.of<|s2 _ _ ha)
   obtain⟨p,hp,iy⟩:=cN.get kW
   obtain⟨b,rfl,hb⟩:=iy.mono (dr s2)
   refine⟨_,rfl, .inr<|.inl ⟨_,_,_,_,rfl,rfl,aG.of hb,rfl,_,rfl, ?_⟩⟩
   rw[zaS,gZ]
   have tf:=UI (fun p=>decide<|p.word≠w) ps i p hp
   have hc:((ps.take i).filter fun p=>decide (p.word≠w)).length<=1000000:=zaw (zcg _ _) (zaw (List.length_take_le _ _) (by lia))
   refine mJ (fun h=> ?_)<|fun h=> ?_
   ·have e:decide (p.word≠w)=true:=by simpa using h
    refine⟨_,rfl,_,p,rfl,⟨b,rfl,hb⟩,v9<|aE p<|zae hp, ?_,xs.length - (i+1),by lia,rfl,aK,s2, ?_⟩
    ·rw[zab,zab];exact dY hc
    ·rw[tf,e];simp
   ·have e:decide (p.word≠w)=false:=by simpa using h
    refine⟨xs.length - (i+1),by lia,rfl,aK,s2, ?_⟩
    rw[tf,e];simp
  ·have iz:i=xs.length:=by lia
   subst iz
   refine .inl ⟨⟨xs,aq.of<|s2 _ _ ha,zqR _⟩,fun p hp=> ?_⟩
   have e:ps.take xs.length=ps:=zaG (by lia)
   rw[e]
   exact hq p _ (s2.trans<|sameNew hp) au
 refine Gf<|Gg<|Gh<|comp "put" H1 _ _ s1 rfl fun b1 H2 s2 e2=> ⟨_,aq.of e2, ?_⟩
 refine Gf<|Gg<|Gh<|comp "cut" H2 _ _ s2 rfl fun b2 H3 s3 e3=> ⟨_,aq.of e3, ?_⟩
 refine⟨_,rfl,_,rfl,(by show 2<=sizeLine;decide),fun t ht=> ?_⟩
 exact q t _ (s3.trans<|sameNew ht) au
def cat(ts:List Str):Str:=Txt.join "" ts
def sz(ts:List Str):Nat:=(ts.map Str.length).sum
theorem ofString_empty:(Str.ofString "")=⟨#[]⟩:=rfl
theorem qJ(ts:List Str):(cat ts).cps.toList=(ts.map fun t=>t.cps.toList).flatten:=by
 have e:(Str.ofString "").cps= #[]:=rfl
 cases ts with
 | nil=>rfl
 | cons t r=>
  show(r.foldl (fun acc p=>acc++ (Str.ofString "").cps++p.cps) t.cps).toList=_
  rw[e]
  have go: ∀(r:List Str) (acc:Array Nat),(r.foldl (fun acc p=>acc++ #[]++p.cps) acc).toList=acc.toList++ (r.map fun t=>t.cps.toList).flatten:=by
   intro r
   induction r with
   | nil=>intro acc;simp
   | cons q r ih=>
    intro acc
    show(r.foldl (fun acc p=>acc++ #[]++p.cps)<|acc++ #[]++q.cps).toList=_
    rw[ih];simp
  rw[go];simp
theorem i8{x y:Str}(h:x.cps.toList=y.cps.toList):x=y:=by
 obtain⟨x⟩:=x
 obtain⟨y⟩:=y
 exact congrArg Str.mk<|Array.toList_inj.mp h
theorem app_list(x y:Str):(x++y).cps.toList=x.cps.toList++y.cps.toList:=by
 show(x.cps++y.cps).toList=_
 simp
theorem UK(a b:List Str):cat (a++b)=cat a++cat b:=i8 (by rw[app_list,qJ,qJ,qJ];simp)
theorem UL(x:Str):cat [x]=x:=i8 (by rw[qJ];simp)
theorem len_list(x:Str):x.length=x.cps.toList.length:=by simp[Str.length]
theorem Hr(ts:List Str):(cat ts).length=sz ts:=by
 rw[len_list,qJ,List.length_flatten]
 unfold sz
 rw[zbs]
 congr 1
theorem Hs(x:Str):x++ (Str.ofString "")=x:=i8 (by rw[app_list];simp[ofString_empty])
theorem qK(x:Str):(Str.ofString "")++x=x:=i8 (by rw[app_list];simp[ofString_empty])
theorem Ht(a b:List Str):sz (a++b)=sz a+sz b:=by simp[sz]
theorem joinOk_of{ts:List Str}(h:sz ts<=1000000):JoinOk "" ts=true:=by
 have go: ∀(l:List Str) (n:Nat),l.foldl (· + ·.length+ (Str.ofString "").length) n=n+sz l:=by
  intro l
  induction l with
  | nil=>intro n;rfl
  | cons t r ih=>
   intro n
   show r.foldl _ (n+t.length+0)=_
   rw[ih]
   show n+t.length+0+sz r=n+ (t.length+sz r)
   lia
 unfold JoinOk
 have e:ts.toArray.foldl (· + ·.length+ (Str.ofString "").length) 0=sz ts:=by
  rw[List.foldl_toArray,go,Nat.zero_add]
 rw[e]
 show(!decide (sz ts>sizeLine))=true
 rw[zqF (by have:=bQ h;lia)]
 rfl
def txt(mk:Str->Pt)(x:Str):List Pt:=if x="" then [] else [mk x]
def dt(ch:List Pt)(cw cI:List Str):List Pt:=ch++txt .put (cat cw)++txt .cut (cat cI)
def Hu:Sp:=fun vs H Q E=> ∃c p q xs ps cw cI,vs=[.ref c, .ref p, .ref q]/\H c=some (.lst xs)/\aR H xs ps/\H p=some (.lst<|cw.map .str)/\H q=some (.lst<|cI.map .str)/\
 sz cw<=1000000/\sz cI<=1000000/\ps.length<=900000/\ ∀H' br,aF c H H'->H' c=some (.lst br)->aR H' br (dt ps cw cI)->Q .aC H'
theorem UM{K:Frag}(vs:List V)(H:Hp)(Q:VK)(E:XK)(h:Hu vs H Q E):ax (aS K [] [] (E:=E)) Gy {nx:=fun _ H'=>Q .aC H',rt:=Q} (start Gx vs) H:=by
 obtain⟨c,p,q,xs,ps,cw,cI,rfl,hc,cN,hp,hq,UN,UO,hl,k⟩:=h
 have hlen:=Paired.length cN
 refine⟨rfl,_,rfl,cw,aq.of hp,joinOk_of UN, ?_⟩
 refine⟨rfl,_,rfl,cI,aq.of hq,joinOk_of UO, ?_⟩
 have Hv: ∀(i:Nat) (w x:Str) (mk:Str->Pt) (H1:Hp) (iA:List V) (iB:List Pt) (σ:St) (D:Ends),(∀y,(mk y).word=w/\(mk y).val= .str y)->H1 c=some (.lst iA)->aR H1 iA iB->iB.length<=950000->σ[0]?=some (some<|.ref c)->σ[i]?=some (some<|.str x)->
   (∀H2 gN,aF c H1 H2->H2 c=some (.lst gN)->aR H2 gN (iB++txt mk x)->D.nx σ H2)->
   cR (aS K [] [] (E:=E)) (.ite (.cmp .NotEq (.v i)<|.c<|.str "") [.drop<|.bg .append (.v 0) [(.tup [(.c<|.str w),(.v i)])]] []) D σ H1:=by
  intro i w x mk H1 iA iB σ D Hw hX qL da h0 hi kk
  have UP:=Paired.length qL
  refine⟨_,hi,_,rfl, ?_⟩
  rw[zaS,gZ]
  refine mJ (fun h=> ?_)<|fun h=> ?_
  ·have ne:x≠"":=by simpa using h
   refine⟨_,h0, .inl ⟨rfl,_,aq.of hX⟩,_,hi,(by show 2<=sizeLine;decide),fun t ht=> ?_⟩
   have sX:c≠t:=bZ hX ht
   refine⟨iA,(by rw[aN sX];exact hX),dY (by lia),kk _ (iA++ [.ref t]) ((sameBut (sameNew ht) aF.upd)) au ?_⟩
   have tt:fg H1 (upd (upd H1 t<|.tup [.str w, .str x]) c<|.lst<|iA++ [.ref t]):=(sameBut (sameNew ht) aF.upd).bz hX
   unfold txt
   rw[if_neg ne]
   refine aR.snoc (qL.mono tt) ⟨t,rfl, ?_⟩
   rw[aN sX.symm,au,(Hw x).1,(Hw x).2]
  ·have e:x="":=by simpa using h
   refine kk H1 iA (fun b o e _=>e) hX ?_
   unfold txt
   rw[if_pos e,zaf]
   exact qL
 refine Hv 3 "put" (cat cw) .put H xs ps _ _ (fun _=> ⟨rfl,rfl⟩) hc cN (by lia) rfl rfl fun H2 gN b2 cE lM=> ?_
 have l2:(ps++txt .put (cat cw)).length<=950000:=by
  rw[zqA]
  have:(txt .put<|cat cw).length<=1:=by unfold txt;split<;>simp
  lia
 refine Hv 4 "cut" (cat cI) .cut H2 gN _ _ _ (fun _=> ⟨rfl,rfl⟩) cE lM l2 rfl rfl fun H3 i9 b3 iC UQ=> ?_
 exact k H3 i9 (b2.trans b3) iC UQ
def cO(ch:List Pt)(n:Int):List Pt:=match ch.getLast? with
 | some (.keep m)=>ch.dropLast++ [.keep<|n+m]
 | _=>ch++ [.keep n]
def Hx:Sp:=fun vs H Q E=> ∃c n xs ps,vs=[.ref c, .int n]/\H c=some (.lst xs)/\aR H xs ps/\ps.length<=900000/\
 ∀H' br,aF c H H'->H' c=some (.lst br)->aR H' br (cO ps n)->Q .aC H'
theorem aR.last{H:Hp}{xs:List V}{ps:List Pt}(h:aR H xs ps)(hn:xs.length≠0): ∃v p,xs[xs.length - 1]?=some v/\fG xs (-1)=some v/\ps.getLast?=some p/\hV H v p:=by
 have aK:xs.length - 1<xs.length:=by lia
 obtain⟨p,hp,pv⟩:=h.get (i:=xs.length - 1) (v:=xs[xs.length - 1]) (by simp[aK])
 refine⟨xs[xs.length - 1],p,by simp[aK], ?_, ?_,pv⟩
 ·unfold fG eZ
  have: ¬(0:Int)<= -1:=by decide
  rw[if_neg this,if_pos (by lia)]
  have e:((-1:Int)+ (xs.length:Int)).toNat=xs.length - 1:=by lia
  show xs[((-1:Int)+ (xs.length:Int)).toNat]?=_
  rw[e];simp[aK]
 ·rw[List.getLast?_eq_getElem?,<-Paired.length h];exact hp
theorem UR{K:Frag}(vs:List V)(H:Hp)(Q:VK)(E:XK)(h:Hx vs H Q E):ax (aS K [] [] (E:=E)) Gw {nx:=fun _ H'=>Q .aC H',rt:=Q} (start Gv vs) H:=by
 obtain⟨c,n,xs,ps,rfl,hc,cN,hl,k⟩:=h
 have hlen:=Paired.length cN
 have fin: ∀(m:Int) (H1:Hp) (iA:List V) (iB:List Pt),aF c H H1->H1 c=some (.lst iA)->aR H1 iA iB->iB.length<=900000->cO ps n=iB++ [.keep m]->
   ax (aS K [] [] (E:=E)) [.drop<|.bg .append (.v 0) [(.tup [(.c<|.str "keep"),(.v 1)])]] {nx:=fun _ H'=>Q .aC H',rt:=Q} [some<|.ref c,some<|.int m] H1:=by
  intro m H1 iA iB b1 hX qL da e
  have UP:=Paired.length qL
  refine⟨_,rfl, .inl ⟨rfl,_,aq.of hX⟩,_,rfl,(by show 2<=sizeLine;decide),fun t ht=> ?_⟩
  have sX:c≠t:=bZ hX ht
  refine⟨iA,(by rw[aN sX];exact hX),dY (by lia),k _ (iA++ [.ref t]) (b1.trans<|sameBut (sameNew ht) aF.upd) au ?_⟩
  rw[e]
  refine aR.snoc (qL.mono<|(sameBut (sameNew ht) aF.upd).bz hX) ⟨t,rfl, ?_⟩
  rw[aN sX.symm,au];rfl
 refine⟨_,rfl, .inl ⟨_,aq.of hc,trivial,_,rfl, ?_⟩⟩
 refine mJ (fun h=> ?_)<|fun h=> ?_
 ·have hn:xs.length≠0:=by
   have:=of_decide_eq_true h
   lia
  obtain⟨v,p,e1,e2,e3,a,rfl,ha⟩:=cN.last hn
  refine⟨_,rfl, .inl ⟨_,_,_,_,rfl,rfl,aq.of hc,e2, .inr<|.inl ⟨_,_,_,_,rfl,rfl,aG.of ha,rfl,_,rfl, ?_⟩⟩⟩
  rw[zaM,gZ]
  cases p with
  | keep m=>
   have nj:upd H c (.lst xs.dropLast) a=some (.tup [.str "keep", .int m]):=by rw[aN<|iM ha hc (by intro z;cases z)];exact ha
   refine⟨_,rfl,_,rfl, .inl ⟨rfl,_,aq.of hc⟩,xs,_,hc,e1, .inr<|.inl ⟨_,_,_,_,rfl,rfl,aG.of nj,rfl, ?_⟩⟩
   ·refine fin (n+m) _ xs.dropLast ps.dropLast aF.upd au (cN.dropLast.mono<|aF.upd.bz hc) (by rw[zcd];lia) ?_
    unfold cO
    rw[e3]
  | put s=>exact fin n H xs ps (fun b o e _=>e) hc cN hl (by unfold cO;rw[e3])
  | cut s=>exact fin n H xs ps (fun b o e _=>e) hc cN hl (by unfold cO;rw[e3])
 ·have e0:ps=[]:=by
   have: ¬(0:Int) < (xs.length:Int):=fun z=>h (zqT z)
   exact zaI.mp (by lia)
  exact fin n H xs ps (fun b o e _=>e) hc cN hl (by rw[e0];rfl)
abbrev NS:=List Pt×List Str×List Str
def cZ:NS->Pt->NS
 | (ch,p,c), .put s=> (ch,p++ [s],c)
 | (ch,p,c), .cut s=> (ch,p,c++ [s])
 | (ch,p,c), .keep n=>if 0<n then (cO (dt ch p c) n,[],[]) else (ch,p,c)
def lN(ps:List Pt):List Pt:=let s:=ps.foldl cZ ([],[],[]);dt s.1 s.2.1 s.2.2
def dy:Pt->Nat | .keep _=>0 | .put s=>s.length | .cut s=>s.length
def aA(ps:List Pt):Nat:=(ps.map dy).sum
theorem US(ps:List Pt)(i:Nat):aA (ps.take i)<=aA ps:=by
 have:aA ps=aA (ps.take i)+aA (ps.drop i):=by
  unfold aA
  rw[<-zbY,<-zap,zbE]
 lia
theorem UT{ps:List Pt}{i:Nat}{p:Pt}(h:ps[i]?=some p):aA (ps.take<|i+1)=aA (ps.take i)+dy p:=by
 rw[zbr,h]
 simp[aA]
theorem UU{α β:Type}{f:β->α->β}{b:β}{l:List α}{i:Nat}{p:α}(h:l[i]?=some p):(l.take<|i+1).foldl f b=f ((l.take i).foldl f b) p:=by
 rw[zbr,h,List.foldl_append]
 rfl
theorem Hy(mk:Str->Pt)(x:Str):(txt mk x).length<=1:=by unfold txt;split<;>simp
theorem v_(ch:List Pt)(p c:List Str):(dt ch p c).length<=ch.length+2:=by
 unfold dt
 have:=Hy .put (cat p)
 have:=Hy .cut (cat c)
 simp only[zqA]
 lia
theorem AI(ch:List Pt)(n:Int):(cO ch n).length<=ch.length+1:=by
 unfold cO
 split
 ·simp only[zqA,zcd,zaQ];lia
 ·simp
abbrev UW:List (Str×Sp):=[("add_texts",Hu),("add_keep",Hx)]
def nk:Sp:=fun vs H Q E=> ∃a xs ps,vs=[.ref a]/\H a=some (.lst xs)/\aR H xs ps/\ps.length<=100000/\aA ps<=100000/\
 ∀b H' ys,aB H H'->H b=none->H' b=some (.lst ys)->aR H' ys (lN ps)->Q (.ref b) H'
theorem UX{K:Frag}(vs:List V)(H:Hp)(Q:VK)(E:XK)(h:nk vs H Q E):ax (aS K UW [] (E:=E)) GA {nx:=fun _ H'=>Q .aC H',rt:=Q} (start Gz vs) H:=by
 obtain⟨a,xs,ps,rfl,ha,cN,hl,ht,k⟩:=h
 have hlen:=Paired.length cN
 refine⟨zqZ _,fun c hc=> ⟨zqZ _,fun p0 sY=> ⟨zqZ _,fun q0 qM=> ?_⟩⟩⟩
 have AJ:c≠p0:=fun z=>by rw[<-z,au] at sY;cases sY
 have Hz:c≠q0:=fun z=>by rw[<-z,aN AJ,au] at qM;cases qM
 have HA:p0≠q0:=fun z=>by rw[<-z,au] at qM;cases qM
 have s0:aB H (upd (upd (upd H c<|.lst []) p0<|.lst []) q0<|.lst []):=(sameNew hc).trans ((sameNew sY).trans<|sameNew qM)
 have UY:H p0=none:=(sameNew hc).free sY
 have UZ:H q0=none:=((sameNew hc).trans<|sameNew sY).free qM
 refine⟨_,rfl,a,rfl,⟨_,aq.of (s0 _ _ ha)⟩,mD (K:=K) (a:=a) (xs:=xs) (fun i σ H2=> ∃p q ch cw cI lO w x,σ=[some (.ref a),some (.ref c),some (.ref p),some (.ref q),w,x]/\H p=none/\H q=none/\p≠c/\q≠c/\p≠q/\aB H H2/\
   H2 c=some (.lst lO)/\aR H2 lO ch/\H2 p=some (.lst (cw.map .str))/\H2 q=some (.lst (cI.map .str))/\(ps.take i).foldl cZ ([],[],[])=(ch,cw,cI)/\ch.length<=3*i/\cw.length<=i/\cI.length<=i/\sz cw+sz cI<=aA (ps.take i))
  ⟨p0,q0,[],[],[],[],none,none,rfl,UY,UZ,AJ.symm,Hz.symm,HA,s0,(by rw[aN Hz,aN AJ,au]), .nil,(by rw[aN HA,au];rfl),au,rfl,by simp,by simp,by simp,by simp[sz]⟩
  (fun i σ H2 _ ⟨_,_,_,_,_,_,_,_,_,_,_,_,_,_,s2,_⟩=>aq.of (s2 _ _ ha)) ?_ ?_⟩
 ·rintro i x σ H2 hi ⟨p,q,ch,cw,cI,lO,w,x',rfl,fp,fq,pc,qc,pq,s2,qN,cK,nq,nr,ef,l1,l2,l3,l4⟩
  obtain⟨pt,oV,iy⟩:=cN.get hi
  obtain⟨b,rfl,hb⟩:=iy.mono (dr s2)
  have e9:i<ps.length:=(zak.mp oV).1
  have wa:(ps.take<|i+1).foldl cZ ([],[],[])=cZ (ch,cw,cI) pt:=by rw[UU oV,ef]
  have et:=UT oV
  have tb:=US ps i
  refine⟨b,_,rfl, .inl<|aG.of hb,rfl,_,_,rfl,_,_,rfl,rfl, ?_⟩
  cases pt with
  | put s=>
   refine⟨_,rfl,_,rfl,_,rfl, .inl ⟨rfl,_,aq.of nq⟩,_,rfl,_,nq,dY (by rw[zab];lia), ?_⟩
   have bt:aF p H2 (upd H2 p<|.lst<|cw.map V.str++ [.str s]):=aF.upd
   refine⟨p,q,ch,cw++ [s],cI,lO,_,_,rfl,fp,fq,pc,qc,pq,ni s2 fp bt,bt _ _ qN pc.symm,cK.mono<|bt.bz nq,(by rw[au,zap];rfl),bt _ _ nr pq.symm,wa,by lia,by simp;lia,by lia, ?_⟩
   rw[Ht,et]
   show sz cw+ (s.length+0)+sz cI<=aA (ps.take i)+s.length
   lia
  | cut s=>
   refine⟨_,rfl,_,rfl,_,rfl,_,rfl,_,rfl, .inl ⟨rfl,_,aq.of nr⟩,_,rfl,_,nr,dY (by rw[zab];lia), ?_⟩
   have bt:aF q H2 (upd H2 q<|.lst<|cI.map V.str++ [.str s]):=aF.upd
   refine⟨p,q,ch,cw,cI++ [s],lO,_,_,rfl,fp,fq,pc,qc,pq,ni s2 fq bt,bt _ _ qN qc.symm,cK.mono<|bt.bz nr,bt _ _ nq pq,(by rw[au,zap];rfl),wa,by lia,by lia,by simp;lia, ?_⟩
   rw[Ht,et]
   show sz cw+ (sz cI+ (s.length+0))<=aA (ps.take i)+s.length
   lia
  | keep n=>
   refine⟨_,rfl,_,rfl,_,rfl,_,rfl,_,rfl,trivial,_,rfl, ?_⟩
   refine mJ (fun h=> ?_)<|fun h=> ?_
   ·have hn:0<n:=of_decide_eq_true h
    have e2:cZ (ch,cw,cI) (.keep n)=(cO (dt ch cw cI) n,[],[]):=if_pos hn
    refine⟨_,rfl,_,rfl,_,rfl,c,p,q,lO,ch,cw,cI,rfl,qN,cK,nq,nr,by lia,by lia,by lia,fun H3 i9 b3 wb AK=> ?_⟩
    have s3:aB H H3:=ni s2 hc b3
    refine⟨zqZ _,fun p1 oW=> ⟨zqZ _,fun q1 sZ=> ?_⟩⟩
    have AL:c≠p1:=bZ wb oW
    have i_:upd H3 p1 (.lst []) c=some (.lst i9):=by rw[aN AL];exact wb
    have AM:c≠q1:=bZ i_ sZ
    have HB:p1≠q1:=fun z=>by rw[<-z,au] at sZ;cases sZ
    have lQ:upd (upd H3 p1<|.lst []) q1 (.lst []) c=some (.lst i9):=by rw[aN AM];exact i_
    have s5:aB H3 (upd (upd H3 p1<|.lst []) q1<|.lst []):=(sameNew oW).trans (sameNew sZ)
    refine⟨_,rfl,_,rfl,c,n,i9,_,rfl,lQ,AK.mono<|dr s5, ?_,fun H6 U0 b6 s_ U1=> ?_⟩
    ·have:=v_ ch cw cI
     lia
    ·refine⟨p1,q1,_,[],[],U0,_,_,rfl,s3.free oW,(s3.trans<|sameNew oW).free sZ,AL.symm,AM.symm,HB,ni (s3.trans s5) hc b6,s_,U1,b6 _ _ (by rw[aN HB,au];rfl) AL.symm,b6 _ _ (by rw[au];rfl) AM.symm,wa.trans e2, ?_,by simp,by simp,by simp[sz]⟩
     have:=v_ ch cw cI
     have:=AI (dt ch cw cI) n
     lia
   ·have hn: ¬0<n:=fun z=>h (zqT z)
    have e2:cZ (ch,cw,cI) (.keep n)=(ch,cw,cI):=if_neg hn
    refine⟨p,q,ch,cw,cI,lO,_,_,rfl,fp,fq,pc,qc,pq,s2,qN,cK,nq,nr,wa.trans e2,by lia,by lia,by lia,by lia⟩
 ·rintro σ H2 ⟨p,q,ch,cw,cI,lO,w,x',rfl,fp,fq,pc,qc,pq,s2,qN,cK,nq,nr,ef,l1,l2,l3,l4⟩
  have e:ps.take xs.length=ps:=zaG (by lia)
  rw[e] at ef l4
  refine⟨_,rfl,_,rfl,_,rfl,c,p,q,lO,ch,cw,cI,rfl,qN,cK,nq,nr,by lia,by lia,by lia,fun H3 i9 b3 wb AK=> ?_⟩
  refine⟨_,rfl,k c H3 i9 (ni s2 hc b3) hc wb ?_⟩
  unfold lN
  rw[ef]
  exact AK
def A1:Str:=" !\"#$&'()*+,-./0123456789:;<=>?@ABCDEFGHIJKLMNOPQRSTUVWXYZ[\\]^_`"
def A2:Str:="abcdefghijklmnopqrstuvwxyz{|}~\n"
def HC(al:Str):Prop:=0<al.length/\al.length<=1000/\ ∀c∈al.cps.toList,SG.cps.contains c=true
theorem U2{al:Str}(h:(decide (0<al.length) && decide (al.length<=1000) && al.cps.toList.all fun c=>SG.cps.contains c)=true):HC al:=by
 simp only[zah,decide_eq_true_eq,zbA] at h
 exact⟨h.1.1,h.1.2,h.2⟩
theorem U3:HC (A1++A2):=U2 (by decide+kernel)
theorem U4:A1.length+A2.length<=sizeLine:=by decide+kernel
def AN(t:Str):Prop:=t.length=1/\ ∀c∈t.cps.toList,SG.cps.contains c=true
theorem wc: ∀(ts:List Str),(∀t∈ts,AN t)->sz ts=ts.length
 | [],_=>rfl
 | t::r,h=>by
  show t.length+sz r=r.length+1
  rw[(h t zas).1,wc r fun q hq=>h q (zaj _ hq)]
  lia
theorem U5{ts:List Str}(h: ∀t∈ts,AN t)(hl:ts.length<=1000):good (cat ts):=by
 refine⟨by rw[Hr,wc ts h];lia,fun c hc=> ?_⟩
 rw[qJ,List.mem_flatten] at hc
 obtain⟨l,hl,hc⟩:=hc
 obtain⟨t,ht,rfl⟩:=zaX.mp hl
 exact(h t ht).2 c hc
def gO:Pt->Prop | .keep n=>0<=n | .put s=>good s/\s.length<=100000 | .cut s=>good s/\s.length<=100000
abbrev Row:=Str×Str×Int
def bD:List Row×Row->Pt->List Row×Row
 | (pre,r), .keep n=> (pre,(r.1,r.2.1,r.2.2+n))
 | (pre,r), .put s=>if s="" then (pre,r) else if 0<r.2.2 then (pre++ [r],(Str.ofString ""++s,"",0)) else (pre,(r.1++s,r.2.1,r.2.2))
 | (pre,r), .cut s=>if s="" then (pre,r) else if 0<r.2.2 then (pre++ [r],("",Str.ofString ""++s,0)) else (pre,(r.1,r.2.1++s,r.2.2))
def fY(r:Row):List Pt:=txt .put r.1++txt .cut r.2.1++ (if r.2.2=0 then [] else [.keep r.2.2])
def cJ(rows:List Row):List Pt:=(rows.map fY).flatten
def U6(ps:List Pt):List Row:=let s:=ps.foldl bD ([],("","",0));s.1++ [s.2]
def fj(ps:List Pt):List Pt:=cJ (U6 ps)
abbrev Dn(Q:VK):Ends:={nx:=fun _ H'=>Q .aC H',rt:=Q}
theorem oX(x y:Str):(x++y).length=x.length+y.length:=by rw[len_list,app_list,zqA,<-len_list,<-len_list]
theorem we(a b:List Row):cJ (a++b)=cJ a++cJ b:=by simp[cJ]
theorem tj(r:Row):cJ [r]=fY r:=by simp[cJ]
theorem AO{r:Row}(h:0<r.2.2):fY r=txt .put r.1++txt .cut r.2.1++ [.keep r.2.2]:=by
 unfold fY
 rw[if_neg (by lia)]
theorem HD{r:Row}(h:r.2.2=0):fY r=txt .put r.1++txt .cut r.2.1:=by
 unfold fY
 rw[if_pos h,zaf]
def HE:Pt->Bool | .keep _=>true | _=>false
theorem tm{ch:List Pt}{n:Int}(h: ∀p,ch.getLast?=some p->HE p=false):cO ch n=ch++ [.keep n]:=by
 unfold cO
 split
 ·rename_i m e
  have:=h _ e
  cases this
 ·rfl
theorem tw(ch:List Pt)(m n:Int):cO (ch++ [.keep m]) n=ch++ [.keep<|n+m]:=by
 unfold cO
 rw[zch]
 simp
theorem txt_nil(mk:Str->Pt):txt mk ""=[]:=if_pos rfl
theorem fZ{mk:Str->Pt}{x:Str}(h:x≠""):txt mk x=[mk x]:=if_neg h
theorem U7{pre:List Row}{r:Row}(h:pre≠ []->r.1≠""\/r.2.1≠""): ∀p,(cJ pre++txt .put r.1++txt .cut r.2.1).getLast?=some p->HE p=false:=by
 intro p hp
 by_cases h2:r.2.1=""
 ·rw[h2,txt_nil,zaf] at hp
  by_cases h1:r.1=""
  ·rw[h1,txt_nil,zaf] at hp
   by_cases kU:pre=[]
   ·rw[kU] at hp
    simp[cJ] at hp
   ·rcases h kU with z | z
    ·exact absurd h1 z
    ·exact absurd h2 z
  ·rw[fZ h1,zch] at hp
   simp at hp;subst hp;rfl
 ·rw[fZ h2,zch] at hp
  simp at hp;subst hp;rfl
def Rel(s:NS)(t:List Row×Row):Prop:=
 (∀x∈t.1,0<x.2.2)/\(t.1≠ []->t.2.1≠""\/t.2.2.1≠"")/\0<=t.2.2.2/\
  ((t.2.2.2=0/\s.1=cJ t.1/\cat s.2.1=t.2.1/\cat s.2.2=t.2.2.1)\/(0<t.2.2.2/\s.1=cJ (t.1++ [t.2])/\cat s.2.1=""/\cat s.2.2=""))
theorem nu(a:List Str)(s:Str):cat (a++ [s])=cat a++s:=by rw[UK,UL]
theorem U8{s:NS}{t:List Row×Row}{p:Pt}(R:Rel s t)(hp:gO p):Rel (cZ s p) (bD t p):=by
 obtain⟨ch,pu,cu⟩:=s
 obtain⟨pre,r⟩:=t
 obtain⟨r1,r2,r3,r4⟩:=R
 simp only at r1 r2 r3 r4
 cases p with
 | keep n=>
  have tD:0<=n:=hp
  by_cases hn:0<n
  ·have e1:cZ (ch,pu,cu) (.keep n)=(cO (dt ch pu cu) n,[],[]):=if_pos hn
   rw[e1]
   refine⟨r1,r2,by show 0<=r.2.2+n;lia, .inr ⟨by show 0<r.2.2+n;lia, ?_,rfl,rfl⟩⟩
   show cO (dt ch pu cu) n=cJ (pre++ [(r.1,r.2.1,r.2.2+n)])
   rw[we,tj,AO (r:=(r.1,r.2.1,r.2.2+n)) (by show 0<r.2.2+n;lia)]
   rcases r4 with⟨k0,e2,e3,e4⟩ | ⟨k0,e2,e3,e4⟩
   ·have ea:dt ch pu cu=cJ pre++txt .put r.1++txt .cut r.2.1:=by unfold dt;rw[e2,e3,e4]
    rw[ea,tm<|U7 r2]
    show _=cJ pre++ (txt .put r.1++txt .cut r.2.1++ [.keep<|r.2.2+n])
    rw[k0,Int.zero_add];simp
   ·have ea:dt ch pu cu=cJ pre++ (txt .put r.1++txt .cut r.2.1)++ [.keep r.2.2]:=by
     unfold dt
     rw[e2,e3,e4,txt_nil,txt_nil,zaf,zaf,we,tj,AO k0];simp
    rw[ea,tw]
    show _=cJ pre++ (txt .put r.1++txt .cut r.2.1++ [.keep<|r.2.2+n])
    rw[Int.add_comm n];simp
  ·have e0:n=0:=by lia
   have e1:cZ (ch,pu,cu) (.keep n)=(ch,pu,cu):=if_neg hn
   have e2:bD (pre,r) (.keep n)=(pre,r):=by show(pre,(r.1,r.2.1,r.2.2+n))=_;rw[e0,Int.add_zero]
   rw[e1,e2]
   exact⟨r1,r2,r3,r4⟩
 | put x=>
  show Rel (ch,pu++ [x],cu) (bD (pre,r)<|.put x)
  by_cases hx:x=""
  ·have e2:bD (pre,r) (.put x)=(pre,r):=if_pos hx
   rw[e2]
   refine⟨r1,r2,r3, ?_⟩
   have e:cat (pu++ [x])=cat pu:=by rw[nu,hx];exact Hs _
   show _\/_
   simp only[e]
   exact r4
  ·by_cases hk:0<r.2.2
   ·have e2:bD (pre,r) (.put x)=(pre++ [r],((Str.ofString ""++x,Str.ofString "",0):Row)):=by show(if x="" then _ else if 0<r.2.2 then _ else _)=_;rw[if_neg hx,if_pos hk]
    rw[e2]
    rcases r4 with⟨k0,_⟩ | ⟨_,e5,e3,e4⟩
    ·lia
    ·refine⟨fun y hy=> ?_,fun _=> .inl (by rw[qK];exact hx),zaT _, .inl ⟨rfl,e5, ?_,e4⟩⟩
     ·rcases zad.mp hy with z | z
      ·exact r1 y z
      ·rw[zac.mp z];exact hk
     ·show cat (pu++ [x])=_
      rw[nu,e3]
   ·have e2:bD (pre,r) (.put x)=(pre,(r.1++x,r.2.1,r.2.2)):=by show(if x="" then _ else if 0<r.2.2 then _ else _)=_;rw[if_neg hx,if_neg hk]
    rw[e2]
    rcases r4 with⟨k0,e5,e3,e4⟩ | ⟨k0,_⟩
    ·refine⟨r1,fun _=> .inl ?_,r3, .inl ⟨k0,e5, ?_,e4⟩⟩
     ·intro z
      have:=congrArg Str.length z
      rw[oX] at this
      have l0:(Str.ofString "").length=0:=rfl
      rw[l0] at this
      have nv:x.length=0:=by lia
      exact hx<|i8 (by rw[len_list] at nv;rw[zaI.mp nv];rfl)
     ·show cat (pu++ [x])=_
      rw[nu,e3]
    ·lia
 | cut x=>
  show Rel (ch,pu,cu++ [x]) (bD (pre,r)<|.cut x)
  by_cases hx:x=""
  ·have e2:bD (pre,r) (.cut x)=(pre,r):=if_pos hx
   rw[e2]
   refine⟨r1,r2,r3, ?_⟩
   have e:cat (cu++ [x])=cat cu:=by rw[nu,hx];exact Hs _
   show _\/_
   simp only[e]
   exact r4
  ·by_cases hk:0<r.2.2
   ·have e2:bD (pre,r) (.cut x)=(pre++ [r],((Str.ofString "",Str.ofString ""++x,0):Row)):=by show(if x="" then _ else if 0<r.2.2 then _ else _)=_;rw[if_neg hx,if_pos hk]
    rw[e2]
    rcases r4 with⟨k0,_⟩ | ⟨_,e5,e3,e4⟩
    ·lia
    ·refine⟨fun y hy=> ?_,fun _=> .inr (by rw[qK];exact hx),zaT _, .inl ⟨rfl,e5,e3, ?_⟩⟩
     ·rcases zad.mp hy with z | z
      ·exact r1 y z
      ·rw[zac.mp z];exact hk
     ·show cat (cu++ [x])=_
      rw[nu,e4]
   ·have e2:bD (pre,r) (.cut x)=(pre,(r.1,r.2.1++x,r.2.2)):=by show(if x="" then _ else if 0<r.2.2 then _ else _)=_;rw[if_neg hx,if_neg hk]
    rw[e2]
    rcases r4 with⟨k0,e5,e3,e4⟩ | ⟨k0,_⟩
    ·refine⟨r1,fun _=> .inr ?_,r3, .inl ⟨k0,e5,e3, ?_⟩⟩
     ·intro z
      have:=congrArg Str.length z
      rw[oX] at this
      have l0:(Str.ofString "").length=0:=rfl
      rw[l0] at this
      have nv:x.length=0:=by lia
      exact hx<|i8 (by rw[len_list] at nv;rw[zaI.mp nv];rfl)
     ·show cat (cu++ [x])=_
      rw[nu,e4]
    ·lia
theorem HF: ∀(ps:List Pt) (s:NS) (t:List Row×Row),Rel s t->(∀p∈ps,gO p)->Rel (ps.foldl cZ s) (ps.foldl bD t)
 | [],s,t,R,_=>R
 | p::r,s,t,R,h=>HF r _ _ (U8 R<|h p zas) fun q hq=>h q (zaj _ hq)
theorem U9(ps:List Pt)(h: ∀p∈ps,gO p):Rel (ps.foldl cZ ([],[],[])) (ps.foldl bD ([],((Str.ofString "",Str.ofString "",0):Row))):=
 HF ps _ _ ⟨(fun x hx=>by cases hx),fun z=>absurd rfl z,zaT _, .inl ⟨rfl,rfl,rfl,rfl⟩⟩ h
theorem AQ(ps:List Pt)(h: ∀p∈ps,gO p):lN ps=fj ps:=by
 obtain⟨r1,r2,r3,r4⟩:=U9 ps h
 show dt _ _ _=cJ (_++ [_])
 generalize ps.foldl cZ ([],[],[])=s at r4⊢
 generalize ps.foldl bD ([],((Str.ofString "",Str.ofString "",0):Row))=t at r1 r2 r3 r4⊢
 unfold dt
 rcases r4 with⟨k0,e5,e3,e4⟩ | ⟨k0,e5,e3,e4⟩
 ·rw[e5,e3,e4,we,tj,HD k0];simp
 ·rw[e5,e3,e4,txt_nil,txt_nil];simp
def sg(x:Str):Prop:= ∀c∈x.cps.toList,SG.cps.contains c=true
theorem qO{x y:Str}(a:sg x)(b:sg y):sg (x++y):=fun c hc=>by
 rw[app_list] at hc
 rcases zad.mp hc with z | z
 ·exact a c z
 ·exact b c z
theorem ja:sg (Str.ofString ""):=fun c hc=>by cases hc
def jE(r:Row):Nat:=r.1.length+r.2.1.length
structure RI (n:Nat) (t:List Row×Row):Prop where
 pos: ∀x∈t.1,0<x.2.2
 nn:0<=t.2.2.2
 s1: ∀x∈t.1++ [t.2],sg x.1/\sg x.2.1
 tl: ∀x∈ (t.1++ [t.2]).tail,x.1≠""\/x.2.1≠""
 aA:((t.1++ [t.2]).map jE).sum=n
theorem HG{x y:Str}(h:x≠""):x++y≠"":=fun z=>by
 have:=congrArg Str.length z
 rw[oX] at this
 have l0:(Str.ofString "").length=0:=rfl
 rw[l0] at this
 have nv:x.length=0:=by lia
 exact h<|i8 (by rw[len_list] at nv;rw[zaI.mp nv];rfl)
theorem HH{α:Type}(l:List α)(a:α):(l++ [a]).tail=if l=[] then [] else l.tail++ [a]:=by
 cases l with
 | nil=>rfl
 | cons b r=>simp
theorem AR{n m:Nat}{pre:List Row}{r r':Row}(I:RI n (pre,r))(h0:0<=r'.2.2)(h1:sg r'.1/\sg r'.2.1)(h2:(r.1≠""->r'.1≠"")/\(r.2.1≠""->r'.2.1≠""))(h3:jE r'=jE r+m):RI (n+m) (pre,r'):=by
 refine⟨I.pos,h0,fun x hx=> ?_,fun x hx=> ?_, ?_⟩
 ·rcases zad.mp hx with z | z
  ·exact I.s1 x (zav _ z)
  ·rw[zac.mp z];exact h1
 ·have t1:=I.tl
  simp only at t1 hx
  rw[HH] at hx t1
  by_cases hp:pre=[]
  ·rw[if_pos hp] at hx;cases hx
  ·rw[if_neg hp] at hx t1
   rcases zad.mp hx with z | z
   ·exact t1 x (zav _ z)
   ·rw[zac.mp z]
    rcases t1 r (by simp) with q | q
    ·exact .inl (h2.1 q)
    ·exact .inr (h2.2 q)
 ·have:=I.aA
  simp only[zap,zbY,zay,zbd,zbt,List.sum_nil] at this⊢
  lia
theorem HI{n m:Nat}{pre:List Row}{r r':Row}(I:RI n (pre,r))(hk:0<r.2.2)(h0:0<=r'.2.2)(h1:sg r'.1/\sg r'.2.1)(h2:r'.1≠""\/r'.2.1≠"")(h3:jE r'=m):RI (n+m) (pre++ [r],r'):=by
 refine⟨fun x hx=> ?_,h0,fun x hx=> ?_,fun x hx=> ?_, ?_⟩
 ·rcases zad.mp hx with z | z
  ·exact I.pos x z
  ·rw[zac.mp z];exact hk
 ·rcases zad.mp hx with z | z
  ·exact I.s1 x z
  ·rw[zac.mp z];exact h1
 ·have t1:=I.tl
  simp only at t1 hx
  rw[HH,if_neg (by simp)] at hx
  rcases zad.mp hx with z | z
  ·exact t1 x z
  ·rw[zac.mp z];exact h2
 ·have:=I.aA
  simp only[zap,zbY,zay,zbd,zbt,List.sum_nil] at this⊢
  lia
theorem U_{n:Nat}{t:List Row×Row}{p:Pt}(I:RI n t)(hp:gO p):RI (n+dy p) (bD t p):=by
 obtain⟨pre,r⟩:=t
 have hs:=I.s1 r (by simp)
 have HJ:0<=r.2.2:=I.nn
 have e0:(Str.ofString "").length=0:=rfl
 cases p with
 | keep m=>exact AR I (by show 0<=r.2.2+m;have:0<=m:=hp;lia) hs ⟨fun z=>z,fun z=>z⟩ rfl
 | put x=>
  have gx:sg x:=hp.1.2
  by_cases hx:x=""
  ·have e2:bD (pre,r) (.put x)=(pre,r):=if_pos hx
   have e3:dy (.put x)=0:=by show x.length=0;rw[hx];rfl
   rw[e2,e3];exact I
  ·by_cases hk:0<r.2.2
   ·have e2:bD (pre,r) (.put x)=(pre++ [r],((Str.ofString ""++x,Str.ofString "",0):Row)):=by show(if x="" then _ else if 0<r.2.2 then _ else _)=_;rw[if_neg hx,if_pos hk]
    rw[e2]
    refine HI I hk (zaT _) ⟨qO ja gx,ja⟩ (.inl (by rw[qK];exact hx)) ?_
    show(Str.ofString ""++x).length+ (Str.ofString "").length=x.length
    rw[oX,e0];lia
   ·have e2:bD (pre,r) (.put x)=(pre,(r.1++x,r.2.1,r.2.2)):=by show(if x="" then _ else if 0<r.2.2 then _ else _)=_;rw[if_neg hx,if_neg hk]
    rw[e2]
    refine AR I HJ ⟨qO hs.1 gx,hs.2⟩ ⟨HG,fun z=>z⟩ ?_
    show(r.1++x).length+r.2.1.length=r.1.length+r.2.1.length+x.length
    rw[oX];lia
 | cut x=>
  have gx:sg x:=hp.1.2
  by_cases hx:x=""
  ·have e2:bD (pre,r) (.cut x)=(pre,r):=if_pos hx
   have e3:dy (.cut x)=0:=by show x.length=0;rw[hx];rfl
   rw[e2,e3];exact I
  ·by_cases hk:0<r.2.2
   ·have e2:bD (pre,r) (.cut x)=(pre++ [r],((Str.ofString "",Str.ofString ""++x,0):Row)):=by show(if x="" then _ else if 0<r.2.2 then _ else _)=_;rw[if_neg hx,if_pos hk]
    rw[e2]
    refine HI I hk (zaT _) ⟨ja,qO ja gx⟩ (.inr (by rw[qK];exact hx)) ?_
    show(Str.ofString "").length+ (Str.ofString ""++x).length=x.length
    rw[oX,e0];lia
   ·have e2:bD (pre,r) (.cut x)=(pre,(r.1,r.2.1++x,r.2.2)):=by show(if x="" then _ else if 0<r.2.2 then _ else _)=_;rw[if_neg hx,if_neg hk]
    rw[e2]
    refine AR I HJ ⟨hs.1,qO hs.2 gx⟩ ⟨fun z=>z,HG⟩ ?_
    show r.1.length+ (r.2.1++x).length=r.1.length+r.2.1.length+x.length
    rw[oX];lia
theorem AS: ∀(ps:List Pt) (n:Nat) (t:List Row×Row),RI n t->(∀p∈ps,gO p)->RI (n+aA ps) (ps.foldl bD t)
 | [],n,t,I,_=>I
 | p::r,n,t,I,h=>by
  have:=AS r _ _ (U_ I<|h p zas) fun q hq=>h q (zaj _ hq)
  have e:n+dy p+aA r=n+aA (p::r):=by show _=n+ (dy p+aA r);lia
  rw[e] at this
  exact this
theorem HK{r:Row}{a:Str}{rest:List Pt}(ha:a=""\/(a="keep"/\(r.1≠""\/r.2.1≠"")))(hk:0<r.2.2)(h:chainOk "keep" rest=true):chainOk a (fY r++rest)=true:=by
 rw[AO hk]
 by_cases h1:r.1="" <;>by_cases h2:r.2.1=""
 ·rw[h1,h2,txt_nil,txt_nil]
  rcases ha with rfl | ⟨_,z | z⟩
  ·exact h
  ·exact absurd h1 z
  ·exact absurd h2 z
 ·rw[h1,txt_nil,fZ h2]
  rcases ha with rfl | ⟨rfl,_⟩ <;>exact h
 ·rw[h2,txt_nil,fZ h1]
  rcases ha with rfl | ⟨rfl,_⟩ <;>exact h
 ·rw[fZ h1,fZ h2]
  rcases ha with rfl | ⟨rfl,_⟩ <;>exact h
theorem chain_last{r:Row}{a:Str}(ha:a=""\/(a="keep"/\(r.1≠""\/r.2.1≠"")))(hk:0<=r.2.2):chainOk a (fY r)=true:=by
 by_cases h0:0<r.2.2
 ·have:=HK (rest:=[]) ha h0 rfl
  rw[zaf] at this
  exact this
 ·rw[HD (by lia)]
  by_cases h1:r.1="" <;>by_cases h2:r.2.1=""
  ·rw[h1,h2,txt_nil,txt_nil];rfl
  ·rw[h1,txt_nil,fZ h2]
   rcases ha with rfl | ⟨rfl,_⟩ <;>rfl
  ·rw[h2,txt_nil,fZ h1]
   rcases ha with rfl | ⟨rfl,_⟩ <;>rfl
  ·rw[fZ h1,fZ h2]
   rcases ha with rfl | ⟨rfl,_⟩ <;>rfl
theorem HL: ∀(pre:List Row) (r:Row) (a:Str),(∀x∈pre,0<x.2.2)->0<=r.2.2->(a=""\/(a="keep"/\ ∀x,(pre++ [r]).head?=some x->x.1≠""\/x.2.1≠""))->(∀x∈ (pre++ [r]).tail,x.1≠""\/x.2.1≠"")->
  chainOk a (cJ<|pre++ [r])=true
 | [],r,a,_,hk,ha,_=>by
  rw[zbg,tj]
  exact chain_last (ha.imp id fun⟨x,y⟩=> ⟨x,y r rfl⟩) hk
 | q::pre,r,a,hp,hk,ha,ht=>by
  have e:cJ (q::pre++ [r])=fY q++cJ (pre++ [r]):=by simp[cJ]
  rw[e]
  refine HK (ha.imp id fun⟨x,y⟩=> ⟨x,y q rfl⟩) (hp q zas) ?_
  refine HL pre r "keep" (fun x hx=>hp x<|zaj _ hx) hk (.inr ⟨rfl,fun x hx=>ht x ?_⟩) fun x hx=>ht x (zci hx)
  show x∈pre++ [r]
  exact List.mem_of_mem_head? hx
theorem Va{r:Row}{p:Pt}(hs:sg r.1/\sg r.2.1)(hl:jE r<=1000000)(hk:0<=r.2.2)(h:p∈fY r):bC p:=by
 unfold fY txt at h
 unfold jE at hl
 rcases zad.mp h with h | h
 ·rcases zad.mp h with h | h
  ·split at h
   ·cases h
   ·rename_i ne
    rw[zac.mp h]
    exact⟨⟨by lia,hs.1⟩,ne⟩
  ·split at h
   ·cases h
   ·rename_i ne
    rw[zac.mp h]
    exact⟨⟨by lia,hs.2⟩,ne⟩
 ·split at h
  ·cases h
  ·rw[zac.mp h]
   show 1<=r.2.2
   lia
theorem Vb(r:Row):aA (fY r)=jE r:=by
 have t1: ∀(mk:Str->Pt) (x:Str),(∀y,dy (mk y)=y.length)->aA (txt mk x)=x.length:=by
  intro mk x h
  unfold txt
  by_cases e:x=""
  ·rw[if_pos e,e];rfl
  ·rw[if_neg e];show dy (mk x)+0=_;rw[h,Nat.add_zero]
 have ta: ∀a b:List Pt,aA (a++b)=aA a+aA b:=fun a b=>by simp[aA]
 unfold fY jE
 rw[ta,ta,t1 .put _ fun _=>rfl,t1 .cut _ fun _=>rfl]
 split
 ·rfl
 ·rfl
theorem AU: ∀rows:List Row,aA (cJ rows)=(rows.map jE).sum
 | []=>rfl
 | r::rows=>by
  have e:cJ (r::rows)=fY r++cJ rows:=by simp[cJ]
  have ta: ∀a b:List Pt,aA (a++b)=aA a+aA b:=fun a b=>by simp[aA]
  rw[e,ta,Vb,AU rows];rfl
theorem Vc{l:List Row}{x:Row}(h:x∈l):jE x<= (l.map jE).sum:=by
 induction l with
 | nil=>cases h
 | cons a l ih=>
  rw[zay,zbt]
  rcases zaa.mp h with rfl | h
  ·lia
  ·have:=ih h;lia
theorem HM(ps:List Pt)(h: ∀p∈ps,gO p)(ht:aA ps<=100000):chainOk "" (fj ps)=true/\(∀p∈fj ps,bC p)/\aA (fj ps)<=100000:=by
 have I:=AS ps 0 ([],((Str.ofString "",Str.ofString "",0):Row)) ⟨(fun x hx=>by cases hx),zaT _,(fun x hx=>by rw[zac.mp hx];exact⟨ja,ja⟩),(fun x hx=>by cases hx),rfl⟩ h
 rw[Nat.zero_add] at I
 have e:fj ps=cJ ((ps.foldl bD ([],((Str.ofString "",Str.ofString "",0):Row))).1++ [(ps.foldl bD ([],((Str.ofString "",Str.ofString "",0):Row))).2]):=rfl
 rw[e]
 generalize ps.foldl bD ([],((Str.ofString "",Str.ofString "",0):Row))=t at I
 refine⟨HL t.1 t.2 "" I.pos I.nn (.inl rfl) I.tl,fun p hp=> ?_,by rw[AU,I.aA];exact ht⟩
 unfold cJ at hp
 rw[List.mem_flatten] at hp
 obtain⟨l,hl,hp⟩:=hp
 obtain⟨x,hx,rfl⟩:=zaX.mp hl
 have hle:=Vc hx
 rw[I.aA] at hle
 refine Va (I.s1 x hx) (by lia) ?_ hp
 rcases zad.mp hx with z | z
 ·have:=I.pos x z;lia
 ·rw[zac.mp z];exact I.nn
theorem HN(ps:List Pt):(lN ps).length<=3*ps.length+2:=by
 have go: ∀(l:List Pt) (s:NS),(l.foldl cZ s).1.length<=s.1.length+3*l.length:=by
  intro l
  induction l with
  | nil=>intro s;simp
  | cons p l ih=>
   intro s
   have h1:=ih (cZ s p)
   have h2:(cZ s p).1.length<=s.1.length+3:=by
    obtain⟨ch,pu,cu⟩:=s
    cases p with
    | keep n=>
     by_cases hn:0<n
     ·have e1:cZ (ch,pu,cu) (.keep n)=(cO (dt ch pu cu) n,[],[]):=if_pos hn
      rw[e1]
      have:=v_ ch pu cu
      have:=AI (dt ch pu cu) n
      show(cO (dt ch pu cu) n).length<=ch.length+3
      lia
     ·have e1:cZ (ch,pu,cu) (.keep n)=(ch,pu,cu):=if_neg hn
      rw[e1]
      show ch.length<=ch.length+3
      lia
    | put x=>show ch.length<=ch.length+3;lia
    | cut x=>show ch.length<=ch.length+3;lia
   rw[zbf,zao]
   lia
 have h1:=go ps ([],[],[])
 have h2:=v_ (ps.foldl cZ ([],[],[])).1 (ps.foldl cZ ([],[],[])).2.1 (ps.foldl cZ ([],[],[])).2.2
 show(dt _ _ _).length<=_
 simp only[zbh] at h1
 lia
def Vd:Pt->PyData | .keep n=> .int n | .put s=> .str s | .cut s=> .str s
def toD(p:Pt):PyData:= .tuple [.str p.word,Vd p]
def hZ:Pt->Prop | .keep _=>True | .put s=>sg s | .cut s=>sg s
theorem HP{x:Str}(h:sg x):PyData.strOk x=true:=by
 have small: ∀c,SG.cps.contains c=true->c<0x110000:=by
  have all:SG.cps.toList.all (fun c=>decide<|c<0x110000)=true:=by decide+kernel
  intro c hc
  have hm:c∈SG.cps.toList:=by simpa using hc
  exact of_decide_eq_true<|zbA.mp all c hm
 unfold PyData.strOk
 rw[Array.all_eq_true']
 intro c hc
 exact zqT<|small c<|h c (by simpa using hc)
theorem toD_ok{p:Pt}(h:hZ p):(toD p).canLay0=true/\(toD p).depth=1:=by
 cases p with
 | keep n=>exact⟨(by show(PyData.strOk (Str.ofString "keep") && (true && true))=true;decide+kernel),rfl⟩
 | put s=>
  refine⟨?_,rfl⟩
  show(PyData.strOk (Str.ofString "put") && (PyData.strOk s && true))=true
  rw[HP h];decide+kernel
 | cut s=>
  refine⟨?_,rfl⟩
  show(PyData.strOk (Str.ofString "cut") && (PyData.strOk s && true))=true
  rw[HP h];decide+kernel
theorem HQ: ∀(ps:List Pt),(∀p∈ps,hZ p)->PyData.canLayAll0 (ps.map toD)=true/\PyData.depthAll (ps.map toD)<=1
 | [],_=> ⟨rfl,zqZ _⟩
 | p::r,h=>by
  obtain⟨a,b⟩:=toD_ok (h p zas)
  obtain⟨c,d⟩:=HQ r fun q hq=>h q (zaj _ hq)
  refine⟨?_, ?_⟩
  ·show((toD p).canLay0 && PyData.canLayAll0 (r.map toD))=true
   rw[a,c];rfl
  ·show max (toD p).depth (PyData.depthAll<|r.map toD)<=1
   rw[b];lia
theorem wg{ps:List Pt}(h: ∀p∈ps,hZ p):SeqAt.shaped (.list<|ps.map toD)=true:=by
 obtain⟨c,d⟩:=HQ ps h
 unfold SeqAt.shaped
 have e:(PyData.list<|ps.map toD).canLay0=true:=c
 have e2:(PyData.list<|ps.map toD).depth<=64:=by show PyData.depthAll (ps.map toD)+1<=64;lia
 rw[e,zqT e2];rfl
theorem wj{H:Hp}: ∀{vs:List V} {ps:List Pt},aR H vs ps->IsL H (ps.map toD) vs
 | _,_, .nil=>rfl
 | _,_, .cons (a:=v) (b:=p) ⟨a,e,h⟩ r=>by
  refine⟨v,_,rfl, ?_,wj r⟩
  refine⟨a,_,e,h, .str p.word,[p.val],rfl,rfl,p.val,[],rfl, ?_,rfl⟩
  cases p<;>rfl
theorem HR{p:Pt}(h:bC p):hZ p:=by
 cases p with
 | keep n=>trivial
 | put s=>exact h.1.2
 | cut s=>exact h.1.2
def Pt.nz:Pt->Pt | .keep n=> .keep n | .put s=> .cut s | .cut s=> .put s
def cT(ps:List Pt):List Pt:=ps.map Pt.nz
theorem Ve{ps:List Pt}(h: ∀p∈ps,gO p): ∀p∈cT ps,gO p:=by
 intro p hp
 obtain⟨q,hq,rfl⟩:=zaX.mp hp
 have:=h q hq
 cases q<;>exact this
theorem AV(ps:List Pt):aA (cT ps)=aA ps:=by
 unfold aA cT
 rw[zbs]
 congr 1
 refine zbC fun p _=> ?_
 cases p<;>rfl
theorem Vf(ps:List Pt)(h: ∀p∈ps,gO p):RI (aA ps) (ps.foldl bD ([],((Str.ofString "",Str.ofString "",0):Row))):=by
 have I:=AS ps 0 ([],((Str.ofString "",Str.ofString "",0):Row)) ⟨(fun x hx=>by cases hx),zaT _,(fun x hx=>by rw[zac.mp hx];exact⟨ja,ja⟩),(fun x hx=>by cases hx),rfl⟩ h
 rwa [Nat.zero_add] at I
theorem Vg{p:Pt}(h:bC p)(ht:dy p<=100000):gO p:=by
 cases p with
 | keep n=>exact Int.le_trans (by decide) (show(1:Int)<=n from h)
 | put s=>exact⟨h.1,ht⟩
 | cut s=>exact⟨h.1,ht⟩
theorem Vh{ps:List Pt}{p:Pt}(h:p∈ps):dy p<=aA ps:=by
 induction ps with
 | nil=>cases h
 | cons q ps ih=>
  have e:aA (q::ps)=dy q+aA ps:=by simp[aA]
  rw[e]
  rcases zaa.mp h with rfl | h
  ·lia
  ·have:=ih h;lia
theorem HS{ps:List Pt}(h: ∀p∈ps,bC p)(ht:aA ps<=100000): ∀p∈ps,gO p:=fun p hp=>Vg (h p hp) (zaw (Vh hp) ht)
inductive Run:List Nat->List Pt->List Nat->Prop
 | nil:Run [] [] []
 | keep {a l r:List Nat} {n:Int} {ps:List Pt}:n=a.length->Run l ps r->Run (a++l) (.keep n::ps) (a++r)
 | put {s:Str} {l r:List Nat} {ps:List Pt}:Run l ps r->Run l (.put s::ps) (s.cps.toList++r)
 | cut {s:Str} {l r:List Nat} {ps:List Pt}:Run l ps r->Run (s.cps.toList++l) (.cut s::ps) r
theorem Run.nz{l r:List Nat}{ps:List Pt}(h:Run l ps r):Run r (cT ps) l:=by
 induction h with
 | nil=>exact .nil
 | keep e _ ih=>exact .keep e ih
 | put _ ih=>exact .cut ih
 | cut _ ih=>exact .put ih
theorem Run.app{l l' r r':List Nat}{ps qs:List Pt}(h:Run l ps r)(h':Run l' qs r'):Run (l++l') (ps++qs) (r++r'):=by
 induction h with
 | nil=>exact h'
 | keep e _ ih=>rw[zai,zai];exact .keep e ih
 | put _ ih=>rw[zai];exact .put ih
 | cut _ ih=>rw[zai];exact .cut ih
theorem Run.over{l r:List Nat}{ps:List Pt}(h:Run l ps r):(overOf ps).sum=l.length:=by
 induction h with
 | nil=>rfl
 | @keep a l r n ps e _ ih=>
  have e2:overOf (.keep n::ps)=n::overOf ps:=rfl
  rw[e2,zbt,ih,e,zqA]
  simp
 | @put s l r ps _ ih=>
  have e2:overOf (.put s::ps)=overOf ps:=rfl
  rw[e2,ih]
 | @cut s l r ps _ ih=>
  have e2:overOf (.cut s::ps)=(s.length:Int)::overOf ps:=rfl
  rw[e2,zbt,ih,zqA,len_list]
  simp
def oY(r:Row)(l q:List Nat):Prop:= ∃k:List Nat,r.2.2=k.length/\l=r.2.1.cps.toList++k/\q=r.1.cps.toList++k
inductive lR:List Row->List Nat->List Nat->Prop
 | nil:lR [] [] []
 | snoc {rs:List Row} {r:Row} {l q l' q':List Nat}:lR rs l q->oY r l' q'->lR (rs++ [r]) (l++l') (q++q')
theorem AW{s:Str}:Run [] (txt .put s) s.cps.toList:=by
 by_cases h:s=""
 ·rw[h,txt_nil];exact .nil
 ·rw[fZ h]
  have:=Run.put (s:=s) Run.nil
  rwa [zaf] at this
theorem HU{s:Str}:Run s.cps.toList (txt .cut s) []:=by
 have:=(AW (s:=s)).nz
 have e:cT (txt .put s)=txt .cut s:=by
  unfold txt;split<;>rfl
 rwa [e] at this
theorem oY.run{r:Row}{l q:List Nat}(h:oY r l q):Run l (fY r) q:=by
 obtain⟨k,hk,rfl,rfl⟩:=h
 have h3:Run k (if r.2.2=0 then [] else [.keep r.2.2]) k:=by
  split
  ·rename_i h
   have:k=[]:=zaI.mp (by lia)
   rw[this];exact .nil
  ·have:=Run.keep (a:=k) hk Run.nil
   rwa [zaf] at this
 have:=((AW (s:=r.1)).app<|HU (s:=r.2.1)).app h3
 simpa[fY] using this
theorem lR.run{rs:List Row}{l q:List Nat}(h:lR rs l q):Run l (cJ rs) q:=by
 induction h with
 | nil=>exact .nil
 | snoc _ h2 ih=>rw[we,tj];exact ih.app h2.run
def One:Pt->List Nat->List Nat->Prop
 | .keep n,l,q=>l=q/\n=l.length
 | .put s,l,q=>l=[]/\q=s.cps.toList
 | .cut s,l,q=>l=s.cps.toList/\q=[]
theorem HV{p:Pt}{l q:List Nat}{ps:List Pt}(h:Run l (p::ps) q): ∃l1 l2 q1 q2,l=l1++l2/\q=q1++q2/\Run l2 ps q2/\
  One p l1 q1:=by
 cases h with
 | keep e h=>exact⟨_,_,_,_,rfl,rfl,h,rfl,e⟩
 | put h=>exact⟨[],_,_,_,rfl,rfl,h,rfl,rfl⟩
 | cut h=>exact⟨_,_,[],_,rfl,rfl,h,rfl,rfl⟩
theorem Vi{pre:List Row}{r:Row}{p:Pt}{l0 q0 l1 q1 l2 q2:List Nat}(h0:lR pre l0 q0)(h1:oY r l1 q1)
  (hp:One p l2 q2):
  ∃oZ o9 o_ pb,lR (bD (pre,r) p).1 oZ o9/\oY (bD (pre,r) p).2 o_ pb/\l0++l1++l2=oZ++o_/\q0++q1++q2=o9++pb:=by
 cases p with
 | keep n=>
  obtain⟨rfl,rfl⟩:=hp
  obtain⟨k,hk,rfl,rfl⟩:=h1
  refine⟨l0,q0,_,_,h0,⟨k++l2, ?_,rfl,rfl⟩,by simp[bD],by simp[bD]⟩
  show r.2.2+ (l2.length:Int)=_
  rw[hk,zqA];simp
 | put s=>
  obtain⟨rfl,rfl⟩:=hp
  by_cases hs:s=""
  ·have e:bD (pre,r) (.put s)=(pre,r):=by simp only[bD,if_pos hs]
   rw[e]
   refine⟨l0,q0,l1,q1,h0,h1,by simp, ?_⟩
   rw[hs]
   show q0++q1++ (Str.ofString "").cps.toList=_
   rw[ofString_empty];simp
  ·by_cases hk:0<r.2.2
   ·have e:bD (pre,r) (.put s)=(pre++ [r],((Str.ofString ""++s,"",0):Row)):=by simp only[bD,if_neg hs,if_pos hk]
    rw[e]
    refine⟨_,_,[],s.cps.toList,h0.snoc h1,⟨[],rfl,rfl, ?_⟩,by simp,by simp⟩
    show s.cps.toList=(Str.ofString ""++s).cps.toList++ []
    rw[qK];simp
   ·have e:bD (pre,r) (.put s)=(pre,(r.1++s,r.2.1,r.2.2)):=by simp only[bD,if_neg hs,if_neg hk]
    rw[e]
    obtain⟨k,tE,rfl,rfl⟩:=h1
    have:k=[]:=zaI.mp (by lia)
    subst this
    refine⟨l0,q0,r.2.1.cps.toList,r.1.cps.toList++s.cps.toList,h0,⟨[],tE,by simp,by simp[app_list]⟩,by simp,by simp⟩
 | cut s=>
  obtain⟨rfl,rfl⟩:=hp
  by_cases hs:s=""
  ·have e:bD (pre,r) (.cut s)=(pre,r):=by simp only[bD,if_pos hs]
   rw[e]
   refine⟨l0,q0,l1,q1,h0,h1, ?_,by simp⟩
   rw[hs]
   show l0++l1++ (Str.ofString "").cps.toList=_
   rw[ofString_empty];simp
  ·by_cases hk:0<r.2.2
   ·have e:bD (pre,r) (.cut s)=(pre++ [r],(("",Str.ofString ""++s,0):Row)):=by simp only[bD,if_neg hs,if_pos hk]
    rw[e]
    refine⟨_,_,s.cps.toList,[],h0.snoc h1,⟨[],rfl, ?_,rfl⟩,by simp,by simp⟩
    show s.cps.toList=(Str.ofString ""++s).cps.toList++ []
    rw[qK];simp
   ·have e:bD (pre,r) (.cut s)=(pre,(r.1,r.2.1++s,r.2.2)):=by simp only[bD,if_neg hs,if_neg hk]
    rw[e]
    obtain⟨k,tE,rfl,rfl⟩:=h1
    have:k=[]:=zaI.mp (by lia)
    subst this
    refine⟨l0,q0,r.2.1.cps.toList++s.cps.toList,r.1.cps.toList,h0,⟨[],tE,by simp[app_list],by simp⟩,by simp,by simp⟩
theorem HW: ∀(ps:List Pt) (pre:List Row) (r:Row) (l0 q0 l1 q1 l2 q2:List Nat),lR pre l0 q0->oY r l1 q1->Run l2 ps q2->
  ∃oZ o9 o_ pb,lR (ps.foldl bD (pre,r)).1 oZ o9/\oY (ps.foldl bD (pre,r)).2 o_ pb/\l0++l1++l2=oZ++o_/\q0++q1++q2=o9++pb
 | [],pre,r,l0,q0,l1,q1,l2,q2,h0,h1,h2=>by
  cases h2
  exact⟨l0,q0,l1,q1,h0,h1,by simp,by simp⟩
 | p::ps,pre,r,l0,q0,l1,q1,l2,q2,h0,h1,h2=>by
  obtain⟨a,b,c,d,rfl,rfl,h3,h4⟩:=HV h2
  obtain⟨oZ,o9,o_,pb,g0,g1,e1,e2⟩:=Vi h0 h1 h4
  obtain⟨Vj,Vk,Vl,Vm,f0,f1,e3,e4⟩:=HW ps _ _ oZ o9 o_ pb b d g0 g1 h3
  refine⟨Vj,Vk,Vl,Vm,f0,f1, ?_, ?_⟩
  ·rw[<-e3,<-e1];simp
  ·rw[<-e4,<-e2];simp
theorem HX{ps:List Pt}{l q:List Nat}(h:Run l ps q):Run l (fj ps) q:=by
 obtain⟨l0,q0,l1,q1,h0,h1,e1,e2⟩:=HW ps [] ("","",0) [] [] [] [] l q .nil ⟨[],rfl,rfl,rfl⟩ h
 have:=(h0.snoc h1).run
 rw[<-e1,<-e2] at this
 exact this
def WB:List (Key×V):=[(.inr "keep", .str "keep"),(.inr "cut", .str "put"),(.inr "put", .str "cut")]
abbrev Vn:List (Str×Sp):=[("need_change",AH),("neat",nk)]
def wk:Sp:=fun vs H Q E=> ∃a xs ps,vs=[.ref a]/\H a=some (.lst xs)/\aR H xs ps/\(∀p∈ps,bC p)/\chainOk "" ps=true/\ps.length<=100000/\aA ps<=100000/\
 ∀b H' ys,aB H H'->H b=none->H' b=some (.lst ys)->aR H' ys (lN<|cT ps)->Q (.ref b) H'
theorem Vo{K:Frag}{p:Addr}(vs:List V)(H:Hp)(Q:VK)(E:XK)(h:wk vs H Q E):ax (aS K Vn [("WAYS_BACK", .ref p)] [(p,WB)] (E:=E)) GC {nx:=fun _ H'=>Q .aC H',rt:=Q} (start GB vs) H:=by
 obtain⟨a,xs,ps,rfl,ha,cN,aE,cK,hl,ht,q⟩:=h
 refine⟨_,rfl,a,xs,ps,rfl,ha,cN,aE,cK,fun H1 s1=> ?_⟩
 have hlen:=Paired.length cN
 refine⟨_,rfl,a,rfl,⟨_,aq.of<|s1 _ _ ha⟩,fun i m ys H2=>m=xs.length - i/\i<=xs.length/\aB H H2/\aR H2 ys (cT<|ps.take i),⟨_,rfl,zqZ _,s1, .nil⟩, ?_⟩
 rintro i m ys H2 ⟨rfl,hi,s2,hy⟩
 by_cases aK:i<xs.length
 ·refine .inr ⟨⟨xs,xs[i],aq.of<|s2 _ _ ha,by simp[aK]⟩, ?_⟩
  rintro x H3 ⟨rfl,hx⟩
  have kW:=hx xs (aq.of<|s2 _ _ ha)
  obtain⟨pt,hp,iy⟩:=cN.get kW
  obtain⟨b,rfl,hb⟩:=iy.mono (dr s2)
  have hyl:=Paired.length hy
  have hv:lB WB (.inr pt.word)=some (.str pt.nz.word):=by
   cases pt<;>first | rfl | (show lB WB _=_;decide+kernel)
  refine⟨b,_,rfl,aG.of hb,rfl,_,rfl, .inr<|.inr<|.inr ⟨p,WB, .inr pt.word,_,rfl,rfl,zac.2 rfl,hv, ?_⟩⟩
  refine⟨_,rfl,by show 2<=sizeLine;decide,fun t qP=> ⟨?_,xs.length - (i+1),by lia,rfl,aK,s2.trans<|sameNew qP, ?_⟩⟩
  ·have:(cT<|ps.take i).length=i:=by simp[cT];lia
   exact dY (by lia)
  ·have e:cT (ps.take<|i+1)=cT (ps.take i)++ [pt.nz]:=by
    rw[zbr,hp];simp[cT]
   rw[e]
   refine(hy.mono<|dr<|sameNew qP).snoc ⟨t,rfl, ?_⟩
   rw[au]
   cases pt<;>rfl
 ·have iz:i=xs.length:=by lia
  subst iz
  refine .inl ⟨⟨xs,aq.of<|s2 _ _ ha,zqR _⟩,fun b hb=> ?_⟩
  have e:cT (ps.take xs.length)=cT ps:=by rw[hlen,zbB]
  rw[e] at hy
  have sb:=sameNew (o:= .lst ys) hb
  refine⟨b,ys,cT ps,rfl,au,hy.mono<|dr sb,by simp[cT];lia,by rw[AV];exact ht,fun c H3 zs s3 hc h3 hz=> ?_⟩
  exact q c H3 zs (s2.trans<|sb.trans s3) ((s2.trans sb).free hc) h3 hz
theorem AX{x:Str}{a b c:List Nat}(h:x.cps.toList=a++ (b++c))(n:Int)(hn:n=b.length):jx x (some (a.length:Int)) (some<|(a.length:Int)+n)=⟨b.toArray⟩:=by
 have e1:(a.length:Int)+n=((a.length+b.length:Nat):Int):=by rw[hn];simp
 unfold jx kY
 rw[e1,HT.mH,HT.mH,h]
 have l1:(a++ (b++c)).length=a.length+ (b.length+c.length):=by simp
 rw[l1]
 have m1:min a.length (a.length+ (b.length+c.length))=a.length:=by lia
 have m2:min (a.length+b.length) (a.length+ (b.length+c.length))=a.length+b.length:=by lia
 rw[m1,m2,List.drop_left,show a.length+b.length - a.length=b.length by lia,zbZ]
theorem wm(x:Str):(⟨x.cps.toList.toArray⟩:Str)=x:=i8 rfl
theorem AY(ps:List Pt)(h: ∀p∈ps,gO p):aA (fj ps)=aA ps:=by
 have I:=Vf ps h
 have e:fj ps=cJ ((ps.foldl bD ([],((Str.ofString "",Str.ofString "",0):Row))).1++ [(ps.foldl bD ([],((Str.ofString "",Str.ofString "",0):Row))).2]):=rfl
 rw[e,AU,I.aA]
end L2.B
namespace L2.B
inductive At where | K | P (c:Nat) | C (c:Nat)
 deriving DecidableEq
abbrev Form:=List Nat×List Nat×List (List Nat×List Nat)
def nb:List At->Form
 | []=> ([],[],[])
 | .P c::xs=> (c::(nb xs).1,(nb xs).2.1,(nb xs).2.2)
 | .C c::xs=> ((nb xs).1,c::(nb xs).2.1,(nb xs).2.2)
 | .K::xs=> ([],[],((nb xs).1,(nb xs).2.1)::(nb xs).2.2)
def fit:List Nat->List At->Prop
 | l,[]=>l=[]
 | l, .P _::xs=>fit l xs
 | [], .K::_=>False
 | _::l, .K::xs=>fit l xs
 | [], .C _::_=>False
 | a::l, .C c::xs=>a=c/\fit l xs
abbrev Sg:=Sum Nat Nat
def res(i:Nat):List At->List Sg
 | []=> []
 | .P c::xs=> .inr c::res i xs
 | .K::xs=> .inl i::res (i+1) xs
 | .C _::xs=>res (i+1) xs
theorem pd: ∀(xs:List At) (i j:Nat),Sum.inl j∈res i xs->i<=j
 | [],i,j,h=>by cases h
 | .P c::xs,i,j,h=>by
  rcases zaa.mp h with z | z
  ·cases z
  ·exact pd xs i j z
 | .K::xs,i,j,h=>by
  rcases zaa.mp h with z | z
  ·cases z;exact zqR _
  ·have:=pd xs (i+1) j z;lia
 | .C c::xs,i,j,h=>by have:=pd xs (i+1) j h;lia
def out:List Nat->List At->List Nat
 | l,[]=> []
 | l, .P c::xs=>c::out l xs
 | [], .K::xs=>out [] xs
 | a::l, .K::xs=>a::out l xs
 | [], .C _::xs=>out [] xs
 | _::l, .C _::xs=>out l xs
inductive bS:List At->List At->List At->Prop
 | nil:bS [] [] []
 | p {c xs ys zs}:bS xs ys zs->bS xs (.P c::ys) (.P c::zs)
 | c {c xs ys zs}:bS xs ys zs->bS (.C c::xs) ys (.C c::zs)
 | kk {xs ys zs}:bS xs ys zs->bS (.K::xs) (.K::ys) (.K::zs)
 | kc {c xs ys zs}:bS xs ys zs->bS (.K::xs) (.C c::ys) (.C c::zs)
 | pk {c xs ys zs}:bS xs ys zs->bS (.P c::xs) (.K::ys) (.P c::zs)
 | pc {c xs ys zs}:bS xs ys zs->bS (.P c::xs) (.C c::ys) zs
def sb(r:List Sg)(k:Nat):Sg->Sg
 | .inr c=> .inr c
 | .inl j=>r.getD (j - k) (.inr 0)
def sub(r:List Sg)(k:Nat)(t:List Sg):List Sg:=t.map (sb r k)
theorem wo(x:Sg)(r:List Sg)(k:Nat)(t:List Sg)(h: ∀j,Sum.inl j∈t->k+1<=j):sub (x::r) k t=sub r (k+1) t:=by
 refine zbC fun y hy=> ?_
 cases y with
 | inr c=>rfl
 | inl j=>
  have:=h j hy
  simp only[sb]
  rw[show j - k=(j - (k+1))+1 by lia,List.getD_cons_succ]
theorem Vp{xs ys zs:List At}(h:bS xs ys zs): ∀(l:List Nat) (i k:Nat),fit l xs->fit (out l xs) ys->fit l zs/\out l zs=out (out l xs) ys/\res i zs=sub (res i xs) k (res k ys):=by
 induction h with
 | nil=>intro l i k h1 h2;exact⟨h1,rfl,rfl⟩
 | @p c xs ys zs _ ih=>
  intro l i k h1 h2
  obtain⟨a,b,d⟩:=ih l i k h1 h2
  refine⟨a, ?_, ?_⟩
  ·show c::out l zs=c::out (out l xs) ys
   rw[b]
  ·show Sum.inr c::res i zs=_
   rw[d];rfl
 | @c c xs ys zs _ ih=>
  intro l i k h1 h2
  cases l with
  | nil=>exact h1.elim
  | cons a l=>
   obtain⟨rfl,h1⟩:=h1
   obtain⟨e1,e2,e3⟩:=ih l (i+1) k h1 h2
   exact⟨⟨rfl,e1⟩,e2,e3⟩
 | @kk xs ys zs _ ih=>
  intro l i k h1 h2
  cases l with
  | nil=>exact h1.elim
  | cons a l=>
   obtain⟨e1,e2,e3⟩:=ih l (i+1) (k+1) h1 h2
   refine⟨e1, ?_, ?_⟩
   ·show a::out l zs=a::out (out l xs) ys
    rw[e2]
   ·show Sum.inl i::res (i+1) zs=sub (Sum.inl i::res (i+1) xs) k (Sum.inl k::res (k+1) ys)
    rw[e3]
    show _=sb (Sum.inl i::res (i+1) xs) k (Sum.inl k)::sub (Sum.inl i::res (i+1) xs) k (res (k+1) ys)
    rw[wo _ _ _ _ fun j hj=>pd ys (k+1) j hj]
    simp only[sb]
    rw[zbu,List.getD_cons_zero]
 | @kc c xs ys zs _ ih=>
  intro l i k h1 h2
  cases l with
  | nil=>exact h1.elim
  | cons a l=>
   obtain⟨rfl,h2⟩:=h2
   obtain⟨e1,e2,e3⟩:=ih l (i+1) (k+1) h1 h2
   refine⟨⟨rfl,e1⟩,e2, ?_⟩
   show res (i+1) zs=sub (Sum.inl i::res (i+1) xs) k (res (k+1) ys)
   rw[e3,wo _ _ _ _ fun j hj=>pd ys (k+1) j hj]
 | @pk c xs ys zs _ ih=>
  intro l i k h1 h2
  obtain⟨e1,e2,e3⟩:=ih l i (k+1) h1 h2
  refine⟨e1, ?_, ?_⟩
  ·show c::out l zs=c::out (out l xs) ys
   rw[e2]
  ·show Sum.inr c::res i zs=sub (Sum.inr c::res i xs) k (Sum.inl k::res (k+1) ys)
   rw[e3]
   show _=sb (Sum.inr c::res i xs) k (Sum.inl k)::sub (Sum.inr c::res i xs) k (res (k+1) ys)
   rw[wo _ _ _ _ fun j hj=>pd ys (k+1) j hj]
   simp only[sb]
   rw[zbu,List.getD_cons_zero]
 | @pc c xs ys zs _ ih=>
  intro l i k h1 h2
  obtain⟨_,h2⟩:=h2
  obtain⟨e1,e2,e3⟩:=ih l i (k+1) h1 h2
  refine⟨e1,e2, ?_⟩
  show res i zs=sub (Sum.inr c::res i xs) k (res (k+1) ys)
  rw[e3,wo _ _ _ _ fun j hj=>pd ys (k+1) j hj]
def sw:At->At | .K=> .K | .P c=> .C c | .C c=> .P c
def kh:Nat->List Nat->List Nat->List (List Nat×List Nat)->List Sg
 | i,p,q,[]=>p.map .inr
 | i,p,q,(p',q')::r=>p.map .inr++ .inl (i+q.length)::kh (i+q.length+1) p' q' r
theorem Vq(c:Nat): ∀(r:List (List Nat×List Nat)) (i:Nat) (p q:List Nat),kh (i+1) p q r=kh i p (c::q) r
 | [],i,p,q=>rfl
 | (p',q')::r,i,p,q=>by
  simp only[kh,zao]
  rw[show i+1+q.length=i+ (q.length+1) by lia]
theorem Vr(c:Nat): ∀(r:List (List Nat×List Nat)) (i:Nat) (p q:List Nat),kh i (c::p) q r= .inr c::kh i p q r
 | [],i,p,q=>rfl
 | (p',q')::r,i,p,q=>rfl
theorem tF: ∀(xs:List At) (i:Nat),res i xs=kh i (nb xs).1 (nb xs).2.1 (nb xs).2.2
 | [],i=>rfl
 | .P c::xs,i=>by
  show Sum.inr c::res i xs=kh i (c::(nb xs).1) _ _
  rw[tF xs i,Vr];rfl
 | .C c::xs,i=>by
  show res (i+1) xs=kh i (nb xs).1 (c::(nb xs).2.1) _
  rw[tF xs<|i+1,Vq c];rfl
 | .K::xs,i=>by
  show Sum.inl i::res (i+1) xs=Sum.inl (i+0)::kh (i+0+1) _ _ _
  rw[tF xs<|i+1];rfl
theorem Vs{xs ys:List At}(h:nb xs=nb ys)(i:Nat):res i xs=res i ys:=by rw[tF,tF,h]
def iD:List Nat->List Nat->List (List Nat×List Nat)->Form->Form
 | p,q,[],F=> (p++F.1,q++F.2.1,F.2.2)
 | p,q,(a,b)::r,F=> (p,q,((iD a b r F).1,(iD a b r F).2.1)::(iD a b r F).2.2)
theorem Vt(c:Nat)(p q:List Nat)(r:List (List Nat×List Nat))(F:Form):iD (c::p) q r F=(c::(iD p q r F).1,(iD p q r F).2.1,(iD p q r F).2.2):=by
 cases r<;>rfl
theorem Vu(c:Nat)(p q:List Nat)(r:List (List Nat×List Nat))(F:Form):iD p (c::q) r F=((iD p q r F).1,c::(iD p q r F).2.1,(iD p q r F).2.2):=by
 cases r<;>rfl
theorem pe: ∀(xs ys:List At),nb (xs++ys)=iD (nb xs).1 (nb xs).2.1 (nb xs).2.2 (nb ys)
 | [],ys=>rfl
 | .K::xs,ys=>by
  simp only[zbm,nb,pe xs ys];rfl
 | .P c::xs,ys=>by
  simp only[zbm,nb,pe xs ys,Vt]
 | .C c::xs,ys=>by
  simp only[zbm,nb,pe xs ys,Vu]
theorem AZ{xs br ys de:List At}(h:nb xs=nb br)(h':nb ys=nb de):nb (xs++ys)=nb (br++de):=by rw[pe,pe,h,h']
theorem HY: ∀(p:List Nat),nb (p.map .P)=(p,[],[])
 | []=>rfl
 | c::p=>by simp only[zay,nb,HY p]
theorem HZ: ∀(p:List Nat),nb (p.map .C)=([],p,[])
 | []=>rfl
 | c::p=>by simp only[zay,nb,HZ p]
theorem Vv(p q:List Nat):nb (q.map .C++p.map .P)=nb (p.map .P++q.map .C):=by
 rw[pe,pe,HY,HZ]
 simp[iD]
def rK(n:Nat):List At:=List.replicate n .K
theorem wq: ∀(a l:List Nat) (xs:List At),fit (a++l) (rK a.length++xs)↔fit l xs
 | [],l,xs=>Iff.rfl
 | c::a,l,xs=>wq a l xs
theorem wt: ∀(a l:List Nat) (xs:List At),out (a++l) (rK a.length++xs)=a++out l xs
 | [],l,xs=>rfl
 | c::a,l,xs=>by
  show c::out (a++l) (rK a.length++xs)=_
  rw[wt a l xs];rfl
theorem tG: ∀(s l:List Nat) (xs:List At),fit l (s.map .P++xs)↔fit l xs
 | [],l,xs=>Iff.rfl
 | c::s,l,xs=>tG s l xs
theorem wu: ∀(s l:List Nat) (xs:List At),out l (s.map .P++xs)=s++out l xs
 | [],l,xs=>rfl
 | c::s,l,xs=>by
  show c::out l (s.map .P++xs)=_
  rw[wu s l xs];rfl
theorem A0: ∀(s l:List Nat) (xs:List At),fit (s++l) (s.map .C++xs)↔fit l xs
 | [],l,xs=>Iff.rfl
 | c::s,l,xs=>by
  show c=c/\fit (s++l) (s.map .C++xs)↔_
  rw[A0 s l xs];simp
theorem wx: ∀(s l:List Nat) (xs:List At),out (s++l) (s.map .C++xs)=out l xs
 | [],l,xs=>rfl
 | c::s,l,xs=>wx s l xs
end L2.B
namespace L2.B
open PySem PySem.Spec PyProof.Rows
def bH:Pt->List At
 | .keep n=>rK n.toNat
 | .put s=>s.cps.toList.map .P
 | .cut s=>s.cps.toList.map .C
def aI(ps:List Pt):List At:=(ps.map bH).flatten
theorem fO(p:Pt)(ps:List Pt):aI (p::ps)=bH p++aI ps:=rfl
theorem jb(ps qs:List Pt):aI (ps++qs)=aI ps++aI qs:=by simp[aI]
theorem ki(p:Pt):aI [p]=bH p:=by simp[aI]
def f_:Pt->Prop | .keep n=>0<=n | _=>True
theorem Vw{p:Pt}(h:gO p):f_ p:=by cases p<;>first | exact h | trivial
theorem wy{p:Pt}(h:bC p):f_ p:=by
 cases p with
 | keep n=>exact Int.le_trans (by decide) (show(1:Int)<=n from h)
 | _=>trivial
theorem Run.fits{l r:List Nat}{ps:List Pt}(h:Run l ps r):fit l (aI ps)/\out l (aI ps)=r:=by
 induction h with
 | nil=>exact⟨rfl,rfl⟩
 | @keep a l r n ps e _ ih=>
  rw[fO]
  have e1:bH (.keep n)=rK a.length:=by show rK n.toNat=_;rw[e];simp
  rw[e1]
  exact⟨(wq a l _).mpr ih.1,by rw[wt,ih.2]⟩
 | @put s l r ps _ ih=>
  rw[fO]
  exact⟨(tG _ l _).mpr ih.1,by show out l (s.cps.toList.map .P++_)=_;rw[wu,ih.2]⟩
 | @cut s l r ps _ ih=>
  rw[fO]
  exact⟨(A0 _ l _).mpr ih.1,by show out _ (s.cps.toList.map .C++_)=_;rw[wx,ih.2]⟩
theorem H9: ∀(n:Nat) (l:List Nat) (xs:List At),fit l (rK n++xs)-> ∃a b,l=a++b/\a.length=n
 | 0,l,xs,h=> ⟨[],l,rfl,rfl⟩
 | n+1,[],xs,h=> (show False from h).elim
 | n+1,c::l,xs,h=>by
  obtain⟨a,b,e,hl⟩:=H9 n l xs h
  exact⟨c::a,b,by rw[e];rfl,by simp[hl]⟩
theorem wz: ∀(s l:List Nat) (xs:List At),fit l (s.map .C++xs)-> ∃b,l=s++b
 | [],l,xs,h=> ⟨l,rfl⟩
 | c::s,[],xs,h=> (show False from h).elim
 | c::s,d::l,xs,h=>by
  obtain⟨e,h⟩:=(show d=c/\fit l (s.map .C++xs) from h)
  obtain⟨b,e2⟩:=wz s l xs h
  exact⟨b,by rw[e,e2];rfl⟩
theorem tH: ∀(ps:List Pt) (l:List Nat),(∀p∈ps,f_ p)->fit l (aI ps)->Run l ps (out l<|aI ps)
 | [],l,_,h=>by
  have:l=[]:=h
  subst this;exact .nil
 | .keep n::ps,l,hn,h=>by
  rw[fO] at h⊢
  obtain⟨a,b,rfl,ha⟩:=H9 _ _ _ h
  have tD:0<=n:=hn _ (.head _)
  have e1:bH (.keep n)=rK a.length:=by show rK n.toNat=_;rw[ha]
  rw[e1] at h⊢
  rw[wt]
  exact .keep (by lia)<|tH ps b (fun p hp=>hn p<|.tail _ hp)<|(wq a b _).mp h
 | .put s::ps,l,hn,h=>by
  rw[fO] at h⊢
  show Run l _ (out l<|s.cps.toList.map .P++_)
  rw[wu]
  exact .put<|tH ps l (fun p hp=>hn p<|.tail _ hp)<|(tG _ l _).mp h
 | .cut s::ps,l,hn,h=>by
  rw[fO] at h⊢
  obtain⟨b,rfl⟩:=wz _ _ _ h
  show Run _ _ (out _<|s.cps.toList.map .C++_)
  rw[wx]
  exact .cut<|tH ps b (fun p hp=>hn p<|.tail _ hp)<|(A0 _ b _).mp h
def jF(s:NS):List At:=aI s.1++ ((cat s.2.1).cps.toList.map .P++ (cat s.2.2).cps.toList.map .C)
theorem H_(mk:Str->Pt)(f:Nat->At)(h: ∀s,bH (mk s)=s.cps.toList.map f)(x:Str):aI (txt mk x)=x.cps.toList.map f:=by
 by_cases hx:x=""
 ·rw[hx,txt_nil];rfl
 ·rw[fZ hx,ki,h]
theorem Ia(ch:List Pt)(p c:List Str):aI (dt ch p c)=jF (ch,p,c):=by
 unfold dt jF
 rw[jb,jb,H_ .put .P<|fun _=>rfl,H_ .cut .C<|fun _=>rfl,zai]
theorem Ib(m n:Nat):rK m++rK n=rK (m+n):=by unfold rK;rw[List.replicate_append_replicate]
theorem Vx(ch:List Pt)(n:Int)(hn:0<=n)(h: ∀p∈ch,f_ p):aI (cO ch n)=aI ch++rK n.toNat:=by
 unfold cO
 split
 ·rename_i m e
  have hm:Pt.keep m∈ch:=List.mem_of_getLast? e
  have Vy:0<=m:=h _ hm
  have ec:ch=ch.dropLast++ [.keep m]:=by
   have gI:ch≠ []:=by intro z;rw[z] at hm;cases hm
   rw[List.getLast?_eq_some_getLast gI] at e
   have e':=zal e
   rw[<-e',List.dropLast_concat_getLast]
  conv=>rhs;rw[ec]
  rw[jb,jb,ki,ki,zai]
  show _++rK (n+m).toNat=_++ (rK m.toNat++rK n.toNat)
  rw[Ib,show(n+m).toNat=m.toNat+n.toNat by lia]
 ·rw[jb,ki];rfl
theorem Ic{mk:Str->Pt}(h: ∀s,f_<|mk s)(x:Str): ∀p∈txt mk x,f_ p:=by
 intro p hp
 unfold txt at hp
 split at hp
 ·cases hp
 ·rw[zac.mp hp];exact h x
theorem Ie{ch:List Pt}(p c:List Str)(h: ∀p∈ch,f_ p): ∀q∈dt ch p c,f_ q:=by
 intro q hq
 unfold dt at hq
 rcases zad.mp hq with z | z
 ·rcases zad.mp z with z | z
  ·exact h q z
  ·exact Ic (mk:= .put) (fun _=>trivial) _ q z
 ·exact Ic (mk:= .cut) (fun _=>trivial) _ q z
theorem Vz{ch:List Pt}{n:Int}(hn:0<=n)(h: ∀p∈ch,f_ p): ∀q∈cO ch n,f_ q:=by
 intro q hq
 unfold cO at hq
 split at hq
 ·rename_i m e
  rcases zad.mp hq with z | z
  ·exact h q ((List.dropLast_sublist ch).subset z)
  ·rw[zac.mp z]
   have Vy:0<=m:=h _ (List.mem_of_getLast? e)
   show 0<=n+m
   lia
 ·rcases zad.mp hq with z | z
  ·exact h q z
  ·rw[zac.mp z];exact hn
theorem VA(s:NS)(p:Pt)(hp:f_ p)(h: ∀q∈s.1,f_ q):nb (jF<|cZ s p)=nb (jF s++bH p)/\ ∀q∈ (cZ s p).1,f_ q:=by
 obtain⟨ch,pu,cu⟩:=s
 cases p with
 | put x=>
  refine⟨?_,h⟩
  show nb (aI ch++ ((cat<|pu++ [x]).cps.toList.map .P++ (cat cu).cps.toList.map .C))=nb (aI ch++ ((cat pu).cps.toList.map .P++ (cat cu).cps.toList.map .C)++x.cps.toList.map .P)
  rw[nu,app_list,zap,zai,zai,zai]
  refine AZ rfl<|AZ rfl ?_
  exact(Vv _ _).symm
 | cut x=>
  refine⟨?_,h⟩
  show nb (aI ch++ ((cat pu).cps.toList.map .P++ (cat<|cu++ [x]).cps.toList.map .C))=nb (aI ch++ ((cat pu).cps.toList.map .P++ (cat cu).cps.toList.map .C)++x.cps.toList.map .C)
  rw[nu,app_list,zap,zai,zai]
 | keep n=>
  have tD:0<=n:=hp
  by_cases hn:0<n
  ·have e:cZ (ch,pu,cu) (.keep n)=(cO (dt ch pu cu) n,[],[]):=if_pos hn
   rw[e]
   refine⟨?_,Vz tD<|Ie _ _ h⟩
   show nb (aI (cO (dt ch pu cu) n)++ [])=nb (jF (ch,pu,cu)++rK n.toNat)
   rw[zaf,Vx _ _ tD<|Ie _ _ h,Ia]
  ·have e:cZ (ch,pu,cu) (.keep n)=(ch,pu,cu):=if_neg hn
   rw[e]
   refine⟨?_,h⟩
   show _=nb (jF (ch,pu,cu)++rK n.toNat)
   rw[show n.toNat=0 by lia]
   show _=nb (_++ [])
   rw[zaf]
theorem Ig: ∀(ps:List Pt) (s:NS),(∀p∈ps,f_ p)->(∀q∈s.1,f_ q)->nb (jF<|ps.foldl cZ s)=nb (jF s++aI ps)
 | [],s,_,_=>by show nb (jF s)=nb (jF s++ []);rw[zaf]
 | p::ps,s,h,hs=>by
  obtain⟨a,b⟩:=VA s p (h p<|.head _) hs
  show nb (jF<|ps.foldl cZ<|cZ s p)=_
  rw[Ig ps _ (fun q hq=>h q<|.tail _ hq) b,fO,<-zai]
  exact AZ a rfl
theorem Ih(ps:List Pt)(h: ∀p∈ps,f_ p):nb (aI<|lN ps)=nb (aI ps):=by
 unfold lN
 have e:=Ig ps ([],[],[]) h (fun q hq=>by cases hq)
 generalize ps.foldl cZ ([],[],[])=s at e⊢
 show nb (aI<|dt s.1 s.2.1 s.2.2)=_
 rw[Ia]
 exact e
theorem A4{s:Str}(h:s≠""): ∃c r,s.cps.toList=c::r:=by
 cases e:s.cps.toList with
 | nil=>exact absurd (i8 (by rw[e];rfl)) h
 | cons c r=>exact⟨c,r,rfl⟩
noncomputable def Ii:List RS:=
 [.fW (.v 0) "parts" (.blt .list [(.v 1)]),
 .fW (.v 0) "passed_by" (.c<|.int 0),
 .fW (.v 0) "offset" (.c (.int 0))]
noncomputable def Ij:List RS:=
 [.ret<|.iW (.cmp .Lt (.fld (.v 0) "passed_by")<|.blt .len [(.fld (.v 0) "parts")]) (.ix (.ix (.fld (.v 0) "parts")<|.fld (.v 0) "passed_by")<|.c<|.int 0)<|.c<|.str ""]
noncomputable def Ik:List RS:=
 [.ret<|.bin .Sub (.call 0 [(.ix (.fld (.v 0) "parts")<|.fld (.v 0) "passed_by")])<|.fld (.v 0) "offset"]
def VB:List Str:=["part_size"]
def Il:List Str:=["self","size","part","begin","end"]
noncomputable def A5:List RS:=
 [.asg 2 (.ix (.fld (.v 0) "parts") (.fld (.v 0) "passed_by")),
 .asg 3 (.fld (.v 0) "offset"),
 .asg 4 (.bin .Add (.v 3)<|.v 1),
 .fW (.v 0) "offset" (.v 4),
 .ite (.cmp .Eq (.bK 0 "left" (.v 0) []) (.c (.int 0))) [.fW (.v 0) "passed_by" (.bin .Add (.fld (.v 0) "passed_by") (.c (.int 1))),
  .fW (.v 0) "offset" (.c (.int 0))] [],
 .ret (.tup [(.ix (.v 2) (.c (.int 0))),(.iW (.cmp .Eq (.ix (.v 2) (.c (.int 0))) (.c (.str "keep"))) (.v 1) (.sl (.ix (.v 2) (.c (.int 1))) (some (.v 3)) (some (.v 4))))])]
def VC:List Str:=["left"]
def Im:List Str:=["given","text"]
noncomputable def Io:List RS:=
 [.ite (.cmp .Eq (.ix (.v 0) (.c (.int 0))) (.c (.str "keep"))) [.ret (.lst [(.tup [(.c (.str "cut")),(.v 1)])])] [],
 .ite (.cmp .NotEq (.ix (.v 0)<|.c<|.int 1)<|.v 1) [.iX 0 [(.c<|.str "what the first change puts is cut otherwise")]] [],
 .ret (.lst [])]
def Ip:List Str:=["walk","part","parts","place","size","given"]
noncomputable def Iq:List RS:=
 [.asg 2 (.lst []),
 .asg 3 (.c<|.int 0),
 .lA (.cmp .Lt (.v 3) (.call 0 [(.v 1)])) [.ite (.cmp .Eq (.bK 0 "word" (.v 0) []) (.c (.str "cut"))) [.drop (.bg .append (.v 2) [(.bK 1 "take" (.v 0) [(.bK 2 "left" (.v 0) [])])]),
   .cont] [],
  .asg 4 (.blt .min [(.bK 2 "left" (.v 0) []),(.bin .Sub (.call 0 [(.v 1)])<|.v 3)]),
  .asg 5 (.bK 1 "take" (.v 0) [(.v 4)]),
  .ite (.cmp .Eq (.ix (.v 1)<|.c<|.int 0)<|.c<|.str "keep") [.drop<|.bg .append (.v 2) [(.v 5)]] [.drop<|.bg .extend (.v 2) [(.call 1 [(.v 5),(.sl (.ix (.v 1)<|.c<|.int 1) (some<|.v 3)<|some<|.bin .Add (.v 3)<|.v 4)])]],
  .asg 3 (.bin .Add (.v 3) (.v 4))],
 .ret (.v 2)]
def VD:List Str:=["part_size","cut_behind"]
def VE:List Str:=["min"]
def Ir:List Str:=["word","take","left"]
def Iu:List Str:=["one","other","walk","parts","part"]
noncomputable def Iv:List RS:=
 [.ite (.cmp .NotEq (.ix (.call 0 [(.v 0)]) (.c (.int 1))) (.ix (.call 0 [(.v 1)]) (.c (.int 0)))) [.iX 0 [(.c (.str "the other change is over another number of signs than the first one gives"))]] [],
 .asg 2 (.make 0 [(.v 0)]),
 .asg 3 (.lst []),
 .jy 4 .list [(.v 1)] [.ite (.cmp .Eq (.ix (.v 4)<|.c<|.int 0)<|.c<|.str "put") [.drop<|.bg .append (.v 3) [(.v 4)]] [.drop<|.bg .extend (.v 3) [(.call 1 [(.v 2),(.v 4)])]]],
 .lA (.cmp .NotEq (.bK 0 "word" (.v 2) [])<|.c<|.str "") [.drop<|.bg .append (.v 3) [(.bK 1 "take" (.v 2) [(.bK 2 "left" (.v 2) [])])]],
 .ret (.call 2 [(.v 3)])]
def VF:List Str:=["sizes","parts_behind","neat"]
def VG:List Str:=["Walk"]
structure pf (K:Frag) (C:Addr):Prop where
 cl:fF K C
 tI:eY K C "parts"
 ph:eY K C "passed_by"
 tJ:eY K C "offset"
theorem lS{k:Str}{v:V}{r:List (Str×V)}:((k,v)::r).lookup k=some v:=by simp[List.lookup]
theorem dg{k j:Str}{v:V}{r:List (Str×V)}(h: ¬k=j):((j,v)::r).lookup k=r.lookup k:=by
 have:(k==j)=false:=by simpa using h
 simp[List.lookup,this]
theorem A9{k:Str}{v w:V}{r:List (Str×V)}:bM k v ((k,w)::r)=(k,v)::r:=by simp[bM]
theorem eJ{k j:Str}{v w:V}{r:List (Str×V)}(h: ¬j=k):bM k v ((j,w)::r)=(j,w)::bM k v r:=by simp[bM,h]
theorem VH{T:Ty}{v:V}{H:Hp}{P Q:Bool->Prop}(h:bF T v H P)(i: ∀b,P b->Q b):bF T v H Q:=by
 cases v with
 | ref a=>
  unfold bF at h⊢
  simp only at h⊢
  split at h
  all_goals first | exact i _ h | exact h.elim
 | aC=>exact i _ h
 | bl b=>exact i _ h
 | int _=>exact i _ h
 | str _=>exact i _ h
 | _=>exact False.elim h
theorem VI{T:Ty}{v:V}{H H':Hp}{P:Bool->Prop}(h:bF T v H P)(s:aB H H'):bF T v H' P:=by
 cases v with
 | ref a=>
  unfold bF at h⊢
  simp only at h⊢
  cases e:H a with
  | none=>rw[e] at h;exact h.elim
  | some o=>rw[e] at h;rw[s _ _ e];exact h
 | aC=>exact h
 | bl b=>exact h
 | int _=>exact h
 | str _=>exact h
 | _=>exact False.elim h
def jc(T:Ty)(v:V)(H:Hp):Prop:=bF T v H fun b=>b=false
theorem jc.same{T:Ty}{v:V}{H H':Hp}(h:jc T v H)(s:aB H H'):jc T v H':=VI h s
theorem jc.go{T:Ty}{v:V}{H:Hp}{Q:Bool->Prop}(h:jc T v H)(q:Q false):bF T v H Q:=VH h fun b e=>by rw[e];exact q
def VJ(x:Str):Bool:=x.cps.toList.all fun c=>SG.cps.contains c
theorem Iw{α:Type}(p:α->Bool): ∀l:List α,l.all p=false->(l.takeWhile p).length<l.length
 | [],h=>by cases h
 | c::l,h=>by
  rw[List.takeWhile_cons]
  cases hc:p c with
  | false=>simp
  | true=>
   rw[zbe,hc,Bool.true_and] at h
   have:=Iw p l h
   simp;lia
theorem VL(x y:Str)(h:(x.cps.toList.all fun c=>y.cps.contains c)=false):Txt.lstripChars x y≠"":=by
 have lt:=Iw _ _ h
 have e0:stripLo y.cps.contains true x=(x.cps.toList.takeWhile y.cps.contains).length:=by
  unfold stripLo
  rw[if_pos rfl]
 have e1: ∀n,stripHi y.cps.contains false x n=x.length:=fun n=>rfl
 intro z
 have z2:=congrArg Str.length z
 have l0:(Str.ofString "").length=0:=rfl
 rw[l0] at z2
 unfold Txt.lstripChars Txt.stripBy stripSame stripped at z2
 rw[e0,e1] at z2
 have hx:x.cps.size=x.cps.toList.length:=by simp
 split at z2
 ·have:x.cps.size=0:=z2
  lia
 ·have z3:(x.cps.extract (x.cps.toList.takeWhile y.cps.contains).length x.cps.size).size=0:=z2
  rw[Array.size_extract,Nat.min_self] at z3
  have z4:x.cps.size - (List.takeWhile (fun c=>y.cps.contains c) x.cps.toList).length=0:=z3
  lia
def tK(v:V)(H:Hp):Prop:=(∃x,v= .str x/\x.length<=1000000/\VJ x=false)\/jc .str v H
theorem tK.same{v:V}{H H':Hp}(h:tK v H)(s:aB H H'):tK v H':=by
 rcases h with h | h
 ·exact .inl h
 ·exact .inr (h.same s)
def pj(v:V)(H:Hp):Prop:=(∃b,v= .bl b)\/jc .int v H
theorem pj.same{v:V}{H H':Hp}(h:pj v H)(s:aB H H'):pj v H':=by
 rcases h with h | h
 ·exact .inl h
 ·exact .inr (h.same s)
def nA:Sp:=fun vs H Q E=> ∃v,vs=[v]/\((∃i,v= .int i/\Q (.bl true) H)\/(pj v H/\Q (.bl false) H))
theorem VM{K:Frag}(vs:List V)(H:Hp)(Q:VK)(E:XK)(h:nA vs H Q E):ax (aS K [] [] (E:=E)) Gi (Dn Q) (start lH vs) H:=by
 obtain⟨v,rfl,⟨i,rfl,q⟩ | ⟨⟨b,rfl⟩ | hn,q⟩⟩:=h
 ·exact⟨_,rfl,rfl,_,rfl,fI ⟨_,rfl,rfl,q⟩⟩
 ·exact⟨_,rfl,rfl,_,rfl,fI ⟨_,rfl,rfl,q⟩⟩
 ·exact⟨_,rfl,rfl,hn.go ⟨_,rfl,gE q⟩⟩
def Iy:Sp:=fun vs H Q E=> ∃v,vs=[v]/\((∃x,v= .str x/\good x/\Q (.bl true) H)\/(tK v H/\Q (.bl false) H))
theorem VN{K:Frag}(vs:List V)(H:Hp)(Q:VK)(E:XK)(h:Iy vs H Q E):ax (aS K [] gS (E:=E)) An (Dn Q) (start lH vs) H:=by
 obtain⟨v,rfl,⟨x,rfl,hx,q⟩ | ⟨⟨x,rfl,hl,hx⟩ | hn,q⟩⟩:=h
 ·exact UC _ _ _ _ ⟨x,rfl,hx,q⟩
 ·refine⟨_,rfl,rfl,_,rfl,fI ⟨_,rfl,rfl,bQ hl, ?_⟩⟩
  show Q (.bl<|false ^^ decide (V.str (Txt.lstripChars x SG)=V.str "")) H
  rw[zqF<|fun z=>VL x SG hx (by injection z)]
  exact q
 ·exact⟨_,rfl,rfl,hn.go ⟨_,rfl,gE q⟩⟩
def Iz(K:Frag):Sp:=fun vs H Q E=> ∃v p xs,vs=[v, .ref p]/\aG K H p xs/\xs.all eR=true/\((∃w,v= .str w/\Q (.bl<|cG (.str w) xs) H)\/(jc .str v H/\Q (.bl false) H))
theorem VO{K:Frag}(vs:List V)(H:Hp)(Q:VK)(E:XK)(h:Iz K vs H Q E):ax (aS K [] [] (E:=E)) Am (Dn Q) (start Al vs) H:=by
 obtain⟨v,p,xs,rfl,hp,hf,⟨w,rfl,q⟩ | ⟨hn,q⟩⟩:=h
 ·exact UE _ _ _ _ ⟨w,p,xs,rfl,hp,hf,q⟩
 ·exact⟨_,rfl,rfl,hn.go ⟨_,rfl,gE q⟩⟩
def VP(v:V)(H:Hp):Prop:=jc .tuple v H\/ ∃a xs,v= .ref a/\H a=some (.tup xs)/\xs.length<=1000000/\(xs.length≠2\/ ∃w t,xs=[w,t]/\
 (jc .str w H\/(∃s,w= .str s/\s≠"keep"/\s≠"cut"/\s≠"put")\/(w= .str "keep"/\(pj t H\/ ∃n,t= .int n/\n<1))\/((w= .str "cut"\/w= .str "put")/\(tK t H\/t= .str ""))))
abbrev wA(K:Frag):List (Str×Sp):=[("is_word",Iz K),("is_whole",nA),("is_text",Iy)]
def IA:Sp:=fun vs H Q E=> ∃v,vs=[v]/\((∃p,hV H v p/\bC p/\ ∀H',aB H H'->Q (.bl true) H')\/(VP v H/\ ∀H',aB H H'->Q (.bl false) H'))
theorem IB(s t:Str):cG (.str s) [.str t]=(t==s):=by
 unfold cG
 show(dN (.str t) (.str s) || false)=_
 rw[zbp];rfl
theorem VQ{K:Frag}(vs:List V)(H:Hp)(Q:VK)(E:XK)(h:IA vs H Q E):ax (aS K (wA K) [] (E:=E)) vY (Dn Q) (start lH vs) H:=by
 have two: ∀(a:Addr) (w t:V) (Q1:VK) (H1:Hp) (σ:St),σ[0]?=some (some<|.ref a)->H1 a=some (.tup [w,t])->
   (∀(tt:Addr) H2,aB H1 H2-> ∀b:Bool,(b=true->w= .str "cut"\/w= .str "put")->(b=false->w≠ .str "cut"/\w≠ .str "put")->Q1 (.bl b) H2)->(jc .str w H1\/ ∃s,w= .str s)->
   af (aS K (wA K) [] (E:=E)) (.call 0 [(.ix (.v 0)<|.c<|.int 0),(.tup [(.c<|.str "cut"),(.c<|.str "put")])]) σ H1 Q1:=by
  intro a w t Q1 H1 σ h0 ha q hw
  refine⟨_,h0, .inr<|.inl ⟨_,_,_,_,rfl,rfl,aG.of ha,rfl,(by show 2<=sizeLine;decide),fun t ht=> ?_⟩⟩
  have s2:=sameNew (o:= .tup [V.str "cut",V.str "put"]) ht
  refine⟨w,t,_,rfl,aG.of au,rfl, ?_⟩
  rcases hw with hw | ⟨s,rfl⟩
  ·refine .inr ⟨hw.same s2,q t _ s2 false (fun z=>by cases z) fun _=> ⟨?_, ?_⟩⟩
   ·rintro rfl;cases (show true=false from hw)
   ·rintro rfl;cases (show true=false from hw)
  ·refine .inl ⟨s,rfl,q t _ s2 _ (fun z=> ?_) fun z=> ?_⟩
   ·have z':((Str.ofString "cut"==s) || ((Str.ofString "put"==s) || false))=true:=z
    simp only[zbp,Bool.or_eq_true,beq_iff_eq] at z'
    rcases z' with z' | z'<;>subst z'
    ·exact .inl rfl
    ·exact .inr rfl
   ·have z':((Str.ofString "cut"==s) || ((Str.ofString "put"==s) || false))=false:=z
    simp only[zbp,Bool.or_eq_false_iff,beq_eq_false_iff_ne] at z'
    exact⟨fun y=>z'.1 (by injection y with y;exact y.symm),fun y=>z'.2 (by injection y with y;exact y.symm)⟩
 obtain⟨v,rfl,⟨p,⟨a,rfl,ha⟩,hp,q⟩ | ⟨hn | ⟨a,xs,rfl,ha,hl,hb⟩,q⟩⟩:=h
 ·refine⟨_,rfl,rfl,AF ha ⟨_,rfl, .inr ⟨_,aG.of ha,_,rfl, ?_⟩⟩⟩
  refine⟨_,rfl, .inr<|.inl ⟨_,_,_,_,rfl,rfl,aG.of ha,rfl,(by show 1<=sizeLine;decide),fun t1 gk=> ?_⟩⟩
  have s1:=sameNew (o:= .tup [V.str "keep"]) gk
  refine⟨.str p.word,t1,[.str "keep"],rfl,aG.of au,rfl, .inl ⟨p.word,rfl, ?_⟩⟩
  have jd:=s1 _ _ ha
  generalize upd H t1 (.tup [V.str "keep"])=H1 at s1 jd
  have fin: ∀(s:Str),good s->s≠""->H1 a=some (.tup [.str p.word, .str s])->p.word="put"\/p.word="cut"->ax (aS K (wA K) [] (E:=E)) (vY.drop 2) (Dn Q) (start lH [.ref a]) H1:=by
   intro s gs ns hs hw
   refine two a (.str p.word) (.str s) _ H1 _ rfl hs (fun tt H2 s2 b qQ pw=> ?_)<|.inr ⟨_,rfl⟩
   have eb:b=true:=by
    cases b with
    | true=>rfl
    | false=>
     obtain⟨z1,z2⟩:=pw rfl
     rcases hw with z | z
     ·exact absurd (congrArg V.str z) z2
     ·exact absurd (congrArg V.str z) z1
   subst eb
   have wB:=s2 _ _ hs
   refine⟨_,rfl,fI ⟨_,rfl, .inr<|.inl ⟨_,_,_,_,rfl,rfl,aG.of wB,rfl, .str s,rfl, .inl ⟨s,rfl,gs,_,rfl, ?_⟩⟩⟩⟩
   refine fI ⟨_,rfl, .inr<|.inl ⟨_,_,_,_,rfl,rfl,aG.of wB,rfl, ?_⟩⟩
   show Q (.bl<|true ^^ decide (V.str s=V.str "")) _
   rw[zqF<|fun z=>ns (by injection z)]
   exact q _<|s1.trans s2
  cases p with
  | keep n=>
   rw[show cG (.str (Pt.keep n).word) [.str "keep"]=true by show cG (.str "keep") [.str "keep"]=true;decide]
   refine⟨_,rfl, .inr<|.inl ⟨_,_,_,_,rfl,rfl,aG.of jd,rfl, .int n,rfl, .inl ⟨n,rfl,_,rfl, ?_⟩⟩⟩
   refine fI ⟨_,rfl, .inr<|.inl ⟨_,_,_,_,rfl,rfl,aG.of jd,rfl,trivial, ?_⟩⟩
   show Q (.bl<|decide<|1<=n) H1
   rw[zqT (show(1:Int)<=n from hp)]
   exact q _ s1
  | put s=>
   rw[show cG (.str (Pt.put s).word) [.str "keep"]=false by show cG (.str "put") [.str "keep"]=false;decide]
   exact fin s hp.1 hp.2 jd<|.inl rfl
  | cut s=>
   rw[show cG (.str (Pt.cut s).word) [.str "keep"]=false by show cG (.str "cut") [.str "keep"]=false;decide]
   exact fin s hp.1 hp.2 jd<|.inr rfl
 ·exact⟨_,rfl,rfl,hn.go<|q _<|aB.refl _⟩
 ·refine⟨_,rfl,rfl,AF ha ⟨_,rfl, .inr ⟨_,aG.of ha,_,rfl, ?_⟩⟩⟩
  show if (true ^^ decide (V.int (xs.length:Int)=V.int 2))=true then _ else _
  rcases hb with hb | ⟨w,t,rfl,hb⟩
  ·rw[zqF<|fun z=>hb (by injection z with z;lia)]
   exact q _<|aB.refl _
  ·refine⟨_,rfl, .inr<|.inl ⟨_,_,_,_,rfl,rfl,aG.of ha,rfl,(by show 1<=sizeLine;decide),fun t1 gk=> ?_⟩⟩
   have s1:=sameNew (o:= .tup [V.str "keep"]) gk
   refine⟨w,t1,[.str "keep"],rfl,aG.of au,rfl, ?_⟩
   have jd:=s1 _ _ ha
   generalize upd H t1 (.tup [V.str "keep"])=H1 at s1 jd
   have no:(jc .str w H1\/ ∃s,w= .str s)->w≠ .str "cut"->w≠ .str "put"->ax (aS K (wA K) [] (E:=E)) (vY.drop 2) (Dn Q) (start lH [.ref a]) H1:=by
    intro hw n1 n2
    refine two a w t _ H1 _ rfl jd (fun tt H2 s2 b qQ pw=> ?_) hw
    have eb:b=false:=by
     cases b with
     | false=>rfl
     | true=>rcases qQ rfl with z | z;exact absurd z n1;exact absurd z n2
    subst eb
    exact⟨_,rfl,gE<|q _<|s1.trans s2⟩
   rcases hb with hb | ⟨s,rfl,n0,n1,n2⟩ | ⟨rfl,hb⟩ | ⟨hw,hb⟩
   ·refine .inr ⟨hb.same s1,no (.inl<|hb.same s1) ?_ ?_⟩
    ·rintro rfl;cases (show true=false from hb)
    ·rintro rfl;cases (show true=false from hb)
   ·refine .inl ⟨s,rfl, ?_⟩
    rw[IB,beq_eq_false_iff_ne.mpr<|Ne.symm n0]
    exact no (.inr ⟨s,rfl⟩) (fun z=>n1 (by injection z))<|fun z=>n2 (by injection z)
   ·refine .inl ⟨_,rfl, ?_⟩
    rw[show cG (.str "keep") [.str "keep"]=true by decide]
    refine⟨_,rfl, .inr<|.inl ⟨_,_,_,_,rfl,rfl,aG.of jd,rfl,t,rfl, ?_⟩⟩
    rcases hb with hb | ⟨n,rfl,hn⟩
    ·exact .inr ⟨hb.same s1,_,rfl,gE<|q _ s1⟩
    ·refine .inl ⟨n,rfl,_,rfl,fI ⟨_,rfl, .inr<|.inl ⟨_,_,_,_,rfl,rfl,aG.of jd,rfl,trivial, ?_⟩⟩⟩
     show Q (.bl<|decide<|1<=n) H1
     rw[zqF (by lia)]
     exact q _ s1
   ·have VR: ∃s,w= .str s/\(Str.ofString "keep"==s)=false:=by
     rcases hw with rfl | rfl
     ·exact⟨_,rfl,by decide⟩
     ·exact⟨_,rfl,by decide⟩
    obtain⟨s,rfl,hk⟩:=VR
    refine .inl ⟨s,rfl, ?_⟩
    rw[IB,hk]
    refine two a (.str s) t _ H1 _ rfl jd (fun tt H2 s2 b qQ pw=> ?_)<|.inr ⟨s,rfl⟩
    have eb:b=true:=by
     cases b with
     | true=>rfl
     | false=>
      obtain⟨z1,z2⟩:=pw rfl
      rcases hw with z | z
      ·exact absurd z z1
      ·exact absurd z z2
    subst eb
    have lU:=s2 _ _ jd
    refine⟨_,rfl,fI ⟨_,rfl, .inr<|.inl ⟨_,_,_,_,rfl,rfl,aG.of lU,rfl,t,rfl, ?_⟩⟩⟩
    rcases hb with hb | rfl
    ·exact .inr ⟨hb.same<|s1.trans s2,_,rfl,gE<|q _<|s1.trans s2⟩
    ·refine .inl ⟨_,rfl,⟨by decide,fun c hc=>by cases hc⟩,_,rfl,fI ⟨_,rfl, .inr<|.inl ⟨_,_,_,_,rfl,rfl,aG.of lU,rfl, ?_⟩⟩⟩
     exact q _<|s1.trans s2
theorem VS{vs:List V}{H:Hp}{Q:VK}{E:XK}(h:oU vs H Q E):IA vs H Q E:=by
 obtain⟨v,p,rfl,hp,ho,q⟩:=h
 exact⟨_,rfl, .inl ⟨p,hp,ho,q⟩⟩
end L2.B
namespace L2
open PySem PySem.Spec PyProof.Rows
section
variable {Γ:aQ} {D:Ends} {σ:St} {H:Hp} {r:List RS} {Q:VK} {QA:List V->Hp->Prop} {QT:Bool->Hp->Prop}
theorem ae{i:Nat}{v:V}(h:σ[i]?=some (some v))(q:Q v H):af Γ (.v i) σ H Q:=⟨_,h,q⟩
theorem aw{v:V}(q:Q v H):af Γ (.c v) σ H Q:=q
theorem aV{op:Operator}{a b:RE}(h:af Γ a σ H fun x H1=>af Γ b σ H1 fun y H2=>qr Γ.K op x y H2 Q):af Γ (.bin op a b) σ H Q:=h
theorem nB{op:CmpOp}{a b:RE}(h:af Γ a σ H fun x H1=>af Γ b σ H1 fun y H2=>cY Γ.K op x y H2 Q):af Γ (.cmp op a b) σ H Q:=h
theorem bf{a b:RE}(h:af Γ a σ H fun x H1=>af Γ b σ H1 fun y H2=>mP Γ.K Γ.sd x y H2 Q):af Γ (.ix a b) σ H Q:=h
theorem VT{j:Nat}{as:List RE}(h:aY Γ as σ H fun vs H1=>Γ.fs j (vs++ []) H1 Q Γ.E):af Γ (.call j as) σ H Q:=h
theorem c7{j:Nat}{as:List RE}(sp:Sp)(hs:Γ.fs j=sp)(h:aY Γ as σ H fun vs H1=>sp vs H1 Q Γ.E):af Γ (.call j as) σ H Q:=by
 subst hs
 refine VT ?_
 have e:(fun(vs:List V) (H1:Hp)=>Γ.fs j (vs++ []) H1 Q Γ.E)=fun vs H1=>Γ.fs j vs H1 Q Γ.E:=by
  funext vs H1;rw[zaf]
 rw[e];exact h
theorem tL{b:kZ}{as:List RE}(h:aY Γ as σ H fun vs H1=>mO Γ.K b vs H1 Q):af Γ (.blt b as) σ H Q:=h
theorem je{as:List RE}(h:aY Γ as σ H fun xs H1=>xs.length<=sizeLine/\ ∀p,H1 p=none->Q (.ref p) (upd H1 p<|.tup xs)):af Γ (.tup as) σ H Q:=h
theorem cP{as:List RE}(h:aY Γ as σ H fun xs H1=>xs.length<=sizeLine/\ ∀p,H1 p=none->Q (.ref p) (upd H1 p<|.lst xs)):af Γ (.lst as) σ H Q:=h
theorem aL(q:QA [] H):aY Γ [] σ H QA:=q
theorem ay{a:RE}{as:List RE}(h:af Γ a σ H fun x H1=>aY Γ as σ H1 fun xs H2=>QA (x::xs) H2):aY Γ (a::as) σ H QA:=h
theorem ba{i:Nat}{e:RE}(h:af Γ e σ H fun x H1=>ax Γ r D (σ.set i<|some x) H1):ax Γ (.asg i e::r) D σ H:=h
theorem dH{e:RE}(h:af Γ e σ H fun _ H1=>ax Γ r D σ H1):ax Γ (.drop e::r) D σ H:=h
theorem ck{e:RE}(h:af Γ e σ H D.rt):ax Γ (.ret e::r) D σ H:=h
end
end L2
namespace L2.B
open PySem PySem.Spec PyProof.Rows
theorem Paired.app{α β:Type}{R:α->β->Prop}: ∀{xs br:List α} {ys de:List β},Paired R xs ys->Paired R br de->Paired R (xs++br) (ys++de)
 | _,_,_,_, .nil,s=>s
 | _,_,_,_, .cons r t,s=> .cons r (Paired.app t s)
section
variable {Γ:aQ} {cs:List Addr} {ink ea D:Addr} {j:Nat}
end
theorem Run.good{l r:List Nat}{ps:List Pt}(h:Run l ps r)(hl: ∀c∈l,SG.cps.contains c=true)(hp: ∀p∈ps,hZ p): ∀c∈r,SG.cps.contains c=true:=by
 induction h with
 | nil=>exact hl
 | keep e _ ih=>
  intro c hc
  rcases zad.mp hc with z | z
  ·exact hl c (zad.mpr<|.inl z)
  ·exact ih (fun d hd=>hl d<|zad.mpr<|.inr hd) (fun p h=>hp p<|.tail _ h) c z
 | put _ ih=>
  intro c hc
  rcases zad.mp hc with z | z
  ·exact(hp _ (.head _):sg _) c z
  ·exact ih hl (fun p h=>hp p<|.tail _ h) c z
 | cut _ ih=>exact ih (fun d hd=>hl d<|zad.mpr<|.inr hd) (fun p h=>hp p<|.tail _ h)
theorem A_{x:Str}(k:Nat)(n:Int)(m:Nat)(hn:n=m):jx x (some (k:Int)) (some<|(k:Int)+n)=⟨((x.cps.toList.drop k).take m).toArray⟩:=by
 have e1:(k:Int)+n=((k+m:Nat):Int):=by rw[hn];simp
 unfold jx kY
 rw[e1,HT.mH,HT.mH]
 congr 1
 by_cases h:k<=x.cps.toList.length
 ·rw[show min k x.cps.toList.length=k by lia]
  by_cases h2:k+m<=x.cps.toList.length
  ·rw[show min (k+m) x.cps.toList.length=k+m by lia,Nat.add_sub_cancel_left]
  ·rw[show min (k+m) x.cps.toList.length=x.cps.toList.length by lia,zaG (by rw[zaB];lia),zaG (by rw[zaB];lia)]
 ·rw[show min k x.cps.toList.length=x.cps.toList.length by lia,zbF,zca (by lia),zbG,zbG]
def qR:Sp:=fun vs H Q E=> ∃x a xs ps r,vs=[.str x, .ref a]/\good x/\H a=some (.lst xs)/\aR H xs ps/\(∀p∈ps,AD p)/\Run x.cps.toList ps r/\r.length<=1000000/\Q (.str ⟨r.toArray⟩) H
def bj:Pt->Nat | .keep n=>n.toNat | .put s=>s.length | .cut s=>s.length
def b_:Pt->Nat->Pt
 | .keep n,o=> .keep (n - o)
 | .put s,o=> .put ⟨(s.cps.toList.drop o).toArray⟩
 | .cut s,o=> .cut ⟨(s.cps.toList.drop o).toArray⟩
def cb:Pt->Nat->Pt
 | .keep _,o=> .keep o
 | .put s,o=> .put ⟨(s.cps.toList.take o).toArray⟩
 | .cut s,o=> .cut ⟨(s.cps.toList.take o).toArray⟩
theorem IC(p:Pt)(o:Nat):(b_ p o).word=p.word:=by cases p<;>rfl
theorem VU(p:Pt)(o:Nat):(cb p o).word=p.word:=by cases p<;>rfl
theorem qS{p:Pt}(h:bC p):qG p=(bj p:Int)/\1<=bj p:=by
 cases p with
 | keep n=>
  have h1:(1:Int)<=n:=h
  exact⟨by show n=(n.toNat:Int);lia,by show 1<=n.toNat;lia⟩
 | put s=>
  obtain⟨c,r,e⟩:=A4 h.2
  exact⟨rfl,by show 1<=s.length;rw[len_list,e];simp⟩
 | cut s=>
  obtain⟨c,r,e⟩:=A4 h.2
  exact⟨rfl,by show 1<=s.length;rw[len_list,e];simp⟩
theorem jf(l:List Nat):(⟨l.toArray⟩:Str).length=l.length:=by rw[len_list]
theorem kj(p:Pt)(o:Nat)(h:o<=bj p):bj (b_ p o)=bj p - o:=by
 cases p with
 | keep n=>
  have h':o<=n.toNat:=h
  show(n - (o:Int)).toNat=n.toNat - o
  lia
 | put s=>show(⟨(s.cps.toList.drop o).toArray⟩:Str).length=s.length - o;rw[jf,zaB,<-len_list]
 | cut s=>show(⟨(s.cps.toList.drop o).toArray⟩:Str).length=s.length - o;rw[jf,zaB,<-len_list]
theorem Ba(p:Pt)(o:Nat)(h:o<=bj p):bj (cb p o)=o:=by
 cases p with
 | keep n=>show((o:Int)).toNat=o;lia
 | put s=>
  have h':o<=s.length:=h
  rw[len_list] at h'
  show(⟨(s.cps.toList.take o).toArray⟩:Str).length=o;rw[jf,zaD];lia
 | cut s=>
  have h':o<=s.length:=h
  rw[len_list] at h'
  show(⟨(s.cps.toList.take o).toArray⟩:Str).length=o;rw[jf,zaD];lia
theorem drop_zero(p:Pt):b_ p 0=p:=by
 cases p with
 | keep n=>show Pt.keep (n - ((0:Nat):Int))=_;rw[show n - ((0:Nat):Int)=n by lia]
 | put s=>show Pt.put ⟨(s.cps.toList.drop 0).toArray⟩=_;rw[zbl,wm]
 | cut s=>show Pt.cut ⟨(s.cps.toList.drop 0).toArray⟩=_;rw[zbl,wm]
theorem drop_drop(p:Pt)(a b:Nat):b_ (b_ p a) b=b_ p (a+b):=by
 cases p with
 | keep n=>show Pt.keep (n - (a:Int) - (b:Int))=Pt.keep (n - ((a+b:Nat):Int));congr 1;lia
 | put s=>show Pt.put ⟨((s.cps.toList.drop a).drop b).toArray⟩=Pt.put ⟨(s.cps.toList.drop<|a+b).toArray⟩;rw[List.drop_drop]
 | cut s=>show Pt.cut ⟨((s.cps.toList.drop a).drop b).toArray⟩=Pt.cut ⟨(s.cps.toList.drop<|a+b).toArray⟩;rw[List.drop_drop]
theorem take_all(p:Pt)(h:f_ p):cb p (bj p)=p:=by
 cases p with
 | keep n=>
  have h':0<=n:=h
  show Pt.keep ((n.toNat:Nat):Int)=_;rw[show((n.toNat:Nat):Int)=n by lia]
 | put s=>show Pt.put ⟨(s.cps.toList.take s.length).toArray⟩=_;rw[len_list,zbB,wm]
 | cut s=>show Pt.cut ⟨(s.cps.toList.take s.length).toArray⟩=_;rw[len_list,zbB,wm]
theorem wC(p:Pt)(o:Nat)(h:o<=bj p):bH p=bH (cb p o)++bH (b_ p o):=by
 cases p with
 | keep n=>
  have h':o<=n.toNat:=h
  show rK n.toNat=rK ((o:Nat):Int).toNat++rK (n - (o:Int)).toNat
  rw[Ib];congr 1;lia
 | put s=>
  show s.cps.toList.map At.P=(s.cps.toList.take o).map At.P++ (s.cps.toList.drop o).map At.P
  rw[<-zap,zbE]
 | cut s=>
  show s.cps.toList.map At.C=(s.cps.toList.take o).map At.C++ (s.cps.toList.drop o).map At.C
  rw[<-zap,zbE]
theorem wD{s:Str}(h:good s)(l:List Nat)(hl:l.length<=s.length)(hm: ∀c∈l,c∈s.cps.toList):good ⟨l.toArray⟩:=
 ⟨by rw[jf];exact zaw hl h.1,fun c hc=>h.2 c<|hm c hc⟩
theorem wF{l:List Nat}(h:l≠ []):(⟨l.toArray⟩:Str)≠"":=fun z=>h (by have:=congrArg (fun s=>s.cps.toList) z;exact this)
theorem Bb{p:Pt}{o:Nat}(h:bC p)(ho:o<bj p):bC (b_ p o):=by
 cases p with
 | keep n=>
  have h':o<n.toNat:=ho
  show(1:Int)<=n - (o:Int)
  lia
 | put s=>
  have h':o<s.cps.toList.length:=by rw[<-len_list];exact ho
  exact⟨wD h.1 _ (by rw[zaB,<-len_list];lia) fun c hc=>zbH hc,wF (by intro z;have:=congrArg List.length z;rw[zaB] at this;have t2:s.cps.toList.length - o=0:=this;lia)⟩
 | cut s=>
  have h':o<s.cps.toList.length:=by rw[<-len_list];exact ho
  exact⟨wD h.1 _ (by rw[zaB,<-len_list];lia) fun c hc=>zbH hc,wF (by intro z;have:=congrArg List.length z;rw[zaB] at this;have t2:s.cps.toList.length - o=0:=this;lia)⟩
theorem ID{p:Pt}{o:Nat}(h:bC p)(ho:1<=o)(h1:o<=bj p):bC (cb p o):=by
 cases p with
 | keep n=>show(1:Int)<= (o:Int);lia
 | put s=>
  have h':o<=s.cps.toList.length:=by rw[<-len_list];exact h1
  exact⟨wD h.1 _ (by rw[zaD,<-len_list];lia) fun c hc=>zcj hc,wF (by intro z;have:=congrArg List.length z;rw[zaD] at this;have t2:min o s.cps.toList.length=0:=this;lia)⟩
 | cut s=>
  have h':o<=s.cps.toList.length:=by rw[<-len_list];exact h1
  exact⟨wD h.1 _ (by rw[zaD,<-len_list];lia) fun c hc=>zcj hc,wF (by intro z;have:=congrArg List.length z;rw[zaD] at this;have t2:min o s.cps.toList.length=0:=this;lia)⟩
def wf(L:Addr)(i o:Int):List (Str×V):=[("parts", .ref L),("passed_by", .int i),("offset", .int o)]
theorem wG{L:Addr}{i o:Int}:(wf L i o).lookup ("parts":Str)=some (.ref L):=lS
theorem tM{L:Addr}{i o:Int}:(wf L i o).lookup ("passed_by":Str)=some (.int i):=(dg (by decide+kernel)).trans lS
theorem IE{L:Addr}{i o:Int}:(wf L i o).lookup ("offset":Str)=some (.int o):=(dg (by decide+kernel)).trans ((dg (by decide+kernel)).trans lS)
theorem wH{L:Addr}{i o:Int}{m:Str}(h1: ¬m="parts")(h2: ¬m="passed_by")(h3: ¬m="offset"):(wf L i o).lookup m=none:=(dg h1).trans ((dg h2).trans<|(dg h3).trans rfl)
theorem IF{L:Addr}{i o k:Int}:bM "offset" (.int k) (wf L i o)=wf L i k:=by
 unfold wf
 rw[eJ (by decide+kernel),eJ (by decide+kernel),A9]
theorem VW{L:Addr}{i o k:Int}:bM "passed_by" (.int k) (wf L i o)=wf L k o:=by
 unfold wf
 rw[eJ (by decide+kernel),A9]
theorem VX{L:Addr}:bM "offset" (.int 0) (bM "passed_by" (.int 0)<|bM "parts" (.ref L) [])=wf L 0 0:=by
 have e1:bM "parts" (V.ref L) []=[(("parts":Str),V.ref L)]:=rfl
 rw[e1,eJ (by decide+kernel)]
 have e2:bM "passed_by" (V.int 0) []=[(("passed_by":Str),V.int 0)]:=rfl
 rw[e2,eJ (by decide+kernel),eJ (by decide+kernel)]
 rfl
def cB(C:Addr)(H:Hp)(w L:Addr)(rs:List Pt):Prop:= ∃(dx:Addr) (xs:List V) (ps:List Pt) (i o:Nat),H w=some (.ins C dx<|wf L i o)/\H L=some (.lst xs)/\aR H xs ps/\(∀p∈ps,bC p)/\ps.length<=100000/\
 ((ps.drop i=[]/\rs=[])\/ ∃p t,ps.drop i=p::t/\o<bj p/\rs=b_ p o::t)
theorem cB.keep{C:Addr}{H H':Hp}{w L:Addr}{rs:List Pt}(h:cB C H w L rs)(k: ∀b o,H b=some o->b=w\/b=L\/(∃xs,o= .tup xs)->H' b=some o):cB C H' w L rs:=by
 obtain⟨dx,xs,ps,i,o,h1,h2,h3,h4⟩:=h
 exact⟨dx,xs,ps,i,o,k _ _ h1<|.inl rfl,k _ _ h2<|.inr<|.inl rfl,h3.mono fun b ys e=>k _ _ e (.inr<|.inr ⟨ys,rfl⟩),h4⟩
theorem cB.same{C:Addr}{H H':Hp}{w L:Addr}{rs:List Pt}(h:cB C H w L rs)(s:aB H H'):cB C H' w L rs:=h.keep fun b o e _=>s b o e
theorem cB.but{C:Addr}{H H':Hp}{w L c:Addr}{rs:List Pt}{xs:List V}(h:cB C H w L rs)(b:aF c H H')(hc:H c=some (.lst xs))(hn:c≠L):cB C H' w L rs:=by
 refine h.keep fun d o e z=>b d o e ?_
 obtain⟨dx,_,_,_,_,h1,_⟩:=h
 rcases z with rfl | rfl | ⟨ys,rfl⟩
 ·exact iM h1 hc (by intro z;cases z)
 ·exact hn.symm
 ·exact iM e hc (by intro z;cases z)
theorem cB.ok{C:Addr}{H:Hp}{w L:Addr}{rs:List Pt}(h:cB C H w L rs): ∀p∈rs,bC p:=by
 obtain⟨dx,xs,ps,i,o,h1,h2,h3,h4,h5,⟨_,rfl⟩ | ⟨p,t,e,ho,rfl⟩⟩:=h
 ·intro p hp;cases hp
 ·have hm: ∀q∈p::t,bC q:=fun q hq=>h4 q (zbH (by rw[e];exact hq))
  intro q hq
  rcases zaa.mp hq with rfl | hq
  ·exact Bb (hm p<|.head _) ho
  ·exact hm q (.tail _ hq)
def Bc:List Pt->Str
 | []=> ""
 | p::_=>p.word
def wI(C:Addr):Sp:=fun vs H Q E=> ∃(w dx a:Addr) (xs:List V) (ps:List Pt),vs=[.ref w, .ref a]/\H w=some (.ins C dx [])/\H a=some (.lst xs)/\aR H xs ps/\(∀p∈ps,bC p)/\ps.length<=100000/\
 ∀L H',H L=none->L≠w->aF w H H'->cB C H' w L ps->Q .aC H'
theorem VY{K:Frag}{C:Addr}(T:pf K C)(vs:List V)(H:Hp)(Q:VK)(E:XK)(h:wI C vs H Q E):ax (aS K [] [] (E:=E)) Ii (Dn Q) (start v5 vs) H:=by
 obtain⟨w,dx,a,xs,ps,rfl,hw,ha,cN,aE,hl,k⟩:=h
 refine⟨_,rfl,xs, .inl<|aq.of ha,fun L hL=> ?_⟩
 have nw:w≠L:=bZ hw hL
 refine⟨_,rfl,w,C,dx,[],rfl,(by rw[aN nw];exact hw),T.cl,T.tI,(by show 0<1000;decide), ?_⟩
 refine⟨_,rfl,w,C,dx,_,rfl,au,T.cl,T.ph,(by show 1<1000;decide), ?_⟩
 refine⟨_,rfl,w,C,dx,_,rfl,au,T.cl,T.tJ,(by show 2<1000;decide), ?_⟩
 rw[uF,uF]
 have b:aF w H (upd (upd H L<|.lst xs) w<|.ins C dx<|bM "offset" (.int 0)<|bM "passed_by" (.int 0)<|bM "parts" (.ref L) []):=fun c o e n=>by rw[aN n,aN<|bZ e hL];exact e
 refine k L _ hL nw.symm b ⟨dx,xs,ps,0,0, ?_, ?_,cN.mono ?_,aE,hl, ?_⟩
 ·rw[au,VX];rfl
 ·rw[aN nw.symm,au]
 ·intro c ys e
  exact b c _ e<|iM e hw (by intro z;cases z)
 ·cases ps with
  | nil=>exact .inl ⟨rfl,rfl⟩
  | cons p t=>exact .inr ⟨p,t,rfl,(qS<|aE p<|.head _).2,by rw[drop_zero]⟩
theorem Be{ps:List Pt}{i:Nat}{p:Pt}{t:List Pt}(h:ps.drop i=p::t):ps[i]?=some p/\ps.drop (i+1)=t/\i<ps.length:=by
 have hl:i<ps.length:=by
  rcases Nat.lt_or_ge i ps.length with z | z
  ·exact z
  ·rw[zca z] at h;cases h
 refine⟨?_, ?_,hl⟩
 ·have:=congrArg List.head? h
  rw[List.head?_drop] at this
  simpa using this
 ·rw[<-List.drop_drop,h];rfl
theorem aR.at{H:Hp}{xs:List V}{ps:List Pt}{i:Nat}{p:Pt}(h:aR H xs ps)(e:ps[i]?=some p): ∃a,xs[i]?=some (.ref a)/\H a=some (.tup [.str p.word,p.val]):=by
 have hl:=Paired.length h
 have hi:i<xs.length:=by rw[hl];exact(zak.mp e).1
 obtain⟨q,hq,a,ea,ha⟩:=h.get (i:=i) (v:=xs[i]) (by simp[hi])
 rw[e] at hq;cases hq
 exact⟨a,by rw[<-ea];simp[hi],ha⟩
def pA(C:Addr):Sp:=fun vs H Q E=> ∃(w L:Addr) (rs:List Pt),vs=[.ref w]/\cB C H w L rs/\Q (.str<|Bc rs) H
theorem VZ{K:Frag}{C:Addr}(T:pf K C)(vs:List V)(H:Hp)(Q:VK)(E:XK)(h:pA C vs H Q E):ax (aS K [] [] (E:=E)) Ij (Dn Q) (start m_ vs) H:=by
 obtain⟨w,L,rs,rfl,⟨dx,xs,ps,i,o,h1,h2,h3,h4,h5,h6⟩,q⟩:=h
 have hl:=Paired.length h3
 refine⟨_,rfl,w,C,dx,_,_,rfl,h1,T.cl,T.ph,tM,_,rfl,w,C,dx,_,_,rfl,h1,T.cl,T.tI,wG, .inl ⟨_,aq.of h2,trivial,_,rfl, ?_⟩⟩
 rcases h6 with⟨e,rfl⟩ | ⟨p,t,e,ho,rfl⟩
 ·have:ps.length<=i:=by
   rcases Nat.lt_or_ge i ps.length with z | z
   ·rw[zaY z] at e;cases e
   ·exact z
  exact iF q<|zqF (by lia)
 ·obtain⟨e1,e2,e3⟩:=Be e
  obtain⟨a,ea,ha⟩:=h3.at e1
  refine iT ?_<|zqT (by lia)
  refine⟨_,rfl,w,C,dx,_,_,rfl,h1,T.cl,T.tI,wG,_,rfl,w,C,dx,_,_,rfl,h1,T.cl,T.ph,tM, .inl ⟨_,_,_,_,rfl,rfl,aq.of h2,cq ea, ?_⟩⟩
  refine .inr<|.inl ⟨_,_,_,_,rfl,rfl,aG.of ha,rfl, ?_⟩
  rw[show Bc (b_ p o::t)=p.word from IC p o] at q
  exact q
def wJ(C:Addr):Sp:=fun vs H Q E=> ∃(w L dx:Addr) (xs:List V) (ps:List Pt) (i o:Nat) (p:Pt),vs=[.ref w]/\H w=some (.ins C dx<|wf L i o)/\H L=some (.lst xs)/\aR H xs ps/\ps[i]?=some p/\bC p/\Q (.int<|(bj p:Int) - (o:Int)) H
theorem V0{K:Frag}{C:Addr}(T:pf K C)(vs:List V)(H:Hp)(Q:VK)(E:XK)(h:wJ C vs H Q E):ax (aS K [("part_size",qH)] [] (E:=E)) Ik (Dn Q) (start m_ vs) H:=by
 obtain⟨w,L,dx,xs,ps,i,o,p,rfl,h1,h2,h3,e1,hp,q⟩:=h
 obtain⟨a,ea,ha⟩:=h3.at e1
 refine⟨_,rfl,w,C,dx,_,_,rfl,h1,T.cl,T.tI,wG,_,rfl,w,C,dx,_,_,rfl,h1,T.cl,T.ph,tM, .inl ⟨_,_,_,_,rfl,rfl,aq.of h2,cq ea, ?_⟩⟩
 refine⟨_,p,rfl,⟨a,rfl,ha⟩,v9 hp, ?_⟩
 refine⟨_,rfl,w,C,dx,_,_,rfl,h1,T.cl,T.tJ,IE,trivial, ?_⟩
 rw[(qS hp).1]
 exact q
def nC(C:Addr):Sp:=fun vs H Q E=> ∃(w L:Addr) (p:Pt) (t:List Pt),vs=[.ref w]/\cB C H w L (p::t)/\Q (.int (bj p:Int)) H
theorem V1{C:Addr}{vs:List V}{H:Hp}{Q:VK}{E:XK}(h:nC C vs H Q E):wJ C vs H Q E:=by
 obtain⟨w,L,p,t,rfl,⟨dx,xs,ps,i,o,h1,h2,h3,h4,h5,⟨_,e⟩ | ⟨p',t',e,ho,e'⟩⟩,q⟩:=h
 ·cases e
 ·cases e'
  obtain⟨e1,_,_⟩:=Be e
  refine⟨w,L,dx,xs,ps,i,o,p',rfl,h1,h2,h3,e1,h4 _<|zae e1, ?_⟩
  rw[kj p' o (by lia)] at q
  rw[show((bj p':Int) - (o:Int))=((bj p' - o:Nat):Int) by lia]
  exact q
def gm(p:Pt)(t:List Pt)(k:Nat):List Pt:=if k=bj p then t else b_ p k::t
def pB(C:Addr):Sp:=fun vs H Q E=> ∃(w L:Addr) (p:Pt) (t:List Pt) (k:Nat),vs=[.ref w, .int (k:Int)]/\cB C H w L (p::t)/\1<=k/\k<=bj p/\
 ∀r H',aF w H H'->H' r=some (.tup [.str (cb p k).word,(cb p k).val])->H r=none->cB C H' w L (gm p t k)->Q (.ref r) H'
theorem V2{K:Frag}{C:Addr}(T:pf K C)(vs:List V)(H:Hp)(Q:VK)(E:XK)(h:pB C vs H Q E):ax (aS K [] [] [] [("left",C,wJ C)] (E:=E)) A5 (Dn Q) (start Il vs) H:=by
 obtain⟨w,L,p,t,k,rfl,⟨dx,xs,ps,i,o,h1,h2,h3,h4,h5,⟨_,e⟩ | ⟨p',t',e,ho,e'⟩⟩,lV,qT,q⟩:=h
 ·cases e
 cases e'
 obtain⟨e1,e2,e3⟩:=Be e
 obtain⟨a,ea,ha⟩:=h3.at e1
 have hp:=h4 _ (zae e1)
 rw[kj p' o (by lia)] at qT
 have IG:w≠L:=iM h1 h2 (by intro z;cases z)
 have V3:a≠w:=iM ha h1 (by intro z;cases z)
 refine⟨_,rfl,w,C,dx,_,_,rfl,h1,T.cl,T.tI,wG,_,rfl,w,C,dx,_,_,rfl,h1,T.cl,T.ph,tM, .inl ⟨_,_,_,_,rfl,rfl,aq.of h2,cq ea, ?_⟩⟩
 refine⟨_,rfl,w,C,dx,_,_,rfl,h1,T.cl,T.tJ,IE, ?_⟩
 refine⟨_,rfl,_,rfl, ?_⟩
 refine⟨_,rfl,_,rfl,w,C,dx,_,rfl,h1,T.cl,T.tJ,(by show 3<1000;decide), ?_⟩
 rw[IF,show(o:Int)+ (k:Int)=((o+k:Nat):Int) by lia]
 have tup: ∀(fs:List (Str×V)),fg H (upd H w<|.ins C dx fs):=fun fs b ys eb=>by rw[aN<|iM eb h1 (by intro z;cases z)];exact eb
 refine⟨_,rfl,w,dx,_,rfl,au,wH (by decide+kernel) (by decide+kernel) (by decide+kernel),w,L,dx,xs,ps,i,o+k,p',rfl,au,(by rw[aN IG.symm];exact h2),h3.mono<|tup _,e1,hp, ?_⟩
 have fin: ∀(i' o':Nat),((ps.drop i'=[]/\gm (b_ p' o) t k=[])\/ ∃p t',ps.drop i'=p::t'/\o'<bj p/\gm (b_ p' o) t k=b_ p o'::t')->
   ax (aS K [] [] [] [("left",C,wJ C)] (E:=E)) (A5.drop 5) (Dn Q) [some<|.ref w,some<|.int (k:Int),some<|.ref a,some<|.int (o:Int),some<|.int ((o+k:Nat):Int)] (upd H w<|.ins C dx<|wf L (i':Int) (o':Int)):=by
  intro i' o' hr
  have nj:upd H w (.ins C dx<|wf L (i':Int) (o':Int)) a=some (.tup [.str p'.word,p'.val]):=by rw[aN V3];exact ha
  have done: ∀v:V,v=(cb (b_ p' o) k).val-> ∀r,upd H w (.ins C dx<|wf L (i':Int) (o':Int)) r=none->Q (.ref r) (upd (upd H w<|.ins C dx<|wf L (i':Int) (o':Int)) r<|.tup [.str p'.word,v]):=by
   rintro v rfl r nF
   have IH:r≠w:=fun z=>by rw[z,au] at nF;cases nF
   have II:H r=none:=by rw[aN IH] at nF;exact nF
   have bt:aF w H (upd (upd H w<|.ins C dx<|wf L (i':Int) (o':Int)) r<|.tup [.str p'.word,(cb (b_ p' o) k).val]):=fun b ob eb V4=>by rw[aN<|bZ eb II,aN V4];exact eb
   refine q r _ bt (by rw[au,VU,IC]) II ⟨dx,xs,ps,i',o', ?_,bt _ _ h2 IG.symm,h3.mono fun b ys eb=>bt b _ eb (iM eb h1 (by intro z;cases z)),h4,h5,hr⟩
   rw[aN IH.symm,au]
  refine⟨_,rfl, .inr<|.inl ⟨_,_,_,_,rfl,rfl,aG.of nj,rfl, ?_⟩⟩
  refine⟨_,rfl, .inr<|.inl ⟨_,_,_,_,rfl,rfl,aG.of nj,rfl,_,rfl, ?_⟩⟩
  rw[zaM,gZ]
  cases p' with
  | keep n=>exact fI ⟨_,rfl,(by show 2<=sizeLine;decide),done _ rfl⟩
  | put s=>
   refine gE ⟨_,rfl, .inr<|.inl ⟨_,_,_,_,rfl,rfl,aG.of nj,rfl,_,rfl,_,rfl,_,rfl,_,rfl,bQ hp.1.1,(by show 2<=sizeLine;decide),done _ ?_⟩⟩
   show V.str (jx s (some (o:Int))<|some ((o+k:Nat):Int))=V.str ⟨((s.cps.toList.drop o).take k).toArray⟩
   rw[zbI,A_ o (k:Int) k rfl]
  | cut s=>
   refine gE ⟨_,rfl, .inr<|.inl ⟨_,_,_,_,rfl,rfl,aG.of nj,rfl,_,rfl,_,rfl,_,rfl,_,rfl,bQ hp.1.1,(by show 2<=sizeLine;decide),done _ ?_⟩⟩
   show V.str (jx s (some (o:Int))<|some ((o+k:Nat):Int))=V.str ⟨((s.cps.toList.drop o).take k).toArray⟩
   rw[zbI,A_ o (k:Int) k rfl]
 refine⟨_,rfl, ?_⟩
 rw[zaM]
 by_cases hz:k=bj p' - o
 ·refine iT ?_ (zqT (by congr 1;lia))
  refine⟨_,rfl,w,C,dx,_,_,rfl,au,T.cl,T.ph,tM,_,rfl,w,C,dx,_,rfl,au,T.cl,T.ph,(by show 3<1000;decide), ?_⟩
  rw[uF,VW]
  refine⟨_,rfl,w,C,dx,_,rfl,au,T.cl,T.tJ,(by show 3<1000;decide), ?_⟩
  rw[uF,IF,show(i:Int)+1=((i+1:Nat):Int) by lia]
  refine fin (i+1) 0 ?_
  have er:gm (b_ p' o) t k=t:=if_pos (by rw[kj p' o (by lia)];exact hz)
  rw[er,e2]
  cases t with
  | nil=>exact .inl ⟨rfl,rfl⟩
  | cons p2 t2=>
   have hm:bC p2:=h4 p2 (zbH (by rw[e];exact .tail _ (.head _)))
   exact .inr ⟨p2,t2,rfl,(qS hm).2,by rw[drop_zero]⟩
 ·refine iF ?_ (zqF (by intro z;have z':(bj p':Int) - ((o+k:Nat):Int)=0:=(by injection z);lia))
  refine fin i (o+k)<|.inr ⟨p',t,e,by lia, ?_⟩
  have er:gm (b_ p' o) t k=b_ (b_ p' o) k::t:=if_neg (by rw[kj p' o (by lia)];exact hz)
  rw[er,drop_drop]
end L2.B
namespace L2.B
theorem bS.app{xs ys zs br de c_:List At}(h:bS xs ys zs)(h':bS br de c_):bS (xs++br) (ys++de) (zs++c_):=by
 induction h with
 | nil=>exact h'
 | p _ ih=>exact .p ih
 | c _ ih=>exact .c ih
 | kk _ ih=>exact .kk ih
 | kc _ ih=>exact .kc ih
 | pk _ ih=>exact .pk ih
 | pc _ ih=>exact .pc ih
theorem IJ: ∀s:List Nat,bS [] (s.map .P) (s.map .P)
 | []=> .nil
 | c::s=> .p (IJ s)
theorem Bf: ∀s:List Nat,bS (s.map .C) [] (s.map .C)
 | []=> .nil
 | c::s=> .c (Bf s)
theorem IL: ∀n:Nat,bS (rK n) (rK n) (rK n)
 | 0=> .nil
 | n+1=> .kk (IL n)
theorem IM: ∀s:List Nat,bS (rK s.length) (s.map .C) (s.map .C)
 | []=> .nil
 | c::s=> .kc (IM s)
theorem IP: ∀s:List Nat,bS (s.map .P) (rK s.length) (s.map .P)
 | []=> .nil
 | c::s=> .pk (IP s)
theorem IQ: ∀s:List Nat,bS (s.map .P) (s.map .C) []
 | []=> .nil
 | c::s=> .pc (IQ s)
def dZ:List At->Nat
 | []=>0
 | .P _::xs=>dZ xs
 | .K::xs=>dZ xs+1
 | .C _::xs=>dZ xs+1
def gh:List At->Nat
 | []=>0
 | .P _::xs=>gh xs+1
 | .K::xs=>gh xs+1
 | .C _::xs=>gh xs
def cnt:List At->Nat
 | []=>0
 | .K::xs=>cnt xs
 | .P _::xs=>cnt xs+1
 | .C _::xs=>cnt xs+1
theorem pE: ∀(xs:List At) (l:List Nat),fit l xs->l.length=dZ xs
 | [],l,h=>by cases h;rfl
 | .P c::xs,l,h=>pE xs l h
 | .K::xs,[],h=>h.elim
 | .K::xs,a::l,h=>by simp[dZ,pE xs l h]
 | .C c::xs,[],h=>h.elim
 | .C c::xs,a::l,h=>by simp[dZ,pE xs l h.2]
theorem wK: ∀(xs:List At) (l:List Nat),fit l xs->(out l xs).length=gh xs
 | [],l,h=>rfl
 | .P c::xs,l,h=>by simp[out,gh,wK xs l h]
 | .K::xs,[],h=>h.elim
 | .K::xs,a::l,h=>by simp[out,gh,wK xs l h]
 | .C c::xs,[],h=>h.elim
 | .C c::xs,a::l,h=>wK xs l h.2
theorem wL: ∀(xs ys:List At),dZ (xs++ys)=dZ xs+dZ ys
 | [],ys=>by simp[dZ]
 | .P c::xs,ys=>wL xs ys
 | .K::xs,ys=>by simp only[zbm,dZ,wL xs ys];lia
 | .C c::xs,ys=>by simp only[zbm,dZ,wL xs ys];lia
theorem wM: ∀(xs ys:List At),cnt (xs++ys)=cnt xs+cnt ys
 | [],ys=>by simp[cnt]
 | .K::xs,ys=>wM xs ys
 | .P c::xs,ys=>by simp only[zbm,cnt,wM xs ys];lia
 | .C c::xs,ys=>by simp only[zbm,cnt,wM xs ys];lia
theorem bS.cnt{xs ys zs:List At}(h:bS xs ys zs):cnt zs<=B.cnt xs+B.cnt ys:=by
 induction h<;>simp only[B.cnt] <;>lia
theorem pF{ys:List At}: ∀(xs:List At) (l:List Nat),fit l (xs++ys)-> ∃l1 l2,l=l1++l2/\fit l1 xs/\fit l2 ys/\out l (xs++ys)=out l1 xs++out l2 ys
 | [],l,h=> ⟨[],l,rfl,rfl,h,rfl⟩
 | .P c::xs,l,h=>by
  obtain⟨l1,l2,rfl,a,b,d⟩:=pF xs l h
  exact⟨l1,l2,rfl,a,b,by show c::out _ (xs++ys)=c::(out l1 xs++out l2 ys);rw[d]⟩
 | .K::xs,[],h=> (show False from h).elim
 | .K::xs,e::l,h=>by
  obtain⟨l1,l2,rfl,a,b,d⟩:=pF xs l h
  exact⟨e::l1,l2,rfl,a,b,by show e::out _ (xs++ys)=e::(out l1 xs++out l2 ys);rw[d]⟩
 | .C c::xs,[],h=> (show False from h).elim
 | .C c::xs,e::l,h=>by
  obtain⟨h0,h⟩:=(show e=c/\fit l (xs++ys) from h)
  obtain⟨l1,l2,rfl,a,b,d⟩:=pF xs l h
  exact⟨e::l1,l2,rfl,⟨h0,a⟩,b,d⟩
theorem V5{a b:List Nat}{ys zs:List At}(h:fit (a++b) (ys++zs))(hl:a.length=dZ ys):fit a ys/\fit b zs:=by
 obtain⟨l1,l2,e,h1,h2,_⟩:=pF ys _ h
 have:=pE _ _ h1
 obtain⟨rfl,rfl⟩:=List.append_inj e (by lia)
 exact⟨h1,h2⟩
theorem IS(n:Nat):dZ (rK n)=n:=by
 induction n with
 | zero=>rfl
 | succ n ih=>show dZ (rK n)+1=_;rw[ih]
theorem tN(s:List Nat):dZ (s.map .C)=s.length:=by
 induction s with
 | nil=>rfl
 | cons c s ih=>show dZ (s.map .C)+1=_;rw[ih];rfl
theorem V6(n:Nat):gh (rK n)=n:=by
 induction n with
 | zero=>rfl
 | succ n ih=>show gh (rK n)+1=_;rw[ih]
theorem V7(s:List Nat):gh (s.map .P)=s.length:=by
 induction s with
 | nil=>rfl
 | cons c s ih=>show gh (s.map .P)+1=_;rw[ih];rfl
theorem IT: ∀(xs:List At) (l:List Nat),fit l xs->out l xs=[]-> ∀x∈xs,∃c,x= .C c
 | [],l,_,_,x,hx=>by cases hx
 | .P c::xs,l,h,e,x,hx=>by cases e
 | .K::xs,[],h,_,_,_=>h.elim
 | .K::xs,a::l,h,e,x,hx=>by cases e
 | .C c::xs,[],h,_,_,_=>h.elim
 | .C c::xs,a::l,h,e,x,hx=>by
  rcases zaa.mp hx with rfl | hx
  ·exact⟨c,rfl⟩
  ·exact IT xs l h.2 e x hx
end L2.B
namespace L2
open PySem PySem.Spec PyProof.Rows
section
variable {Γ:aQ} {D:Ends} {σ:St} {H:Hp} {r:List RS} {Q:VK} {QA:List V->Hp->Prop} {QT:Bool->Hp->Prop}
theorem qU{j:Nat}{m:Str}{o:RE}(C:Addr)(sp:Sp)(hm:Γ.ms j=(C,sp))(h:af Γ o σ H fun x H1=> ∃a dx fs,x= .ref a/\H1 a=some (.ins C dx fs)/\fs.lookup m=none/\sp [x] H1 Q Γ.E):af Γ (.bK j m o []) σ H Q:=by
 show oj (Γ.ms j).1 m (Γ.ms j).2 [] Γ.E (af Γ o) (aY Γ []) σ H Q
 rw[hm];exact h
theorem h9{j:Nat}{m:Str}{o a:RE}(C:Addr)(sp:Sp)(hm:Γ.ms j=(C,sp))(h:af Γ o σ H fun x H1=> ∃p dx fs,x= .ref p/\H1 p=some (.ins C dx fs)/\fs.lookup m=none/\af Γ a σ H1 fun y H2=>sp [x,y] H2 Q Γ.E):af Γ (.bK j m o [a]) σ H Q:=by
 show oj (Γ.ms j).1 m (Γ.ms j).2 [] Γ.E (af Γ o) (aY Γ [a]) σ H Q
 rw[hm];exact h
theorem IU{j:Nat}{a:RE}(C:Addr)(sp:Sp)(hm:Γ.kt j=(C,sp))(h:af Γ a σ H fun y H1=> ∀x dx,H1 x=none->H1 dx=none->dx≠x->sp [.ref x,y] (upd (upd H1 dx<|.own x) x<|.ins C dx []) (fun v H2=>v= .aC/\Q (.ref x) H2) Γ.E):af Γ (.make j [a]) σ H Q:=by
 show yM (Γ.kt j).1 (Γ.kt j).2 [] Γ.E (aY Γ [a]) σ H Q
 rw[hm];exact h
theorem qW{c:RE}{body:List RS}(W:Nat->St->Hp->Prop)(h0: ∃m,W m σ H)
  (h: ∀m σ H,W m σ H->bu Γ c σ H fun b H1=>if b=true then ∃N:St->Hp->Prop,(∀σ' H',N σ' H'-> ∃m',m'<m/\W m' σ' H')/\ax Γ body {{D with nx:=ax Γ r D} with nx:=N,ct:=N,bk:=ax Γ r D} σ H1 else ax Γ r D σ H1):ax Γ (.lA c body::r) D σ H:=⟨W,h0,h⟩
theorem bA{c:RE}{t e:List RS}(h:bu Γ c σ H fun b H1=>if b=true then ax Γ t {D with nx:=ax Γ r D} σ H1 else ax Γ e {D with nx:=ax Γ r D} σ H1):ax Γ (.ite c t e::r) D σ H:=h
theorem aX{op:CmpOp}{a b:RE}(h:af Γ a σ H fun x H1=>af Γ b σ H1 fun y H2=>cY Γ.K op x y H2 fun z H3=> ∃k,z= .bl k/\QT k H3):bu Γ (.cmp op a b) σ H QT:=h
theorem dJ{o:RE}{f:Str}(h:af Γ o σ H fun x H1=> ∃a C dx fs v,x= .ref a/\H1 a=some (.ins C dx fs)/\fF Γ.K C/\eY Γ.K C f/\fs.lookup f=some v/\Q v H1):af Γ (.fld o f) σ H Q:=h
theorem fP{m:hJ}{o a:RE}(h:af Γ o σ H fun x H1=>qm Γ.K (sG m) x H1/\af Γ a σ H1 fun y H2=>vA Γ.K m x [y] H2 Q):af Γ (.bg m o [a]) σ H Q:=h
theorem dz{K:Frag}{x y:Str}{Q:VK}(q:Q (.bl<|x==y) H):cY K .Eq (.str x) (.str y) H Q:=by
 show Q (.bl<|false ^^ decide (V.str x=V.str y)) H
 rw[zaM,gZ];exact q
theorem lW{K:Frag}{x y:Str}{Q:VK}(q:Q (.bl<|x !=y) H):cY K .NotEq (.str x) (.str y) H Q:=by
 show Q (.bl<|true ^^ decide (V.str x=V.str y)) H
 rw[zaS,gZ];exact q
end
end L2
namespace L2.B
open PySem PySem.Spec PyProof.Rows
theorem cB.ob{C:Addr}{H:Hp}{w L:Addr}{rs:List Pt}(h:cB C H w L rs): ∃(dx:Addr) (i o:Int),H w=some (.ins C dx<|wf L i o):=by
 obtain⟨dx,xs,ps,i,o,h1,_⟩:=h
 exact⟨dx,i,o,h1⟩
theorem Bg{L:Addr}{i o:Int}:(wf L i o).lookup ("word":Str)=none/\(wf L i o).lookup ("left":Str)=none/\(wf L i o).lookup ("take":Str)=none:=
 ⟨wH (by decide+kernel) (by decide+kernel) (by decide+kernel),wH (by decide+kernel) (by decide+kernel) (by decide+kernel),wH (by decide+kernel) (by decide+kernel) (by decide+kernel)⟩
def wN:Sp:=fun vs H Q E=> ∃(v:V) (p:Pt) (u:Str),vs=[v, .str u]/\hV H v p/\((∃n,p= .keep n/\ ∀c t H',aB H H'->H c=none->H' c=some (.lst [.ref t])->H' t=some (.tup [.str "cut", .str u])->Q (.ref c) H')\/
 (p= .put u/\ ∀c H',aB H H'->H c=none->H' c=some (.lst [])->Q (.ref c) H'))
theorem V8{K:Frag}{et:List (Str×Addr)}(vs:List V)(H:Hp)(Q:VK)(E:XK)(h:wN vs H Q E):ax (aS K [] [] (et:=et) (E:=E)) Io (Dn Q) (start Im vs) H:=by
 obtain⟨v,p,u,rfl,⟨a,rfl,ha⟩,⟨n,rfl,q⟩ | ⟨rfl,q⟩⟩:=h
 ·refine⟨_,rfl, .inr<|.inl ⟨_,_,_,_,rfl,rfl,aG.of ha,rfl,_,rfl, ?_⟩⟩
  refine⟨_,rfl,(by show 2<=sizeLine;decide),fun t ht=> ⟨(by show 1<=sizeLine;decide),fun c hc=> ?_⟩⟩
  have s1:=sameNew (o:= .tup [V.str "cut",V.str u]) ht
  have s2:=sameNew (o:= .lst [V.ref t]) hc
  exact q c t _ (s1.trans s2) (s1.free hc) au<|s2 _ _ au
 ·refine⟨_,rfl, .inr<|.inl ⟨_,_,_,_,rfl,rfl,aG.of ha,rfl,_,rfl, ?_⟩⟩
  refine⟨_,rfl, .inr<|.inl ⟨_,_,_,_,rfl,rfl,aG.of ha,rfl,_,rfl,_,rfl, ?_⟩⟩
  rw[zaS,zqT (show(Pt.put u).val=V.str u from rfl)]
  exact⟨zqZ _,fun c hc=>q c _ (sameNew hc) hc au⟩
theorem V9(p:Pt)(t:List Pt)(k:Nat):(gm p t k).length<=t.length+1:=by
 unfold gm;split<;>simp
theorem IV{p:Pt}(t:List Pt){k:Nat}(hk:k<=bj p):aI (p::t)=bH (cb p k)++aI (gm p t k):=by
 unfold gm
 rw[fO,wC p k hk]
 split
 ·rename_i e
  have:bH (b_ p k)=[]:=by
   have hz:=kj p k hk
   rw[e,zbu] at hz
   cases p with
   | keep n=>
    have il:(n - (k:Int)).toNat=0:=by rw[e];exact hz
    show rK (n - (k:Int)).toNat=[]
    rw[il];rfl
   | put s=>
    rw[<-e] at hz
    have il:(⟨(s.cps.toList.drop k).toArray⟩:Str).length=0:=hz
    rw[jf] at il
    show(s.cps.toList.drop k).map At.P=[]
    rw[zaI.mp il];rfl
   | cut s=>
    rw[<-e] at hz
    have il:(⟨(s.cps.toList.drop k).toArray⟩:Str).length=0:=hz
    rw[jf] at il
    show(s.cps.toList.drop k).map At.C=[]
    rw[zaI.mp il];rfl
  rw[this,zaf]
 ·rw[fO,zai]
theorem wO(p:Pt):(bH p).length=bj p:=by
 cases p with
 | keep n=>show(rK n.toNat).length=_;unfold rK;rw[List.length_replicate];rfl
 | put s=>show(s.cps.toList.map At.P).length=_;rw[zab,<-len_list];rfl
 | cut s=>show(s.cps.toList.map At.C).length=_;rw[zab,<-len_list];rfl
theorem V_{p:Pt}(t:List Pt){k:Nat}(h1:1<=k)(hk:k<=bj p):(aI<|gm p t k).length< (aI (p::t)).length:=by
 rw[IV t hk,zqA,wO,Ba p k hk]
 lia
theorem IW{Γ:aQ}{σ:St}{H:Hp}{Q:VK}{C w L:Addr}{rs:List Pt}{j i:Nat}(hm:Γ.ms j=(C,pA C))(hi:σ[i]?=some (some<|.ref w))(W:cB C H w L rs)(q:Q (.str<|Bc rs) H):af Γ (.bK j "word" (.v i) []) σ H Q:=by
 obtain⟨dx,a,b,h1⟩:=W.ob
 exact qU C (pA C) hm<|ae hi ⟨w,dx,_,rfl,h1,Bg.1,w,L,rs,rfl,W,q⟩
theorem Bh{Γ:aQ}{σ:St}{H:Hp}{Q:VK}{C w L:Addr}{p:Pt}{t:List Pt}{j i:Nat}(hm:Γ.ms j=(C,nC C))(hi:σ[i]?=some (some<|.ref w))(W:cB C H w L (p::t))(q:Q (.int (bj p:Int)) H):af Γ (.bK j "left" (.v i) []) σ H Q:=by
 obtain⟨dx,a,b,h1⟩:=W.ob
 exact qU C (nC C) hm<|ae hi ⟨w,dx,_,rfl,h1,Bg.2.1,w,L,p,t,rfl,W,q⟩
theorem Bi{Γ:aQ}{σ:St}{H:Hp}{Q:VK}{C w L:Addr}{p:Pt}{t:List Pt}{j i k:Nat}{a:RE}(hm:Γ.ms j=(C,pB C))(hi:σ[i]?=some (some<|.ref w))(W:cB C H w L (p::t))(h1:1<=k)(hk:k<=bj p)
  (ha: ∀Q':VK,Q' (.int (k:Int)) H->af Γ a σ H Q') (q: ∀r H',aF w H H'->H' r=some (.tup [.str (cb p k).word,(cb p k).val])->H r=none->cB C H' w L (gm p t k)->Q (.ref r) H'):af Γ (.bK j "take" (.v i) [a]) σ H Q:=by
 obtain⟨dx,x,b,h0⟩:=W.ob
 refine h9 C (pB C) hm<|ae hi ⟨w,dx,_,rfl,h0,Bg.2.2,ha _ ?_⟩
 exact⟨w,L,p,t,k,rfl,W,h1,hk,q⟩
def wQ(C:Addr):Sp:=fun vs H Q E=> ∃(w L:Addr) (v:V) (rs:List Pt) (part:Pt) (l:List Nat) (ys:List At),vs=[.ref w,v]/\cB C H w L rs/\hV H v part/\bC part/\(∀s,part≠ .put s)/\rs.length<=100000/\fit l (aI rs)/\fit (out l<|aI rs) (bH part++ys)/\
 ∀(c:Addr) (H':Hp) (br:List V) (res d9:List Pt) (l':List Nat) (zs:List At),aF w H H'->H c=none->H' c=some (.lst br)->aR H' br res->(∀p∈res,bC p)->cB C H' w L d9->aI rs=zs++aI d9->bS zs (bH part) (aI res)->
  fit l' (aI d9)->fit (out l'<|aI d9) ys->res.length+d9.length<=rs.length+1->Q (.ref c) H'
theorem aF.wR{w:Addr}{H H':Hp}{C dx:Addr}{fs:List (Str×V)}(b:aF w H H')(h:H w=some (.ins C dx fs)):fg H H':=fun c xs e=>b c _ e (iM e h (by intro z;cases z))
theorem Wa{s:Str}{k m:Nat}:cb (b_ (.cut s) k) m= .cut ⟨((s.cps.toList.drop k).take m).toArray⟩:=rfl
theorem Wb{K:Frag}{C:Addr}(vs:List V)(H:Hp)(Q:VK)(E:XK)(h:wQ C vs H Q E):
  ax (aS K [("part_size",qH),("cut_behind",wN)] [] [] [("word",C,pA C),("take",C,pB C),("left",C,nC C)] (E:=E)) Iq (Dn Q) (start Ip vs) H:=by
 obtain⟨w,L,v,rs,part,l,ys,rfl,W,⟨pa,rfl,lX⟩,aE,tO,Bj,pG,Bk,q⟩:=h
 obtain⟨Wc,ac1⟩:=qS aE
 refine ba<|cP<|aL ⟨zqZ _,fun c hc=> ?_⟩
 refine ba<|aw ?_
 have b0:aF w H (upd H c<|.lst []):=fun b o e _=>by rw[aN<|bZ e hc];exact e
 obtain⟨dx0,i0,o0,IX⟩:=W.ob
 have tP:c≠w:=fun z=>by rw[z,IX] at hc;cases hc
 have tQ:c≠L:=by
  obtain⟨_,_,_,_,_,_,hL,_⟩:=W
  exact(bZ hL hc).symm
 refine qW (fun m σ H'=> ∃(k:Nat) (u4 u5:Option V) (br:List V) (res d9:List Pt) (l':List Nat) (zs:List At),m=(aI d9).length/\σ=[some (.ref w),some (.ref pa),some (.ref c),some (.int (k:Int)),u4,u5]/\aF w H H'/\H' c=some (.lst br)/\aR H' br res/\
   (∀p∈res,bC p)/\cB C H' w L d9/\aI rs=zs++aI d9/\bS zs (bH (cb part k)) (aI res)/\k<=bj part/\fit l' (aI d9)/\fit (out l' (aI d9)) (bH (b_ part k)++ys)/\res.length+d9.length<=rs.length+ (if k=bj part then 1 else 0))
  ⟨_,0,none,none,[],[],rs,l,[],rfl,rfl,b0,au, .nil,(fun p hp=>by cases hp),W.same<|sameNew hc,rfl, ?_,zqZ _,pG,by rw[drop_zero];exact Bk,by simp⟩ ?_
 ·have e:bH (cb part 0)=[]:=zaI.mp (by rw[wO,Ba part 0<|zqZ _])
  rw[e];exact .nil
 rintro m σ H1 ⟨k,u4,u5,br,res,d9,l',zs,rfl,rfl,b1,wU,gP,h_,W1,ez,gp,hk,lY,kl,hlen⟩
 have Bl:H1 pa=some (.tup [.str part.word,part.val]):=b1 _ _ lX (iM lX IX (by intro z;cases z))
 have hxl:=Paired.length gP
 have sz: ∀{σ:St} {Q1:VK},σ[1]?=some (some<|.ref pa)->Q1 (.int (bj part:Int)) H1->af (aS K [("part_size",qH),("cut_behind",wN)] [] [] [("word",C,pA C),("take",C,pB C),("left",C,nC C)] (E:=E)) (.call 0 [(.v 1)]) σ H1 Q1:=by
  intro σ Q1 h1 hq
  refine c7 qH rfl<|ay<|ae h1<|aL ⟨_,part,rfl,⟨pa,rfl,Bl⟩,v9 aE, ?_⟩
  rw[Wc];exact hq
 refine aX<|ae rfl<|sz rfl ⟨trivial,_,rfl, ?_⟩
 by_cases wV:k<bj part
 ·refine iT ⟨_,fun σ' H' z=>z, ?_⟩ (zqT (by lia))
  have hod:=Bb aE wV
  have qq:(if k=bj part then 1 else 0)=0:=if_neg (by lia)
  rw[qq] at hlen
  cases d9 with
  | nil=>
   exfalso
   have e1:out l' (aI [])=[]:=rfl
   rw[e1] at kl
   have:=pE _ _ kl
   rw[wL] at this
   have hov:dZ (bH<|b_ part k)=bj part - k:=by
    rw[<-kj part k hk]
    cases part with
    | keep n=>exact IS _
    | put s=>exact absurd rfl (tO s)
    | cut s=>show dZ ((s.cps.toList.drop k).map At.C)=_;rw[tN];show _=(⟨(s.cps.toList.drop k).toArray⟩:Str).length;rw[jf]
   simp only[zbh] at this
   lia
  | cons p t=>
   have hp:=W1.ok p (.head _)
   obtain⟨Wd,Bm⟩:=qS hp
   refine bA<|aX<|IW (C:=C) rfl rfl W1<|aw<|dz ⟨_,rfl, ?_⟩
   show if ((p.word:Str)=="cut")=true then _ else _
   have app: ∀(H2:Hp) (gN:List V) (a:Addr) (pt:Pt),aF w H H2->H2 c=some (.lst gN)->aR H2 gN res->H2 a=some (.tup [.str pt.word,pt.val])->
     aF w H (upd H2 c<|.lst<|gN++ [V.ref a])/\aR (upd H2 c<|.lst<|gN++ [V.ref a]) (gN++ [V.ref a]) (res++ [pt]):=by
    intro H2 gN a pt bb cE lM lU
    have tt:fg H2 (upd H2 c<|.lst<|gN++ [V.ref a]):=aF.upd.bz cE
    exact⟨fun b o e n=>by rw[aN<|bZ e hc];exact bb b o e n,aR.snoc (lM.mono tt) ⟨a,rfl,tt _ _ lU⟩⟩
   have wW: ∀(H2:Hp) (gN IY:List V) (Bn:List Pt),H2 c=some (.lst gN)->cB C H2 w L Bn->cB C (upd H2 c<|.lst IY) w L Bn:=fun H2 gN IY Bn cE W2=>W2.but aF.upd cE tQ
   by_cases lZ:p.word="cut"
   ·
    rw[lZ]
    obtain⟨s,rfl⟩: ∃s,p= .cut s:=by
     cases p with
     | keep n=>exact absurd (show(Str.ofString "keep")="cut" from lZ) (by decide)
     | put s=>exact absurd (show(Str.ofString "put")="cut" from lZ) (by decide)
     | cut s=>exact⟨s,rfl⟩
    have ta:cb (.cut s) (bj<|.cut s)= .cut s:=take_all _ trivial
    have re:gm (.cut s) t (bj<|.cut s)=t:=if_pos rfl
    refine dH<|fP<|ae rfl ⟨.inl ⟨rfl,_,aq.of wU⟩,Bi (C:=C) (k:=bj (.cut s)) rfl rfl W1 Bm (zqR _) (fun Q' hq=>Bh (C:=C) rfl rfl W1 hq) fun a H2 b2 ha rN W2=> ?_⟩
    rw[ta] at ha
    rw[re] at W2
    have cE:H2 c=some (.lst br):=b2 _ _ wU tP
    obtain⟨We,i1,o1,wX⟩:=W1.ob
    have lM:aR H2 br res:=gP.mono (b2.wR wX)
    obtain⟨bb,pp⟩:=app H2 br a (.cut s) (b1.trans b2) cE lM ha
    refine⟨br,cE,dY (by lia), ?_⟩
    rw[fO] at lY kl ez
    obtain⟨la,lb,rfl,f1,f2,f3⟩:=pF _ _ lY
    have f0:out la (bH<|.cut s)=[]:=by
     obtain⟨b,rfl⟩:=wz s.cps.toList la [] (by rw[zaf];exact f1)
     have:=pE _ _ f1
     have e1:dZ (bH<|.cut s)=s.cps.toList.length:=tN _
     rw[e1,zqA] at this
     have:b=[]:=zaI.mp (by lia)
     subst this
     have:=wx s.cps.toList [] []
     simp only[zaf] at this
     rw[zaf];exact this
    rw[f3,f0,zbg] at kl
    refine⟨_, ?_,k,u4,u5,br++ [V.ref a],res++ [.cut s],t,lb,zs++bH (.cut s),rfl,rfl,bb,au,pp, ?_,wW H2 _ _ _ cE W2,by rw[ez,zai], ?_,hk,f2,kl, ?_⟩
    ·rw[fO,zqA,wO];lia
    ·intro x hx
     rcases zad.mp hx with z | z
     ·exact h_ x z
     ·rw[zac.mp z];exact hp
    ·have:=gp.app (Bf s.cps.toList)
     rw[zaf] at this
     rw[jb,ki];exact this
    ·rw[qq];simp only[zqA,zao,zbh] at hlen⊢;lia
   ·have gI:((p.word:Str)=="cut")=false:=beq_eq_false_iff_ne.mpr lZ
    rw[gI]
    obtain⟨n,hn⟩: ∃n,n=min (bj p) (bj part - k):=⟨_,rfl⟩
    have fJ:1<=n:=by lia
    have iP:n<=bj p:=by lia
    have hn3:n<=bj part - k:=by lia
    have emin:(if ((bj part:Int) - (k:Int)) < (bj p:Int) then ((bj part:Int) - (k:Int)) else (bj p:Int))=(n:Int):=by
     split<;>lia
    refine ba<|tL<|ay<|Bh (C:=C) rfl rfl W1<|ay<|aV<|sz rfl<|ae rfl ⟨trivial,aL ?_⟩
    show ax _ _ _ ([some<|.ref w,some<|.ref pa,some<|.ref c,some<|.int (k:Int),u4,u5].set 4 (some<|V.int (if ((bj part:Int) - (k:Int)) < (bj p:Int) then ((bj part:Int) - (k:Int)) else (bj p:Int)))) H1
    rw[emin]
    refine ba<|Bi (C:=C) (k:=n) rfl rfl W1 fJ iP (fun Q' hq=>ae rfl hq) fun a H2 b2 ha rN W2=> ?_
    have cE:H2 c=some (.lst br):=b2 _ _ wU tP
    obtain⟨We,i1,o1,wX⟩:=W1.ob
    have lM:aR H2 br res:=gP.mono (b2.wR wX)
    have IZ:H2 pa=some (.tup [.str part.word,part.val]):=b2 _ _ Bl (iM Bl wX (by intro z;cases z))
    have Bo:=b1.trans b2
    have Wf:=ID hp fJ iP
    have eA:=IV t iP
    have eB:bH (b_ part k)=bH (cb (b_ part k) n)++bH (b_ part<|k+n):=by
     rw[wC (b_ part k) n (by rw[kj part k hk];lia),drop_drop]
    have eC:bH (cb part<|k+n)=bH (cb part k)++bH (cb (b_ part k) n):=by
     have h1:=wC part (k+n) (by lia)
     have h2:=wC part k hk
     rw[eB] at h2
     rw[h2,<-zai] at h1
     exact(List.append_inj_left' h1 rfl).symm
    rw[eA] at lY kl ez
    obtain⟨la,lb,rfl,f1,f2,f3⟩:=pF _ _ lY
    rw[f3,eB,zai] at kl
    have Wg:(out la<|bH<|cb p n).length=n:=by
     rw[wK _ _ f1]
     cases p with
     | keep m=>exact V6 n
     | put s=>show gh ((s.cps.toList.take n).map At.P)=n;rw[V7,zaD];have hh:n<=s.length:=iP;rw[len_list] at hh;lia
     | cut s=>exact absurd rfl lZ
    have Bp:dZ (bH<|cb (b_ part k) n)=n:=by
     have e:bj (cb (b_ part k) n)=n:=Ba _ _ (by rw[kj part k hk];lia)
     cases part with
     | keep m=>exact IS n
     | put s=>exact absurd rfl (tO s)
     | cut s=>
      have e':(⟨((s.cps.toList.drop k).take n).toArray⟩:Str).length=n:=e
      rw[jf] at e'
      show dZ (((s.cps.toList.drop k).take n).map At.C)=n
      rw[tN];exact e'
    obtain⟨g1,g2⟩:=V5 kl (by rw[Wg,Bp])
    have fin: ∀(H3:Hp) (i9:List V) (qX:List Pt),aF w H H3->H3 c=some (.lst i9)->aR H3 i9 qX->(∀x∈qX,bC x)->cB C H3 w L (gm p t n)->bS (zs++bH (cb p n)) (bH<|cb part<|k+n) (aI qX)->qX.length<=res.length+1->
      ∃m',m'< (aI (p::t)).length/\ ∃(k':Nat) (Wh Wi:Option V) (br:List V) (res d9:List Pt) (l':List Nat) (zs:List At),m'=(aI d9).length/\[some<|V.ref w,some<|.ref pa,some<|.ref c,some<|.int<|(k:Int)+ (n:Int),some<|.int (n:Int),some<|.ref a]=[some<|.ref w,some<|.ref pa,some<|.ref c,some<|.int (k':Int),Wh,Wi]/\aF w H H3/\H3 c=some (.lst br)/\aR H3 br res/\
      (∀p∈res,bC p)/\cB C H3 w L d9/\aI rs=zs++aI d9/\bS zs (bH<|cb part k') (aI res)/\k'<=bj part/\fit l' (aI d9)/\fit (out l'<|aI d9) (bH (b_ part k')++ys)/\res.length+d9.length<=rs.length+ (if k'=bj part then 1 else 0):=by
     intro H3 i9 qX b3 iC Wj Wk W3 Wl hl3
     refine⟨_,V_ t fJ iP,k+n,some<|.int (n:Int),some<|.ref a,i9,qX,gm p t n,lb,zs++bH (cb p n),rfl,by rw[zbI],b3,iC,Wj,Wk,W3,by rw[ez,zai],Wl,by lia,f2,g2, ?_⟩
     have r1:=V9 p t n
     simp only[zao] at hlen
     by_cases hz:n=bj p
     ·have r2:gm p t n=t:=if_pos hz
      rw[r2];split<;>lia
     ·rw[if_pos (show k+n=bj part by lia)];lia
    refine bA<|aX<|bf<|ae rfl<|aw<|.inr<|.inl ⟨_,_,_,_,rfl,rfl,aG.of IZ,rfl,aw<|dz ⟨_,rfl, ?_⟩⟩
    cases part with
    | put s=>exact absurd rfl (tO s)
    | keep m=>
     refine fI ?_
     refine dH<|fP<|ae rfl ⟨.inl ⟨rfl,_,aq.of cE⟩,ae rfl ⟨br,cE,dY (by lia), ?_⟩⟩
     obtain⟨bb,pp⟩:=app H2 br a (cb p n) Bo cE lM ha
     refine ba<|aV<|ae rfl<|ae rfl ?_
     refine fin _ _ (res++ [cb p n]) bb au pp ?_ (wW H2 _ _ _ cE W2) ?_ (by simp)
     ·intro x hx
      rcases zad.mp hx with z | z
      ·exact h_ x z
      ·rw[zac.mp z];exact Wf
     ·rw[eC,jb,ki]
      refine gp.app ?_
      show bS (bH<|cb p n) (rK ((n:Nat):Int).toNat) (bH<|cb p n)
      rw[zaW]
      cases p with
      | keep m'=>show bS (rK ((n:Nat):Int).toNat) (rK n) (rK ((n:Nat):Int).toNat);rw[zaW];exact IL n
      | put s=>
       have:=IP (s.cps.toList.take n)
       rw[zaD] at this
       have hh:n<=s.length:=iP
       rw[len_list] at hh
       rw[show min n s.cps.toList.length=n by lia] at this
       exact this
      | cut s=>exact absurd rfl lZ
    | cut s=>
     refine gE ?_
     have uV:H2 pa=some (.tup [.str "cut", .str s]):=IZ
     refine dH<|fP<|ae rfl ⟨.inl ⟨rfl,_,aq.of cE⟩,c7 wN rfl<|ay<|ae rfl<|ay ?_⟩
     refine⟨_,rfl, .inr<|.inl ⟨_,_,_,_,rfl,rfl,aG.of uV,rfl,_,rfl,_,rfl,_,rfl,_,rfl,_,rfl,bQ aE.1.1, ?_⟩⟩
     rw[A_ k (n:Int) n rfl]
     generalize hu:((s.cps.toList.drop k).take n)=u at*
     have pH:bH (cb (b_ (.cut s) k) n)=u.map At.C:=by rw[<-hu];rfl
     have Wm:u.length=n:=by rw[pH,tN] at Bp;exact Bp
     rw[pH] at g1
     refine⟨_,cb p n,⟨u.toArray⟩,rfl,⟨a,rfl,ha⟩, ?_⟩
     cases p with
     | cut s'=>exact absurd rfl lZ
     | keep m=>
      refine .inl ⟨_,rfl,fun d tt H3 s3 hd Bq Wn=> ?_⟩
      have iC:=s3 _ _ cE
      refine⟨br,[V.ref tt],iC,Bq,bQ (by simp;lia), ?_⟩
      obtain⟨bb,pp⟩:=app H3 br tt (.cut ⟨u.toArray⟩) (fun b o e nn=>s3 b o<|Bo b o e nn) iC (lM.mono<|dr s3) Wn
      refine ba<|aV<|ae rfl<|ae rfl ?_
      refine fin _ _ (res++ [.cut ⟨u.toArray⟩]) bb au pp ?_ (wW H3 _ _ _ iC<|W2.same s3) ?_ (by simp)
      ·intro x hx
       rcases zad.mp hx with z | z
       ·exact h_ x z
       ·rw[zac.mp z]
        have:=ID (Bb aE wV) fJ (show n<=bj (b_ (.cut s) k) by rw[kj _ k hk];lia)
        rw[Wa,hu] at this
        exact this
      ·rw[eC,jb,ki,pH]
       refine gp.app ?_
       show bS (rK ((n:Nat):Int).toNat) (u.map At.C) (u.map At.C)
       rw[zaW,<-Wm]
       exact IM u
     | put s'=>
      have eu:(s'.cps.toList.take n)=u:=by
       have Wo:fit la ((s'.cps.toList.take n).map At.P++ []):=by rw[zaf];exact f1
       have wY:la=[]:=(tG _ _ _).mp Wo
       subst wY
       have o1:out [] (bH<|cb (.put s') n)=s'.cps.toList.take n:=by
        have:=wu (s'.cps.toList.take n) [] []
        rw[zaf] at this
        exact this.trans<|zaf _
       rw[o1] at g1
       obtain⟨b,e⟩:=wz u _ [] (by rw[zaf];exact g1)
       have da:=pE _ _ g1
       rw[tN] at da
       rw[e,zqA] at da
       have:b=[]:=zaI.mp (by lia)
       rw[this,zaf] at e
       exact e
      refine .inr ⟨by show Pt.put ⟨(s'.cps.toList.take n).toArray⟩=_;rw[eu],fun d H3 s3 hd Bq=> ?_⟩
      have iC:=s3 _ _ cE
      refine⟨br,[],iC,Bq,bQ (by simp;lia), ?_⟩
      rw[zaf]
      have tt:fg H3 (upd H3 c<|.lst br):=aF.upd.bz iC
      refine ba<|aV<|ae rfl<|ae rfl ?_
      refine fin _ _ res (fun b o e nn=>by rw[aN<|bZ e hc];exact s3 b o (Bo b o e nn)) au ((lM.mono<|dr s3).mono tt) h_ (wW H3 _ _ _ iC<|W2.same s3) ?_ (by lia)
      rw[eC,pH]
      have:=gp.app (IQ u)
      rw[zaf] at this
      show bS (zs++ (s'.cps.toList.take n).map At.P) _ _
      rw[eu];exact this
 ·refine iF ?_ (zqF (by lia))
  have Wq:k=bj part:=by lia
  subst Wq
  rw[take_all part<|wy aE] at gp
  have e0:bH (b_ part<|bj part)=[]:=zaI.mp (by rw[wO,kj part _<|zqR _,zbu])
  rw[e0,zbg] at kl
  rw[if_pos rfl] at hlen
  exact ck<|ae rfl<|q c H1 br res d9 l' zs b1 hc wU gP h_ W1 ez gp lY kl hlen
theorem Wr(ps:List Pt):qI ps=overOf (cT ps):=by
 unfold qI overOf cT
 rw[List.filter_map,zbs]
 congr 1
 ·funext p;cases p<;>rfl
 ·congr 1
  funext p
  cases p with
  | keep n=>show(decide<|(Str.ofString "keep")≠"cut")=decide ((Str.ofString "keep")≠"put");decide
  | put n=>show(decide<|(Str.ofString "put")≠"cut")=decide ((Str.ofString "cut")≠"put");decide
  | cut n=>show(decide<|(Str.ofString "cut")≠"cut")=decide ((Str.ofString "put")≠"put");decide
theorem Run.gives{l r:List Nat}{ps:List Pt}(h:Run l ps r):(qI ps).sum=r.length:=by
 rw[Wr];exact h.nz.over
theorem Ws(p:Pt):cnt (bH p)=dy p:=by
 cases p with
 | keep n=>
  show cnt (rK n.toNat)=0
  have: ∀m,cnt (rK m)=0:=fun m=>by
   induction m with
   | zero=>rfl
   | succ m ih=>exact ih
  exact this _
 | put s=>
  show cnt (s.cps.toList.map At.P)=s.length
  rw[len_list]
  induction s.cps.toList with
  | nil=>rfl
  | cons c t ih=>show cnt (t.map At.P)+1=_;rw[ih];rfl
 | cut s=>
  show cnt (s.cps.toList.map At.C)=s.length
  rw[len_list]
  induction s.cps.toList with
  | nil=>rfl
  | cons c t ih=>show cnt (t.map At.C)+1=_;rw[ih];rfl
theorem Br(ps:List Pt):cnt (aI ps)=aA ps:=by
 induction ps with
 | nil=>rfl
 | cons p ps ih=>
  rw[fO,wM,Ws,ih]
  simp[aA]
theorem I_{ps:List Pt}{i:Nat}{p:Pt}(h:ps[i]?=some p):aI (ps.take<|i+1)=aI (ps.take i)++bH p:=by
 rw[zbr,h,jb]
 simp[aI]
theorem drop_cons{ps:List Pt}{i:Nat}{p:Pt}(h:ps[i]?=some p):ps.drop i=p::ps.drop (i+1):=by
 have hi:i<ps.length:=(zak.mp h).1
 rw[zaY hi]
 congr 1
 exact zal<|(zau hi).symm.trans h
structure tR (one other ps:List Pt) (l r:List Nat):Prop where
 ok: ∀p∈ps,bC p
 ch:chainOk "" ps=true
 run:Run l ps r
 res:res 0 (aI ps)=sub (res 0<|aI one) 0 (res 0<|aI other)
 len:ps.length<=3* (one.length+other.length)+2
 aA:aA ps<=aA one+aA other
 aH: ∃zs,bS (aI one) (aI other) zs/\nb (aI ps)=nb zs
def wZ:Sp:=fun vs H Q E=> ∃(a b:Addr) (xs ys:List V) (one other:List Pt) (l m r:List Nat),vs=[.ref a, .ref b]/\H a=some (.lst xs)/\H b=some (.lst ys)/\aR H xs one/\aR H ys other/\(∀p∈one,bC p)/\(∀p∈other,bC p)/\chainOk "" one=true/\chainOk "" other=true/\
 one.length+other.length<=30000/\aA one+aA other<=100000/\Run l one m/\Run m other r/\
 ∀(c:Addr) (H':Hp) (zs:List V) (ps:List Pt),aB H H'->H c=none->H' c=some (.lst zs)->aR H' zs ps->tR one other ps l r->Q (.ref c) H'
theorem Wt{one other res:List Pt}{l m r:List Nat}(h1:Run l one m)(h2:Run m other r)(ho: ∀p∈res,bC p)(hl:res.length<=one.length+other.length)(ht:B.aA one+B.aA other<=100000)(h:bS (aI one) (aI other) (aI res)):tR one other (lN res) l r/\B.aA res<=100000:=by
 have Bs:B.aA res<=B.aA one+B.aA other:=by
  have:=h.cnt
  rw[Br,Br,Br] at this
  exact this
 have tS:=HS ho (by lia:B.aA res<=100000)
 have heq:=AQ res tS
 obtain⟨g1,g2,_⟩:=HM res tS (by lia)
 obtain⟨f1,f2⟩:=h1.fits
 obtain⟨f3,f4⟩:=h2.fits
 rw[<-f2] at f3 f4
 obtain⟨e1,e2,e3⟩:=Vp h l 0 0 f1 f3
 have tU:=Ih res fun p hp=>wy (ho p hp)
 have dA:Run l res r:=by
  have:=tH res l (fun p hp=>wy<|ho p hp) e1
  rw[e2,f4] at this
  exact this
 have hnl:=HN res
 refine⟨⟨by rw[heq];exact g2,by rw[heq];exact g1,by rw[heq];exact HX dA,by rw[Vs tU,e3],by lia,by rw[heq,AY res tS];exact Bs,_,h,tU⟩,by lia⟩
theorem Wu{K:Frag}{C:Addr}{et:List (Str×Addr)}(T:pf K C)(vs:List V)(H:Hp)(Q:VK)(E:XK)(h:wZ vs H Q E):
  ax (aS K [("sizes",lL),("parts_behind",wQ C),("neat",nk)] [] [] [("word",C,pA C),("take",C,pB C),("left",C,nC C)] [("Walk",C,wI C)] (et:=et) (E:=E)) Iv (Dn Q) (start Iu vs) H:=by
 obtain⟨a,b,xs,ys,one,other,l,m,r,rfl,ha,hb,mL,Bt,mT,jv,hX,cE,hlen,Wv,Bu,nF,q⟩:=h
 have lx:=Paired.length mL
 have ly:=Paired.length Bt
 obtain⟨f1,f2⟩:=Bu.fits
 obtain⟨f3,f4⟩:=nF.fits
 rw[<-f2] at f3
 refine bA<|aX<|bf<|c7 lL rfl<|ay<|ae rfl<|aL ⟨a,xs,one,rfl,ha,mL,mT,hX,by lia,fun t1 H1 s1 gk=> ?_⟩
 refine aw<|.inr<|.inl ⟨_,_,_,_,rfl,rfl,aG.of gk,rfl, ?_⟩
 refine bf<|c7 lL rfl<|ay<|ae rfl<|aL ⟨b,ys,other,rfl,s1 _ _ hb,Bt.mono<|dr s1,jv,cE,by lia,fun t2 H2 s2 qY=> ?_⟩
 refine aw<|.inr<|.inl ⟨_,_,_,_,rfl,rfl,aG.of qY,rfl, ?_⟩
 show ∃k,V.bl (true ^^ decide (V.int (qI one).sum=V.int (overOf other).sum))=V.bl k/\_
 refine⟨_,rfl, ?_⟩
 rw[Bu.gives,nF.over,zqT rfl]
 have eK:=s1.trans s2
 refine ba<|IU C (wI C) rfl<|ae rfl fun w dx hw Ja gI=> ?_
 have s3:aB H2 (upd (upd H2 dx<|.own w) w<|.ins C dx []):=fun b o e=>by rw[aN<|bZ e hw,aN<|bZ e Ja];exact e
 have Bv:=eK.trans s3
 refine⟨w,dx,a,xs,one,rfl,au,Bv _ _ ha,mL.mono<|dr Bv,mT,by lia,fun L H3 hL hLw b3 W=> ⟨rfl, ?_⟩⟩
 have Bw:aB H H3:=fun b o e=>b3 b o (Bv b o e) (bZ (eK b o e) hw)
 have fw:H w=none:=eK.free hw
 refine ba<|cP<|aL ⟨zqZ _,fun c hc=> ?_⟩
 have fc:H c=none:=Bw.free hc
 have tQ:c≠L:=by
  obtain⟨_,_,_,_,_,_,Ww,_⟩:=W
  exact(bZ Ww hc).symm
 have tP:c≠w:=by
  obtain⟨_,_,_,hW⟩:=W.ob
  exact(bZ hW hc).symm
 have Jb: ∀{H4 H5:Hp},aB H H4->aF w H4 H5->aB H H5:=fun s b d o e=>b d o (s d o e) (bZ e fw)
 have Bx: ∀{H4:Hp} {o:HO},aB H H4->aB H (upd H4 c o):=fun s d o e=>by rw[aN<|bZ e fc];exact s d o e
 refine⟨_,rfl,b,rfl,⟨_,aq.of ((sameNew (o:= .lst []) hc) _ _ (Bw _ _ hb))⟩,mD (K:=K) (a:=b) (xs:=ys) (fun i σ H4=> ∃(u:Option V) (c_:List V) (res rs:List Pt) (l':List Nat) (zs:List At),σ=[some (.ref a),some (.ref b),some (.ref w),some (.ref c),u]/\aB H H4/\H4 c=some (.lst c_)/\
   aR H4 c_ res/\(∀p∈res,bC p)/\cB C H4 w L rs/\aI one=zs++aI rs/\bS zs (aI (other.take i)) (aI res)/\fit l' (aI rs)/\fit (out l' (aI rs)) (aI (other.drop i))/\res.length+rs.length<=one.length+i)
  ⟨none,[],[],one,l,[],rfl,Bw.trans<|sameNew hc,au, .nil,(fun p hp=>by cases hp),W.same<|sameNew hc,rfl, .nil,f1,f3,by simp⟩
  (fun i σ H4 _ ⟨_,_,_,_,_,_,_,s4,_⟩=>aq.of (s4 _ _ hb)) ?_ ?_⟩
 ·rintro i y σ H4 hi ⟨u,c_,res,rs,l',zs,rfl,s4,i_,gP,h_,W4,ez,gp,fa,fb,Jc⟩
  obtain⟨p,hp,iy⟩:=Bt.get hi
  obtain⟨pa,rfl,lX⟩:=iy.mono (dr s4)
  have e9:i<other.length:=(zak.mp hp).1
  have pI:=jv p (zae hp)
  have Wx:=Paired.length gP
  rw[drop_cons hp,fO] at fb
  refine bA<|aX<|bf<|ae rfl<|aw<|.inr<|.inl ⟨_,_,_,_,rfl,rfl,aG.of lX,rfl,aw<|dz ⟨_,rfl, ?_⟩⟩
  have rest:(∀s,p≠ .put s)->ax (aS K [("sizes",lL),("parts_behind",wQ C),("neat",nk)] [] [] [("word",C,pA C),("take",C,pB C),("left",C,nC C)] [("Walk",C,wI C)] (et:=et) (E:=E)) [.drop<|.bg .extend (.v 3) [(.call 1 [(.v 2),(.v 4)])]]
    {nx:=fun σ H4=> ∃(u:Option V) (c_:List V) (res rs:List Pt) (l':List Nat) (zs:List At),σ=[some (.ref a),some (.ref b),some (.ref w),some (.ref c),u]/\aB H H4/\H4 c=some (.lst c_)/\
   aR H4 c_ res/\(∀p∈res,bC p)/\cB C H4 w L rs/\aI one=zs++aI rs/\bS zs (aI (other.take (i+1))) (aI res)/\fit l' (aI rs)/\fit (out l' (aI rs)) (aI (other.drop (i+1)))/\res.length+rs.length<=one.length+ (i+1),rt:=Q} [some (.ref a),some (.ref b),some (.ref w),some (.ref c),some (.ref pa)] H4:=by
   intro tO
   refine dH<|fP<|ae rfl ⟨.inl ⟨rfl,_,aq.of i_⟩,c7 (wQ C) rfl<|ay<|ae rfl<|ay<|ae rfl<|aL ?_⟩
   refine⟨w,L,_,rs,p,l',_,rfl,W4,⟨pa,rfl,lX⟩,pI,tO,by lia,fa,fb,fun d H5 By Wy Wz l5 WA b5 hd WC Jd WD W5 WE w9 WG WH pJ=> ?_⟩
   have lQ:H5 c=some (.lst c_):=b5 _ _ i_ tP
   obtain⟨_,_,_,WI⟩:=W4.ob
   have ac_:=Paired.length Jd
   refine⟨c_,By,lQ,WC,bQ (by lia), ?_⟩
   have tt:fg H5 (upd H5 c<|.lst<|c_++By):=aF.upd.bz lQ
   refine⟨some<|.ref pa,c_++By,res++Wy,Wz,l5,zs++WA,rfl,Bx<|Jb s4 b5,au,Paired.app ((gP.mono<|b5.wR WI).mono tt)<|Jd.mono tt, ?_,W5.but aF.upd lQ tQ,by rw[ez,WE,zai], ?_,WG,WH, ?_⟩
   ·intro x hx
    rcases zad.mp hx with z | z
    ·exact h_ x z
    ·exact WD x z
   ·rw[I_ hp,jb];exact gp.app w9
   ·simp only[zqA];lia
  cases p with
  | put s=>
   refine fI ?_
   refine dH<|fP<|ae rfl ⟨.inl ⟨rfl,_,aq.of i_⟩,ae rfl ⟨c_,i_,dY (by lia), ?_⟩⟩
   have tt:fg H4 (upd H4 c<|.lst<|c_++ [V.ref pa]):=aF.upd.bz i_
   refine⟨some<|.ref pa,c_++ [V.ref pa],res++ [.put s],rs,l',zs,rfl,Bx s4,au,aR.snoc (gP.mono tt) ⟨pa,rfl,tt _ _ lX⟩, ?_,W4.but aF.upd i_ tQ,ez, ?_,fa,(tG _ _ _).mp fb,by simp;lia⟩
   ·intro x hx
    rcases zad.mp hx with z | z
    ·exact h_ x z
    ·rw[zac.mp z];exact pI
   ·rw[I_ hp,jb,ki]
    have:=gp.app (IJ s.cps.toList)
    rw[zaf] at this
    exact this
  | keep n=>exact gE (rest fun s z=>by cases z)
  | cut s=>exact gE (rest fun s z=>by cases z)
 ·rintro σ H4 ⟨u,c_,res,rs,l',zs,rfl,s4,i_,gP,h_,W4,ez,gp,fa,fb,Jc⟩
  rw[ly,zbB] at gp
  rw[ly,zbF] at fb
  have oe:out l' (aI rs)=[]:=fb
  refine qW (fun mm σ H5=> ∃(c_:List V) (res rs:List Pt) (l':List Nat) (zs:List At),mm=rs.length/\σ=[some (.ref a),some (.ref b),some (.ref w),some (.ref c),u]/\aB H H5/\H5 c=some (.lst c_)/\
   aR H5 c_ res/\(∀p∈res,bC p)/\cB C H5 w L rs/\aI one=zs++aI rs/\bS zs (aI other) (aI res)/\fit l' (aI rs)/\out l' (aI rs)=[]/\res.length+rs.length<=one.length+other.length)
   ⟨_,c_,res,rs,l',zs,rfl,rfl,s4,i_,gP,h_,W4,ez,gp,fa,oe,by lia⟩ ?_
  clear gp fa oe fb ez W4 gP h_ i_ s4 Jc res rs l' zs c_ H4
  rintro mm σ H5 ⟨c_,res,rs,l',zs,rfl,rfl,s5,lQ,gP,h_,W5,ez,gp,fa,oe,pJ⟩
  have Wx:=Paired.length gP
  refine aX<|IW (C:=C) rfl rfl W5<|aw<|lW ⟨_,rfl, ?_⟩
  cases rs with
  | nil=>
   refine iF ?_ rfl
   rw[show aI []=[] from rfl,zaf] at ez
   subst ez
   obtain⟨J,Bs⟩:=Wt Bu nF h_ (by simp at pJ;lia) Wv gp
   refine ck<|c7 nk rfl<|ay<|ae rfl<|aL ⟨c,c_,res,rfl,lQ,gP,by simp at pJ;lia,Bs,fun d H6 ws s6 hd h6 w_=> ?_⟩
   exact q d H6 ws _ (s5.trans s6) (s5.free hd) h6 w_ J
  | cons p t=>
   have pI:=W5.ok p (.head _)
   obtain⟨Wd,Bm⟩:=qS pI
   have lZ: ∃s,p= .cut s:=by
    have mI:=IT _ _ fa oe
    cases p with
    | cut s=>exact⟨s,rfl⟩
    | keep n=>
     exfalso
     have fJ:(1:Int)<=n:=pI
     obtain⟨c',e⟩:=mI .K (by rw[fO];refine zav _ ?_;show At.K∈rK n.toNat;unfold rK;rw[List.mem_replicate];exact⟨by lia,rfl⟩)
     cases e
    | put s=>
     exfalso
     obtain⟨c0,r0,e0⟩:=A4 pI.2
     obtain⟨c',e⟩:=mI (.P c0) (by rw[fO];refine zav _ ?_;show At.P c0∈s.cps.toList.map At.P;rw[e0];exact .head _)
     cases e
   obtain⟨s,rfl⟩:=lZ
   have ta:cb (.cut s) (bj<|.cut s)= .cut s:=take_all _ trivial
   have re:gm (.cut s) t (bj<|.cut s)=t:=if_pos rfl
   refine iT ⟨_,fun σ' H' z=>z, ?_⟩ rfl
   refine dH<|fP<|ae rfl ⟨.inl ⟨rfl,_,aq.of lQ⟩,Bi (C:=C) (k:=bj (.cut s)) rfl rfl W5 Bm (zqR _) (fun Q' hq=>Bh (C:=C) rfl rfl W5 hq) fun pa H6 b6 lX rN W6=> ?_⟩
   rw[ta] at lX
   rw[re] at W6
   have s_:H6 c=some (.lst c_):=b6 _ _ lQ tP
   obtain⟨_,_,_,WJ⟩:=W5.ob
   simp only[zao] at pJ
   refine⟨c_,s_,dY (by lia), ?_⟩
   have tt:fg H6 (upd H6 c<|.lst<|c_++ [V.ref pa]):=aF.upd.bz s_
   rw[fO] at fa oe ez
   obtain⟨la,lb,rfl,g1,g2,g3⟩:=pF _ _ fa
   rw[g3] at oe
   refine⟨t.length,by simp,c_++ [V.ref pa],res++ [.cut s],t,lb,zs++bH (.cut s),rfl,rfl,Bx<|Jb s5 b6,au,aR.snoc ((gP.mono<|b6.wR WJ).mono tt) ⟨pa,rfl,tt _ _ lX⟩, ?_,W6.but aF.upd s_ tQ,by rw[ez,zai], ?_,g2,(List.append_eq_nil_iff.mp oe).2,by simp;lia⟩
   ·intro x hx
    rcases zad.mp hx with z | z
    ·exact h_ x z
    ·rw[zac.mp z];exact pI
   ·rw[jb,ki]
    have:=gp.app (Bf s.cps.toList)
    rw[zaf] at this
    exact this
end L2.B
namespace L2
open PySem PySem.Spec PyProof.Rows
end L2
namespace L2.B
open PySem PySem.Spec PyProof.Rows
end L2.B
namespace L2.B
end L2.B
namespace L2.B
open PySem PySem.Spec PyProof.Rows
theorem WK(ps:List Pt):aI (cT ps)=(aI ps).map sw:=by
 induction ps with
 | nil=>rfl
 | cons p ps ih=>
  have e:cT (p::ps)=p.nz::cT ps:=rfl
  rw[e,fO,fO,zap,ih]
  congr 1
  cases p with
  | keep n=>show rK n.toNat=(rK n.toNat).map sw;unfold rK;rw[List.map_replicate];rfl
  | put s=>show s.cps.toList.map At.C=(s.cps.toList.map At.P).map sw;rw[zbs];rfl
  | cut s=>show s.cps.toList.map At.P=(s.cps.toList.map At.C).map sw;rw[zbs];rfl
structure l9 (ps:List Pt) (l r:List Nat):Prop where
 ok: ∀p∈ps,bC p
 ch:chainOk "" ps=true
 run:Run l ps r
def bk(ps:List Pt):List Pt:=lN (cT ps)
theorem l9.bk{ps:List Pt}{l r:List Nat}(h:l9 ps l r)(ht:aA ps<=100000):l9 (bk ps) r l/\aA (B.bk ps)=aA ps/\(B.bk ps).length<=3*ps.length+2/\nb (aI<|B.bk ps)=nb ((aI ps).map sw):=by
 have tS:=HS h.ok ht
 have xa:=Ve tS
 have km:aA (cT ps)<=100000:=by rw[AV];exact ht
 obtain⟨g1,g2,_⟩:=HM (cT ps) xa km
 have heq:=AQ (cT ps) xa
 have hl:=HN (cT ps)
 have hsl:(cT ps).length=ps.length:=by simp[cT]
 have tU:=Ih (cT ps) fun p hp=>Vw (xa p hp)
 rw[WK] at tU
 refine⟨⟨?_, ?_, ?_⟩, ?_, ?_,tU⟩
 ·unfold B.bk;rw[heq];exact g2
 ·unfold B.bk;rw[heq];exact g1
 ·unfold B.bk;rw[heq];exact HX h.run.nz
 ·unfold B.bk;rw[heq,AY _ xa,AV]
 ·unfold B.bk;lia
theorem tR.chg{one other ps:List Pt}{l r:List Nat}(h:tR one other ps l r):l9 ps l r:=⟨h.ok,h.ch,h.run⟩
theorem WL{n:Nat}:aI (fj [.keep (n:Int)])=rK n/\(∀p∈fj [.keep (n:Int)],bC p)/\chainOk "" (fj [.keep (n:Int)])=true/\(fj [.keep (n:Int)]).length<=1/\aA (fj [.keep (n:Int)])=0:=by
 have hr: ∀p∈ [Pt.keep (n:Int)],gO p:=fun p hp=>by rw[zac.mp hp];show(0:Int)<= (n:Int);lia
 have e:fj [.keep (n:Int)]=if n=0 then [] else [.keep (n:Int)]:=by
  have e1:fj [.keep (n:Int)]=txt .put ""++txt .cut ""++ (if ((0:Int)+ (n:Int))=0 then [] else [.keep<|(0:Int)+ (n:Int)]):=by
   show cJ [("","",(0:Int)+ (n:Int))]=_
   simp[cJ,fY]
  rw[e1,txt_nil,txt_nil,Int.zero_add]
  by_cases h:n=0
  ·rw[if_pos h,if_pos (by lia)];rfl
  ·rw[if_neg h,if_neg (by lia)];rfl
 rw[e]
 by_cases h:n=0
 ·rw[if_pos h,h];exact⟨rfl,(fun p hp=>by cases hp),rfl,zqZ _,rfl⟩
 ·rw[if_neg h]
  refine⟨by rw[ki];show rK ((n:Int)).toNat=_;rw[zaW],(fun p hp=> ?_), ?_,zqR _,rfl⟩
  ·rw[zac.mp hp]
   show(1:Int)<= (n:Int)
   lia
  ·show(fi "keep" "" && true)=true;decide
theorem WM{l:List Nat}:l9 (fj [.keep (l.length:Int)]) l l:=by
 obtain⟨e,o,c,_,_⟩:=WL (n:=l.length)
 refine⟨o,c, ?_⟩
 have hf:fit l (aI<|fj [.keep (l.length:Int)]):=by
  rw[e]
  have:=(wq l [] []).mpr rfl
  rw[zaf,zaf] at this
  exact this
 have:=tH _ l (fun p hp=>wy<|o p hp) hf
 rw[e] at this
 have h2:=wt l [] []
 rw[zaf,zaf] at h2
 have h3:out [] ([]:List At)=[]:=rfl
 rw[h2,h3,zaf] at this
 exact this
def cQ(H:Hp)(b:Addr)(ps:List Pt)(l r:List Nat):Prop:= ∃xs,H b=some (.lst xs)/\aR H xs ps/\l9 ps l r
theorem cQ.same{H H':Hp}{b:Addr}{ps:List Pt}{l r:List Nat}(h:cQ H b ps l r)(s:aB H H'):cQ H' b ps l r:=by
 obtain⟨xs,h1,h2,h3⟩:=h
 exact⟨xs,s _ _ h1,h2.mono<|dr s,h3⟩
theorem cQ.keep{H H':Hp}{b:Addr}{ps:List Pt}{l r:List Nat}(h:cQ H b ps l r)(hb: ∀o,H b=some o->H' b=some o)(t:fg H H'):cQ H' b ps l r:=by
 obtain⟨xs,h1,h2,h3⟩:=h
 exact⟨xs,hb _ h1,h2.mono t,h3⟩
theorem cQ.chg{H:Hp}{b:Addr}{ps:List Pt}{l r:List Nat}(h:cQ H b ps l r):l9 ps l r:=by
 obtain⟨_,_,_,h⟩:=h;exact h
section
variable {H:Hp} {Q:VK} {E:XK}
theorem WN{a b:Addr}{one other:List Pt}{l m r:List Nat}(h1:cQ H a one l m)(h2:cQ H b other m r)(hl:one.length+other.length<=30000)(ht:aA one+aA other<=100000)
  (q: ∀(c:Addr) (H':Hp) (ps:List Pt),aB H H'->H c=none->cQ H' c ps l r->tR one other ps l r->Q (.ref c) H'):wZ [.ref a, .ref b] H Q E:=by
 obtain⟨xs,a1,a2,a3⟩:=h1
 obtain⟨ys,b1,b2,b3⟩:=h2
 exact⟨a,b,xs,ys,one,other,l,m,r,rfl,a1,b1,a2,b2,a3.ok,b3.ok,a3.ch,b3.ch,hl,ht,a3.run,b3.run,fun c H' zs ps s hc h3 h4 J=>q c H' ps s hc ⟨zs,h3,h4,J.chg⟩ J⟩
theorem WO{a:Addr}{ps:List Pt}{l r:List Nat}(h:cQ H a ps l r)(hl:ps.length<=30000)(ht:aA ps<=100000)
  (q: ∀(c:Addr) (H':Hp),aB H H'->H c=none->cQ H' c (bk ps) r l->Q (.ref c) H'):wk [.ref a] H Q E:=by
 obtain⟨xs,a1,a2,a3⟩:=h
 exact⟨a,xs,ps,rfl,a1,a2,a3.ok,a3.ch,by lia,ht,fun c H' ys s hc h3 h4=>q c H' s hc ⟨ys,h3,h4,(a3.bk ht).1⟩⟩
theorem Je{x:Str}{a:Addr}{ps:List Pt}{r:List Nat}(hx:good x)(h:cQ H a ps x.cps.toList r)(hr:r.length<=1000000)(q:Q (.str ⟨r.toArray⟩) H):qR [.str x, .ref a] H Q E:=by
 obtain⟨xs,a1,a2,a3⟩:=h
 exact⟨x,a,xs,ps,r,rfl,hx,a1,a2,fun p hp=>v9<|a3.ok p hp,a3.run,hr,q⟩
end
end L2.B
namespace L2.N
namespace Tr
end Tr
end L2.N
namespace L2.B
end L2.B
namespace L2.B
open PySem PySem.StrLaws
end L2.B
namespace L2.B
open PySem PySem.Spec PyProof.Rows
end L2.B
namespace L2.B
end L2.B
namespace L2.B
end L2.B
namespace L2.B
open PySem PySem.Spec PyProof.Rows
theorem cx{K:Frag}{sd:Addr->List (Key×V)->Prop}{H:Hp}{a:Addr}{xs:List V}{i:Int}{v:V}{Q:VK}(h:H a=some (.lst xs))(e:fG xs i=some v)(q:Q v H):mP K sd (.ref a) (.int i) H Q:=
 .inl ⟨_,_,_,_,rfl,rfl,aq.of h,e,q⟩
end L2.B
namespace L2
open PySem PySem.Spec PyProof.Rows
theorem nG{α:Type _}{p:α->Prop}: ∀x∈ ([]:List α),p x:=fun _ h=>nomatch h
theorem nH{α:Type _}{p:α->Prop}{a:α}{l:List α}(h:p a)(t: ∀x∈l,p x): ∀x∈a::l,p x:=List.forall_mem_cons.2 ⟨h,t⟩
inductive jg (w:World):List DictEntry->List (Key×V)->List (Key×Value)->Prop
 | nil:jg w [] [] []
 | cons {x:Str} {t:Tok} {v:V} {u:Value} {es:List DictEntry} {kvs:List (Key×V)} {vs:List (Key×Value)}:RelV v u->jg w es kvs vs->
   jg w (⟨PyData.keyHash w.params x, .str x t,u⟩::es) ((.inr x,v)::kvs) ((.inr x,u)::vs)
section
variable {P:Program} {w:World} {K:Frag}
theorem jg.kv{es:List DictEntry}{kvs:List (Key×V)}{vs:List (Key×Value)}(h:jg w es kvs vs):KV kvs vs:=by
 induction h with
 | nil=>exact .nil
 | cons r _ ih=>exact .cons ⟨rfl,r⟩ ih
theorem jg.pairs{es:List DictEntry}{kvs:List (Key×V)}{vs:List (Key×Value)}(h:jg w es kvs vs):Pairs (dF P w) es vs:=by
 induction h with
 | nil=>exact .nil
 | cons r _ ih=>exact .cons (uE P w _ _) rfl ih
theorem jg.keys{es:List DictEntry}{kvs:List (Key×V)}{vs:List (Key×Value)}(h:jg w es kvs vs): ∀e∈es,∃k,(dF P w).is k e.key=true/\e.hash=(dF P w).hash k:=by
 induction h with
 | nil=>intro e he;cases he
 | @cons x t v u es kvs vs r _ ih=>
  intro e he
  rcases zaa.mp he with rfl | he
  ·exact⟨.inr x,uE P w _ _,rfl⟩
  ·exact ih e he
theorem jg.same{es:List DictEntry}{kvs:List (Key×V)}{vs:List (Key×Value)}(h:jg w es kvs vs):vs.map (·.1)=kvs.map (·.1):=by
 induction h with
 | nil=>rfl
 | cons r _ ih=>simp only[zay,ih]
theorem WQ{p:Addr}{es:Array DictEntry}{n:Nat}{kvs:List (Key×V)}{vs:List (Key×Value)}(hl:K.lookup p=some ⟨.type "dict",none, .dict es n,#[]⟩)(hk:jg w es.toList kvs vs)(nd:(kvs.map (·.1)).Nodup):vV P w K (p,kvs):=fun h X=>
 ⟨vs,hk.kv,_,es,n,X p _ hl,⟨rfl,rfl,rfl⟩,rfl,(fun e he=>hk.keys e (by simpa using he)),hk.pairs,by rw[hk.same];exact nd⟩
end
section
variable {P:Program} {w:World} {K:Frag} {mg:Str->Option Value} {base:Heap} {k:Nat}
theorem cX.weak{CX:bN}{f:Addr}{fd:FuncData}{ps:List Str}{a b:Sp}(A:cX P w K mg base CX k f fd ps b)(h: ∀vs H Q E,a vs H Q E->b vs H Q E):cX P w K mg base CX k f fd ps a:=
 ⟨fun vs H Q E q=>A.len vs H Q E<|h _ _ _ _ q,fun A' outer s H args us vs Q E hr e0 hb hv hs=>A.run A' outer s H args us vs Q E hr e0 hb hv<|h _ _ _ _ hs⟩
theorem j_.weak{x:Str}{a b:Sp}(T:j_ P w K mg base k x b)(h: ∀vs H Q E,a vs H Q E->b vs H Q E):j_ P w K mg base k x a:=by
 obtain⟨f,fd,ps,F,r⟩:=T
 exact⟨f,fd,ps,F.weak h,r⟩
theorem kb.weak{x:Str}{C:Addr}{a b:Sp}(T:kb P w K mg base k (x,C,b))(h: ∀vs H Q E,a vs H Q E->b vs H Q E):kb P w K mg base k (x,C,a):=by
 obtain⟨c,f,fd,ps,m,F,r⟩:=T
 exact⟨c,f,fd,ps,m,F.weak h,r⟩
open PySem.W in
theorem WR{x:Str}{C:Addr}(X:K.In base)(G:base.Ns mainGlobals mg)(e:nsIn K mainGlobals x=some (some<|.ref C))(q:excIn K C [.type "ValueError", .type "Exception", .type "BaseException", .type "object"] "ValueError.__new__"=true):vX mg base (x,C):=by
 refine⟨_,_,_,_,⟨mg_of X G e, ?_⟩,PySem.F.excBase_ValueError⟩
 unfold excIn at q
 split at q
 ·rename_i dd cd sl ho
  split at q
  ·rename_i C' bm k0 k1 k2 k3 n k5 hm hs
   simp only[zah,beq_iff_eq,zaZ] at q
   obtain⟨⟨⟨⟨⟨rfl,rfl⟩,Jf⟩,ht⟩,aE⟩,vF⟩:=q
   obtain⟨nm,bs,mro,ns,qn,hd,sn,sub,ab,col,del⟩:=cd
   dsimp only at hm Jf aE vF
   subst hm Jf
   obtain⟨sl⟩:=sl
   have wB:sl=_:=hs
   subst wB
   exact⟨bm,ns,nm,qn,bs,hd,sn,sub,ab,col,dd,k0,k1,k2,k3,k5,_,X _ _ ho, .of_isNs<|isNs_of_in X aE,nsMap_none_of_in X aE vF,tail_of_in X ht⟩
  ·cases q
 ·cases q
end
namespace B
end B
end L2
namespace L2.B
open PySem PySem.Spec PyProof.Rows
def Jg(v:V)(lo hi:Int)(H:Hp):Prop:=pj v H\/ ∃i,v= .int i/\(i<lo\/hi<i)
def Bz:Sp:=fun vs H Q E=> ∃(v:V) (lo hi:Int),vs=[v, .int lo, .int hi]/\((∃i,v= .int i/\lo<=i/\i<=hi/\Q (.bl true) H)\/(Jg v lo hi H/\Q (.bl false) H))
theorem WS{K:Frag}(vs:List V)(H:Hp)(Q:VK)(E:XK)(h:Bz vs H Q E):ax (aS K [("is_whole",nA)] [] (E:=E)) GH (Dn Q) (start GG vs) H:=by
 have chain: ∀(i lo hi:Int) (b:Bool) (H:Hp),decide (lo<=i/\i<=hi)=b->Q (.bl b) H->af (aS K [("is_whole",nA)] [] (E:=E)) (.sD .LtE .LtE (.v 1) (.v 0)<|.v 2) [some<|.int i,some<|.int lo,some<|.int hi] H Q:=by
  intro i lo hi b H hb q
  refine⟨_,rfl,_,rfl,trivial,_,rfl, ?_⟩
  refine mJ (fun h1=> ?_)<|fun h1=> ?_
  ·refine⟨_,rfl,trivial, ?_⟩
   have lK:lo<=i:=of_decide_eq_true h1
   have e:decide (i<=hi)=b:=by rw[<-hb];simp[lK]
   show Q (.bl<|decide<|i<=hi) H
   rw[e];exact q
  ·have lK: ¬lo<=i:=fun z=>h1 (zqT z)
   have e:b=false:=by rw[<-hb];simp[lK]
   have e2:decide (lo<=i)=false:=zqF lK
   rw[e] at q
   first
    | exact q
    | (show Q (.bl<|decide<|lo<=i) H;rw[e2];exact q)
 obtain⟨v,lo,hi,rfl,⟨i,rfl,h1,h2,q⟩ | ⟨hn | ⟨i,rfl,hb⟩,q⟩⟩:=h
 ·exact⟨_,rfl,_,rfl, .inl ⟨i,rfl,_,rfl,fI<|chain i lo hi true H (by simp[h1,h2]) q⟩⟩
 ·exact⟨_,rfl,_,rfl, .inr ⟨hn,_,rfl,gE q⟩⟩
 ·exact⟨_,rfl,_,rfl, .inl ⟨i,rfl,_,rfl,fI<|chain i lo hi false H (by rw[zqF];rintro⟨a,b⟩;lia) q⟩⟩
end L2.B
namespace L2
open PySem PySem.Spec PyProof.Rows
section
variable {Γ:aQ} {D:Ends} {σ:St} {H:Hp} {r:List RS} {Q:VK} {QA:List V->Hp->Prop} {QT:Bool->Hp->Prop}
theorem iE{K:Frag}{b:Bool}{QB:Bool->Prop}(h:QB b):jY K (.bl b) H QB:=h
theorem iG{a:RE}(h:bu Γ a σ H fun b H1=>QT (!b) H1):bu Γ (.not a) σ H QT:=h
theorem jG{j:Nat}{as:List RE}(sp:Sp)(hs:Γ.fs j=sp)(h:aY Γ as σ H fun vs H1=>sp vs H1 (fun x H2=>jY Γ.K x H2 fun b=>QT b H2) Γ.E):bu Γ (.call j as) σ H QT:=by
 subst hs
 show aY Γ as σ H fun vs H1=>Γ.fs j (vs++ []) H1 (fun x H2=>jY Γ.K x H2 fun b=>QT b H2) Γ.E
 have e:(fun(vs:List V) (H1:Hp)=>Γ.fs j (vs++ []) H1 (fun x H2=>jY Γ.K x H2 fun b=>QT b H2) Γ.E)=fun vs H1=>Γ.fs j vs H1 (fun x H2=>jY Γ.K x H2 fun b=>QT b H2) Γ.E:=by
  funext vs H1;rw[zaf]
 rw[e];exact h
theorem qZ{a b:RE}(h:bu Γ a σ H fun c H1=>if c=true then QT true H1 else bu Γ b σ H1 QT):bu Γ (.or [a,b]) σ H QT:=h
theorem nI{a b:RE}(h:bu Γ a σ H fun c H1=>if c=true then bu Γ b σ H1 QT else QT false H1):bu Γ (.and [a,b]) σ H QT:=h
end
end L2
namespace L2.B
open PySem PySem.Spec PyProof.Rows
section
variable {Γ:aQ} {σ:St} {H:Hp} {Q:VK} {QT:Bool->Hp->Prop} {K:Frag}
theorem tV{a b:RE}{r:List RE}(h:bu Γ a σ H fun c H1=>if c=true then QT true H1 else bu Γ (.or (b::r)) σ H1 QT):bu Γ (.or (a::b::r)) σ H QT:=h
theorem xb{a:RE}(h:bu Γ a σ H QT):bu Γ (.or [a]) σ H QT:=h
theorem pK{a b:RE}{r:List RE}(h:bu Γ a σ H fun c H1=>if c=true then bu Γ (.and (b::r)) σ H1 QT else QT false H1):bu Γ (.and (a::b::r)) σ H QT:=h
theorem Jh{a:RE}(h:bu Γ a σ H QT):bu Γ (.and [a]) σ H QT:=h
theorem BA{T:Ty}{a:RE}(h:af Γ a σ H fun x H1=>bF T x H1 fun b=>QT b H1):bu Γ (.dW T a) σ H QT:=by
 show gG Γ.K (gg (jZ T)<|dU (af Γ a)<|dU (tC<|.ty T.nm) iR) σ H QT
 have e: ∀(q:VK),(fun(x:V) (H1:Hp)=>bF T x H1 fun b=>q (.bl b) H1)=fun x H1=>jZ T [x, .ty T.nm] H1 q:=by
  intro q;funext x H1;simp[jZ]
 show af Γ a σ H fun x H1=>jZ T [x, .ty T.nm] H1 fun v H2=>jY Γ.K v H2 fun b=>QT b H2
 rw[<-e];exact h
theorem gu{sd:Addr->List (Key×V)->Prop}{a:Addr}{xs:List V}{i:Int}{v:V}(h:H a=some (.tup xs))(e:fG xs i=some v)(q:Q v H):mP K sd (.ref a) (.int i) H Q:=
 .inr (.inl ⟨_,_,_,_,rfl,rfl,aG.of h,e,q⟩)
theorem l_{x y:Int}(q:Q (.bl<|decide<|x=y) H):cY K .Eq (.int x) (.int y) H Q:=by
 show Q (.bl<|false ^^ decide (V.int x=V.int y)) H
 rw[zaM,show decide (V.int x=V.int y)=decide (x=y) from decide_eq_decide.mpr ⟨fun z=>by injection z,fun z=>by rw[z]⟩];exact q
theorem xf{x y:Int}(q:Q (.bl<|!decide (x=y)) H):cY K .NotEq (.int x) (.int y) H Q:=by
 show Q (.bl<|true ^^ decide (V.int x=V.int y)) H
 rw[zaS,show decide (V.int x=V.int y)=decide (x=y) from decide_eq_decide.mpr ⟨fun z=>by injection z,fun z=>by rw[z]⟩];exact q
theorem iH{i j:Int}(h:Q (.int<|i+j) H):qr K .Add (.int i) (.int j) H Q:=h
end
end L2.B
namespace L2.N
open PySem PySem.Spec PyProof.Rows L2.B
end L2.N
namespace L2.N
open PySem PySem.Spec L2.B
theorem cU{Γ:aQ}{D:Ends}{σ:St}{H:Hp}{r:List RS}(h:ax Γ r D σ H):ax Γ [] {D with nx:=ax Γ r D} σ H:=h
end L2.N
namespace L2.B
open PySem PySem.Spec PyProof.Rows
end L2.B
namespace L2.N
open PySem PySem.Spec L2.B
section
variable {Γ:aQ} {D:Ends} {σ:St} {H:Hp} {r:List RS} {Q:VK}
theorem xg{x:RE}(A B:VK)(dw: ∀v H1,A v H1↔B v H1)(ha:af Γ x σ H A):af Γ x σ H B:=by
 have:A=B:=funext fun x=>funext fun H1=>propext (dw x H1)
 rw[<-this];exact ha
theorem Ji{j:Nat}{m:Str}{o a b:RE}(C:Addr)(sp:Sp)(hm:Γ.ms j=(C,sp))(h:af Γ o σ H fun x H1=> ∃p dx fs,x= .ref p/\H1 p=some (.ins C dx fs)/\fs.lookup m=none/\af Γ a σ H1 fun y H2=>af Γ b σ H2 fun z H3=>sp [x,y,z] H3 Q Γ.E):af Γ (.bK j m o [a,b]) σ H Q:=by
 show oj (Γ.ms j).1 m (Γ.ms j).2 [] Γ.E (af Γ o) (aY Γ [a,b]) σ H Q
 rw[hm];exact h
theorem dR{x:RE}(h:af Γ x σ H fun v H1=>r_ Γ.K v H1 fun n=>Q (.int n) H1):af Γ (.blt .len [x]) σ H Q:=h
end
section
variable {Γ:aQ} {D:Ends} {σ:St} {H:Hp} {r:List RS} {Q:VK} {QT:Bool->Hp->Prop}
theorem nJ{o e:RE}{f:Str}(h:af Γ e σ H fun v H1=>af Γ o σ H1 fun x H2=> ∃a C dx fs,x= .ref a/\H2 a=some (.ins C dx fs)/\fF Γ.K C/\eY Γ.K C f/\fs.length<1000/\ax Γ r D σ (upd H2 a<|.ins C dx<|bM f v fs)):ax Γ (.fW o f e::r) D σ H:=h
end
theorem Jj{Γ:aQ}{D:Ends}{σ:St}{H:Hp}{r body:List RS}{i:Nat}{x:RE}(h:af Γ x σ H fun v H1=> ∃a,v= .ref a/\(∃xs,aq Γ.K H1 a xs)/\ ∃W:Nat->Nat->St->Hp->Prop,(∃m,W 0 m σ H1)/\ ∀j m σ H,W j m σ H->
  ((eP Γ.K a).stop j H/\({D with nx:=ax Γ r D}:Ends).nx σ H)\/((eP Γ.K a).go j H/\ ∃N:St->Hp->Prop,(∀σ' H',N σ' H'-> ∃m',m'<m/\W (j+1) m' σ' H')/\ ∀x H',(eP Γ.K a).gf j H x H'->fE i x σ H' fun σ2 H2=>ax Γ body {({D with nx:=ax Γ r D}:Ends) with nx:=N,ct:=N,bk:=({D with nx:=ax Γ r D}:Ends).nx} σ2 H2)):
  ax Γ (.jy i .list [x] body::r) D σ H:=xg (x:=x) _ _ (fun _ _=>Iff.rfl) h
theorem Jk:(("keep":Str)==("cut":Str))=false:=by decide+kernel
theorem WT:(("put":Str)==("cut":Str))=false:=by decide+kernel
theorem Jl:(("cut":Str)==("cut":Str))=true:=by decide+kernel
theorem xh{l r:List Nat}{n:Int}{ps:List Pt}(h:Run l (.keep n::ps) r): ∃a l' r',l=a++l'/\r=a++r'/\n=a.length/\Run l' ps r':=by
 cases h with | keep e h=>exact⟨_,_,_,rfl,rfl,e,h⟩
theorem BB{l r:List Nat}{s:Str}{ps:List Pt}(h:Run l (.put s::ps) r): ∃r',r=s.cps.toList++r'/\Run l ps r':=by
 cases h with | put h=>exact⟨_,rfl,h⟩
theorem BC{l r:List Nat}{s:Str}{ps:List Pt}(h:Run l (.cut s::ps) r): ∃l',l=s.cps.toList++l'/\Run l' ps r:=by
 cases h with | cut h=>exact⟨_,rfl,h⟩
theorem WU:(("put":Str)==("put":Str))=true:=by decide+kernel
theorem WV:(("keep":Str)==("put":Str))=false:=by decide+kernel
theorem WW:(("cut":Str)==("put":Str))=false:=by decide+kernel
theorem Jm:(("keep":Str)==("keep":Str))=true:=by decide+kernel
theorem BD:(("cut":Str)==("keep":Str))=false:=by decide+kernel
theorem WX{K:Frag}(vs:List V)(H:Hp)(Q:VK)(E:XK)(h:qR vs H Q E):ax (aS K [] [] (E:=E)) GK (Dn Q) (start GJ vs) H:=by
 obtain⟨x,a,xs,ps,r,rfl,hx,ha,cN,aE,hr,Bj,q⟩:=h
 have hlen:=Paired.length cN
 refine⟨_,rfl,a,rfl,⟨_,aq.of ha⟩,mD (K:=K) (a:=a) (xs:=xs) (fun i σ H2=> ∃l1 l2 q1 q2 w v,σ=[some (.str x),some (.ref a),some (.str ⟨q1.toArray⟩),some (.int ((l1.length:Nat):Int)),w,v]/\H2=H/\
   x.cps.toList=l1++l2/\r=q1++q2/\Run l2 (ps.drop i) q2)
  ⟨[],x.cps.toList,[],r,none,none,rfl,rfl,rfl,rfl,hr⟩ (fun i σ H2 _ ⟨_,_,_,_,_,_,_,e,_⟩=>e ▸ aq.of ha) ?_ ?_⟩
 ·rintro i y σ H2 hi ⟨l1,l2,q1,q2,w,v,rfl,rfl,e1,e2,dA⟩
  obtain⟨pt,oV,b,rfl,hb⟩:=cN.get hi
  have e9:i<ps.length:=(zak.mp oV).1
  have ed:ps.drop i=pt::ps.drop (i+1):=by
   rw[zaY e9]
   congr 1
   exact zal<|(zau e9).symm.trans oV
  rw[ed] at dA
  obtain⟨la,lb,qa,qb,rfl,rfl,BE,one⟩:=HV dA
  have WY:=aE pt (zae oV)
  have Jn:q1.length+qa.length<=1000000:=by rw[e2] at Bj;simp at Bj;lia
  refine⟨b,_,rfl, .inl<|aG.of hb,rfl,_,_,rfl,_,_,rfl,rfl, ?_⟩
  cases pt with
  | put s=>
   obtain⟨rfl,rfl⟩:=one
   refine⟨_,rfl,_,rfl,_,rfl,_,rfl,bQ (by rw[len_list,len_list];exact Jn), ?_⟩
   refine⟨l1,lb,q1++s.cps.toList,qb,some<|.str "put",some<|.str s, ?_,rfl,e1,by rw[e2];simp,BE⟩
   show[_,_,some<|V.str<|⟨q1.toArray⟩++s,_,_,_]=_
   rw[show(⟨q1.toArray⟩++s:Str)=⟨(q1++s.cps.toList).toArray⟩ from i8 (by rw[app_list])]
   rfl
  | cut s=>
   obtain⟨rfl,rfl⟩:=one
   refine⟨_,rfl,_,rfl,_,rfl,_,rfl,_,rfl,_,rfl,bQ WY, ?_⟩
   refine⟨l1++s.cps.toList,lb,q1,qb,some<|.str "cut",some<|.str s, ?_,rfl,by rw[e1];simp,e2,BE⟩
   show[_,_,_,some<|V.int<|(l1.length:Int)+ (s.length:Int),_,_]=_
   rw[zqA,<-len_list,zbI]
   rfl
  | keep n=>
   obtain⟨rfl,hn⟩:=one
   refine⟨_,rfl,_,rfl,_,rfl,_,rfl, ?_⟩
   refine⟨_,rfl,_,rfl,_,rfl,_,rfl,_,rfl,_,rfl,_,rfl,bQ hx.1, ?_⟩
   rw[AX e1 n hn]
   refine⟨bQ (by rw[len_list,len_list];exact Jn), ?_⟩
   refine⟨_,rfl,_,rfl, ?_⟩
   refine⟨l1++la,lb,q1++la,qb,some<|.str "keep",some<|.int n, ?_,rfl,by rw[e1];simp,by rw[e2];simp,BE⟩
   show[_,_,some<|V.str<|⟨q1.toArray⟩++ ⟨la.toArray⟩,some<|V.int<|(l1.length:Int)+n,_,_]=_
   rw[show(⟨q1.toArray⟩++ ⟨la.toArray⟩:Str)=⟨(q1++la).toArray⟩ from i8 (by rw[app_list]),zqA,hn,zbI]
   rfl
 ·rintro σ H2 ⟨l1,l2,q1,q2,w,v,rfl,rfl,e1,e2,dA⟩
  rw[hlen,zbF] at dA
  cases dA
  rw[zaf] at e2
  subst e2
  exact⟨_,rfl,q⟩
theorem Jo{α β:Type}{R:α->β->Prop}: ∀{ps:List β} {p:β} {xs:List α},Paired R xs (ps++ [p])-> ∃ko x,xs=ko++ [x]/\Paired R ko ps/\R x p
 | [],p,_, .cons h .nil=> ⟨[],_,rfl, .nil,h⟩
 | q::ps,p,_, .cons h r=>by
  obtain⟨ko,x,e,a,b⟩:=Jo (ps:=ps) r
  exact⟨_::ko,x,by rw[e];rfl, .cons h a,b⟩
section
variable {Γ:aQ} {D:Ends} {σ:St} {H:Hp} {r:List RS} {Q:VK}
theorem jH{i:Int}(h:Q (.int<|-i) H):af Γ (.neg<|.c<|.int i) σ H Q:=h
theorem q9{o ix e:RE}(h:af Γ e σ H fun v H1=>af Γ o σ H1 fun x H2=>af Γ ix σ H2 fun y H3=>yV x y v H3 fun H4=>ax Γ r D σ H4):ax Γ (.set o ix e::r) D σ H:=h
theorem Jp{body:List RS}{is:List Nat}{x:RE}(h:af Γ x σ H fun v H1=> ∃a,v= .ref a/\(∃xs,aq Γ.K H1 a xs)/\ ∃W:Nat->Nat->St->Hp->Prop,(∃m,W 0 m σ H1)/\ ∀j m σ H,W j m σ H->
  ((eP Γ.K a).stop j H/\({D with nx:=ax Γ r D}:Ends).nx σ H)\/((eP Γ.K a).go j H/\ ∃N:St->Hp->Prop,(∀σ' H',N σ' H'-> ∃m',m'<m/\W (j+1) m' σ' H')/\ ∀x H',(eP Γ.K a).gf j H x H'->mU Γ.K is.length (lE is) x σ H' fun σ2 H2=>ax Γ body {({D with nx:=ax Γ r D}:Ends) with nx:=N,ct:=N,bk:=({D with nx:=ax Γ r D}:Ends).nx} σ2 H2)):
  ax Γ (.k_ is .list [x] body::r) D σ H:=xg (x:=x) _ _ (fun _ _=>Iff.rfl) h
end
theorem WZ{K:Frag}{H:Hp}{a b:Addr}{xs:List V}{ps:List Pt}{Q:VK}(ha:H a=some (.lst xs))(hb:H b=some (.lst []))(hx:aR H xs ps)(ho: ∀p∈ps,hZ p)(q:Q (.bl<|decide<|ps≠ []) H):
  cY K .NotEq (.ref a) (.ref b) H Q:=by
 refine⟨.list<|ps.map toD, .list [],⟨a,xs,rfl,ha,wj hx⟩,⟨b,[],rfl,hb,rfl⟩,wg ho,(by decide), ?_⟩
 have e:(true ^^ PyData.eqv (.list<|ps.map toD) (.list []))=decide (ps≠ []):=by
  cases ps with
  | nil=>rfl
  | cons p r=>rfl
 rw[e];exact q
theorem Jq{Γ:aQ}{σ:St}{H:Hp}{Q:VK}{i:Nat}{x w:Str}(mk:Str->Pt)(hw:(mk x).word=w)(hv:(mk x).val= .str x)(hσ:σ[i]?=some (some<|.str x))
  (k: ∀b H' ys,aB H H'->H b=none->H' b=some (.lst ys)->aR H' ys (B.txt mk x)->Q (.ref b) H'):
  af Γ (.bin .Mult (.lst [(.tup [(.c<|.str w),(.v i)])])<|.blt .int [(.cmp .NotEq (.v i)<|.c<|.str "")]) σ H Q:=by
 refine aV<|cP<|ay<|je<|ay<|aw<|ay<|ae hσ<|aL ⟨(by show 2<=sizeLine;decide),fun t ft=>aL ⟨(by show 1<=sizeLine;decide),fun l fl=> ?_⟩⟩
 have s1:=sameNew (o:= .tup [.str w, .str x]) ft
 have s2:=sameNew (o:= .lst [V.ref t]) fl
 refine tL<|ay<|nB<|ae hσ<|aw<|lW<|aL ?_
 show vv (.ref l) (.int (if (x !=("":Str))=true then 1 else 0)) _ Q
 by_cases hx:x=""
 ·have e:(x !=("":Str))=false:=by rw[hx];decide
  rw[e]
  refine⟨l,0,[.ref t],rfl,rfl,au,by decide,by decide,zcb rfl,fun p fp=> ?_⟩
  exact k p _ _ ((s1.trans s2).trans<|sameNew fp) ((s1.trans s2).free fp) au (by rw[hx,B.txt_nil];exact .nil)
 ·have e:(x !=("":Str))=true:=by simp[hx]
  rw[e]
  refine⟨l,1,[.ref t],rfl,rfl,au,by decide,by decide,zcb rfl,fun p fp=> ?_⟩
  refine k p _ [.ref t] ((s1.trans s2).trans<|sameNew fp) ((s1.trans s2).free fp) au ?_
  rw[B.fZ hx]
  exact .cons ⟨t,rfl,by rw[hw,hv];exact(s2.trans<|sameNew fp) _ _ au⟩ .nil
theorem W0(n:Nat):eZ (n+1) (-1)=some n:=by
 unfold eZ
 have: ¬(0:Int)<= -1:=by decide
 rw[if_neg this,if_pos (by lia)]
 congr 1
 lia
theorem BF:(("keep":Str)==("keep":Str))=true:=by decide+kernel
theorem W7:(("put":Str)==("keep":Str))=false:=by decide+kernel
def jh(a:Str):List Pt->Str
 | []=>a
 | p::r=>jh p.word r
theorem q_: ∀(F:List Pt) (a:Str) (G:List Pt),chainOk a (F++G)=(chainOk a F && chainOk (jh a F) G)
 | [],a,G=>by simp[chainOk,jh]
 | p::F,a,G=>by
  show(fi p.word a && chainOk p.word (F++G))=_
  rw[q_ F p.word G,<-Bool.and_assoc];rfl
theorem tW: ∀(F:List Pt) (a:Str) (G:List Pt),jh a (F++G)=jh (jh a F) G
 | [],a,G=>rfl
 | p::F,a,G=>tW F p.word G
structure Jr (F:List Pt):Prop where
 ok: ∀p∈F,bC p
 ch:chainOk "" F=true
 la:jh "" F=""\/jh "" F="keep"
def tl(P C:Str):List Pt:=B.txt .put P++B.txt .cut C
theorem Js{w P C:Str}(h:w=""\/w="keep"):chainOk w (tl P C)=true:=by
 unfold tl
 by_cases hp:P="" <;>by_cases hc:C=""
 ·rw[hp,hc,B.txt_nil,B.txt_nil];rfl
 ·rw[hp,B.txt_nil,B.fZ hc]
  rcases h with rfl | rfl
  ·show(fi "cut" "" && true)=true;decide+kernel
  ·show(fi "cut" "keep" && true)=true;decide+kernel
 ·rw[hc,B.txt_nil,B.fZ hp]
  rcases h with rfl | rfl
  ·show(fi "put" "" && true)=true;decide+kernel
  ·show(fi "put" "keep" && true)=true;decide+kernel
 ·rw[B.fZ hp,B.fZ hc]
  rcases h with rfl | rfl
  ·show(fi "put" "" && (fi "cut" "put" && true))=true;decide+kernel
  ·show(fi "put" "keep" && (fi "cut" "put" && true))=true;decide+kernel
theorem Jt(P C:Str):(tl P C).length<=2:=by
 unfold tl B.txt
 by_cases hp:P="" <;>by_cases hc:C="" <;>simp[hp,hc]
theorem Ju{P C:Str}(hp:good P)(hc:good C): ∀q∈tl P C,bC q:=by
 intro q hq
 unfold tl B.txt at hq
 rcases zad.mp hq with h | h
 ·by_cases z:P=""
  ·rw[if_pos z] at h;cases h
  ·rw[if_neg z] at h;rw[zac.mp h];exact⟨hp,z⟩
 ·by_cases z:C=""
  ·rw[if_pos z] at h;cases h
  ·rw[if_neg z] at h;rw[zac.mp h];exact⟨hc,z⟩
theorem Jv{l r:List Nat}{F:List Pt}{P C:Str}(h:Run l F r):Run (l++C.cps.toList) (F++tl P C) (r++P.cps.toList):=by
 have:=h.app (AW (s:=P) |>.app (HU (s:=C)))
 rw[zbg,zaf] at this
 exact this
theorem xi: ∀{F G:List Pt} {l r:List Nat},Run l (F++G) r-> ∃l1 l2 r1 r2,l=l1++l2/\r=r1++r2/\Run l1 F r1/\Run l2 G r2
 | [],G,l,r,h=> ⟨[],l,[],r,rfl,rfl, .nil,h⟩
 | .keep n::F,G,l,r,h=>by
  obtain⟨a,l',r',rfl,rfl,e,h'⟩:=xh h
  obtain⟨l1,l2,r1,r2,rfl,rfl,h1,h2⟩:=xi (F:=F) h'
  exact⟨a++l1,l2,a++r1,r2,by simp,by simp, .keep e h1,h2⟩
 | .put s::F,G,l,r,h=>by
  obtain⟨r',rfl,h'⟩:=BB h
  obtain⟨l1,l2,r1,r2,rfl,rfl,h1,h2⟩:=xi (F:=F) h'
  exact⟨l1,l2,s.cps.toList++r1,r2,rfl,by simp, .put h1,h2⟩
 | .cut s::F,G,l,r,h=>by
  obtain⟨l',rfl,h'⟩:=BC h
  obtain⟨l1,l2,r1,r2,rfl,rfl,h1,h2⟩:=xi (F:=F) h'
  exact⟨s.cps.toList++l1,l2,r1,r2,by simp,rfl, .cut h1,h2⟩
theorem BG{l r:List Nat}(h:Run l [] r):l=[]/\r=[]:=by cases h;exact⟨rfl,rfl⟩
theorem xj{c:List Nat}{n:Int}(h:n=c.length):Run c [.keep n] c:=by
 have:=Run.keep (a:=c) h Run.nil
 rw[zaf] at this;exact this
theorem BH(F:List Pt):(∃F' m,F=F'++ [.keep m])\/((jh "" F=""\/jh "" F="put"\/jh "" F="cut")/\ ∀n,cO F n=F++ [.keep n]):=by
 rcases List.eq_nil_or_concat F with rfl | ⟨F',p,hF⟩
 ·exact .inr ⟨.inl rfl,fun n=>rfl⟩
 ·rw[List.concat_eq_append] at hF
  subst hF
  cases p with
  | keep m=>exact .inl ⟨F',m,rfl⟩
  | put z=>exact .inr ⟨.inr<|.inl (by rw[tW];rfl),fun n=>tm fun q hq=>by rw[zcc] at hq;cases hq;rfl⟩
  | cut z=>exact .inr ⟨.inr<|.inr (by rw[tW];rfl),fun n=>tm fun q hq=>by rw[zcc] at hq;cases hq;rfl⟩
theorem W8{F:List Pt}{l r c:List Nat}{n:Int}(h:Run l F r)(hn:n=c.length):Run (l++c) (cO F n) (r++c):=by
 rcases BH F with⟨F',m,rfl⟩ | ⟨_,e⟩
 ·rw[tw]
  obtain⟨l1,l2,r1,r2,rfl,rfl,h1,h2⟩:=xi h
  obtain⟨a,l',r',rfl,rfl,e,h'⟩:=xh h2
  obtain⟨rfl,rfl⟩:=BG h'
  rw[zaf,zai,zai]
  exact h1.app<|xj (by rw[zqA,e,hn];lia)
 ·rw[e];exact h.app (xj hn)
theorem W9{F:List Pt}{n:Int}(h: ∀p∈F,bC p)(hc:chainOk "" F=true)(hn:1<=n):Jr (cO F n):=by
 rcases BH F with⟨F',m,rfl⟩ | ⟨hw,e⟩
 ·rw[tw]
  rw[q_] at hc
  have hm:1<=m:=h (.keep m) (by simp)
  refine⟨fun p hp=> ?_, ?_, .inr (by rw[tW];rfl)⟩
  ·rcases zad.mp hp with q | q
   ·exact h p (by simp[q])
   ·rw[zac.mp q];show 1<=n+m;lia
  ·rw[q_];exact hc
 ·rw[e]
  refine⟨fun p hp=> ?_, ?_, .inr (by rw[tW];rfl)⟩
  ·rcases zad.mp hp with q | q
   ·exact h p q
   ·rw[zac.mp q];exact hn
  ·rw[q_,hc]
   show(true && (fi "keep" (jh "" F) && true))=true
   rcases hw with z | z | z<;>rw[z] <;>decide+kernel
theorem W_{p:Pt}(h:bC p):hZ p:=by
 cases p with
 | keep n=>trivial
 | put s=>exact h.1.2
 | cut s=>exact h.1.2
theorem Jw{Γ:aQ}{D:Ends}{w wd va:Option V}{f:Addr}{P C:Str}{H:Hp}{ys:List V}{F:List Pt}{rest:List RS}(hf:H f=some (.lst ys))(pv:aR H ys F)(hl:F.length<=900000)
  (k: ∀f' H' de,aB H H'->H f'=none->H' f'=some (.lst de)->aR H' de (F++tl P C)->ax Γ rest D [w,some<|.ref f',some<|.str "",some<|.str "",wd,va] H'):
  ax Γ (.asg 1 (.bin .Add (.bin .Add (.v 1) (.bin .Mult (.lst [(.tup [(.c (.str "put")),(.v 2)])]) (.blt .int [(.cmp .NotEq (.v 2) (.c (.str "")))]))) (.bin .Mult (.lst [(.tup [(.c (.str "cut")),(.v 3)])]) (.blt .int [(.cmp .NotEq (.v 3) (.c (.str "")))])))::
   .asg 2 (.c (.str "")):: .asg 3 (.c (.str ""))::rest) D [w,some (.ref f),some (.str P),some (.str C),wd,va] H:=by
 have lf:=Paired.length pv
 refine ba<|aV<|aV<|ae rfl<|Jq .put rfl rfl rfl fun b1 H1 y1 s1 n1 h1 p1=> ?_
 have l1:=Paired.length p1
 have g1:(B.txt .put P).length<=1:=by unfold B.txt;by_cases z:P="" <;>simp[z]
 refine .inl ⟨f,b1,ys,y1,rfl,rfl,s1 _ _ hf,h1,bQ (by lia),fun b2 n2=> ?_⟩
 have s2:=sameNew (o:= .lst (ys++y1)) n2
 refine Jq .cut rfl rfl rfl fun b3 H3 y3 s3 n3 h3 p3=> ?_
 have l3:=Paired.length p3
 have g3:(B.txt .cut C).length<=1:=by unfold B.txt;by_cases z:C="" <;>simp[z]
 refine .inl ⟨b2,b3,ys++y1,y3,rfl,rfl,s3 _ _ au,h3,bQ (by rw[zqA];lia),fun b4 n4=> ?_⟩
 have s4:=sameNew (o:= .lst (ys++y1++y3)) n4
 have xk:=s1.trans (s2.trans<|s3.trans s4)
 refine ba<|aw<|ba<|aw ?_
 refine k b4 _ (ys++y1++y3) xk ((s1.trans<|s2.trans s3).free n4) au ?_
 unfold tl
 rw[<-zai]
 exact B.Paired.app (B.Paired.app (pv.mono<|dr xk)<|aR.mono (dr<|s2.trans<|s3.trans s4) p1)<|aR.mono (dr s4) p3
theorem Xa:(("end":Str)==("put":Str))=false:=by decide+kernel
theorem Xb:(("end":Str)==("cut":Str))=false:=by decide+kernel
theorem Jx:(("end":Str)==("keep":Str))=false:=by decide+kernel
theorem iI{K:Frag}{H:Hp}{Q:VK}{x y:Int}(q:Q (.bl<|decide<|y<x) H):cY K .Gt (.int x) (.int y) H Q:=⟨trivial,q⟩
theorem xl{x:Str}(h:sg x)(hl:x.length<=1000000):good x:=⟨hl,h⟩
section
variable {Γ:aQ} {D:Ends} {H H2:Hp} {a w2 e:Addr} {xs:List V} {l r:List Nat} {ps:List Pt} {i:Nat} {σ:St}
end
section
variable {Γ:aQ} {D:Ends} {σ:St} {H:Hp} {r:List RS} {Q:VK}
theorem BI{a lo hi:RE}(h:af Γ a σ H fun x H1=>af Γ lo σ H1 fun i H2=> ∃i':Int,i= .int i'/\af Γ hi σ H2 fun j H3=> ∃j':Int,j= .int j'/\qu Γ.K x (some i') (some j') H3 Q):af Γ (.sl a (some lo)<|some hi) σ H Q:=h
theorem BJ{body:List RS}{i:Nat}{x:RE}(h:af Γ x σ H fun v H1=> ∃n:Int,[v]=[.int n]/\ -(2 ^ 62)<=n/\n<2 ^ 62/\ ∃W:Nat->Nat->St->Hp->Prop,(∃m,W 0 m σ H1)/\ ∀j m σ H,W j m σ H->
  ((jT 0 n.toNat).stop j H/\({D with nx:=ax Γ r D}:Ends).nx σ H)\/((jT 0 n.toNat).go j H/\ ∃N:St->Hp->Prop,(∀σ' H',N σ' H'-> ∃m',m'<m/\W (j+1) m' σ' H')/\ ∀x H',(jT 0 n.toNat).gf j H x H'->fE i x σ H' fun σ2 H2=>ax Γ body {({D with nx:=ax Γ r D}:Ends) with nx:=N,ct:=N,bk:=({D with nx:=ax Γ r D}:Ends).nx} σ2 H2)):
  ax Γ (.jy i .gX [x] body::r) D σ H:=xg (x:=x) _ _ (fun _ _=>Iff.rfl) h
theorem Xd{i:Nat}{b0:Addr}{w:Str}{e:RE}{ys:List V}(hσ:σ[i]?=some (some<|.ref b0))(hb:H b0=some (.lst ys))(h:af Γ e σ H fun v H1=>2<=sizeLine/\ ∀t,H1 t=none-> ∃zs,upd H1 t (.tup [.str w,v]) b0=some (.lst zs)/\zs.length<sizeLine/\ax Γ r D σ (upd (upd H1 t<|.tup [.str w,v]) b0<|.lst<|zs++ [.ref t])):
  ax Γ (.drop (.bg .append (.v i) [(.tup [(.c<|.str w),e])])::r) D σ H:=
 dH (fP<|ae hσ ⟨.inl ⟨rfl,_,aq.of hb⟩,je<|ay<|aw<|ay<|xg (x:=e) _ _ (fun _ _=>Iff.rfl) h⟩)
end
theorem push{H H1:Hp}{b0:Addr}{ys:List V}{ps:List Pt}{p:Pt}{w:Str}{v:V}{R:Hp->Prop}(s:aB H H1)(hb:H b0=some (.lst ys))(pv:aR H ys ps)(hl:ps.length<=900000)(hw:p.word=w)(hv:p.val=v)(k: ∀H' de,aF b0 H H'->H' b0=some (.lst de)->aR H' de (ps++ [p])->R H'):
  2<=sizeLine/\ ∀t,H1 t=none-> ∃zs,upd H1 t (.tup [.str w,v]) b0=some (.lst zs)/\zs.length<sizeLine/\R (upd (upd H1 t<|.tup [.str w,v]) b0<|.lst<|zs++ [.ref t]):=by
 refine⟨by decide,fun t ft=> ?_⟩
 have s2:=s.trans (sameNew (o:= .tup [.str w,v]) ft)
 have lx:=Paired.length pv
 have bb:aF b0 H (upd (upd H1 t<|.tup [.str w,v]) b0<|.lst<|ys++ [.ref t]):=fun b o e ne=>by rw[aN ne];exact s2 _ _ e
 have nt:t≠b0:=fun z=>by rw[z,s _ _ hb] at ft;cases ft
 refine⟨ys,s2 _ _ hb,dY (by lia),k _ _ bb au ?_⟩
 exact B.Paired.app (pv.mono<|bb.bz hb)<|.cons ⟨t,rfl,by rw[aN nt,au,hw,hv]⟩ .nil
theorem ltI{K:Frag}{H:Hp}{Q:VK}{x y:Int}(q:Q (.bl<|decide<|x<y) H):cY K .Lt (.int x) (.int y) H Q:=⟨trivial,q⟩
theorem xn{Γ:aQ}{σ:St}{H:Hp}{Q:VK}{t a b:RE}(h:bu Γ t σ H fun c H1=>if c=true then af Γ a σ H1 Q else af Γ b σ H1 Q):af Γ (.iW t a b) σ H Q:=h
section
variable {K:Frag} {CP C:Addr}
end
section
variable {K:Frag} {CP C:Addr}
end
end L2.N
namespace L2
open PySem PySem.Spec PyProof.Rows
theorem Xe{Γ:aQ}{D:Ends}{σ:St}{H:Hp}{r:List RS}{is:List Nat}{e:RE}(h:af Γ e σ H fun x H1=>mU Γ.K is.length (lE is) x σ H1 (ax Γ r D)):ax Γ (.sE is e::r) D σ H:=h
end L2
namespace L2.B
open PySem PySem.Spec PyProof.Rows
section
variable {H:Hp} {Q:VK} {E:XK}
end
end L2.B
namespace L2.N
open PySem PySem.Spec L2.B
section
variable {K:Frag} {CP C:Addr} {H H':Hp} {p dp s dx lt lb lf:Addr} {v:V} {t:Tr} {ts:List Str} {x:Str}
end
section
variable {K:Frag} {H:Hp} {Q:VK}
end
theorem Xf(xs:List V)(i j:Nat):du xs (some (i:Int)) (some (j:Int))=(xs.drop i).take (j - i):=by
 unfold du
 rw[HT.mH,HT.mH]
 by_cases h:i<=xs.length
 ·by_cases h2:j<=xs.length
  ·rw[show min i xs.length=i by lia,show min j xs.length=j by lia]
  ·rw[show min i xs.length=i by lia,show min j xs.length=xs.length by lia,zaG (by rw[zaB];lia),zaG (by rw[zaB];lia)]
 ·rw[zca (by lia),zca (by lia),zbG,zbG]
section
variable {K:Frag} {H:Hp} {Q:VK} {Γ:aQ} {σ:St} {D:Ends}
theorem tX{a b:RE}{r:List RE}(h:af Γ a σ H fun x H1=> ∃c,x= .bl c/\if c=true then af Γ (.and (b::r)) σ H1 Q else Q (.bl false) H1):af Γ (.and (a::b::r)) σ H Q:=h
theorem xo{a:RE}(h:af Γ a σ H Q):af Γ (.and [a]) σ H Q:=h
end
def gV:Option Nat->V
 | none=> .aC
 | some n=> .int n
def Jy(H:Hp)(t:Addr)(a h:Nat)(g:Option Nat):Prop:=H t=some (.tup [.int a, .int h,gV g])
section
variable {K:Frag}
end
section
variable {K:Frag} {CP C:Addr} {H:Hp} {Q:VK} {Γ:aQ} {σ:St}
end
section
variable {K:Frag} {CP C:Addr}
end
theorem BK{Γ:aQ}{σ:St}{Q:VK}{H:Hp}{a hi:RE}(h:af Γ a σ H fun x H1=>af Γ hi σ H1 fun j H3=> ∃j':Int,j= .int j'/\qu Γ.K x none (some j') H3 Q):af Γ (.sl a none<|some hi) σ H Q:=h
theorem Jz(xs:List V)(n:Nat):du xs none (some (n:Int))=xs.take n:=by
 unfold du
 rw[HT.yP,HT.mH]
 show(xs.drop 0).take (min n xs.length - 0)=_
 rw[zbl,Nat.sub_zero]
 by_cases h:n<=xs.length
 ·rw[Nat.min_eq_left h]
 ·rw[Nat.min_eq_right (by lia),zaG<|zqR _,zaG (by lia)]
section
variable {K:Frag}
section
variable {Γ:aQ} {D:Ends} {H:Hp} {r:List RS} {x:Str} {u2 u3 u4:Option V}
end
theorem Xg{Γ:aQ}{D:Ends}{σ:St}{H:Hp}{r:List RS}{i:Nat}{e:RE}(h:af Γ e σ H fun v H1=>ax Γ r D (σ.set i<|some v) H1):ax Γ (.vz i e::r) D σ H:=h
end
section
variable {K:Frag}
def gD:Option Nat->PyData
 | none=> .none
 | some n=> .int n
theorem Xh(H:Hp)(g:Option Nat):Is H (gD g) (gV g):=by cases g<;>rfl
theorem Xi{H:Hp}{t:Addr}{a h:Nat}{g:Option Nat}(ht:Jy H t a h g):Is H (.tuple [.int a, .int h,gD g]) (.ref t):=⟨t,_,rfl,ht, .int a,[.int h,gV g],rfl,rfl, .int h,[gV g],rfl,rfl,gV g,[],rfl,Xh H g,rfl⟩
end
abbrev Cu:=Nat×Nat×Option Nat
def Xj(H:Hp)(v:V)(c:Cu):Prop:= ∃t,v= .ref t/\Jy H t c.1 c.2.1 c.2.2
abbrev BL(H:Hp):List V->List Cu->Prop:=Paired (Xj H)
section
variable {K:Frag}
end
theorem BM{α:Type}{l:List α}{i:Nat}{x:α}(h:l[i]?=some x):l.take (i+1)=l.take i++ [x]:=by
 have aK:i<l.length:=(zak.mp h).1
 rw[List.take_succ_eq_append_getElem aK,(zak.mp h).2]
section
variable {K:Frag}
end
section
variable {K:Frag}
end
section
variable {K:Frag}
end
theorem Xk{K:Frag}{σ:St}{H:Hp}{QQ:List V->Hp->Addr->Prop}{te:TE}{fv:List (Str×Nat)}{a b:Addr}{xs ys:List V}(ha:H a=some (.lst xs))(hb:H b=some (.lst ys))(hl:xs.length<=1000000)(P:Nat->List V->Hp->Prop)(p0:P 0 [] H)(pm: ∀i zs H2 H3,P i zs H2->aB H2 H3->P i zs H3)
  (step: ∀i x y zs H2,xs[i]?=some x->ys[i]?=some y->aB H H2->P i zs H2-> ∀Q':VK,(∀z H3,aB H2 H3->P (i+1) (zs++ [z]) H3->Q' z H3)->te (some x::some y::cL σ fv) H2 Q')
  (fin: ∀zs H2 p,aB H H2->P (min xs.length ys.length) zs H2->H2 p=none->QQ zs H2 p): ∃W:Nat->Nat->List V->Hp->Prop,(∃m,W 0 m [] H)/\ ∀i m zs H2,W i m zs H2->
   ((jz K a b).stop i H2/\ ∀p,H2 p=none->QQ zs H2 p)\/
   ((jz K a b).go i H2/\ ∀x H3,(jz K a b).gf i H2 x H3->jW K (some 2) x H3 fun ws=>oF none (ws.map some++cL σ fv) H3 fun b H5=>
    if b=true then te (ws.map some++cL σ fv) H5 fun y H6=>zs.length<sizeLine/\ ∃m',m'<m/\W (i+1) m' (zs++ [y]) H6 else ∃m',m'<m/\W (i+1) m' zs H5):=by
 refine⟨fun i m zs H2=>m=min xs.length ys.length - i/\i<=min xs.length ys.length/\zs.length=i/\aB H H2/\P i zs H2,⟨_,rfl,zqZ _,rfl,aB.refl _,p0⟩, ?_⟩
 rintro i m zs H2 ⟨rfl,hi,hy,s,p⟩
 by_cases aK:i<min xs.length ys.length
 ·have h1:i<xs.length:=by lia
  have h2:i<ys.length:=by lia
  refine .inr ⟨⟨xs,ys,aq.of<|s _ _ ha,aq.of<|s _ _ hb,h1,h2⟩, ?_⟩
  rintro x H3 ⟨T,hT,rfl,hx⟩
  have kW:=hx xs ys xs[i] ys[i] (aq.of<|s _ _ ha) (aq.of<|s _ _ hb) (zau h1) (zau h2)
  subst kW
  have s3:=sameNew (o:= .tup [xs[i],ys[i]]) hT
  refine⟨T,_,rfl,aG.of au,rfl, ?_⟩
  exact step i xs[i] ys[i] zs _ (zau h1) (zau h2) (s.trans s3) (pm _ _ _ _ p s3) _ fun y H4 s4 p4=> ⟨dY (by lia),min xs.length ys.length - (i+1),by lia,rfl,aK,by simp[hy],(s.trans s3).trans s4,p4⟩
 ·have iz:i=min xs.length ys.length:=by lia
  subst iz
  exact .inl ⟨⟨xs,ys,aq.of<|s _ _ ha,aq.of<|s _ _ hb,rfl⟩,fun q hq=>fin zs _ q s p hq⟩
section
variable {K:Frag}
end
section
variable {K:Frag}
end
section
variable {K:Frag}
def cD(c:Cu):PyData:= .tuple [.int (c.1:Nat), .int (c.2.1:Nat),gD c.2.2]
theorem Xl(c:Cu):(cD c).canLay0=true/\(cD c).depth<=1:=by
 obtain⟨a,h,g⟩:=c
 cases g<;>exact⟨rfl,zqR _⟩
theorem JA: ∀(cs:List Cu),PyData.canLayAll0 (cs.map cD)=true/\PyData.depthAll (cs.map cD)<=1
 | []=> ⟨rfl,zqZ _⟩
 | g::r=>by
  obtain⟨a,b⟩:=Xl g
  obtain⟨c,d⟩:=JA r
  refine⟨?_, ?_⟩
  ·show((cD g).canLay0 && PyData.canLayAll0 (r.map cD))=true
   rw[a,c];rfl
  ·show max (cD g).depth (PyData.depthAll<|r.map cD)<=1
   lia
theorem BN(cs:List Cu):SeqAt.shaped (.list<|cs.map cD)=true:=by
 obtain⟨c,d⟩:=JA cs
 unfold SeqAt.shaped
 have e:(PyData.list<|cs.map cD).canLay0=true:=c
 have e2:(PyData.list<|cs.map cD).depth<=64:=by show PyData.depthAll (cs.map cD)+1<=64;lia
 rw[e,zqT e2];rfl
theorem BO{H:Hp}: ∀{zs:List V} {cs:List Cu},BL H zs cs->IsL H (cs.map cD) zs
 | [],[], .nil=>rfl
 | z::zs,c::cs, .cons x r=>by
  obtain⟨t,rfl,h1⟩:=x
  exact⟨_,_,rfl,Xi h1,BO r⟩
theorem Xm{H:Hp}{Q:VK}{a b:Addr}{xs ys:List V}{cs:List Cu}(ha:H a=some (.lst xs))(hb:H b=some (.lst ys))(hx:BL H xs cs)(hy:BL H ys cs)(q:Q (.bl true) H):cY K .Eq (.ref a) (.ref b) H Q:=by
 refine⟨.list<|cs.map cD, .list<|cs.map cD,⟨a,xs,rfl,ha,BO hx⟩,⟨b,ys,rfl,hb,BO hy⟩,BN cs,BN cs, ?_⟩
 rw[SeqAt.eqv_refl _<|SeqAt.canLay_of_shaped<|BN cs];exact q
section
variable {Γ:aQ} {σ:St} {n:Nat}
end
end
section
variable {Γ:aQ} {σ:St} {n:Nat} {H0:Hp}
theorem JB{Q:VK}{H:Hp}{a lo:RE}(h:af Γ a σ H fun x H1=>af Γ lo σ H1 fun j H3=> ∃j':Int,j= .int j'/\qu Γ.K x (some j') none H3 Q):af Γ (.sl a (some lo) none) σ H Q:=h
theorem Xn{Q:VK}{H:Hp}{as:List RE}(h:aY Γ as σ H fun vs H1=>v3 Γ.K vs H1 Q):af Γ (.xt Aw as) σ H Q:=h
theorem BP(xs:List V)(i:Nat):du xs (some (i:Int)) none=xs.drop i:=by
 unfold du
 rw[HT.mH,HT.yP]
 by_cases z:i<=xs.length
 ·rw[Nat.min_eq_left z,zaG (by rw[zaB];lia)]
 ·rw[Nat.min_eq_right (by lia),List.drop_eq_nil_of_le<|zqR _,List.drop_eq_nil_of_le (by lia),zbG]
end
theorem JC{s:Str}(h:s.length=0):s="":=by
 have e:s.cps.toList=[]:=zck (by rw[<-len_list];exact h)
 exact i8 (by rw[e];rfl)
theorem pL: ∀(ps:List Pt) (a:Str),(∀p∈ps,bC p)->chainOk a ps=true->ps.length<=2*B.aA ps+ (if a="keep" then 0 else 1)
 | [],a,_,_=>zqZ _
 | p::r,a,ho,hc=>by
  have eF:(fi p.word a && chainOk p.word r)=true:=hc
  rw[zah] at eF
  have ih:=pL r p.word (fun q hq=>ho q<|.tail _ hq) eF.2
  have ht:B.aA (p::r)=B.dy p+B.aA r:=by simp[B.aA]
  have hp:=ho p (.head _)
  rw[zao,ht]
  cases p with
  | keep n=>
   have e:(Pt.keep n).word=("keep":Str):=rfl
   rw[e,if_pos rfl] at ih
   have ha:a≠"keep":=by
    intro z
    rw[e,z] at eF
    have:=eF.1
    revert this
    decide+kernel
   rw[if_neg ha]
   show r.length+1<=2* (0+B.aA r)+1
   lia
  | put s=>
   have e:(Pt.put s).word≠ ("keep":Str):=by show("put":Str)≠"keep";decide
   rw[if_neg e] at ih
   have hs:1<=s.length:=by
    have:=hp.2
    by_cases z:s.length=0
    ·exact absurd (JC z) this
    ·lia
   show r.length+1<=2* (s.length+B.aA r)+_
   lia
  | cut s=>
   have e:(Pt.cut s).word≠ ("keep":Str):=by show("cut":Str)≠"keep";decide
   rw[if_neg e] at ih
   have hs:1<=s.length:=by
    have:=hp.2
    by_cases z:s.length=0
    ·exact absurd (JC z) this
    ·lia
   show r.length+1<=2* (s.length+B.aA r)+_
   lia
def cW(H:Hp):List V->List Nat->List Nat->Nat->Prop
 | [],l,r,t=>l=r/\t=0
 | v::vs,l,r,t=> ∃a ps m t',v= .ref a/\cQ H a ps l m/\cW H vs m r t'/\t=B.aA ps+t'
theorem cW.same{H H':Hp}(s:aB H H'): ∀{vs:List V} {l r:List Nat} {t:Nat},cW H vs l r t->cW H' vs l r t
 | [],_,_,_,h=>h
 | v::vs,_,_,_,⟨a,ps,m,t',e,h1,h2,h3⟩=> ⟨a,ps,m,t',e,h1.same s,cW.same s h2,h3⟩
theorem cW.app{H:Hp}: ∀{xs ys:List V} {l m r:List Nat} {t t':Nat},cW H xs l m t->cW H ys m r t'->cW H (xs++ys) l r (t+t')
 | [],_,_,_,_,_,_,⟨e,z⟩,h=>by rw[e,z,Nat.zero_add];exact h
 | v::vs,_,_,_,_,_,_,⟨a,ps,m,t',e,h1,h2,h3⟩,h=> ⟨a,ps,m,_,e,h1,cW.app h2 h,by rw[h3,Nat.add_assoc]⟩
theorem JD: ∀(xs:List V) (i:Nat),(df xs)[i]?=xs[2*i]?
 | [],i=>by simp[df]
 | [x],0=>by simp[df]
 | [x],i+1=>by
  have:2* (i+1)=(2*i+1)+1:=by lia
  rw[this]
  simp[df]
 | x::y::r,0=>by simp[df]
 | x::y::r,i+1=>by
  have:2* (i+1)=(2*i)+1+1:=by lia
  rw[this,zbD,zbD,<-JD r i]
  simp[df]
theorem BQ: ∀(xs:List V),(df xs).length=(xs.length+1) / 2
 | []=>by simp[df]
 | [x]=>by simp[df]
 | x::y::r=>by
  have e:df (x::y::r)=x::df r:=by simp[df]
  rw[e,zao,BQ r]
  show _=(r.length+1+1+1) / 2
  lia
def BR:Sp:=fun vs H Q E=> ∃(a:Addr) (xs:List V) (l r:List Nat) (t:Nat),vs=[.ref a]/\H a=some (.lst xs)/\cW H xs l r t/\1<=xs.length/\xs.length<=10000/\t<=14000/\
 ∀(c:Addr) (ps:List Pt) (H':Hp),aB H H'->cQ H' c ps l r->B.aA ps<=t->(H c=none\/xs=[.ref c])->Q (.ref c) H'
def BS(H:Hp)(xs:List V):Prop:= ∃c r,xs=V.ref c::r/\H c=none
theorem Xo{H:Hp}{xs:List V}{i:Nat}{x y:V}(hx:xs[2*i]?=some x)(hy:xs[2*i+1]?=some y):xs.drop (2*i)=x::y::xs.drop (2* (i+1)):=by
 obtain⟨h1,e1⟩:=zak.mp hx
 obtain⟨h2,e2⟩:=zak.mp hy
 rw[zaY h1,zaY h2,e1,e2,show 2* (i+1)=2*i+1+1 by lia]
section
variable {K:Frag}
theorem Xp(vs:List V)(H:Hp)(Q:VK)(E:XK)(h:BR vs H Q E):ax (aS K [("then",wZ)] [] (E:=E)) G0 (Dn Q) (start GZ vs) H:=by
 obtain⟨a0,ko,l,r,t,rfl,ha,hc,h1,h2,ht,q⟩:=h
 refine qW (fun m σ H2=> ∃(a:Addr) (xs:List V) (t2:Nat) (u1:Option V),m=xs.length/\σ=[some<|.ref a,u1]/\aB H H2/\H2 a=some (.lst xs)/\cW H2 xs l r t2/\1<=xs.length/\xs.length<=10000/\t2<=t/\(xs=ko\/BS H xs)) ⟨_,a0,ko,t,none,rfl,rfl,aB.refl _,ha,hc,h1,h2,zqR _, .inl rfl⟩ ?_
 rintro m σ H2 ⟨a,xs,t2,u1,rfl,rfl,s2,lU,cE,k1,k2,k3,k4⟩
 refine aX<|dR<|ae rfl<|.inl ⟨_,aq.of lU,aw<|N.iI ⟨_,rfl, ?_⟩⟩
 by_cases z:1<xs.length
 ·refine iT ?_ (zqT (by lia))
  refine⟨fun σ' H'=> ∃(a':Addr) (br:List V) (t3:Nat) (u1:Option V),br.length<xs.length/\σ'=[some<|.ref a',u1]/\aB H H'/\H' a'=some (.lst br)/\cW H' br l r t3/\1<=br.length/\br.length<=10000/\t3<=t/\(br=ko\/BS H br), ?_, ?_⟩
  ·rintro σ' H' ⟨a',br,t3,u1,aK,e,s',nj,eF,j1,j2,j3,j4⟩
   exact⟨_,aK,a',br,t3,u1,rfl,e,s',nj,eF,j1,j2,j3,j4⟩
  ·refine Xg ?_
   refine⟨_,rfl,a,xs,rfl,aq.of lU,(by decide),fun p1 f1=> ?_⟩
   rw[Uv]
   have s3:=sameNew (o:= .lst (df xs)) f1
   have oW:upd H2 p1 (.lst<|df xs) p1=some (.lst<|df xs):=au
   have rf:=s3 _ _ lU
   generalize upd H2 p1 (.lst<|df xs)=H3 at s3 oW rf⊢
   refine⟨_,rfl,a,xs,rfl,aq.of rf,(by decide),fun p2 f2=> ?_⟩
   rw[Uw]
   have s4:=sameNew (o:= .lst (df<|xs.drop 1)) f2
   have si:upd H3 p2 (.lst<|df<|xs.drop 1) p2=some (.lst<|df<|xs.drop 1):=au
   have BU:=s4 _ _ oW
   have JE:=s4 _ _ rf
   generalize upd H3 p2 (.lst<|df<|xs.drop 1)=H4 at s4 si BU JE⊢
   have pM:=s3.trans s4
   have Xq:=cW.same pM cE
   have JF:=BQ xs
   have BV:=BQ (xs.drop 1)
   rw[zaB] at BV
   refine⟨p1,p2,rfl,⟨_,aq.of BU⟩,⟨_,aq.of si⟩, ?_⟩
   refine Xk BU si (by lia) (fun i zs H5=>zs.length=i/\(i=0\/BS H zs)/\ ∃(m:List Nat) (t5 t6:Nat),cW H5 zs l m t5/\cW H5 (xs.drop<|2*i) m r t6/\t5+t6<=t) ⟨rfl, .inl rfl,l,0,t2,⟨rfl,rfl⟩,Xq,by lia⟩ (fun i zs H5 H6 ⟨e,nf,m,t5,t6,c1,c2,c3⟩ s=> ⟨e,nf,m,t5,t6,cW.same s c1,cW.same s c2,c3⟩) ?_ ?_
   ·intro i x y zs H5 hx hy s5 ⟨ez,nf,m,t5,t6,c1,c2,c3⟩ Q' kk
    rw[JD] at hx hy
    have rY:xs[2*i+1]?=some y:=by
     rw[List.getElem?_drop] at hy
     rw[show 2*i+1=1+2*i by lia];exact hy
    rw[Xo (H:=H5) hx rY] at c2
    obtain⟨a1,iB,m1,t7,rfl,d1,⟨a2,BW,m2,t8,rfl,d2,c4,e8⟩,e7⟩:=c2
    have n1:=pL iB "" d1.chg.ok d1.chg.ch
    have n2:=pL BW "" d2.chg.ok d2.chg.ch
    have l1:iB.length<=2*B.aA iB+1:=n1
    have l2:BW.length<=2*B.aA BW+1:=n2
    refine c7 wZ rfl<|ay<|ae rfl<|ay<|ae rfl<|aL<|WN d1 d2 (by lia) (by lia) fun c H6 ps s6 fc dc J=>kk _ _ s6 ?_
    have jt:=J.aA
    refine⟨by rw[zqA,ez];rfl, .inr ?_,m2,t5+B.aA ps,t8,cW.app (cW.same s6 c1) ⟨c,ps,m2,0,rfl,dc,⟨rfl,rfl⟩,rfl⟩,cW.same s6 c4,by lia⟩
    have xp:H c=none:=(s2.trans<|pM.trans s5).free fc
    rcases nf with rfl | ⟨c0,r0,rfl,f0⟩
    ·have:zs=[]:=zck ez
     subst this
     exact⟨c,[],rfl,xp⟩
    ·exact⟨c0,r0++ [.ref c],rfl,f0⟩
   ·intro zs H5 p5 s5 ⟨ez,nf,m,t5,t6,c1,c2,c3⟩ f5
    rw[JF,BV] at ez c2
    have en:min ((xs.length+1) / 2) ((xs.length - 1+1) / 2)=xs.length / 2:=by lia
    rw[en] at ez c2
    have s6:=sameNew (o:= .lst zs) f5
    have h5:upd H5 p5 (.lst zs) p5=some (.lst zs):=au
    have tY:=(s5.trans s6) _ _ JE
    have JG:=cW.same s6 c1
    have JH:=cW.same s6 c2
    generalize upd H5 p5 (.lst zs)=H6 at s6 h5 tY JG JH⊢
    have nK:=(pM.trans s5).trans s6
    refine ba<|aV<|ae rfl<|JB<|ae rfl<|aV<|aw<|dR<|ae rfl<|.inl ⟨_,aq.of h5,⟨.inl ⟨by decide,by decide⟩,⟨_,rfl, .inl ⟨xs,aq.of tY,fun w fw=> ?_⟩⟩⟩⟩
    have ew:du xs (some<|2* ((zs.length:Nat):Int)) none=xs.drop (2* (xs.length / 2)):=by
     rw[show 2* ((zs.length:Nat):Int)=((2* (xs.length / 2):Nat):Int) by rw[ez];lia,BP]
    rw[ew]
    have s7:=sameNew (o:= .lst (xs.drop<|2* (xs.length / 2))) fw
    refine .inl ⟨p5,w,zs,_,rfl,rfl,s7 _ _ h5,au,bQ (by rw[zaB];lia),fun a' Xr=> ?_⟩
    have s8:=sameNew (o:= .lst (zs++xs.drop (2* (xs.length / 2)))) Xr
    refine⟨a',_,t5+t6,_, ?_,rfl,s2.trans<|(nK.trans s7).trans s8,au,cW.same (s7.trans s8)<|cW.app JG JH, ?_, ?_,c3, .inr ?_⟩
    ·rw[zqA,zaB];lia
    ·rw[zqA,zaB];lia
    ·rw[zqA,zaB];lia
    ·rw[JF,BV,en] at nf
     rcases nf with nf | ⟨c0,r0,e0,f0⟩
     ·exact absurd nf (by lia)
     ·exact⟨c0,_,by rw[e0];rfl,f0⟩
 ·refine iF ?_ (zqF (by lia))
  obtain⟨v,rfl⟩: ∃v,xs=[v]:=by
   match xs,k1,z with
   | [v],_,_=>exact⟨v,rfl⟩
   | v::w::r,_,z=>exact absurd (by show 1<r.length+1+1;lia) z
  obtain⟨c,ps,m,t',rfl,cK,⟨rfl,rfl⟩,e⟩:=cE
  refine ck<|bf<|ae rfl<|aw<|cx lU rfl<|q c ps H2 s2 cK (by lia) ?_
  rcases k4 with k4 | ⟨c0,r0,e0,f0⟩
  ·exact .inr k4.symm
  ·cases e0;exact .inl f0
end
def h6(here:Int)(lo pa ed be lg:Addr):List (Str×V):=[("here", .int here),("lengths", .ref lo),("parents", .ref pa),("edges", .ref ed),("below", .ref be),("last_gone", .ref lg)]
section
variable {here:Int} {lo pa ed be lg:Addr}
theorem kq:(h6 here lo pa ed be lg).lookup ("here":Str)=some (V.int here):=lS
theorem xq:(h6 here lo pa ed be lg).lookup ("lengths":Str)=some (V.ref lo):=(dg (by decide+kernel)).trans lS
theorem rg:(h6 here lo pa ed be lg).lookup ("parents":Str)=some (V.ref pa):=(dg (by decide+kernel)).trans ((dg (by decide+kernel)).trans lS)
theorem BX:(h6 here lo pa ed be lg).lookup ("edges":Str)=some (V.ref ed):=(dg (by decide+kernel)).trans ((dg (by decide+kernel)).trans<|(dg (by decide+kernel)).trans lS)
theorem JI:(h6 here lo pa ed be lg).lookup ("below":Str)=some (V.ref be):=(dg (by decide+kernel)).trans ((dg (by decide+kernel)).trans<|(dg (by decide+kernel)).trans<|(dg (by decide+kernel)).trans lS)
theorem BY:(h6 here lo pa ed be lg).lookup ("last_gone":Str)=some (V.ref lg):=(dg (by decide+kernel)).trans ((dg (by decide+kernel)).trans<|(dg (by decide+kernel)).trans<|(dg (by decide+kernel)).trans<|(dg (by decide+kernel)).trans lS)
theorem gQ{m:Str}(h1: ¬m="here")(h2: ¬m="lengths")(h3: ¬m="parents")(h4: ¬m="edges")(h5: ¬m="below")(Xs: ¬m="last_gone"):(h6 here lo pa ed be lg).lookup m=none:=
 (dg h1).trans ((dg h2).trans<|(dg h3).trans<|(dg h4).trans<|(dg h5).trans<|(dg Xs).trans rfl)
end
structure dh (pars:List (Option Nat)):Prop where
 rt:pars[0]?=some none
 up: ∀i,0<i->i<pars.length-> ∃j,pars[i]?=some (some j)/\j<i
structure jI (C:Addr) (H:Hp) (p dx lo pa ed be lg:Addr) (here:Nat) (cm:List Nat) (pars:List (Option Nat)):Prop where
 ob:H p=some (.ins C dx<|h6 (here:Nat) lo pa ed be lg)
 ol:H lo=some (.lst<|cm.map fun n=>V.int (n:Nat))
 op:H pa=some (.lst<|pars.map gV)
 ln:cm.length=pars.length
 tr:dh pars
 hr:here<pars.length
 sz:pars.length<=100000
theorem jI.same{C:Addr}{H H':Hp}{p dx lo pa ed be lg:Addr}{here:Nat}{cm:List Nat}{pars:List (Option Nat)}(A:jI C H p dx lo pa ed be lg here cm pars)(s:aB H H'):jI C H' p dx lo pa ed be lg here cm pars:=⟨s _ _ A.ob,s _ _ A.ol,s _ _ A.op,A.ln,A.tr,A.hr,A.sz⟩
section
variable {K:Frag} {C CN:Addr}
def tZ(C:Addr):Sp:=fun vs H Q E=> ∃(p dx lo pa ed be lg:Addr) (here:Nat) (cm:List Nat) (pars:List (Option Nat)),vs=[.ref p]/\jI C H p dx lo pa ed be lg here cm pars/\Q (.int (pars.length:Nat)) H
theorem Xt(T:iu K C)(vs:List V)(H:Hp)(Q:VK)(E:XK)(h:tZ C vs H Q E):ax (aS K [] [] (E:=E)) G7 (Dn Q) (start m_ vs) H:=by
 obtain⟨p,dx,lo,pa,ed,be,lg,here,cm,pars,rfl,A,q⟩:=h
 refine ck<|dR<|dJ<|ae rfl ⟨p,C,dx,_,_,rfl,A.ob,T.cl,T.oT,rg, .inl ⟨_,aq.of A.op, ?_⟩⟩
 rw[zab];exact q
def pN(C CN:Addr):Sp:=fun vs H Q E=> ∃(p dx lo pa ed be lg:Addr) (here:Nat) (cm:List Nat) (pars:List (Option Nat)) (v:V),vs=[.ref p,v]/\jI C H p dx lo pa ed be lg here cm pars/\((∃n:Nat,v= .int n/\n<pars.length/\Q .aC H)\/(Jg v 0 ((pars.length:Nat) - 1:Int) H/\E (.ref CN) none H))
theorem Xu(vs:List V)(H:Hp)(Q:VK)(E:XK)(h:pN C CN vs H Q E):ax (aS K [("is_between",Bz)] [] [] [("many",C,tZ C)] (et:=[("NoNode",CN)]) (E:=E)) G4 (Dn Q) (start qF vs) H:=by
 obtain⟨p,dx,lo,pa,ed,be,lg,here,cm,pars,v,rfl,A,h⟩:=h
 refine bA<|iG<|jG Bz rfl<|ay<|ae rfl<|ay<|aw<|ay<|aV<|qU C (tZ C) rfl<|ae rfl ⟨p,dx,_,rfl,A.ob,gQ (by decide+kernel) (by decide+kernel) (by decide+kernel) (by decide+kernel) (by decide+kernel) (by decide+kernel),p,dx,lo,pa,ed,be,lg,here,cm,pars,rfl,A,aw ⟨trivial,aL ⟨_,_,_,rfl, ?_⟩⟩⟩
 rcases h with⟨n,rfl,hn,q⟩ | ⟨hn,q⟩
 ·exact .inl ⟨_,rfl,by lia,by lia,iE<|iF (cU q) rfl⟩
 ·exact .inr ⟨hn,iE<|iT ⟨(by show 1<=sizeLine;decide),q⟩ rfl⟩
def BZ(C:Addr):Sp:=fun vs H Q E=> ∃(p dx lo pa ed be lg:Addr) (here:Nat) (cm:List Nat) (pars:List (Option Nat)) (n k:Nat),vs=[.ref p, .int n]/\jI C H p dx lo pa ed be lg here cm pars/\cm[n]?=some k/\Q (.int (k:Nat)) H
theorem Xv(T:iu K C)(vs:List V)(H:Hp)(Q:VK)(E:XK)(h:BZ C vs H Q E):ax (aS K [] [] [] [("need_node",C,pN C CN)] (E:=E)) G8 (Dn Q) (start qF vs) H:=by
 obtain⟨p,dx,lo,pa,ed,be,lg,here,cm,pars,n,k,rfl,A,hn,q⟩:=h
 have hl:=(zak.mp hn).1
 have ln:=A.ln
 refine dH<|h9 C (pN C CN) rfl<|ae rfl ⟨p,dx,_,rfl,A.ob,gQ (by decide+kernel) (by decide+kernel) (by decide+kernel) (by decide+kernel) (by decide+kernel) (by decide+kernel),ae rfl ⟨p,dx,lo,pa,ed,be,lg,here,cm,pars,_,rfl,A, .inl ⟨n,rfl,by lia, ?_⟩⟩⟩
 exact ck<|bf<|dJ<|ae rfl ⟨p,C,dx,_,_,rfl,A.ob,T.cl,T.sW,xq,ae rfl<|cx A.ol (cq (by rw[zam,hn];rfl)) q⟩
end
def ups(pars:List (Option Nat)):Nat->Nat->List Nat
 | 0,n=> [n]
 | f+1,n=>match pars[n]? with
  | some (some j)=>n::ups pars f j
  | _=> [n]
theorem Xw{pars:List (Option Nat)}(T:dh pars): ∀(n f:Nat),n<pars.length->n<=f->ups pars f n=ups pars n n:=by
 intro n
 induction n using Nat.strongRecOn with
 | ind n ih=>
  intro f hn hf
  cases n with
  | zero=>
   cases f with
   | zero=>rfl
   | succ f=>
    unfold ups
    rw[T.rt]
  | succ n=>
   cases f with
   | zero=>exact absurd hf (by lia)
   | succ f=>
    obtain⟨j,hj,aK⟩:=T.up (n+1) (by lia) hn
    have e1:ups pars (f+1) (n+1)=(n+1)::ups pars f j:=by
     show(match pars[n+1]? with | some (some j)=> (n+1)::ups pars f j | _=> [n+1])=_
     rw[hj]
    have e2:ups pars (n+1) (n+1)=(n+1)::ups pars n j:=by
     show(match pars[n+1]? with | some (some j)=> (n+1)::ups pars n j | _=> [n+1])=_
     rw[hj]
    rw[e1,e2,ih j (by lia) f (by lia) (by lia),ih j (by lia) n (by lia) (by lia)]
theorem JJ{pars:List (Option Nat)}:ups pars 0 0=[0]:=rfl
theorem jJ{pars:List (Option Nat)}(T:dh pars){n:Nat}(h0:0<n)(hn:n<pars.length): ∃j,pars[n]?=some (some j)/\j<n/\ups pars n n=n::ups pars j j:=by
 obtain⟨j,hj,aK⟩:=T.up n h0 hn
 refine⟨j,hj,aK, ?_⟩
 cases n with
 | zero=>exact absurd h0 (by decide)
 | succ n=>
  have e2:ups pars (n+1) (n+1)=(n+1)::ups pars n j:=by
   show(match pars[n+1]? with | some (some j)=> (n+1)::ups pars n j | _=> [n+1])=_
   rw[hj]
  rw[e2,Xw T j n (by lia) (by lia)]
theorem rj{pars:List (Option Nat)}(T:dh pars): ∀(n:Nat),n<pars.length->(ups pars n n).length<=n+1:=by
 intro n
 induction n using Nat.strongRecOn with
 | ind n ih=>
  intro hn
  by_cases z:n=0
  ·subst z;exact zqR _
  ·obtain⟨j,_,aK,e⟩:=jJ T (by lia) hn
   have:=ih j aK (by lia)
   rw[e,zao];lia
section
variable {K:Frag} {C CN:Addr}
def t9(C:Addr):Sp:=fun vs H Q E=> ∃(p dx lo pa ed be lg:Addr) (here:Nat) (cm:List Nat) (pars:List (Option Nat)) (n:Nat),vs=[.ref p, .int n]/\jI C H p dx lo pa ed be lg here cm pars/\n<pars.length/\
 ∀b H',aB H H'->H b=none->H' b=some (.lst<|(ups pars n n).map fun k=>V.int (k:Nat))->Q (.ref b) H'
theorem Xx(T:iu K C)(vs:List V)(H:Hp)(Q:VK)(E:XK)(h:t9 C vs H Q E):ax (aS K [] [] (E:=E)) Hk (Dn Q) (start Hj vs) H:=by
 obtain⟨p,dx,lo,pa,ed,be,lg,here,cm,pars,n,rfl,A,hn,q⟩:=h
 have sz:=A.sz
 refine ba<|cP<|ay<|ae rfl<|aL ⟨(by show 1<=sizeLine;decide),fun L fL=> ?_⟩
 have s0:=sameNew (o:= .lst [V.int (n:Nat)]) fL
 refine qW (fun m σ H2=> ∃(pre:List Nat) (k:Nat),m=k/\σ=[some<|.ref p,some<|.int (n:Nat),some<|.ref L]/\aB H H2/\H2 L=some (.lst<|(pre.map fun k=>V.int (k:Nat))++ [V.int (k:Nat)])/\k<pars.length/\pre.length+k<=n/\ups pars n n=pre++ups pars k k)
  ⟨n,[],n,rfl,rfl,s0,au,hn,by show 0+n<=n;lia,rfl⟩ ?_
 rintro m σ H2 ⟨pre,k,rfl,rfl,s2,hL,hk,hp,eu⟩
 refine aX<|bf<|ae rfl<|jH<|.inl ⟨L,_, -1,_,rfl,rfl,aq.of hL,oy _ _,aw<|xf ⟨_,rfl, ?_⟩⟩
 by_cases z:m=0
 ·subst z
  refine iF ?_ (by simp)
  refine ck<|ae rfl<|q L H2 s2 fL ?_
  rw[eu,JJ,zap];exact hL
 ·refine iT ?_ (by simp;lia)
  obtain⟨j,hj,aK,es⟩:=jJ A.tr (by lia) hk
  refine⟨fun σ' H'=> ∃(pre:List Nat) (k:Nat),k<m/\σ'=[some<|.ref p,some<|.int (n:Nat),some<|.ref L]/\aB H H'/\H' L=some (.lst<|(pre.map fun k=>V.int (k:Nat))++ [V.int (k:Nat)])/\k<pars.length/\pre.length+k<=n/\ups pars n n=pre++ups pars k k, ?_, ?_⟩
  ·rintro σ' H' ⟨B0,k',B1,e,rest⟩
   exact⟨k',B1,B0,k',rfl,e,rest⟩
  ·have A2:=A.same s2
   refine dH<|fP<|ae rfl ⟨.inl ⟨rfl,_,aq.of hL⟩,bf<|dJ<|ae rfl ⟨p,C,dx,_,_,rfl,A2.ob,T.cl,T.oT,rg,bf<|ae rfl<|jH<|.inl ⟨L,_, -1,_,rfl,rfl,aq.of hL,oy _ _, ?_⟩⟩⟩
   refine cx A2.op (cq (by rw[zam,hj];rfl)) ?_
   refine⟨_,hL,dY (by rw[zqA,zab];show pre.length+1<=1000000;lia), ?_⟩
   have b1:aF L H2 (upd H2 L<|.lst<|((pre.map fun k=>V.int (k:Nat))++ [V.int (m:Nat)])++ [gV<|some j]):=aF.upd
   refine⟨pre++ [m],j,aK,rfl,fun c o e=>b1 c o (s2 _ _ e)<|bZ e fL, ?_,by lia,by rw[zqA];show pre.length+1+j<=n;lia,by rw[eu,es,zai];rfl⟩
   rw[au,zap];rfl
end
def strip:List Nat->List Nat->List Nat×List Nat
 | r::a::as,s::b::bs=>if a=b then strip (a::as) (b::bs) else (r::a::as,s::b::bs)
 | x,y=> (x,y)
def d_(pars:List (Option Nat))(one other:Nat):List Nat:=(strip (ups pars one one).reverse (ups pars other other).reverse).1.reverse++ (strip (ups pars one one).reverse (ups pars other other).reverse).2.tail
abbrev iV(l:List Nat):List V:=l.map fun k=>V.int (k:Nat)
theorem JK{α:Type}(xs:List α)(v w:α):fG (xs++ [v,w]) (-2)=some v:=by
 have hl:(xs++ [v,w]).length=xs.length+2:=by simp
 unfold fG eZ
 rw[hl]
 have h1: ¬(0:Int)<= -2:=by decide
 rw[if_neg h1,if_pos (by lia)]
 have e:(-2+ ((xs.length:Int)+2)).toNat=xs.length:=by lia
 simp[e]
theorem nM(r:Nat)(l:List Nat):iV (r::l).reverse=iV l.reverse++ [V.int (r:Nat)]:=by
 show List.map _ (r::l).reverse=_
 rw[zaC,zap];rfl
theorem xr(r:Nat)(y:List Nat):strip [r] y=([r],y):=by
 unfold strip
 simp
theorem xu(x:List Nat)(s:Nat):strip x [s]=(x,[s]):=by
 unfold strip
 simp
theorem xv{r s a b:Nat}{as bs:List Nat}(h:a≠b):strip (r::a::as) (s::b::bs)=(r::a::as,s::b::bs):=by
 unfold strip
 rw[if_neg h]
theorem strip_eq{r s a:Nat}{as bs:List Nat}:strip (r::a::as) (s::a::bs)=strip (a::as) (a::bs):=by
 conv=>lhs;unfold strip
 rw[if_pos rfl]
theorem JL(l:List Nat):iV l.reverse=(iV l).reverse:=by unfold iV;rw[List.map_reverse]
section
variable {K:Frag} {C CN:Addr}
def B2(C:Addr):Sp:=fun vs H Q E=> ∃(p dx lo pa ed be lg:Addr) (here:Nat) (cm:List Nat) (pars:List (Option Nat)) (n m:Nat),vs=[.ref p, .int n, .int m]/\jI C H p dx lo pa ed be lg here cm pars/\n<pars.length/\m<pars.length/\
 ∀b H',aB H H'->H b=none->H' b=some (.lst<|iV<|d_ pars n m)->Q (.ref b) H'
theorem Xy(vs:List V)(H:Hp)(Q:VK)(E:XK)(h:B2 C vs H Q E):ax (aS K [] [] [] [("need_node",C,pN C CN),("upward",C,t9 C)] (E:=E)) Az (Dn Q) (start Hl vs) H:=by
 obtain⟨p,dx,lo,pa,ed,be,lg,here,cm,pars,n,m,rfl,A,hn,hm,q⟩:=h
 have sz:=A.sz
 have no: ∀{x:Str},¬x="here"-> ¬x="lengths"-> ¬x="parents"-> ¬x="edges"-> ¬x="below"-> ¬x="last_gone"->(h6 (here:Nat) lo pa ed be lg).lookup x=none:=fun a b c d e f=>gQ a b c d e f
 refine dH<|h9 C (pN C CN) rfl<|ae rfl ⟨p,dx,_,rfl,A.ob,no (by decide+kernel) (by decide+kernel) (by decide+kernel) (by decide+kernel) (by decide+kernel) (by decide+kernel),ae rfl ⟨p,dx,lo,pa,ed,be,lg,here,cm,pars,_,rfl,A, .inl ⟨n,rfl,hn, ?_⟩⟩⟩
 refine dH<|h9 C (pN C CN) rfl<|ae rfl ⟨p,dx,_,rfl,A.ob,no (by decide+kernel) (by decide+kernel) (by decide+kernel) (by decide+kernel) (by decide+kernel) (by decide+kernel),ae rfl ⟨p,dx,lo,pa,ed,be,lg,here,cm,pars,_,rfl,A, .inl ⟨m,rfl,hm, ?_⟩⟩⟩
 refine ba<|h9 C (t9 C) rfl<|ae rfl ⟨p,dx,_,rfl,A.ob,no (by decide+kernel) (by decide+kernel) (by decide+kernel) (by decide+kernel) (by decide+kernel) (by decide+kernel),ae rfl ⟨p,dx,lo,pa,ed,be,lg,here,cm,pars,n,rfl,A,hn,fun u H1 s1 fu hu=> ?_⟩⟩
 have A1:=A.same s1
 refine ba<|h9 C (t9 C) rfl<|ae rfl ⟨p,dx,_,rfl,A1.ob,no (by decide+kernel) (by decide+kernel) (by decide+kernel) (by decide+kernel) (by decide+kernel) (by decide+kernel),ae rfl ⟨p,dx,lo,pa,ed,be,lg,here,cm,pars,m,rfl,A1,hm,fun d H2 s2 fd hd=> ?_⟩⟩
 have Xz:=s2 _ _ hu
 have JM:d≠u:=fun z=>by rw[z,hu] at fd;cases fd
 have eK:=s1.trans s2
 have XA:=s1.free fd
 have lu:=rj A.tr n hn
 have ld:=rj A.tr m hm
 have ne: ∀k,k<pars.length->(ups pars k k).reverse≠ []:=by
  intro k hk z
  have z':=List.reverse_eq_nil_iff.mp z
  by_cases k0:k=0
  ·subst k0;cases z'
  ·obtain⟨j,_,_,e⟩:=jJ A.tr (by lia) hk
   rw[e] at z';cases z'
 refine qW (fun mm σ H3=> ∃(x y:List Nat),mm=x.length/\σ=[some<|.ref p,some<|.int (n:Nat),some<|.int (m:Nat),some<|.ref u,some<|.ref d]/\aB H H3/\H3 u=some (.lst<|iV x.reverse)/\H3 d=some (.lst<|iV y.reverse)/\x≠ []/\y≠ []/\x.length<=n+1/\y.length<=m+1/\strip (ups pars n n).reverse (ups pars m m).reverse=strip x y)
  ⟨_,(ups pars n n).reverse,(ups pars m m).reverse,rfl,rfl,eK,by rw[zaV];exact Xz,by rw[zaV];exact hd,ne n hn,ne m hm,by rw[zaF];exact lu,by rw[zaF];exact ld,rfl⟩ ?_
 rintro mm σ H3 ⟨x,y,rfl,rfl,s3,ma,nN,nx,ny,lx,ly,es⟩
 have t_:(iV x.reverse).length=x.length:=by rw[zab,zaF]
 have ua:(iV y.reverse).length=y.length:=by rw[zab,zaF]
 have fin:strip x y=(x,y)->ax (aS K [] [] [] [("need_node",C,pN C CN),("upward",C,t9 C)] (E:=E)) (Az.drop 5) (Dn Q) [some<|.ref p,some<|.int (n:Nat),some<|.int (m:Nat),some<|.ref u,some<|.ref d] H3:=by
  intro e
  refine ck<|aV<|ae rfl<|Xn<|ay<|BK<|ae rfl<|jH ⟨_,rfl, .inl ⟨_,aq.of nN,fun w fw=>aL ⟨w,_,rfl,aq.of au,fun v fv=> ?_⟩⟩⟩
  have s4:=sameNew (o:= .lst (du (iV y.reverse) none<|some<|-1)) fw
  have s5:=sameNew (o:= .lst (du (iV y.reverse) none<|some<|-1).reverse) fv
  have ec:(du (iV y.reverse) none<|some<|-1).reverse=iV y.tail:=by
   cases y with
   | nil=>exact absurd rfl ny
   | cons b bs=>
    have e1:iV (b::bs).reverse=iV bs.reverse++ [V.int (b:Nat)]:=by
     show List.map _ (b::bs).reverse=_
     rw[zaC,zap];rfl
    rw[e1]
    unfold du
    rw[HT.yP]
    have e2:HT.a_ (iV bs.reverse++ [V.int (b:Nat)]).length (iV bs.reverse++ [V.int (b:Nat)]).length (some<|-1)=(iV bs.reverse).length:=by
     have hl:(iV bs.reverse++ [V.int (b:Nat)]).length=(iV bs.reverse).length+1:=by rw[zqA];rfl
     rw[hl]
     unfold HT.a_
     simp
     lia
    rw[e2,zbl,Nat.sub_zero,zbZ,JL,zaV];rfl
  refine .inl ⟨u,v,_,_,rfl,rfl,(s4.trans s5) _ _ ma,au,bQ (by rw[zaF];have:=yS (iV y.reverse) none (some<|-1);lia),fun b fb=> ?_⟩
  have s6:=sameNew (o:= .lst (iV x.reverse++ (du (iV y.reverse) none<|some<|-1).reverse)) fb
  refine q b _ (s3.trans<|(s4.trans s5).trans s6) (s3.free<|(s4.trans s5).free fb) ?_
  rw[au,ec]
  unfold d_
  rw[es,e]
  show some (HO.lst<|iV x.reverse++iV y.tail)=some (HO.lst<|iV<|x.reverse++y.tail)
  unfold iV
  rw[zap]
 match x,nx,lx,es,fin,ma,t_ with
 | [r],_,lx,es,fin,ma,t_=>
  refine pK<|aX<|dR<|ae rfl<|.inl ⟨_,aq.of ma,aw<|N.iI ⟨_,rfl,iF (iF (fin<|xr r y) rfl)<|zqF (by rw[t_];show ¬((1:Nat):Int) >1;decide)⟩⟩
 | r::a::as,_,lx,es,fin,ma,t_=>
  refine pK<|aX<|dR<|ae rfl<|.inl ⟨_,aq.of ma,aw<|N.iI ⟨_,rfl,iT ?_<|zqT (by rw[t_,zao,zao];lia)⟩⟩
  match y,ny,ly,es,fin,nN,ua with
  | [s],_,ly,es,fin,nN,ua=>
   refine pK<|aX<|dR<|ae rfl<|.inl ⟨_,aq.of nN,aw<|N.iI ⟨_,rfl,iF (iF (fin<|xu _ s) rfl)<|zqF (by rw[ua];show ¬((1:Nat):Int) >1;decide)⟩⟩
  | s::b::bs,_,ly,es,fin,nN,ua=>
   refine pK<|aX<|dR<|ae rfl<|.inl ⟨_,aq.of nN,aw<|N.iI ⟨_,rfl,iT ?_<|zqT (by rw[ua,zao,zao];lia)⟩⟩
   have ex:iV (r::a::as).reverse=iV as.reverse++ [V.int (a:Nat),V.int (r:Nat)]:=by rw[nM,nM,zai];rfl
   have ey:iV (s::b::bs).reverse=iV bs.reverse++ [V.int (b:Nat),V.int (s:Nat)]:=by rw[nM,nM,zai];rfl
   refine Jh<|aX<|bf<|ae rfl<|jH<|cx ma (by rw[ex];exact JK _ _ _)<|bf<|ae rfl<|jH<|cx nN (by rw[ey];exact JK _ _ _)<|l_ ⟨_,rfl, ?_⟩
   by_cases z:a=b
   ·subst z
    refine iT ?_ (by simp)
    refine⟨fun σ' H'=> ∃(x' y':List Nat),x'.length< (r::a::as).length/\σ'=[some<|.ref p,some<|.int (n:Nat),some<|.int (m:Nat),some<|.ref u,some<|.ref d]/\aB H H'/\H' u=some (.lst<|iV x'.reverse)/\H' d=some (.lst<|iV y'.reverse)/\x'≠ []/\y'≠ []/\x'.length<=n+1/\y'.length<=m+1/\strip (ups pars n n).reverse (ups pars m m).reverse=strip x' y', ?_, ?_⟩
    ·rintro σ' H' ⟨x',y',aK,rest⟩
     exact⟨_,aK,x',y',rfl,rest⟩
    ·have e1:(iV (r::a::as).reverse).dropLast=iV (a::as).reverse:=by rw[nM,zcl]
     have e2:(iV (s::a::bs).reverse).dropLast=iV (a::bs).reverse:=by rw[nM,zcl]
     refine⟨_,rfl, .inl ⟨rfl,_,aq.of ma⟩,_,V.int (r:Nat),ma,(by rw[nM,zqA];show(iV (a::as).reverse++ [V.int (r:Nat)])[(iV (a::as).reverse).length+1 - 1]?=_;simp), ?_⟩
     rw[e1]
     have b1:aF u H3 (upd H3 u<|.lst<|iV (a::as).reverse):=aF.upd
     have JN:upd H3 u (.lst<|iV (a::as).reverse) u=some (.lst<|iV (a::as).reverse):=au
     have B3:=b1 _ _ nN JM
     have s4:aB H (upd H3 u<|.lst<|iV (a::as).reverse):=fun c o e=>b1 c o (s3 _ _ e) (bZ e fu)
     generalize upd H3 u (.lst<|iV (a::as).reverse)=H4 at b1 JN B3 s4⊢
     refine⟨_,rfl, .inl ⟨rfl,_,aq.of B3⟩,_,V.int (s:Nat),B3,(by rw[nM,zqA];show(iV (a::bs).reverse++ [V.int (s:Nat)])[(iV (a::bs).reverse).length+1 - 1]?=_;simp), ?_⟩
     rw[e2]
     have b2:aF d H4 (upd H4 d<|.lst<|iV (a::bs).reverse):=aF.upd
     have lx':as.length+1+1<=n+1:=lx
     have ly':bs.length+1+1<=m+1:=ly
     exact⟨a::as,a::bs,by show as.length+1<as.length+1+1;lia,rfl,fun c o e=>b2 c o (s4 _ _ e)<|bZ e XA,b2 _ _ JN<|Ne.symm JM,au,(by simp),(by simp),by show as.length+1<=_;lia,by show bs.length+1<=_;lia,by rw[es,strip_eq]⟩
   ·exact iF (fin<|xv z) (by simp;lia)
end
def pO(H:Hp)(es:List V)(pars:List (Option Nat))(aJ:List (List Nat))(T:Nat):Prop:= ∀(i j:Nat),pars[i]?=some (some j)-> ∃(a:Addr) (ps:List Pt) (lj li:List Nat),es[i]?=some (V.ref a)/\aJ[j]?=some lj/\aJ[i]?=some li/\cQ H a ps lj li/\B.aA ps<=T
theorem pO.same{H H':Hp}{es:List V}{pars:List (Option Nat)}{aJ:List (List Nat)}{T:Nat}(h:pO H es pars aJ T)(s:aB H H'):pO H' es pars aJ T:=fun i j e=>by
 obtain⟨a,ps,lj,li,h1,h2,h3,h4,h5⟩:=h i j e
 exact⟨a,ps,lj,li,h1,h2,h3,h4.same s,h5⟩
section
variable {K:Frag} {C CN:Addr}
theorem B4{H:Hp}{Q:VK}{o:Option Nat}{n:Nat}(q:Q (.bl<|decide<|o=some n) H):cY K .Eq (gV o) (.int (n:Nat)) H Q:=by
 cases o with
 | none=>
  have e:decide ((none:Option Nat)=some n)=false:=by simp
  rw[e] at q
  first
   | exact q
   | exact⟨.none, .int (n:Nat),rfl,rfl,rfl,rfl,q⟩
 | some k=>
  refine l_ ?_
  by_cases z:k=n
  ·subst z
   have e:decide (some k=some k)=true:=by simp
   rw[e] at q
   simpa using q
  ·have e:decide (some k=some n)=false:=by simp[z]
   rw[e] at q
   have e2:decide (((k:Nat):Int)=((n:Nat):Int))=false:=by simp;lia
   rw[e2];exact q
def B5(C:Addr):Sp:=fun vs H Q E=> ∃(p dx lo pa ed be lg:Addr) (here:Nat) (cm:List Nat) (pars:List (Option Nat)) (es:List V) (aJ:List (List Nat)) (T n m:Nat) (ln lm:List Nat),vs=[.ref p, .int n, .int m]/\jI C H p dx lo pa ed be lg here cm pars/\H ed=some (.lst es)/\pO H es pars aJ T/\T<=14000/\aJ[n]?=some ln/\aJ[m]?=some lm/\
 m<pars.length/\(pars[m]?=some (some n)\/(pars[m]?≠some (some n)/\pars[n]?=some (some m)))/\ ∀(c:Addr) (ps:List Pt) (H':Hp),aB H H'->cQ H' c ps ln lm->B.aA ps<=T->Q (.ref c) H'
theorem XB(T:iu K C)(vs:List V)(H:Hp)(Q:VK)(E:XK)(h:B5 C vs H Q E):ax (aS K [("back",wk)] [] (E:=E)) Hc (Dn Q) (start Hb vs) H:=by
 obtain⟨p,dx,lo,pa,ed,be,lg,here,cm,pars,es,aJ,t,n,m,ln,lm,rfl,A,he,hE,ht,hn,hm,XC,hd,q⟩:=h
 have xx:pars[m]?=some pars[m]:=zau XC
 refine ck<|xn<|aX<|bf<|dJ<|ae rfl ⟨p,C,dx,_,_,rfl,A.ob,T.cl,T.oT,rg,ae rfl<|cx A.op (cq (by rw[zam,xx];rfl))<|ae rfl<|B4 ⟨_,rfl, ?_⟩⟩
 by_cases z:pars[m]=some n
 ·refine iT ?_ (zqT z)
  rw[z] at xx
  obtain⟨a,ps,lj,li,h1,h2,h3,h4,h5⟩:=hE m n xx
  rw[hn] at h2;cases h2
  rw[hm] at h3;cases h3
  exact bf<|dJ<|ae rfl ⟨p,C,dx,_,_,rfl,A.ob,T.cl,T.v7,BX,ae rfl<|cx he (cq h1)<|q a ps H (aB.refl _) h4 h5⟩
 ·refine iF ?_ (zqF z)
  have rm:pars[n]?=some (some m):=by
   rcases hd with hd | hd
   ·rw[xx] at hd;exact absurd (zal hd) z
   ·exact hd.2
  obtain⟨a,ps,lj,li,h1,h2,h3,h4,h5⟩:=hE n m rm
  rw[hm] at h2;cases h2
  rw[hn] at h3;cases h3
  have cl:ps.length<=2*B.aA ps+1:=pL ps "" h4.chg.ok h4.chg.ch
  have hb:=(h4.chg.bk (by lia)).2
  refine c7 wk rfl<|ay<|bf<|dJ<|ae rfl ⟨p,C,dx,_,_,rfl,A.ob,T.cl,T.v7,BX,ae rfl<|cx he (cq h1)<|aL<|WO h4 (by lia) (by lia) fun c H' s fc hc=>q c _ H' s hc ?_⟩
  have:=hb.1
  lia
end
section
variable {K:Frag} {C CF:Addr}
def B6(C CF:Addr):Sp:=fun vs H Q E=> ∃(p dx lo pa ed be lg:Addr) (here:Nat) (cm:List Nat) (pars:List (Option Nat)) (c:Addr) (ps:List Pt) (l r:List Nat) (k:Nat),vs=[.ref p, .ref c]/\jI C H p dx lo pa ed be lg here cm pars/\cQ H c ps l r/\B.aA ps<=100000/\cm[here]?=some k/\
 ((l.length=k/\ ∀H',aB H H'->Q .aC H')\/(l.length≠k/\ ∀H',aB H H'->E (.ref CF) none H'))
theorem XD(T:iu K C)(vs:List V)(H:Hp)(Q:VK)(E:XK)(h:B6 C CF vs H Q E):ax (aS K [("sizes",lL)] [] (et:=[("BadFit",CF)]) (E:=E)) G5 (Dn Q) (start v5 vs) H:=by
 obtain⟨p,dx,lo,pa,ed,be,lg,here,cm,pars,c,ps,l,r,k,rfl,A,⟨xs,h1,h2,h3⟩,ht,hk,h⟩:=h
 have cl:ps.length<=2*B.aA ps+1:=pL ps "" h3.ok h3.ch
 refine bA<|aX<|bf<|c7 lL rfl<|ay<|ae rfl<|aL ⟨c,xs,ps,rfl,h1,h2,h3.ok,h3.ch,by lia,fun t H' s qP=>aw<|gu qP rfl ?_⟩
 have A1:=A.same s
 refine bf<|dJ<|ae rfl ⟨p,C,dx,_,_,rfl,A1.ob,T.cl,T.sW,xq,dJ<|ae rfl ⟨p,C,dx,_,_,rfl,A1.ob,T.cl,T.iw,kq,cx A1.ol (cq (by rw[zam,hk];rfl)) ?_⟩⟩
 have e:(overOf ps).sum=l.length:=h3.run.over
 rw[e]
 refine xf ⟨_,rfl, ?_⟩
 rcases h with⟨e,q⟩ | ⟨e,q⟩
 ·subst e
  exact iF (cU<|q _ s) (by simp)
 ·refine iT ⟨(by show 1<=sizeLine;decide),q _ s⟩ ?_
  have:decide (((l.length:Nat):Int)=((k:Nat):Int))=false:=by simp;lia
  rw[this];rfl
end
end L2.N
namespace ZL
open PySem
abbrev pP(h:Heap)(z TI TO a:Addr)(f:Bool):Prop:=
 h.get? z=some {cls:= .type "zip",dict:=none,data:= .fields #[rawInt a, .bool f, .bool false, .ref TI, .ref TO],slots:= #[]}
section
variable {prog:Program} {w:World} {A:Around} {E:Value->Shared->Prop} {s:Shared}
theorem alive{a:Addr}{o:Obj}{Q:Option Obj->Shared->Prop}(ho:s.heap.get? a=some o)(h:Q (some o) s):wpAny (model prog w) A (loadIfAlive a) Q E s:=by
 have h':Q (s.heap.get? a) s:=by rw[ho];exact h
 exact fun _ _ _=>h'
theorem held{z TI TO a:Addr}{f:Bool}{oa:Obj}{Q:Bool->Shared->Prop}(hz:pP s.heap z TI TO a f)(ha:s.heap.get? a=some oa)
  (hQ: ∀h',pP h' z TI TO a true->Heap.SameBut z s.heap h'->Q false {s with heap:=h'}):wpAny (model prog w) A (Builtin.SmallTypes.ownedTupleIsFree<|.ref z) Q E s:=by
 unfold Builtin.SmallTypes.ownedTupleIsFree
 refine wpAny_bind<|wpAny_field hz rfl (x:=rawInt a) rfl ?_
 show wpAny _ _ (loadIfAlive ((a:Nat):Int).toNat>>=_) _ _ _
 rw[zaW]
 refine wpAny_bind<|alive ha ?_
 simp only[Option.isNone_some,zaR,if_false]
 refine wpAny_bind<|wpAny_field hz rfl (x:= .bool f) rfl ?_
 cases f with
 | true=>
  simp
  exact wpAny_pure<|hQ _ hz ⟨rfl,fun _ _=>rfl⟩
 | false=>
  show wpAny _ _ (if (Value.bool false !=Value.bool true)=true then _ else _) _ _ _
  rw[if_pos (by decide)]
  refine wpAny_bind<|wpAny_setField_rec hz (by simp) fun h₁ xy dP=> ?_
  exact wpAny_pure<|hQ h₁ xy dP
theorem XE{z TI TO i1 i2 l1 l2 a:Addr}{f:Bool}{oa:Obj}{k1 k2:Nat}{xs ys:Array Value}{x y:Value}{Q:Value->Shared->Prop}(D:ZipApart z TI TO i1 i2 l1 l2)
  (hz:pP s.heap z TI TO a f) (ha:s.heap.get? a=some oa) (cH:IsPair s.heap TI (.ref i1) (.ref i2))
  (h1:s.heap.IsListIter i1 l1 k1) (h2:s.heap.IsListIter i2 l2 k2) (da:s.heap.IsList l1 xs) (dO:s.heap.IsList l2 ys) (hx:xs[k1]?=some x) (hy:ys[k2]?=some y)
  (hQ: ∀h',pP h' z TI TO a true->h'.IsListIter i1 l1 (k1+1)->h'.IsListIter i2 l2 (k2+1)->IsPair h' s.heap.objs.size x y->h'.objs.size=s.heap.objs.size+1->
   (∀c o,c≠z->c≠i1->c≠i2->s.heap.get? c=some o->h'.get? c=some o)->Q (.ref s.heap.objs.size) {s with heap:=h'}):
  wpAny (model prog w) A (Builtin.«zip.__next__» ⟨[.ref z],[]⟩) (fun fin s'=> ∃v,fin= .done (.ret v)/\Q v s') E s:=by
 show wpAny _ _ (field (.ref z) 2>>=_) _ _ _
 refine wpAny_bind<|wpAny_field hz rfl (x:= .bool false) rfl ?_
 show wpAny _ _ (field (.ref z) 3>>=_) _ _ _
 refine wpAny_bind<|wpAny_field hz rfl (x:= .ref TI) rfl ?_
 refine wpAny_bind<|wpAny_seqItems cH rfl ?_
 show wpAny _ _ (Builtin.SmallTypes.ownedTupleIsFree (.ref z) >>=_) _ _ _
 refine wpAny_bind<|held hz ha fun h₁ xy dP=> ?_
 simp only[zaR,if_false]
 refine wpAny_bind ?_
 rw[<-Array.forIn_toList]
 simp only[List.forIn_cons,List.forIn_nil]
 refine wpAny_bind<|wpAny_bind<|wpAny_holding ?_
 show wpAny _ _ (Builtin.SmallTypes.nextOf (.ref i1) >>=_) _ _ _
 refine wpAny_bind<|wpAny_nextOf_list_item (h1.extBut dP.extBut D.i1z) (da.extBut dP.extBut D.l1z) hx fun h₂ JO ip=>wpAny_pure (wpAny_pure ?_)
 refine wpAny_bind<|wpAny_bind<|wpAny_holding ?_
 show wpAny _ _ (Builtin.SmallTypes.nextOf (.ref i2) >>=_) _ _ _
 refine wpAny_bind (wpAny_nextOf_list_item ((h2.extBut dP.extBut D.i2z).extBut ip.extBut D.i12.symm)
  ((dO.extBut dP.extBut D.l2z).extBut ip.extBut D.l2i1) hy fun h₃ XF xB=>wpAny_pure (wpAny_pure (wpAny_pure ?_)))
 refine wpAny_bind<|wpAny_newTuple (hsz:=(by show 2<=sizeLine;decide)) ?_
 have hsz:h₃.objs.size=s.heap.objs.size:=by rw[xB.1,ip.1,dP.1]
 have XG: ∀c o,c≠z->c≠i1->c≠i2->s.heap.get? c=some o->h₃.get? c=some o:=fun c o c1 c3 c4 e=>xB.extBut _ _ c4 (ip.extBut _ _ c3<|dP.extBut _ _ c1 e)
 have XH:pP h₃ z TI TO a true:=xB.extBut _ _ D.i2z.symm (ip.extBut _ _ D.i1z.symm xy)
 refine wpAny_pure ⟨_,rfl, ?_⟩
 show Q (.ref h₃.objs.size) _
 have q:=hQ (h₃.push {cls:= .type "tuple",data:= .seq #[x,y]}) (Heap.get?_push_of_some _ XH) ((JO.extBut xB.extBut D.i12).at fun o e=>Heap.get?_push_of_some _ e) (XF.at fun o e=>Heap.get?_push_of_some _ e) (by rw[<-hsz];exact Heap.get?_push_size _ rfl) (by rw[Heap.size_push,hsz]) fun c o c1 c2 c3 e=>Heap.get?_push_of_some _ (XG c o c1 c2 c3 e)
 rw[<-hsz] at q
 exact q
theorem XI{z TI TO i1 i2 l1 l2 a:Addr}{f:Bool}{oa:Obj}{k1 k2:Nat}{xs ys:Array Value}{Q:Fin->Shared->Prop}(hh:A.handled=none)(D:ZipApart z TI TO i1 i2 l1 l2)
  (hz:pP s.heap z TI TO a f) (ha:s.heap.get? a=some oa) (cH:IsPair s.heap TI (.ref i1) (.ref i2))
  (h1:s.heap.IsListIter i1 l1 k1) (h2:s.heap.IsListIter i2 l2 k2) (da:s.heap.IsList l1 xs) (dO:s.heap.IsList l2 ys) (rn:xs[k1]?=none\/ys[k2]?=none)
  (hE: ∀h' e,(∀c o,c≠z->c≠i1->c≠i2->s.heap.get? c=some o->h'.get? c=some o)->(∃o,h'.get? e=some o/\o.cls= .type "StopIteration")->E (.ref e) {s with heap:=h'}):
  wpAny (model prog w) A (Builtin.«zip.__next__» ⟨[.ref z],[]⟩) Q E s:=by
 show wpAny _ _ (field (.ref z) 2>>=_) _ _ _
 refine wpAny_bind<|wpAny_field hz rfl (x:= .bool false) rfl ?_
 show wpAny _ _ (field (.ref z) 3>>=_) _ _ _
 refine wpAny_bind<|wpAny_field hz rfl (x:= .ref TI) rfl ?_
 refine wpAny_bind<|wpAny_seqItems cH rfl ?_
 show wpAny _ _ (Builtin.SmallTypes.ownedTupleIsFree (.ref z) >>=_) _ _ _
 refine wpAny_bind<|held hz ha fun h₁ xy dP=> ?_
 simp only[zaR,if_false]
 refine wpAny_bind ?_
 rw[<-Array.forIn_toList]
 simp only[List.forIn_cons,List.forIn_nil]
 refine wpAny_bind<|wpAny_bind<|wpAny_holding ?_
 show wpAny _ _ (Builtin.SmallTypes.nextOf (.ref i1) >>=_) _ _ _
 cases hx:xs[k1]? with
 | none=>
  exact wpAny_bind<|wpAny_nextOf_list_end hh (h1.extBut dP.extBut D.i1z) (da.extBut dP.extBut D.l1z) hx fun h₂ e ip he=>hE h₂ e (fun c o c1 c3 _ x=>ip _ _ c3<|dP.extBut _ _ c1 x) he
 | some x=>
  have hy:ys[k2]?=none:=by rcases rn with h | h;rw[hx] at h;cases h;exact h
  refine wpAny_bind<|wpAny_nextOf_list_item (h1.extBut dP.extBut D.i1z) (da.extBut dP.extBut D.l1z) hx fun h₂ JO ip=>wpAny_pure (wpAny_pure ?_)
  refine wpAny_bind<|wpAny_bind<|wpAny_holding ?_
  show wpAny _ _ (Builtin.SmallTypes.nextOf (.ref i2) >>=_) _ _ _
  exact wpAny_bind (wpAny_nextOf_list_end hh ((h2.extBut dP.extBut D.i2z).extBut ip.extBut D.i12.symm)
   ((dO.extBut dP.extBut D.l2z).extBut ip.extBut D.l2i1) hy fun h₄ e XJ he=>hE h₄ e (fun c o c1 c3 c4 x=>XJ _ _ c4 (ip.extBut _ _ c3 (dP.extBut _ _ c1 x))) he)
end
section
variable {prog:Program} {w:World} {A:Around} {E:Value->Shared->Prop} {s:Shared}
theorem XM:typeLookup (.type "zip") "__len__"=pure none:=by rw[typeLookup_type,builtinLookup_eq_fast];kernel_rfl
theorem XN:typeLookup (.type "zip") "__length_hint__"=pure none:=by rw[typeLookup_type,builtinLookup_eq_fast];kernel_rfl
theorem XO{r:Addr}(hT:s.TypeIs (.ref r) "zip"){Q:Bool->Shared->Prop}(h:Q true s):wpAny (model prog w) A (Builtin.List.listLengthHint<|.ref r) Q E s:=by
 unfold Builtin.List.listLengthHint
 refine wpAny_bind<|wpAny_specialOf hT XM ?_
 show wpAny _ A (specialOf (Value.ref r) (Str.ofString "__length_hint__") >>=_) _ _ _
 refine wpAny_bind<|wpAny_specialOf hT XN ?_
 exact wpAny_pure h
def nO(h:Heap)(z TI TO i1 i2 l1 l2 S:Addr)(i:Nat):Prop:=IsPair h TI (.ref i1) (.ref i2)/\h.IsListIter i1 l1 i/\h.IsListIter i2 l2 i/\
 ((IsZip h z TI TO .none/\ ∃a b,IsPair h TO a b)\/ ∃a f oa,pP h z TI TO a f/\h.get? a=some oa/\a≠z/\a≠TO/\a≠i1/\a≠i2/\a≠S)
theorem XQ{z TI TO i1 i2 l1 l2 S:Addr}{i:Nat}{xs ys:Array Value}{x y:Value}{Q:Option Value->Shared->Prop}(D:ZipApart z TI TO i1 i2 l1 l2)(st:nO s.heap z TI TO i1 i2 l1 l2 S i)(hS:S<s.heap.objs.size)
  (da:s.heap.IsList l1 xs) (dO:s.heap.IsList l2 ys) (hx:xs[i]?=some x) (hy:ys[i]?=some y)
  (hQ: ∀h',nO h' z TI TO i1 i2 l1 l2 S (i+1)->IsPair h' s.heap.objs.size x y->h'.objs.size=s.heap.objs.size+1->(∀c o,c≠z->c≠TO->c≠i1->c≠i2->s.heap.get? c=some o->h'.get? c=some o)->Q (some<|.ref s.heap.objs.size) {s with heap:=h'}):
  wpAny (model prog w) A (pyNext<|.ref z) Q E s:=by
 obtain⟨cH,h1,h2,⟨hz,a,b,cM⟩ | ⟨a,f,oa,hz,ha,n1,n2,n3,n4,n5⟩⟩:=st
 ·have lt: ∀{c o},s.heap.get? c=some o->s.heap.objs.size≠c:=fun e=>zaE (Heap.lt_size e)
  refine wpAny_pyNext_zip_item D hz cH cM h1 h2 da dO hx hy fun h' a1 a2 a3 a4 a5 a6 a7=>hQ h' ⟨a7 _ _ D.TIz D.TITO D.TIi1 D.TIi2 cH,a3,a4, .inr ⟨_,false,_,a1,a5,lt hz,lt cM, ?_, ?_,zaE hS⟩⟩ a5 a6 a7
  ·obtain⟨_,e,_⟩:=h1;exact lt e
  ·obtain⟨_,e,_⟩:=h2;exact lt e
 ·have hT:s.TypeIs (.ref z) "zip":=⟨_,hz,rfl⟩
  unfold pyNext
  exact wpAny_bind (wpAny_attempt (wpAny_callSpecial?_slot (name:=Str.ofString "__next__") hT F.slot_zip_next
   (wpAny_call_entry F.slot_zip_next hT F.entry_zip_next
    (XE D hz ha cH h1 h2 da dO hx hy fun h' a1 a3 a4 a5 a6 a7=>wpAny_pure (hQ h' ⟨a7 _ _ D.TIz D.TIi1 D.TIi2 cH,a3,a4, .inr ⟨a,true,oa,a1,a7 _ _ n1 n3 n4 ha,n1,n2,n3,n4,n5⟩⟩ a5 a6 fun c o c1 _ c3 c4 e=>a7 c o c1 c3 c4 e)) (F.args_zip_next_1 _))))
theorem XR{z TI TO i1 i2 l1 l2 S:Addr}{i:Nat}{xs ys:Array Value}{Q:Option Value->Shared->Prop}(hh:A.handled=none)(D:ZipApart z TI TO i1 i2 l1 l2)(st:nO s.heap z TI TO i1 i2 l1 l2 S i)
  (da:s.heap.IsList l1 xs) (dO:s.heap.IsList l2 ys) (rn:xs[i]?=none\/ys[i]?=none)
  (hQ: ∀h',(∀c o,c≠z->c≠TO->c≠i1->c≠i2->s.heap.get? c=some o->h'.get? c=some o)->Q none {s with heap:=h'}):wpAny (model prog w) A (pyNext<|.ref z) Q E s:=by
 obtain⟨cH,h1,h2,⟨hz,a,b,cM⟩ | ⟨a,f,oa,hz,ha,n1,n2,n3,n4,n5⟩⟩:=st
 ·exact wpAny_pyNext_zip_end hh D hz cH cM h1 h2 da dO rn hQ
 ·have hT:s.TypeIs (.ref z) "zip":=⟨_,hz,rfl⟩
  unfold pyNext
  refine wpAny_bind (wpAny_attempt (wpAny_callSpecial?_slot (name:=Str.ofString "__next__") hT F.slot_zip_next
   (wpAny_call_entry F.slot_zip_next hT F.entry_zip_next (XI hh D hz ha cH h1 h2 da dO rn fun h' e hk he=> ?_) (F.args_zip_next_1 _))))
  obtain⟨o,ho,hc⟩:=he
  refine wpAny_bind<|wpAny_isInstance (T:="StopIteration") (b:=true) ⟨o,ho,hc⟩ isSubtype_stop ?_
  exact wpAny_pure<|hQ _ fun c o c1 _ c3 c4 e=>hk c o c1 c3 c4 e
theorem nO.keep{h h':Heap}{z TI TO i1 i2 l1 l2 S:Addr}{i:Nat}(st:nO h z TI TO i1 i2 l1 l2 S i)(hk: ∀b o,b≠S->h.get? b=some o->h'.get? b=some o)(n:z≠S/\TI≠S/\TO≠S/\i1≠S/\i2≠S):nO h' z TI TO i1 i2 l1 l2 S i:=by
 obtain⟨cH,h1,h2,⟨hz,a,b,cM⟩ | ⟨a,f,oa,hz,ha,n1,n2,n3,n4,n5⟩⟩:=st
 ·exact⟨hk _ _ n.2.1 cH,h1.at fun o e=>hk _ o n.2.2.2.1 e,h2.at fun o e=>hk _ o n.2.2.2.2 e, .inl ⟨hk _ _ n.1 hz,a,b,hk _ _ n.2.2.1 cM⟩⟩
 ·exact⟨hk _ _ n.2.1 cH,h1.at fun o e=>hk _ o n.2.2.2.1 e,h2.at fun o e=>hk _ o n.2.2.2.2 e, .inr ⟨a,f,oa,hk _ _ n.1 hz,hk _ _ n5 ha,n1,n2,n3,n4,n5⟩⟩
end
section
variable {prog:Program} {w:World} {A:Around} {s:Shared} {R:Result->Shared->Prop} {xs ys:Array Value}
structure ZG (xs ys:Array Value) (lo:Nat) (h:Heap) (as:List Addr):Prop where
 rise:as.Pairwise (· < ·)
 above: ∀a∈as,@LE.le Nat _ lo a
 pairs: ∀(j:Nat) (a:Addr),as[j]?=some a-> ∃x y,xs[j]?=some x/\ys[j]?=some y/\IsPair h a x y
theorem XS{S z TI TO i1 i2 l1 l2:Addr}{lo:Nat}(hh:A.handled=none)(D:ZipApart z TI TO i1 i2 l1 l2)(nS:z≠S/\TI≠S/\TO≠S/\i1≠S/\i2≠S)(hl: @LT.lt Nat _ z lo/\ @LT.lt Nat _ TO lo/\ @LT.lt Nat _ i1 lo/\ @LT.lt Nat _ i2 lo/\ @LT.lt Nat _ S lo)
  (n1:l1≠S) (n2:l2≠S) (hn:min xs.size ys.size<=sizeLine) (res:Value) {h₁:Heap}
  (hR: ∀h' tk acc c as,(∀b o,b≠S->b≠z->b≠TO->b≠i1->b≠i2->h₁.get? b=some o->h'.get? b=some o)->h'.get? S=some {cls:= .type "list",dict:=none,data:= .seq acc c,slots:= #[]}->as.length=min xs.size ys.size->ZG xs ys lo h' as->
   acc.toList=as.map Value.ref->R (.ok (.ret res)) {s with heap:=h',toks:=tk}):
  ∀(k i:Nat) (h:Heap) (tk c:Nat) (acc:Array Value) (as:List Addr),min xs.size ys.size - i=k->i<=min xs.size ys.size->nO h z TI TO i1 i2 l1 l2 S i->h.IsList l1 xs->h.IsList l2 ys->(∀b o,b≠S->b≠z->b≠TO->b≠i1->b≠i2->h₁.get? b=some o->h.get? b=some o)->
   h.get? S=some {cls:= .type "list",dict:=none,data:= .seq acc c,slots:= #[]}->acc.toList=as.map Value.ref->as.length=i->ZG xs ys lo h as-> @LE.le Nat _ lo h.objs.size->
   codeAny (model prog w) A (.builtin "list.extend.loop" ⟨[.ref S, .ref z,res],[]⟩) R {s with heap:=h,toks:=tk}:=by
 obtain⟨q1,q2,q3,q4,q5⟩:=hl
 have JP: ∀{a:Addr},@LE.le Nat _ lo a->a≠z/\a≠TO/\a≠i1/\a≠i2/\a≠S:=fun h=> ⟨zaE<|zar q1 h,zaE<|zar q2 h,zaE<|zar q3 h,zaE<|zar q4 h,zaE<|zar q5 h⟩
 intro k
 induction k with
 | zero=>
  intro i h tk c acc as hk hi jS xC pQ B7 hS ff jK hG vd
  have qv:i=min xs.size ys.size:=by lia
  refine codeAny_builtin PySem.F.entry_extend_loop ?_
  rw[Around.under_plainId PySem.F.plain_extend_loop _]
  show wpAny _ A.in1 (pyNext (.ref z) >>=_) _ _ _
  have rn:xs[i]?=none\/ys[i]?=none:=by
   rcases Nat.le_total xs.size ys.size with q | q
   ·exact .inl (Array.getElem?_eq_none (by lia))
   ·exact .inr (Array.getElem?_eq_none (by lia))
  refine wpAny_bind<|XR (s:={s with heap:=h,toks:=tk}) (A:=A.in1) hh D jS xC pQ rn fun h' he=> ?_
  refine wpAny_pure<|hR h' tk acc c as (fun b o b0 b1 b2 b3 b4 e=>he b o b1 b2 b3 b4<|B7 b o b0 b1 b2 b3 b4 e) (he S _ nS.1.symm nS.2.2.1.symm nS.2.2.2.1.symm nS.2.2.2.2.symm hS) (by lia) ⟨hG.rise,hG.above,fun j a hj=> ?_⟩ ff
  obtain⟨x,y,e1,e2,e3⟩:=hG.pairs j a hj
  obtain⟨f1,f2,f3,f4,f5⟩:=JP (hG.above a<|zae hj)
  exact⟨x,y,e1,e2,he a _ f1 f2 f3 f4 e3⟩
 | succ k ih=>
  intro i h tk c acc as hk hi jS xC pQ B7 hS ff jK hG vd
  have XT:i<xs.size:=by lia
  have XU:i<ys.size:=by lia
  have hsz:acc.size=i:=by rw[<-zbN,ff,zab,jK]
  refine codeAny_builtin PySem.F.entry_extend_loop ?_
  rw[Around.under_plainId PySem.F.plain_extend_loop _]
  show wpAny _ A.in1 (pyNext (.ref z) >>=_) _ _ _
  refine wpAny_bind<|XQ (s:={s with heap:=h,toks:=tk}) (S:=S) D jS (Heap.lt_size hS) xC pQ (zbq XT) (zbq XU) fun h' XW ht hz rp=> ?_
  dsimp only at ht hz rp⊢
  have m7:=rp S _ nS.1.symm nS.2.2.1.symm nS.2.2.2.1.symm nS.2.2.2.2.symm hS
  have up: ∀b o,b≠S->h'.get? b=some o->(h'.update S (Obj.mapSeq (·.push (Value.ref h.objs.size)))).get? b=some o:=fun b o hb e=> (Heap.get?_update_other _ _<|Ne.symm hb).trans e
  have JQ:S<h.objs.size:=Heap.lt_size hS
  show wpAny _ A.in1 (updateSeq S (·.push (Value.ref h.objs.size)) >>=_) _ _ _
  refine wpAny_bind ?_
  refine wpAny_updateSeq m7 rfl (wpAny_pure ⟨plainId_quiet PySem.F.plain_extend_loop _,ih (i+1) _ tk _ (acc.push (Value.ref h.objs.size)) (as++ [h.objs.size]) (by lia) (by lia) (XW.keep up nS) (xC.at fun o e=>up l1 o n1 (rp l1 o D.l1z D.l1TO D.l1i1 D.l1i2 e)) (pQ.at fun o e=>up l2 o n2 (rp l2 o D.l2z D.l2TO D.l2i1 D.l2i2 e))
   (fun b o b0 b1 b2 b3 b4 e=>up b o b0 (rp b o b1 b2 b3 b4 (B7 b o b0 b1 b2 b3 b4 e))) (Heap.get?_update_self _ m7 rfl) (by rw[Array.toList_push,ff,zap];rfl) (by rw[zqA,jK];rfl) ⟨?_, ?_, ?_⟩ ?_⟩) (by rw[hsz];lia) (by show(acc.push (Value.ref h.objs.size)).size<=sizeLine+1;rw[Array.size_push,hsz];lia)
  ·refine List.pairwise_append.mpr ⟨hG.rise,List.pairwise_singleton _ _,fun a ha b hb=> ?_⟩
   rw[zac.mp hb]
   obtain⟨j,hj⟩:=zbn.mp ha
   obtain⟨_,_,_,_,e⟩:=hG.pairs j a hj
   exact Heap.lt_size e
  ·intro a ha
   rcases zad.mp ha with ha | ha
   ·exact hG.above a ha
   ·rw[zac.mp ha];exact vd
  ·intro j b hj
   rcases Nat.lt_trichotomy j as.length with h1 | h1 | h1
   ·rw[zaz h1] at hj
    obtain⟨x',y',e1,e2,e3⟩:=hG.pairs j b hj
    obtain⟨f1,f2,f3,f4,f5⟩:=JP (hG.above b<|zae hj)
    exact⟨x',y',e1,e2,up b _ f5<|rp b _ f1 f2 f3 f4 e3⟩
   ·subst h1
    have hb:h.objs.size=b:=by simpa using hj
    subst hb
    refine⟨xs[as.length],ys[as.length], ?_, ?_,up _ _ (zaE JQ) ?_⟩
    ·exact zbq (by lia)
    ·exact zbq (by lia)
    ·subst jK;exact ht
   ·have XX:(as++ [h.objs.size])[j]?=none:=zcf (by rw[zqA,zaQ];lia)
    rw[XX] at hj;cases hj
  ·have e:(h'.update S (Obj.mapSeq (·.push (Value.ref h.objs.size)))).get? h.objs.size=_:=up _ _ (zaE JQ) ht
   exact zbw<|Nat.lt_of_le_of_lt vd<|Heap.lt_size e
end
section
variable {prog:Program} {w:World} {A:Around} {E:Value->Shared->Prop} {s:Shared} {xs ys:Array Value}
theorem XY{z TI TO i1 i2 l1 l2 S:Addr}{R:Result->Shared->Prop}(hh:A.handled=none)(D:ZipApart z TI TO i1 i2 l1 l2)(nS:z≠S/\TI≠S/\TO≠S/\i1≠S/\i2≠S)(n1:l1≠S)(n2:l2≠S)(hn:min xs.size ys.size<=sizeLine)
  (hz:IsZip s.heap z TI TO .none) (cH:IsPair s.heap TI (.ref i1) (.ref i2)) (cM: ∃a b,IsPair s.heap TO a b) (h1:s.heap.IsListIter i1 l1 0) (h2:s.heap.IsListIter i2 l2 0) (da:s.heap.IsList l1 xs) (dO:s.heap.IsList l2 ys)
  (res:Value) (c₀:Nat) (hS:s.heap.get? S=some {cls:= .type "list",data:= .seq #[] c₀})
  (hR: ∀h' tk acc c as,(∀b o,b≠S->b≠z->b≠TO->b≠i1->b≠i2->s.heap.get? b=some o->h'.get? b=some o)->h'.get? S=some {cls:= .type "list",dict:=none,data:= .seq acc c,slots:= #[]}->as.length=min xs.size ys.size->ZG xs ys s.heap.objs.size h' as->
   acc.toList=as.map Value.ref->R (.ok (.ret res)) {s with heap:=h',toks:=tk}):
  wpAny (model prog w) A.in1 (Builtin.List.listExtendWith (.ref S) (.ref z) res)
   (fun fin s'=>match fin with | .done f=>R (.ok f) s' | .again c'=>c'.quiet=true/\codeAny (model prog w) A c' R s') (fun e s'=>R (.error e) s') s:=by
 have hT:s.TypeIs (.ref z) "zip":=⟨_,hz,rfl⟩
 unfold Builtin.List.listExtendWith
 refine wpAny_bind<|wpAny_typeOf hT ?_
 have e1:Builtin.List.listSameRef (.ref S) (.ref z)=false:=by simp[Builtin.List.listSameRef,nS.1.symm]
 have e2:(Value.type "zip"==Value.type "list")=false:=by decide
 have e3:(Value.type "zip"==Value.type "tuple")=false:=by decide
 simp only[e1,e2,e3,zbp,zaR,if_false]
 refine wpAny_bind<|wpAny_pyIter_zip hz ?_
 refine wpAny_bind<|wpAny_holding<|XO hT ?_
 show wpAny _ A.in1 (rule "list.extend.makes-room" >>=fun _=>Builtin.List.listTouch (.ref S) >>=fun _=>
  again (.builtin "list.extend.loop" ⟨[.ref S, .ref z,res],[]⟩)) _ _ _
 refine wpAny_bind<|wpAny_rule ?_
 refine wpAny_bind ?_
 show wpAny _ A.in1 (updateSeq S (·.push .none) >>=fun _=>updateSeq S (·.pop)) _ _ _
 refine wpAny_bind<|wpAny_updateSeq hS rfl ?_
 have qD:=Heap.get?_update_self (Obj.mapSeq (·.push Value.none)) hS rfl
 refine wpAny_updateSeq (hz:=by seq_fits) qD rfl ?_
 have XZ:=Heap.get?_update_self (Obj.mapSeq (·.pop)) qD rfl
 have fX: ∀b o,b≠S->s.heap.get? b=some o->((s.heap.update S (Obj.mapSeq (·.push Value.none))).update S (Obj.mapSeq (·.pop))).get? b=some o:=
  fun b o hb e=> (Heap.get?_update_other _ _<|Ne.symm hb).trans ((Heap.get?_update_other _ _<|Ne.symm hb).trans e)
 have lt: ∀{c o},s.heap.get? c=some o-> @LT.lt Nat _ c s.heap.objs.size:=fun e=>Heap.lt_size e
 obtain⟨a,b,cM⟩:=cM
 refine wpAny_pure ⟨plainId_quiet F.plain_extend_loop _,XS (s:=s) (h₁:=s.heap) (lo:=s.heap.objs.size) hh D nS ⟨lt hz,lt cM, ?_, ?_,lt hS⟩ n1 n2 hn res hR _ 0 _ _ _ _ [] rfl (zqZ _)
  (nO.keep ⟨cH,h1,h2, .inl ⟨hz,a,b,cM⟩⟩ fX nS) (da.at fun o e=>fX l1 o n1 e) (dO.at fun o e=>fX l2 o n2 e) (fun b o b0 _ _ _ _ e=>fX b o b0 e) XZ rfl rfl ⟨List.Pairwise.nil,(fun _ ha=>nomatch ha),(fun j a hj=>by simp at hj)⟩ ?_⟩
 ·obtain⟨_,e,_⟩:=h1;exact lt e
 ·obtain⟨_,e,_⟩:=h2;exact lt e
 ·rw[Heap.size_update,Heap.size_update];exact zqR _
theorem X0{z TI TO i1 i2 l1 l2 S:Addr}{R:Result->Shared->Prop}(hh:A.handled=none)(D:ZipApart z TI TO i1 i2 l1 l2)(nS:z≠S/\TI≠S/\TO≠S/\i1≠S/\i2≠S)(n1:l1≠S)(n2:l2≠S)(hn:min xs.size ys.size<=sizeLine)
  (hz:IsZip s.heap z TI TO .none) (cH:IsPair s.heap TI (.ref i1) (.ref i2)) (cM: ∃a b,IsPair s.heap TO a b) (h1:s.heap.IsListIter i1 l1 0) (h2:s.heap.IsListIter i2 l2 0) (da:s.heap.IsList l1 xs) (dO:s.heap.IsList l2 ys)
  (hS:s.heap.get? S=some {cls:= .type "list",data:= .seq #[]})
  (hR: ∀h' tk acc c as,(∀b o,b≠S->b≠z->b≠TO->b≠i1->b≠i2->s.heap.get? b=some o->h'.get? b=some o)->h'.get? S=some {cls:= .type "list",dict:=none,data:= .seq acc c,slots:= #[]}->as.length=min xs.size ys.size->ZG xs ys s.heap.objs.size h' as->
   acc.toList=as.map Value.ref->R (.ok (.ret .none)) {s with heap:=h',toks:=tk}):
  wpAny (model prog w) A.in1 (Builtin.«list.__init__» ⟨[.ref S, .ref z],[]⟩)
   (fun fin s'=>match fin with | .done f=>R (.ok f) s' | .again c'=>c'.quiet=true/\codeAny (model prog w) A c' R s') (fun e s'=>R (.error e) s') s:=by
 show wpAny _ _ (do let old <-Builtin.List.listItems (.ref S);Builtin.List.listUpdate (.ref S) (fun _=> #[]);letGo old.toList.reverse;Builtin.List.listExtendWith (.ref S) (.ref z) .none) _ _ s
 refine wpAny_bind ?_
 unfold Builtin.List.listItems
 refine wpAny_bind<|wpAny_seqItems hS rfl<|wpAny_pure ?_
 show wpAny _ _ (updateSeq S (fun _=> #[]) >>=fun _=>letGo (#[]:Array Value).toList.reverse>>=fun _=>Builtin.List.listExtendWith (.ref S) (.ref z) .none) _ _ s
 refine wpAny_bind<|wpAny_updateSeq hS rfl ?_
 have qD:=Heap.get?_update_self (Obj.mapSeq<|fun _=> (#[]:Array Value)) hS rfl
 have fX: ∀b o,b≠S->s.heap.get? b=some o->(s.heap.update S<|Obj.mapSeq<|fun _=> (#[]:Array Value)).get? b=some o:=
  fun b o hb e=> (Heap.get?_update_other _ _<|Ne.symm hb).trans e
 refine wpAny_bind<|wpAny_letGo ?_
 obtain⟨a,b,cM⟩:=cM
 refine XY hh D nS n1 n2 hn (fX _ _ nS.1 hz) (fX _ _ nS.2.1 cH) ⟨a,b,fX _ _ nS.2.2.1 cM⟩ (h1.at fun o e=>fX _ o nS.2.2.2.1 e) (h2.at fun o e=>fX _ o nS.2.2.2.2 e) (da.at fun o e=>fX l1 o n1 e) (dO.at fun o e=>fX l2 o n2 e) .none _ qD fun h' tk acc c as hk m7 hl hG ff=> ?_
 rw[Heap.size_update] at hG
 exact hR h' tk acc c as (fun b o b0 b1 b2 b3 b4 e=>hk b o b0 b1 b2 b3 b4<|fX b o b0 e) m7 hl hG ff
theorem X1{z TI TO i1 i2 l1 l2:Addr}{Q:Value->Shared->Prop}(hh:A.handled=none)(D:ZipApart z TI TO i1 i2 l1 l2)(hn:min xs.size ys.size<=sizeLine)
  (hz:IsZip s.heap z TI TO .none) (cH:IsPair s.heap TI (.ref i1) (.ref i2)) (cM: ∃a b,IsPair s.heap TO a b) (h1:s.heap.IsListIter i1 l1 0) (h2:s.heap.IsListIter i2 l2 0) (da:s.heap.IsList l1 xs) (dO:s.heap.IsList l2 ys)
  (hQ: ∀h' tk acc c as,(∀b o,b≠z->b≠TO->b≠i1->b≠i2->s.heap.get? b=some o->h'.get? b=some o)->h'.get? s.heap.objs.size=some {cls:= .type "list",dict:=none,data:= .seq acc c,slots:= #[]}->as.length=min xs.size ys.size->ZG xs ys (s.heap.objs.size+1) h' as->
   acc.toList=as.map Value.ref->Q (.ref s.heap.objs.size) {s with heap:=h',toks:=tk}):
  wpAny (model prog w) A (call (.type "list") [.ref z]) Q E s:=by
 refine callType_codes (Q₁:=fun obj s₁=>obj= .ref s.heap.objs.size/\s₁={s with heap:=s.heap.push {cls:= .type "list",data:= .seq #[]}}) PySem.F.called_list (PySem.F.typeCall_list_1 _) PySem.F.entry_list_init
  (code_list_new _ ⟨rfl,rfl⟩) fun obj s₁ h₁=> ?_
 obtain⟨rfl,rfl⟩:=h₁
 have hS:(s.heap.push {cls:= .type "list",data:= .seq #[]}).get? s.heap.objs.size=some {cls:= .type "list",data:= .seq #[]}:=Heap.get?_push_size _ rfl
 have ne: ∀{c o},s.heap.get? c=some o->c≠s.heap.objs.size:=fun e=>zan (Heap.lt_size e)
 obtain⟨a,b,cM⟩:=cM
 have p: ∀c o,s.heap.get? c=some o->(s.heap.push {cls:= .type "list",data:= .seq #[]}).get? c=some o:=fun c o e=>Heap.get?_push_of_some _ e
 refine⟨⟨_,hS,rfl⟩,PySem.F.args_list_init_2 _ _,X0 (A:=A.in1) hh D ⟨ne hz,ne cH,ne cM, ?_, ?_⟩ ?_ ?_ hn (p _ _ hz) (p _ _ cH) ⟨a,b,p _ _ cM⟩ (h1.at fun o e=>p _ o e) (h2.at fun o e=>p _ o e) (da.at fun o e=>p _ o e) (dO.at fun o e=>p _ o e) hS fun h' tk acc c as hk m7 hl hG ff=> ?_⟩
 ·obtain⟨_,e,_⟩:=h1;exact ne e
 ·obtain⟨_,e,_⟩:=h2;exact ne e
 ·obtain⟨_,e,_⟩:=da;exact ne e
 ·obtain⟨_,e,_⟩:=dO;exact ne e
 rw[Heap.size_push] at hG
 exact⟨rfl,hQ h' tk acc c as (fun b o b1 b2 b3 b4 e=>hk b o (ne e) b1 b2 b3 b4<|p b o e) m7 hl hG ff⟩
end
end ZL
namespace L2
open PySem PySem.Spec PyProof.Rows
def B8(K:Frag):List V->Hp->VK->Prop:=fun vs H Q=> ∃a b xs ys,vs=[.ref a, .ref b]/\aq K H a xs/\aq K H b ys/\ ∀(ts:List Addr) (l:Addr) (H':Hp),ts.length=min xs.length ys.length->aB H H'->(∀t∈ts,H t=none)->H l=none->
 (∀(i:Nat) (t:Addr),ts[i]?=some t-> ∃u v,xs[i]?=some u/\ys[i]?=some v/\H' t=some (.tup [u,v]))->H' l=some (.lst<|ts.map V.ref)->Q (.ref l) H'
def JR:Frag->TA->TE:=fun K t=>gg (B8 K) t
section
variable {X:Cx} {pins:List (Addr×Obj)} {σ:St} {H:Hp} {s s1:Shared}
theorem JS{H0:Hp}(I0:Inv X pins σ H0 s1): ∀(ts:List Addr) {H:Hp},Inv X pins σ H s->(∀t∈ts,s1.heap.objs.size<=t/\H t=none/\ ∃u v a b,RelV a u/\RelV b v/\s.heap.IsTuple t #[u,v])->ts.Nodup->
  ∃H',Inv X pins σ H' s/\aB H H'/\(∀t∈ts,∃u v a b,RelV a u/\RelV b v/\s.heap.IsTuple t #[u,v]/\H' t=some (.tup [a,b]))/\ ∀c,c∉ts->H' c=H c
 | [],H,I,_,_=> ⟨H,I,fun _ _ e=>e,(fun _ h=>nomatch h),fun _ _=>rfl⟩
 | T::ts,H,I,h,nd=>by
  obtain⟨jB,fT,u,v,a,b,ra,rb,tT⟩:=h T zas
  have I2:Inv X pins σ (upd H T<|.tup [a,b]) s:=by
   refine Inv.vi I fT (zaw I0.sz jB) (zaE<|zar I0.lt jB) (fun x c e q=> ?_) (fun p hp q=> ?_) ⟨by show 2<=sizeLine;decide,[u,v], .cons ra<|.cons rb .nil,tT⟩
   ·obtain⟨v',q'⟩:=I0.cell x c e
    have:=q'.lt
    rw[q] at this
    exact absurd (zar this jB)<|zaA _
   ·have:=Heap.lt_size (I0.pin p hp).1
    rw[q] at this
    exact absurd (zar this jB)<|zaA _
  have nT:T∉ts:=(zaN.mp nd).1
  obtain⟨H',I',sm,al,ot⟩:=JS I0 ts I2 (fun t ht=>by
   obtain⟨q1,q2,q3⟩:=h t (zaj _ ht)
   exact⟨q1,by rw[aN (show t≠T from fun e=>nT (by rw[<-e];exact ht))];exact q2,q3⟩) (zaN.mp nd).2
  refine⟨H',I',fun c o e=>sm _ _ (by rw[aN (fun z=>by rw[z,fT] at e;cases e)];exact e),fun t ht=> ?_,fun c hc=> ?_⟩
  ·rcases zaa.mp ht with rfl | ht
   ·exact⟨u,v,a,b,ra,rb,tT,by rw[ot _ nT,au]⟩
   ·exact al t ht
  ·rw[ot c<|fun q=>hc<|zaj _ q,aN (show c≠T from fun e=>hc (by rw[e];exact zas))]
end
section
variable {CX:bN} {S:cz} {Γ:aQ} {X:Cx} {e1 e2:Expr} {es:List Expr} {x y:Str} {p p2 pos kg:Pos} {r1 r2:RE} {rs:List RE}
theorem X3{t:TA}(hc:X.calm=true)(g1:Gl X "list")(m1:X.mg "list"=none)(g2:Gl X "zip")(m2:X.mg "zip"=none)(ha:PA X [e1,e2] t)(hs:starEach [e1,e2] X.env=(false,eval e1 X.env)::starEach [e2] X.env)(iS:(backTo kg<|starEach [e2] X.env).any (·.1)=false):
  PE X (.Call (.Name "list" p) [.Call (.Name "zip" p2) [e1,e2] [] kg] [] pos) (gg (B8 X.K) t):=by
 intro pins s σ H Q I h
 refine wpAny_Call_Name_kw<|kN I g1 m1 zY ?_ (by decide) (by decide)
 refine PyProof.Rows.callWith_type1 ?_ rfl rfl
 show wpAny _ _ (spliced ((false,eval (.Call (.Name "zip" p2) [e1,e2] [] kg) X.env)::backTo pos (starEach [] X.env))) _ _ s
 refine Calls.spliced_cons ?_
 refine wpAny_Call_Name_kw<|kN I g2 m2 boot_zip ?_ (by decide) (by decide)
 refine PyProof.Rows.callWith_type1 ?_ hs iS
 refine aH (ha kg pins s σ H _ I h) fun us s1 ⟨vs,H1,I1,r1,q1⟩=> ?_
 obtain⟨l1,l2,xs,ys,rfl,hx,hy,q⟩:=q1
 obtain⟨u,v,rfl,ru,rv⟩:=vals2 r1
 cases ru
 cases rv
 obtain⟨jA,vC,p1,z1⟩:=I1.list hx
 obtain⟨eQ,vD,p2,z2⟩:=I1.list hy
 have da:=vC.length
 have dO:=vD.length
 refine call_zip_2 p1.isList p2.isList fun h' a1 a2 a3 a4 a5 a6 hk=> ?_
 refine Calls.spliced_nil ?_
 have RL: @LT.lt Nat _ l1 s1.heap.objs.size:=by obtain⟨_,e,_⟩:=p1.isList;exact Heap.lt_size e
 have RM: @LT.lt Nat _ l2 s1.heap.objs.size:=by obtain⟨_,e,_⟩:=p2.isList;exact Heap.lt_size e
 have D:ZipApart (s1.heap.objs.size+4) (s1.heap.objs.size+2) (s1.heap.objs.size+3) s1.heap.objs.size (s1.heap.objs.size+1) l1 l2:=by
  constructor<;> (show @Ne Nat _ _;lia)
 refine ZL.X1 (s:={s1 with heap:=h'}) (xs:=jA.toArray) (ys:=eQ.toArray) (I.ok.hd hc) D (by simp only[zag];lia) a1 a2 ⟨_,_,a3⟩ a4 a5 (p1.isList.at fun o e=>hk _ o e) (p2.isList.at fun o e=>hk _ o e) fun h2 tk acc c as kp eS jK hG ff=> ?_
 dsimp only at kp eS hG⊢
 rw[a6] at hG eS
 have kk: ∀b o,s1.heap.get? b=some o->h2.get? b=some o:=fun b o e=>by
  have lt: @LT.lt Nat _ b s1.heap.objs.size:=Heap.lt_size e
  refine kp b o ?_ ?_ ?_ ?_ (hk b o e) <;> (show @Ne Nat _ _;lia)
 have I2:Inv X pins σ H1 {s1 with heap:=h2,toks:=tk}:=I1.kept kk
 have rm: ∀t∈as,@LE.le Nat _ (s1.heap.objs.size+6) t:=fun t ht=>hG.above t ht
 have ub: ∀t∈as,∃u v a b,RelV a u/\RelV b v/\h2.IsTuple t #[u,v]:=fun t ht=>by
  obtain⟨j,hj⟩:=zbn.mp ht
  obtain⟨u,v,e1,e2,e3⟩:=hG.pairs j t hj
  have e1:jA[j]?=some u:=by simpa using e1
  have e2:eQ[j]?=some v:=by simpa using e2
  have j1:j<xs.length:=by have:=(zak.mp e1).1;lia
  have j2:j<ys.length:=by have:=(zak.mp e2).1;lia
  obtain⟨u',q1,q2⟩:=vC.get (i:=j) (x:=xs[j]) (by simp[j1])
  obtain⟨v',q3,q4⟩:=vD.get (i:=j) (x:=ys[j]) (by simp[j2])
  rw[e1] at q1;cases q1
  rw[e2] at q3;cases q3
  exact⟨u,v,_,_,q2,q4,⟨_,e3,rfl,_,rfl⟩⟩
 have nd:as.Nodup:=hG.rise.imp fun h=>zan h
 have fr: ∀t∈as,H1 t=none:=fun t ht=>I1.aE.fresh (zaw (zbk _ 6)<|rm t ht)
 obtain⟨H',I3,sm,al,ot⟩:=JS I1 as I2 (fun t ht=> ⟨zaw (zbk _ 6)<|rm t ht,fr t ht,ub t ht⟩) nd
 have nl:s1.heap.objs.size+5∉as:=fun q=>absurd (rm _ q) (by lia)
 have uc:s1.heap.objs.size<=s1.heap.objs.size+5:=zbk _ 5
 have fl:H1 (s1.heap.objs.size+5)=none:=I1.aE.fresh uc
 have rl:Vals (as.map V.ref) acc.toList:=by
  rw[ff]
  clear ff hG jK ub nd fr al ot nl rm
  induction as with
  | nil=>exact .nil
  | cons t ts ih=>exact .cons rfl ih
 have ml:min xs.length ys.length<=sizeLine:=by lia
 have JT:as.length=min xs.length ys.length:=by rw[jK];simp only[zag];lia
 have I4:Inv X pins σ (upd H' (s1.heap.objs.size+5)<|.lst<|as.map V.ref) {s1 with heap:=h2,toks:=tk}:=by
  refine Inv.vi I3 (by rw[ot _ nl];exact fl) (zaw I1.sz uc) (zaE<|zar I1.lt uc) (fun x c e q=> ?_) (fun p hp q=> ?_) ⟨by rw[zab,JT];exact ml,acc.toList,c,rl,by simpa using eS⟩
  ·obtain⟨v',q'⟩:=I1.cell x c e
   have:=q'.lt
   rw[q] at this
   exact absurd (zar this uc)<|zaA _
  ·have:=Heap.lt_size (I1.pin p hp).1
   rw[q] at this
   exact absurd (zar this uc)<|zaA _
 show EP X pins σ Q (.ref h'.objs.size) _
 rw[a6]
 refine⟨.ref<|s1.heap.objs.size+5,_,I4,rfl,q as (s1.heap.objs.size+5) _ JT (fun b o e=> ?_) fr fl (fun i t hi=> ?_) au⟩
 ·rw[aN (fun z=>by rw[z,fl] at e;cases e)];exact sm _ _ e
 ·obtain⟨u,v,e1,e2,e3⟩:=hG.pairs i t hi
  obtain⟨u',v',a,b,ra,rb,tT,e⟩:=al t (zae hi)
  have eu:u'=u/\v'=v:=by
   obtain⟨o,ho,_,n,hd⟩:=tT
   rw[e3] at ho;cases ho
   injection hd with hd
   simp at hd
   exact⟨hd.1.symm,hd.2.symm⟩
  obtain⟨rfl,rfl⟩:=eu
  have e1:jA[i]?=some u':=by simpa using e1
  have e2:eQ[i]?=some v':=by simpa using e2
  have j1:i<xs.length:=by have:=(zak.mp e1).1;lia
  have j2:i<ys.length:=by have:=(zak.mp e2).1;lia
  obtain⟨u2,q1,q2⟩:=vC.get (i:=i) (x:=xs[i]) (by simp[j1])
  obtain⟨v2,q3,q4⟩:=vD.get (i:=i) (x:=ys[i]) (by simp[j2])
  rw[e1] at q1;cases q1
  rw[e2] at q3;cases q3
  refine⟨xs[i],ys[i],by simp[j1],by simp[j2], ?_⟩
  rw[aN (show t≠s1.heap.objs.size+5 from fun z=>nl (by rw[<-z];exact zae hi)),e,ra.inj q2,rb.inj q4]
theorem X4(G:Good CX S Γ X)(hA:PA X [e1,e2] (aY Γ [r1,r2]))(h:kB S x "list"=true:=by kernel_rfl)(h':kB S y "zip"=true:=by kernel_rfl)(hn:gi [e1,e2]=true:=by kernel_rfl)(hq:S.md=0:=by rfl):PE X (.Call (.Name x p) [.Call (.Name y p2) [e1,e2] [] kg] [] pos) (af Γ<|.xt JR [r1,r2]):=by
 simp only[kB,zah,decide_eq_true_eq] at h h'
 obtain⟨⟨rfl,h2⟩,h3⟩:=h
 obtain⟨⟨rfl,h5⟩,h6⟩:=h'
 show PE X _ (gg (B8 Γ.K)<|aY Γ [r1,r2])
 rw[<-G.K]
 have n1:=eI hn
 exact X3 (G.calm hq) (G.gl h2) (G.ik _ h3) (G.gl h5) (G.ik _ h6) hA (e_ n1.1)<|j5 _ _ _ n1.2
end
end L2
namespace L2.N
open PySem PySem.Spec L2.B
def kids(pars:List (Option Nat))(i:Nat):List Nat:=(List.range pars.length).filter fun j=>pars[j]?==some (some i)
def aZ(M:List Addr)(H H':Hp):Prop:= ∀b o,H b=some o->b∉M->H' b=some o
theorem aZ.trans{M:List Addr}{H H1 H2:Hp}(a:aZ M H H1)(b:aZ M H1 H2):aZ M H H2:=fun c o e n=>b c o (a c o e n) n
theorem aZ.of{M:List Addr}{H H':Hp}(s:aB H H'):aZ M H H':=fun c o e _=>s c o e
theorem aZ.upd{M:List Addr}{H:Hp}{c:Addr}{o:HO}(h:c∈M):aZ M H (L2.upd H c o):=fun b u e n=>by rw[aN (show b≠c from fun z=>n (by rw[z];exact h))];exact e
theorem aU{H:Hp}{a b:Addr}{o o':HO}(n:a≠b)(h:H a=some o):L2.upd H b o' a=some o:=by rw[aN n];exact h
def ia(M:List Addr)(H:Hp):Prop:= ∀x∈M,∃o,H x=some o/\ ∀ys,o≠ .tup ys
theorem ia.same{M:List Addr}{H H':Hp}(h:ia M H)(s:aB H H'):ia M H':=fun x hx=> (h x hx).imp fun o e=> ⟨s _ _ e.1,e.2⟩
theorem ia.upd{M:List Addr}{H:Hp}{c:Addr}{xs:List V}(h:ia M H):ia M (L2.upd H c<|.lst xs):=fun x hx=>by
 by_cases z:x=c
 ·subst z;exact⟨_,au,fun ys e=>by cases e⟩
 ·rw[aN z];exact h x hx
theorem ia.no{M:List Addr}{H:Hp}{a:Addr}(h:ia M H)(f:H a=none):a∉M:=fun q=>by
 obtain⟨o,e,_⟩:=h a q
 rw[f] at e;cases e
theorem ia.bz{M:List Addr}{H H':Hp}(h:ia M H)(b:aZ M H H'):fg H H':=fun c xs e=>b c _ e fun q=>by
 obtain⟨o,e',n⟩:=h c q
 rw[e'] at e
 exact n xs<|zal e
structure B9 (p lo pa ed be lg:Addr) (bs:List Addr):Prop where
 nd:(p::lo::pa::ed::be::lg::bs).Nodup
section
variable {p lo pa ed be lg:Addr} {bs:List Addr}
theorem B9.l(A:B9 p lo pa ed be lg bs):(p≠lo/\p≠pa/\p≠ed/\p≠be/\p≠lg/\p∉bs)/\(lo≠pa/\lo≠ed/\lo≠be/\lo≠lg/\lo∉bs)/\(pa≠ed/\pa≠be/\pa≠lg/\pa∉bs)/\(ed≠be/\ed≠lg/\ed∉bs)/\(be≠lg/\be∉bs)/\lg∉bs/\bs.Nodup:=by
 have h:=A.nd
 simp only[zaN,zaa,not_or] at h
 exact⟨⟨h.1.1,h.1.2.1,h.1.2.2.1,h.1.2.2.2.1,h.1.2.2.2.2.1,h.1.2.2.2.2.2⟩,⟨h.2.1.1,h.2.1.2.1,h.2.1.2.2.1,h.2.1.2.2.2.1,h.2.1.2.2.2.2⟩,⟨h.2.2.1.1,h.2.2.1.2.1,h.2.2.1.2.2.1,h.2.2.1.2.2.2⟩,⟨h.2.2.2.1.1,h.2.2.2.1.2.1,h.2.2.2.1.2.2⟩,⟨h.2.2.2.2.1.1,h.2.2.2.2.1.2⟩,h.2.2.2.2.2.1,h.2.2.2.2.2.2⟩
end
def B_(es:List V):List Addr:=es.filterMap fun v=>match v with | .ref a=>some a | _=>none
structure iJ (C:Addr) (H:Hp) (p:Addr) (M Ed:List Addr) (here:Nat) (pars:List (Option Nat)) (aJ:List (List Nat)) (last:List (Option Nat)) (T:Nat) (dx lo pa ed be lg:Addr) (bs:List Addr) (es:List V):Prop where
 ob:jI C H p dx lo pa ed be lg here (aJ.map List.length) pars
 eM:M=p::lo::pa::ed::be::lg::bs
 ap:B9 p lo pa ed be lg bs
 he:H ed=some (.lst es)
 le:es.length=pars.length
 ea:B_ es=Ed
 e0:es[0]?=some .aC
 ev:pO H es pars aJ T
 en: ∀(i:Nat) (a:Addr),es[i]?=some (V.ref a)->a∉M
 hb:H be=some (.lst<|bs.map V.ref)
 lb:bs.length=pars.length
 hk: ∀(i:Nat) (b:Addr),bs[i]?=some b->H b=some (.lst<|iV<|kids pars i)
 hg:H lg=some (.lst<|last.map gV)
 pR:last.length=pars.length
def cC(C:Addr)(H:Hp)(p:Addr)(M Ed:List Addr)(here:Nat)(pars:List (Option Nat))(aJ:List (List Nat))(last:List (Option Nat))(T:Nat):Prop:= ∃dx lo pa ed be lg bs es,iJ C H p M Ed here pars aJ last T dx lo pa ed be lg bs es
section
variable {C:Addr} {H H':Hp} {p:Addr} {M Ed:List Addr} {here:Nat} {pars:List (Option Nat)} {aJ:List (List Nat)} {last:List (Option Nat)} {T:Nat} {dx lo pa ed be lg:Addr} {bs:List Addr} {es:List V}
theorem iJ.same(A:iJ C H p M Ed here pars aJ last T dx lo pa ed be lg bs es)(s:aB H H'):iJ C H' p M Ed here pars aJ last T dx lo pa ed be lg bs es:=
 ⟨A.ob.same s,A.eM,A.ap,s _ _ A.he,A.le,A.ea,A.e0,A.ev.same s,A.en,s _ _ A.hb,A.lb,fun i b e=>s _ _<|A.hk i b e,s _ _ A.hg,A.pR⟩
theorem cC.same(A:cC C H p M Ed here pars aJ last T)(s:aB H H'):cC C H' p M Ed here pars aJ last T:=by
 obtain⟨dx,lo,pa,ed,be,lg,bs,es,A⟩:=A
 exact⟨dx,lo,pa,ed,be,lg,bs,es,A.same s⟩
theorem iJ.live(A:iJ C H p M Ed here pars aJ last T dx lo pa ed be lg bs es):ia M H:=fun x h=>by
 rw[A.eM] at h
 rcases zaa.mp h with rfl | h
 ·exact⟨_,A.ob.ob,fun ys e=>by cases e⟩
 rcases zaa.mp h with rfl | h
 ·exact⟨_,A.ob.ol,fun ys e=>by cases e⟩
 rcases zaa.mp h with rfl | h
 ·exact⟨_,A.ob.op,fun ys e=>by cases e⟩
 rcases zaa.mp h with rfl | h
 ·exact⟨_,A.he,fun ys e=>by cases e⟩
 rcases zaa.mp h with rfl | h
 ·exact⟨_,A.hb,fun ys e=>by cases e⟩
 rcases zaa.mp h with rfl | h
 ·exact⟨_,A.hg,fun ys e=>by cases e⟩
 obtain⟨i,hi⟩:=zbn.mp h
 exact⟨_,A.hk i x hi,fun ys e=>by cases e⟩
theorem iJ.X5(A:iJ C H p M Ed here pars aJ last T dx lo pa ed be lg bs es){a:Addr}(h:a∈Ed): ∃xs,H a=some (.lst xs):=by
 rw[<-A.ea] at h
 obtain⟨v,hv,e⟩:=zbx.mp h
 obtain⟨i,hi⟩:=zbn.mp hv
 have e:v= .ref a:=by
  cases v with
  | ref b=>exact congrArg V.ref (zal e)
  | _=>cases e
 subst e
 have h0:i≠0:=fun z=>by rw[z,A.e0] at hi;cases hi
 obtain⟨j,hj,_⟩:=A.ob.tr.up i (by lia) (by rw[<-A.le];exact(zak.mp hi).1)
 obtain⟨a',ps,lj,li,h1,_,_,⟨xs,hx,_⟩,_⟩:=A.ev i j hj
 rw[hi] at h1;cases h1
 exact⟨xs,hx⟩
theorem iJ.keep(A:iJ C H p M Ed here pars aJ last T dx lo pa ed be lg bs es)(k: ∀b o,b∈M\/b∈Ed->H b=some o->H' b=some o)(t:fg H H'):iJ C H' p M Ed here pars aJ last T dx lo pa ed be lg bs es:=by
 have kM: ∀b o,b∈p::lo::pa::ed::be::lg::bs->H b=some o->H' b=some o:=fun b o h e=>k b o (.inl (by rw[A.eM];exact h)) e
 refine⟨⟨kM _ _ (by simp) A.ob.ob,kM _ _ (by simp) A.ob.ol,kM _ _ (by simp) A.ob.op,A.ob.ln,A.ob.tr,A.ob.hr,A.ob.sz⟩,A.eM,A.ap,kM _ _ (by simp) A.he,A.le,A.ea,A.e0,fun i j e=> ?_,A.en,kM _ _ (by simp) A.hb,A.lb,fun i b e=>kM _ _ (by simp[zae e])<|A.hk i b e,kM _ _ (by simp) A.hg,A.pR⟩
 obtain⟨a,ps,lj,li,h1,h2,h3,h4,h5⟩:=A.ev i j e
 refine⟨a,ps,lj,li,h1,h2,h3,h4.keep (fun o e=>k a o (.inr ?_) e) t,h5⟩
 rw[<-A.ea]
 exact zbx.mpr ⟨_,zae h1,rfl⟩
theorem cC.keep(A:cC C H p M Ed here pars aJ last T)(k: ∀b o,b∈M\/b∈Ed->H b=some o->H' b=some o)(t:fg H H'):cC C H' p M Ed here pars aJ last T:=by
 obtain⟨dx,lo,pa,ed,be,lg,bs,es,A⟩:=A
 exact⟨dx,lo,pa,ed,be,lg,bs,es,A.keep k t⟩
theorem cC.own(A:cC C H p M Ed here pars aJ last T){a:Addr}(f:H a=none):a∉M/\a∉Ed:=by
 obtain⟨dx,lo,pa,ed,be,lg,bs,es,A⟩:=A
 refine⟨A.live.no f,fun h=> ?_⟩
 obtain⟨xs,e⟩:=A.X5 h
 rw[f] at e;cases e
theorem iJ.JU(A:iJ C H p M Ed here pars aJ last T dx lo pa ed be lg bs es)(b:aZ M H H'):pO H' es pars aJ T:=fun i j e=>by
 obtain⟨a,ps,lj,li,h1,h2,h3,h4,h5⟩:=A.ev i j e
 exact⟨a,ps,lj,li,h1,h2,h3,h4.keep (fun o e=>b a o e<|A.en i a h1)<|A.live.bz b,h5⟩
end
theorem Ca{pars:List (Option Nat)}{h i:Nat}(T:dh pars):kids (pars++ [some h]) i=kids pars i++ (if h=i then [pars.length] else []):=by
 unfold kids
 rw[zqA,zaQ,List.range_succ,zbX]
 congr 1
 ·refine List.filter_congr fun j hj=> ?_
  rw[zaz<|zbL.mp hj]
 ·by_cases z:h=i
  ·subst z;simp
  ·simp[z]
theorem X6{pars:List (Option Nat)}(T:dh pars){i:Nat}(h:pars.length<=i):kids pars i=[]:=by
 unfold kids
 refine List.filter_eq_nil_iff.mpr fun j hj=> ?_
 have hj:=zbL.mp hj
 intro e
 have e:pars[j]?=some (some i):=by simpa using e
 by_cases z:j=0
 ·subst z;rw[T.rt] at e;cases e
 ·obtain⟨k,h1,h2⟩:=T.up j (by lia) hj
  rw[h1] at e;cases e;lia
section
variable {Γ:aQ} {D:Ends} {σ:St} {H:Hp} {r:List RS} {C p dx l:Addr} {fs:List (Str×V)} {f:Str} {ko:List V}
theorem JV{Q:VK}{x:RE}(h:af Γ x σ H fun v H1=>mO Γ.K .list [v] H1 Q):af Γ (.blt .list [x]) σ H Q:=h
theorem ud{a:RE}(σ0:σ[0]?=some (some<|.ref p))(hp:H p=some (.ins C dx fs))(hf:fs.lookup f=some (.ref l))(c:fF Γ.K C)(n:eY Γ.K C f)(hl:H l=some (.lst ko))(h:af Γ a σ H fun y H2=> ∃xs,H2 l=some (.lst xs)/\xs.length<sizeLine/\ax Γ r D σ (upd H2 l<|.lst<|xs++ [y])):
  ax Γ (.drop (.bg .append (.fld (.v 0) f) [a])::r) D σ H:=
 dH (fP<|dJ<|ae σ0 ⟨p,C,dx,fs,_,rfl,hp,c,n,hf, .inl ⟨rfl,_,aq.of hl⟩,h⟩)
end
theorem Cb{pars:List (Option Nat)}(T:dh pars){h:Nat}(hh:h<pars.length):dh (pars++ [some h]):=by
 refine⟨by rw[zaz (by lia)];exact T.rt,fun i h0 hi=> ?_⟩
 rw[zqA,zaQ] at hi
 by_cases z:i<pars.length
 ·rw[zaz z];exact T.up i h0 z
 ·have:i=pars.length:=by lia
  subst this
  exact⟨h,by simp,hh⟩
theorem JW{here k:Int}{lo pa ed be lg:Addr}:bM "here" (V.int k) (h6 here lo pa ed be lg)=h6 k lo pa ed be lg:=A9
section
variable {K:Frag} {C CF:Addr}
def Cc(C:Addr):Sp:=fun vs H Q E=> ∃(p:Addr) (M Ed:List Addr) (here:Nat) (pars:List (Option Nat)) (aJ:List (List Nat)) (last:List (Option Nat)) (T:Nat) (c:Addr) (ps:List Pt) (l r:List Nat),vs=[.ref p, .ref c]/\cC C H p M Ed here pars aJ last T/\cQ H c ps l r/\c∉M/\aJ[here]?=some l/\B.aA ps<=T/\T<=100000/\pars.length<100000/\
 ∀(b a:Addr) (H':Hp),aZ M H H'->H b=none->H a=none->cC C H' p (M++ [b]) (Ed++ [a]) pars.length (pars++ [some here]) (aJ++ [r]) (last++ [none]) T->Q (.int (pars.length:Nat)) H'
theorem X7(X:iu K C)(vs:List V)(H:Hp)(Q:VK)(E:XK)(h:Cc C vs H Q E):ax (aS K [("sizes",lL)] [] [] [("need_over",C,B6 C CF),("many",C,tZ C)] (E:=E)) G_ (Dn Q) (start G9 vs) H:=by
 obtain⟨p,M,Ed,here,pars,aJ,last,T,c,ps,l,r,rfl,⟨dx,lo,pa,ed,be,lg,bs,es,A⟩,hc,pS,hl,ht,hT,hn,q⟩:=h
 have no: ∀{x:Str},¬x="here"-> ¬x="lengths"-> ¬x="parents"-> ¬x="edges"-> ¬x="below"-> ¬x="last_gone"->(h6 (here:Nat) lo pa ed be lg).lookup x=none:=fun a b c d e f=>gQ a b c d e f
 have mi:(aJ.map List.length)[here]?=some l.length:=by rw[zam,hl];rfl
 refine dH<|h9 C (B6 C CF) rfl<|ae rfl ⟨p,dx,_,rfl,A.ob.ob,no (by decide+kernel) (by decide+kernel) (by decide+kernel) (by decide+kernel) (by decide+kernel) (by decide+kernel),ae rfl ⟨p,dx,lo,pa,ed,be,lg,here,_,pars,c,ps,l,r,l.length,rfl,A.ob,hc,by lia,mi, .inl ⟨rfl,fun H1 s1=> ?_⟩⟩⟩
 have A1:=A.same s1
 have hX:=hc.same s1
 refine ba<|qU C (tZ C) rfl<|ae rfl ⟨p,dx,_,rfl,A1.ob.ob,no (by decide+kernel) (by decide+kernel) (by decide+kernel) (by decide+kernel) (by decide+kernel) (by decide+kernel),p,dx,lo,pa,ed,be,lg,here,_,pars,rfl,A1.ob, ?_⟩
 obtain⟨⟨a1,a2,a3,a4,a5,a6⟩,⟨b1,b2,b3,b4,b5⟩,⟨c1,c2,c3,c4⟩,⟨d1,d2,d3⟩,⟨e1,e2⟩,g1,g2⟩:=A.ap.l
 have eM:=A.eM
 have X8:p∈M/\lo∈M/\pa∈M/\ed∈M/\be∈M/\lg∈M/\ ∀b∈bs,b∈M:=by rw[eM];simp;exact fun b hb=> .inr (.inr<|.inr<|.inr<|.inr<|.inr hb)
 obtain⟨mp,ml,X9,me,mb,mg,X_⟩:=X8
 have sz:=A.ob.sz
 have Cd:(aJ.map List.length).length=pars.length:=A.ob.ln
 have gb:aJ.length=pars.length:=by rw[<-Cd,zab]
 have big: ∀{n:Nat},n<=100000->n<sizeLine:=fun h=>dY (by lia)
 have JX:=A1.live
 refine ud rfl A1.ob.ob rg X.cl X.oT A1.ob.op<|dJ<|ae rfl ⟨p,C,dx,_,_,rfl,A1.ob.ob,X.cl,X.iw,kq,_,A1.ob.op,big (by rw[zab];exact sz), ?_⟩
 have k2:aZ M H1 (upd H1 pa<|.lst<|pars.map gV++ [V.int (here:Nat)]):=aZ.upd X9
 have p2:upd H1 pa (.lst<|pars.map gV++ [V.int (here:Nat)]) pa=some (.lst<|(pars++ [some here]).map gV):=by rw[au,zap];rfl
 have o2:=aU (o':= .lst (pars.map gV++ [V.int (here:Nat)])) a2 A1.ob.ob
 have l2:=aU (o':= .lst (pars.map gV++ [V.int (here:Nat)])) b1 A1.ob.ol
 have uf:=aU (o':= .lst (pars.map gV++ [V.int (here:Nat)])) (Ne.symm c1) A1.he
 have n2:=aU (o':= .lst (pars.map gV++ [V.int (here:Nat)])) (Ne.symm c2) A1.hb
 have JY:=aU (o':= .lst (pars.map gV++ [V.int (here:Nat)])) (Ne.symm c3) A1.hg
 have q2: ∀(i:Nat) (b:Addr),bs[i]?=some b->upd H1 pa (.lst<|pars.map gV++ [V.int (here:Nat)]) b=some (.lst<|iV<|kids pars i):=fun i b hi=>aU (fun z=>c4 (by rw[<-z];exact zae hi)) (A1.hk i b hi)
 have JZ:=hX.keep (fun o e=>k2 c o e pS) (JX.bz k2)
 have ug:=JX.upd (c:=pa) (xs:=pars.map gV++ [V.int (here:Nat)])
 generalize upd H1 pa (.lst<|pars.map gV++ [V.int (here:Nat)])=H2 at k2 p2 o2 l2 uf n2 JY q2 JZ ug⊢
 obtain⟨xs,hx,mL,rq⟩:=JZ
 refine ud rfl o2 BX X.cl X.v7 uf<|JV<|ae rfl ⟨xs, .inl<|aq.of hx,fun a fa=> ⟨_,aU (fun z=>by rw[z,fa] at uf;cases uf) uf,big (by rw[A.le];exact sz), ?_⟩⟩
 have s3:=sameNew (o:= .lst xs) fa
 have nP:a∉M:=ug.no fa
 have Ce:=(ug.same s3).upd (c:=ed) (xs:=es++ [V.ref a])
 have Ya:a≠ed:=fun z=>nP (by rw[z];exact me)
 have k3:aZ M H2 (upd (upd H2 a<|.lst xs) ed<|.lst<|es++ [V.ref a]):=(aZ.of s3).trans (aZ.upd me)
 have rf:upd (upd H2 a<|.lst xs) ed (.lst<|es++ [V.ref a]) a=some (.lst xs):=aU Ya au
 have o3:=aU (o':= .lst (es++ [V.ref a])) a3 (s3 _ _ o2)
 have p3:=aU (o':= .lst (es++ [V.ref a])) c1 (s3 _ _ p2)
 have l3:=aU (o':= .lst (es++ [V.ref a])) b2 (s3 _ _ l2)
 have n3:=aU (o':= .lst (es++ [V.ref a])) (Ne.symm d1) (s3 _ _ n2)
 have g3:=aU (o':= .lst (es++ [V.ref a])) (Ne.symm d2) (s3 _ _ JY)
 have q3: ∀(i:Nat) (b:Addr),bs[i]?=some b->upd (upd H2 a<|.lst xs) ed (.lst<|es++ [V.ref a]) b=some (.lst<|iV<|kids pars i):=fun i b hi=>aU (fun z=>d3 (by rw[<-z];exact zae hi)) (s3 _ _<|q2 i b hi)
 have J0:=k3 _ _ hx pS
 have Cf:=mL.mono (ug.bz k3)
 have e3:upd (upd H2 a<|.lst xs) ed (.lst<|es++ [V.ref a]) ed=some (.lst<|es++ [V.ref a]):=au
 generalize upd (upd H2 a<|.lst xs) ed (.lst<|es++ [V.ref a])=H3 at k3 rf o3 p3 l3 n3 g3 q3 J0 Cf e3 Ce⊢
 have Yb:=k2.trans k3
 have cl:ps.length<=2*B.aA ps+1:=pL ps "" rq.ok rq.ch
 refine ud rfl o3 xq X.cl X.sW l3<|bf<|c7 lL rfl<|ay<|ae rfl<|aL ⟨c,xs,ps,rfl,J0,Cf,rq.ok,rq.ch,by lia,fun t H4 s4 Yc=>aw<|gu Yc rfl ⟨_,s4 _ _ l3,big (by rw[zab];lia), ?_⟩⟩
 have eg:(qI ps).sum=r.length:=rq.run.gives
 rw[eg]
 have el:(aJ.map List.length).map (fun n=>V.int (n:Nat))++ [V.int (r.length:Nat)]=((aJ++ [r]).map List.length).map (fun n=>V.int (n:Nat)):=by rw[zap,zap];rfl
 rw[el]
 have k5:aZ M H3 (upd H4 lo<|.lst<|((aJ++ [r]).map List.length).map fun n=>V.int (n:Nat)):=(aZ.of s4).trans (aZ.upd ml)
 have l5:upd H4 lo (.lst<|((aJ++ [r]).map List.length).map fun n=>V.int (n:Nat)) lo=some (.lst<|((aJ++ [r]).map List.length).map fun n=>V.int (n:Nat)):=au
 have pT:=k5 _ _ rf nP
 have o5:=aU (o':= .lst (((aJ++ [r]).map List.length).map fun n=>V.int (n:Nat))) a1 (s4 _ _ o3)
 have p5:=aU (o':= .lst (((aJ++ [r]).map List.length).map fun n=>V.int (n:Nat))) (Ne.symm b1) (s4 _ _ p3)
 have e5:=aU (o':= .lst (((aJ++ [r]).map List.length).map fun n=>V.int (n:Nat))) (Ne.symm b2) (s4 _ _ e3)
 have n5:=aU (o':= .lst (((aJ++ [r]).map List.length).map fun n=>V.int (n:Nat))) (Ne.symm b3) (s4 _ _ n3)
 have g5:=aU (o':= .lst (((aJ++ [r]).map List.length).map fun n=>V.int (n:Nat))) (Ne.symm b4) (s4 _ _ g3)
 have q5: ∀(i:Nat) (b:Addr),bs[i]?=some b->upd H4 lo (.lst<|((aJ++ [r]).map List.length).map fun n=>V.int (n:Nat)) b=some (.lst<|iV<|kids pars i):=fun i b hi=>aU (fun z=>b5 (by rw[<-z];exact zae hi)) (s4 _ _<|q3 i b hi)
 have xD:=(Ce.same s4).upd (c:=lo) (xs:=((aJ++ [r]).map List.length).map fun n=>V.int (n:Nat))
 have xE:=Cf.mono (Ce.bz k5)
 generalize upd H4 lo (.lst<|((aJ++ [r]).map List.length).map fun n=>V.int (n:Nat))=H5 at k5 l5 pT o5 p5 e5 n5 g5 q5 xD xE⊢
 have Cg:=Yb.trans k5
 refine ud rfl o5 JI X.cl X.AA n5<|cP<|aL ⟨(by show 0<=sizeLine;decide),fun b fb=> ⟨_,aU (fun z=>by rw[z,fb] at n5;cases n5) n5,big (by rw[zab,A.lb];exact sz), ?_⟩⟩
 have s6:=sameNew (o:= .lst []) fb
 have rz:b∉M:=xD.no fb
 have nb:b≠be:=fun z=>rz (by rw[z];exact mb)
 have eb:bs.map V.ref++ [V.ref b]=(bs++ [b]).map V.ref:=by rw[zap];rfl
 rw[eb]
 have na:a≠b:=fun z=>by rw[z,fb] at pT;cases pT
 have k6:aZ M H5 (upd (upd H5 b<|.lst []) be<|.lst<|(bs++ [b]).map V.ref):=(aZ.of s6).trans (aZ.upd mb)
 have n6:upd (upd H5 b<|.lst []) be (.lst<|(bs++ [b]).map V.ref) be=some (.lst<|(bs++ [b]).map V.ref):=au
 have J3:upd (upd H5 b<|.lst []) be (.lst<|(bs++ [b]).map V.ref) b=some (.lst []):=aU nb au
 have tY:=k6 _ _ pT nP
 have o6:=aU (o':= .lst ((bs++ [b]).map V.ref)) a4 (s6 _ _ o5)
 have p6:=aU (o':= .lst ((bs++ [b]).map V.ref)) c2 (s6 _ _ p5)
 have l6:=aU (o':= .lst ((bs++ [b]).map V.ref)) b3 (s6 _ _ l5)
 have e6:=aU (o':= .lst ((bs++ [b]).map V.ref)) d1 (s6 _ _ e5)
 have g6:=aU (o':= .lst ((bs++ [b]).map V.ref)) (Ne.symm e1) (s6 _ _ g5)
 have q6: ∀(i:Nat) (x:Addr),bs[i]?=some x->upd (upd H5 b<|.lst []) be (.lst<|(bs++ [b]).map V.ref) x=some (.lst<|iV<|kids pars i):=fun i x hi=>aU (fun z=>e2 (by rw[<-z];exact zae hi)) (s6 _ _<|q5 i x hi)
 have Ci:=(xD.same s6).upd (c:=be) (xs:=(bs++ [b]).map V.ref)
 have J4:=xE.mono (xD.bz k6)
 generalize upd (upd H5 b<|.lst []) be (.lst<|(bs++ [b]).map V.ref)=H6 at k6 n6 J3 tY o6 p6 l6 e6 g6 q6 Ci J4⊢
 have Yd:=Cg.trans k6
 refine ud rfl o6 BY X.cl X.v8 g6<|aw ⟨_,g6,big (by rw[zab,A.pR];exact sz), ?_⟩
 have Ye:last.map gV++ [V.aC]=(last++ [none]).map gV:=by rw[zap];rfl
 rw[Ye]
 have k7:aZ M H6 (upd H6 lg<|.lst<|(last++ [none]).map gV):=aZ.upd mg
 have g7:upd H6 lg (.lst<|(last++ [none]).map gV) lg=some (.lst<|(last++ [none]).map gV):=au
 have J5:=k7 _ _ J3 rz
 have J6:=k7 _ _ tY nP
 have o7:=aU (o':= .lst ((last++ [none]).map gV)) a5 o6
 have p7:=aU (o':= .lst ((last++ [none]).map gV)) c3 p6
 have l7:=aU (o':= .lst ((last++ [none]).map gV)) b4 l6
 have e7:=aU (o':= .lst ((last++ [none]).map gV)) d2 e6
 have n7:=aU (o':= .lst ((last++ [none]).map gV)) e1 n6
 have q7: ∀(i:Nat) (x:Addr),bs[i]?=some x->upd H6 lg (.lst<|(last++ [none]).map gV) x=some (.lst<|iV<|kids pars i):=fun i x hi=>aU (fun z=>g1 (by rw[<-z];exact zae hi)) (q6 i x hi)
 have Cj:=Ci.upd (c:=lg) (xs:=(last++ [none]).map gV)
 have J7:=J4.mono (Ci.bz k7)
 generalize upd H6 lg (.lst<|(last++ [none]).map gV)=H7 at k7 g7 J5 J6 o7 p7 l7 e7 n7 q7 Cj J7⊢
 have Yf:=Yd.trans k7
 have Ck:=A.ob.hr
 have J8:here<bs.length:=by rw[A.lb];exact Ck
 have eh:bs[here]?=some bs[here]:=zau J8
 have qh:=q7 here _ eh
 have mh:bs[here]∈M:=X_ _ (zae eh)
 have Yg:(iV<|kids pars here).length<=100000:=by
  rw[zab]
  have:=zcg (fun j=>pars[j]?==some (some here)) (List.range pars.length)
  rw[List.length_range] at this
  exact zaw this sz
 have ai:fG ((bs++ [b]).map V.ref) ((here:Nat):Int)=some (V.ref bs[here]):=cq (by rw[zam,zaz J8,eh];rfl)
 refine dH<|fP<|bf<|dJ<|ae rfl ⟨p,C,dx,_,_,rfl,o7,X.cl,X.AA,JI,dJ<|ae rfl ⟨p,C,dx,_,_,rfl,o7,X.cl,X.iw,kq,cx n7 ai ⟨.inl ⟨rfl,_,aq.of qh⟩,ae rfl ⟨_,qh,big Yg, ?_⟩⟩⟩⟩
 have Yh:iV (kids pars here)++ [V.int (pars.length:Nat)]=iV (kids (pars++ [some here]) here):=by rw[Ca A.ob.tr,if_pos rfl];unfold iV;rw[zap];rfl
 rw[Yh]
 have k8:aZ M H7 (upd H7 bs[here] (.lst<|iV<|kids (pars++ [some here]) here)):=aZ.upd mh
 have nh: ∀{x:Addr},x∉bs->x≠bs[here]:=fun h z=>h (by rw[z];exact zae eh)
 have J9:=k8 _ _ J5 rz
 have J_:=k8 _ _ J6 nP
 have o8:=aU (o':= .lst (iV<|kids (pars++ [some here]) here)) (nh a6) o7
 have p8:=aU (o':= .lst (iV<|kids (pars++ [some here]) here)) (nh c4) p7
 have l8:=aU (o':= .lst (iV<|kids (pars++ [some here]) here)) (nh b5) l7
 have e8:=aU (o':= .lst (iV<|kids (pars++ [some here]) here)) (nh d3) e7
 have n8:=aU (o':= .lst (iV<|kids (pars++ [some here]) here)) (nh e2) n7
 have g8:=aU (o':= .lst (iV<|kids (pars++ [some here]) here)) (nh g1) g7
 have q8: ∀(i:Nat) (x:Addr),bs[i]?=some x->upd H7 bs[here] (.lst<|iV<|kids (pars++ [some here]) here) x=some (.lst<|iV<|kids (pars++ [some here]) i):=fun i x hi=>by
  by_cases z:i=here
  ·subst z
   rw[eh] at hi;cases hi
   exact au
  ·have gI:x≠bs[here]:=fun zz=>z ((List.getElem?_inj (zak.mp hi).1 g2).mp (by rw[hi,eh,zz]))
   rw[aN gI,q7 i x hi,Ca A.ob.tr,if_neg<|fun e=>z e.symm,zaf]
 have Ka:=Cj.upd (c:=bs[here]) (xs:=iV (kids (pars++ [some here]) here))
 have Kb:=J7.mono (Cj.bz k8)
 generalize upd H7 bs[here] (.lst<|iV<|kids (pars++ [some here]) here)=H8 at k8 J9 J_ o8 p8 l8 e8 n8 g8 q8 Ka Kb⊢
 have Yi:=Yf.trans k8
 refine nJ<|ae rfl<|ae rfl ⟨p,C,dx,_,rfl,o8,X.cl,X.iw,(by show 6<1000;decide), ?_⟩
 rw[JW]
 have k9:aZ M H8 (upd H8 p<|.ins C dx<|h6 (pars.length:Nat) lo pa ed be lg):=aZ.upd mp
 have Kc:=Yi.trans k9
 have Yj:pO (upd H8 p<|.ins C dx<|h6 (pars.length:Nat) lo pa ed be lg) es pars aJ T:=A1.JU Kc
 have Yk:=Kb.mono (Ka.bz k9)
 refine ck<|ae rfl<|q b a _ ((aZ.of s1).trans Kc) ?_ ?_ ⟨dx,lo,pa,ed,be,lg,bs++ [b],es++ [V.ref a], ?_⟩
 ·cases hz:H b with
  | none=>rfl
  | some o=>
   have h5:=Cg b o (s1 _ _ hz) rz
   rw[fb] at h5;cases h5
 ·cases hz:H a with
  | none=>rfl
  | some o=>
   have h5:=k2 a o (s1 _ _ hz) nP
   rw[fa] at h5;cases h5
 ·have Yl:pars.length+1<=100000:=hn
  refine⟨⟨au,aU (Ne.symm a1) l8,aU (Ne.symm a2) p8, ?_,Cb A.ob.tr Ck, ?_, ?_⟩, ?_,⟨?_⟩,aU (Ne.symm a3) e8, ?_,(by unfold B_;rw[List.filterMap_append];show B_ es++ [a]=_;rw[A.ea]),(by rw[zaz (by rw[A.le];lia)];exact A.e0), ?_, ?_,aU (Ne.symm a4) n8, ?_, ?_,aU (Ne.symm a5) g8, ?_⟩
  ·rw[zab,zqA,zqA,gb];rfl
  ·rw[zqA];exact zbP _
  ·rw[zqA];exact Yl
  ·rw[eM];rfl
  ·have h:=A.ap.nd
   rw[<-eM] at h
   have:p::lo::pa::ed::be::lg::(bs++ [b])=M++ [b]:=by rw[eM];rfl
   rw[this]
   exact List.nodup_append.mpr ⟨h,(by simp),fun x hx y hy e=>rz (by rw[<-zac.mp hy,<-e];exact hx)⟩
  ·rw[zqA,zqA,A.le];rfl
  ·intro i j xF
   by_cases z:i<pars.length
   ·rw[zaz z] at xF
    obtain⟨a',ke,lj,li,h1,h2,h3,h4,h5⟩:=Yj i j xF
    have jl:=(zak.mp h2).1
    exact⟨a',ke,lj,li,by rw[zaz (by rw[A.le];exact z)];exact h1,by rw[zaz jl];exact h2,by rw[zaz (by rw[gb];exact z)];exact h3,h4,h5⟩
   ·have zi:i=pars.length:=by
     have:=(zak.mp xF).1
     rw[zqA,zaQ] at this
     lia
    subst zi
    have:here=j:=by simpa using xF
    subst this
    exact⟨a,ps,l,r,by rw[<-A.le];simp,by rw[zaz (by rw[gb];exact Ck)];exact hl,by rw[<-gb];simp,⟨xs,aU (fun z=>nP (by rw[z];exact mp)) J_,Yk,rq⟩,ht⟩
  ·intro i x hx
   have nx:x∉M/\x≠b:=by
    by_cases z:i<es.length
    ·rw[zaz z] at hx
     have h1:=A.en i x hx
     refine⟨h1,fun zz=> ?_⟩
     obtain⟨j,hj⟩: ∃j,pars[i]?=some (some j):=by
      by_cases z0:i=0
      ·rw[z0,A.e0] at hx;cases hx
      ·obtain⟨j,q1,_⟩:=A.ob.tr.up i (by lia) (by rw[<-A.le];exact z)
       exact⟨j,q1⟩
     obtain⟨a',ke,lj,li,lK,_,_,h4,_⟩:=A1.ev i j hj
     rw[hx] at lK;cases lK
     obtain⟨ys,hy,_⟩:=h4
     have:=Cg _ _ hy h1
     rw[zz,fb] at this;cases this
    ·have zi:i=es.length:=by
      have:=(zak.mp hx).1
      rw[zqA,zaQ] at this
      lia
     subst zi
     have:a=x:=by simpa using hx
     subst this
     exact⟨nP,na⟩
   intro h
   rcases zad.mp h with h | h
   ·exact nx.1 h
   ·exact nx.2 (zac.mp h)
  ·rw[zqA,zqA,A.lb];rfl
  ·intro i x hx
   by_cases z:i<bs.length
   ·rw[zaz z] at hx
    exact aU (fun zz=>a6 (by rw[<-zz];exact zae hx))<|q8 i x hx
   ·have zi:i=bs.length:=by
     have:=(zak.mp hx).1
     rw[zqA,zaQ] at this
     lia
    subst zi
    have:b=x:=by simpa using hx
    subst this
    rw[A.lb,Ca A.ob.tr,X6 A.ob.tr<|zqR _,if_neg (by lia)]
    exact aU (fun zz=>rz (by rw[zz];exact mp)) J9
  ·rw[zqA,zqA,A.pR];rfl
end
end L2.N
namespace L2.B
open PySem PySem.Spec PyProof.Rows
def Kd:List Str:=["self","way","steps","changes","change","node","other"]
noncomputable def Ke:List RS:=
 [.asg 2 (.xt JR [(.v 1),(.sl (.v 1) (some (.c (.int 1))) none)]),
 .asg 3 (.lst [(.call 0 [(.lst [(.tup [(.c<|.str "keep"),(.ix (.fld (.v 0) "lengths")<|.fld (.v 0) "here")])])])]),
 .asg 4 (.call 1 [(.bin .Add (.v 3)<|.comp (some 2) [("self",0)] .list [(.v 2)] none<|.bK 0 "edge" (.v 2) [(.v 0),(.v 1)])]),
 .k_ [5,6] .list [(.v 2)] [.ite (.cmp .Eq (.ix (.fld (.v 0) "parents")<|.v 5)<|.v 6) [.set (.fld (.v 0) "last_gone") (.v 6)<|.v 5] []],
 .fW (.v 0) "here" (.ix (.v 1)<|.neg<|.c<|.int 1),
 .ret (.v 4)]
def Ym:List Str:=["neat","joined_all"]
def Kf:List Str:=["list","zip"]
def Yn:List Str:=["edge"]
end L2.B
namespace L2.N
open PySem PySem.Spec L2.B
def jL(H:Hp):List V->List (V×V)->Prop:=Paired fun v p=> ∃t,v= .ref t/\H t=some (.tup [p.1,p.2])
theorem jL.same{H H':Hp}(s:fg H H'): ∀{xs:List V} {ps:List (V×V)},jL H xs ps->jL H' xs ps
 | _,_, .nil=> .nil
 | _,_, .cons ⟨t,e,h⟩ r=> .cons ⟨t,e,s _ _ h⟩ (jL.same s r)
theorem jL.at{H:Hp}: ∀{xs:List V} {ps:List (V×V)} {i:Nat} {v:V},jL H xs ps->xs[i]?=some v-> ∃p t,ps[i]?=some p/\v= .ref t/\H t=some (.tup [p.1,p.2])
 | _,_,i,v, .nil,e=>by simp at e
 | _,_,0,v, .cons ⟨t,e',h⟩ r,e=>by simp at e;subst e;exact⟨_,t,rfl,e',h⟩
 | _,_,i+1,v, .cons h r,e=>by
  obtain⟨p,t,a,b⟩:=jL.at (i:=i) r (by simpa using e)
  exact⟨p,t,by simpa using a,b⟩
theorem Kg{α β:Type}{R:α->β->Prop}: ∀{xs:List α} {ys:List β},xs.length=ys.length->(∀(i:Nat) x y,xs[i]?=some x->ys[i]?=some y->R x y)->Paired R xs ys
 | [],[],_,_=> .nil
 | [],_::_,h,_=>by cases h
 | _::_,[],h,_=>by cases h
 | x::xs,y::ys,h,k=> .cons (k 0 x y rfl rfl) (Kg (Nat.succ.inj h) fun i a b ha hb=>k (i+1) a b (by simpa using ha) (by simpa using hb))
section
variable {K:Frag}
theorem Yo{σ:St}{H:Hp}{QQ:List V->Hp->Addr->Prop}{te:TE}{fv:List (Str×Nat)}{a:Addr}{xs:List V}{cs:List (V×V)}(ha:H a=some (.lst xs))(hc:jL H xs cs)(hl:cs.length<=1000000)(P:Nat->List V->Hp->Prop)(p0:P 0 [] H)
  (step: ∀i c ys H2,cs[i]?=some c->aB H H2->P i ys H2-> ∀Q':VK,(∀y H3,aB H2 H3->P (i+1) (ys++ [y]) H3->Q' y H3)->te (some c.1::some c.2::cL σ fv) H2 Q')
  (fin: ∀ys H2 p,aB H H2->P cs.length ys H2->ys.length=cs.length->H2 p=none->QQ ys H2 p): ∃W:Nat->Nat->List V->Hp->Prop,(∃m,W 0 m [] H)/\ ∀i m ys H2,W i m ys H2->
   ((eP K a).stop i H2/\ ∀p,H2 p=none->QQ ys H2 p)\/
   ((eP K a).go i H2/\ ∀x H3,(eP K a).gf i H2 x H3->jW K (some 2) x H3 fun zs=>oF none (zs.map some++cL σ fv) H3 fun b H5=>
    if b=true then te (zs.map some++cL σ fv) H5 fun y H6=>ys.length<sizeLine/\ ∃m',m'<m/\W (i+1) m' (ys++ [y]) H6 else ∃m',m'<m/\W (i+1) m' ys H5):=by
 have lx:xs.length=cs.length:=Paired.length hc
 refine⟨fun i m ys H2=>m=xs.length - i/\i<=xs.length/\ys.length=i/\aB H H2/\P i ys H2,⟨_,rfl,zqZ _,rfl,aB.refl _,p0⟩, ?_⟩
 rintro i m ys H2 ⟨rfl,hi,hy,s,p⟩
 by_cases aK:i<xs.length
 ·refine .inr ⟨⟨xs,xs[i],aq.of<|s _ _ ha,by simp[aK]⟩, ?_⟩
  rintro x H3 ⟨rfl,hx⟩
  obtain⟨c,t,uK,rfl,ht⟩:=jL.at hc (hx xs<|aq.of<|s _ _ ha)
  refine⟨t,_,rfl,aG.of<|s _ _ ht,rfl, ?_⟩
  exact step i c ys _ uK s p _ fun y H4 s4 p4=> ⟨dY (by lia),xs.length - (i+1),by lia,rfl,aK,by simp[hy],s.trans s4,p4⟩
 ·have iz:i=xs.length:=by lia
  subst iz
  refine .inl ⟨⟨xs,aq.of<|s _ _ ha,zqR _⟩,fun q hq=>fin ys _ q s ?_ (by lia) hq⟩
  rw[<-lx];exact p
end
def nQ(pars:List (Option Nat))(n m:Nat):Prop:=pars[m]?=some (some n)\/pars[n]?=some (some m)
def Yp(pars:List (Option Nat))(ns:List Nat):Prop:= ∀i n m,ns[i]?=some n->ns[i+1]?=some m->nQ pars n m
def gT(pars:List (Option Nat))(la:List (Option Nat))(p:Nat×Nat):List (Option Nat):=if pars[p.1]?=some (some p.2) then la.set p.2 (some p.1) else la
def gz(pars:List (Option Nat))(ns:List Nat)(la:List (Option Nat)):List (Option Nat):=(ns.zip ns.tail).foldl (gT pars) la
theorem Cm{pars:List (Option Nat)}: ∀(ps:List (Nat×Nat)) (la:List (Option Nat)),(ps.foldl (gT pars) la).length=la.length
 | [],_=>rfl
 | p::ps,la=>by
  rw[zbf,Cm ps]
  unfold gT
  split
  ·rw[zaP]
  ·rfl
theorem Cn{ns:List Nat}{i:Nat}{p:Nat×Nat}:(ns.zip ns.tail)[i]?=some p↔ns[i]?=some p.1/\ns[i+1]?=some p.2:=by
 rw[zbJ,List.getElem?_tail]
section
variable {K:Frag} {C:Addr}
theorem Yq(n:Nat):B.aA (fj [.keep (n:Int)])=0:=by
 rw[AY [.keep (n:Int)] (by intro p hp;cases zac.mp hp;show(0:Int)<=_;lia)];rfl
theorem Yr{H:Hp}{Q:VK}{E:XK}{b t:Addr}{l:List Nat}(h:H b=some (.lst [.ref t]))(ht:H t=some (.tup [.str "keep", .int (l.length:Int)]))(hl:l.length<=100000)
  (q: ∀(c:Addr) (H':Hp),aB H H'->H c=none->cQ H' c (fj [.keep (l.length:Int)]) l l->Q (.ref c) H'):nk [.ref b] H Q E:=by
 refine⟨b,[.ref t],[.keep (l.length:Int)],rfl,h, .cons ⟨t,rfl,ht⟩ .nil,(by show 1<=100000;decide),(by show 0+0<=100000;decide),fun c H' ys s hc h2 h3=>q c H' s hc ⟨ys,h2, ?_,WM⟩⟩
 rw[AQ [.keep (l.length:Int)] (by intro p hp;cases zac.mp hp;show(0:Int)<=_;lia)] at h3
 exact h3
def pU(C:Addr):Sp:=fun vs H Q E=> ∃(p:Addr) (M Ed:List Addr) (here d:Nat) (pars:List (Option Nat)) (aJ:List (List Nat)) (last:List (Option Nat)) (T:Nat) (w:Addr) (rest:List Nat) (l r:List Nat),vs=[.ref p, .ref w]/\cC C H p M Ed here pars aJ last T/\H w=some (.lst<|iV (here::rest))/\w∉M/\
 Yp pars (here::rest)/\(∀n∈rest,n<pars.length)/\rest.length<=9000/\T*rest.length<=14000/\T<=14000/\(here::rest)[rest.length]?=some d/\aJ[here]?=some l/\aJ[d]?=some r/\l.length<=100000/\
 ∀(c:Addr) (ps:List Pt) (H':Hp),aZ M H H'->H c=none->c∉M->cQ H' c ps l r->B.aA ps<=T*rest.length->cC C H' p M Ed d pars aJ (gz pars (here::rest) last) T->Q (.ref c) H'
theorem Ys(X:iu K C)(vs:List V)(H:Hp)(Q:VK)(E:XK)(h:pU C vs H Q E):ax (aS K [("neat",nk),("joined_all",BR)] [] [] [("edge",C,B5 C)] (E:=E)) Ke (Dn Q) (start Kd vs) H:=by
 obtain⟨p,M,Ed,here,d,pars,aJ,last,T,w,rest,l,r,rfl,⟨dx,lo,pa,ed,be,lg,bs,es,A⟩,hw,nw,jS,qv,hle,hT,Co,hd,hl,hr,mi,q⟩:=h
 have sz:=A.ob.sz
 have Cd:(aJ.map List.length).length=pars.length:=A.ob.ln
 have gb:aJ.length=pars.length:=by rw[<-Cd,zab]
 refine ba ?_
 refine⟨_,rfl,_,rfl,⟨_,rfl, .inl ⟨_,aq.of hw,fun w2 Yt=> ?_⟩⟩⟩
 have ec:du (iV (here::rest)) (some (1:Int)) none=iV rest:=by
  rw[show((1:Int))=((1:Nat):Int) from rfl,BP];rfl
 have s1:=sameNew (o:= .lst (du (iV (here::rest)) (some (1:Int)) none)) Yt
 have Cp:upd H w2 (.lst<|du (iV (here::rest)) (some (1:Int)) none) w2=some (.lst<|iV rest):=by rw[au,ec]
 refine⟨w,w2,_,_,rfl,aq.of<|s1 _ _ hw,aq.of Cp,fun ts L H2 Cq s2 Kh fL km hL=> ?_⟩
 generalize upd H w2 (.lst<|du (iV (here::rest)) (some (1:Int)) none)=H1 at s1 Cp s2 Kh fL km
 have eK:=s1.trans s2
 have Cq:ts.length=rest.length:=by
  rw[Cq,zab,zab,zao];lia
 have hP:jL H2 (ts.map V.ref) (((here::rest).zip rest).map fun p=> (V.int (p.1:Nat),V.int (p.2:Nat))):=by
  refine Kg (by rw[zab,zab,List.length_zip,zao];lia) fun i v pr hv hp=> ?_
  rw[zam] at hv hp
  obtain⟨t,ht,rfl⟩:=zbi.mp hv
  obtain⟨⟨n,m⟩,rA,rfl⟩:=zbi.mp hp
  obtain⟨h1,h2⟩:=zbJ.mp rA
  obtain⟨u,v,e1,e2,e3⟩:=km i t ht
  rw[zam,h1] at e1
  rw[zam,h2] at e2
  cases e1;cases e2
  exact⟨t,rfl,e3⟩
 have Cr:((here::rest).zip rest).length=rest.length:=by rw[List.length_zip,zao];lia
 have A2:=A.same eK
 have Yu:=s2 _ _ (s1 _ _ hw)
 clear km Kh s2 Cp
 have Yv:(aJ.map List.length)[here]?=some l.length:=by rw[zam,hl];rfl
 refine ba<|cP<|ay<|c7 nk rfl<|ay<|cP<|ay<|je<|ay<|aw<|ay<|bf<|dJ<|ae rfl ⟨p,C,dx,_,_,rfl,A2.ob.ob,X.cl,X.sW,xq,dJ<|ae rfl ⟨p,C,dx,_,_,rfl,A2.ob.ob,X.cl,X.iw,kq,cx A2.ob.ol (cq (by rw[zam,Yv];rfl))<|aL ⟨(by show 2<=sizeLine;decide),fun t ft=>aL ⟨(by show 1<=sizeLine;decide),fun b fb=>aL ?_⟩⟩⟩⟩
 have s3:=sameNew (o:= .tup [V.str "keep",V.int (l.length:Nat)]) ft
 have s4:=sameNew (o:= .lst [V.ref t]) fb
 refine Yr au (s4 _ _ au) mi fun c0 H5 s5 Yw Ki=>aL ⟨(by show 1<=sizeLine;decide),fun L2 Kj=> ?_⟩
 have uh:=(s3.trans s4).trans s5
 have Yx:=(eK.trans<|s3.trans s4).free Yw
 have s6:=sameNew (o:= .lst [V.ref c0]) Kj
 have nK:=uh.trans s6
 have pQ:upd H5 L2 (.lst [V.ref c0]) L2=some (.lst [V.ref c0]):=au
 have ui:=Ki.same s6
 have A6:=A2.same nK
 have Cs:=hP.same (dr nK)
 have xG:=nK _ _ hL
 have w_:=nK _ _ Yu
 have Ct:=eK.trans nK
 generalize upd H5 L2 (.lst [V.ref c0])=H6 at s6 nK pQ ui A6 Cs xG w_ Ct⊢
 clear s3 s4 s5 uh Ki ft fb Kj
 have Yy: ∀n,n<pars.length-> ∃x,aJ[n]?=some x:=fun n h=> ⟨_,zau (by rw[gb];exact h)⟩
 have uj: ∀(i n:Nat),(here::rest)[i]?=some n->n<pars.length:=fun i n e=>by
  rcases zaa.mp (zae e) with rfl | h
  ·exact A.ob.hr
  ·exact qv n h
 refine ba<|c7 BR rfl<|ay<|aV<|ae rfl ?_
 refine⟨_,rfl,L,rfl,⟨_,aq.of xG⟩,Yo xG Cs (by rw[zab,Cr];lia) (fun i ys H7=> ∃(n t:Nat) (x:List Nat),(here::rest)[i]?=some n/\aJ[n]?=some x/\cW H7 ys l x t/\t<=T*i) ⟨here,0,l,rfl,hl,⟨rfl,rfl⟩,zqZ _⟩ ?_ ?_⟩
 ·intro i c ys H7 hc s7 ⟨n,t,x,hn,hx,cv,ht⟩ Q' kk
  rw[zam] at hc
  obtain⟨⟨n',m⟩,rA,rfl⟩:=zbi.mp hc
  obtain⟨h1,h2⟩:=zbJ.mp rA
  rw[hn] at h1
  have e:n=n':=zal h1
  subst e
  have qE:(here::rest)[i+1]?=some m:=by rw[zbD];exact h2
  obtain⟨y,hy⟩:=Yy m (uj _ _ qE)
  have A7:=A6.same s7
  have Yz:pars[m]?=some (some n)\/(pars[m]?≠some (some n)/\pars[n]?=some (some m)):=by
   rcases jS i n m hn qE with h | h
   ·exact .inl h
   ·by_cases z:pars[m]?=some (some n)
    ·exact .inl z
    ·exact .inr ⟨z,h⟩
  refine Ji C (B5 C) rfl<|ae rfl ⟨p,dx,_,rfl,A7.ob.ob,gQ (by decide+kernel) (by decide+kernel) (by decide+kernel) (by decide+kernel) (by decide+kernel) (by decide+kernel),ae rfl<|ae rfl ⟨p,dx,lo,pa,ed,be,lg,here,_,pars,es,aJ,T,n,m,x,y,rfl,A7.ob,A7.he,A7.ev,Co,hx,hy,uj _ _ qE,Yz,fun c ps H8 s8 YA tt=>kk _ _ s8 ⟨m,t+B.aA ps,y,qE,hy,cW.app (cW.same s8 cv) ⟨c,ps,y,0,rfl,YA,⟨rfl,rfl⟩,rfl⟩, ?_⟩⟩⟩
  rw[Nat.mul_add,Nat.mul_one];lia
 ·intro ys H7 b7 s7 ⟨n,t,x,hn,hx,cv,ht⟩ ly f7
  rw[zab,Cr] at hn ht ly
  rw[hd] at hn;cases hn
  rw[hr] at hx;cases hx
  have s8:=sameNew (o:= .lst ys) f7
  refine .inl ⟨L2,b7,_,_,rfl,rfl,s8 _ _<|s7 _ _ pQ,au,bQ (by show 1+ys.length<=_;lia),fun b9 f9=>aL ?_⟩
  have s9:=sameNew (o:= .lst ([V.ref c0]++ys)) f9
  have Cv:=s7.trans (s8.trans s9)
  have ln9:([V.ref c0]++ys).length=1+ys.length:=by rw[zqA];rfl
  refine⟨b9,[V.ref c0]++ys,l,r,0+t,rfl,au,⟨c0,_,l,t,rfl,ui.same Cv,cW.same (s8.trans s9) cv,by rw[Yq]⟩,by lia,by lia,by lia,fun c ps Cw YB YC tt fc=> ?_⟩
  have uk:=Cv.trans YB
  have sH:=Ct.trans uk
  have ji:=A6.same uk
  have xp:H c=none:=by
   rcases fc with fc | fc
   ·exact(Ct.trans Cv).free fc
   ·cases ys with
    | nil=>cases fc;exact Yx
    | cons y r'=>cases fc
  have pS:c∉M:=A.live.no xp
  have YD:=Cs.same (dr uk)
  have Kk:=uk _ _ xG
  have YE:=uk _ _ w_
  have YF:H L=none:=s1.free fL
  have YG:L∉M:=A.live.no YF
  have lv:=ji.live
  have Cy:lg∈M:=by rw[A.eM];simp
  have mp:p∈M:=by rw[A.eM];simp
  obtain⟨⟨a1,a2,a3,a4,a5,a6⟩,⟨b1,b2,b3,b4,b5⟩,⟨c1,c2,c3,c4⟩,⟨d1,d2,d3⟩,⟨e1,e2⟩,g1,g2⟩:=A.ap.l
  have ett:((here::rest).zip rest)=(here::rest).zip (here::rest).tail:=rfl
  refine Jp<|ae rfl ⟨L,rfl,⟨_,aq.of Kk⟩,mD (K:=K) (a:=L) (xs:=ts.map V.ref) (fun i σ mj=> ∃u5 u6,σ=[some<|.ref p,some<|.ref w,some<|.ref L,some<|.ref L2,some<|.ref c,u5,u6]/\aF lg Cw mj/\mj lg=some (.lst<|((((here::rest).zip rest).take i).foldl (gT pars) last).map gV)) ⟨none,none,rfl,fun _ _ e _=>e,ji.hg⟩ ?_ ?_ ?_⟩
  ·rintro i σ mj _ ⟨u5,u6,rfl,b,_⟩
   exact aq.of<|b _ _ Kk fun z=>YG (by rw[z];exact Cy)
  ·rintro i x σ mj hi ⟨u5,u6,rfl,b,hg⟩
   obtain⟨pr,t,ub,rfl,ht⟩:=jL.at YD hi
   rw[zam] at ub
   obtain⟨⟨n,m⟩,rA,rfl⟩:=zbi.mp ub
   obtain⟨h1,h2⟩:=zbJ.mp rA
   have hn:=uj _ _ h1
   have hm:=uj (i+1) m (by rw[zbD];exact h2)
   have YH:=b _ _ ht fun z=>by rw[z,ji.hg] at ht;cases ht
   refine⟨t,_,rfl, .inl<|aG.of YH,rfl,_,_,rfl,_,_,rfl,rfl, ?_⟩
   have op:=b _ _ ji.ob.op c3
   have oo:=b _ _ ji.ob.ob a5
   have Cz:pars[n]?=some pars[n]:=zau hn
   have YI:=Cm (pars:=pars) (((here::rest).zip rest).take i) last
   have ll:=A.pR
   refine bA<|aX<|bf<|dJ<|ae rfl ⟨p,C,dx,_,_,rfl,oo,X.cl,X.oT,rg,ae rfl<|cx op (cq (by rw[zam,Cz];rfl))<|ae rfl<|B4 ⟨_,rfl, ?_⟩⟩
   have pH:(((here::rest).zip rest).take<|i+1).foldl (gT pars) last=gT pars ((((here::rest).zip rest).take i).foldl (gT pars) last) (n,m):=by
    rw[BM rA,List.foldl_append];rfl
   by_cases z:pars[n]=some m
   ·refine iT ?_ (zqT z)
    refine q9<|ae rfl<|dJ<|ae rfl ⟨p,C,dx,_,_,rfl,oo,X.cl,X.v8,BY,ae rfl ⟨lg,_,_,m,rfl,rfl,hg, ?_, ?_⟩⟩
    ·rw[zab,YI,ll]
     unfold eZ
     rw[if_pos (by lia),if_pos (by lia)];rfl
    ·refine⟨_,_,rfl,b.trans aF.upd, ?_⟩
     rw[au,pH]
     unfold gT
     rw[Cz,z,if_pos rfl,zbK];rfl
   ·refine iF ?_ (zqF z)
    refine⟨_,_,rfl,b, ?_⟩
    rw[pH]
    unfold gT
    rw[Cz,if_neg<|fun e=>z<|zal e];exact hg
  ·rintro σ mj ⟨u5,u6,rfl,b,hg⟩
   rw[zab,Cq,zaG (by rw[Cr];exact zqR _)] at hg
   have oo:=b _ _ ji.ob.ob a5
   have YJ:=b _ _ YE fun z=>nw (by rw[z];exact Cy)
   have bL:aZ M Cw mj:=fun x o e n=>b x o e fun z=>n (by rw[z];exact Cy)
   have YK:fG (iV (here::rest)) (-1)=some (V.int (d:Nat)):=by
    have e1:(here::rest)=(here::rest).dropLast++ [d]:=by
     have e2:(here::rest).getLast (by simp)=d:=by
      rw[List.getLast_eq_getElem]
      have:=(zak.mp hd).2
      simpa using this
     rw[<-e2,List.dropLast_concat_getLast]
    rw[e1]
    unfold iV
    rw[zap];exact oy _ _
   refine nJ<|bf<|ae rfl<|jH<|.inl ⟨w,_, -1,_,rfl,rfl,aq.of YJ,YK,ae rfl ⟨p,C,dx,_,rfl,oo,X.cl,X.iw,(by show 6<1000;decide), ?_⟩⟩
   rw[JW]
   have bp:aZ M mj (upd mj p<|.ins C dx<|h6 (d:Nat) lo pa ed be lg):=aZ.upd mp
   have bb:=bL.trans bp
   have k: ∀{x:Addr} {o:HO},Cw x=some o->x≠lg->x≠p->upd mj p (.ins C dx<|h6 (d:Nat) lo pa ed be lg) x=some o:=fun e n1 n2=>aU n2 (b _ _ e n1)
   refine ck<|ae rfl<|q c ps _ ((aZ.of sH).trans bb) xp pS (YC.keep (fun o e=>bb c o e pS)<|lv.bz bb) (by lia) ⟨dx,lo,pa,ed,be,lg,bs,es, ?_⟩
   exact⟨⟨au,k ji.ob.ol b4<|Ne.symm a1,k ji.ob.op c3<|Ne.symm a2,A.ob.ln,A.ob.tr,uj _ _ hd,A.ob.sz⟩,A.eM,A.ap,k ji.he d2<|Ne.symm a3,A.le,A.ea,A.e0,ji.JU bb,A.en,k ji.hb e1<|Ne.symm a4,A.lb,fun i x hx=>k (ji.hk i x hx) (fun z=>g1 (by rw[<-z];exact zae hx))<|fun z=>a6 (by rw[<-z];exact zae hx),by rw[aN<|Ne.symm a5];exact hg,by show(((here::rest).zip rest).foldl (gT pars) last).length=_;rw[Cm];exact A.pR⟩
end
def fk(R:Nat->Nat->Prop):List Nat->Prop
 | a::b::r=>R a b/\fk R (b::r)
 | _=>True
theorem CA{R:Nat->Nat->Prop}{m:Nat}{r:List Nat}: ∀(l:List Nat),fk R (l++ [m])->fk R (m::r)->fk R (l++m::r)
 | [],_,h=>h
 | [a],h,h'=> ⟨h.1,h'⟩
 | a::b::l,h,h'=> ⟨h.1,CA (b::l) h.2 h'⟩
theorem YL{R:Nat->Nat->Prop}{m k:Nat}(h2:R m k): ∀(l:List Nat),fk R (l++ [m])->fk R (l++ [m]++ [k]):=fun l h=>by
 rw[zai];exact CA l h ⟨h2,trivial⟩
theorem CB{R:Nat->Nat->Prop}{x:List Nat}: ∀(p:List Nat),fk R (p++x)->fk R x
 | [],h=>h
 | [a],h=>by cases x with
  | nil=>trivial
  | cons b r=>exact h.2
 | a::b::p,h=>CB (b::p) h.2
theorem xH{R:Nat->Nat->Prop}: ∀(l:List Nat),fk R l->fk (fun a b=>R b a) l.reverse
 | [],_=>trivial
 | [a],_=>trivial
 | a::b::r,h=>by
  have ih:=xH (b::r) h.2
  rw[zaC] at ih⊢
  rw[zaC]
  exact YL (R:=fun a b=>R b a) h.1 r.reverse ih
theorem CC{R S:Nat->Nat->Prop}(h: ∀a b,R a b->S a b): ∀(l:List Nat),fk R l->fk S l
 | [],_=>trivial
 | [a],_=>trivial
 | a::b::r,k=> ⟨h _ _ k.1,CC h (b::r) k.2⟩
theorem CD{R:Nat->Nat->Prop}: ∀(l:List Nat),fk R l-> ∀i n m,l[i]?=some n->l[i+1]?=some m->R n m
 | [],_,i,n,m,h,_=>by simp at h
 | [a],_,i,n,m,_,h=>by simp at h
 | a::b::r,k,0,n,m,h,h'=>by simp at h h';subst h h';exact k.1
 | a::b::r,k,i+1,n,m,h,h'=>CD (b::r) k.2 i n m (by simpa using h) (by simpa using h')
section
variable {pars:List (Option Nat)}
theorem nR(T:dh pars): ∀n,n<pars.length->fk (fun a b=>pars[a]?=some (some b)) (ups pars n n)/\(∀k∈ups pars n n,k<pars.length)/\(∃r,ups pars n n=n::r)/\ ∃q,ups pars n n=q++ [0]:=by
 intro n
 induction n using Nat.strongRecOn with
 | ind n ih=>
  intro hn
  by_cases z:n=0
  ·subst z
   exact⟨trivial,fun k hk=>by cases zac.mp hk;exact hn,⟨[],rfl⟩,⟨[],rfl⟩⟩
  ·obtain⟨j,hj,aK,e⟩:=jJ T (by lia) hn
   obtain⟨h1,h2,⟨r,er⟩,⟨q,eq⟩⟩:=ih j aK (by lia)
   rw[e]
   refine⟨?_,fun k hk=> ?_,⟨_,rfl⟩,⟨n::q,by rw[eq];rfl⟩⟩
   ·rw[er] at h1⊢;exact⟨hj,h1⟩
   ·rcases zaa.mp hk with rfl | hk
    ·exact hn
    ·exact h2 k hk
theorem xI: ∀(x y:List Nat) (m:Nat) (xs ys:List Nat),x=m::xs->y=m::ys-> ∃m' br de p q,strip x y=(m'::br,m'::de)/\x=p++m'::br/\y=q++m'::de:=by
 intro x
 induction x with
 | nil=>intro y m xs ys h;cases h
 | cons a as ih=>
  intro y m xs ys h1 h2
  cases h1
  subst h2
  match as,ys,ih with
  | [],ys,_=>exact⟨a,[],ys,[],[],xr a _,rfl,rfl⟩
  | b::bs,[],_=>exact⟨a,b::bs,[],[],[],xu _ a,rfl,rfl⟩
  | b::bs,c::cs,ih=>
   by_cases z:b=c
   ·subst z
    obtain⟨m',br,de,p,q,e,e1,e2⟩:=ih (b::cs) b bs cs rfl rfl
    exact⟨m',br,de,a::p,a::q,by rw[strip_eq,e],by rw[e1];rfl,by rw[e2];rfl⟩
   ·exact⟨a,b::bs,c::cs,[],[],xv z,rfl,rfl⟩
theorem um(T:dh pars){n d:Nat}(hn:n<pars.length)(hd:d<pars.length): ∃(u v:List Nat) (m:Nat),d_ pars n d=u++m::v/\(∃p,ups pars n n=u++m::p)/\(∃p,ups pars d d=v.reverse++m::p)/\fk (nQ pars) (d_ pars n d)/\(∃r,d_ pars n d=n::r)/\(∃q,d_ pars n d=q++ [d])/\(∀k∈d_ pars n d,k<pars.length)/\u.length+v.length<=n+d:=by
 obtain⟨h1,h2,⟨r1,e1⟩,⟨q1,f1⟩⟩:=nR T n hn
 obtain⟨g1,g2,⟨r2,e2⟩,⟨q2,f2⟩⟩:=nR T d hd
 obtain⟨m,xs,ys,p,q,es,ex,ey⟩:=xI (ups pars n n).reverse (ups pars d d).reverse 0 q1.reverse q2.reverse (by rw[f1,zaK];rfl) (by rw[f2,zaK];rfl)
 have ew:d_ pars n d=xs.reverse++m::ys:=by
  unfold d_
  rw[es]
  show(m::xs).reverse++ys=_
  rw[zaC,zai];rfl
 have eu:ups pars n n=xs.reverse++m::p.reverse:=by
  have:=congrArg List.reverse ex
  rw[zaV,zaK,zaC,zai] at this
  exact this
 have ed:ups pars d d=ys.reverse++m::q.reverse:=by
  have:=congrArg List.reverse ey
  rw[zaV,zaK,zaC,zai] at this
  exact this
 have c1:fk (nQ pars) (xs.reverse++ [m]):=by
  have hx:=CB p (by rw[<-ex];exact xH _ h1)
  have:=xH _ hx
  rw[zaC] at this
  exact CC (fun a b h=> .inr h) _ this
 have c2:fk (nQ pars) (m::ys):=CC (fun a b h=> .inl h) _ (CB q (by rw[<-ey];exact xH _ g1))
 have CG:=rj T n hn
 have Kl:=rj T d hd
 rw[eu] at CG
 rw[ed] at Kl
 simp only[zqA,zaF,zao] at CG Kl
 refine⟨xs.reverse,ys,m,ew,⟨_,eu⟩,⟨_,ed⟩,by rw[ew];exact CA _ c1 c2, ?_, ?_, ?_,by rw[zaF];lia⟩
 ·rw[eu] at e1
  rw[ew]
  cases hx:xs.reverse with
  | nil=>rw[hx] at e1;cases e1;exact⟨_,rfl⟩
  | cons a b=>rw[hx] at e1;cases e1;exact⟨_,rfl⟩
 ·rw[ed] at e2
  rw[ew]
  cases hy:ys.reverse with
  | nil=>
   rw[hy] at e2
   have:ys=[]:=List.reverse_eq_nil_iff.mp hy
   subst this
   cases e2;exact⟨_,rfl⟩
  | cons a b=>
   rw[hy] at e2
   have:ys=b.reverse++ [a]:=by rw[<-zaV ys,hy,zaC]
   cases e2
   exact⟨xs.reverse++m::b.reverse,by rw[this,zai];rfl⟩
 ·intro k hk
  rw[ew] at hk
  rcases zad.mp hk with hk | hk
  ·exact h2 k (by rw[eu];exact zav _ hk)
  ·rcases zaa.mp hk with rfl | hk
   ·exact h2 k (by rw[eu];exact zaq _ zas)
   ·exact g2 k (by rw[ed];exact zav _ (zbv.mpr hk))
end
section
variable {K:Frag} {C CN:Addr}
def mq(C:Addr)(H:Hp)(p:Addr)(M Ed:List Addr)(here d:Nat)(rest:List Nat)(pars:List (Option Nat))(aJ:List (List Nat))(last:List (Option Nat))(T:Nat)(l r:List Nat)(Q:VK):Prop:=
 ∀(c:Addr) (ps:List Pt) (H':Hp),aZ M H H'->H c=none->c∉M->cQ H' c ps l r->B.aA ps<=T*rest.length->cC C H' p M Ed d pars aJ (gz pars (here::rest) last) T->Q (.ref c) H'
def CH(C CN:Addr):Sp:=fun vs H Q E=> ∃(p:Addr) (M Ed:List Addr) (here:Nat) (pars:List (Option Nat)) (aJ:List (List Nat)) (last:List (Option Nat)) (T:Nat),vs=[.ref p]/\cC C H p M Ed here pars aJ last T/\T<=14000/\
 ((∃(j:Nat) (l r:List Nat),pars[here]?=some (some j)/\aJ[here]?=some l/\aJ[j]?=some r/\l.length<=100000/\mq C H p M Ed here j [j] pars aJ last T l r Q)\/(here=0/\E (.ref CN) none H))
def CI(C CN:Addr):Sp:=fun vs H Q E=> ∃(p:Addr) (M Ed:List Addr) (here:Nat) (pars:List (Option Nat)) (aJ:List (List Nat)) (last:List (Option Nat)) (T:Nat),vs=[.ref p]/\cC C H p M Ed here pars aJ last T/\T<=14000/\
 ((∃(j:Nat) (l r:List Nat),last[here]?=some (some j)/\pars[j]?=some (some here)/\aJ[here]?=some l/\aJ[j]?=some r/\l.length<=100000/\mq C H p M Ed here j [j] pars aJ last T l r Q)\/(last[here]?=some none/\E (.ref CN) none H))
def rB(C:Addr):Sp:=fun vs H Q E=> ∃(p:Addr) (M Ed:List Addr) (here d:Nat) (pars:List (Option Nat)) (aJ:List (List Nat)) (last:List (Option Nat)) (T:Nat) (rest:List Nat) (l r:List Nat),vs=[.ref p, .int d]/\cC C H p M Ed here pars aJ last T/\d<pars.length/\d_ pars here d=here::rest/\rest.length<=9000/\T*rest.length<=14000/\T<=14000/\aJ[here]?=some l/\aJ[d]?=some r/\l.length<=100000/\
 mq C H p M Ed here d rest pars aJ last T l r Q
theorem mq.same{C:Addr}{H H1:Hp}{p:Addr}{M Ed:List Addr}{here d:Nat}{rest:List Nat}{pars:List (Option Nat)}{aJ:List (List Nat)}{last:List (Option Nat)}{T:Nat}{l r:List Nat}{Q:VK}(g:mq C H p M Ed here d rest pars aJ last T l r Q)(s:aB H H1):mq C H1 p M Ed here d rest pars aJ last T l r Q:=
 fun c ps H' b f n h t x=>g c ps H' ((aZ.of s).trans b) (s.free f) n h t x
theorem YM(X:iu K C)(vs:List V)(H:Hp)(Q:VK)(E:XK)(h:CH C CN vs H Q E):ax (aS K [] [] [] [("along",C,pU C)] (et:=[("NoNode",CN)]) (E:=E)) He (Dn Q) (start m_ vs) H:=by
 obtain⟨p,M,Ed,here,pars,aJ,last,T,rfl,⟨dx,lo,pa,ed,be,lg,bs,es,A⟩,hT,h⟩:=h
 refine bA<|aX<|dJ<|ae rfl ⟨p,C,dx,_,_,rfl,A.ob.ob,X.cl,X.iw,kq,aw<|l_ ⟨_,rfl, ?_⟩⟩
 rcases h with⟨j,l,r,hj,hl,hr,mi,q⟩ | ⟨rfl,q⟩
 ·have h0:here≠0:=fun z=>by rw[z,A.ob.tr.rt] at hj;cases hj
  refine iF (cU ?_)<|zqF (by lia)
  obtain⟨j',bG,aK⟩:=A.ob.tr.up here (by lia) A.ob.hr
  rw[hj] at bG;cases bG
  refine ck<|h9 C (pU C) rfl<|ae rfl ⟨p,dx,_,rfl,A.ob.ob,gQ (by decide+kernel) (by decide+kernel) (by decide+kernel) (by decide+kernel) (by decide+kernel) (by decide+kernel),cP<|ay<|dJ<|ae rfl ⟨p,C,dx,_,_,rfl,A.ob.ob,X.cl,X.iw,kq,ay<|bf<|dJ<|ae rfl ⟨p,C,dx,_,_,rfl,A.ob.ob,X.cl,X.oT,rg,dJ<|ae rfl ⟨p,C,dx,_,_,rfl,A.ob.ob,X.cl,X.iw,kq,cx A.ob.op (cq (by rw[zam,hj];rfl))<|aL ⟨(by show 2<=sizeLine;decide),fun w fw=> ?_⟩⟩⟩⟩⟩
  have s1:=sameNew (o:= .lst (iV [here,j])) fw
  refine⟨p,M,Ed,here,j,pars,aJ,last,T,w,[j],l,r,rfl,⟨dx,lo,pa,ed,be,lg,bs,es,A.same s1⟩,au,A.live.no fw,fun i n m h1 h2=> ?_,fun n hn=>by cases zac.mp hn;exact Nat.lt_trans aK A.ob.hr,(by show 1<=9000;decide),by show T*1<=_;lia,hT,rfl,hl,hr,mi,mq.same q s1⟩
  cases i with
  | zero=>cases h1;cases h2;exact .inr hj
  | succ i=>simp at h2
 ·exact iT ⟨(by show 1<=sizeLine;decide),q⟩ rfl
theorem YN(X:iu K C)(vs:List V)(H:Hp)(Q:VK)(E:XK)(h:CI C CN vs H Q E):ax (aS K [] [] [] [("along",C,pU C)] (et:=[("NoNode",CN)]) (E:=E)) Hh (Dn Q) (start Hg vs) H:=by
 obtain⟨p,M,Ed,here,pars,aJ,last,T,rfl,⟨dx,lo,pa,ed,be,lg,bs,es,A⟩,hT,h⟩:=h
 obtain⟨o,ho⟩: ∃o,last[here]?=some o:=⟨_,zau (by rw[A.pR];exact A.ob.hr)⟩
 refine ba<|bf<|dJ<|ae rfl ⟨p,C,dx,_,_,rfl,A.ob.ob,X.cl,X.v8,BY,dJ<|ae rfl ⟨p,C,dx,_,_,rfl,A.ob.ob,X.cl,X.iw,kq,cx A.hg (cq (by rw[zam,ho];rfl)) ?_⟩⟩
 rcases h with⟨j,l,r,hj,hp,hl,hr,mi,q⟩ | ⟨hn,q⟩
 ·rw[ho] at hj;cases hj
  have uo:=(zak.mp hp).1
  refine bA<|aX<|ae rfl<|aw ⟨rfl,_,rfl,iF (cU ?_) rfl⟩
  refine ck<|h9 C (pU C) rfl<|ae rfl ⟨p,dx,_,rfl,A.ob.ob,gQ (by decide+kernel) (by decide+kernel) (by decide+kernel) (by decide+kernel) (by decide+kernel) (by decide+kernel),cP<|ay<|dJ<|ae rfl ⟨p,C,dx,_,_,rfl,A.ob.ob,X.cl,X.iw,kq,ay<|ae rfl<|aL ⟨(by show 2<=sizeLine;decide),fun w fw=> ?_⟩⟩⟩
  have s1:=sameNew (o:= .lst (iV [here,j])) fw
  refine⟨p,M,Ed,here,j,pars,aJ,last,T,w,[j],l,r,rfl,⟨dx,lo,pa,ed,be,lg,bs,es,A.same s1⟩,au,A.live.no fw,fun i n m h1 h2=> ?_,fun n hn=>by cases zac.mp hn;exact uo,(by show 1<=9000;decide),by show T*1<=_;lia,hT,rfl,hl,hr,mi,mq.same q s1⟩
  cases i with
  | zero=>cases h1;cases h2;exact .inl hp
  | succ i=>simp at h2
 ·rw[ho] at hn;cases hn
  exact bA<|aX<|ae rfl<|aw ⟨rfl,_,rfl,iT ⟨(by show 1<=sizeLine;decide),q⟩ rfl⟩
theorem YO(X:iu K C)(vs:List V)(H:Hp)(Q:VK)(E:XK)(h:rB C vs H Q E):ax (aS K [] [] [] [("along",C,pU C),("way",C,B2 C)] (E:=E)) Hi (Dn Q) (start qF vs) H:=by
 obtain⟨p,M,Ed,here,d,pars,aJ,last,T,rest,l,r,rfl,⟨dx,lo,pa,ed,be,lg,bs,es,A⟩,hd,ew,hle,hT,Co,hl,hr,mi,q⟩:=h
 refine ck<|h9 C (pU C) rfl<|ae rfl ⟨p,dx,_,rfl,A.ob.ob,gQ (by decide+kernel) (by decide+kernel) (by decide+kernel) (by decide+kernel) (by decide+kernel) (by decide+kernel),Ji C (B2 C) rfl<|ae rfl ⟨p,dx,_,rfl,A.ob.ob,gQ (by decide+kernel) (by decide+kernel) (by decide+kernel) (by decide+kernel) (by decide+kernel) (by decide+kernel),dJ<|ae rfl ⟨p,C,dx,_,_,rfl,A.ob.ob,X.cl,X.iw,kq,ae rfl ⟨p,dx,lo,pa,ed,be,lg,here,_,pars,here,d,rfl,A.ob,A.ob.hr,hd,fun w H1 s1 fw hw=> ?_⟩⟩⟩⟩
 obtain⟨u,v,m,e1,_,_,hc,_,⟨q',e2⟩,hk,_⟩:=um A.ob.tr A.ob.hr hd
 rw[ew] at hw hc e2 hk
 have nU:(here::rest)[rest.length]?=some d:=by
  rw[e2]
  have:q'.length=rest.length:=by
   have:=congrArg List.length e2
   simp only[zao,zqA,zbh] at this
   lia
  rw[<-this];simp
 exact⟨p,M,Ed,here,d,pars,aJ,last,T,w,rest,l,r,rfl,⟨dx,lo,pa,ed,be,lg,bs,es,A.same s1⟩,hw,A.live.no fw,fun i n m h1 h2=>CD _ hc i n m h1 h2,fun n hn=>hk n<|zaj _ hn,hle,hT,Co,nU,hl,hr,mi,mq.same q s1⟩
end
section
variable {K:Frag} {C CP:Addr}
abbrev z1:List (Str×V):=[("here", .int 0)]
abbrev z2(lo:Addr):List (Str×V):=[("here", .int 0),("lengths", .ref lo)]
abbrev z3(lo pa:Addr):List (Str×V):=[("here", .int 0),("lengths", .ref lo),("parents", .ref pa)]
abbrev z4(lo pa ed:Addr):List (Str×V):=[("here", .int 0),("lengths", .ref lo),("parents", .ref pa),("edges", .ref ed)]
abbrev z5(lo pa ed be:Addr):List (Str×V):=[("here", .int 0),("lengths", .ref lo),("parents", .ref pa),("edges", .ref ed),("below", .ref be)]
def CJ(C CP:Addr):Sp:=fun vs H Q E=> ∃(p dx:Addr) (v:V),vs=[.ref p,v]/\H p=some (.ins C dx [])/\
 ((∃(x:List Nat) (T:Nat),v= .int (x.length:Nat)/\ ∀(M:List Addr) (H':Hp),aF p H H'->(∀a∈M,a≠p->H a=none)->cC C H' p M [] 0 [none] [x] [none] T->Q .aC H')\/((pj v H\/ ∃i:Int,v= .int i/\i<0)/\E (.ref CP) none H))
theorem Km{H H':Hp}{a p:Addr}(b:aF p H H')(f:H' a=none)(n:a≠p):H a=none:=by
 cases h:H a with
 | none=>rfl
 | some o=>rw[b a o h n] at f;cases f
theorem uq{H1:Hp}{p C dx a:Addr}{fs iN:List (Str×V)}{xs:List V}{H:Hp}(b1:aF p H H1)(f:H1 a=none)(o1:H1 p=some (.ins C dx fs)):a≠p/\H a=none/\aF p H (upd (upd H1 a<|.lst xs) p<|.ins C dx iN)/\upd (upd H1 a<|.lst xs) p (.ins C dx iN) p=some (.ins C dx iN)/\upd (upd H1 a<|.lst xs) p (.ins C dx iN) a=some (.lst xs)/\
  ∀c o,H1 c=some o->c≠p->c≠a/\upd (upd H1 a<|.lst xs) p (.ins C dx iN) c=some o:=by
 have n:a≠p:=fun z=>by rw[<-z,f] at o1;cases o1
 refine⟨n,Km b1 f n,(b1.same<|sameNew f).trans aF.upd,au,aU n au,fun c o e nc=> ⟨fun z=> (by rw[z,f] at e;cases e),aU nc<|sameNew f _ _ e⟩⟩
theorem YQ(X:iu K C)(vs:List V)(H:Hp)(Q:VK)(E:XK)(h:CJ C CP vs H Q E):ax (aS K [("is_whole",nA)] [] (et:=[("NoPlace",CP)]) (E:=E)) G3 (Dn Q) (start G1 vs) H:=by
 obtain⟨p,dx,v,rfl,hp,h⟩:=h
 rcases h with⟨x,T,rfl,q⟩ | ⟨hn,q⟩
 ·refine bA (qZ<|iG<|jG nA rfl<|ay<|ae rfl<|aL ⟨_,rfl, .inl ⟨_,rfl,iE<|iF (aX<|ae rfl<|aw<|ltI ⟨_,rfl,iF (cU ?_)<|zqF (by lia)⟩) rfl⟩⟩)
  refine nJ<|aw<|ae rfl ⟨p,C,dx,_,rfl,hp,X.cl,X.iw,(by show 0<1000;decide), ?_⟩
  rw[show bM "here" (V.int 0) []=z1 from rfl]
  have b1:aF p H (upd H p<|.ins C dx z1):=aF.upd
  have o1:upd H p (.ins C dx z1) p=some (.ins C dx z1):=au
  generalize upd H p (.ins C dx z1)=H1 at b1 o1⊢
  refine nJ<|cP<|ay<|ae rfl<|aL ⟨(by show 1<=sizeLine;decide),fun lo f2=>ae rfl ⟨p,C,dx,_,rfl,aU (fun z=>by rw[z,f2] at o1;cases o1) o1,X.cl,X.sW,(by show 1<1000;decide), ?_⟩⟩
  have e2:bM "lengths" (V.ref lo) (z1)=z2 lo:=by rw[eJ (by decide+kernel)];rfl
  rw[e2]
  obtain⟨n2,r2,b2,o2,l2,w2⟩:=uq (iN:=z2 lo) (xs:=[V.int (x.length:Nat)]) b1 f2 o1
  clear w2
  generalize upd (upd H1 lo<|.lst [V.int (x.length:Nat)]) p (.ins C dx<|z2 lo)=H2 at b2 o2 l2⊢
  refine nJ<|cP<|ay<|aw<|aL ⟨(by show 1<=sizeLine;decide),fun pa f3=>ae rfl ⟨p,C,dx,_,rfl,aU (fun z=>by rw[z,f3] at o2;cases o2) o2,X.cl,X.oT,(by show 2<1000;decide), ?_⟩⟩
  have e3:bM "parents" (V.ref pa) (z2 lo)=z3 lo pa:=by rw[eJ (by decide+kernel),eJ (by decide+kernel)];rfl
  rw[e3]
  obtain⟨n3,r3,b3,o3,l3,w3⟩:=uq (iN:=z3 lo pa) (xs:=[V.aC]) b2 f3 o2
  obtain⟨YR,Kn⟩:=w3 _ _ l2 n2
  clear w3
  generalize upd (upd H2 pa<|.lst [V.aC]) p (.ins C dx<|z3 lo pa)=H3 at b3 o3 l3 Kn⊢
  refine nJ<|cP<|ay<|aw<|aL ⟨(by show 1<=sizeLine;decide),fun ed f4=>ae rfl ⟨p,C,dx,_,rfl,aU (fun z=>by rw[z,f4] at o3;cases o3) o3,X.cl,X.v7,(by show 3<1000;decide), ?_⟩⟩
  have e4:bM "edges" (V.ref ed) (z3 lo pa)=z4 lo pa ed:=by rw[eJ (by decide+kernel),eJ (by decide+kernel),eJ (by decide+kernel)];rfl
  rw[e4]
  obtain⟨n4,r4,b4,o4,l4,w4⟩:=uq (iN:=z4 lo pa ed) (xs:=[V.aC]) b3 f4 o3
  obtain⟨YS,xJ⟩:=w4 _ _ Kn n2
  obtain⟨YT,xM⟩:=w4 _ _ l3 n3
  clear w4
  generalize upd (upd H3 ed<|.lst [V.aC]) p (.ins C dx<|z4 lo pa ed)=H4 at b4 o4 l4 xJ xM⊢
  refine nJ<|cP<|ay<|cP<|aL ⟨(by show 0<=sizeLine;decide),fun b fb=>aL ⟨(by show 1<=sizeLine;decide),fun be f5=> ?_⟩⟩
  have nb:b≠p:=fun z=>by rw[<-z,fb] at o4;cases o4
  have rb:=Km b4 fb nb
  have sb:=sameNew (o:= .lst []) fb
  have Ko:=b4.same sb
  have ur:=sb _ _ o4
  have Kp:upd H4 b (.lst []) b=some (.lst []):=au
  have ul:lo≠b:=fun z=>by rw[z,fb] at xJ;cases xJ
  have up:pa≠b:=fun z=>by rw[z,fb] at xM;cases xM
  have ue:ed≠b:=fun z=>by rw[z,fb] at l4;cases l4
  have Kq:=sb _ _ xJ
  have Kr:=sb _ _ xM
  have Ks:=sb _ _ l4
  generalize upd H4 b (.lst [])=YU at Ko ur Kp Kq Kr Ks f5 sb⊢
  refine(ae rfl ⟨p,C,dx,_,rfl,aU (fun z=>by rw[z,f5] at ur;cases ur) ur,X.cl,X.AA,(by show 4<1000;decide), ?_⟩)
  have e5:bM "below" (V.ref be) (z4 lo pa ed)=z5 lo pa ed be:=by rw[eJ (by decide+kernel),eJ (by decide+kernel),eJ (by decide+kernel),eJ (by decide+kernel)];rfl
  rw[e5]
  obtain⟨n5,r5,b5,o5,l5,w5⟩:=uq (iN:=z5 lo pa ed be) (xs:=[V.ref b]) Ko f5 ur
  obtain⟨YV,Kt⟩:=w5 _ _ Kq n2
  obtain⟨YW,Ku⟩:=w5 _ _ Kr n3
  obtain⟨YX,Kv⟩:=w5 _ _ Ks n4
  obtain⟨YY,Kw⟩:=w5 _ _ Kp nb
  clear w5
  generalize upd (upd YU be<|.lst [V.ref b]) p (.ins C dx<|z5 lo pa ed be)=H5 at b5 o5 l5 Kt Ku Kv Kw⊢
  refine nJ<|cP<|ay<|aw<|aL ⟨(by show 1<=sizeLine;decide),fun lg f6=>ae rfl ⟨p,C,dx,_,rfl,aU (fun z=>by rw[z,f6] at o5;cases o5) o5,X.cl,X.v8,(by show 5<1000;decide), ?_⟩⟩
  have e6:bM "last_gone" (V.ref lg) (z5 lo pa ed be)=h6 (0:Nat) lo pa ed be lg:=by rw[eJ (by decide+kernel),eJ (by decide+kernel),eJ (by decide+kernel),eJ (by decide+kernel),eJ (by decide+kernel)];rfl
  rw[e6]
  obtain⟨n6,r6,b6,o6,l6,w6⟩:=uq (iN:=h6 (0:Nat) lo pa ed be lg) (xs:=[V.aC]) b5 f6 o5
  obtain⟨YZ,Kx⟩:=w6 _ _ Kt n2
  obtain⟨Y0,Ky⟩:=w6 _ _ Ku n3
  obtain⟨Y1,Kz⟩:=w6 _ _ Kv n4
  obtain⟨Y2,KA⟩:=w6 _ _ Kw nb
  obtain⟨Y3,KC⟩:=w6 _ _ l5 n5
  clear w6
  generalize upd (upd H5 lg<|.lst [V.aC]) p (.ins C dx<|h6 (0:Nat) lo pa ed be lg)=H6 at b6 o6 l6 Kx Ky Kz KA KC⊢
  refine q [p,lo,pa,ed,be,lg,b] H6 b6 (fun a ha na=> ?_) ⟨dx,lo,pa,ed,be,lg,[b],[V.aC],⟨o6,Kx,Ky,rfl,⟨rfl,fun i h0 hi=> ?_⟩,Nat.zero_lt_one,(by show 1<=100000;decide)⟩,rfl,⟨?_⟩,Kz,rfl,rfl,rfl,fun i j e=> ?_,fun i a e=> ?_,KC,rfl,fun i a e=> ?_,l6,rfl⟩
  ·simp only[zaa,zat,or_false] at ha
   rcases ha with rfl | rfl | rfl | rfl | rfl | rfl | rfl
   ·exact absurd rfl na
   ·exact r2
   ·exact r3
   ·exact r4
   ·exact r5
   ·exact r6
   ·exact rb
  ·exact absurd hi (by show ¬i<1;lia)
  ·simp only[zaN,zaa,not_or,zat,not_false_eq_true,and_true,List.nodup_nil]
   exact⟨⟨Ne.symm n2,Ne.symm n3,Ne.symm n4,Ne.symm n5,Ne.symm n6,Ne.symm nb⟩,⟨YR,YS,YV,YZ,ul⟩,⟨YT,YW,Y0,up⟩,⟨YX,Y1,ue⟩,⟨Y3,Ne.symm YY⟩,Ne.symm Y2⟩
  ·cases i with
   | zero=>cases e
   | succ i=>simp at e
  ·cases i with
   | zero=>cases e
   | succ i=>simp at e
  ·cases i with
   | zero=>cases e;exact KA
   | succ i=>simp at e
 ·rcases hn with hn | ⟨i,rfl,hi⟩
  ·exact bA (qZ<|iG<|jG nA rfl<|ay<|ae rfl<|aL ⟨_,rfl, .inr ⟨hn,iE<|iT (iT ⟨(by show 1<=sizeLine;decide),q⟩ rfl) rfl⟩⟩)
  ·exact bA (qZ<|iG<|jG nA rfl<|ay<|ae rfl<|aL ⟨_,rfl, .inl ⟨_,rfl,iE<|iF (aX<|ae rfl<|aw<|ltI ⟨_,rfl,iT ⟨(by show 1<=sizeLine;decide),q⟩<|zqT hi⟩) rfl⟩⟩)
end
end L2.N
namespace L2.B
open PySem PySem.Spec PyProof.Rows
def KD:List Str:=["_law_cell","_law_size","_law_signs_here"]
noncomputable def KG:List RS:=
 [.asg 2 (.c (.str " !\"#$&'()*+,-./0123456789:;<=>?@ABCDEFGHIJKLMNOPQRSTUVWXYZ[\\]^_`")),
 .asg 2 (.bin .Add (.v 2)<|.c<|.str "abcdefghijklmnopqrstuvwxyz{|}~\n"),
 .ret (.bg .join (.c (.str "")) [(.comp none [("_law_signs_here",2),("_law_cell",0)] .gX [(.v 1)] none (.ix (.v 1) (.bin .Mod (.bin .Add (.v 2) (.bin .Mult (.v 0) (.bin .Add (.c (.int 1)) (.bin .Mod (.bin .FloorDiv (.v 2) (.c (.int 95))) (.c (.int 5)))))) (.c (.int 95)))))])]
def Y4:List Str:=["range"]
def KH:List Str:=["_law_cell"]
noncomputable def KI:List RS:=
 [.ite (.cmp .Eq (.bin .Mod (.bin .FloorDiv (.v 0) (.c (.int 21))) (.c (.int 8))) (.c (.int 1))) [.ret (.call 0 [(.bin .FloorDiv (.v 0) (.c (.int 168))),(.bin .Mod (.v 0) (.c (.int 401)))])] [],
 .ret (.call 0 [(.bin .FloorDiv (.v 0) (.c (.int 168))),(.bin .Mod (.v 0) (.c (.int 21)))])]
def Y5:List Str:=["_law_signs"]
def KJ:List Str:=["_law_parts","_law_found","_law_put","_law_cut","_law_word","_law_thing"]
noncomputable def KL:List RS:=
 [.asg 1 (.lst []),
 .asg 2 (.c<|.str ""),
 .asg 3 (.c<|.str ""),
 .k_ [4,5] .list [(.bin .Add (.v 0) (.lst [(.tup [(.c (.str "end")),(.c (.int 1))])]))] [.ite (.cmp .Eq (.v 4) (.c (.str "put"))) [.asg 2 (.bin .Add (.v 2) (.v 5))] [.ite (.cmp .Eq (.v 4) (.c (.str "cut"))) [.asg 3 (.bin .Add (.v 3) (.v 5))] [.ite (.cmp .Gt (.v 5) (.c (.int 0))) [.asg 1 (.bin .Add (.bin .Add (.v 1) (.bin .Mult (.lst [(.tup [(.c (.str "put")),(.v 2)])]) (.blt .int [(.cmp .NotEq (.v 2) (.c (.str "")))]))) (.bin .Mult (.lst [(.tup [(.c (.str "cut")),(.v 3)])]) (.blt .int [(.cmp .NotEq (.v 3) (.c (.str "")))]))),
     .asg 2 (.c<|.str ""),
     .asg 3 (.c<|.str ""),
     .ite (.and [(.cmp .Eq (.v 4) (.c (.str "keep"))),(.cmp .NotEq (.v 1) (.lst [])),(.cmp .Eq (.ix (.ix (.v 1) (.neg (.c (.int 1)))) (.c (.int 0))) (.c (.str "keep")))]) [.set (.v 1) (.neg (.c (.int 1))) (.tup [(.c (.str "keep")),(.bin .Add (.ix (.ix (.v 1) (.neg (.c (.int 1)))) (.c (.int 1))) (.v 5))])] [.ite (.cmp .Eq (.v 4) (.c (.str "keep"))) [.drop (.bg .append (.v 1) [(.tup [(.v 4),(.v 5)])])] []]] []]]],
 .ret (.v 1)]
def Y6:List Str:=["int"]
def KN:List Str:=["_law_cell","_law_text","_law_parts","_law_at","_law_more","_law_turn","_law_keep","_law_cut","_law_some"]
noncomputable def KO:List RS:=
 [.asg 2 (.lst []),
 .asg 3 (.c<|.int 0),
 .asg 4 (.bin .Mod (.bin .Mult (.v 0)<|.c<|.int 48271)<|.c<|.int 2147483647),
 .jy 5 .gX [(.bin .Add (.c (.int 1)) (.bin .Mod (.v 0) (.c (.int 4))))] [.asg 6 (.blt .min [(.bin .Sub (.blt .len [(.v 1)]) (.v 3)),(.bin .Mod (.v 4) (.c (.int 9)))]),
  .asg 7 (.blt .min [(.bin .Sub (.bin .Sub (.blt .len [(.v 1)])<|.v 3)<|.v 6),(.bin .Mod (.bin .FloorDiv (.v 4)<|.c<|.int 9)<|.c<|.int 4)]),
  .drop (.bg .append (.v 2) [(.tup [(.c<|.str "keep"),(.v 6)])]),
  .asg 8 (.lst [(.tup [(.c<|.str "put"),(.call 0 [(.bin .FloorDiv (.v 4)<|.c<|.int 180),(.bin .Mod (.bin .FloorDiv (.v 4)<|.c<|.int 36)<|.c<|.int 5)])]),(.tup [(.c<|.str "cut"),(.sl (.v 1) (some<|.bin .Add (.v 3)<|.v 6)<|some<|.bin .Add (.bin .Add (.v 3)<|.v 6)<|.v 7)])]),
  .asg 2 (.bin .Add (.v 2)<|.v 8),
  .asg 3 (.bin .Add (.bin .Add (.v 3)<|.v 6)<|.v 7),
  .asg 4 (.bin .Mod (.bin .Mult (.v 4) (.c (.int 48271))) (.c (.int 2147483647)))],
 .ret (.call 1 [(.bin .Add (.v 2) (.lst [(.tup [(.c (.str "keep")),(.bin .Sub (.blt .len [(.v 1)]) (.v 3))])]))])]
def Y7:List Str:=["_law_signs","_law_neat"]
def Y8:List Str:=["range","min","len"]
def KP:List Str:=["_law_part_here"]
noncomputable def KQ:List RS:=
 [.ite (.or [(.not (.dW .tuple (.v 0))),(.cmp .NotEq (.blt .len [(.v 0)]) (.c (.int 2))),(.cmp .NotIn (.ix (.v 0) (.c (.int 0))) (.tup [(.c (.str "keep")),(.c (.str "put")),(.c (.str "cut"))]))]) [.ret (.c (.bl false))] [],
 .ite (.cmp .Eq (.ix (.v 0)<|.c<|.int 0)<|.c<|.str "keep") [.ret<|.and [(.dW .int<|.ix (.v 0)<|.c<|.int 1),(.not<|.dW .bool<|.ix (.v 0)<|.c<|.int 1),(.cmp .Gt (.ix (.v 0)<|.c<|.int 1)<|.c<|.int 0)]] [],
 .ret (.and [(.dW .str (.ix (.v 0) (.c (.int 1)))),(.cmp .NotEq (.ix (.v 0) (.c (.int 1))) (.c (.str "")))])]
def Y9:List Str:=["isinstance","tuple","len","int","bool","str"]
def KR:List Str:=["_law_change","_law_text","_law_due","_law_at","_law_k","_law_word","_law_thing","_law_ahead"]
noncomputable def KS:List RS:=
 [.ite (.or [(.not (.dW .list (.v 0))),(.cmp .Gt (.blt .len [(.comp none [] .list [(.v 0)] (some (.not (.call 0 [(.v 0)]))) (.v 0))]) (.c (.int 0)))]) [.ret (.c (.bl false))] [],
 .asg 3 (.c<|.int 0),
 .jy 4 .gX [(.blt .len [(.v 0)])] [.sE [5,6] (.ix (.v 0) (.v 4)),
  .asg 7 (.iW (.cmp .Gt (.v 4)<|.c<|.int 0) (.ix (.ix (.v 0)<|.bin .Sub (.v 4)<|.c<|.int 1)<|.c<|.int 0)<|.c<|.str ""),
  .ite (.or [(.cmp .Eq (.v 7)<|.v 5),(.and [(.cmp .Eq (.v 7)<|.c<|.str "cut"),(.cmp .Eq (.v 5)<|.c<|.str "put")])]) [.ret<|.c<|.bl false] [],
  .ite (.and [(.cmp .Eq (.v 5)<|.c<|.str "cut"),(.cmp .NotEq (.sl (.v 1) (some<|.v 3)<|some<|.bin .Add (.v 3)<|.blt .len [(.v 6)])<|.v 6)]) [.ret<|.c<|.bl false] [],
  .ite (.cmp .NotEq (.v 5) (.c (.str "put"))) [.asg 3 (.bin .Add (.v 3) (.iW (.cmp .Eq (.v 5) (.c (.str "keep"))) (.v 6) (.blt .len [(.v 6)])))] []],
 .ret (.and [(.cmp .Eq (.v 3) (.blt .len [(.v 1)])),(.cmp .Eq (.call 1 [(.v 1),(.v 0)]) (.v 2))])]
def Y_:List Str:=["_law_part","_law_done"]
def Za:List Str:=["isinstance","list","len","range"]
def KU:List Str:=["_law_above","_law_node","_law_found"]
noncomputable def KW:List RS:=
 [.asg 2 (.lst [(.v 1)]),
 .lA (.cmp .Gt (.ix (.v 2)<|.neg<|.c<|.int 1)<|.c<|.int 0) [.drop<|.bg .append (.v 2) [(.ix (.v 0)<|.ix (.v 2)<|.neg<|.c<|.int 1)]],
 .ret (.v 2)]
def KY:List Str:=["_law_above","_law_one","_law_other","_law_up_here","_law_down","_law_meet"]
noncomputable def KZ:List RS:=
 [.asg 3 (.call 0 [(.v 0),(.v 1)]),
 .asg 4 (.call 0 [(.v 0),(.v 2)]),
 .asg 5 (.ix (.comp none [("_law_down",4)] .list [(.v 3)] (some<|.cmp .In (.v 0)<|.v 1)<|.v 0)<|.c<|.int 0),
 .ret (.bin .Add (.bin .Add (.sl (.v 3) none (some (.bg .sA (.v 3) [(.v 5)]))) (.lst [(.v 5)])) (.xt (kf none (-1)) [(.sl (.v 4) none (some (.bg .sA (.v 4) [(.v 5)])))]))]
def Zb:List Str:=["_law_up"]
end L2.B
namespace L2.N
open PySem PySem.Spec L2.B
def rC:Sp:=fun vs H Q E=> ∃(c:Int) (n:Int),vs=[.int c, .int n]/\0<=n/\n<=1000/\ ∀x H',good x->x.length=n.toNat->aB H H'->Q (.str x) H'
theorem Zc:(A1++A2).length=95:=by decide+kernel
section
variable {K:Frag}
theorem Zd(vs:List V)(H:Hp)(Q:VK)(E:XK)(h:rC vs H Q E):ax (aS K [] [] (E:=E)) KG (Dn Q) (start KD vs) H:=by
 obtain⟨c,n,rfl,tD,fJ,k⟩:=h
 have ho:=U3
 have c5:(0:Int) <5:=by decide
 have Ze:(0:Int) <95:=by decide
 refine ba<|aw<|ba<|aV<|ae rfl<|aw ⟨U4, ?_⟩
 refine ck ⟨rfl,_,rfl,n,rfl,by lia,by lia,fun i m ys H2=>m=n.toNat - i/\i<=n.toNat/\H2=H/\ ∃ts:List Str,ys=ts.map V.str/\ts.length=i/\ ∀t∈ts,AN t,⟨_,rfl,zqZ _,rfl,[],rfl,rfl,fun t ht=>by cases ht⟩, ?_⟩
 rintro i m ys H2 ⟨rfl,hi,rfl,ts,rfl,hl,km⟩
 by_cases aK:i<n.toNat
 ·refine .inr ⟨aK, ?_⟩
  rintro x H3 ⟨rfl,rfl⟩
  have d0:0<=c / 95 % 5/\c / 95 % 5<5:=⟨zaJ _ (by decide),zaL _ (by decide)⟩
  refine bf<|ae rfl<|aV<|aV<|ae rfl<|aV<|ae rfl<|aV<|aw<|aV<|aV<|ae rfl<|aw ⟨⟨by decide,by decide⟩,aw ⟨c5,iH ⟨.inl ⟨by lia,by lia⟩,iH<|aw ⟨Ze, ?_⟩⟩⟩⟩
  obtain⟨j,ej⟩: ∃j,j=(c+ (0+ (i:Int))* (1+c / 95 % 5)) % 95:=⟨_,rfl⟩
  have hj0:0<=j:=by rw[ej];exact zaJ _ (by decide)
  have z8:j<95:=by rw[ej];exact zaL _ (by decide)
  have uo:j.toNat< (A1++A2).cps.toList.length:=by rw[<-len_list,Zc];lia
  refine .inr<|.inr<|.inl ⟨A1++A2,j,(A1++A2).cps.toList[j.toNat],rfl,(by rw[ej]),bQ (by have:=ho.2.1;lia), ?_, ?_,n.toNat - (i+1),by lia,rfl,aK,rfl,ts++ [⟨#[(A1++A2).cps.toList[j.toNat]]⟩],(by rw[zap];rfl),by simp[hl], ?_⟩
  ·have e:=cq (xs:=(A1++A2).cps.toList) (j:=j.toNat) (v:=(A1++A2).cps.toList[j.toNat]) (by simp[uo])
   rw[show((j.toNat:Nat):Int)=j by lia] at e
   exact e
  ·rw[zab];exact dY (by lia)
  ·intro t ht
   rcases zad.mp ht with z | z
   ·exact km t z
   ·rw[zac.mp z]
    refine⟨rfl,fun d hd=> ?_⟩
    have:d=(A1++A2).cps.toList[j.toNat]:=by simpa using hd
    rw[this]
    exact ho.2.2 _<|List.getElem_mem uo
 ·have iz:i=n.toNat:=by lia
  refine .inl ⟨by show n.toNat<=i;lia,fun p hp=> ?_⟩
  refine⟨ts,aq.of au,joinOk_of (by rw[wc ts km];lia), ?_⟩
  exact k (cat ts) _ (U5 km (by lia)) (by rw[Hr,wc ts km,hl,iz])<|sameNew hp
def CK:Sp:=fun vs H Q E=> ∃(c:Int),vs=[.int c]/\ ∀x H',good x->x.length<=400->aB H H'->Q (.str x) H'
theorem Zf(vs:List V)(H:Hp)(Q:VK)(E:XK)(h:CK vs H Q E):ax (aS K [("_law_signs",rC)] [] (E:=E)) KI (Dn Q) (start KH vs) H:=by
 obtain⟨c,rfl,k⟩:=h
 have c8:(0:Int) <8:=by decide
 have uu:(0:Int) <21:=by decide
 have Zg:(0:Int) <401:=by decide
 have d0:0<=c % 401/\c % 401<401:=⟨zaJ _ (by decide),zaL _ (by decide)⟩
 have d1:0<=c % 21/\c % 21<21:=⟨zaJ _ (by decide),zaL _ (by decide)⟩
 refine bA<|aX<|aV<|aV<|ae rfl<|aw ⟨⟨by decide,by decide⟩,aw ⟨c8,aw<|l_ ⟨_,rfl, ?_⟩⟩⟩
 by_cases z:c / 21 % 8=1
 ·refine iT ?_ (zqT z)
  exact ck<|c7 rC rfl<|ay<|aV<|ae rfl<|aw ⟨⟨by decide,by decide⟩,ay<|aV<|ae rfl<|aw ⟨Zg,aL ⟨_,_,rfl,by lia,by lia,fun x H' gx lx s=>k x H' gx (by lia) s⟩⟩⟩
 ·refine iF (cU ?_) (zqF z)
  exact ck<|c7 rC rfl<|ay<|aV<|ae rfl<|aw ⟨⟨by decide,by decide⟩,ay<|aV<|ae rfl<|aw ⟨uu,aL ⟨_,_,rfl,by lia,by lia,fun x H' gx lx s=>k x H' gx (by lia) s⟩⟩⟩
end
theorem mr(F G:List Pt):B.aA (F++G)=B.aA F+B.aA G:=by unfold B.aA;rw[zap,zbY]
theorem uv(p:Pt)(F:List Pt):B.aA (p::F)=B.dy p+B.aA F:=by simp[B.aA]
theorem K0(P C:Str):B.aA (tl P C)=P.length+C.length:=by
 unfold tl B.txt
 rw[mr]
 by_cases hp:P="" <;>by_cases hc:C="" <;>simp[hp,hc,B.aA,B.dy] <;>rfl
theorem Zh(F:List Pt)(n:Int):B.aA (cO F n)=B.aA F:=by
 rcases BH F with⟨F',m,rfl⟩ | ⟨_,e⟩
 ·rw[tw,mr,mr];rfl
 ·rw[e,mr];rfl
theorem Zi{Γ:aQ}{D:Ends}{w:Option V}{f:Addr}{P C:V}{n:Int}{H:Hp}{ys:List V}{F:List Pt}(hf:H f=some (.lst ys))(pv:aR H ys F)(ho: ∀p∈F,hZ p)(hl:F.length<=900000)
  (k: ∀H' de,aF f H H'->H' f=some (.lst de)->aR H' de (cO F n)->D.nx [w,some<|.ref f,some P,some C,some<|.str "keep",some<|.int n] H'):
  ax Γ [.ite (.and [(.cmp .Eq (.v 4)<|.c<|.str "keep"),(.cmp .NotEq (.v 1)<|.lst []),(.cmp .Eq (.ix (.ix (.v 1)<|.neg<|.c<|.int 1)<|.c<|.int 0)<|.c<|.str "keep")]) [.set (.v 1) (.neg<|.c<|.int 1)<|.tup [(.c<|.str "keep"),(.bin .Add (.ix (.ix (.v 1)<|.neg<|.c<|.int 1)<|.c<|.int 1)<|.v 5)]] [.ite (.cmp .Eq (.v 4)<|.c<|.str "keep") [.drop<|.bg .append (.v 1) [(.tup [(.v 4),(.v 5)])]] []]]
   D [w,some<|.ref f,some P,some C,some<|.str "keep",some<|.int n] H:=by
 have lf:=Paired.length pv
 have app: ∀H1,aB H H1->cO F n=F++ [.keep n]->ax Γ [.ite (.cmp .Eq (.v 4)<|.c<|.str "keep") [.drop<|.bg .append (.v 1) [(.tup [(.v 4),(.v 5)])]] []] {D with nx:=ax Γ [] D} [w,some<|.ref f,some P,some C,some<|.str "keep",some<|.int n] H1:=by
  intro H1 s1 e
  refine bA<|aX<|ae rfl<|aw<|dz ⟨_,rfl,iT ?_ BF⟩
  refine dH<|fP<|ae rfl ⟨.inl ⟨rfl,_,aq.of<|s1 _ _ hf⟩,je<|ay<|ae rfl<|ay<|ae rfl<|aL ⟨(by show 2<=sizeLine;decide),fun t ft=> ⟨ys,(sameNew ft) _ _<|s1 _ _ hf,dY (by lia), ?_⟩⟩⟩
  have s2:=s1.trans (sameNew (o:= .tup [.str "keep", .int n]) ft)
  have bb:aF f H (upd (upd H1 t<|.tup [.str "keep", .int n]) f<|.lst<|ys++ [V.ref t]):=fun b o e ne=>by rw[aN ne];exact s2 _ _ e
  have nt:t≠f:=fun z=>by rw[z,s1 _ _ hf] at ft;cases ft
  refine k _ _ bb au ?_
  rw[e]
  exact B.Paired.app (pv.mono<|bb.bz hf)<|.cons ⟨t,rfl,by rw[aN nt,au];rfl⟩ .nil
 refine bA<|pK<|aX<|ae rfl<|aw<|dz ⟨_,rfl,iT ?_ BF⟩
 refine pK<|aX<|ae rfl<|cP<|aL ⟨zqZ _,fun e fe=> ?_⟩
 have s1:=sameNew (o:= .lst []) fe
 refine WZ (s1 _ _ hf) au (pv.mono<|dr s1) ho ⟨_,rfl, ?_⟩
 rcases List.eq_nil_or_concat F with hF | ⟨F',p,hF⟩
 ·refine iF (iF (app _ s1 (by rw[hF];rfl)) rfl) (by rw[hF];rfl)
 ·rw[List.concat_eq_append] at hF
  refine iT ?_ (by rw[hF];simp)
  have K1:=pv
  rw[hF] at K1
  obtain⟨uw,x,ey,p0,⟨b,ex,hb⟩⟩:=Jo K1
  have pG:=s1 _ _ hf
  rw[ey,ex] at pG
  have qQ:=s1 _ _ hb
  refine Jh<|aX<|bf<|bf<|ae rfl<|jH<|cx pG (oy _ _)<|aw<|gu qQ rfl<|aw<|dz ⟨_,rfl, ?_⟩
  cases p with
  | keep m=>
   refine iT ?_ BF
   refine q9<|je<|ay<|aw<|ay<|aV<|bf<|bf<|ae rfl<|jH<|cx pG (oy _ _)<|aw<|gu qQ rfl<|ae rfl<|iH<|aL ⟨(by show 2<=sizeLine;decide),fun t ft=> ?_⟩
   have s2:=s1.trans (sameNew (o:= .tup [.str "keep", .int<|m+n]) ft)
   have Bk:=(sameNew (o:= .tup [.str "keep", .int<|m+n]) ft) _ _ pG
   refine ae rfl<|jH ⟨f,_, -1,uw.length,rfl,rfl,Bk,by rw[zqA];exact W0 _, ?_⟩
   have es:(uw++ [V.ref b]).set uw.length (.ref t)=uw++ [.ref t]:=by rw[List.set_append_right _ _<|zqR _,zbu];rfl
   rw[es]
   have bb:aF f H (upd (upd (upd H e<|.lst []) t<|.tup [.str "keep", .int<|m+n]) f<|.lst<|uw++ [V.ref t]):=fun b o e ne=>by rw[aN ne];exact s2 _ _ e
   have nt:t≠f:=fun z=>by rw[z,pG] at ft;cases ft
   refine k _ _ bb au ?_
   rw[hF,tw]
   exact B.Paired.app (aR.mono (bb.bz hf) p0)<|.cons ⟨t,rfl,by rw[aN nt,au,Int.add_comm];rfl⟩ .nil
  | put z=>exact iF (app _ s1 (by rw[hF];exact tm fun q hq=>by rw[zcc] at hq;cases hq;rfl)) W7
  | cut z=>exact iF (app _ s1 (by rw[hF];exact tm fun q hq=>by rw[zcc] at hq;cases hq;rfl)) BD
def CL:List RS:=[.ite (.cmp .Eq (.v 4)<|.c<|.str "put") [.asg 2<|.bin .Add (.v 2)<|.v 5] [.ite (.cmp .Eq (.v 4)<|.c<|.str "cut") [.asg 3<|.bin .Add (.v 3)<|.v 5] [.ite (.cmp .Gt (.v 5)<|.c<|.int 0) [.asg 1<|.bin .Add (.bin .Add (.v 1)<|.bin .Mult (.lst [(.tup [(.c<|.str "put"),(.v 2)])])<|.blt .int [(.cmp .NotEq (.v 2)<|.c<|.str "")])<|.bin .Mult (.lst [(.tup [(.c<|.str "cut"),(.v 3)])])<|.blt .int [(.cmp .NotEq (.v 3)<|.c<|.str "")], .asg 2<|.c<|.str "", .asg 3<|.c<|.str "", .ite (.and [(.cmp .Eq (.v 4)<|.c<|.str "keep"),(.cmp .NotEq (.v 1)<|.lst []),(.cmp .Eq (.ix (.ix (.v 1)<|.neg<|.c<|.int 1)<|.c<|.int 0)<|.c<|.str "keep")]) [.set (.v 1) (.neg<|.c<|.int 1)<|.tup [(.c<|.str "keep"),(.bin .Add (.ix (.ix (.v 1)<|.neg<|.c<|.int 1)<|.c<|.int 1)<|.v 5)]] [.ite (.cmp .Eq (.v 4)<|.c<|.str "keep") [.drop<|.bg .append (.v 1) [(.tup [(.v 4),(.v 5)])]] []]] []]]]
structure K2 (H:Hp) (a w2 e f:Addr) (xs ys:List V) (F:List Pt) (H2:Hp):Prop where
 sm:aB H H2
 fr:H f=none
 it:H2 w2=some (.lst<|xs++ [.ref e])
 en:H2 e=some (.tup [.str "end", .int 1])
 ne:f≠w2
 li:H2 f=some (.lst ys)
 pv:aR H2 ys F
def xO(H:Hp)(a w2 e:Addr)(xs:List V)(l r:List Nat)(ps:List Pt)(i:Nat)(σ:St)(H2:Hp):Prop:=
 ∃(f:Addr) (ys:List V) (F:List Pt) (P C:Str) (u4 u5:Option V) (l0 r0 l2 r2:List Nat),σ=[some<|.ref a,some<|.ref f,some<|.str P,some<|.str C,u4,u5]/\K2 H a w2 e f xs ys F H2/\Jr F/\Run l0 F r0/\sg P/\sg C/\
  l=l0++ (C.cps.toList++l2)/\r=r0++ (P.cps.toList++r2)/\Run l2 (ps.drop i) r2/\F.length<=3*i/\B.aA F+P.length+C.length+B.aA (ps.drop i)<=B.aA ps
def K3(H:Hp)(a w2 e:Addr)(xs:List V)(l r:List Nat)(n T:Nat)(σ:St)(H2:Hp):Prop:=
 ∃(f:Addr) (ys:List V) (F:List Pt) (u2 u3 u4 u5:Option V),σ=[some<|.ref a,some<|.ref f,u2,u3,u4,u5]/\K2 H a w2 e f xs ys F H2/\(∀p∈F,bC p)/\chainOk "" F=true/\Run l F r/\F.length<=3*n+2/\B.aA F<=T
section
variable {Γ:aQ} {D:Ends} {H H2:Hp} {a w2 e:Addr} {xs:List V} {l r:List Nat} {ps:List Pt} {i:Nat} {σ:St}
theorem Zj(hl:l.length<=100000)(hr:r.length<=100000)(hn:ps.length<=1000)(I:xO H a w2 e xs l r ps ps.length σ H2)(hD: ∀σ H',K3 H a w2 e xs l r ps.length (B.aA ps) σ H'->D.nx σ H'):
  ax Γ CL D ((σ.set 4<|some<|.str "end").set 5<|some<|.int 1) H2:=by
 obtain⟨f,ys,F,P,C,u4,u5,l0,r0,l2,r2,rfl,X,hF,hR,sP,sC,el,er,dA,lF,lT⟩:=I
 rw[zbF] at dA
 obtain⟨rfl,rfl⟩:=BG dA
 rw[zaf] at el er
 have lP:=len_list P
 have lC:=len_list C
 have ll:l.length=l0.length+C.length:=by rw[el,zqA,lC]
 have lr:r.length=r0.length+P.length:=by rw[er,zqA,lP]
 refine bA<|aX<|ae rfl<|aw<|dz ⟨_,rfl,iF ?_ Xa⟩
 refine bA<|aX<|ae rfl<|aw<|dz ⟨_,rfl,iF ?_ Xb⟩
 refine bA<|aX<|ae rfl<|aw<|iI ⟨_,rfl,iT ?_ rfl⟩
 refine Jw X.li X.pv (by lia) fun f' H3 de s3 n3 h3 p3=> ?_
 refine bA<|pK<|aX<|ae rfl<|aw<|dz ⟨_,rfl,iF (iF ?_ rfl) Jx⟩
 refine bA<|aX<|ae rfl<|aw<|dz ⟨_,rfl,iF ?_ Jx⟩
 refine hD _ _ ?_
 have Zk:=Jt P C
 refine⟨f',de,F++tl P C,_,_,_,_,rfl,⟨X.sm.trans s3,X.sm.free n3,s3 _ _ X.it,s3 _ _ X.en,(bZ X.it n3).symm,h3,p3⟩,fun p hp=> ?_, ?_, ?_, ?_⟩
 ·rcases zad.mp hp with q | q
  ·exact hF.ok p q
  ·exact Ju (xl sP (by lia)) (xl sC (by lia)) p q
 ·rw[q_,hF.ch,Js hF.la];rfl
 ·rw[el,er];exact Jv hR
 ·exact⟨by rw[zqA];lia,by rw[mr,K0];lia⟩
theorem Zl{q:Pt}{b:Addr}(hl:l.length<=100000)(hr:r.length<=100000)(hn:ps.length<=1000)(hq:ps[i]?=some q)(oq:hZ q)(I:xO H a w2 e xs l r ps i σ H2)(hD: ∀σ H',xO H a w2 e xs l r ps (i+1) σ H'->D.nx σ H'):
  ax Γ CL D ((σ.set 4<|some<|.str q.word).set 5<|some q.val) H2:=by
 obtain⟨f,ys,F,P,C,u4,u5,l0,r0,l2,r2,rfl,X,hF,hR,sP,sC,el,er,dA,lF,lT⟩:=I
 have aK:i<ps.length:=(zak.mp hq).1
 have ed:ps.drop i=q::ps.drop (i+1):=by rw[zaY aK,(zak.mp hq).2]
 rw[ed] at dA
 rw[ed,uv] at lT
 have al: ∀a b:Str,(a++b).length=a.length+b.length:=fun a b=>by rw[len_list,app_list,zqA,<-len_list,<-len_list]
 have e0:("":Str).length=0:=rfl
 have lP:=len_list P
 have lC:=len_list C
 have ll:l.length=l0.length+ (C.length+l2.length):=by rw[el,zqA,zqA,lC]
 have lr:r.length=r0.length+ (P.length+r2.length):=by rw[er,zqA,zqA,lP]
 refine bA<|aX<|ae rfl<|aw<|dz ⟨_,rfl, ?_⟩
 cases q with
 | put z=>
  obtain⟨r',e2,h'⟩:=BB dA
  have lz:=len_list z
  have K4:r2.length=z.length+r'.length:=by rw[e2,zqA,<-lz]
  refine iT ?_ WU
  refine ba<|aV<|ae rfl<|ae rfl ⟨bQ (by lia), ?_⟩
  refine hD _ _ ?_
  exact⟨f,ys,F,P++z,C,_,_,l0,r0,l2,r',rfl,X,hF,hR,qO sP oq,sC,el,by rw[er,e2,app_list];simp,h',by lia,by rw[al];have:B.dy (Pt.put z)=z.length:=rfl;lia⟩
 | cut z=>
  obtain⟨l',e1,h'⟩:=BC dA
  have lz:=len_list z
  have ll2:l2.length=z.length+l'.length:=by rw[e1,zqA,<-lz]
  refine iF ?_ WW
  refine bA<|aX<|ae rfl<|aw<|dz ⟨_,rfl,iT ?_ Jl⟩
  refine ba<|aV<|ae rfl<|ae rfl ⟨bQ (by lia), ?_⟩
  refine hD _ _ ?_
  exact⟨f,ys,F,P,C++z,_,_,l0,r0,l',r2,rfl,X,hF,hR,sP,qO sC oq,by rw[el,e1,app_list];simp,er,h',by lia,by rw[al];have:B.dy (Pt.cut z)=z.length:=rfl;lia⟩
 | keep n=>
  obtain⟨c,l',r',e1,e2,e3,h'⟩:=xh dA
  refine iF ?_ WV
  refine bA<|aX<|ae rfl<|aw<|dz ⟨_,rfl,iF ?_ Jk⟩
  refine bA<|aX<|ae rfl<|aw<|iI ⟨_,rfl, ?_⟩
  by_cases hz:0<n
  ·refine iT ?_ (zqT hz)
   refine Jw X.li X.pv (by lia) fun f' H3 de s3 n3 h3 p3=> ?_
   have Zk:=Jt P C
   have K5: ∀p∈F++tl P C,bC p:=fun p hp=>by
    rcases zad.mp hp with q | q
    ·exact hF.ok p q
    ·exact Ju (xl sP (by lia)) (xl sC (by lia)) p q
   have Zm:chainOk "" (F++tl P C)=true:=by rw[q_,hF.ch,Js hF.la];rfl
   have lF1:(F++tl P C).length<=3*i+2:=by rw[zqA];lia
   refine Zi h3 p3 (fun p hp=>W_<|K5 p hp) (by lia) fun H4 y4 b4 h4 p4=> ?_
   refine hD _ _ ?_
   have nw:w2≠f':=bZ X.it n3
   have fH:=X.sm.free n3
   have lk:=AI (F++tl P C) n
   refine⟨f',y4,cO (F++tl P C) n,"","",_,_,l0++C.cps.toList++c,r0++P.cps.toList++c,l',r',rfl,⟨ni (X.sm.trans s3) fH b4,fH,b4 _ _ (s3 _ _ X.it) nw,(b4.bz h3) _ _<|s3 _ _ X.en,nw.symm,h4,p4⟩,W9 K5 Zm (by lia),W8 (Jv hR) e3,ja,ja, ?_, ?_,h',by lia,by rw[Zh,mr,K0,e0];have:B.dy (Pt.keep n)=0:=rfl;lia⟩
   ·rw[el,e1];show _=_++ ([]++l');simp
   ·rw[er,e2];show _=_++ ([]++r');simp
  ·refine iF ?_ (zqF hz)
   have c0:c=[]:=zck (by lia)
   refine hD _ _ ?_
   rw[c0,zbg] at e1 e2
   exact⟨f,ys,F,P,C,_,_,l0,r0,l2,r2,rfl,X,hF,hR,sP,sC,el,er,by rw[e1,e2];exact h',by lia,by have:B.dy (Pt.keep n)=0:=rfl;lia⟩
end
def CM:Sp:=fun vs H Q E=> ∃a xs ps l r,vs=[.ref a]/\H a=some (.lst xs)/\aR H xs ps/\Run l ps r/\(∀p∈ps,hZ p)/\ps.length<=1000/\l.length<=100000/\r.length<=100000/\
 ∀b H' ys qs,aB H H'->H b=none->H' b=some (.lst ys)->aR H' ys qs->(∀p∈qs,bC p)->chainOk "" qs=true->Run l qs r->qs.length<=3*ps.length+2->B.aA qs<=B.aA ps->Q (.ref b) H'
theorem Zn{K:Frag}(vs:List V)(H:Hp)(Q:VK)(E:XK)(h:CM vs H Q E):ax (aS K [] [] (E:=E)) KL (Dn Q) (start KJ vs) H:=by
 obtain⟨a,xs,ps,l,r,rfl,ha,cN,dA,aE,hn,hl,hr,k⟩:=h
 have lx:=Paired.length cN
 refine ba<|cP<|aL ⟨zqZ _,fun f nf=> ?_⟩
 have s1:=sameNew (o:= .lst []) nf
 refine ba<|aw<|ba<|aw ?_
 refine Jp (body:=CL)<|aV<|ae rfl<|cP<|ay<|je<|ay<|aw<|ay<|aw<|aL ⟨(by show 2<=sizeLine;decide),fun e ne=>aL ⟨(by show 1<=sizeLine;decide),fun g ng=> ?_⟩⟩
 have s2:=sameNew (o:= .tup [.str "end", .int 1]) ne
 have s3:=sameNew (o:= .lst [V.ref e]) ng
 refine .inl ⟨a,g,xs,[.ref e],rfl,rfl,(s1.trans<|s2.trans s3) _ _ ha,au,bQ (by show xs.length+1<=_;lia),fun w2 nw=> ?_⟩
 have s4:=sameNew (o:= .lst (xs++ [V.ref e])) nw
 have xk:=s1.trans (s2.trans<|s3.trans s4)
 have fw:f≠w2:=fun z=>by
  rw[<-z] at nw
  rw[(s2.trans s3) _ _ au] at nw;cases nw
 refine⟨w2,rfl,⟨_,aq.of au⟩,mD (K:=K) (a:=w2) (xs:=xs++ [.ref e]) (fun i σ H2=> (i<=ps.length/\xO H a w2 e xs l r ps i σ H2)\/(i=ps.length+1/\K3 H a w2 e xs l r ps.length (B.aA ps) σ H2)) ?_ ?_ ?_ ?_⟩
 ·refine .inl ⟨zqZ _,f,[],[],"","",_,_,[],[],l,r,rfl,⟨xk,nf,au,(s3.trans s4) _ _ au,fw,(s2.trans<|s3.trans s4) _ _ au, .nil⟩,⟨fun p hp=> (by cases hp),rfl, .inl rfl⟩, .nil,ja,ja,rfl,rfl,dA,zqZ _,by rw[zbl];show 0+0+0+_<=_;lia⟩
 ·rintro i σ H2 _ (⟨_,f,ys,F,P,C,u4,u5,l0,r0,l2,r2,_,X,_⟩ | ⟨_,f,ys,F,u2,u3,u4,u5,_,X,_⟩)
  ·exact aq.of X.it
  ·exact aq.of X.it
 ·intro i x σ H2 hi I
  have e9:i< (xs++ [V.ref e]).length:=(zak.mp hi).1
  have RD:i<ps.length+1:=by rw[zqA,lx] at e9;exact e9
  rcases I with⟨_,I⟩ | ⟨z,_⟩
  ·by_cases aK:i<ps.length
   ·rw[zaz (by lia)] at hi
    obtain⟨q,hq,iy⟩:=cN.get hi
    have sm:aB H H2:=by obtain⟨f,ys,F,P,C,u4,u5,l0,r0,l2,r2,_,X,_⟩:=I;exact X.sm
    obtain⟨b,rfl,hb⟩:=iy.mono (dr sm)
    refine⟨b,_,rfl, .inl<|aG.of hb,rfl,_,_,rfl,_,_,rfl,rfl, ?_⟩
    exact Zl (b:=b) hl hr hn hq (aE q<|zae hq) I fun σ' H' I'=> .inl ⟨aK,I'⟩
   ·have ei:i=ps.length:=by lia
    subst ei
    have en:H2 e=some (.tup [.str "end", .int 1]):=by obtain⟨f,ys,F,P,C,u4,u5,l0,r0,l2,r2,_,X,_⟩:=I;exact X.en
    rw[zbc (by lia),lx,zbu] at hi
    cases hi
    refine⟨e,_,rfl, .inl<|aG.of en,rfl,_,_,rfl,_,_,rfl,rfl, ?_⟩
    exact Zj hl hr hn I fun σ' H' I'=> .inr ⟨rfl,I'⟩
  ·lia
 ·rintro σ H2 (⟨h,_⟩ | ⟨_,f,ys,F,u2,u3,u4,u5,rfl,X,ok,ch,hR,lF⟩)
  ·rw[zqA,lx] at h;exact absurd h (by show ¬ps.length+1<=ps.length;lia)
  ·exact ck (ae rfl<|k f H2 ys F X.sm X.fr X.li X.pv ok ch hR lF.1 lF.2)
abbrev K6:List (Str×Sp):=[("_law_signs",rC),("_law_neat",CM)]
def C2(H:Hp)(c:Int)(x:Str)(i:Nat)(σ:St)(H2:Hp):Prop:=
 ∃(b0:Addr) (ys:List V) (ps:List Pt) (l1 l2 r1:List Nat) (m:Int) (u5 u6 u7 u8:Option V),σ=[some<|.int c,some<|.str x,some<|.ref b0,some<|.int (l1.length:Nat),some<|.int m,u5,u6,u7,u8]/\aB H H2/\H b0=none/\H2 b0=some (.lst ys)/\aR H2 ys ps/\
  x.cps.toList=l1++l2/\Run l1 ps r1/\(∀p∈ps,hZ p)/\ps.length<=3*i/\r1.length<=l1.length+4*i/\B.aA ps<=7*i/\0<=m
def K7:List RS:=[.asg 6 (.blt .min [(.bin .Sub (.blt .len [(.v 1)]) (.v 3)),(.bin .Mod (.v 4) (.c (.int 9)))]),
  .asg 7 (.blt .min [(.bin .Sub (.bin .Sub (.blt .len [(.v 1)])<|.v 3)<|.v 6),(.bin .Mod (.bin .FloorDiv (.v 4)<|.c<|.int 9)<|.c<|.int 4)]),
  .drop (.bg .append (.v 2) [(.tup [(.c<|.str "keep"),(.v 6)])]),
  .asg 8 (.lst [(.tup [(.c<|.str "put"),(.call 0 [(.bin .FloorDiv (.v 4)<|.c<|.int 180),(.bin .Mod (.bin .FloorDiv (.v 4)<|.c<|.int 36)<|.c<|.int 5)])]),(.tup [(.c<|.str "cut"),(.sl (.v 1) (some<|.bin .Add (.v 3)<|.v 6)<|some<|.bin .Add (.bin .Add (.v 3)<|.v 6)<|.v 7)])]),
  .asg 2 (.bin .Add (.v 2)<|.v 8),
  .asg 3 (.bin .Add (.bin .Add (.v 3)<|.v 6)<|.v 7),
  .asg 4 (.bin .Mod (.bin .Mult (.v 4) (.c (.int 48271))) (.c (.int 2147483647)))]
section
variable {K:Frag} {E:XK} {D:Ends} {H H2:Hp} {c:Int} {x:Str} {i:Nat} {σ:St} {v:V}
theorem Zo(hx:good x)(hl:x.length<=10000)(hi:i<=4)(I:C2 H c x i σ H2)(hD: ∀σ' H',C2 H c x (i+1) σ' H'->D.nx σ' H'):ax (aS K K6 [] (E:=E)) K7 D (σ.set 5<|some v) H2:=by
 obtain⟨b0,ys,ps,l1,l2,r1,m,u5,u6,u7,u8,rfl,sm,fr,hb,pv,ex,hR,aE,lp,lr,lT,hm⟩:=I
 have lx:x.length=l1.length+l2.length:=by rw[len_list,ex,zqA]
 have c9:(0:Int) <9:=by decide
 have c4:(0:Int) <4:=by decide
 have c5:(0:Int) <5:=by decide
 have uu:(0:Int) <2147483647:=by decide
 have m9:0<=m % 9/\m % 9<9:=⟨zaJ _ (by decide),zaL _ (by decide)⟩
 have m4:0<=m / 9 % 4/\m / 9 % 4<4:=⟨zaJ _ (by decide),zaL _ (by decide)⟩
 have m5:0<=m / 36 % 5/\m / 36 % 5<5:=⟨zaJ _ (by decide),zaL _ (by decide)⟩
 refine ba<|tL<|ay<|aV<|dR<|ae rfl ⟨bQ hx.1,ae rfl ⟨trivial,ay<|aV<|ae rfl<|aw ⟨c9,aL ?_⟩⟩⟩
 obtain⟨z,ez⟩: ∃z:Int,z=(if m % 9< (x.length:Int) - (l1.length:Nat) then m % 9 else (x.length:Int) - (l1.length:Nat)):=⟨_,rfl⟩
 have z0:0<=z/\z<=l2.length:=by rw[ez];split<;>lia
 show ax _ _ D [some<|.int c,some<|.str x,some<|.ref b0,some<|.int (l1.length:Nat),some<|.int m,some v,some<|.int (if m % 9< (x.length:Int) - (l1.length:Nat) then m % 9 else (x.length:Int) - (l1.length:Nat)),u7,u8] H2
 rw[<-ez]
 obtain⟨la,lb,el,wY⟩: ∃la lb,l2=la++lb/\z=la.length:=⟨l2.take z.toNat,l2.drop z.toNat,(zbE _ _).symm,by rw[zaD];lia⟩
 have lab:l2.length=la.length+lb.length:=by rw[el,zqA]
 refine ba<|tL<|ay<|aV<|aV<|dR<|ae rfl ⟨bQ hx.1,ae rfl ⟨trivial,ae rfl ⟨trivial,ay<|aV<|aV<|ae rfl<|aw ⟨⟨by decide,by decide⟩,aw ⟨c4,aL ?_⟩⟩⟩⟩⟩
 obtain⟨y,ey⟩: ∃y:Int,y=(if m / 9 % 4< (x.length:Int) - (l1.length:Nat) - z then m / 9 % 4 else (x.length:Int) - (l1.length:Nat) - z):=⟨_,rfl⟩
 have y0:0<=y/\y<=lb.length/\y<=3:=by rw[ey];split<;>lia
 show ax _ _ D [some<|.int c,some<|.str x,some<|.ref b0,some<|.int (l1.length:Nat),some<|.int m,some v,some<|.int z,some<|.int (if m / 9 % 4< (x.length:Int) - (l1.length:Nat) - z then m / 9 % 4 else (x.length:Int) - (l1.length:Nat) - z),u8] H2
 rw[<-ey]
 obtain⟨lc,ld,Zp,K8⟩: ∃lc ld,lb=lc++ld/\y=lc.length:=⟨lb.take y.toNat,lb.drop y.toNat,(zbE _ _).symm,by rw[zaD];lia⟩
 refine Xd rfl hb<|ae rfl<|push (p:= .keep z) (aB.refl _) hb pv (by lia) rfl rfl fun H3 y3 b3 h3 p3=> ?_
 have s3:=ni sm fr b3
 refine ba<|cP<|ay<|je<|ay<|aw<|ay<|c7 rC rfl<|ay<|aV<|ae rfl<|aw ⟨⟨by decide,by decide⟩,ay<|aV<|aV<|ae rfl<|aw ⟨⟨by decide,by decide⟩,aw ⟨c5,aL ⟨_,_,rfl,by lia,by lia,fun w H4 gw lw s4=>aL ⟨(by show 2<=sizeLine;decide),fun t1 f1=> ?_⟩⟩⟩⟩⟩
 have s5:=sameNew (o:= .tup [V.str "put",V.str w]) f1
 refine ay<|je<|ay<|aw<|ay<|BI<|ae rfl<|aV<|ae rfl<|ae rfl<|iH ⟨_,rfl, ?_⟩
 refine aV<|aV<|ae rfl<|ae rfl<|iH<|ae rfl<|iH ⟨_,rfl,bQ hx.1, ?_⟩
 have CO:x.cps.toList=(l1++la)++ (lc++ld):=by rw[ex,el,Zp,zai]
 have e1:((l1.length:Nat):Int)+z=((l1++la).length:Nat):=by rw[zqA,wY];lia
 rw[e1]
 have ec:jx x (some (((l1++la).length:Nat):Int)) (some<|(((l1++la).length:Nat):Int)+y)=⟨lc.toArray⟩:=AX CO y K8
 rw[ec]
 refine aL ⟨(by show 2<=sizeLine;decide),fun t2 f2=>aL ⟨(by show 2<=sizeLine;decide),fun b8 f8=> ?_⟩⟩
 have s6:=sameNew (o:= .tup [V.str "cut",V.str ⟨lc.toArray⟩]) f2
 have s7:=sameNew (o:= .lst [V.ref t1,V.ref t2]) f8
 have Au:=(s4.trans<|s5.trans<|s6.trans s7) _ _ h3
 have g1:upd H4 t1 (.tup [V.str "put",V.str w]) t1=some (.tup [V.str "put",V.str w]):=au
 have g2:upd (upd H4 t1<|.tup [V.str "put",V.str w]) t2 (.tup [V.str "cut",V.str ⟨lc.toArray⟩]) t2=some (.tup [V.str "cut",V.str ⟨lc.toArray⟩]):=au
 have l3:=Paired.length p3
 have lps:(ps++ [Pt.keep z]).length=ps.length+1:=by rw[zqA];rfl
 refine ba<|aV<|ae rfl<|ae rfl<|.inl ⟨b0,b8,y3,_,rfl,rfl,Au,au,bQ (by show y3.length+2<=_;lia),fun b9 f9=> ?_⟩
 have s8:=sameNew (o:= .lst (y3++ [V.ref t1,V.ref t2])) f9
 have K9:=s4.trans (s5.trans<|s6.trans<|s7.trans s8)
 refine ba<|aV<|aV<|ae rfl<|ae rfl<|iH<|ae rfl<|iH ?_
 refine ba<|aV<|aV<|ae rfl<|aw ⟨.inr ⟨by decide,by decide⟩,aw ⟨uu, ?_⟩⟩
 refine hD _ _ ⟨b9,_,(ps++ [Pt.keep z])++ [.put w, .cut ⟨lc.toArray⟩],l1++la++lc,ld,r1++la++w.cps.toList,m*48271 % 2147483647,some v,some<|.int z,some<|.int y,some<|.ref b8, ?_,s3.trans K9, ?_,au, ?_, ?_, ?_, ?_, ?_, ?_, ?_,zaJ _ (by decide)⟩
 ·show[some<|V.int c,some<|V.str x,some<|V.ref b9,some<|V.int<|((l1.length:Nat):Int)+z+y,some<|V.int<|m*48271 % 2147483647,some v,some<|V.int z,some<|V.int y,some<|V.ref b8]=_
  rw[e1,@zqA _ (l1++la) lc,K8];rfl
 ·exact(s3.trans<|s4.trans<|s5.trans<|s6.trans s7).free f9
 ·refine B.Paired.app (p3.mono<|dr K9) (.cons ⟨t1,rfl,(s6.trans<|s7.trans s8) _ _ g1⟩<|.cons ⟨t2,rfl,(s7.trans s8) _ _ g2⟩ .nil)
 ·rw[CO,zai];simp
 ·have R1:Run (l1++la) (ps++ [Pt.keep z]) (r1++la):=hR.app (xj wY)
  have R2:Run lc [.put w, .cut ⟨lc.toArray⟩] w.cps.toList:=by
   have:=Run.put (s:=w) (Run.cut (s:=⟨lc.toArray⟩) Run.nil)
   rw[zaf,zaf] at this;exact this
  exact R1.app R2
 ·intro p hp
  rcases zad.mp hp with q | q
  ·rcases zad.mp q with q | q
   ·exact aE p q
   ·rw[zac.mp q];trivial
  ·rcases zaa.mp q with rfl | q
   ·exact gw.2
   ·rw[zac.mp q]
    intro d hd
    exact hx.2 d (by rw[CO];simp at hd;simp[hd])
 ·rw[zqA];show _+2<=_;lia
 ·rw[zqA,zqA,zqA,zqA,<-len_list];lia
 ·have e2:B.dy (Pt.put w)=w.length:=rfl
  have e3:B.dy (Pt.cut ⟨lc.toArray⟩)=lc.length:=by show(Str.length ⟨lc.toArray⟩)=_;rw[len_list]
  have e4:B.aA [Pt.keep z]=0:=rfl
  have e6:B.aA [Pt.put w,Pt.cut ⟨lc.toArray⟩]=w.length+ (lc.length+0):=by rw[uv,uv,e2,e3];rfl
  rw[mr,mr,e4,e6]
  lia
def CQ:Sp:=fun vs H Q E=> ∃c x,vs=[.int c, .str x]/\good x/\x.length<=10000/\ ∀(b:Addr) (H':Hp) (ps:List Pt) (r:List Nat),aB H H'->H b=none->cQ H' b ps x.cps.toList r->B.aA ps<=28->good ⟨r.toArray⟩->r.length<=x.length+16->Q (.ref b) H'
theorem Zq(vs:List V)(H:Hp)(Q:VK)(E:XK)(h:CQ vs H Q E):ax (aS K K6 [] (E:=E)) KO (Dn Q) (start KN vs) H:=by
 obtain⟨c,x,rfl,hx,hl,k⟩:=h
 have c4:(0:Int) <4:=by decide
 have m4:0<=c % 4/\c % 4<4:=⟨zaJ _ (by decide),zaL _ (by decide)⟩
 have uu:(0:Int) <2147483647:=by decide
 refine ba<|cP<|aL ⟨zqZ _,fun b0 n0=> ?_⟩
 have s1:=sameNew (o:= .lst []) n0
 refine ba<|aw<|ba<|aV<|aV<|ae rfl<|aw ⟨.inr ⟨by decide,by decide⟩,aw ⟨uu, ?_⟩⟩
 refine BJ (body:=K7)<|aV<|aw<|aV<|ae rfl<|aw ⟨c4,iH ⟨1+c % 4,rfl,by lia,by lia,yF (lo:=0) (n:=(1+c % 4).toNat) (C2 H c x) ?_ ?_ ?_⟩⟩
 ·exact⟨b0,[],[],[],_,[],_,none,none,none,none,rfl,s1,n0,au, .nil,rfl, .nil,fun p hp=> (by cases hp),zqZ _,zqZ _,zqZ _,zaJ _ (by decide)⟩
 ·intro i σ H2 hi I
  exact Zo hx hl (by lia) I fun σ' H' I'=>I'
 ·rintro σ H2 ⟨b0,ys,ps,l1,l2,r1,m,u5,u6,u7,u8,rfl,sm,fr,hb,pv,ex,hR,aE,lp,lr,lT,hm⟩
  have lx:x.length=l1.length+l2.length:=by rw[len_list,ex,zqA]
  have i4:(1+c % 4).toNat<=4:=by lia
  have ly:=Paired.length pv
  refine ck<|c7 CM rfl<|ay<|aV<|ae rfl<|cP<|ay<|je<|ay<|aw<|ay<|aV<|dR<|ae rfl ⟨bQ hx.1,ae rfl ⟨trivial,aL ⟨(by show 2<=sizeLine;decide),fun t ft=>aL ⟨(by show 1<=sizeLine;decide),fun b1 f1=> ?_⟩⟩⟩⟩
  have s2:=sameNew (o:= .tup [V.str "keep",V.int<|(x.length:Int) - (l1.length:Nat)]) ft
  have s3:=sameNew (o:= .lst [V.ref t]) f1
  refine .inl ⟨b0,b1,ys,_,rfl,rfl,(s2.trans s3) _ _ hb,au,bQ (by show ys.length+1<=_;lia),fun b2 f2=>aL ?_⟩
  have s4:=sameNew (o:= .lst (ys++ [V.ref t])) f2
  have pM:=s2.trans (s3.trans s4)
  have R2:Run x.cps.toList (ps++ [.keep<|(x.length:Int) - (l1.length:Nat)]) (r1++l2):=by rw[ex];exact hR.app (xj (by lia))
  refine⟨b2,_,_,_,_,rfl,au,B.Paired.app (pv.mono<|dr pM)<|.cons ⟨t,rfl,(s3.trans s4) _ _ au⟩ .nil,R2,fun p hp=> ?_,by rw[zqA];show ps.length+1<=_;lia,by rw[<-len_list];lia,by rw[zqA];lia,fun b H5 zs qs s5 nb Zr xE K_ Zs R5 lq tq=> ?_⟩
  ·rcases zad.mp hp with q | q
   ·exact aE p q
   ·rw[zac.mp q];trivial
  ·have e4:B.aA [Pt.keep<|(x.length:Int) - (l1.length:Nat)]=0:=rfl
   rw[mr] at tq
   have K4:(r1++l2).length<=x.length+16:=by rw[zqA];lia
   refine k b H5 qs (r1++l2) (sm.trans<|pM.trans s5) ((sm.trans pM).free nb) ⟨zs,Zr,xE,K_,Zs,R5⟩ (by lia) ⟨by rw[jf];lia,R5.good hx.2 fun p hp=>HR (K_ p hp)⟩ K4
end
section
variable {K:Frag} {Γ:aQ} {σ:St} {H:Hp} {Q:VK}
theorem xQ{T:Ty}{a:RE}(h:af Γ a σ H fun x H1=>bF T x H1 fun b=>Q (.bl b) H1):af Γ (.dW T a) σ H Q:=by
 have e:af Γ (.dW T a) σ H Q=af Γ a σ H fun x H1=>jZ T [x, .ty T.nm] H1 Q:=rfl
 rw[e]
 have e2:(fun(x:V) (H1:Hp)=>jZ T [x, .ty T.nm] H1 Q)=fun x H1=>bF T x H1 fun b=>Q (.bl b) H1:=by
  funext x H1
  show(T.nm=T.nm/\_)=_
  simp
 rw[e2];exact h
theorem Zt{a:RE}(h:af Γ a σ H fun x H1=>jY Γ.K x H1 fun b=>Q (.bl<|!b) H1):af Γ (.not a) σ H Q:=h
end
section
variable {K:Frag}
def oU:Sp:=fun vs H Q E=> ∃(v:V) (p:Pt),vs=[v]/\hV H v p/\bC p/\ ∀H',aB H H'->Q (.bl true) H'
def rD:List V:=[.str "keep", .str "put", .str "cut"]
theorem Zu:cG (.str "keep") rD=true:=by decide+kernel
theorem Zv:cG (.str "put") rD=true:=by decide+kernel
theorem Zw:cG (.str "cut") rD=true:=by decide+kernel
theorem Zx{p:Pt}:cG (.str p.word) rD=true:=by
 cases p with
 | keep=>exact Zu
 | put=>exact Zv
 | cut=>exact Zw
theorem Zy:(("put":Str)==("keep":Str))=false:=by decide+kernel
theorem Zz:(("put":Str) !=("put":Str))=false:=by decide+kernel
theorem ZA:(("keep":Str) !=("put":Str))=true:=by decide+kernel
theorem ZC:(("cut":Str) !=("put":Str))=true:=by decide+kernel
theorem CS{T:Ty}{z:Int}{H:Hp}{k:Bool->Prop}(q:k (T== .int)):bF T (.int z) H k:=q
theorem La{T:Ty}{z:Str}{H:Hp}{k:Bool->Prop}(q:k (T== .str)):bF T (.str z) H k:=q
theorem ZD(vs:List V)(H:Hp)(Q:VK)(E:XK)(h:oU vs H Q E):ax (aS K [] [] (E:=E)) KQ (Dn Q) (start KP vs) H:=by
 obtain⟨v,p,rfl,⟨t,rfl,ht⟩,ho,q⟩:=h
 refine bA<|tV<|iG<|BA<|ae rfl<|AF ht<|iF ?_ rfl
 refine tV<|aX<|dR<|ae rfl<|.inr ⟨_,aG.of ht,aw<|xf ⟨_,rfl,iF ?_ rfl⟩⟩
 refine xb<|aX<|bf<|ae rfl<|aw<|gu ht rfl<|je<|ay<|aw<|ay<|aw<|ay<|aw<|aL ⟨(by show 3<=sizeLine;decide),fun w fw=> ?_⟩
 have s1:=sameNew (o:= .tup rD) fw
 refine⟨w,rD,rfl, .inr<|aG.of au,rfl,rfl, ?_⟩
 rw[Zx]
 refine⟨_,rfl,iF (cU ?_) rfl⟩
 have gk:=s1 _ _ ht
 cases p with
 | keep n=>
  have hn:1<=n:=ho
  refine bA<|aX<|bf<|ae rfl<|aw<|gu gk rfl<|aw<|dz ⟨_,rfl,iT ?_ Jm⟩
  refine ck<|tX<|xQ<|bf<|ae rfl<|aw<|gu gk rfl<|CS ⟨_,rfl,iT ?_ rfl⟩
  refine tX<|Zt<|xQ<|bf<|ae rfl<|aw<|gu gk rfl<|CS<|iE ⟨_,rfl,iT ?_ rfl⟩
  refine xo<|nB<|bf<|ae rfl<|aw<|gu gk rfl<|aw<|iI ?_
  rw[zqT (by lia)];exact q _ s1
 | put s=>
  refine bA<|aX<|bf<|ae rfl<|aw<|gu gk rfl<|aw<|dz ⟨_,rfl,iF (cU ?_) Zy⟩
  refine ck<|tX<|xQ<|bf<|ae rfl<|aw<|gu gk rfl<|La ⟨_,rfl,iT ?_ rfl⟩
  refine xo<|nB<|bf<|ae rfl<|aw<|gu gk rfl<|aw<|lW ?_
  rw[show(s !=("":Str))=true by simpa using ho.2];exact q _ s1
 | cut s=>
  refine bA<|aX<|bf<|ae rfl<|aw<|gu gk rfl<|aw<|dz ⟨_,rfl,iF (cU ?_) BD⟩
  refine ck<|tX<|xQ<|bf<|ae rfl<|aw<|gu gk rfl<|La ⟨_,rfl,iT ?_ rfl⟩
  refine xo<|nB<|bf<|ae rfl<|aw<|gu gk rfl<|aw<|lW ?_
  rw[show(s !=("":Str))=true by simpa using ho.2];exact q _ s1
def ux:Sp:=fun vs H Q E=> ∃(c:Addr) (ps:List Pt) (x y:Str),vs=[.ref c, .str x, .str y]/\good x/\cQ H c ps x.cps.toList y.cps.toList/\ps.length<=100000/\y.length<=1000000/\ ∀H',aB H H'->Q (.bl true) H'
theorem ZE{σ:St}{H:Hp}{QQ:List V->Hp->Addr->Prop}{te:TE}{tc:TT}{fv:List (Str×Nat)}{a:Addr}{xs:List V}(ha:H a=some (.lst xs))
  (step: ∀(i:Nat) (x:V) (H2:Hp),xs[i]?=some x->aB H H2-> ∀k:Bool->Hp->Prop,(∀H3,aB H2 H3->k false H3)->tc (some x::cL σ fv) H2 k)
  (fin: ∀H2 p,aB H H2->H2 p=none->QQ [] H2 p): ∃W:Nat->Nat->List V->Hp->Prop,(∃m,W 0 m [] H)/\ ∀i m ys H2,W i m ys H2->
   ((eP K a).stop i H2/\ ∀p,H2 p=none->QQ ys H2 p)\/
   ((eP K a).go i H2/\ ∀x H3,(eP K a).gf i H2 x H3->jW K none x H3 fun zs=>oF (some tc) (zs.map some++cL σ fv) H3 fun b H5=>
    if b=true then te (zs.map some++cL σ fv) H5 fun y H6=>ys.length<sizeLine/\ ∃m',m'<m/\W (i+1) m' (ys++ [y]) H6 else ∃m',m'<m/\W (i+1) m' ys H5):=by
 refine⟨fun i m ys H2=>m=xs.length - i/\i<=xs.length/\ys=[]/\aB H H2,⟨_,rfl,zqZ _,rfl,aB.refl _⟩, ?_⟩
 rintro i m ys H2 ⟨rfl,hi,rfl,s⟩
 by_cases aK:i<xs.length
 ·refine .inr ⟨⟨xs,xs[i],aq.of<|s _ _ ha,by simp[aK]⟩, ?_⟩
  rintro x H3 ⟨rfl,hx⟩
  exact step i x _ (hx xs<|aq.of<|s _ _ ha) s _ fun H4 s4=>iF ⟨xs.length - (i+1),by lia,rfl,aK,rfl,s.trans s4⟩ rfl
 ·have iz:i=xs.length:=by lia
  subst iz
  exact .inl ⟨⟨xs,aq.of<|s _ _ ha,zqR _⟩,fun q hq=>fin _ q s hq⟩
def CT:List RS:=[.sE [5,6] (.ix (.v 0) (.v 4)),
  .asg 7 (.iW (.cmp .Gt (.v 4)<|.c<|.int 0) (.ix (.ix (.v 0)<|.bin .Sub (.v 4)<|.c<|.int 1)<|.c<|.int 0)<|.c<|.str ""),
  .ite (.or [(.cmp .Eq (.v 7)<|.v 5),(.and [(.cmp .Eq (.v 7)<|.c<|.str "cut"),(.cmp .Eq (.v 5)<|.c<|.str "put")])]) [.ret<|.c<|.bl false] [],
  .ite (.and [(.cmp .Eq (.v 5)<|.c<|.str "cut"),(.cmp .NotEq (.sl (.v 1) (some<|.v 3)<|some<|.bin .Add (.v 3)<|.blt .len [(.v 6)])<|.v 6)]) [.ret<|.c<|.bl false] [],
  .ite (.cmp .NotEq (.v 5) (.c (.str "put"))) [.asg 3 (.bin .Add (.v 3) (.iW (.cmp .Eq (.v 5) (.c (.str "keep"))) (.v 6) (.blt .len [(.v 6)])))] []]
def CU(H:Hp)(c:Addr)(x y:Str)(ps:List Pt)(i:Nat)(σ:St)(H2:Hp):Prop:= ∃(u4 u5 u6 u7:Option V) (l0 l2 r2:List Nat),σ=[some<|.ref c,some<|.str x,some<|.str y,some<|.int (l0.length:Nat),u4,u5,u6,u7]/\aB H H2/\x.cps.toList=l0++l2/\Run l2 (ps.drop i) r2
theorem ZF{E:XK}{tb:List (Str×Sp)}{D:Ends}{H H2:Hp}{c:Addr}{x y:Str}{xs:List V}{ps:List Pt}{i:Nat}{σ:St}{q:Pt}(hx:good x)(hc:H c=some (.lst xs))(pv:aR H xs ps)(cK:chainOk "" ps=true)(aE: ∀p∈ps,bC p)(hq:ps[i]?=some q)
  (I:CU H c x y ps i σ H2) (hD: ∀σ' H',CU H c x y ps (i+1) σ' H'->D.nx σ' H'):ax (aS K tb [] (E:=E)) CT D (σ.set 4<|some<|.int<|0+ (i:Int)) H2:=by
 obtain⟨u4,u5,u6,u7,l0,l2,r2,rfl,sm,ex,dA⟩:=I
 have aK:i<ps.length:=(zak.mp hq).1
 have lx:=Paired.length pv
 obtain⟨v,hv,t,rfl,ht⟩: ∃v,xs[i]?=some v/\hV H v q:=by
  have uz:xs[i]?=some xs[i]:=zau (by lia)
  obtain⟨q',ju,h⟩:=pv.get uz
  rw[hq] at ju;cases ju
  exact⟨_,uz,h⟩
 have cE:=sm _ _ hc
 have qY:=sm _ _ ht
 have ei:(0+ (i:Int))=((i:Nat):Int):=by lia
 rw[ei]
 refine Xe<|bf<|ae rfl<|ae rfl<|cx cE (cq hv) ⟨t,_,rfl, .inl<|aG.of qY,rfl,_,_,rfl,_,_,rfl,rfl, ?_⟩
 have ahead: ∀{Q:VK},Q (.str<|i7 "" ps i) H2->af (aS K tb [] (E:=E)) (.iW (.cmp .Gt (.v 4)<|.c<|.int 0) (.ix (.ix (.v 0)<|.bin .Sub (.v 4)<|.c<|.int 1)<|.c<|.int 0)<|.c<|.str "") [some<|.ref c,some<|.str x,some<|.str y,some<|.int (l0.length:Nat),some<|.int (i:Nat),some<|.str q.word,some q.val,u7] H2 Q:=by
  intro Q k
  refine xn<|aX<|ae rfl<|aw<|iI ⟨_,rfl, ?_⟩
  cases i with
  | zero=>exact iF (aw k) rfl
  | succ j=>
   refine iT ?_<|zqT (by lia)
   obtain⟨p',qp⟩: ∃p',ps[j]?=some p':=⟨_,zau (by lia)⟩
   have CV:xs[j]?=some xs[j]:=zau (by lia)
   obtain⟨q',ju,t',e',qP⟩:=pv.get CV
   rw[qp] at ju;cases ju
   rw[e'] at CV
   refine bf<|bf<|ae rfl<|aV<|ae rfl<|aw ⟨trivial, ?_⟩
   have e2:((j+1:Nat):Int) - 1=((j:Nat):Int):=by lia
   show mP _ _ (.ref c) (.int<|((j+1:Nat):Int) - 1) H2 _
   rw[e2]
   refine cx cE (cq CV)<|aw<|gu (sm _ _ qP) rfl ?_
   have e3:i7 "" ps (j+1)=p'.word:=by show(match ps[j]? with | some p=>p.word | none=> ("":Str))=_;rw[qp]
   rw[e3] at k;exact k
 refine ba<|ahead ?_
 have mf:=AG ps "" i q cK hq
 unfold fi at mf
 rw[zah,bne_iff_ne,zaZ] at mf
 have n1:(i7 "" ps i==q.word)=false:=by simpa using fun e=>mf.1 e.symm
 refine bA<|tV<|aX<|ae rfl<|ae rfl<|dz ⟨_,rfl,iF ?_ n1⟩
 have done:ax (aS K tb [] (E:=E)) (CT.drop 3) D [some<|.ref c,some<|.str x,some<|.str y,some<|.int (l0.length:Nat),some<|.int (i:Nat),some<|.str q.word,some q.val,some<|.str<|i7 "" ps i] H2:=by
  have ed:ps.drop i=q::ps.drop (i+1):=by rw[zaY aK,(zak.mp hq).2]
  rw[ed] at dA
  cases q with
  | put z=>
   obtain⟨r',e2,h'⟩:=BB dA
   refine bA<|nI<|aX<|ae rfl<|aw<|dz ⟨_,rfl,iF (iF (cU ?_) rfl) WT⟩
   refine bA<|aX<|ae rfl<|aw<|lW ⟨_,rfl,iF (cU ?_) Zz⟩
   exact hD _ _ ⟨_,_,_,_,l0,l2,r',rfl,sm,ex,h'⟩
  | keep n=>
   obtain⟨a,l',r',e1,e2,e3,h'⟩:=xh dA
   refine bA<|nI<|aX<|ae rfl<|aw<|dz ⟨_,rfl,iF (iF (cU ?_) rfl) Jk⟩
   refine bA<|aX<|ae rfl<|aw<|lW ⟨_,rfl,iT ?_ ZA⟩
   refine ba<|aV<|ae rfl<|xn<|aX<|ae rfl<|aw<|dz ⟨_,rfl,iT (ae rfl<|iH ?_) Jm⟩
   have en:((l0.length:Nat):Int)+n=((l0++a).length:Nat):=by rw[zqA,e3];rfl
   rw[en]
   exact hD _ _ ⟨_,_,_,_,l0++a,l',r',rfl,sm,by rw[ex,e1,zai],h'⟩
  | cut z=>
   obtain⟨l',e1,h'⟩:=BC dA
   have lz:=len_list z
   have oz:=(aE (.cut z)<|zae hq).1
   refine bA<|nI<|aX<|ae rfl<|aw<|dz ⟨_,rfl,iT ?_ Jl⟩
   refine aX<|BI<|ae rfl<|ae rfl ⟨_,rfl,aV<|ae rfl<|dR<|ae rfl ⟨bQ oz.1,iH ⟨_,rfl,bQ hx.1, ?_⟩⟩⟩
   have ec:jx x (some ((l0.length:Nat):Int)) (some<|((l0.length:Nat):Int)+ ((z.length:Nat):Int))=⟨z.cps.toList.toArray⟩:=AX (by rw[ex,e1]) _ (by rw[lz])
   rw[ec,show(⟨z.cps.toList.toArray⟩:Str)=z by simp]
   refine ae rfl<|lW ⟨_,rfl,iF (cU ?_) (by simp)⟩
   refine bA<|aX<|ae rfl<|aw<|lW ⟨_,rfl,iT ?_ ZC⟩
   refine ba<|aV<|ae rfl<|xn<|aX<|ae rfl<|aw<|dz ⟨_,rfl,iF (dR<|ae rfl ⟨bQ oz.1,iH ?_⟩) BD⟩
   have en:((l0.length:Nat):Int)+ ((z.length:Nat):Int)=((l0++z.cps.toList).length:Nat):=by rw[zqA,<-lz];rfl
   rw[en]
   exact hD _ _ ⟨_,_,_,_,l0++z.cps.toList,l',r2,rfl,sm,by rw[ex,e1,zai],h'⟩
 refine xb<|nI<|aX<|ae rfl<|aw<|dz ⟨_,rfl, ?_⟩
 by_cases z:(i7 "" ps i==("cut":Str))=true
 ·refine iT ?_ z
  have n2:(q.word==("put":Str))=false:=by
   have:=mf.2
   rw[z,Bool.true_and] at this;exact this
  exact aX<|ae rfl<|aw<|dz ⟨_,rfl,iF (cU done) n2⟩
 ·exact iF (iF (cU done) rfl) (by simpa using z)
theorem ZH(vs:List V)(H:Hp)(Q:VK)(E:XK)(h:ux vs H Q E):ax (aS K [("_law_part",oU),("_law_done",qR)] [] (E:=E)) KS (Dn Q) (start KR vs) H:=by
 obtain⟨c,ps,x,y,rfl,hx,cK,hl,hy,q⟩:=h
 obtain⟨xs,hc,pv,hg⟩:=id cK
 have lx:=Paired.length pv
 refine bA<|qZ<|iG<|BA<|ae rfl<|Ho hc<|iF ?_ rfl
 refine aX<|dR ?_
 refine⟨_,rfl,c,rfl,⟨_,aq.of hc⟩,ZE hc ?_ ?_⟩
 ·intro i v H2 hv s2 k kk
  obtain⟨p,hp,iy⟩:=pv.get hv
  exact iG<|jG oU rfl<|ay<|ae rfl<|aL ⟨v,p,rfl,iy.mono<|dr s2,hg.ok p<|zae hp,fun H3 s3=>iE<|kk H3 s3⟩
 ·intro H2 p s2 f2
  have s3:=sameNew (o:= .lst []) f2
  refine .inl ⟨_,aq.of au,aw<|iI ⟨_,rfl,iF (cU ?_) rfl⟩⟩
  have CW:=s2.trans s3
  generalize upd H2 p (.lst [])=H3 at s3 CW⊢
  refine ba<|aw ?_
  refine BJ (body:=CT)<|dR<|ae rfl<|.inl ⟨_,aq.of<|CW _ _ hc,xs.length,rfl,by lia,by lia,yF (lo:=0) (n:=((xs.length:Nat):Int).toNat) (CU H c x y ps) ?_ ?_ ?_⟩
  ·exact⟨none,none,none,none,[],_,_,rfl,CW,rfl,hg.run⟩
  ·intro i σ H4 hi I
   have e9:i<ps.length:=by rw[zaW] at hi;lia
   exact ZF hx hc pv hg.ch hg.ok (zau e9) I fun σ' H' I'=>I'
  ·rintro σ H4 ⟨u4,u5,u6,u7,l0,l2,r2,rfl,sm,ex,dA⟩
   rw[zaW,lx,zbF] at dA
   obtain⟨rfl,rfl⟩:=BG dA
   rw[zaf] at ex
   have el:x.length=l0.length:=by rw[len_list,ex]
   refine ck<|tX<|nB<|ae rfl<|dR<|ae rfl ⟨bQ hx.1,l_ ⟨_,rfl,iT ?_ (by rw[el];simp)⟩⟩
   refine xo<|nB<|c7 qR rfl<|ay<|ae rfl<|ay<|ae rfl<|aL<|Je hx (cK.same sm) (by rw[<-len_list];exact hy)<|ae rfl<|dz ?_
   rw[show((⟨y.cps.toList.toArray⟩:Str)==y)=true by simp]
   exact q _ sm
end
section
variable {pars:List (Option Nat)}
theorem uA(T:dh pars): ∀n,n<pars.length-> ∀k∈ups pars n n,k<=n:=by
 intro n
 induction n using Nat.strongRecOn with
 | ind n ih=>
  intro hn k hk
  by_cases z:n=0
  ·subst z
   cases zac.mp hk
   exact zqR _
  ·obtain⟨j,hj,aK,e⟩:=jJ T (by lia) hn
   rw[e] at hk
   rcases zaa.mp hk with rfl | hk
   ·exact zqR _
   ·have:=ih j aK (by lia) k hk
    lia
theorem Lb(T:dh pars): ∀n,n<pars.length-> ∀k∈ups pars n n,∃q,ups pars n n=q++ups pars k k/\ ∀j∈q,k<j:=by
 intro n
 induction n using Nat.strongRecOn with
 | ind n ih=>
  intro hn k hk
  by_cases z:n=0
  ·subst z
   cases zac.mp hk
   exact⟨[],rfl,fun j hj=>by cases hj⟩
  ·obtain⟨j,hj,aK,e⟩:=jJ T (by lia) hn
   rw[e] at hk
   rcases zaa.mp hk with rfl | Lc
   ·exact⟨[],rfl,fun j hj=>by cases hj⟩
   ·obtain⟨q,eq,hq⟩:=ih j aK (by lia) k Lc
    refine⟨n::q,by rw[e,eq];rfl,fun i hi=> ?_⟩
    rcases zaa.mp hi with rfl | hi
    ·have:=uA T j (by lia) k Lc
     lia
    ·exact hq i hi
theorem Ld(r:Nat)(x0 y0:List Nat): ∀c:List Nat,strip (c++r::x0) (c++r::y0)=strip (r::x0) (r::y0)
 | []=>rfl
 | [a]=>strip_eq
 | a::b::c=>by
  have:=Ld r x0 y0 (b::c)
  show strip (a::b::(c++r::x0)) (a::b::(c++r::y0))=_
  rw[strip_eq];exact this
theorem ZI(T:dh pars){n d:Nat}(hn:n<pars.length)(hd:d<pars.length): ∃(u v:List Nat) (m:Nat) (p q:List Nat),d_ pars n d=u++m::v/\ups pars n n=u++m::p/\ups pars d d=v.reverse++m::q/\(∀k∈u,k∉ups pars d d)/\m∉u/\m∉v:=by
 obtain⟨h1,h2,⟨r1,e1⟩,⟨q1,f1⟩⟩:=nR T n hn
 obtain⟨g1,g2,⟨r2,e2⟩,⟨q2,f2⟩⟩:=nR T d hd
 obtain⟨m,xs,ys,p,q,es,ex,ey⟩:=xI (ups pars n n).reverse (ups pars d d).reverse 0 q1.reverse q2.reverse (by rw[f1,zaK];rfl) (by rw[f2,zaK];rfl)
 have ew:d_ pars n d=xs.reverse++m::ys:=by
  unfold d_
  rw[es]
  show(m::xs).reverse++ys=_
  rw[zaC,zai];rfl
 have eu:ups pars n n=xs.reverse++m::p.reverse:=by
  have:=congrArg List.reverse ex
  rw[zaV,zaK,zaC,zai] at this
  exact this
 have ed:ups pars d d=ys.reverse++m::q.reverse:=by
  have:=congrArg List.reverse ey
  rw[zaV,zaK,zaC,zai] at this
  exact this
 have key: ∀k,k∈ups pars n n->k∈ups pars d d->k∉xs/\k∉ys:=by
  intro k lV qT
  obtain⟨a,ea,ha⟩:=Lb T n hn k lV
  obtain⟨b,eb,hb⟩:=Lb T d hd k qT
  have wV:=h2 k lV
  obtain⟨_,_,⟨rk,ek⟩,_⟩:=nR T k wV
  have ra:(ups pars n n).reverse=rk.reverse++k::a.reverse:=by rw[ea,ek,zaK,zaC,zai];rfl
  have rb:(ups pars d d).reverse=rk.reverse++k::b.reverse:=by rw[eb,ek,zaK,zaC,zai];rfl
  rw[ra,rb,Ld] at es
  obtain⟨m',br,de,p',q',qf,yl,Le⟩:=xI (k::a.reverse) (k::b.reverse) k _ _ rfl rfl
  rw[es] at qf
  cases qf
  constructor
  ·intro hx
   have:k∈a.reverse:=by
    cases p' with
    | nil=>cases yl;exact hx
    | cons c cs=>
     have e:=(zaU yl).2
     rw[e];exact zaq _ (zaj _ hx)
   exact zaA _<|ha k<|zbv.mp this
  ·intro hx
   have:k∈b.reverse:=by
    cases q' with
    | nil=>cases Le;exact hx
    | cons c cs=>
     have e:=(zaU Le).2
     rw[e];exact zaq _ (zaj _ hx)
   exact zaA _<|hb k<|zbv.mp this
 have mm:=key m (by rw[eu];exact zaq _ zas) (by rw[ed];exact zaq _ zas)
 refine⟨xs.reverse,ys,m,p.reverse,q.reverse,ew,eu,ed,fun k hk h=> ?_,fun h=>mm.1<|zbv.mp h,mm.2⟩
 have tE:=zbv.mp hk
 exact(key k (by rw[eu];exact zav _ hk) h).1 tE
end
section
variable {K:Frag}
theorem ZJ{Γ:aQ}{σ:St}{Q:VK}{H:Hp}{lo:Option Int}{k:Int}{e:RE}(h:af Γ e σ H fun x H1=>m6 Γ.K x lo none (some k) H1 Q):af Γ (.xt (kf lo k) [e]) σ H Q:=h
def xR:Sp:=fun vs H Q E=> ∃(a:Addr) (pars:List (Option Nat)) (n:Nat),vs=[.ref a, .int n]/\H a=some (.lst<|pars.map gV)/\dh pars/\n<pars.length/\pars.length<=100000/\ ∀b H',aB H H'->H b=none->H' b=some (.lst<|iV<|ups pars n n)->Q (.ref b) H'
theorem ZK(vs:List V)(H:Hp)(Q:VK)(E:XK)(h:xR vs H Q E):ax (aS K [] [] (E:=E)) KW (Dn Q) (start KU vs) H:=by
 obtain⟨a,pars,n,rfl,ha,T,hn,sz,q⟩:=h
 refine ba<|cP<|ay<|ae rfl<|aL ⟨(by show 1<=sizeLine;decide),fun L fL=> ?_⟩
 have s0:=sameNew (o:= .lst [V.int (n:Nat)]) fL
 refine qW (fun m σ H2=> ∃(pre:List Nat) (k:Nat),m=k/\σ=[some<|.ref a,some<|.int (n:Nat),some<|.ref L]/\aB H H2/\H2 L=some (.lst<|iV pre++ [V.int (k:Nat)])/\k<pars.length/\pre.length+k<=n/\ups pars n n=pre++ups pars k k)
  ⟨n,[],n,rfl,rfl,s0,au,hn,by show 0+n<=n;lia,rfl⟩ ?_
 rintro m σ H2 ⟨pre,k,rfl,rfl,s2,hL,hk,hp,eu⟩
 refine aX<|bf<|ae rfl<|jH<|.inl ⟨L,_, -1,_,rfl,rfl,aq.of hL,oy _ _,aw<|iI ⟨_,rfl, ?_⟩⟩
 by_cases z:m=0
 ·subst z
  refine iF ?_ (by simp)
  refine ck<|ae rfl<|q L H2 s2 fL ?_
  rw[eu,JJ]
  unfold iV
  rw[zap];exact hL
 ·refine iT ?_ (zqT (by lia))
  obtain⟨j,hj,aK,es⟩:=jJ T (by lia) hk
  refine⟨fun σ' H'=> ∃(pre:List Nat) (k:Nat),k<m/\σ'=[some<|.ref a,some<|.int (n:Nat),some<|.ref L]/\aB H H'/\H' L=some (.lst<|iV pre++ [V.int (k:Nat)])/\k<pars.length/\pre.length+k<=n/\ups pars n n=pre++ups pars k k, ?_, ?_⟩
  ·rintro σ' H' ⟨B0,k',B1,e,rest⟩
   exact⟨k',B1,B0,k',rfl,e,rest⟩
  ·refine dH (fP<|ae rfl ⟨.inl ⟨rfl,_,aq.of hL⟩,bf<|ae rfl<|bf<|ae rfl<|jH<|.inl ⟨L,_, -1,_,rfl,rfl,aq.of hL,oy _ _, ?_⟩⟩)
   refine cx (s2 _ _ ha) (cq (by rw[zam,hj];rfl)) ?_
   refine⟨_,hL,dY (by rw[zqA,zab];show pre.length+1<=1000000;lia), ?_⟩
   have b1:aF L H2 (upd H2 L<|.lst<|(iV pre++ [V.int (m:Nat)])++ [gV<|some j]):=aF.upd
   refine⟨pre++ [m],j,aK,rfl,fun c o e=>b1 c o (s2 _ _ e)<|bZ e fL, ?_,by lia,by rw[zqA];show pre.length+1+j<=n;lia,by rw[eu,es,zai];rfl⟩
   rw[au]
   unfold iV
   rw[zap];rfl
theorem Lf{σ:St}{H:Hp}{QQ:List V->Hp->Addr->Prop}{te:TE}{tc:TT}{fv:List (Str×Nat)}{a:Addr}{xs:List V}(f:V->Bool)(ha:H a=some (.lst xs))(hl:xs.length<=1000000)
  (ZM: ∀(x:V) (k:Bool->Hp->Prop),x∈xs->k (f x) H->tc (some x::cL σ fv) H k) (elt: ∀(x:V) (k:VK),x∈xs->k x H->te (some x::cL σ fv) H k)
  (fin: ∀p,H p=none->QQ (xs.filter f) H p): ∃W:Nat->Nat->List V->Hp->Prop,(∃m,W 0 m [] H)/\ ∀i m ys H2,W i m ys H2->
   ((eP K a).stop i H2/\ ∀p,H2 p=none->QQ ys H2 p)\/
   ((eP K a).go i H2/\ ∀x H3,(eP K a).gf i H2 x H3->jW K none x H3 fun zs=>oF (some tc) (zs.map some++cL σ fv) H3 fun b H5=>
    if b=true then te (zs.map some++cL σ fv) H5 fun y H6=>ys.length<sizeLine/\ ∃m',m'<m/\W (i+1) m' (ys++ [y]) H6 else ∃m',m'<m/\W (i+1) m' ys H5):=by
 refine⟨fun i m ys H2=>m=xs.length - i/\i<=xs.length/\ys=(xs.take i).filter f/\H2=H,⟨_,rfl,zqZ _,rfl,rfl⟩, ?_⟩
 rintro i m ys H2 ⟨rfl,hi,rfl,rfl⟩
 by_cases aK:i<xs.length
 ·refine .inr ⟨⟨xs,xs[i],aq.of ha,by simp[aK]⟩, ?_⟩
  rintro x H3 ⟨rfl,hx⟩
  have uz:=hx xs (aq.of ha)
  have hm:=zae uz
  have et:(xs.take<|i+1).filter f=(xs.take i).filter f++ [x].filter f:=by rw[BM uz,zbX]
  refine ZM x _ hm ?_
  cases hf:f x with
  | true=>
   refine iT ?_ rfl
   refine elt x _ hm ⟨dY ?_,xs.length - (i+1),by lia,rfl,aK, ?_,rfl⟩
   ·have:=zcg f (xs.take i)
    rw[zaD] at this;lia
   ·rw[et];simp[hf]
  | false=>
   refine iF ⟨xs.length - (i+1),by lia,rfl,aK, ?_,rfl⟩ rfl
   rw[et];simp[hf]
 ·have iz:i=xs.length:=by lia
  subst iz
  refine .inl ⟨⟨xs,aq.of ha,zqR _⟩,fun q hq=> ?_⟩
  rw[zaG<|zqR _]
  exact fin q hq
theorem xS{l:List Nat}{n:Nat}:cG (V.int (n:Nat)) (iV l)=l.contains n:=by
 unfold cG iV
 rw[List.any_map,List.contains_eq_any_beq]
 congr 1
 funext k
 show(((k:Nat):Int)==((n:Nat):Int))=(n==k)
 by_cases z:k=n
 ·subst z;simp
 ·have e1:(((k:Nat):Int)==((n:Nat):Int))=false:=by simp;lia
  have e2:(n==k)=false:=by simp;lia
  rw[e1,e2]
theorem CY(l:List Nat):(iV l).all eR=true:=by unfold iV;rw[List.all_map];exact zbA.mpr fun _ _=>rfl
theorem Lg{u p:List Nat}{m:Nat}(h:m∉u):(iV (u++m::p)).findIdx (fun z=>dN z<|V.int (m:Nat))=u.length:=by
 induction u with
 | nil=>
  show List.findIdx _ (V.int (m:Nat)::_)=0
  rw[List.findIdx_cons]
  have:dN (V.int (m:Nat)) (V.int (m:Nat))=true:=by show(_==_)=true;simp
  rw[this];rfl
 | cons a u ih=>
  show List.findIdx _ (V.int (a:Nat)::iV (u++m::p))=_
  rw[List.findIdx_cons]
  have:dN (V.int (a:Nat)) (V.int (m:Nat))=false:=by
   show(((a:Nat):Int)==((m:Nat):Int))=false
   have:a≠m:=fun z=>h (by rw[z];exact zas)
   simp;lia
  rw[this,ih fun q=>h (zaj _ q)];rfl
def xT:Sp:=fun vs H Q E=> ∃(a:Addr) (pars:List (Option Nat)) (n d:Nat),vs=[.ref a, .int n, .int d]/\H a=some (.lst<|pars.map gV)/\dh pars/\n<pars.length/\d<pars.length/\pars.length<=100000/\ ∀b H',aB H H'->H b=none->H' b=some (.lst<|iV<|d_ pars n d)->Q (.ref b) H'
theorem ZN(vs:List V)(H:Hp)(Q:VK)(E:XK)(h:xT vs H Q E):ax (aS K [("_law_up",xR)] [] (E:=E)) KZ (Dn Q) (start KY vs) H:=by
 obtain⟨a,pars,n,d,rfl,ha,T,hn,hd,sz,q⟩:=h
 obtain⟨u,v,m,p,p',ew,eu,ed,ZO,mu,mv⟩:=ZI T hn hd
 refine ba<|c7 xR rfl<|ay<|ae rfl<|ay<|ae rfl<|aL ⟨a,pars,n,rfl,ha,T,hn,sz,fun b1 H1 s1 f1 h1=> ?_⟩
 refine ba<|c7 xR rfl<|ay<|ae rfl<|ay<|ae rfl<|aL ⟨a,pars,d,rfl,s1 _ _ ha,T,hd,sz,fun b2 H2 s2 f2 h2=> ?_⟩
 have CZ:=s2 _ _ h1
 have lu:=rj T n hn
 have ld:=rj T d hd
 have ZP:(iV<|ups pars n n).length<=1000000:=by rw[zab];lia
 have CG:(iV<|ups pars d d).length<=1000000:=by rw[zab];lia
 refine ba<|bf ?_
 refine⟨_,rfl,b1,rfl,⟨_,aq.of CZ⟩,Lf (fun x=>cG x<|iV<|ups pars d d) CZ ZP ?_ (fun x k _ q=>ae rfl q) ?_⟩
 ·intro x k hx q
  obtain⟨i,_,rfl⟩:=zaX.mp hx
  exact aX<|ae rfl<|ae rfl ⟨b2,_,rfl, .inl<|aq.of h2,rfl,CY _,_,rfl,q⟩
 ·intro b3 f3
  have ef:(iV<|ups pars n n).filter (fun x=>cG x<|iV<|ups pars d d)=V.int (m:Nat)::(iV p).filter (fun x=>cG x<|iV<|ups pars d d):=by
   rw[eu]
   unfold iV
   rw[zap,zbX]
   have e1:(u.map fun k=>V.int (k:Nat)).filter (fun x=>cG x<|iV<|ups pars d d)=[]:=by
    refine List.filter_eq_nil_iff.mpr fun x hx=> ?_
    obtain⟨k,hk,rfl⟩:=zaX.mp hx
    rw[xS]
    simpa using ZO k hk
   have e2:cG (V.int (m:Nat)) (iV<|ups pars d d)=true:=by
    rw[xS,ed];simp
   unfold iV at e1 e2
   rw[e1,zbg,zay,List.filter_cons,if_pos e2]
  rw[ef]
  have s3:=sameNew (o:= .lst (V.int (m:Nat)::(iV p).filter (fun x=>cG x<|iV<|ups pars d d))) f3
  have a0:fG (V.int (m:Nat)::(iV p).filter (fun x=>cG x<|iV<|ups pars d d)) 0=some (V.int (m:Nat)):=cq (j:=0) rfl
  refine aw<|cx au a0 ?_
  have xU:=s3 _ _ CZ
  have Lh:=s3 _ _ h2
  have sH:=(s1.trans s2).trans s3
  generalize upd H2 b3 (.lst (V.int (m:Nat)::(iV p).filter (fun x=>cG x<|iV<|ups pars d d)))=H3 at s3 xU Lh sH⊢
  have i1:(iV<|ups pars n n).findIdx (fun z=>dN z<|V.int (m:Nat))=u.length:=by rw[eu];exact Lg mu
  have i2:(iV<|ups pars d d).findIdx (fun z=>dN z<|V.int (m:Nat))=v.length:=by rw[ed,Lg<|fun h=>mv<|zbv.mp h,zaF]
  have n1:cG (V.int (m:Nat)) (iV<|ups pars n n)=true:=by rw[xS,eu];simp
  have n2:cG (V.int (m:Nat)) (iV<|ups pars d d)=true:=by rw[xS,ed];simp
  refine ck<|aV<|aV<|BK<|ae rfl<|fP<|ae rfl ⟨.inl ⟨rfl,_,aq.of xU⟩,ae rfl ⟨_,aq.of xU,rfl,CY _,n1, ?_⟩⟩
  rw[i1]
  refine⟨_,rfl, .inl ⟨_,aq.of xU,fun b4 f4=> ?_⟩⟩
  rw[Jz]
  have t1:(iV<|ups pars n n).take u.length=iV u:=by rw[eu];unfold iV;rw[<-List.map_take,zbZ]
  rw[t1]
  have s4:=sameNew (o:= .lst (iV u)) f4
  refine cP<|ay<|ae rfl<|aL ⟨(by show 1<=sizeLine;decide),fun b5 f5=> ?_⟩
  have s5:=sameNew (o:= .lst [V.int (m:Nat)]) f5
  have lu2:u.length<=100000:=by have:=congrArg List.length eu;simp at this;lia
  have ug:v.length<=100000:=by have:=congrArg List.length ed;simp at this;lia
  refine .inl ⟨b4,b5,_,_,rfl,rfl,s5 _ _ au,au,bQ (by rw[zab];show u.length+1<=_;lia),fun b6 f6=> ?_⟩
  have s6:=sameNew (o:= .lst (iV u++ [V.int (m:Nat)])) f6
  have xV:=s4.trans (s5.trans s6)
  have h6:upd (upd (upd H3 b4<|.lst<|iV u) b5<|.lst [V.int (m:Nat)]) b6 (.lst<|iV u++ [V.int (m:Nat)]) b6=some (.lst<|iV u++ [V.int (m:Nat)]):=au
  have xW:=xV _ _ Lh
  generalize upd (upd (upd H3 b4<|.lst<|iV u) b5<|.lst [V.int (m:Nat)]) b6 (.lst<|iV u++ [V.int (m:Nat)])=H6 at xV h6 xW⊢
  refine ZJ<|BK<|ae rfl<|fP<|ae rfl ⟨.inl ⟨rfl,_,aq.of xW⟩,ae rfl ⟨_,aq.of xW,rfl,CY _,n2, ?_⟩⟩
  rw[i2]
  refine⟨_,rfl, .inl ⟨_,aq.of xW,fun b7 f7=> ?_⟩⟩
  rw[Jz]
  have t2:(iV<|ups pars d d).take v.length=iV v.reverse:=by rw[ed];unfold iV;rw[<-List.map_take,<-zaF,zbZ]
  rw[t2]
  have s7:=sameNew (o:= .lst (iV v.reverse)) f7
  refine⟨b7,_,rfl,aq.of au,(by decide),fun b8 f8=> ?_⟩
  rw[Uu]
  have e8:(iV v.reverse).reverse=iV v:=by rw[JL,zaV]
  rw[e8]
  have s8:=sameNew (o:= .lst (iV v)) f8
  refine .inl ⟨b6,b8,_,_,rfl,rfl,(s7.trans s8) _ _ h6,au,bQ (by rw[zqA,zab,zab];show u.length+1+v.length<=_;lia),fun b9 f9=> ?_⟩
  have s9:=sameNew (o:= .lst (iV u++ [V.int (m:Nat)]++iV v)) f9
  refine q b9 _ (sH.trans<|xV.trans<|s7.trans<|s8.trans s9) ((sH.trans<|xV.trans<|s7.trans s8).free f9) ?_
  rw[au,ew]
  unfold iV
  rw[zap,zay,zai];rfl
end
def di(pars:List (Option Nat))(p:Nat×Nat):Nat×Nat:=if pars[p.2]?=some (some p.1) then (p.1,p.2) else (p.2,p.1)
def fo(la:List (Option Nat))(p:Nat×Nat):List (Option Nat):=la.set p.1 (some p.2)
def pV(pars:List (Option Nat))(ns:List Nat)(la:List (Option Nat)):List (Option Nat):=(ns.zip ns.tail).foldl (fun la p=>fo la<|di pars p) la
structure dB (pars:List (Option Nat)) (here:Nat) (lat las:List (Option Nat)):Prop where
 ll:lat.length=pars.length
 ls:las.length=pars.length
 up: ∀(a b:Nat),a∈ups pars here here->pars[a]?=some (some b)->lat[b]?=some (some a)
 no: ∀(i:Nat),i∉ (ups pars here here).tail->lat[i]?=las[i]?
 ok: ∀(i k:Nat),las[i]?=some (some k)->pars[k]?=some (some i)
section
variable {pars:List (Option Nat)}
theorem xX(T:dh pars){n j:Nat}(h:pars[n]?=some (some j)):ups pars n n=n::ups pars j j/\j<n:=by
 have hn:=(zak.mp h).1
 have h0:n≠0:=fun z=>by rw[z,T.rt] at h;cases h
 obtain⟨j',bG,aK,e⟩:=jJ T (by lia) hn
 rw[h] at bG;cases bG
 exact⟨e,aK⟩
theorem jj(T:dh pars){n j:Nat}(h:pars[n]?=some (some j)):j<n/\n<pars.length:=⟨(xX T h).2,(zak.mp h).1⟩
theorem xY(T:dh pars){n:Nat}(hn:n<pars.length): ∃r,ups pars n n=n::r/\ ∀k∈r,k<n:=by
 by_cases z:n=0
 ·subst z;exact⟨[],rfl,fun k hk=>by cases hk⟩
 ·obtain⟨j,hj,aK,e⟩:=jJ T (by lia) hn
  exact⟨_,e,fun k hk=>by have:=uA T j (by lia) k hk;lia⟩
theorem dB.move(T:dh pars){here n:Nat}{lat las:List (Option Nat)}(R:dB pars here lat las)(hh:here<pars.length)(h:nQ pars here n):dB pars n (fo lat<|di pars (here,n)) (gT pars las (here,n)):=by
 rcases h with h | h
 ·
  obtain⟨e,aK⟩:=xX T h
  have hn:=(jj T h).2
  have e1:di pars (here,n)=(here,n):=by unfold di;rw[if_pos h]
  have e2:gT pars las (here,n)=las:=by
   unfold gT
   rw[if_neg]
   intro z
   have:=(jj T z).1
   lia
  rw[e1,e2]
  unfold fo
  refine⟨by rw[zaP];exact R.ll,R.ls,fun a b ha dw=> ?_,fun i hi=> ?_,R.ok⟩
  ·rw[e] at ha
   rcases zaa.mp ha with rfl | ha
   ·rw[h] at dw;cases dw
    rw[zba];simp[R.ll,hh]
   ·have hb:b<here:=by
     have:=uA T here hh a ha
     have:=(jj T dw).1
     lia
    rw[zaH (by lia)]
    exact R.up a b ha dw
  ·rw[e] at hi
   have e9:i∉ups pars here here:=hi
   obtain⟨r,er,_⟩:=xY T hh
   have ne:here≠i:=fun z=>e9 (by rw[er,z];exact zas)
   rw[zaH ne]
   exact R.no i fun z=>e9 (zci z)
 ·
  obtain⟨e,aK⟩:=xX T h
  have e1:di pars (here,n)=(n,here):=by
   unfold di
   rw[if_neg]
   intro z
   have:=(jj T z).1
   lia
  have e2:gT pars las (here,n)=las.set n (some here):=by unfold gT;rw[if_pos h]
  rw[e1,e2]
  unfold fo
  have hn:n<pars.length:=by lia
  obtain⟨r,er,hr⟩:=xY T hn
  refine⟨by rw[zaP];exact R.ll,by rw[zaP];exact R.ls,fun a b ha dw=> ?_,fun i hi=> ?_,fun i k hk=> ?_⟩
  ·have hb:b<n:=by
    have:=uA T n hn a ha
    have:=(jj T dw).1
    lia
   show(lat.set n<|some here)[b]?=_
   rw[zaH (by lia)]
   exact R.up a b (by rw[e];exact zaj _ ha) dw
  ·show(lat.set n<|some here)[i]?=_
   by_cases z:n=i
   ·subst z
    rw[zba,zba];simp[R.ll,R.ls,hn]
   ·rw[zaH z,zaH z]
    refine R.no i fun q=> ?_
    rw[e] at q
    have q:i∈ups pars n n:=q
    rw[er] at q hi
    rcases zaa.mp q with q | q
    ·exact z q.symm
    ·exact hi q
  ·by_cases z:n=i
   ·subst z
    rw[zba] at hk
    simp[R.ls,hn] at hk
    rw[<-hk];exact h
   ·rw[zaH z] at hk
    exact R.ok i k hk
theorem dB.path(T:dh pars): ∀(rest:List Nat) (here:Nat) (lat las:List (Option Nat)),dB pars here lat las->here<pars.length->(∀k∈rest,k<pars.length)->fk (nQ pars) (here::rest)-> ∃d,(here::rest)[rest.length]?=some d/\dB pars d (pV pars (here::rest) lat) (gz pars (here::rest) las)
 | [],here,lat,las,R,_,_,_=> ⟨here,rfl,R⟩
 | n::rest,here,lat,las,R,hh,hk,hc=>by
  have R1:=R.move T hh hc.1
  obtain⟨d,hd,R2⟩:=dB.path T rest n _ _ R1 (hk n zas) (fun k h=>hk k<|zaj _ h) hc.2
  refine⟨d,by simpa using hd, ?_⟩
  exact R2
theorem xZ: ∀(ps:List (Nat×Nat)) (la:List (Option Nat)),(ps.foldl (fun la p=>fo la<|di pars p) la).length=la.length
 | [],_=>rfl
 | p::ps,la=>by rw[zbf,xZ ps];unfold fo;rw[zaP]
theorem C0{i:Nat}: ∀(ps:List (Nat×Nat)) (la:List (Option Nat)),(∀p∈ps,(di pars p).1≠i)->(ps.foldl (fun la p=>fo la<|di pars p) la)[i]?=la[i]?
 | [],_,_=>rfl
 | p::ps,la,h=>by
  rw[zbf,C0 ps _ fun q hq=>h q (zaj _ hq)]
  unfold fo
  rw[zaH<|h p zas]
theorem Li: ∀(ps:List (Nat×Nat)) (la lb:List (Option Nat)),la.length=lb.length->(∀i,(∀p∈ps,(di pars p).1≠i)->la[i]?=lb[i]?)->ps.foldl (fun la p=>fo la<|di pars p) la=ps.foldl (fun la p=>fo la<|di pars p) lb
 | [],la,lb,_,h=>zbV fun i=>h i fun p hp=>by cases hp
 | p::ps,la,lb,hl,h=>by
  rw[zbf,zbf]
  refine Li ps _ _ (by unfold fo;rw[zaP,zaP];exact hl) fun i hi=> ?_
  unfold fo
  by_cases z:(di pars p).1=i
  ·rw[zba,zba];simp[z,hl]
  ·rw[zaH z,zaH z]
   refine h i fun q hq=> ?_
   rcases zaa.mp hq with rfl | hq
   ·exact z
   ·exact hi q hq
theorem ZQ{l:List Nat}{p:Nat×Nat}(h:p∈l.reverse.zip l.reverse.tail):(p.2,p.1)∈l.zip l.tail:=by
 obtain⟨i,hi⟩:=zbn.mp h
 obtain⟨h1,h2⟩:=Cn.mp hi
 have l1:i+1<l.reverse.length:=(zak.mp h2).1
 rw[zaF] at l1
 rw[zbW (by lia)] at h1 h2
 refine zbn.mpr ⟨l.length - 1 - (i+1),Cn.mpr ⟨h2, ?_⟩⟩
 rw[show l.length - 1 - (i+1)+1=l.length - 1 - i by lia];exact h1
theorem ZR(T:dh pars){a b:Nat}(h:nQ pars a b):di pars (b,a)=di pars (a,b):=by
 unfold di
 rcases h with h | h
 ·have n:pars[a]?≠some (some b):=fun z=>by
   have:=(jj T z).1
   have:=(jj T h).1
   lia
  rw[if_neg n,if_pos h]
 ·have n:pars[b]?≠some (some a):=fun z=>by
   have:=(jj T z).1
   have:=(jj T h).1
   lia
  rw[if_pos h,if_neg n]
theorem ZS(T:dh pars){ns:List Nat}{la:List (Option Nat)}(hc:fk (nQ pars) ns):pV pars ns (pV pars ns.reverse<|pV pars ns la)=pV pars ns la:=by
 unfold pV
 refine Li _ _ _ (by rw[xZ,xZ]) fun i hi=> ?_
 rw[C0,C0 _ _ hi]
 intro p hp
 have hm:=ZQ hp
 obtain⟨j,hj⟩:=zbn.mp hm
 obtain⟨h1,h2⟩:=Cn.mp hj
 have ad:=CD _ hc j _ _ h1 h2
 have:=hi _ hm
 rw[<-ZR T ad] at this
 exact this
theorem C1(y:List Nat):strip [] y=([],y):=by unfold strip;simp
theorem C3(y:List Nat):strip y []=(y,[]):=by unfold strip;simp
theorem ZT: ∀(x y:List Nat),strip y x=((strip x y).2,(strip x y).1):=by
 intro x
 induction x with
 | nil=>intro y;rw[C1,C3]
 | cons a as ih=>
  intro y
  match as,y,ih with
  | [],y,_=>
   cases y with
   | nil=>rw[C1,C3]
   | cons b bs=>rw[xr,xu]
  | b::bs,[],_=>rw[C1,C3]
  | b::bs,[c],_=>rw[xr,xu]
  | b::bs,c::d::ds,ih=>
   by_cases z:b=d
   ·subst z
    rw[strip_eq,strip_eq];exact ih (b::ds)
   ·rw[xv z,xv<|fun e=>z e.symm]
theorem ZU(T:dh pars){n d:Nat}(hn:n<pars.length)(hd:d<pars.length):d_ pars d n=(d_ pars n d).reverse:=by
 obtain⟨_,_,_,⟨q1,f1⟩⟩:=nR T n hn
 obtain⟨_,_,_,⟨q2,f2⟩⟩:=nR T d hd
 obtain⟨m,xs,ys,p,q,es,ex,ey⟩:=xI (ups pars n n).reverse (ups pars d d).reverse 0 q1.reverse q2.reverse (by rw[f1,zaK];rfl) (by rw[f2,zaK];rfl)
 unfold d_
 rw[ZT,es]
 show(m::ys).reverse++xs=((m::xs).reverse++ys).reverse
 simp
end
end L2.N
namespace L2.B
open PySem PySem.Spec PyProof.Rows
end L2.B
namespace L2
open PySem PySem.Spec PyProof.Rows
section
variable {prog:Program} {w:World} {A:Around} {E:Value->Shared->Prop} {s:Shared}
end
section
variable {CX:bN} {S:cz} {Γ:aQ} {X:Cx} {a b:Expr} {x:Str} {p pos:Pos} {ra rb:RE}
end
variable {X:Cx}
end L2
namespace L2.B
open PySem PySem.Spec PyProof.Rows
end L2.B
namespace L2.mw
open PySem PySem.Spec PyProof.Rows L2.B
def bB(i:Nat):Stmt:=(PySem.Challenge.pw_inkloom_k24_whole_each_text.main.body).getD i (.Pass ⟨0,0,0,0⟩)
def Lj:Stmt:=bB 9
abbrev eL(s:Stmt)(k:Nat):Stmt:=(fU s).getD k (.Pass ⟨0,0,0,0⟩)
abbrev eN(b:List RS)(k:Nat):RS:=b.getD k (.ret<|.c .aC)
abbrev MX(N:List Str)(s:Stmt)(f g l mn kn en hn:List Str)(b:List RS)(md:Nat):Prop:= ∀{CX:bN} {Γ:aQ} {X:Cx},gj CX (vW N (fV s) f g l mn kn en hn md) Γ X->eV X (fU s) (ax Γ b)
abbrev MY(N:List Str)(s:Stmt)(f g l mn kn en hn:List Str)(b:List RS)(md k:Nat):Prop:= ∀{CX:bN} {Γ:aQ} {X:Cx},gj CX (vW N (fV s) f g l mn kn en hn md) Γ X->PS X (eL s k) (cR Γ<|eN b k)
theorem ZV:MX lH Lj ag ag Tj ag ag ag ag Gi 0:=fun G=>have g:=G.toGood;(ah (bc<|ir (iY g<|aa g)<|jD<|Aa g<|iY g<|aa g) av)
def Lk:Stmt:=bB 10
theorem ZW:MX GG Lk GI ag ag ag ag ag ag GH 0:=fun G=>have g:=G.toGood;(ah (bc<|ir (bq g<|aj (aa g) ao)<|jD<|S_ g (aa g) (aa g)<|aa g) av)
def Ll:Stmt:=bB 11
theorem ZX:MX Al Ll ag ag Gj ag ag ag ag Am 0:=fun G=>have g:=G.toGood;(ah (bc<|ir (iY g<|aa g)<|jD<|gK g (aa g)<|aa g) av)
def Lm:Stmt:=bB 12
theorem ZY:MX lH Lm ag Tn Gj ag ag ag ag An 0:=fun G=>have g:=G.toGood;(ah (bc<|ir (iY g<|aa g)<|jD<|gK g (cA g (aa g)<|aj (F_ g) ao) aD) av)
def Ln:Stmt:=bB 15
theorem ZZ:MX lH Ln To ag Tp ag ag ag ag vY 0:=fun G=>have g:=G.toGood;(ah (bw (PW.pt<|j8 (gL<|sR g<|iY g<|aa g)<|mX<|aW g (bO g<|aj (aa g) ao) az) (ah (bc gJ) av) av)<|ah (bw (i5 g<|bq g<|aj (aM g (aa g) az)<|aj (dQ<|aj aD ao) ao) (ah (bc<|ir (bq g<|aj (aM g (aa g) az) ao)<|jD<|gK g (aM g (aa g) az) az) av) av)<|ah (bc<|ir (bq g<|aj (aM g (aa g) az)<|aj (dQ<|aj aD<|aj aD ao) ao)<|ir (bq g<|aj (aM g (aa g) az) ao)<|jD<|gK g (aM g (aa g) az) aD) av)
def Lo:Stmt:=bB 16
theorem Z0:MX Gk Lo ag ag ag ag ag ag ag Gm 0:=fun G=>have g:=G.toGood;(ah (bc<|ir (gK g (aa g)<|aa g)<|jD<|Aa g<|ir (gK g (aa g) aD)<|jD<|gK g (aa g) aD) av)
def Lp:Stmt:=bB 17
theorem Z1:MX Gn Lp Tq ag Ts ag ag Tt ag Gp 0:=fun G=>have g:=G.toGood;(ah (bw (gL<|sR g<|iY g<|aa g) (ah (j9 G<|aj aD ao) av) av)<|ah (aO G aD)<|ah (oN G (gM g<|aa g)<|ah (bw (gL<|i5 g<|bq g<|aj (aa g) ao) (ah (j9 G<|aj aD ao) av) av)<|ah (bw (gL<|i5 g<|bq g<|aj (aM g (aa g) az)<|aj (aa g) ao) (ah (j9 G<|aj aD ao) av) av)<|ah (aO G<|aM g (aa g) az) av) av)
def Lq:Stmt:=bB 18
theorem Z2:MX Gq Lq ag ag oQ ag ag ag ag Gr 0:=fun G=>have g:=G.toGood;(ah (bc<|qx (aW g (aM g (aa g) az) aD) (aM g (aa g) az)<|bO g<|aj (aM g (aa g) az) ao) av)
def Lr:Stmt:=bB 19
theorem Z3:MX Gs Lr Tu ag Tv ag ag ag ag Gu 0:=fun G=>have g:=G.toGood;(ah (bJ<|bq g<|aj (aa g) ao)<|ah (aO G<|bO g<|aj (mV (ln:=["part"]) g (by kernel_rfl) (gM g<|aa g) (sQ fun _ g=> (aW g (aM g (aa g) az) aD))<|fun _ g=> (bq g<|aj (aa g) ao)) ao)<|ah (aO G<|bO g<|aj (mV (ln:=["part"]) g (by kernel_rfl) (gM g<|aa g) (sQ fun _ g=> (aW g (aM g (aa g) az) aD))<|fun _ g=> (bq g<|aj (aa g) ao)) ao)<|ah (bc<|dQ<|aj (aa g)<|aj (aa g) ao) av)
def Ls:Stmt:=inClass (bB 20) 0
theorem Z4:MX v5 Ls ag ag Ha ag ag ag ag Ii 0:=fun G=>have g:=G.toGood;(ah (hU G (aa g)<|bO g<|aj (aa g) ao)<|ah (hU G (aa g) az)<|ah (hU G (aa g) az) av)
def Lu:Stmt:=inClass (bB 20) 1
theorem Z5:MX m_ Lu ag ag oQ ag ag ag ag Ij 0:=fun G=>have g:=G.toGood;(ah (bc<|qx (aW g (bP g<|aa g)<|bO g<|aj (bP g<|aa g) ao) (aM g (aM g (bP g<|aa g)<|bP g<|aa g) az) aD) av)
def Lv:Stmt:=inClass (bB 20) 2
theorem Z6:MX m_ Lv VB ag ag ag ag ag ag Ik 0:=fun G=>have g:=G.toGood;(ah (bc<|aP g (bq g<|aj (aM g (bP g<|aa g)<|bP g<|aa g) ao)<|bP g<|aa g) av)
def Lw:Stmt:=inClass (bB 20) 3
theorem Z7:MX Il Lw ag ag ag VC ag ag ag A5 0:=fun G=>have g:=G.toGood;(ah (aO G<|aM g (bP g<|aa g)<|bP g<|aa g)<|ah (aO G<|bP g<|aa g)<|ah (aO G<|aP g (aa g)<|aa g)<|ah (hU G (aa g)<|aa g)<|ah (bw (aW g (j6 g<|aa g) az) (ah (hU G (aa g)<|aP g (bP g<|aa g) az)<|ah (hU G (aa g) az) av) av)<|ah (bc<|dQ<|aj (aM g (aa g) az)<|aj (qx (aW g (aM g (aa g) az) aD) (aa g)<|iZ g (aM g (aa g) az) (fN<|aa g)<|fN<|aa g) ao) av)
def Lx:Stmt:=bB 21
theorem Z8:MX Gv Lx ag ag oQ ag ag ag ag Gw 0:=fun G=>have g:=G.toGood;(ah (bw (PW.pt<|j7 (aW g (bO g<|aj (aa g) ao) az)<|mW<|aW g (aM g (aM g (aa g)<|iq az) az) aD) (ah (aO G<|aP g (aa g)<|aM g (qy g<|aa g) az) av) av)<|ah (bJ<|cA g (aa g)<|aj (dQ<|aj aD<|aj (aa g) ao) ao) av)
def Ly:Stmt:=bB 22
theorem Z9:MX Gx Ly ag ag ag ag ag ag ag Gy 0:=fun G=>have g:=G.toGood;(ah (aO G<|cA g aD<|aj (aa g) ao)<|ah (aO G<|cA g aD<|aj (aa g) ao)<|ah (bw (aW g (aa g) aD) (ah (bJ<|cA g (aa g)<|aj (dQ<|aj aD<|aj (aa g) ao) ao) av) av)<|ah (bw (aW g (aa g) aD) (ah (bJ<|cA g (aa g)<|aj (dQ<|aj aD<|aj (aa g) ao) ao) av) av) av)
def Lz:Stmt:=bB 23
theorem Z_:MX Gz Lz Tw ag ag ag ag ag ag GA 0:=fun G=>have g:=G.toGood;(ah (aO G<|bU ao)<|ah (aO G<|bU ao)<|ah (aO G<|bU ao)<|ah (sS [(_,_),(_,_)] G (gM g<|aa g)<|ah (bw (aW g (aa g) aD) (ah (bJ<|cA g (aa g)<|aj (aa g) ao) av)<|ah (bw (aW g (aa g) aD) (ah (bJ<|cA g (aa g)<|aj (aa g) ao) av)<|ah (bw (aW g (aa g) az) (ah (bJ<|bq g<|aj (aa g)<|aj (aa g)<|aj (aa g) ao)<|ah (aO G<|bU ao)<|ah (aO G<|bU ao)<|ah (bJ<|bq g<|aj (aa g)<|aj (aa g) ao) av) av) av) av) av)<|ah (bJ<|bq g<|aj (aa g)<|aj (aa g)<|aj (aa g) ao)<|ah (bc<|aa g) av)
def LA:Stmt:=bB 24
theorem aaa:MX GB LA Tx Tz ag ag ag ag ag GC 0:=fun G=>have g:=G.toGood;(ah (bJ<|bq g<|aj (aa g) ao)<|ah (bc<|bq g<|aj (mV (ln:=["word","what"]) g (by kernel_rfl) (gM g<|aa g) vP<|fun _ g=> (dQ<|aj (aM g (F_ g)<|aa g)<|aj (aa g) ao)) ao) av)
def LB:Stmt:=bB 26
theorem aab:MX Im LB ag ag ag ag ag Ay ag Io 0:=fun G=>have g:=G.toGood;(ah (bw (aW g (aM g (aa g) az) aD) (ah (bc<|bU<|aj (dQ<|aj aD<|aj (aa g) ao) ao) av) av)<|ah (bw (aW g (aM g (aa g) az)<|aa g) (ah (j9 G<|aj aD ao) av) av)<|ah (bc<|bU ao) av)
def LC:Stmt:=bB 27
theorem aac:MX Ip LC VD ag VE Ir ag ag ag Iq 0:=fun G=>have g:=G.toGood;(ah (aO G<|bU ao)<|ah (aO G az)<|ah (qB G (aW g (aa g)<|bq g<|aj (aa g) ao)<|ah (bw (aW g (j6 g<|aa g) aD) (ah (bJ<|cA g (aa g)<|aj (fK g (aa g)<|aj (j6 g<|aa g) ao) ao)<|ah Th av) av)<|ah (aO G<|bO g<|aj (j6 g<|aa g)<|aj (aP g (bq g<|aj (aa g) ao)<|aa g) ao)<|ah (aO G<|fK g (aa g)<|aj (aa g) ao)<|ah (bw (aW g (aM g (aa g) az) aD) (ah (bJ<|cA g (aa g)<|aj (aa g) ao) av)<|ah (bJ<|cA g (aa g)<|aj (bq g<|aj (aa g)<|aj (iZ g (aM g (aa g) az) (fN<|aa g)<|fN<|aP g (aa g)<|aa g) ao) ao) av)<|ah (aO G<|aP g (aa g)<|aa g) av)<|ah (bc<|aa g) av)
def LD:Stmt:=bB 28
theorem aad:MX Iu LD VF ag ag Ir VG Ay ag Iv 0:=fun G=>have g:=G.toGood;(ah (bw (aW g (aM g (bq g<|aj (aa g) ao) az)<|aM g (bq g<|aj (aa g) ao) az) (ah (j9 G<|aj aD ao) av) av)<|ah (aO G<|Ga g<|aj (aa g) ao)<|ah (aO G<|bU ao)<|ah (oN G (gM g<|aa g)<|ah (bw (aW g (aM g (aa g) az) aD) (ah (bJ<|cA g (aa g)<|aj (aa g) ao) av)<|ah (bJ<|cA g (aa g)<|aj (bq g<|aj (aa g)<|aj (aa g) ao) ao) av) av)<|ah (qB G (aW g (j6 g<|aa g) aD)<|ah (bJ<|cA g (aa g)<|aj (fK g (aa g)<|aj (j6 g<|aa g) ao) ao) av)<|ah (bc<|bq g<|aj (aa g) ao) av)
def LF:Stmt:=bB 30
theorem aae:MX GZ LF Uh ag Ui ag ag ag ag G0 0:=fun G=>have g:=G.toGood;(ah (qB G (aW g (bO g<|aj (aa g) ao) az)<|ah (Te (ln:=["one","other"]) G (by kernel_rfl) (by kernel_rfl) (by kernel_rfl) (Gb g (GU g (aa g) az az)<|GU g (aa g) az az) vP<|fun _ g=> (bq g<|aj (aa g)<|aj (aa g) ao))<|ah (aO G<|aP g (aa g)<|iZ g (aa g) (fN<|aP g az<|bO g<|aj (aa g) ao) qz) av)<|ah (bc<|aM g (aa g) az) av)
def LG:Stmt:=inClass (bB 31) 0
theorem aaf:MX G1 LG GI ag ag ag ag Uj ag G3 0:=fun G=>have g:=G.toGood;(ah (bw (PW.pt<|j8 (gL<|i5 g<|bq g<|aj (aa g) ao)<|mX<|aW g (aa g) az) (ah (j9 G<|aj aD ao) av) av)<|ah (hU G (aa g) az)<|ah (hU G (aa g)<|bU<|aj (aa g) ao)<|ah (hU G (aa g)<|bU<|aj lG ao)<|ah (hU G (aa g)<|bU<|aj lG ao)<|ah (hU G (aa g)<|bU<|aj (bU ao) ao)<|ah (hU G (aa g)<|bU<|aj lG ao) av)
def LH:Stmt:=inClass (bB 31) 1
theorem aag:MX qF LH Uk ag ag Ul ag Ax ag G4 0:=fun G=>have g:=G.toGood;(ah (bw (gL<|i5 g<|bq g<|aj (aa g)<|aj az<|aj (aP g (j6 g<|aa g) az) ao) (ah (j9 G<|aj aD ao) av) av) av)
def LI:Stmt:=inClass (bB 31) 2
theorem aah:MX v5 LI G6 ag ag ag ag Ay ag G5 0:=fun G=>have g:=G.toGood;(ah (bw (aW g (aM g (bq g<|aj (aa g) ao) az)<|aM g (bP g<|aa g)<|bP g<|aa g) (ah (j9 G<|aj aD ao) av) av) av)
def LJ:Stmt:=inClass (bB 31) 4
theorem aai:MX m_ LJ ag ag oQ ag ag ag ag G7 0:=fun G=>have g:=G.toGood;(ah (bc<|bO g<|aj (bP g<|aa g) ao) av)
def LK:Stmt:=inClass (bB 31) 7
theorem aaj:MX qF LK ag ag ag Um ag ag ag G8 0:=fun G=>have g:=G.toGood;(ah (bJ<|fK g (aa g)<|aj (aa g) ao)<|ah (bc<|aM g (bP g<|aa g)<|aa g) av)
def LL:Stmt:=inClass (bB 31) 8
theorem aak:MX G9 LL G6 ag Ha Uo ag ag ag G_ 0:=fun G=>have g:=G.toGood;(ah (bJ<|fK g (aa g)<|aj (aa g) ao)<|ah (aO G<|j6 g<|aa g)<|ah (bJ<|cA g (bP g<|aa g)<|aj (bP g<|aa g) ao)<|ah (bJ<|cA g (bP g<|aa g)<|aj (bO g<|aj (aa g) ao) ao)<|ah (bJ<|cA g (bP g<|aa g)<|aj (aM g (bq g<|aj (aa g) ao) az) ao)<|ah (bJ<|cA g (bP g<|aa g)<|aj (bU ao) ao)<|ah (bJ<|cA g (bP g<|aa g)<|aj lG ao)<|ah (bJ<|cA g (aM g (bP g<|aa g)<|bP g<|aa g)<|aj (aa g) ao)<|ah (hU G (aa g)<|aa g)<|ah (bc<|aa g) av)
def LM:Stmt:=inClass (bB 31) 10
theorem aal:MX Hb LM Up ag ag ag ag ag ag Hc 0:=fun G=>have g:=G.toGood;(ah (bc<|qx (aW g (aM g (bP g<|aa g)<|aa g)<|aa g) (aM g (bP g<|aa g)<|aa g)<|bq g<|aj (aM g (bP g<|aa g)<|aa g) ao) av)
def LN:Stmt:=inClass (bB 31) 11
theorem aam:MX Kd LN Ym ag Kf Yn ag ag ag Ke 0:=fun G=>have g:=G.toGood;(ah (aO G<|X4 g<|aj (aa g)<|aj (iZ g (aa g) (fN az) qz) ao)<|ah (aO G<|bU<|aj (bq g<|aj (bU<|aj (dQ<|aj aD<|aj (aM g (bP g<|aa g)<|bP g<|aa g) ao) ao) ao) ao)<|ah (aO G<|bq g<|aj (aP g (aa g)<|mV (ln:=["node","other"]) g (by kernel_rfl) (gM g<|aa g) vP<|fun _ g=> (fK g (aa g)<|aj (aa g)<|aj (aa g) ao)) ao)<|ah (sS [(_,_),(_,_)] G (gM g<|aa g)<|ah (bw (aW g (aM g (bP g<|aa g)<|aa g)<|aa g) (ah (qA (aa g) (bP g<|aa g)<|aa g) av) av) av)<|ah (hU G (aa g)<|aM g (aa g)<|iq az)<|ah (bc<|aa g) av)
def LO:Stmt:=inClass (bB 31) 12
theorem aan:MX m_ LO ag ag ag Hf ag Ax ag He 0:=fun G=>have g:=G.toGood;(ah (bw (aW g (bP g<|aa g) az) (ah (j9 G<|aj aD ao) av) av)<|ah (bc<|fK g (aa g)<|aj (bU<|aj (bP g<|aa g)<|aj (aM g (bP g<|aa g)<|bP g<|aa g) ao) ao) av)
def LP:Stmt:=inClass (bB 31) 13
theorem aao:MX Hg LP ag ag ag Hf ag Ax ag Hh 0:=fun G=>have g:=G.toGood;(ah (aO G<|aM g (bP g<|aa g)<|bP g<|aa g)<|ah (bw (aW g (aa g) lG) (ah (j9 G<|aj aD ao) av) av)<|ah (bc<|fK g (aa g)<|aj (bU<|aj (bP g<|aa g)<|aj (aa g) ao) ao) av)
def LQ:Stmt:=inClass (bB 31) 14
theorem aap:MX qF LQ ag ag ag Uq ag ag ag Hi 0:=fun G=>have g:=G.toGood;(ah (bc<|fK g (aa g)<|aj (fK g (aa g)<|aj (bP g<|aa g)<|aj (aa g) ao) ao) av)
def LR:Stmt:=inClass (bB 31) 15
theorem aaq:MX Hj LR ag ag ag ag ag ag ag Hk 0:=fun G=>have g:=G.toGood;(ah (aO G<|bU<|aj (aa g) ao)<|ah (qB G (aW g (aM g (aa g)<|iq az) az)<|ah (bJ<|cA g (aa g)<|aj (aM g (bP g<|aa g)<|aM g (aa g)<|iq az) ao) av)<|ah (bc<|aa g) av)
def LS:Stmt:=inClass (bB 31) 16
theorem aar:MX Hl LS ag ag Ur Us ag ag ag Az 0:=fun G=>have g:=G.toGood;(ah (bJ<|fK g (aa g)<|aj (aa g) ao)<|ah (bJ<|fK g (aa g)<|aj (aa g) ao)<|ah (aO G<|fK g (aa g)<|aj (aa g) ao)<|ah (aO G<|fK g (aa g)<|aj (aa g) ao)<|ah (qB G (PW.pt<|j7 (aW g (bO g<|aj (aa g) ao) az)<|j7 (aW g (bO g<|aj (aa g) ao) az)<|mW<|aW g (aM g (aa g)<|iq az)<|aM g (aa g)<|iq az)<|ah (bJ<|qy g<|aa g)<|ah (bJ<|qy g<|aa g) av)<|ah (bc<|aP g (aa g)<|Ug g<|aj (iZ g (aa g) qz<|fN<|iq az) ao) av)
def LU:Stmt:=bB 33
theorem aas:MX GD LU ag ag oQ ag ag ag ag GF 0:=fun G=>have g:=G.toGood;(ah (bw (aW g (aa g)<|bO g<|aj (aa g) ao) (ah (bc<|aM g (aa g)<|aa g) av) av)<|ah (bc az) av)
def LV:Stmt:=bB 34
theorem aat:MX KD LV ag ag Y4 ag ag ag ag KG 0:=fun G=>have g:=G.toGood;(ah (aO G aD)<|ah (aO G<|aP g (aa g) aD)<|ah (bc<|cA g aD<|aj (mV (ln:=["_law_k"]) g (by kernel_rfl) (vQ g<|aa g) vP<|fun _ g=> (aM g (aa g)<|aP g (aP g (aa g)<|aP g (aa g)<|aP g az<|aP g (aP g (aa g) az) az) az)) ao) av)
def LW:Stmt:=bB 35
theorem aau:MX KH LW Y5 ag ag ag ag ag ag KI 0:=fun G=>have g:=G.toGood;(ah (bw (aW g (aP g (aP g (aa g) az) az) az) (ah (bc<|bq g<|aj (aP g (aa g) az)<|aj (aP g (aa g) az) ao) av) av)<|ah (bc<|bq g<|aj (aP g (aa g) az)<|aj (aP g (aa g) az) ao) av)
def LX:Stmt:=bB 36
theorem aav:MX KJ LX ag ag Y6 ag ag ag ag KL 0:=fun G=>have g:=G.toGood;(ah (aO G<|bU ao)<|ah (aO G aD)<|ah (aO G aD)<|ah (sS [(_,_),(_,_)] G (gM g<|aP g (aa g)<|bU<|aj (dQ<|aj aD<|aj az ao) ao)<|ah (bw (aW g (aa g) aD) (ah (aO G<|aP g (aa g)<|aa g) av)<|ah (bw (aW g (aa g) aD) (ah (aO G<|aP g (aa g)<|aa g) av)<|ah (bw (aW g (aa g) az) (ah (aO G<|aP g (aP g (aa g)<|aP g (bU<|aj (dQ<|aj aD<|aj (aa g) ao) ao)<|bO g<|aj (gK g (aa g) aD) ao)<|aP g (bU<|aj (dQ<|aj aD<|aj (aa g) ao) ao)<|bO g<|aj (gK g (aa g) aD) ao)<|ah (aO G aD)<|ah (aO G aD)<|ah (bw (PW.pt<|j7 (aW g (aa g) aD)<|j7 (aW g (aa g)<|bU ao)<|mW<|aW g (aM g (aM g (aa g)<|iq az) az) aD) (ah (qA (dQ<|aj aD<|aj (aP g (aM g (aM g (aa g)<|iq az) az)<|aa g) ao) (aa g)<|iq az) av)<|ah (bw (aW g (aa g) aD) (ah (bJ<|cA g (aa g)<|aj (dQ<|aj (aa g)<|aj (aa g) ao) ao) av) av) av) av) av) av) av) av)<|ah (bc<|aa g) av)
def LY:Stmt:=bB 37
theorem aaw:MX KN LY Y7 ag Y8 ag ag ag ag KO 0:=fun G=>have g:=G.toGood;(ah (aO G<|bU ao)<|ah (aO G az)<|ah (aO G<|aP g (aP g (aa g) az) az)<|ah (oN G (vQ g<|aP g az<|aP g (aa g) az)<|ah (aO G<|bO g<|aj (aP g (bO g<|aj (aa g) ao)<|aa g)<|aj (aP g (aa g) az) ao)<|ah (aO G<|bO g<|aj (aP g (aP g (bO g<|aj (aa g) ao)<|aa g)<|aa g)<|aj (aP g (aP g (aa g) az) az) ao)<|ah (bJ<|cA g (aa g)<|aj (dQ<|aj aD<|aj (aa g) ao) ao)<|ah (aO G<|bU<|aj (dQ<|aj aD<|aj (bq g<|aj (aP g (aa g) az)<|aj (aP g (aP g (aa g) az) az) ao) ao)<|aj (dQ<|aj aD<|aj (iZ g (aa g) (fN<|aP g (aa g)<|aa g)<|fN<|aP g (aP g (aa g)<|aa g)<|aa g) ao) ao)<|ah (aO G<|aP g (aa g)<|aa g)<|ah (aO G<|aP g (aP g (aa g)<|aa g)<|aa g)<|ah (aO G<|aP g (aP g (aa g) az) az) av)<|ah (bc<|bq g<|aj (aP g (aa g)<|bU<|aj (dQ<|aj aD<|aj (aP g (bO g<|aj (aa g) ao)<|aa g) ao) ao) ao) av)
def LZ:Stmt:=bB 38
theorem aax:MX GJ LZ ag ag oQ ag ag ag ag GK 0:=fun G=>have g:=G.toGood;(ah (aO G aD)<|ah (aO G az)<|ah (sS [(_,_),(_,_)] G (gM g<|aa g)<|ah (bw (aW g (aa g) aD) (ah (aO G<|aP g (aa g)<|aa g) av)<|ah (bw (aW g (aa g) aD) (ah (aO G<|aP g (aa g)<|iZ g (aa g) (fN<|aa g)<|fN<|aP g (aa g)<|aa g)<|ah (aO G<|aP g (aa g)<|aa g) av)<|ah (aO G<|aP g (aa g)<|bO g<|aj (aa g) ao) av) av) av)<|ah (bc<|aa g) av)
def L0:Stmt:=bB 39
theorem aay:MX KP L0 ag ag Y9 ag ag ag ag KQ 0:=fun G=>have g:=G.toGood;(ah (bw (PW.pt<|j8 (gL<|sR g<|iY g<|aa g)<|j8 (aW g (bO g<|aj (aa g) ao) az)<|mX<|aW g (aM g (aa g) az)<|dQ<|aj aD<|aj aD<|aj aD ao) (ah (bc gJ) av) av)<|ah (bw (aW g (aM g (aa g) az) aD) (ah (bc<|ir (iY g<|aM g (aa g) az)<|ir (Aa g<|iY g<|aM g (aa g) az)<|jD<|gK g (aM g (aa g) az) az) av) av)<|ah (bc<|ir (iY g<|aM g (aa g) az)<|jD<|gK g (aM g (aa g) az) aD) av)
def L1:Stmt:=bB 40
theorem aaz:MX KR L1 Y_ ag Za ag ag ag ag KS 0:=fun G=>have g:=G.toGood;(ah (bw (PW.pt<|j8 (gL<|sR g<|iY g<|aa g)<|mX<|aW g (bO g<|aj (mV (ln:=["_law_part_here"]) g (by kernel_rfl) (gM g<|aa g) (sQ fun _ g=> (gL<|i5 g<|bq g<|aj (aa g) ao))<|fun _ g=> (aa g)) ao) az) (ah (bc gJ) av) av)<|ah (aO G az)<|ah (oN G (vQ g<|bO g<|aj (aa g) ao)<|ah (Tg [(_,_),(_,_)] G<|aM g (aa g)<|aa g)<|ah (aO G<|qx (aW g (aa g) az) (aM g (aM g (aa g)<|aP g (aa g) az) az) aD)<|ah (bw (PW.pt<|j8 (aW g (aa g)<|aa g)<|mX<|PW.pt<|j7 (aW g (aa g) aD)<|mW<|aW g (aa g) aD) (ah (bc gJ) av) av)<|ah (bw (PW.pt<|j7 (aW g (aa g) aD)<|mW<|aW g (iZ g (aa g) (fN<|aa g)<|fN<|aP g (aa g)<|bO g<|aj (aa g) ao)<|aa g) (ah (bc gJ) av) av)<|ah (bw (aW g (aa g) aD) (ah (aO G<|aP g (aa g)<|qx (aW g (aa g) aD) (aa g)<|bO g<|aj (aa g) ao) av) av) av)<|ah (bc<|ir (gK g (aa g)<|bO g<|aj (aa g) ao)<|jD<|gK g (bq g<|aj (aa g)<|aj (aa g) ao)<|aa g) av)
def L3:Stmt:=bB 41
theorem aaA:MX KU L3 ag ag ag ag ag ag ag KW 0:=fun G=>have g:=G.toGood;(ah (aO G<|bU<|aj (aa g) ao)<|ah (qB G (aW g (aM g (aa g)<|iq az) az)<|ah (bJ<|cA g (aa g)<|aj (aM g (aa g)<|aM g (aa g)<|iq az) ao) av)<|ah (bc<|aa g) av)
def L4:Stmt:=bB 42
theorem aaB:MX KY L4 Zb ag ag ag ag ag ag KZ 0:=fun G=>have g:=G.toGood;(ah (aO G<|bq g<|aj (aa g)<|aj (aa g) ao)<|ah (aO G<|bq g<|aj (aa g)<|aj (aa g) ao)<|ah (aO G<|aM g (mV (ln:=["_law_node"]) g (by kernel_rfl) (gM g<|aa g) (sQ fun _ g=> (aW g (aa g)<|aa g))<|fun _ g=> (aa g)) az)<|ah (bc<|aP g (aP g (iZ g (aa g) qz<|fN<|cA g (aa g)<|aj (aa g) ao)<|bU<|aj (aa g) ao)<|TR g (iZ g (aa g) qz<|fN<|cA g (aa g)<|aj (aa g) ao)<|iq az) av)
def L5:List Str:=["_law_history","_law_rows","_law_node","_law_here","_law_goal","_law_change","_law_one","_law_other"]
noncomputable def L6:List RS:=
 [.asg 3 (.bh (.v 1) (.c (.str "here"))),
 .jy 4 .list [(.lst [(.v 2),(.v 3),(.v 2)])] [.asg 5 (.bK 0 "go" (.v 0) [(.v 4)]),
  .ite (.not<|.call 0 [(.v 5),(.ix (.bh (.v 1)<|.c<|.str "texts")<|.bh (.v 1)<|.c<|.str "here"),(.ix (.bh (.v 1)<|.c<|.str "texts")<|.v 4)]) [.ret<|.c<|.bl false] [],
  .drop (.bg .append (.bh (.v 1)<|.c<|.str "held") [(.tup [(.v 5),(.blt .list [(.v 5)])])]),
  .dput (.v 1) (.c (.str "here")) (.v 4)],
 .k_ [6,7] .zip [(.call 1 [(.bh (.v 1)<|.c<|.str "above"),(.v 3),(.v 2)]),(.sl (.call 1 [(.bh (.v 1)<|.c<|.str "above"),(.v 3),(.v 2)]) (some<|.c<|.int 1) none)] [.ite (.cmp .Eq (.ix (.bh (.v 1)<|.c<|.str "above")<|.v 7)<|.v 6) [.set (.bh (.v 1)<|.c<|.str "latest") (.v 6)<|.v 7] [.set (.bh (.v 1)<|.c<|.str "latest") (.v 7)<|.v 6]],
 .ret (.c (.bl true))]
def aaC:List Str:=["_law_leads","_law_way"]
def iK:List Str:=["go"]
def L7:Stmt:=bB 43
theorem aaD:MX L5 L7 aaC ag Kf iK ag ag ag L6 0:=fun G=>have g:=G.toGood;(ah (aO G<|bT g (aa g) aD)<|ah (oN G (gM g<|bU<|aj (aa g)<|aj (aa g)<|aj (aa g) ao)<|ah (aO G<|fK g (aa g)<|aj (aa g) ao)<|ah (bw (gL<|i5 g<|bq g<|aj (aa g)<|aj (aM g (bT g (aa g) aD)<|bT g (aa g) aD)<|aj (aM g (bT g (aa g) aD)<|aa g) ao) (ah (bc gJ) av) av)<|ah (bJ<|cA g (bT g (aa g) aD)<|aj (dQ<|aj (aa g)<|aj (bO g<|aj (aa g) ao) ao) ao)<|ah (vS G (aa g) (aa g) aD) av)<|ah (sS [(_,_),(_,_)] G (Gb g (bq g<|aj (bT g (aa g) aD)<|aj (aa g)<|aj (aa g) ao)<|iZ g (bq g<|aj (bT g (aa g) aD)<|aj (aa g)<|aj (aa g) ao) (fN az) qz)<|ah (bw (aW g (aM g (bT g (aa g) aD)<|aa g)<|aa g) (ah (qA (aa g) (bT g (aa g) aD)<|aa g) av)<|ah (qA (aa g) (bT g (aa g) aD)<|aa g) av) av)<|ah (bc gJ) av)
def L8:List Str:=["_law_history","_law_rows","_law_cell","_law_here","_law_change"]
noncomputable def L9:List RS:=
 [.asg 3 (.bh (.v 1) (.c (.str "here"))),
 .asg 4 (.call 0 [(.v 2),(.ix (.bh (.v 1)<|.c<|.str "texts")<|.v 3)]),
 .drop (.bg .append (.bh (.v 1)<|.c<|.str "texts") [(.call 1 [(.ix (.bh (.v 1)<|.c<|.str "texts")<|.v 3),(.v 4)])]),
 .drop (.bg .append (.bh (.v 1)<|.c<|.str "above") [(.v 3)]),
 .drop (.bg .append (.bh (.v 1)<|.c<|.str "latest") [(.c .aC)]),
 .dput (.v 1) (.c<|.str "here") (.bin .Sub (.blt .len [(.bh (.v 1)<|.c<|.str "above")])<|.c<|.int 1),
 .set (.bh (.v 1)<|.c<|.str "latest") (.v 3) (.bh (.v 1)<|.c<|.str "here"),
 .drop (.bK 0 "do" (.v 0) [(.v 4)]),
 .drop (.bg .clear (.v 4) []),
 .ret (.c (.bl true))]
def aaE:List Str:=["_law_change_by","_law_done"]
def aaF:List Str:=["do"]
def L_:Stmt:=bB 44
theorem aaG:MX L8 L_ aaE ag oQ aaF ag ag ag L9 0:=fun G=>have g:=G.toGood;(ah (aO G<|bT g (aa g) aD)<|ah (aO G<|bq g<|aj (aa g)<|aj (aM g (bT g (aa g) aD)<|aa g) ao)<|ah (bJ<|cA g (bT g (aa g) aD)<|aj (bq g<|aj (aM g (bT g (aa g) aD)<|aa g)<|aj (aa g) ao) ao)<|ah (bJ<|cA g (bT g (aa g) aD)<|aj (aa g) ao)<|ah (bJ<|cA g (bT g (aa g) aD)<|aj lG ao)<|ah (vS G (aP g (bO g<|aj (bT g (aa g) aD) ao) az) (aa g) aD)<|ah (qA (bT g (aa g) aD) (bT g (aa g) aD)<|aa g)<|ah (bJ<|fK g (aa g)<|aj (aa g) ao)<|ah (bJ<|qy g<|aa g)<|ah (bc gJ) av)
def jM:List Str:=["_law_history","_law_rows","_law_cell","_law_kind","_law_here","_law_change","_law_good"]
noncomputable def eo:List RS:=
 [.asg 3 (.bin .Mod (.v 2) (.c (.int 8))),
 .asg 4 (.bh (.v 1)<|.c<|.str "here"),
 .ite (.or [(.cmp .Lt (.v 3)<|.c<|.int 3),(.and [(.cmp .Lt (.v 3)<|.c<|.int 5),(.cmp .Eq (.v 4)<|.c<|.int 0)]),(.and [(.cmp .Eq (.v 3)<|.c<|.int 5),(.cmp .Is (.ix (.bh (.v 1)<|.c<|.str "latest")<|.v 4)<|.c .aC)])]) [.ret<|.call 0 [(.v 0),(.v 1),(.bin .FloorDiv (.v 2)<|.c<|.int 8)]] [],
 .ite (.cmp .Gt (.v 3)<|.c<|.int 5) [.ret<|.call 1 [(.v 0),(.v 1),(.bin .Mod (.bin .FloorDiv (.v 2)<|.c<|.int 8)<|.blt .len [(.bh (.v 1)<|.c<|.str "above")])]] [],
 .ite (.cmp .Lt (.v 3) (.c (.int 5))) [.dput (.v 1) (.c (.str "here")) (.ix (.bh (.v 1) (.c (.str "above"))) (.v 4)),
  .set (.bh (.v 1)<|.c<|.str "latest") (.bh (.v 1)<|.c<|.str "here") (.v 4),
  .asg 5 (.bK 0 "undo" (.v 0) [])] [.dput (.v 1) (.c (.str "here")) (.ix (.bh (.v 1) (.c (.str "latest"))) (.v 4)),
  .asg 5 (.bK 1 "redo" (.v 0) [])],
 .asg 6 (.call 2 [(.v 5),(.ix (.bh (.v 1)<|.c<|.str "texts")<|.v 4),(.ix (.bh (.v 1)<|.c<|.str "texts")<|.bh (.v 1)<|.c<|.str "here")]),
 .drop (.bg .append (.bh (.v 1)<|.c<|.str "held") [(.tup [(.v 5),(.blt .list [(.v 5)])])]),
 .ite (.cmp .Eq (.bin .Mod (.bin .FloorDiv (.v 2) (.c (.int 8))) (.c (.int 2))) (.c (.int 1))) [.drop (.bg .pop (.bh (.v 1) (.c (.str "held"))) []),
  .drop (.bg .clear (.v 5) [])] [],
 .ret (.v 6)]
def ku:List Str:=["_law_new","_law_walked","_law_leads"]
def kx:List Str:=["len","list"]
def ky:List Str:=["undo","redo"]
def eO:Stmt:=bB 45
theorem aaH:MY jM eO ku ag kx ky ag ag ag eo 0 0:=by
 intro CX Γ X G
 have g:=G.toGood
 show PS X (.Assign [.Name "_law_kind" _] _ _) (cR Γ<|.asg 3 _)
 with_reducible exact(aO G<|aP g (aa g) az)
theorem aaI:MY jM eO ku ag kx ky ag ag ag eo 0 1:=by
 intro CX Γ X G
 have g:=G.toGood
 show PS X (.Assign [.Name "_law_here" _] _ _) (cR Γ<|.asg 4 _)
 with_reducible exact(aO G<|bT g (aa g) aD)
theorem aaJ:MY jM eO ku ag kx ky ag ag ag eo 0 2:=fun G=>have g:=G.toGood;(bw (PW.pt<|j8 (aW g (aa g) az)<|j8 (PW.pt<|j7 (aW g (aa g) az)<|mW<|aW g (aa g) az)<|mX<|PW.pt<|j7 (aW g (aa g) az)<|mW<|aW g (aM g (bT g (aa g) aD)<|aa g) lG) (ah (bc<|bq g<|aj (aa g)<|aj (aa g)<|aj (aP g (aa g) az) ao) av) av)
theorem aaK:MY jM eO ku ag kx ky ag ag ag eo 0 3:=fun G=>have g:=G.toGood;(bw (aW g (aa g) az) (ah (bc<|bq g<|aj (aa g)<|aj (aa g)<|aj (aP g (aP g (aa g) az)<|bO g<|aj (bT g (aa g) aD) ao) ao) av) av)
theorem aaL:MY jM eO ku ag kx ky ag ag ag eo 0 4:=fun G=>have g:=G.toGood;(bw (aW g (aa g) az) (ah (vS G (aM g (bT g (aa g) aD)<|aa g) (aa g) aD)<|ah (qA (aa g) (bT g (aa g) aD)<|bT g (aa g) aD)<|ah (aO G<|j6 g<|aa g) av)<|ah (vS G (aM g (bT g (aa g) aD)<|aa g) (aa g) aD)<|ah (aO G<|j6 g<|aa g) av)
theorem aaM:MY jM eO ku ag kx ky ag ag ag eo 0 5:=by
 intro CX Γ X G
 have g:=G.toGood
 show PS X (.Assign [.Name "_law_good" _] _ _) (cR Γ<|.asg 6 _)
 with_reducible exact(aO G<|bq g<|aj (aa g)<|aj (aM g (bT g (aa g) aD)<|aa g)<|aj (aM g (bT g (aa g) aD)<|bT g (aa g) aD) ao)
theorem aaN:MY jM eO ku ag kx ky ag ag ag eo 0 6:=fun G=>have g:=G.toGood;(bJ<|cA g (bT g (aa g) aD)<|aj (dQ<|aj (aa g)<|aj (bO g<|aj (aa g) ao) ao) ao)
theorem aaO:MY jM eO ku ag kx ky ag ag ag eo 0 7:=fun G=>have g:=G.toGood;(bw (aW g (aP g (aP g (aa g) az) az) az) (ah (bJ<|qy g<|bT g (aa g) aD)<|ah (bJ<|qy g<|aa g) av) av)
theorem aaP:MY jM eO ku ag kx ky ag ag ag eo 0 8:=by
 intro CX Γ X G
 have g:=G.toGood
 show PS X (.Return (some _) _) (cR Γ<|.ret _)
 with_reducible exact(bc<|aa g)
theorem aaQ:MX jM eO ku ag kx ky ag ag ag eo 0:=by
 intro CX Γ X G
 have e:fU eO=[eL eO 0,eL eO 1,eL eO 2,eL eO 3,eL eO 4,eL eO 5,eL eO 6,eL eO 7,eL eO 8]:=by kernel_rfl
 have e2:eo=[eN eo 0,eN eo 1,eN eo 2,eN eo 3,eN eo 4,eN eo 5,eN eo 6,eN eo 7,eN eo 8]:=by kernel_rfl
 rw[e,e2]
 with_reducible exact ah (aaH G) (ah (aaI G)<|ah (aaJ G)<|ah (aaK G)<|ah (aaL G)<|ah (aaM G)<|ah (aaN G)<|ah (aaO G)<|ah (aaP G)<|av)
def Ma:List Str:=["_law_history","_law_rows","_law_cell","_law_many","_law_k","_law_node","_law_found"]
noncomputable def Mb:List RS:=
 [.asg 3 (.blt .len [(.bh (.v 1) (.c (.str "texts")))]),
 .jy 4 .gX [(.v 3)] [.asg 5 (.bin .Mod (.bin .Add (.v 2) (.v 4)) (.v 3)),
  .asg 6 (.bK 0 "size" (.v 0) [(.v 5)]),
  .ite (.or [(.dW .bool (.v 6)),(.cmp .NotEq (.v 6) (.blt .len [(.ix (.bh (.v 1) (.c (.str "texts"))) (.v 5))]))]) [.ret (.c (.bl false))] []],
 .ret (.c (.bl true))]
def aaR:List Str:=["len","range","isinstance","bool"]
def aaS:List Str:=["size"]
def Mc:Stmt:=bB 46
theorem aaT:MX Ma Mc ag ag aaR aaS ag ag ag Mb 0:=fun G=>have g:=G.toGood;(ah (aO G<|bO g<|aj (bT g (aa g) aD) ao)<|ah (oN G (vQ g<|aa g)<|ah (aO G<|aP g (aP g (aa g)<|aa g)<|aa g)<|ah (aO G<|fK g (aa g)<|aj (aa g) ao)<|ah (bw (PW.pt<|j8 (sR g<|iY g<|aa g)<|mX<|aW g (aa g)<|bO g<|aj (aM g (bT g (aa g) aD)<|aa g) ao) (ah (bc gJ) av) av) av)<|ah (bc gJ) av)
def iL:List Str:=["_law_script","_law_text","_law_history","_law_rows","_law_cell","_law_here","_law_keeps","_law_goal"]
noncomputable def dm:List RS:=
 [.asg 1 (.call 0 [(.call 1 [(.v 0),(.c (.int 0))])]),
 .asg 2 (.make 0 [(.blt .len [(.v 1)])]),
 .asg 3 (.xt qC [(.c<|.str "above"),(.lst [(.c .aC)]),(.c<|.str "latest"),(.lst [(.c .aC)]),(.c<|.str "texts"),(.lst [(.v 1)]),(.c<|.str "here"),(.c<|.int 0),(.c<|.str "held"),(.lst [])]),
 .jy 4 .list [(.sl (.v 0) (some (.c (.int 3))) (some (.c (.int 19))))] [.ite (.not (.call 2 [(.v 2),(.v 3),(.v 4)])) [.ret (.c (.bl false))] [],
  .ite (.and [(.cmp .Gt (.bin .Mod (.bin .FloorDiv (.v 4) (.c (.int 16))) (.c (.int 3))) (.c (.int 0))),(.not (.call 3 [(.v 2),(.v 3),(.bin .FloorDiv (.v 4) (.c (.int 48)))]))]) [.ret (.c (.bl false))] []],
 .ite (.not<|.call 3 [(.v 2),(.v 3),(.call 1 [(.v 0),(.c<|.int 2)])]) [.ret<|.c<|.bl false] [],
 .asg 5 (.bh (.v 3)<|.c<|.str "here"),
 .asg 6 (.bK 0 "go" (.v 2) [(.v 5)]),
 .ite (.cmp .NotEq (.v 6)<|.bin .Mult (.lst [(.tup [(.c<|.str "keep"),(.blt .len [(.ix (.bh (.v 3)<|.c<|.str "texts")<|.v 5)])])])<|.blt .int [(.cmp .NotEq (.ix (.bh (.v 3)<|.c<|.str "texts")<|.v 5)<|.c<|.str "")]) [.ret<|.c<|.bl false] [],
 .asg 7 (.bin .Mod (.call 1 [(.v 0),(.c<|.int 1)])<|.blt .len [(.bh (.v 3)<|.c<|.str "texts")]),
 .ite (.or [(.not<|.call 4 [(.v 2),(.v 3),(.c<|.int 0)]),(.not<|.call 4 [(.v 2),(.v 3),(.v 7)])]) [.ret<|.c<|.bl false] [],
 .ret (.cmp .Eq (.comp none [] .list [(.bh (.v 3) (.c (.str "held")))] (some (.cmp .NotEq (.ix (.v 0) (.c (.int 0))) (.ix (.v 0) (.c (.int 1))))) (.v 0)) (.lst []))]
def jk:List Str:=["_law_text_by","_law_cell_at","_law_deed","_law_sizes_right","_law_walked"]
def jm:List Str:=["len","int"]
def jn:List Str:=["History"]
def dC:Stmt:=bB 47
theorem aaU:MY iL dC jk ag jm iK jn ag ag dm 0 0:=by
 intro CX Γ X G
 have g:=G.toGood
 show PS X (.Assign [.Name "_law_text" _] _ _) (cR Γ<|.asg 1 _)
 with_reducible exact(aO G<|bq g<|aj (bq g<|aj (aa g)<|aj az ao) ao)
theorem aaV:MY iL dC jk ag jm iK jn ag ag dm 0 1:=by
 intro CX Γ X G
 have g:=G.toGood
 show PS X (.Assign [.Name "_law_history" _] _ _) (cR Γ<|.asg 2 _)
 with_reducible exact(aO G<|Ga g<|aj (bO g<|aj (aa g) ao) ao)
theorem aaW:MY iL dC jk ag jm iK jn ag ag dm 0 2:=by
 intro CX Γ X G
 have g:=G.toGood
 show PS X (.Assign [.Name "_law_rows" _] _ _) (cR Γ<|.asg 3 _)
 with_reducible exact(aO G<|TL<|sV aD (bU<|aj lG ao)<|sV aD (bU<|aj lG ao)<|sV aD (bU<|aj (aa g) ao)<|sV aD az<|sV aD (bU ao) TK)
theorem aaX:MY iL dC jk ag jm iK jn ag ag dm 0 3:=fun G=>have g:=G.toGood;(oN G (gM g<|iZ g (aa g) (fN az)<|fN az)<|ah (bw (gL<|i5 g<|bq g<|aj (aa g)<|aj (aa g)<|aj (aa g) ao) (ah (bc gJ) av) av)<|ah (bw (PW.pt<|j7 (aW g (aP g (aP g (aa g) az) az) az)<|mW<|gL<|i5 g<|bq g<|aj (aa g)<|aj (aa g)<|aj (aP g (aa g) az) ao) (ah (bc gJ) av) av) av)
theorem aaY:MY iL dC jk ag jm iK jn ag ag dm 0 4:=fun G=>have g:=G.toGood;(bw (gL<|i5 g<|bq g<|aj (aa g)<|aj (aa g)<|aj (bq g<|aj (aa g)<|aj az ao) ao) (ah (bc gJ) av) av)
theorem aaZ:MY iL dC jk ag jm iK jn ag ag dm 0 5:=by
 intro CX Γ X G
 have g:=G.toGood
 show PS X (.Assign [.Name "_law_here" _] _ _) (cR Γ<|.asg 5 _)
 with_reducible exact(aO G<|bT g (aa g) aD)
theorem aa0:MY iL dC jk ag jm iK jn ag ag dm 0 6:=by
 intro CX Γ X G
 have g:=G.toGood
 show PS X (.Assign [.Name "_law_keeps" _] _ _) (cR Γ<|.asg 6 _)
 with_reducible exact(aO G<|fK g (aa g)<|aj (aa g) ao)
theorem aa1:MY iL dC jk ag jm iK jn ag ag dm 0 7:=fun G=>have g:=G.toGood;(bw (aW g (aa g)<|aP g (bU<|aj (dQ<|aj aD<|aj (bO g<|aj (aM g (bT g (aa g) aD)<|aa g) ao) ao) ao)<|bO g<|aj (gK g (aM g (bT g (aa g) aD)<|aa g) aD) ao) (ah (bc gJ) av) av)
theorem aa2:MY iL dC jk ag jm iK jn ag ag dm 0 8:=by
 intro CX Γ X G
 have g:=G.toGood
 show PS X (.Assign [.Name "_law_goal" _] _ _) (cR Γ<|.asg 7 _)
 with_reducible exact(aO G<|aP g (bq g<|aj (aa g)<|aj az ao)<|bO g<|aj (bT g (aa g) aD) ao)
theorem aa3:MY iL dC jk ag jm iK jn ag ag dm 0 9:=fun G=>have g:=G.toGood;(bw (PW.pt<|j8 (gL<|i5 g<|bq g<|aj (aa g)<|aj (aa g)<|aj az ao)<|mX<|gL<|i5 g<|bq g<|aj (aa g)<|aj (aa g)<|aj (aa g) ao) (ah (bc gJ) av) av)
theorem aa4:MY iL dC jk ag jm iK jn ag ag dm 0 10:=by
 intro CX Γ X G
 have g:=G.toGood
 show PS X (.Return (some _) _) (cR Γ<|.ret _)
 with_reducible exact(bc<|gK g (mV (ln:=["_law_pair"]) g (by kernel_rfl) (gM g<|bT g (aa g) aD) (sQ fun _ g=> (aW g (aM g (aa g) az)<|aM g (aa g) az))<|fun _ g=> (aa g))<|bU ao)
theorem aa5:MX iL dC jk ag jm iK jn ag ag dm 0:=by
 intro CX Γ X G
 have e:fU dC=[eL dC 0,eL dC 1,eL dC 2,eL dC 3,eL dC 4,eL dC 5,eL dC 6,eL dC 7,eL dC 8,eL dC 9,eL dC 10]:=by kernel_rfl
 have e2:dm=[eN dm 0,eN dm 1,eN dm 2,eN dm 3,eN dm 4,eN dm 5,eN dm 6,eN dm 7,eN dm 8,eN dm 9,eN dm 10]:=by kernel_rfl
 rw[e,e2]
 with_reducible exact ah (aaU G) (ah (aaV G)<|ah (aaW G)<|ah (aaX G)<|ah (aaY G)<|ah (aaZ G)<|ah (aa0 G)<|ah (aa1 G)<|ah (aa2 G)<|ah (aa3 G)<|ah (aa4 G)<|av)
end L2.mw
namespace L2.mw
open PySem PySem.Spec L2.B L2.N
def bV(ab la tx hd:Addr)(here:Nat):List (Key×V):=[(.inr "above", .ref ab),(.inr "latest", .ref la),(.inr "texts", .ref tx),(.inr "here", .int (here:Nat)),(.inr "held", .ref hd)]
section
variable {ab la tx hd:Addr} {here:Nat}
theorem jN{a b:Str}{v:V}(h: ¬a=b): ¬((Sum.inr a:Key),v).1=Sum.inr b:=fun z=>h (Sum.inr.inj z)
theorem pW:eT (bV ab la tx hd here) (.inr "above")=some (.ref ab):=mK rfl
theorem pX:eT (bV ab la tx hd here) (.inr "latest")=some (.ref la):=(g_<|jN (by decide+kernel)).trans (mK rfl)
theorem jo:eT (bV ab la tx hd here) (.inr "texts")=some (.ref tx):=(g_<|jN (by decide+kernel)).trans ((g_<|jN (by decide+kernel)).trans<|mK rfl)
theorem nV:eT (bV ab la tx hd here) (.inr "here")=some (.int (here:Nat)):=(g_<|jN (by decide+kernel)).trans ((g_<|jN (by decide+kernel)).trans<|(g_<|jN (by decide+kernel)).trans<|mK rfl)
theorem C4:eT (bV ab la tx hd here) (.inr "held")=some (.ref hd):=(g_<|jN (by decide+kernel)).trans ((g_<|jN (by decide+kernel)).trans<|(g_<|jN (by decide+kernel)).trans<|(g_<|jN (by decide+kernel)).trans<|mK rfl)
theorem x3{k:Nat}:putK (bV ab la tx hd here) (.inr "here") (V.int (k:Nat))=bV ab la tx hd k:=by
 unfold putK bV
 simp
 exact⟨by decide+kernel,by decide+kernel,by decide+kernel,by decide+kernel⟩
end
section
variable {Γ:aQ} {D:Ends} {σ:St} {H:Hp} {r:List RS} {Q:VK} {i:Nat} {w:Addr} {f:Str} {kvs:List (Key×V)} {v:V}
theorem bW(hσ:σ[i]?=some (some<|.ref w))(hr:H w=some (.dK kvs))(hv:eT kvs (.inr f)=some v)(q:Q v H):af Γ (.bh (.v i)<|.c<|.str f) σ H Q:=⟨_,hσ,w,v,rfl, .inl ⟨kvs, .inr f, .inl hr,rfl,hv.symm⟩,q⟩
theorem x4{e:RE}(h:af Γ e σ H fun v H1=>af Γ (.v i) σ H1 fun x H2=> ∃a H4,x= .ref a/\vh H2 a (.str f) v H4/\ax Γ r D σ H4):ax Γ (.dput (.v i) (.c<|.str f) e::r) D σ H:=h
theorem x5(hσ:σ[i]?=some (some<|.ref w))(h1:H w=some (.dK kvs))(h2:kvs.length<sizeLine)(h3:ax Γ r D σ (upd H w<|.dK<|putK kvs (.inr f) v)):af Γ (.v i) σ H fun x H2=> ∃a H4,x= .ref a/\vh H2 a (.str f) v H4/\ax Γ r D σ H4:=
 ⟨_,hσ,w,_,rfl, .inl ⟨kvs, .inr f,h1,rfl,h2,rfl⟩,h3⟩
end
def kz(N:List Addr)(H:Hp)(v:V):Prop:= ∃(t a b:Addr) (xs ys:List V) (ps:List Pt),v= .ref t/\H t=some (.tup [.ref a, .ref b])/\a∉N/\b∉N/\H a=some (.lst xs)/\H b=some (.lst ys)/\aR H xs ps/\aR H ys ps/\ ∀p∈ps,hZ p
theorem kz.mono{N N':List Addr}{H H':Hp}{v:V}(h:kz N H v)(k: ∀b o,H b=some o->b∉N->H' b=some o)(tu:fg H H')(n: ∀a∈N',a∈N\/H a=none):kz N' H' v:=by
 obtain⟨t,a,b,xs,ys,ps,e,ht,na,nb,ha,hb,px,py,ho⟩:=h
 refine⟨t,a,b,xs,ys,ps,e,tu _ _ ht,fun h=> ?_,fun h=> ?_,k _ _ ha na,k _ _ hb nb,px.mono tu,py.mono tu,ho⟩
 ·rcases n a h with h | h
  ·exact na h
  ·rw[ha] at h;cases h
 ·rcases n b h with h | h
  ·exact nb h
  ·rw[hb] at h;cases h
theorem Md{K:Frag}{H:Hp}{Q:VK}{a b:Addr}{xs ys:List V}{ps:List Pt}(ha:H a=some (.lst xs))(hb:H b=some (.lst ys))(hx:aR H xs ps)(hy:aR H ys ps)(ho: ∀p∈ps,hZ p)(q:Q (.bl false) H):cY K .NotEq (.ref a) (.ref b) H Q:=by
 refine⟨.list<|ps.map toD, .list<|ps.map toD,⟨a,xs,rfl,ha,wj hx⟩,⟨b,ys,rfl,hb,wj hy⟩,wg ho,wg ho, ?_⟩
 rw[SeqAt.eqv_refl _<|SeqAt.canLay_of_shaped<|wg ho];exact q
structure bx (C:Addr) (H:Hp) (hp ar ab la tx hd:Addr) (M Ed:List Addr) (hr here:Nat) (pars:List (Option Nat)) (txts:List Str) (lat las:List (Option Nat)) (held:List V) (n:Nat):Prop where
 hi:cC C H hp M Ed here pars (txts.map fun x=>x.cps.toList) las 28
 r1:H ar=some (.dK<|bV ab la tx hd hr)
 r2:H ab=some (.lst<|pars.map gV)
 r3:H la=some (.lst<|lat.map gV)
 r4:H tx=some (.lst<|txts.map V.str)
 r5:H hd=some (.lst held)
 nd:[ar,ab,la,tx,hd].Nodup
 dj: ∀a∈ [ar,ab,la,tx,hd],a∉M/\a∉Ed
 he: ∀v∈held,kz (M++ [ar,ab,la,tx,hd]) H v
 lh:held.length<=10*n
 gd: ∀x∈txts,good x/\x.length<=400+16*n
 sz:pars.length<=n+1
section
variable {C:Addr} {H H':Hp} {hp ar ab la tx hd:Addr} {M Ed:List Addr} {hr here:Nat} {pars:List (Option Nat)} {txts:List Str} {lat las:List (Option Nat)} {held:List V} {n:Nat}
theorem cC.fD{T:Nat}{aJ:List (List Nat)}(A:cC C H hp M Ed here pars aJ las T):dh pars/\here<pars.length/\aJ.length=pars.length/\ia M H:=by
 obtain⟨dx,lo,pa,ed,be,lg,bs,es,A⟩:=A
 have:=A.ob.ln
 rw[zab] at this
 exact⟨A.ob.tr,A.ob.hr,this,A.live⟩
theorem bx.gb(S:bx C H hp ar ab la tx hd M Ed hr here pars txts lat las held n):txts.length=pars.length:=by
 have:=(cC.fD S.hi).2.2.1
 rw[zab] at this;exact this
theorem bx.same(S:bx C H hp ar ab la tx hd M Ed hr here pars txts lat las held n)(s:aB H H'):bx C H' hp ar ab la tx hd M Ed hr here pars txts lat las held n:=
 ⟨S.hi.same s,s _ _ S.r1,s _ _ S.r2,s _ _ S.r3,s _ _ S.r4,s _ _ S.r5,S.nd,S.dj,fun v hv=> (S.he v hv).mono (fun b o e _=>s _ _ e) (dr s) fun a h=> .inl h,S.lh,S.gd,S.sz⟩
theorem bx.ne(S:bx C H hp ar ab la tx hd M Ed hr here pars txts lat las held n):ar≠ab/\ar≠la/\ar≠tx/\ar≠hd/\ab≠la/\ab≠tx/\ab≠hd/\la≠tx/\la≠hd/\tx≠hd:=by
 have h:=S.nd
 simp only[zaN,zaa,not_or,zat,not_false_eq_true,and_true,List.nodup_nil] at h
 exact⟨h.1.1,h.1.2.1,h.1.2.2.1,h.1.2.2.2,h.2.1.1,h.2.1.2.1,h.2.1.2.2,h.2.2.1.1,h.2.2.1.2,h.2.2.2⟩
theorem bx.live(S:bx C H hp ar ab la tx hd M Ed hr here pars txts lat las held n):ia (M++ [ar,ab,la,tx,hd]) H:=fun x h=>by
 rcases zad.mp h with h | h
 ·exact(cC.fD S.hi).2.2.2 x h
 ·simp only[zaa,zat,or_false] at h
  rcases h with rfl | rfl | rfl | rfl | rfl
  ·exact⟨_,S.r1,fun ys e=>by cases e⟩
  ·exact⟨_,S.r2,fun ys e=>by cases e⟩
  ·exact⟨_,S.r3,fun ys e=>by cases e⟩
  ·exact⟨_,S.r4,fun ys e=>by cases e⟩
  ·exact⟨_,S.r5,fun ys e=>by cases e⟩
theorem bx.x6(S:bx C H hp ar ab la tx hd M Ed hr here pars txts lat las held n)(b:aZ [ar,ab,la,tx,hd] H H'){cc:List V}{dD:List (Option Nat)}(h1:H' ar=some (.dK<|bV ab la tx hd hr))(h2:H' ab=some (.lst<|pars.map gV))(h3:H' la=some (.lst<|dD.map gV))(h4:H' tx=some (.lst<|txts.map V.str))(h5:H' hd=some (.lst cc))(hh: ∀v∈cc,kz (M++ [ar,ab,la,tx,hd]) H' v)(hl:cc.length<=10*n):
  bx C H' hp ar ab la tx hd M Ed hr here pars txts dD las cc n:=by
 refine⟨S.hi.keep (fun a o h e=>b a o e fun q=> ?_)<|fun c xs e=>b c _ e fun q=> ?_,h1,h2,h3,h4,h5,S.nd,S.dj,hh,hl,S.gd,S.sz⟩
 ·have:=S.dj a q
  rcases h with h | h
  ·exact this.1 h
  ·exact this.2 h
 ·obtain⟨o,e',no⟩:=S.live c (zaq _ q)
  rw[e'] at e
  exact no xs<|zal e
theorem bx.x8(S:bx C H hp ar ab la tx hd M Ed hr here pars txts lat las held n){M' gA:List Addr}{d:Nat}{dE:List (Option Nat)}(b:aZ M H H')(A:cC C H' hp M' gA d pars (txts.map fun x=>x.cps.toList) dE 28)(hM: ∀a∈M',a∈M\/H a=none)(hE: ∀a∈gA,a∈Ed\/H a=none):bx C H' hp ar ab la tx hd M' gA hr d pars txts lat dE held n:=by
 have k: ∀{a:Addr} {o:HO},a∈ [ar,ab,la,tx,hd]->H a=some o->H' a=some o:=fun h e=>b _ _ e (S.dj _ h).1
 have lv:=(cC.fD S.hi).2.2.2
 refine⟨A,k (by simp) S.r1,k (by simp) S.r2,k (by simp) S.r3,k (by simp) S.r4,k (by simp) S.r5,S.nd,fun a h=> ⟨fun q=> ?_,fun q=> ?_⟩,fun v hv=> (S.he v hv).mono (fun b' o e ne=>b _ _ e fun q=>ne (zav _ q)) (lv.bz b) fun a h=> ?_,S.lh,S.gd,S.sz⟩
 ·rcases hM a q with q | q
  ·exact(S.dj a h).1 q
  ·obtain⟨o,e,_⟩:=S.live a (zaq _ h)
   rw[q] at e;cases e
 ·rcases hE a q with q | q
  ·exact(S.dj a h).2 q
  ·obtain⟨o,e,_⟩:=S.live a (zaq _ h)
   rw[q] at e;cases e
 ·rcases zad.mp h with h | h
  ·rcases hM a h with h | h
   ·exact .inl (zav _ h)
   ·exact .inr h
  ·exact .inl (zaq _ h)
theorem bx.now(S:bx C H hp ar ab la tx hd M Ed hr here pars txts lat las held n)(d:Nat):bx C (upd H ar<|.dK<|bV ab la tx hd d) hp ar ab la tx hd M Ed d here pars txts lat las held n:=by
 obtain⟨n1,n2,n3,n4,n5,n6,n7,n8,n9,kA⟩:=S.ne
 have bb:aF ar H (upd H ar<|.dK<|bV ab la tx hd d):=aF.upd
 have uB:ar∈M++ [ar,ab,la,tx,hd]:=by simp
 have tu:fg H (upd H ar<|.dK<|bV ab la tx hd d):=fun c xs e=>bb c _ e fun z=>by rw[z,S.r1] at e;cases e
 refine⟨S.hi.keep (fun a o h e=>bb a o e fun q=> ?_) tu,au,bb _ _ S.r2<|Ne.symm n1,bb _ _ S.r3<|Ne.symm n2,bb _ _ S.r4<|Ne.symm n3,bb _ _ S.r5<|Ne.symm n4,S.nd,S.dj,fun v hv=> (S.he v hv).mono (fun b o e ne=>bb b o e fun z=>ne (by rw[z];exact uB)) tu fun a h=> .inl h,S.lh,S.gd,S.sz⟩
 have:=S.dj ar (by simp)
 rw[q] at h
 rcases h with h | h
 ·exact this.1 h
 ·exact this.2 h
theorem x9:(bV ab la tx hd hr).length<sizeLine:=dY (by show 5<=1000000;decide)
end
section
variable {K:Frag} {C CN:Addr}
theorem fA{txts:List Str}{d:Nat}{x:Str}(h:txts[d]?=some x):(txts.map V.str)[d]?=some (V.str x)/\(txts.map fun x=>x.cps.toList)[d]?=some x.cps.toList:=by
 rw[zam,zam,h];exact⟨rfl,rfl⟩
def aa6:List RS:=[.asg 5 (.bin .Mod (.bin .Add (.v 2) (.v 4)) (.v 3)),
  .asg 6 (.bK 0 "size" (.v 0) [(.v 5)]),
  .ite (.or [(.dW .bool (.v 6)),(.cmp .NotEq (.v 6) (.blt .len [(.ix (.bh (.v 1) (.c (.str "texts"))) (.v 5))]))]) [.ret (.c (.bl false))] []]
def x_(C:Addr):Sp:=fun vs H Q E=> ∃(hp ar ab la tx hd:Addr) (M Ed:List Addr) (hr here:Nat) (pars:List (Option Nat)) (txts:List Str) (lat las:List (Option Nat)) (held:List V) (n:Nat) (c:Int),vs=[.ref hp, .ref ar, .int c]/\bx C H hp ar ab la tx hd M Ed hr here pars txts lat las held n/\n<=100/\Q (.bl true) H
theorem aa7(vs:List V)(H:Hp)(Q:VK)(E:XK)(h:x_ C vs H Q E):ax (aS K [] [] [] [("size",C,BZ C)] (E:=E)) Mb (Dn Q) (start Ma vs) H:=by
 obtain⟨hp,ar,ab,la,tx,hd,M,Ed,hr,here,pars,txts,lat,las,held,n,c,rfl,S,hn,q⟩:=h
 have gb:=S.gb
 have sz:=S.sz
 obtain⟨T,hh,_,_⟩:=cC.fD S.hi
 have t0:0<txts.length:=by lia
 refine ba<|dR<|bW rfl S.r1 jo<|.inl ⟨_,aq.of S.r4, ?_⟩
 rw[zab]
 refine BJ (body:=aa6)<|ae rfl ⟨txts.length,rfl,by lia,by lia,yF (lo:=0) (n:=((txts.length:Nat):Int).toNat) (fun i σ H2=> ∃u4 u5 u6,σ=[some<|.ref hp,some<|.ref ar,some<|.int c,some<|.int (txts.length:Nat),u4,u5,u6]/\H2=H) ⟨none,none,none,rfl,rfl⟩ ?_ ?_⟩
 ·rintro i σ H2 hi ⟨u4,u5,u6,rfl,rfl⟩
  refine ba<|aV<|aV<|ae rfl<|ae rfl<|iH<|ae rfl ⟨by show(0:Int) < ((txts.length:Nat):Int);lia, ?_⟩
  obtain⟨d,ed⟩: ∃d:Nat,(c+ (0+ (i:Int))) % ((txts.length:Nat):Int)=(d:Nat):=⟨_,(zcm<|zaJ _ (by lia)).symm⟩
  have eE:d<txts.length:=by
   have:=zaL (c+ (0+ (i:Int))) (show(0:Int) < ((txts.length:Nat):Int) by lia)
   lia
  show ax _ _ _ [some<|V.ref hp,some<|V.ref ar,some<|V.int c,some<|V.int (txts.length:Nat),some<|V.int<|0+ (i:Int),some<|V.int<|(c+ (0+ (i:Int))) % ((txts.length:Nat):Int),u6] _
  rw[ed]
  obtain⟨x,hx⟩: ∃x,txts[d]?=some x:=⟨_,zau eE⟩
  have gx:=S.gd x (zae hx)
  obtain⟨dx,lo,pa,nU,be,lg,bs,es,A⟩:=S.hi
  have hsz:((txts.map fun x=>x.cps.toList).map List.length)[d]?=some x.length:=by rw[zam,(fA hx).2,len_list];rfl
  refine ba<|h9 C (BZ C) rfl<|ae rfl ⟨hp,dx,_,rfl,A.ob.ob,gQ (by decide+kernel) (by decide+kernel) (by decide+kernel) (by decide+kernel) (by decide+kernel) (by decide+kernel),ae rfl ⟨hp,dx,lo,pa,nU,be,lg,here,_,pars,d,x.length,rfl,A.ob,hsz, ?_⟩⟩
  refine bA<|qZ<|BA<|ae rfl<|CS<|iF ?_ rfl
  refine aX<|ae rfl<|dR<|bf<|bW rfl S.r1 jo<|ae rfl<|cx S.r4 (cq (fA hx).1) ⟨bQ gx.1.1,xf ⟨_,rfl,iF (cU ?_) (by simp)⟩⟩
  exact⟨_,_,_,rfl,rfl⟩
 ·rintro σ H2 ⟨u4,u5,u6,rfl,rfl⟩
  exact ck<|aw q
def Me:List RS:=[.asg 5 (.bK 0 "go" (.v 0) [(.v 4)]),
  .ite (.not<|.call 0 [(.v 5),(.ix (.bh (.v 1)<|.c<|.str "texts")<|.bh (.v 1)<|.c<|.str "here"),(.ix (.bh (.v 1)<|.c<|.str "texts")<|.v 4)]) [.ret<|.c<|.bl false] [],
  .drop (.bg .append (.bh (.v 1)<|.c<|.str "held") [(.tup [(.v 5),(.blt .list [(.v 5)])])]),
  .dput (.v 1) (.c (.str "here")) (.v 4)]
theorem Mf{ps:List Pt}{l r:List Nat}(h:l9 ps l r):ps.length<=2*B.aA ps+1:=pL ps "" h.ok h.ch
theorem Mg{E:XK}{D:Ends}{rest:List RS}{tb:List (Str×Sp)}{mt:List (Str×Addr×Sp)}{H:Hp}{hp ar ab la tx hd c:Addr}{M Ed:List Addr}{hr here:Nat}{pars:List (Option Nat)}{txts:List Str}{lat las:List (Option Nat)}{held:List V}{n:Nat}{ps:List Pt}{l r:List Nat}{σ:St}{ic:Nat}
  (S:bx C H hp ar ab la tx hd M Ed hr here pars txts lat las held n) (h1:σ[1]?=some (some<|.ref ar)) (h5:σ[ic]?=some (some<|.ref c)) (hc:cQ H c ps l r) (nc:c∉M++ [ar,ab,la,tx,hd]) (hl:held.length+1<=10*n) (hn:n<=100)
  (k: ∀(v:V) (H':Hp),aF hd H H'->bx C H' hp ar ab la tx hd M Ed hr here pars txts lat las (held++ [v]) n->cQ H' c ps l r->ax (aS K tb [] [] mt (E:=E)) rest D σ H'):
  ax (aS K tb [] [] mt (E:=E)) (.drop (.bg .append (.bh (.v 1)<|.c<|.str "held") [(.tup [(.v ic),(.blt .list [(.v ic)])])])::rest) D σ H:=by
 obtain⟨xs,hx,pv,hg⟩:=hc
 obtain⟨n1,n2,n3,n4,n5,n6,n7,n8,n9,kA⟩:=S.ne
 refine dH<|fP<|bW h1 S.r1 C4 ⟨.inl ⟨rfl,_,aq.of S.r5⟩,je<|ay<|ae h5<|ay<|JV<|ae h5 ⟨xs, .inl<|aq.of hx,fun b fb=>aL ⟨(by show 2<=sizeLine;decide),fun t ft=> ?_⟩⟩⟩
 have s1:=sameNew (o:= .lst xs) fb
 have s2:=sameNew (o:= .tup [V.ref c,V.ref b]) ft
 have eK:=s1.trans s2
 refine⟨held,eK _ _ S.r5,dY (by lia), ?_⟩
 have pw:upd (upd H b<|.lst xs) t (.tup [V.ref c,V.ref b]) b=some (.lst xs):=s2 _ _ au
 have qY:upd (upd H b<|.lst xs) t (.tup [V.ref c,V.ref b]) t=some (.tup [V.ref c,V.ref b]):=au
 have S2:=S.same eK
 have C5:=eK _ _ hx
 have ya:=pv.mono (dr eK)
 have nb:b∉M++ [ar,ab,la,tx,hd]:=S.live.no fb
 generalize upd (upd H b<|.lst xs) t (.tup [V.ref c,V.ref b])=H2 at eK pw qY S2 C5 ya⊢
 have bb:aF hd H2 (upd H2 hd<|.lst<|held++ [V.ref t]):=aF.upd
 have bl:aZ [ar,ab,la,tx,hd] H2 (upd H2 hd<|.lst<|held++ [V.ref t]):=aZ.upd (by simp)
 have tu:=bb.bz S2.r5
 have mx:hd∈M++ [ar,ab,la,tx,hd]:=by simp
 have Mh:c≠hd:=fun z=>nc (by rw[z];exact mx)
 have nbd:b≠hd:=fun z=>nb (by rw[z];exact mx)
 refine k (.ref t) _ (fun x o e ne=>bb x o (eK _ _ e) ne) (S2.x6 bl (bb _ _ S2.r1 n4) (bb _ _ S2.r2 n7) (bb _ _ S2.r3 n9) (bb _ _ S2.r4 kA) au (fun v hv=> ?_) (by rw[zqA];exact hl)) ⟨xs,bb _ _ C5 Mh,ya.mono tu,hg⟩
 rcases zad.mp hv with hv | hv
 ·exact(S2.he v hv).mono (fun x o e ne=>bb x o e fun z=>ne (by rw[z];exact mx)) tu fun a h=> .inl h
 ·rw[zac.mp hv]
  exact⟨t,c,b,xs,xs,ps,rfl,tu _ _ qY,nc,nb,bb _ _ C5 Mh,bb _ _ pw nbd,ya.mono tu,ya.mono tu,fun p hp=>HR<|hg.ok p hp⟩
end
section
variable {K:Frag} {C CN:Addr}
abbrev Mi:List (Str×Sp):=[("_law_leads",ux),("_law_way",xT)]
theorem C6{E:XK}{D:Ends}{H:Hp}{hp ar ab la tx hd:Addr}{M Ed:List Addr}{here d:Nat}{pars:List (Option Nat)}{txts:List Str}{lat las:List (Option Nat)}{held:List V}{n:Nat}{rest:List Nat}{a2 a3:V}{u5 u6 u7:Option V}
  (S:bx C H hp ar ab la tx hd M Ed here here pars txts lat las held n) (eE:d<pars.length) (ew:d_ pars here d=here::rest) (hn:n<=100) (hl:held.length+1<=10*n)
  (k: ∀(v c:V) (H':Hp),aZ (M++ [ar,ab,la,tx,hd]) H H'->bx C H' hp ar ab la tx hd M Ed d d pars txts lat (gz pars (here::rest) las) (held++ [v]) n->D.nx [some<|.ref hp,some<|.ref ar,some a2,some a3,some<|.int (d:Nat),some c,u6,u7] H'):
  ax (aS K Mi [] [] [("go",C,rB C)] (E:=E)) Me D [some<|.ref hp,some<|.ref ar,some a2,some a3,some<|.int (d:Nat),u5,u6,u7] H:=by
 have gb:=S.gb
 have sz:=S.sz
 obtain⟨T,hh,_,_⟩:=cC.fD S.hi
 obtain⟨x,hx⟩: ∃x,txts[here]?=some x:=⟨_,zau (by lia)⟩
 obtain⟨y,hy⟩: ∃y,txts[d]?=some y:=⟨_,zau (by lia)⟩
 have gx:=S.gd x (zae hx)
 have gy:=S.gd y (zae hy)
 have lr:rest.length<=300:=by
  obtain⟨u,v,m,e1,_,_,_,_,_,_,hle⟩:=um T hh eE
  rw[ew] at e1
  have:=congrArg List.length e1
  simp only[zao,zqA] at this
  lia
 obtain⟨dx,lo,pa,nU,be,lg,bs,es,A⟩:=id S.hi
 refine ba<|h9 C (rB C) rfl<|ae rfl ⟨hp,dx,_,rfl,A.ob.ob,gQ (by decide+kernel) (by decide+kernel) (by decide+kernel) (by decide+kernel) (by decide+kernel) (by decide+kernel),ae rfl ⟨hp,M,Ed,here,d,pars,_,las,28,rest,_,_,rfl,S.hi,eE,ew,by lia,by lia,by decide,(fA hx).2,(fA hy).2,by rw[<-len_list];lia,fun c ps H1 b1 fc pS hc ht A1=> ?_⟩⟩
 have S1:=S.x8 b1 A1 (fun a h=> .inl h) (fun a h=> .inl h)
 have nc:c∉M++ [ar,ab,la,tx,hd]:=S.live.no fc
 have hg:=hc.chg
 have lp:=Mf hg
 have tt:B.aA ps<=28*300:=zaw ht (Nat.mul_le_mul_left _ lr)
 refine bA<|iG<|jG ux rfl<|ay<|ae rfl<|ay<|bf<|bW rfl S1.r1 jo<|bW rfl S1.r1 nV<|cx S1.r4 (cq (fA hx).1)<|ay<|bf<|bW rfl S1.r1 jo<|ae rfl<|cx S1.r4 (cq (fA hy).1)<|aL ⟨c,ps,x,y,rfl,gx.1,hc,by lia,by lia,fun H2 s2=>iE<|iF (cU ?_) rfl⟩
 have S2:=S1.same s2
 refine Mg S2 rfl rfl (hc.same s2) nc hl hn fun v H3 b3 S3 _=> ?_
 refine x4<|ae rfl<|x5 rfl S3.r1 x9 ?_
 rw[x3]
 refine k v _ _ (fun x o e ne=> ?_)<|S3.now d
 rw[aN (show x≠ar from fun z=>ne (by rw[z];simp))]
 exact b3 x o (s2 _ _<|b1 x o e fun q=>ne (zav _ q)) fun z=>ne (by rw[z];simp)
theorem aa9{Γ:aQ}{D:Ends}{σ:St}{H:Hp}{r body:List RS}{is:List Nat}{x y:RE}(h:aY Γ [x,y] σ H fun vs H1=> ∃a b,vs=[.ref a, .ref b]/\(∃xs,aq Γ.K H1 a xs)/\(∃ys,aq Γ.K H1 b ys)/\ ∃W:Nat->Nat->St->Hp->Prop,(∃m,W 0 m σ H1)/\ ∀j m σ H,W j m σ H->
  ((jz Γ.K a b).stop j H/\({D with nx:=ax Γ r D}:Ends).nx σ H)\/((jz Γ.K a b).go j H/\ ∃N:St->Hp->Prop,(∀σ' H',N σ' H'-> ∃m',m'<m/\W (j+1) m' σ' H')/\ ∀x H',(jz Γ.K a b).gf j H x H'->mU Γ.K is.length (lE is) x σ H' fun σ2 H2=>ax Γ body {({D with nx:=ax Γ r D}:Ends) with nx:=N,ct:=N,bk:=({D with nx:=ax Γ r D}:Ends).nx} σ2 H2)):
  ax Γ (.k_ is .zip [x,y] body::r) D σ H:=h
theorem aa_{a b:Addr}{xs ys:List V}{g:TG}{tb:TS}{D:Ends}{σ:St}{H:Hp}(hl:ys.length<=xs.length)(Pv:Nat->St->Hp->Prop)(h0:Pv 0 σ H)(ha: ∀i σ H,Pv i σ H->aq K H a xs/\aq K H b ys)
  (hs: ∀i x y σ H T,xs[i]?=some x->ys[i]?=some y->Pv i σ H->H T=none->g (.ref T) σ (upd H T<|.tup [x,y]) fun σ2 H2=>tb {D with nx:=Pv (i+1),ct:=Pv (i+1),bk:=D.nx} σ2 H2) (hd: ∀σ H,Pv ys.length σ H->D.nx σ H):
  ∃W:Nat->Nat->St->Hp->Prop,(∃m,W 0 m σ H)/\ ∀i m σ H,W i m σ H->
   ((jz K a b).stop i H/\D.nx σ H)\/((jz K a b).go i H/\ ∃N:St->Hp->Prop,(∀σ' H',N σ' H'-> ∃m',m'<m/\W (i+1) m' σ' H')/\ ∀x H',(jz K a b).gf i H x H'->g x σ H' fun σ2 H2=>tb {D with nx:=N,ct:=N,bk:=D.nx} σ2 H2):=by
 refine⟨fun i m σ H=>m=ys.length - i/\i<=ys.length/\Pv i σ H,⟨ys.length,by simp,zqZ _,h0⟩, ?_⟩
 rintro i m σ H ⟨rfl,hi,p⟩
 obtain⟨q1,q2⟩:=ha i σ H p
 by_cases yb:i<ys.length
 ·have aK:i<xs.length:=by lia
  refine .inr ⟨⟨xs,ys,q1,q2,aK,yb⟩,Pv<|i+1,fun σ' H' p'=> ⟨ys.length - (i+1),by lia,rfl,yb,p'⟩,fun x H' y=> ?_⟩
  obtain⟨T,hT,rfl,y⟩:=y
  have e:=y xs ys xs[i] ys[i] q1 q2 (by simp[aK]) (by simp[yb])
  subst e
  exact hs i xs[i] ys[i] σ H T (by simp[aK]) (by simp[yb]) p hT
 ·have e:i=ys.length:=by lia
  subst e
  exact .inl ⟨⟨xs,ys,q1,q2,by lia⟩,hd σ H p⟩
theorem aba{E:XK}{D:Ends}{tb:List (Str×Sp)}{mt:List (Str×Addr×Sp)}{H:Hp}{hp ar ab la tx hd:Addr}{M Ed:List Addr}{hr here:Nat}{pars:List (Option Nat)}{txts:List Str}{lat las:List (Option Nat)}{held:List V}{n a b:Nat}{σ:St}
  (S:bx C H hp ar ab la tx hd M Ed hr here pars txts lat las held n) (ll:lat.length=pars.length) (ha:a<pars.length) (hb:b<pars.length) (h1:σ[1]?=some (some<|.ref ar)) (h6:σ[6]?=some (some<|.int (a:Nat))) (h7:σ[7]?=some (some<|.int (b:Nat)))
  (k: ∀H',aF la H H'->bx C H' hp ar ab la tx hd M Ed hr here pars txts (fo lat<|di pars (a,b)) las held n->D.nx σ H'):
  ax (aS K tb [] [] mt (E:=E)) [.ite (.cmp .Eq (.ix (.bh (.v 1)<|.c<|.str "above")<|.v 7)<|.v 6) [.set (.bh (.v 1)<|.c<|.str "latest") (.v 6)<|.v 7] [.set (.bh (.v 1)<|.c<|.str "latest") (.v 7)<|.v 6]] D σ H:=by
 obtain⟨n1,n2,n3,n4,n5,n6,n7,n8,n9,kA⟩:=S.ne
 have C7:pars[b]?=some pars[b]:=zau hb
 have put: ∀(i v:Nat),i<pars.length->bx C (upd H la<|.lst<|(lat.set i<|some v).map gV) hp ar ab la tx hd M Ed hr here pars txts (lat.set i<|some v) las held n:=by
  intro i v hi
  have bb:aF la H (upd H la<|.lst<|(lat.set i<|some v).map gV):=aF.upd
  have rE:la∈M++ [ar,ab,la,tx,hd]:=by simp
  exact S.x6 (aZ.upd (by simp)) (bb _ _ S.r1 n2) (bb _ _ S.r2 n5) au (bb _ _ S.r4<|Ne.symm n8) (bb _ _ S.r5<|Ne.symm n9) (fun v hv=> (S.he v hv).mono (fun x o e ne=>bb x o e fun z=>ne (by rw[z];exact rE)) (bb.bz S.r3) fun a h=> .inl h) S.lh
 have ix: ∀(i:Nat),i<pars.length->eZ (lat.map gV).length ((i:Nat):Int)=some i:=by
  intro i hi
  rw[zab,ll]
  unfold eZ
  rw[if_pos (by lia),if_pos (by lia)];rfl
 refine bA<|aX<|bf<|bW h1 S.r1 pW<|ae h7<|cx S.r2 (cq (by rw[zam,C7];rfl))<|ae h6<|B4 ⟨_,rfl, ?_⟩
 by_cases z:pars[b]=some a
 ·refine iT ?_ (zqT z)
  refine q9<|ae h7<|bW h1 S.r1 pX<|ae h6 ⟨la,_,_,a,rfl,rfl,S.r3,ix a ha, ?_⟩
  have e:(lat.map gV).set a (V.int (b:Nat))=(lat.set a<|some b).map gV:=by rw[zbK];rfl
  rw[e]
  refine k _ aF.upd ?_
  have ek:di pars (a,b)=(a,b):=by unfold di;rw[if_pos (by rw[C7,z])]
  rw[ek]
  exact put a b ha
 ·refine iF ?_ (zqF z)
  refine q9<|ae h6<|bW h1 S.r1 pX<|ae h7 ⟨la,_,_,b,rfl,rfl,S.r3,ix b hb, ?_⟩
  have e:(lat.map gV).set b (V.int (a:Nat))=(lat.set b<|some a).map gV:=by rw[zbK];rfl
  rw[e]
  refine k _ aF.upd ?_
  have ek:di pars (a,b)=(b,a):=by
   unfold di
   rw[if_neg]
   rw[C7]
   exact fun q=>z<|zal q
  rw[ek]
  exact put b a hb
def pY(C:Addr):Sp:=fun vs H Q E=> ∃(hp ar ab la tx hd:Addr) (M Ed:List Addr) (here:Nat) (pars:List (Option Nat)) (txts:List Str) (lat las:List (Option Nat)) (held:List V) (n d:Nat),vs=[.ref hp, .ref ar, .int (d:Nat)]/\bx C H hp ar ab la tx hd M Ed here here pars txts lat las held n/\dB pars here lat las/\d<pars.length/\n<=100/\held.length+3<=10*n/\
 ∀(dD dE:List (Option Nat)) (cc:List V) (H':Hp),bx C H' hp ar ab la tx hd M Ed d d pars txts dD dE cc n->dB pars d dD dE->cc.length=held.length+3->aZ (M++ [ar,ab,la,tx,hd]) H H'->Q (.bl true) H'
theorem abb(vs:List V)(H:Hp)(Q:VK)(E:XK)(h:pY C vs H Q E):ax (aS K Mi [] [] [("go",C,rB C)] (E:=E)) L6 (Dn Q) (start L5 vs) H:=by
 obtain⟨hp,ar,ab,la,tx,hd,M,Ed,here,pars,txts,lat,las,held,n,d,rfl,S,R,eE,hn,hl,q⟩:=h
 obtain⟨T,hh,_,_⟩:=cC.fD S.hi
 obtain⟨_,_,_,_,_,_,hc,⟨r1,e1⟩,⟨q1,f1⟩,lV,_⟩:=um T hh eE
 have er:=ZU T hh eE
 obtain⟨_,_,_,_,_,_,cE,⟨r2,e2⟩,_,qT,_⟩:=um T eE hh
 refine ba<|bW rfl S.r1 nV ?_
 refine Jj (body:=Me)<|cP<|ay<|ae rfl<|ay<|ae rfl<|ay<|ae rfl<|aL ⟨(by show 3<=sizeLine;decide),fun L fL=> ⟨L,rfl,⟨_,aq.of au⟩, ?_⟩⟩
 have s1:=sameNew (o:= .lst [V.int (d:Nat),V.int (here:Nat),V.int (d:Nat)]) fL
 have hL:upd H L (.lst [V.int (d:Nat),V.int (here:Nat),V.int (d:Nat)]) L=some (.lst [V.int (d:Nat),V.int (here:Nat),V.int (d:Nat)]):=au
 have S1:=S.same s1
 have nL:L∉M++ [ar,ab,la,tx,hd]:=S.live.no fL
 generalize upd H L (.lst [V.int (d:Nat),V.int (here:Nat),V.int (d:Nat)])=H1 at s1 hL S1⊢
 let Mj:Nat->Nat:=fun i=>match i with
  | 0=>here
  | 1=>d
  | 2=>here
  | _=>d
 let la3:Nat->List (Option Nat):=fun i=>match i with
  | 0=>las
  | 1=>gz pars (here::r1) las
  | 2=>gz pars (d::r2) (gz pars (here::r1) las)
  | _=>gz pars (here::r1) (gz pars (d::r2)<|gz pars (here::r1) las)
 refine mD (K:=K) (a:=L) (xs:=[V.int (d:Nat),V.int (here:Nat),V.int (d:Nat)]) (fun i σ H2=> ∃(cc:List V) (u4 u5:Option V),σ=[some<|.ref hp,some<|.ref ar,some<|.int (d:Nat),some<|.int (here:Nat),u4,u5,none,none]/\bx C H2 hp ar ab la tx hd M Ed (Mj i) (Mj i) pars txts lat (la3 i) cc n/\cc.length=held.length+i/\aZ (M++ [ar,ab,la,tx,hd]) H1 H2) ⟨held,none,none,rfl,S1,rfl,fun _ _ e _=>e⟩ ?_ ?_ ?_
 ·rintro i σ H2 _ ⟨cc,u4,u5,rfl,S2,lh,b2⟩
  exact aq.of<|b2 _ _ hL nL
 ·rintro i x σ H2 hi ⟨cc,u4,u5,rfl,S2,lh,b2⟩
  have hi3:i<3:=(zak.mp hi).1
  match i,hi3 with
  | 0,_=>
   cases hi
   exact C6 S2 eE e1 hn (by lia) fun v c H3 b3 S3=> ⟨_,_,_,rfl,S3,by rw[zqA,lh];rfl,b2.trans b3⟩
  | 1,_=>
   cases hi
   exact C6 S2 hh e2 hn (by lia) fun v c H3 b3 S3=> ⟨_,_,_,rfl,S3,by rw[zqA,lh];rfl,b2.trans b3⟩
  | 2,_=>
   cases hi
   exact C6 S2 eE e1 hn (by lia) fun v c H3 b3 S3=> ⟨_,_,_,rfl,S3,by rw[zqA,lh];rfl,b2.trans b3⟩
 ·rintro σ H2 ⟨cc,u4,u5,rfl,S2,lh,b2⟩
  have S2:bx C H2 hp ar ab la tx hd M Ed d d pars txts lat (gz pars (here::r1)<|gz pars (d::r2)<|gz pars (here::r1) las) cc n:=S2
  have sz:=S.sz
  refine aa9<|ay<|c7 xT rfl<|ay<|bW rfl S2.r1 pW<|ay<|ae rfl<|ay<|ae rfl<|aL ⟨ab,pars,here,d,rfl,S2.r2,T,hh,eE,by lia,fun w1 H3 s3 f3 h3=> ?_⟩
  have S3:=S2.same s3
  refine ay<|JB<|c7 xT rfl<|ay<|bW rfl S3.r1 pW<|ay<|ae rfl<|ay<|ae rfl<|aL ⟨ab,pars,here,d,rfl,S3.r2,T,hh,eE,by lia,fun w2 H4 s4 f4 h4=>aw ⟨_,rfl, .inl ⟨_,aq.of h4,fun w3 f5=>aL ?_⟩⟩⟩
  have e5:du (iV<|d_ pars here d) (some (1:Int)) none=iV r1:=by
   rw[show((1:Int))=((1:Nat):Int) from rfl,BP,e1];rfl
  rw[e5]
  have s5:=sameNew (o:= .lst (iV r1)) f5
  have yc:=(s4.trans s5) _ _ h3
  have h5:upd H4 w3 (.lst<|iV r1) w3=some (.lst<|iV r1):=au
  have S5:=S3.same (s4.trans s5)
  have n3:w1∉M++ [ar,ab,la,tx,hd]:=S2.live.no f3
  have n5:w3∉M++ [ar,ab,la,tx,hd]:=(S3.same s4).live.no f5
  have uh:=s3.trans (s4.trans s5)
  generalize upd H4 w3 (.lst<|iV r1)=H5 at s5 yc h5 S5 uh⊢
  rw[e1] at yc
  have rE:la∈M++ [ar,ab,la,tx,hd]:=by simp
  refine⟨w1,w3,rfl,⟨_,aq.of yc⟩,⟨_,aq.of h5⟩,aa_ (K:=K) (a:=w1) (b:=w3) (xs:=iV (here::r1)) (ys:=iV r1) (by rw[zab,zab,zao];lia)
   (fun i σ H6=> ∃u6 u7,σ=[some (.ref hp),some (.ref ar),some (.int (d:Nat)),some (.int (here:Nat)),u4,u5,u6,u7]/\bx C H6 hp ar ab la tx hd M Ed d d pars txts ((((here::r1).zip r1).take i).foldl (fun la p=>fo la (di pars p)) lat) (gz pars (here::r1) (gz pars (d::r2) (gz pars (here::r1) las))) cc n/\aZ (M++ [ar,ab,la,tx,hd]) H5 H6) ⟨none,none,rfl,S5,fun _ _ e _=>e⟩ ?_ ?_ ?_⟩
  ·rintro i σ H6 ⟨u6,u7,rfl,S6,b6⟩
   exact⟨aq.of<|b6 _ _ yc n3,aq.of<|b6 _ _ h5 n5⟩
  ·rintro i x y σ H6 t hx hy ⟨u6,u7,rfl,S6,b6⟩ ft
   rw[zam] at hx hy
   obtain⟨a,ha,rfl⟩:=zbi.mp hx
   obtain⟨b,hb,rfl⟩:=zbi.mp hy
   have s7:=sameNew (o:= .tup [V.int (a:Nat),V.int (b:Nat)]) ft
   refine⟨t,_,rfl, .inl<|aG.of au,rfl,_,_,rfl,_,_,rfl,rfl, ?_⟩
   have jK:a<pars.length:=lV a (by rw[e1];exact zae ha)
   have sT:b<pars.length:=lV b (by rw[e1];exact zaj _ (zae hb))
   have hz:((here::r1).zip r1)[i]?=some (a,b):=zbJ.mpr ⟨ha,hb⟩
   refine aba (S6.same s7) (by rw[xZ];exact R.ll) jK sT rfl rfl rfl fun H8 b8 S8=> ⟨_,_,rfl, ?_,fun x o e ne=>b8 x o (s7 _ _<|b6 x o e ne) fun z=>ne (by rw[z];exact rE)⟩
   rw[BM hz,List.foldl_append]
   exact S8
  ·rintro σ H6 ⟨u6,u7,rfl,S6,b6⟩
   have lz:((here::r1).zip r1).length=r1.length:=by rw[List.length_zip,zao];lia
   rw[zab,zaG (by lia)] at S6
   have ef:((here::r1).zip r1).foldl (fun la p=>fo la<|di pars p) lat=pV pars (here::r1) lat:=rfl
   rw[ef] at S6
   rw[e1] at hc lV
   rw[e2] at cE qT
   have yd:d::r2=(here::r1).reverse:=by rw[<-e2,er,e1]
   obtain⟨d1,g1,R1⟩:=dB.path T r1 here lat las R hh (fun k h=>lV k<|zaj _ h) hc
   have ed1:d1=d:=by
    have e:(here::r1)[r1.length]?=some d:=by
     rw[e1] at f1
     rw[f1]
     have:q1.length=r1.length:=by
      have:=congrArg List.length f1
      simp only[zao,zqA,zbh] at this
      lia
     rw[<-this];simp
    rw[e] at g1;exact(zal g1).symm
   subst ed1
   obtain⟨d2,g2,R2⟩:=dB.path T r2 d1 _ _ R1 eE (fun k h=>qT k<|zaj _ h) cE
   have ed2:d2=here:=by
    have lr:r2.length=r1.length:=by
     have:=congrArg List.length yd
     simp only[zao,zaF] at this
     lia
    rw[yd,lr,zbW (by rw[zao];lia)] at g2
    rw[zao,show r1.length+1 - 1 - r1.length=0 by lia] at g2
    exact(zal g2).symm
   subst ed2
   obtain⟨d3,g3,R3⟩:=dB.path T r1 d2 _ _ R2 hh (fun k h=>lV k<|zaj _ h) hc
   rw[g1] at g3;cases g3
   rw[yd,ZS T hc,<-yd] at R3
   exact ck<|aw<|q _ _ cc H6 S6 R3 lh<|((aZ.of s1).trans b2).trans<|(aZ.of uh).trans b6
end
end L2.mw
namespace L2.N
open PySem PySem.Spec L2.B
section
variable {pars:List (Option Nat)}
theorem abg(T:dh pars){h:Nat}(hh:h<pars.length): ∀k,k<pars.length->ups (pars++ [some h]) k k=ups pars k k:=by
 intro k
 induction k using Nat.strongRecOn with
 | ind k ih=>
  intro hk
  by_cases z:k=0
  ·subst z;rfl
  ·obtain⟨j,hj,aK,e⟩:=jJ T (by lia) hk
   have T':=Cb T hh
   obtain⟨j',bG,_,e'⟩:=jJ T' (n:=k) (by lia) (by rw[zqA];lia)
   rw[zaz hk,hj] at bG
   cases bG
   rw[e,e',ih j aK (by lia)]
theorem dB.new(T:dh pars){here:Nat}{lat las:List (Option Nat)}(R:dB pars here lat las)(hh:here<pars.length):dB (pars++ [some here]) pars.length ((lat++ [none]).set here<|some pars.length) (las++ [none]):=by
 have T':=Cb T hh
 have hp:(pars++ [some here])[pars.length]?=some (some here):=by simp
 obtain⟨e,_⟩:=xX T' hp
 rw[abg T hh here hh] at e
 have ll:=R.ll
 have ls:=R.ls
 refine⟨by rw[zaP,zqA,zqA,ll];rfl,by rw[zqA,zqA,ls];rfl,fun a b ha dw=> ?_,fun i hi=> ?_,fun i k hk=> ?_⟩
 ·rw[e] at ha
  rcases zaa.mp ha with rfl | ha
  ·rw[hp] at dw;cases dw
   rw[zba];simp[ll];lia
  ·have jK:a<pars.length:=(nR T here hh).2.1 a ha
   rw[zaz jK] at dw
   have hb:=jj T dw
   have hle:=uA T here hh a ha
   rw[zaH (by lia),zaz (by lia)]
   exact R.up a b ha dw
 ·rw[e] at hi
  have hi:i∉ups pars here here:=hi
  obtain⟨r,er,_⟩:=xY T hh
  have ne:here≠i:=fun z=>hi (by rw[er,z];exact zas)
  rw[zaH ne]
  by_cases hl:i<pars.length
  ·rw[zaz (by lia),zaz (by lia)]
   exact R.no i fun z=>hi (zci z)
  ·rw[zbc (by lia),zbc (by lia),ll,ls]
 ·by_cases hl:i<pars.length
  ·rw[zaz (by lia)] at hk
   have:=R.ok i k hk
   rw[zaz (zak.mp this).1];exact this
  ·rw[zbc (by lia)] at hk
   cases hz:i - las.length with
   | zero=>rw[hz] at hk;cases hk
   | succ z=>rw[hz] at hk;simp at hk
end
end L2.N
namespace L2.mw
open PySem PySem.Spec L2.B L2.N
section
variable {K:Frag} {C CN:Addr}
def C8(C:Addr):Sp:=fun vs H Q E=> ∃(hp ar ab la tx hd:Addr) (M Ed:List Addr) (here:Nat) (pars:List (Option Nat)) (txts:List Str) (lat las:List (Option Nat)) (held:List V) (n:Nat) (c:Int),vs=[.ref hp, .ref ar, .int c]/\bx C H hp ar ab la tx hd M Ed here here pars txts lat las held n/\dB pars here lat las/\n<=100/\
 ∀(M' gA:List Addr) (fB:Nat) (gU:List (Option Nat)) (jq:List Str) (dD dE:List (Option Nat)) (H':Hp),bx C H' hp ar ab la tx hd M' gA fB fB gU jq dD dE held (n+1)->dB gU fB dD dE->aZ (M++ [ar,ab,la,tx,hd]) H H'->(∀y∈M',y∈M\/H y=none)->Q (.bl true) H'
theorem C9{Γ:aQ}{σ:St}{H:Hp}{Q:VK}{m:hJ}{o:RE}(h:af Γ o σ H fun x H1=>qm Γ.K (sG m) x H1/\vA Γ.K m x [] H1 Q):af Γ (.bg m o []) σ H Q:=h
theorem abh(vs:List V)(H:Hp)(Q:VK)(E:XK)(h:C8 C vs H Q E):ax (aS K [("_law_change_by",CQ),("_law_done",qR)] [] [] [("do",C,Cc C)] (E:=E)) L9 (Dn Q) (start L8 vs) H:=by
 obtain⟨hp,ar,ab,la,tx,hd,M,Ed,here,pars,txts,lat,las,held,n,c,rfl,S,R,hn,q⟩:=h
 obtain⟨T,hh,_,_⟩:=cC.fD S.hi
 have gb:=S.gb
 have sz:=S.sz
 obtain⟨n1,n2,n3,n4,n5,n6,n7,n8,n9,kA⟩:=S.ne
 obtain⟨x,hx⟩: ∃x,txts[here]?=some x:=⟨_,zau (by lia)⟩
 have gx:=S.gd x (zae hx)
 have big: ∀{k:Nat},k<=1000->k<sizeLine:=fun h=>dY (by lia)
 refine ba<|bW rfl S.r1 nV ?_
 refine ba<|c7 CQ rfl<|ay<|ae rfl<|ay<|bf<|bW rfl S.r1 jo<|ae rfl<|cx S.r4 (cq (fA hx).1)<|aL ⟨c,x,rfl,gx.1,by lia,fun d H1 ps r s1 fd hc ht gr lr=> ?_⟩
 have S1:=S.same s1
 have nd:d∉M++ [ar,ab,la,tx,hd]:=S.live.no fd
 have ndE:d∉Ed:=(S.hi.own fd).2
 obtain⟨dxs,Ja,hdp,hdg⟩:=id hc
 refine dH<|fP<|bW rfl S1.r1 jo ⟨.inl ⟨rfl,_,aq.of S1.r4⟩,c7 qR rfl<|ay<|bf<|bW rfl S1.r1 jo<|ae rfl<|cx S1.r4 (cq (fA hx).1)<|ay<|ae rfl<|aL<|Je gx.1 hc (by have:=gr.1;rw[jf] at this;lia) ⟨_,S1.r4,big (by rw[zab];lia), ?_⟩⟩
 have e2:txts.map V.str++ [V.str ⟨r.toArray⟩]=(txts++ [(⟨r.toArray⟩:Str)]).map V.str:=by rw[zap];rfl
 rw[e2]
 have Ml:aZ [ar,ab,la,tx,hd] H1 (upd H1 tx<|.lst<|(txts++ [(⟨r.toArray⟩:Str)]).map V.str):=aZ.upd (by simp)
 have t2:upd H1 tx (.lst<|(txts++ [(⟨r.toArray⟩:Str)]).map V.str) tx=some (.lst<|(txts++ [(⟨r.toArray⟩:Str)]).map V.str):=au
 have a2:=aU (o':= .lst ((txts++ [(⟨r.toArray⟩:Str)]).map V.str)) n3 S1.r1
 have b2:=aU (o':= .lst ((txts++ [(⟨r.toArray⟩:Str)]).map V.str)) n6 S1.r2
 have c2:=aU (o':= .lst ((txts++ [(⟨r.toArray⟩:Str)]).map V.str)) n8 S1.r3
 have d2:=aU (o':= .lst ((txts++ [(⟨r.toArray⟩:Str)]).map V.str)) (Ne.symm kA) S1.r5
 generalize upd H1 tx (.lst<|(txts++ [(⟨r.toArray⟩:Str)]).map V.str)=H2 at Ml t2 a2 b2 c2 d2⊢
 refine dH<|fP<|bW rfl a2 pW ⟨.inl ⟨rfl,_,aq.of b2⟩,ae rfl ⟨_,b2,big (by rw[zab];lia), ?_⟩⟩
 have e3:pars.map gV++ [V.int (here:Nat)]=(pars++ [some here]).map gV:=by rw[zap];rfl
 rw[e3]
 have Mm:aZ [ar,ab,la,tx,hd] H2 (upd H2 ab<|.lst<|(pars++ [some here]).map gV):=aZ.upd (by simp)
 have b3:upd H2 ab (.lst<|(pars++ [some here]).map gV) ab=some (.lst<|(pars++ [some here]).map gV):=au
 have a3:=aU (o':= .lst ((pars++ [some here]).map gV)) n1 a2
 have t3:=aU (o':= .lst ((pars++ [some here]).map gV)) (Ne.symm n6) t2
 have c3:=aU (o':= .lst ((pars++ [some here]).map gV)) (Ne.symm n5) c2
 have d3:=aU (o':= .lst ((pars++ [some here]).map gV)) (Ne.symm n7) d2
 generalize upd H2 ab (.lst<|(pars++ [some here]).map gV)=H3 at Mm b3 a3 t3 c3 d3⊢
 refine dH<|fP<|bW rfl a3 pX ⟨.inl ⟨rfl,_,aq.of c3⟩,aw ⟨_,c3,big (by rw[zab,R.ll];lia), ?_⟩⟩
 have e4:lat.map gV++ [V.aC]=(lat++ [none]).map gV:=by rw[zap];rfl
 rw[e4]
 have Mn:aZ [ar,ab,la,tx,hd] H3 (upd H3 la<|.lst<|(lat++ [none]).map gV):=aZ.upd (by simp)
 have c4:upd H3 la (.lst<|(lat++ [none]).map gV) la=some (.lst<|(lat++ [none]).map gV):=au
 have a4:=aU (o':= .lst ((lat++ [none]).map gV)) n2 a3
 have b4:=aU (o':= .lst ((lat++ [none]).map gV)) n5 b3
 have t4:=aU (o':= .lst ((lat++ [none]).map gV)) (Ne.symm n8) t3
 have d4:=aU (o':= .lst ((lat++ [none]).map gV)) (Ne.symm n9) d3
 generalize upd H3 la (.lst<|(lat++ [none]).map gV)=H4 at Mn c4 a4 b4 t4 d4⊢
 refine x4<|aV<|dR<|bW rfl a4 pW<|.inl ⟨_,aq.of b4,aw ⟨trivial,x5 rfl a4 x9 ?_⟩⟩
 have e5:(((pars++ [some here]).map gV).length:Int) - 1=((pars.length:Nat):Int):=by rw[zab,zqA];show((pars.length+1:Nat):Int) - 1=_;lia
 show ax _ _ _ _ (upd H4 ar<|.dK<|putK (bV ab la tx hd here) (.inr "here")<|V.int<|(((pars++ [some here]).map gV).length:Int) - 1)
 rw[e5,x3]
 have Mo:aZ [ar,ab,la,tx,hd] H4 (upd H4 ar<|.dK<|bV ab la tx hd pars.length):=aZ.upd (by simp)
 have a5:upd H4 ar (.dK<|bV ab la tx hd pars.length) ar=some (.dK<|bV ab la tx hd pars.length):=au
 have b5:=aU (o':= .dK (bV ab la tx hd pars.length)) (Ne.symm n1) b4
 have c5:=aU (o':= .dK (bV ab la tx hd pars.length)) (Ne.symm n2) c4
 have t5:=aU (o':= .dK (bV ab la tx hd pars.length)) (Ne.symm n3) t4
 have d5:=aU (o':= .dK (bV ab la tx hd pars.length)) (Ne.symm n4) d4
 generalize upd H4 ar (.dK<|bV ab la tx hd pars.length)=H5 at Mo a5 b5 c5 t5 d5⊢
 have ll:=R.ll
 refine q9<|bW rfl a5 nV<|bW rfl a5 pX<|ae rfl ⟨la,_,_,here,rfl,rfl,c5, ?_, ?_⟩
 ·rw[zab,zqA,ll]
  unfold eZ
  rw[if_pos (by lia),if_pos (by show((here:Nat):Int) < ((pars.length+1:Nat):Int);lia)];rfl
 have e6:((lat++ [none]).map gV).set here (V.int (pars.length:Nat))=((lat++ [none]).set here<|some pars.length).map gV:=by rw[zbK];rfl
 rw[e6]
 have Mp:aZ [ar,ab,la,tx,hd] H5 (upd H5 la<|.lst<|((lat++ [none]).set here<|some pars.length).map gV):=aZ.upd (by simp)
 have c6:upd H5 la (.lst<|((lat++ [none]).set here<|some pars.length).map gV) la=some (.lst<|((lat++ [none]).set here<|some pars.length).map gV):=au
 have a6:=aU (o':= .lst (((lat++ [none]).set here<|some pars.length).map gV)) n2 a5
 have b6:=aU (o':= .lst (((lat++ [none]).set here<|some pars.length).map gV)) n5 b5
 have t6:=aU (o':= .lst (((lat++ [none]).set here<|some pars.length).map gV)) (Ne.symm n8) t5
 have d6:=aU (o':= .lst (((lat++ [none]).set here<|some pars.length).map gV)) (Ne.symm n9) d5
 generalize upd H5 la (.lst<|((lat++ [none]).set here<|some pars.length).map gV)=H6 at Mp c6 a6 b6 t6 d6⊢
 have bR:=((((Ml.trans Mm).trans Mn).trans Mo).trans Mp)
 have lvR:ia [ar,ab,la,tx,hd] H1:=fun x h=>S1.live x (zaq _ h)
 have C_:=lvR.bz bR
 have Mq:cC C H6 hp M Ed here pars (txts.map fun x=>x.cps.toList) las 28:=S1.hi.keep (fun a o h e=>bR a o e fun q=>by
  have:=S.dj a q
  rcases h with h | h
  ·exact this.1 h
  ·exact this.2 h) C_
 have Mr:d∉ [ar,ab,la,tx,hd]:=fun h=>nd (zaq _ h)
 have Dc:d∉M:=fun h=>nd (zav _ h)
 have ui:cQ H6 d ps x.cps.toList r:=hc.keep (fun o e=>bR d o e Mr) C_
 obtain⟨dx,lo,pa,nU,be,lg,bs,es,A⟩:=id Mq
 refine dH<|h9 C (Cc C) rfl<|ae rfl ⟨hp,dx,_,rfl,A.ob.ob,gQ (by decide+kernel) (by decide+kernel) (by decide+kernel) (by decide+kernel) (by decide+kernel) (by decide+kernel),ae rfl ⟨hp,M,Ed,here,pars,_,las,28,d,ps,_,r,rfl,Mq,ui,Dc,(fA hx).2,ht,by decide,by lia,fun b a H7 k7 fb fa A7=> ?_⟩⟩
 obtain⟨zs,Dd,_⟩:=id ui
 have De:=k7 _ _ Dd Dc
 refine dH<|C9<|ae rfl ⟨.inl ⟨rfl,_,aq.of De⟩,zs,De, ?_⟩
 have b8:aF d H7 (upd H7 d<|.lst []):=aF.upd
 have Ms:=b8.bz De
 have ndb:d≠b:=fun z=>by rw[<-z,Dd] at fb;cases fb
 have nda:d≠a:=fun z=>by rw[<-z,Dd] at fa;cases fa
 have A8:=A7.keep (H':=upd H7 d (.lst [])) (fun y o h e=>b8 y o e fun z=>by
  rw[z] at h
  rcases h with h | h
  ·rcases zad.mp h with h | h
   ·exact Dc h
   ·exact ndb (zac.mp h)
  ·rcases zad.mp h with h | h
   ·exact ndE h
   ·exact nda (zac.mp h)) Ms
 have kk: ∀(y:Addr) (o:HO),H6 y=some o->y∉M->y≠d->upd H7 d (.lst []) y=some o:=fun y o e h1 h2=>b8 y o (k7 y o e h1) h2
 have kR: ∀{y:Addr} {o:HO},y∈ [ar,ab,la,tx,hd]->H6 y=some o->upd H7 d (.lst []) y=some o:=fun h e=>kk _ _ e (S.dj _ h).1 fun z=>Mr (by rw[<-z];exact h)
 have etx:(txts.map fun x=>x.cps.toList)++ [r]=(txts++ [(⟨r.toArray⟩:Str)]).map fun x=>x.cps.toList:=by rw[zap];rfl
 rw[etx] at A8
 have fH: ∀{y:Addr},H6 y=none->y∉ [ar,ab,la,tx,hd]->H y=none:=fun f h=>by
  cases hz:H _ with
  | none=>rfl
  | some o=>rw[bR _ o (s1 _ _ hz) h] at f;cases f
 have Mt: ∀y∈ [ar,ab,la,tx,hd],H6 y≠none:=fun y h z=>by
  simp only[zaa,zat,or_false] at h
  rcases h with rfl | rfl | rfl | rfl | rfl
  ·rw[a6] at z;cases z
  ·rw[b6] at z;cases z
  ·rw[c6] at z;cases z
  ·rw[t6] at z;cases z
  ·rw[d6] at z;cases z
 have Df:b∉ [ar,ab,la,tx,hd]:=fun h=>Mt b h fb
 have naR:a∉ [ar,ab,la,tx,hd]:=fun h=>Mt a h fa
 refine ck<|aw<|q (M++ [b]) (Ed++ [a]) pars.length (pars++ [some here]) (txts++ [(⟨r.toArray⟩:Str)]) _ (las++ [none]) _ ⟨A8,kR (by simp) a6,kR (by simp) b6,kR (by simp) c6,kR (by simp) t6,kR (by simp) d6,S.nd,fun y h=> ⟨fun z=> ?_,fun z=> ?_⟩,fun v hv=> ?_,by have:=S.lh;lia,fun y hy=> ?_,by rw[zqA];show pars.length+1<=_;lia⟩ (R.new T hh) (fun y o e h=> ?_) fun y h=> ?_
 ·rcases zad.mp z with z | z
  ·exact(S.dj y h).1 z
  ·exact Df (by rw[<-zac.mp z];exact h)
 ·rcases zad.mp z with z | z
  ·exact(S.dj y h).2 z
  ·exact naR (by rw[<-zac.mp z];exact h)
 ·refine((S.he v hv).mono (H':=upd H7 d (.lst [])) (N':=M++ [b]++ [ar,ab,la,tx,hd]) (fun y o e h=> ?_) ?_ fun y h=> ?_)
  ·exact kk y o (bR y o (s1 _ _ e) fun q=>h (zaq _ q)) (fun q=>h<|zav _ q) fun z=>by rw[z,fd] at e;cases e
  ·exact fun y ys e=>Ms _ _ ((A.live.bz k7) _ _<|C_ _ _<|s1 _ _ e)
  ·rcases zad.mp h with h | h
   ·rcases zad.mp h with h | h
    ·exact .inl (zav _ h)
    ·rw[zac.mp h];exact .inr (fH fb Df)
   ·exact .inl (zaq _ h)
 ·rcases zad.mp hy with hy | hy
  ·have:=S.gd y hy
   exact⟨this.1,by lia⟩
  ·rw[zac.mp hy]
   exact⟨gr,by rw[jf];lia⟩
 ·refine kk y o (bR y o (s1 _ _ e) fun q=>h (zaq _ q)) (fun q=>h<|zav _ q) fun z=> ?_
  rw[z,fd] at e;cases e
 ·rcases zad.mp h with h | h
  ·exact .inl h
  ·rw[zac.mp h];exact .inr (fH fb Df)
end
section
variable {C:Addr} {H H':Hp} {hp ar ab la tx hd:Addr} {M Ed:List Addr} {hr here:Nat} {pars:List (Option Nat)} {txts:List Str} {lat las:List (Option Nat)} {held:List V} {n:Nat}
theorem bx.up(S:bx C H hp ar ab la tx hd M Ed hr here pars txts lat las held n){m:Nat}(h:n<=m):bx C H hp ar ab la tx hd M Ed hr here pars txts lat las held m:=
 ⟨S.hi,S.r1,S.r2,S.r3,S.r4,S.r5,S.nd,S.dj,S.he,zaw S.lh<|Nat.mul_le_mul_left _ h,fun x hx=> ⟨(S.gd x hx).1,by have:=(S.gd x hx).2;lia⟩,by have:=S.sz;lia⟩
theorem bx.clear(S:bx C H hp ar ab la tx hd M Ed hr here pars txts lat las held n){c:Addr}{zs:List V}(hc:H c=some (.lst zs))(nc:c∉M++ [ar,ab,la,tx,hd])(nE:c∉Ed)(hh: ∀v∈held,kz (c::(M++ [ar,ab,la,tx,hd])) H v):bx C (upd H c<|.lst []) hp ar ab la tx hd M Ed hr here pars txts lat las held n:=by
 have bb:aF c H (upd H c<|.lst []):=aF.upd
 have tu:=bb.bz hc
 have k: ∀{a:Addr} {o:HO},a∈ [ar,ab,la,tx,hd]->H a=some o->upd H c (.lst []) a=some o:=fun h e=>bb _ _ e fun z=>nc (by rw[<-z];exact zaq _ h)
 refine⟨S.hi.keep (fun a o h e=>bb a o e fun q=> ?_) tu,k (by simp) S.r1,k (by simp) S.r2,k (by simp) S.r3,k (by simp) S.r4,k (by simp) S.r5,S.nd,S.dj,fun v hv=> (hh v hv).mono (fun x o e ne=>bb x o e fun z=>ne (by rw[z];exact zas)) tu fun a h=> .inl (zaj _ h),S.lh,S.gd,S.sz⟩
 rw[q] at h
 rcases h with h | h
 ·exact nc (zav _ h)
 ·exact nE h
end
section
variable {K:Frag} {C CN:Addr}
abbrev ye(C:Addr):List (Str×Sp):=[("_law_new",C8 C),("_law_walked",pY C),("_law_leads",ux)]
abbrev yf(C CN:Addr):List (Str×Addr×Sp):=[("undo",C,CH C CN),("redo",C,CI C CN)]
def abo:List RS:=[.asg 6 (.call 2 [(.v 5),(.ix (.bh (.v 1) (.c (.str "texts"))) (.v 4)),(.ix (.bh (.v 1) (.c (.str "texts"))) (.bh (.v 1) (.c (.str "here"))))]),
 .drop (.bg .append (.bh (.v 1)<|.c<|.str "held") [(.tup [(.v 5),(.blt .list [(.v 5)])])]),
 .ite (.cmp .Eq (.bin .Mod (.bin .FloorDiv (.v 2) (.c (.int 8))) (.c (.int 2))) (.c (.int 1))) [.drop (.bg .pop (.bh (.v 1) (.c (.str "held"))) []),
  .drop (.bg .clear (.v 5) [])] [],
 .ret (.v 6)]
theorem Mu{E:XK}{Q:VK}{H:Hp}{hp ar ab la tx hd c:Addr}{M Ed:List Addr}{here d:Nat}{pars:List (Option Nat)}{txts:List Str}{lat las:List (Option Nat)}{held:List V}{n:Nat}{ps:List Pt}{x y:Str}{cell:Int}{a3:V}
  (S:bx C H hp ar ab la tx hd M Ed d d pars txts lat las held n) (hx:txts[here]?=some x) (hy:txts[d]?=some y) (hc:cQ H c ps x.cps.toList y.cps.toList) (ht:B.aA ps<=28) (nc:c∉M++ [ar,ab,la,tx,hd]) (nE:c∉Ed) (hh: ∀v∈held,kz (c::(M++ [ar,ab,la,tx,hd])) H v) (hl:held.length+1<=10*n) (hn:n<=100)
  (k: ∀(cc:List V) (H':Hp),bx C H' hp ar ab la tx hd M Ed d d pars txts lat las cc n->aZ (c::(M++ [ar,ab,la,tx,hd])) H H'->Q (.bl true) H'):
  ax (aS K (ye C) [] [] (yf C CN) (E:=E)) abo (Dn Q) [some<|.ref hp,some<|.ref ar,some<|.int cell,some a3,some<|.int (here:Nat),some<|.ref c,none] H:=by
 have gx:=S.gd x (zae hx)
 have gy:=S.gd y (zae hy)
 have lp:=Mf hc.chg
 obtain⟨n1,n2,n3,n4,n5,n6,n7,n8,n9,kA⟩:=S.ne
 refine ba<|c7 ux rfl<|ay<|ae rfl<|ay<|bf<|bW rfl S.r1 jo<|ae rfl<|cx S.r4 (cq (fA hx).1)<|ay<|bf<|bW rfl S.r1 jo<|bW rfl S.r1 nV<|cx S.r4 (cq (fA hy).1)<|aL ⟨c,ps,x,y,rfl,gx.1,hc,by lia,by lia,fun H2 s2=> ?_⟩
 have S2:=S.same s2
 have hh2: ∀v∈held,kz (c::(M++ [ar,ab,la,tx,hd])) H2 v:=fun v hv=> (hh v hv).mono (fun b o e _=>s2 _ _ e) (dr s2) fun a h=> .inl h
 refine Mg S2 rfl rfl (hc.same s2) nc hl hn fun v H3 b3 S3 iC=> ?_
 have mx:hd∈M++ [ar,ab,la,tx,hd]:=by simp
 have f2:aZ (c::(M++ [ar,ab,la,tx,hd])) H H3:=fun z o e ne=>b3 z o (s2 _ _ e) fun q=>ne (by rw[q];exact zaj _ mx)
 have c2:(0:Int) <2:=by decide
 have c8:(0:Int) <8:=by decide
 refine bA<|aX<|aV<|aV<|ae rfl<|aw ⟨⟨by decide,by decide⟩,aw ⟨c2,aw<|l_ ⟨_,rfl, ?_⟩⟩⟩
 by_cases z:cell / 8 % 2=1
 ·refine iT ?_ (zqT z)
  have lst:(held++ [v])[(held++ [v]).length - 1]?=some v:=by simp
  refine dH<|C9<|bW rfl S3.r1 C4 ⟨.inl ⟨rfl,_,aq.of S3.r5⟩,_,v,S3.r5,lst, ?_⟩
  rw[zcl]
  have b4:aF hd H3 (upd H3 hd<|.lst held):=aF.upd
  have Mv:=b4.bz S3.r5
  have Dg: ∀w∈held,kz (c::(M++ [ar,ab,la,tx,hd])) (upd H3 hd<|.lst held) w:=fun w hw=> (hh2 w hw).mono (fun y o e ne=>b4 y o (b3 y o e fun q=>ne (by rw[q];exact zaj _ mx)) fun q=>ne (by rw[q];exact zaj _ mx)) (fun y ys e=>Mv _ _<|(b3.bz S2.r5) _ _ e) fun a h=> .inl h
  have S4:bx C (upd H3 hd<|.lst held) hp ar ab la tx hd M Ed d d pars txts lat las held n:=S3.x6 (aZ.upd (by simp)) (b4 _ _ S3.r1 n4) (b4 _ _ S3.r2 n7) (b4 _ _ S3.r3 n9) (b4 _ _ S3.r4 kA) au (fun w hw=> (Dg w hw).mono (fun _ _ e _=>e) (fun _ _ e=>e) fun a h=> .inl (zaj _ h)) S.lh
  obtain⟨zs,hz,_⟩:=iC
  have yg:=b4 _ _ hz fun q=>nc (by rw[q];exact mx)
  generalize upd H3 hd (.lst held)=H4 at b4 Mv Dg S4 yg⊢
  refine dH<|C9<|ae rfl ⟨.inl ⟨rfl,_,aq.of yg⟩,zs,yg, ?_⟩
  refine ck<|ae rfl<|k held _ (S4.clear yg nc nE Dg) fun y o e ne=> ?_
  rw[aN (show y≠c from fun q=>ne (by rw[q];exact zas))]
  exact b4 y o (f2 y o e ne) fun q=>ne (by rw[q];exact zaj _ mx)
 ·exact iF (cU<|ck<|ae rfl<|k _ _ S3 f2) (zqF z)
def Dh(C:Addr):Sp:=fun vs H Q E=> ∃(hp ar ab la tx hd:Addr) (M Ed:List Addr) (here:Nat) (pars:List (Option Nat)) (txts:List Str) (lat las:List (Option Nat)) (held:List V) (n:Nat) (c:Int),vs=[.ref hp, .ref ar, .int c]/\bx C H hp ar ab la tx hd M Ed here here pars txts lat las held n/\dB pars here lat las/\n<=90/\
 ∀(M' gA:List Addr) (fB:Nat) (gU:List (Option Nat)) (jq:List Str) (dD dE:List (Option Nat)) (cc:List V) (H':Hp),bx C H' hp ar ab la tx hd M' gA fB fB gU jq dD dE cc (n+1)->dB gU fB dD dE->aZ (M++ [ar,ab,la,tx,hd]) H H'->(∀y∈M',y∈M\/H y=none)->Q (.bl true) H'
theorem abq(vs:List V)(H:Hp)(Q:VK)(E:XK)(h:Dh C vs H Q E):ax (aS K (ye C) [] [] (yf C CN) (E:=E)) eo (Dn Q) (start jM vs) H:=by
 obtain⟨hp,ar,ab,la,tx,hd,M,Ed,here,pars,txts,lat,las,held,n,c,rfl,S,R,hn,q⟩:=h
 obtain⟨T,hh,_,_⟩:=cC.fD S.hi
 have gb:=S.gb
 have sz:=S.sz
 have ll:=R.ll
 have lh:=S.lh
 obtain⟨n1,n2,n3,n4,n5,n6,n7,n8,n9,kA⟩:=S.ne
 have c8:(0:Int) <8:=by decide
 obtain⟨x,hx⟩: ∃x,txts[here]?=some x:=⟨_,zau (by lia)⟩
 have gx:=S.gd x (zae hx)
 obtain⟨o,ho⟩: ∃o,lat[here]?=some o:=⟨_,zau (by lia)⟩
 have m8:0<=c % 8/\c % 8<8:=⟨zaJ _ (by decide),zaL _ (by decide)⟩
 refine ba<|aV<|ae rfl<|aw ⟨c8, ?_⟩
 refine ba<|bW rfl S.r1 nV ?_
 obtain⟨kd,ek⟩: ∃kd:Int,kd=c % 8:=⟨_,rfl⟩
 show ax _ _ _ [some<|V.ref hp,some<|V.ref ar,some<|V.int c,some<|V.int<|c % 8,some<|V.int (here:Nat),none,none] _
 rw[<-ek] at m8⊢
 have new:af (aS K (ye C) [] [] (yf C CN) (E:=E)) (.call 0 [(.v 0),(.v 1),(.bin .FloorDiv (.v 2)<|.c<|.int 8)]) [some<|V.ref hp,some<|V.ref ar,some<|V.int c,some<|V.int kd,some<|V.int (here:Nat),none,none] H Q:=by
  exact c7 (C8 C) rfl<|ay<|ae rfl<|ay<|ae rfl<|ay<|aV<|ae rfl<|aw ⟨⟨by decide,by decide⟩,aL ⟨hp,ar,ab,la,tx,hd,M,Ed,here,pars,txts,lat,las,held,n,_,rfl,S,R,by lia,fun M' gA fB gU jq dD dE H' S' R' b' m'=>q M' gA fB gU jq dD dE held H' S' R' b' m'⟩⟩
 refine bA<|tV<|aX<|ae rfl<|aw<|N.ltI ⟨_,rfl, ?_⟩
 by_cases k3:kd<3
 ·exact iT (iT (ck new) rfl) (zqT k3)
 refine iF ?_<|zqF k3
 have go:(kd<5->here≠0)->(kd=5->o≠none)->ax (aS K (ye C) [] [] (yf C CN) (E:=E)) (eo.drop 3) (Dn Q) [some<|V.ref hp,some<|V.ref ar,some<|V.int c,some<|V.int kd,some<|V.int (here:Nat),none,none] H:=by
  intro g5 g6
  refine bA<|aX<|ae rfl<|aw<|N.iI ⟨_,rfl, ?_⟩
  by_cases k6:5<kd
  ·refine iT ?_ (zqT k6)
   have lp:(0:Int) < ((pars.length:Nat):Int):=by lia
   obtain⟨d,ed⟩: ∃d:Nat,c / 8 % ((pars.length:Nat):Int)=(d:Nat):=⟨_,(zcm<|zaJ _ (by lia)).symm⟩
   have eE:d<pars.length:=by
    have:=zaL (c / 8) lp
    lia
   refine ck<|c7 (pY C) rfl<|ay<|ae rfl<|ay<|ae rfl<|ay<|aV<|aV<|ae rfl<|aw ⟨⟨by decide,by decide⟩,dR<|bW rfl S.r1 pW<|.inl ⟨_,aq.of S.r2, ?_⟩⟩
   rw[zab]
   refine⟨lp,aL ?_⟩
   show pY C [V.ref hp,V.ref ar,V.int<|c / 8 % ((pars.length:Nat):Int)] _ _ _
   rw[ed]
   exact⟨hp,ar,ab,la,tx,hd,M,Ed,here,pars,txts,lat,las,held,n+1,d,rfl,S.up (by lia),R,eE,by lia,by lia,fun dD dE cc H' S' R' _ b'=>q M Ed d pars txts dD dE cc H' S' R' b' fun y h=> .inl h⟩
  refine iF (cU ?_)<|zqF k6
  refine bA<|aX<|ae rfl<|aw<|N.ltI ⟨_,rfl, ?_⟩
  by_cases k5:kd<5
  ·
   refine iT ?_<|zqT k5
   obtain⟨j,hj,aK⟩:=T.up here (by have:=g5 k5;lia) hh
   refine x4<|bf<|bW rfl S.r1 pW<|ae rfl<|cx S.r2 (cq (by rw[zam,hj];rfl))<|x5 rfl S.r1 x9 ?_
   rw[show(gV<|some j)=V.int (j:Nat) from rfl,x3]
   have S1:=S.now j
   have b1:aF ar H (upd H ar<|.dK<|bV ab la tx hd j):=aF.upd
   generalize upd H ar (.dK<|bV ab la tx hd j)=H1 at S1 b1⊢
   have ix:eZ (lat.map gV).length ((j:Nat):Int)=some j:=by
    rw[zab,ll]
    unfold eZ
    rw[if_pos (by lia),if_pos (by lia)];rfl
   refine q9<|ae rfl<|bW rfl S1.r1 pX<|bW rfl S1.r1 nV ⟨la,_,_,j,rfl,rfl,S1.r3,ix, ?_⟩
   have e2:(lat.map gV).set j (V.int (here:Nat))=(lat.set j<|some here).map gV:=by rw[zbK];rfl
   rw[e2]
   have b2:aF la H1 (upd H1 la<|.lst<|(lat.set j<|some here).map gV):=aF.upd
   have rE:la∈M++ [ar,ab,la,tx,hd]:=by simp
   have uB:ar∈M++ [ar,ab,la,tx,hd]:=by simp
   have S2:bx C (upd H1 la<|.lst<|(lat.set j<|some here).map gV) hp ar ab la tx hd M Ed j here pars txts (lat.set j<|some here) las held n:=S1.x6 (aZ.upd (by simp)) (b2 _ _ S1.r1 n2) (b2 _ _ S1.r2 n5) au (b2 _ _ S1.r4<|Ne.symm n8) (b2 _ _ S1.r5<|Ne.symm n9) (fun v hv=> (S1.he v hv).mono (fun x o e ne=>b2 x o e fun z=>ne (by rw[z];exact rE)) (b2.bz S1.r3) fun a h=> .inl h) S1.lh
   have f2:aZ (M++ [ar,ab,la,tx,hd]) H (upd H1 la<|.lst<|(lat.set j<|some here).map gV):=fun y o e ne=>b2 y o (b1 y o e fun z=>ne (by rw[z];exact uB)) fun z=>ne (by rw[z];exact rE)
   generalize upd H1 la (.lst<|(lat.set j<|some here).map gV)=H2 at b2 S2 f2⊢
   obtain⟨y,hy⟩: ∃y,txts[j]?=some y:=⟨_,zau (by lia)⟩
   obtain⟨dx,lo,pa,nU,be,lg,bs,es,A⟩:=id S2.hi
   refine ba<|qU C (CH C CN) rfl<|ae rfl ⟨hp,dx,_,rfl,A.ob.ob,gQ (by decide+kernel) (by decide+kernel) (by decide+kernel) (by decide+kernel) (by decide+kernel) (by decide+kernel),hp,M,Ed,here,pars,_,las,28,rfl,S2.hi,by decide, .inl ⟨j,_,_,hj,(fA hx).2,(fA hy).2,by rw[<-len_list];lia,fun w ps H3 b3 fw nw hw ht A3=> ?_⟩⟩
   have S3:=S2.x8 b3 A3 (fun a h=> .inl h) (fun a h=> .inl h)
   have nc:w∉M++ [ar,ab,la,tx,hd]:=S2.live.no fw
   have nE:w∉Ed:=(S2.hi.own fw).2
   have R3:=R.move T hh (.inr hj)
   have sM:fo lat (di pars (here,j))=lat.set j (some here):=by
    unfold fo di
    rw[if_neg (fun z=>by have:=(jj T z).1;lia)]
   rw[sM] at R3
   refine Mu (S3.up<|zbb n) hx hy hw (by show B.aA ps<=28;have:B.aA ps<=28*1:=ht;lia) nc nE (fun v hv=> (S2.he v hv).mono (fun y o e ne=>b3 y o e fun z=>ne (zav _ z)) (A.live.bz b3) fun a h=> ?_) (by lia) (by lia) fun cc H4 S4 b4=> ?_
   ·rcases zaa.mp h with rfl | h
    ·exact .inr fw
    ·exact .inl h
   ·refine q M Ed j pars txts _ _ cc H4 S4 R3 (fun y o e ne=>b4 y o (b3 y o (f2 y o e ne) fun z=>ne (zav _ z)) fun z=> ?_) fun y h=> .inl h
    rcases zaa.mp z with rfl | z
    ·rw[f2 _ _ e ne] at fw;cases fw
    ·exact ne z
  ·
   refine iF ?_<|zqF k5
   have uC:kd=5:=by lia
   obtain⟨j,rfl⟩: ∃j,o=some j:=by
    cases o with
    | none=>exact absurd rfl (g6 uC)
    | some j=>exact⟨j,rfl⟩
   obtain⟨rr,er,hrr⟩:=xY T hh
   have Mw:las[here]?=some (some j):=by
    rw[<-R.no here (by rw[er];exact fun z=>absurd (hrr here z) (zaA _))];exact ho
   have hj:=R.ok here j Mw
   have uo:=jj T hj
   refine x4<|bf<|bW rfl S.r1 pX<|ae rfl<|cx S.r3 (cq (by rw[zam,ho];rfl))<|x5 rfl S.r1 x9 ?_
   rw[show(gV<|some j)=V.int (j:Nat) from rfl,x3]
   have S2:=S.now j
   have b1:aF ar H (upd H ar<|.dK<|bV ab la tx hd j):=aF.upd
   have uB:ar∈M++ [ar,ab,la,tx,hd]:=by simp
   have f2:aZ (M++ [ar,ab,la,tx,hd]) H (upd H ar<|.dK<|bV ab la tx hd j):=fun y o e ne=>b1 y o e fun z=>ne (by rw[z];exact uB)
   generalize upd H ar (.dK<|bV ab la tx hd j)=H2 at S2 f2⊢
   obtain⟨y,hy⟩: ∃y,txts[j]?=some y:=⟨_,zau (by lia)⟩
   obtain⟨dx,lo,pa,nU,be,lg,bs,es,A⟩:=id S2.hi
   refine ba<|qU C (CI C CN) rfl<|ae rfl ⟨hp,dx,_,rfl,A.ob.ob,gQ (by decide+kernel) (by decide+kernel) (by decide+kernel) (by decide+kernel) (by decide+kernel) (by decide+kernel),hp,M,Ed,here,pars,_,las,28,rfl,S2.hi,by decide, .inl ⟨j,_,_,Mw,hj,(fA hx).2,(fA hy).2,by rw[<-len_list];lia,fun w ps H3 b3 fw nw hw ht A3=> ?_⟩⟩
   have S3:=S2.x8 b3 A3 (fun a h=> .inl h) (fun a h=> .inl h)
   have nc:w∉M++ [ar,ab,la,tx,hd]:=S2.live.no fw
   have nE:w∉Ed:=(S2.hi.own fw).2
   have R3:=R.move T hh (.inl hj)
   have sM:fo lat (di pars (here,j))=lat:=by
    unfold fo di
    rw[if_pos hj]
    refine zbV fun i=> ?_
    by_cases z:here=i
    ·subst z
     rw[zba,ho];simp;lia
    ·rw[zaH z]
   rw[sM] at R3
   refine Mu (S3.up<|zbb n) hx hy hw (by show B.aA ps<=28;have:B.aA ps<=28*1:=ht;lia) nc nE (fun v hv=> (S2.he v hv).mono (fun y o e ne=>b3 y o e fun z=>ne (zav _ z)) (A.live.bz b3) fun a h=> ?_) (by lia) (by lia) fun cc H4 S4 b4=> ?_
   ·rcases zaa.mp h with rfl | h
    ·exact .inr fw
    ·exact .inl h
   ·refine q M Ed j pars txts _ _ cc H4 S4 R3 (fun y o e ne=>b4 y o (b3 y o (f2 y o e ne) fun z=>ne (zav _ z)) fun z=> ?_) fun y h=> .inl h
    rcases zaa.mp z with rfl | z
    ·rw[f2 _ _ e ne] at fw;cases fw
    ·exact ne z
 refine tV<|nI<|aX<|ae rfl<|aw<|N.ltI ⟨_,rfl, ?_⟩
 by_cases k5:kd<5
 ·refine iT ?_ (zqT k5)
  refine aX<|ae rfl<|aw<|l_ ⟨_,rfl, ?_⟩
  by_cases z:here=0
  ·exact iT (iT (ck new) rfl) (zqT (by lia))
  ·refine iF ?_ (zqF (by lia))
   refine xb<|nI<|aX<|ae rfl<|aw<|l_ ⟨_,rfl,iF (iF (cU<|go (fun _=>z)<|fun e=>by lia) rfl)<|zqF (by lia)⟩
 ·refine iF (iF ?_ rfl) (zqF k5)
  refine xb<|nI<|aX<|ae rfl<|aw<|l_ ⟨_,rfl, ?_⟩
  by_cases uC:kd=5
  ·refine iT ?_ (zqT uC)
   refine aX<|bf<|bW rfl S.r1 pX<|ae rfl<|cx S.r3 (cq (by rw[zam,ho];rfl))<|aw ⟨rfl,_,rfl, ?_⟩
   cases o with
   | none=>exact iT (ck new) rfl
   | some j=>exact iF (cU<|go (fun e=>absurd e k5)<|fun _ e=>by cases e) rfl
  ·exact iF (iF (cU<|go (fun e=>absurd e k5)<|fun e=>absurd e uC) rfl) (zqF uC)
end
theorem Mx: ∀(x:List Nat),x≠ []-> ∃z,strip x x=([z],[z])
 | [],h=>absurd rfl h
 | [z],_=> ⟨z,rfl⟩
 | r::a::as,_=>by
  unfold strip
  rw[if_pos rfl]
  exact Mx (a::as) (by simp)
theorem abt{pars:List (Option Nat)}(T:dh pars){n:Nat}(hn:n<pars.length):d_ pars n n=[n]:=by
 obtain⟨_,_,_,_,⟨p,e⟩,_,_,⟨r,er⟩,_⟩:=um T hn hn
 obtain⟨z,ez⟩:=Mx (ups pars n n).reverse (fun q=>by rw[e] at q;simp at q)
 have ew:d_ pars n n=[z]:=by
  unfold d_
  rw[ez];rfl
 rw[ew] at er⊢
 exact congrArg (fun l=> [l]) (zaU er).1
theorem len_pos{s:Str}(h:s≠""):0<s.length:=by
 rcases Nat.eq_zero_or_pos s.length with z | z
 ·refine absurd ?_ h
  obtain⟨a⟩:=s
  have:a= #[]:=zbT z
  rw[this];rfl
 ·exact z
theorem uv(p:Pt)(r:List Pt):B.aA (p::r)=dy p+B.aA r:=by unfold B.aA;rw[zay,zbt]
theorem abu{ps:List Pt}{l r:List Nat}(h:l9 ps l r)(t:B.aA ps=0):ps=if l=[] then [] else [.keep (l.length:Nat)]:=by
 have one: ∀{p:Pt} {q:List Pt},(∀x∈p::q,bC x)->B.aA (p::q)=0->(∃n:Int,p= .keep n/\1<=n)/\B.aA q=0:=by
  intro p q ok t
  rw[uv] at t
  refine⟨?_,by lia⟩
  have:=ok p zas
  cases p with
  | keep n=>exact⟨n,rfl,this⟩
  | put s=>have:=len_pos this.2;have e:dy (.put s)=s.length:=rfl;lia
  | cut s=>have:=len_pos this.2;have e:dy (.cut s)=s.length:=rfl;lia
 obtain⟨ok,ch,run⟩:=h
 cases ps with
 | nil=>cases run;rfl
 | cons p q=>
  obtain⟨⟨n,rfl,hn⟩,t'⟩:=one ok t
  cases q with
  | nil=>
   cases run with
   | @keep a l' r' _ _ e run=>
    cases run
    rw[zaf,if_neg (fun z=>by rw[z] at e;simp at e;lia),e]
  | cons p' q'=>
   obtain⟨⟨n',rfl,_⟩,_⟩:=one (fun x hx=>ok x<|zaj _ hx) t'
   unfold chainOk at ch
   rw[zah] at ch
   have:=ch.2
   unfold chainOk at this
   rw[zah] at this
   exact absurd this.1 (by show ¬fi "keep" "keep"=true;decide+kernel)
theorem abv:dB [none] 0 [none] [none]:=⟨rfl,rfl,fun a b _ h=>by
 cases a with
 | zero=>cases h
 | succ a=>simp at h,fun _ _=>rfl,fun i k h=>by
 cases i with
 | zero=>cases h
 | succ i=>simp at h⟩
section
variable {K:Frag} {C CN CP:Addr}
abbrev GL(K:Frag)(C CP:Addr)(E:XK):aQ:=aS K [("_law_text_by",CK),("_law_cell_at",AE K),("_law_deed",Dh C),("_law_sizes_right",x_ C),("_law_walked",pY C)] [] [] [("go",C,rB C)] [("History",C,CJ C CP)] (E:=E)
theorem Di{E:XK}{H0 H1:Hp}{σ:St}{Q':VK}{a:Addr}{ns:List Int}(ha:aq K H0 a (ns.map V.int))(i:Int)(s1:aB H0 H1)(e0:σ[0]?=some (some<|.ref a))(hi:0<=i)(q:Q' (.int<|cell ns i.toNat) H1):af (GL K C CP E) (.call 1 [(.v 0),(.c<|.int i)]) σ H1 Q':=
 c7 (AE K) rfl (ay<|ae e0<|ay<|aw<|aL ⟨a,ns,i,rfl,s1.seq ha,hi,q⟩)
theorem abw{E:XK}{Q:VK}{H:Hp}{hd ar:Addr}{N:List Addr}{σ:St}{held:List V}{kvs:List (Key×V)}(h0:σ[3]?=some (some<|.ref ar))(hr:H ar=some (.dK kvs))(hk:eT kvs (.inr "held")=some (.ref hd))(hL:H hd=some (.lst held))(hn:held.length<=1000000)(hh: ∀v∈held,kz N H v)(k: ∀H',Q (.bl true) H'):
  af (GL K C CP E) (.cmp .Eq (.comp none [] .list [(.bh (.v 3)<|.c<|.str "held")] (some<|.cmp .NotEq (.ix (.v 0)<|.c<|.int 0)<|.ix (.v 0)<|.c<|.int 1)<|.v 0)<|.lst []) σ H Q:=by
 refine nB<|bW h0 hr hk ⟨hd,rfl,⟨_,aq.of hL⟩,Lf (fun _=>false) hL hn ?_ (fun x k _ q=>ae rfl q) ?_⟩
 ·intro x k hx q
  obtain⟨t,a,b,xs,ys,ps,rfl,ht,_,_,ha,hb,px,py,ho⟩:=hh x hx
  refine aX<|bf<|ae rfl<|aw<|.inr<|.inl ⟨_,_,_,_,rfl,rfl,aG.of ht,rfl, ?_⟩
  refine bf<|ae rfl<|aw<|.inr<|.inl ⟨_,_,_,_,rfl,rfl,aG.of ht,rfl, ?_⟩
  exact Md ha hb px py ho ⟨_,rfl,q⟩
 ·intro p fp
  have e:held.filter (fun _=>false)=[]:=by simp
  rw[e]
  refine cP<|aL ⟨zqZ _,fun w fw=> ?_⟩
  have hp:upd (upd H p<|.lst []) w (.lst []) p=some (.lst []):=sameNew fw _ _ au
  exact Xm hp au .nil .nil<|k _
theorem abx{E:XK}{H:Hp}{ar ab la tx hd c:Addr}{σ:St}{txts:List Str}{here:Nat}{x:Str}{ps:List Pt}{k:Bool->Hp->Prop}{hr:Nat}
  (h3:σ[3]?=some (some<|.ref ar)) (h5:σ[5]?=some (some<|.int (here:Nat))) (h6:σ[6]?=some (some<|.ref c)) (r1:H ar=some (.dK<|bV ab la tx hd hr)) (r4:H tx=some (.lst<|txts.map V.str)) (hx:txts[here]?=some x) (gx:good x) (hc:cQ H c ps x.cps.toList x.cps.toList) (t:B.aA ps=0) (q: ∀H',aB H H'->k false H'):
  bu (GL K C CP E) (.cmp .NotEq (.v 6)<|.bin .Mult (.lst [(.tup [(.c<|.str "keep"),(.blt .len [(.ix (.bh (.v 3)<|.c<|.str "texts")<|.v 5)])])])<|.blt .int [(.cmp .NotEq (.ix (.bh (.v 3)<|.c<|.str "texts")<|.v 5)<|.c<|.str "")]) σ H k:=by
 have ek:=abu hc.chg t
 have lx:=len_list x
 refine aX<|ae h6<|aV<|cP<|ay<|je<|ay<|aw<|ay<|dR<|bf<|bW h3 r1 jo<|ae h5<|cx r4 (cq (fA hx).1) ⟨bQ gx.1,aL ⟨(by show 2<=sizeLine;decide),fun t ft=>aL ⟨(by show 1<=sizeLine;decide),fun l fl=> ?_⟩⟩⟩
 have s1:=sameNew (o:= .tup [.str "keep", .int (x.length:Nat)]) ft
 have s2:=sameNew (o:= .lst [V.ref t]) fl
 have eK:=s1.trans s2
 refine tL<|ay<|nB<|bf<|bW h3 (eK _ _ r1) jo<|ae h5<|cx (eK _ _ r4) (cq (fA hx).1)<|aw<|lW<|aL ?_
 show vv (.ref l) (.int (if (x !=("":Str))=true then 1 else 0)) _ fun y H2=>cY (GL K C CP E).K .NotEq (.ref c) y H2 fun z H3=> ∃b,z=V.bl b/\k b H3
 have ok: ∀p∈ps,hZ p:=by
  intro p hp
  rw[ek] at hp
  split at hp
  ·cases hp
  ·rw[zac.mp hp];trivial
 have fin: ∀(H':Hp) (p:Addr) (ys:List V),aB H H'->H' p=some (.lst ys)->aR H' ys ps->cY (GL K C CP E).K .NotEq (.ref c) (.ref p) H' fun z H3=> ∃b,z= .bl b/\k b H3:=by
  intro H' p ys s hp hy
  obtain⟨zs,hz,pz,_⟩:=hc.same s
  exact Md hz hp pz hy ok ⟨_,rfl,q _ s⟩
 by_cases z:x=""
 ·have e:(x !=("":Str))=false:=by rw[z];decide
  rw[e]
  refine⟨l,0,[.ref t],rfl,rfl,au,by decide,by decide,zcb rfl,fun p fp=> ?_⟩
  refine fin _ p _ (eK.trans<|sameNew fp) au ?_
  rw[ek,if_pos (by rw[z];rfl)]
  exact .nil
 ·have e:(x !=("":Str))=true:=by simp[z]
  rw[e]
  refine⟨l,1,[.ref t],rfl,rfl,au,by decide,by decide,zcb rfl,fun p fp=> ?_⟩
  refine fin _ p [.ref t] (eK.trans<|sameNew fp) au ?_
  have n0:=len_pos z
  rw[ek,if_neg (fun q=>by rw[q] at lx;simp at lx;lia)]
  refine .cons ⟨t,rfl, ?_⟩ .nil
  show _=some (HO.tup [V.str "keep",V.int ((x.cps.toList.length:Nat):Int)])
  rw[<-lx]
  exact(s2.trans<|sameNew fp) _ _ au
end
section
variable {K:Frag} {C CN CP:Addr} {E:XK} {Q:VK}
def My:List RS:=[.ite (.not (.call 2 [(.v 2),(.v 3),(.v 4)])) [.ret (.c (.bl false))] [],
  .ite (.and [(.cmp .Gt (.bin .Mod (.bin .FloorDiv (.v 4) (.c (.int 16))) (.c (.int 3))) (.c (.int 0))),(.not (.call 3 [(.v 2),(.v 3),(.bin .FloorDiv (.v 4) (.c (.int 48)))]))]) [.ret (.c (.bl false))] []]
theorem aby{D:Ends}{H:Hp}{hp ar ab la tx hd:Addr}{M Ed:List Addr}{here:Nat}{pars:List (Option Nat)}{txts:List Str}{lat las:List (Option Nat)}{held:List V}{n:Nat}{c:Int}{a0 a1 u5 u6 u7:Option V}
  (S:bx C H hp ar ab la tx hd M Ed here here pars txts lat las held n) (R:dB pars here lat las) (hn:n<=90)
  (k: ∀(M' gA:List Addr) (fB:Nat) (gU:List (Option Nat)) (jq:List Str) (dD dE:List (Option Nat)) (cc:List V) (H':Hp),bx C H' hp ar ab la tx hd M' gA fB fB gU jq dD dE cc (n+1)->dB gU fB dD dE->aZ (M++ [ar,ab,la,tx,hd]) H H'->(∀y∈M',y∈M\/H y=none)->D.nx [a0,a1,some<|.ref hp,some<|.ref ar,some<|.int c,u5,u6,u7] H'):
  ax (GL K C CP E) My D [a0,a1,some<|.ref hp,some<|.ref ar,some<|.int c,u5,u6,u7] H:=by
 refine bA<|iG<|jG (Dh C) rfl<|ay<|ae rfl<|ay<|ae rfl<|ay<|ae rfl<|aL ⟨hp,ar,ab,la,tx,hd,M,Ed,here,pars,txts,lat,las,held,n,c,rfl,S,R,hn,fun M' gA fB gU jq dD dE cc H' S' R' b' m'=>iE<|iF (cU ?_) rfl⟩
 have k':=k M' gA fB gU jq dD dE cc H' S' R' b' m'
 have c3:(0:Int) <3:=by decide
 refine bA<|nI<|aX<|aV<|aV<|ae rfl<|aw ⟨⟨by decide,by decide⟩,aw ⟨c3,aw<|N.iI ⟨_,rfl, ?_⟩⟩⟩
 by_cases z:0<c / 16 % 3
 ·exact iT (iG<|jG (x_ C) rfl<|ay<|ae rfl<|ay<|ae rfl<|ay<|aV<|ae rfl<|aw ⟨⟨by decide,by decide⟩,aL ⟨hp,ar,ab,la,tx,hd,M',gA,fB,fB,gU,jq,dD,dE,cc,n+1,_,rfl,S',by lia,iE<|iF (cU k') rfl⟩⟩) (zqT z)
 ·exact iF (iF (cU k') rfl) (zqF z)
theorem abz{H0 H:Hp}{a hp ar ab la tx hd:Addr}{M Ed:List Addr}{here:Nat}{pars:List (Option Nat)}{txts:List Str}{lat las:List (Option Nat)}{held:List V}{n:Nat}{ns:List Int}{x0:V}{u4:Option V}(ha:aq K H0 a (ns.map V.int))(s0:aB H0 H)(hM: ∀y∈M++ [ar,ab,la,tx,hd],H0 y=none)
  (S:bx C H hp ar ab la tx hd M Ed here here pars txts lat las held n) (R:dB pars here lat las) (hn:n<=90) (q: ∀H',Q (.bl true) H'):
  ax (GL K C CP E) (dm.drop 4) (Dn Q) [some<|.ref a,some x0,some<|.ref hp,some<|.ref ar,u4,none,none,none] H:=by
 have gb:=S.gb
 have lh:=S.lh
 obtain⟨T,hh,_,_⟩:=cC.fD S.hi
 obtain⟨x,hx⟩: ∃x,txts[here]?=some x:=⟨_,zau (by lia)⟩
 have gx:=S.gd x (zae hx)
 refine bA<|iG<|jG (x_ C) rfl<|ay<|ae rfl<|ay<|ae rfl<|ay<|Di ha 2 s0 rfl (by decide)<|aL ⟨hp,ar,ab,la,tx,hd,M,Ed,here,here,pars,txts,lat,las,held,n,_,rfl,S,by lia,iE<|iF (cU ?_) rfl⟩
 refine ba<|bW rfl S.r1 nV ?_
 obtain⟨dx,lo,pa,nU,be,lg,bs,es,A⟩:=id S.hi
 refine ba<|h9 C (rB C) rfl<|ae rfl ⟨hp,dx,_,rfl,A.ob.ob,gQ (by decide+kernel) (by decide+kernel) (by decide+kernel) (by decide+kernel) (by decide+kernel) (by decide+kernel),ae rfl ⟨hp,M,Ed,here,here,pars,_,las,28,[],_,_,rfl,S.hi,hh,abt T hh,zqZ _,zqZ _,by decide,(fA hx).2,(fA hx).2,by rw[<-len_list];lia,fun c ps H1 b1 fc pS hc ht A1=> ?_⟩⟩
 have S1:bx C H1 hp ar ab la tx hd M Ed here here pars txts lat las held n:=S.x8 b1 A1 (fun a h=> .inl h) (fun a h=> .inl h)
 have s1:aB H0 H1:=fun y o e=>b1 y o (s0 _ _ e) fun h=>by rw[hM y<|zav _ h] at e;cases e
 refine bA<|abx rfl rfl rfl S1.r1 S1.r4 hx gx.1 hc (by have:B.aA ps<=28*0:=ht;lia) fun H2 s2=>iF (cU ?_) rfl
 have S2:=S1.same s2
 have s02:=s1.trans s2
 have Mz:(0:Int) < ((txts.length:Nat):Int):=by lia
 obtain⟨d,ed⟩: ∃d:Nat,cell ns 1 % ((txts.length:Nat):Int)=(d:Nat):=⟨_,(zcm<|zaJ _ (by lia)).symm⟩
 have eE:d<pars.length:=by
  have:=zaL (cell ns 1) Mz
  lia
 refine ba<|aV<|Di ha 1 s02 rfl (by decide)<|dR<|bW rfl S2.r1 jo<|.inl ⟨_,aq.of S2.r4, ?_⟩
 rw[zab]
 refine⟨Mz, ?_⟩
 show ax _ _ _ [some<|V.ref a,some x0,some<|V.ref hp,some<|V.ref ar,u4,some<|V.int (here:Nat),some<|V.ref c,some<|V.int<|cell ns 1 % ((txts.length:Nat):Int)] _
 rw[ed]
 have S3:=S2.up (zbb n)
 refine bA<|qZ<|iG<|jG (pY C) rfl<|ay<|ae rfl<|ay<|ae rfl<|ay<|aw<|aL ⟨hp,ar,ab,la,tx,hd,M,Ed,here,pars,txts,lat,las,held,n+1,0,rfl,S3,R,by lia,by lia,by lia,fun dD dE cc H' S' R' l' b'=>iE<|iF ?_ rfl⟩
 refine iG<|jG (pY C) rfl<|ay<|ae rfl<|ay<|ae rfl<|ay<|ae rfl<|aL ⟨hp,ar,ab,la,tx,hd,M,Ed,0,pars,txts,dD,dE,cc,n+1,d,rfl,S',R',eE,by lia,by lia,fun adq ads adt H5 S5 R5 l5 b5=>iE<|iF (cU ?_) rfl⟩
 exact ck<|abw rfl S5.r1 C4 S5.r5 (by have:=S5.lh;lia) S5.he q
def yh(K:Frag):Sp:=fun vs H Q E=> ∃(a:Addr) (ns:List Int),vs=[.ref a]/\aq K H a (ns.map V.int)/\ ∀H',Q (.bl true) H'
theorem abB{H0 H:Hp}{a hp ar ab la tx hd:Addr}{M Ed:List Addr}{here:Nat}{pars:List (Option Nat)}{txts:List Str}{lat las:List (Option Nat)}{held:List V}{ns:List Int}{x0:V}(ha:aq K H0 a (ns.map V.int))(s0:aB H0 H)(hM: ∀y∈M++ [ar,ab,la,tx,hd],H0 y=none)
  (S:bx C H hp ar ab la tx hd M Ed here here pars txts lat las held 0) (R:dB pars here lat las) (q: ∀H',Q (.bl true) H'):
  ax (GL K C CP E) (dm.drop 3) (Dn Q) [some<|.ref a,some x0,some<|.ref hp,some<|.ref ar,none,none,none,none] H:=by
 refine Jj (body:=My)<|BI<|ae rfl<|aw ⟨3,rfl,aw ⟨19,rfl, .inl ⟨_,s0.seq ha,fun m fm=> ?_⟩⟩⟩
 have nm:m∉M++ [ar,ab,la,tx,hd]:=S.live.no fm
 have ec:=Xf (ns.map V.int) 3 19
 rw[show((3:Nat):Int)=3 from rfl,show((19:Nat):Int)=19 from rfl] at ec
 rw[ec]
 have s1:=sameNew (o:= .lst (((ns.map V.int).drop 3).take<|19 - 3)) fm
 have hm:upd H m (.lst<|((ns.map V.int).drop 3).take<|19 - 3) m=some (.lst<|((ns.map V.int).drop 3).take<|19 - 3):=au
 have S1:=S.same s1
 have MA:=s0.trans s1
 generalize upd H m (.lst<|((ns.map V.int).drop 3).take<|19 - 3)=H1 at s1 hm S1 MA⊢
 have l16:(((ns.map V.int).drop 3).take<|19 - 3).length<=16:=by rw[zaD];lia
 have MB: ∀v∈ ((ns.map V.int).drop 3).take (19 - 3),∃i:Int,v= .int i:=by
  intro v hv
  obtain⟨i,_,e⟩:=zaX.mp (zbH<|zcj hv)
  exact⟨i,e.symm⟩
 generalize ((ns.map V.int).drop 3).take (19 - 3)=cs at hm l16 MB⊢
 clear ec
 refine⟨m,rfl,⟨_,aq.of hm⟩,mD (K:=K) (a:=m) (xs:=cs) (fun i σ H2=> ∃(M Ed:List Addr) (here:Nat) (pars:List (Option Nat)) (txts:List Str) (lat las:List (Option Nat)) (held:List V) (u4:Option V),σ=[some (.ref a),some x0,some (.ref hp),some (.ref ar),u4,none,none,none]/\bx C H2 hp ar ab la tx hd M Ed here here pars txts lat las held i/\dB pars here lat las/\aB H0 H2/\(∀y∈M++ [ar,ab,la,tx,hd],H0 y=none)/\H2 m=some (.lst cs)/\m∉M++ [ar,ab,la,tx,hd])
  ⟨M,Ed,here,pars,txts,lat,las,held,none,rfl,S1,R,MA,hM,hm,nm⟩ (fun i σ H8 _ ⟨_,_,_,_,_,_,_,_,_,_,_,_,_,_,h,_⟩=>aq.of h) ?_ ?_⟩
 ·rintro i y σ H2 hy ⟨M,Ed,here,pars,txts,lat,las,held,u4,rfl,S,R,s2,hM,hm,nm⟩
  obtain⟨c,rfl⟩:=MB y (zae hy)
  have hi:i<cs.length:=(zak.mp hy).1
  refine aby S R (by lia) fun M' gA fB gU jq dD dE cc H' S' R' b' m'=> ?_
  refine⟨M',gA,fB,gU,jq,dD,dE,cc,_,rfl,S',R',fun y o e=>b' y o (s2 _ _ e) fun h=> ?_,fun y h=> ?_,b' _ _ hm nm,fun h=> ?_⟩
  ·rw[hM y h] at e;cases e
  ·rcases zad.mp h with h | h
   ·rcases m' y h with h | h
    ·exact hM y (zav _ h)
    ·exact s2.free h
   ·exact hM y (zaq _ h)
  ·rcases zad.mp h with h | h
   ·rcases m' m h with h | h
    ·exact nm (zav _ h)
    ·rw[hm] at h;cases h
   ·exact nm (zaq _ h)
 ·rintro σ H2 ⟨M,Ed,here,pars,txts,lat,las,held,u4,rfl,S,R,s2,hM,hm,nm⟩
  exact abz ha s2 hM S R (by lia) q
theorem abD{ab la tx hd:Addr}:i6 [] (bV ab la tx hd 0)=bV ab la tx hd 0:=by
 have n: ∀{a b:Str} {v:V} {r:List (Key×V)},¬a=b->eT r (.inr b)=none->eT (((Sum.inr a:Key),v)::r) (.inr b)=none:=fun h e=> (g_<|jN h).trans e
 show putK (putK (putK (putK (putK ([]:List (Key×V)) (Sum.inr "above")<|.ref ab) (Sum.inr "latest")<|.ref la) (Sum.inr "texts")<|.ref tx) (Sum.inr "here")<|.int (0:Nat)) (Sum.inr "held") (.ref hd)=_
 rw[sf (kvs:=[]) _ rfl]
 rw[sf (kvs:=[]++_) _<|n (by decide+kernel) rfl]
 rw[sf (kvs:=[]++_++_) _<|n (by decide+kernel)<|n (by decide+kernel) rfl]
 rw[sf (kvs:=[]++_++_++_) _<|n (by decide+kernel)<|n (by decide+kernel)<|n (by decide+kernel) rfl]
 rw[sf (kvs:=[]++_++_++_++_) _<|n (by decide+kernel)<|n (by decide+kernel)<|n (by decide+kernel)<|n (by decide+kernel) rfl]
 rfl
theorem kD{H:Hp}{a b:Addr}{o:HO}(h:H a=some o)(f:H b=none):b≠a:=fun z=>by rw[z,h] at f;cases f
theorem abE{Γ:aQ}{σ:St}{H:Hp}{Q:VK}{as:List RE}(h: ∀p,H p=none->aY Γ as σ (upd H p<|.dK []) fun vs H2=>H2 p=some (.dK [])/\ ∃kvs:List (Key×V),vs=oR kvs/\kvs.length<=15/\Q (.ref p) (upd H2 p<|.dK<|i6 [] kvs)):af Γ (.xt qC as) σ H Q:=h
theorem abF(vs:List V)(H:Hp)(Q:VK)(E:XK)(h:yh K vs H Q E):ax (GL K C CP E) dm (Dn Q) (start iL vs) H:=by
 obtain⟨a,ns,rfl,ha,q⟩:=h
 refine ba<|c7 CK rfl<|ay<|Di ha 0 (aB.refl _) rfl (by decide)<|aL ⟨_,rfl,fun x H1 gx lx s1=> ?_⟩
 refine ba<|IU C (CJ C CP) rfl<|dR<|ae rfl ⟨bQ gx.1,fun hp dx fh fd ne=> ⟨hp,dx,_,rfl,au, .inl ⟨x.cps.toList,28,by rw[<-len_list],fun M H2 b2 fM A=> ⟨rfl, ?_⟩⟩⟩⟩
 have s2:aB H1 H2:=fun y o e=>b2 y o (by rw[aN<|bZ e fh,aN<|bZ e fd];exact e) (bZ e fh)
 have f2: ∀y∈M,H1 y=none:=fun y h=>by
  by_cases z:y=hp
  ·rw[z];exact fh
  ·have:=fM y h z
   rw[aN z] at this
   by_cases z2:y=dx
   ·rw[z2];exact fd
   ·rw[aN z2] at this;exact this
 clear b2 fM
 refine ba<|abE fun ar fr=> ?_
 have sr:=sameNew (o:= .dK []) fr
 refine ay<|aw<|ay<|cP<|ay<|aw<|aL ⟨(by show 1<=sizeLine;decide),fun ab fa=> ?_⟩
 have sa:=sameNew (o:= .lst [V.aC]) fa
 refine ay<|aw<|ay<|cP<|ay<|aw<|aL ⟨(by show 1<=sizeLine;decide),fun la fl=> ?_⟩
 have sl:=sameNew (o:= .lst [V.aC]) fl
 refine ay<|aw<|ay<|cP<|ay<|ae rfl<|aL ⟨(by show 1<=sizeLine;decide),fun tx ft=> ?_⟩
 have st:=sameNew (o:= .lst [V.str x]) ft
 refine ay<|aw<|ay<|aw<|ay<|aw<|ay<|cP<|aL ⟨zqZ _,fun hd pZ=>aL ?_⟩
 have sh:=sameNew (o:= .lst []) pZ
 have kr:=sa.trans (sl.trans<|st.trans sh)
 refine⟨kr _ _ au,bV ab la tx hd 0,rfl,(by show 5<=15;decide), ?_⟩
 rw[abD]
 have s5:=sr.trans kr
 have pT:=(sl.trans<|st.trans sh) _ _ (au (H:=upd H2 ar (.dK [])) (a:=ab) (o:= .lst [V.aC]))
 have pJ:=(st.trans sh) _ _ (au (a:=la) (o:= .lst [V.aC]))
 have w9:=sh _ _ (au (a:=tx) (o:= .lst [V.str x]))
 have MC:=au (a:=hd) (o:= .lst []) (H:=upd (upd (upd (upd H2 ar<|.dK []) ab<|.lst [V.aC]) la<|.lst [V.aC]) tx (.lst [V.str x]))
 have n1:ab≠ar:=kD au fa
 have n2:la≠ar:=kD (sa _ _ au) fl
 have n5:la≠ab:=kD au fl
 have n3:tx≠ar:=kD ((sa.trans sl) _ _ au) ft
 have n6:tx≠ab:=kD (sl _ _ au) ft
 have n8:tx≠la:=kD au ft
 have n4:hd≠ar:=kD ((sa.trans<|sl.trans st) _ _ au) pZ
 have n7:hd≠ab:=kD ((sl.trans st) _ _ au) pZ
 have n9:hd≠la:=kD (st _ _ au) pZ
 have kA:hd≠tx:=kD au pZ
 have g1:H2 ar=none:=fr
 have g2:H2 ab=none:=sr.free fa
 have g3:H2 la=none:=(sr.trans sa).free fl
 have g4:H2 tx=none:=(sr.trans<|sa.trans sl).free ft
 have g5:H2 hd=none:=(sr.trans<|sa.trans<|sl.trans st).free pZ
 generalize upd (upd (upd (upd (upd H2 ar<|.dK []) ab<|.lst [V.aC]) la<|.lst [V.aC]) tx<|.lst [V.str x]) hd (.lst [])=H6 at s5 pT pJ w9 MC⊢
 clear sr sa sl st sh kr fa fl ft pZ
 have b7:aF ar H6 (upd H6 ar<|.dK<|bV ab la tx hd 0):=aF.upd
 have s7:aB H2 (upd H6 ar<|.dK<|bV ab la tx hd 0):=ni s5 g1 b7
 have h7:upd H6 ar (.dK<|bV ab la tx hd 0) ar=some (.dK<|bV ab la tx hd 0):=au
 generalize upd H6 ar (.dK<|bV ab la tx hd 0)=H7 at b7 s7 h7⊢
 have gR: ∀y∈ [ar,ab,la,tx,hd],H2 y=none:=fun y h=>by
  simp only[zaa,zat,or_false] at h
  rcases h with rfl | rfl | rfl | rfl | rfl
  ·exact g1
  ·exact g2
  ·exact g3
  ·exact g4
  ·exact g5
 have lv:=(cC.fD A).2.2.2
 refine abB (M:=M) (Ed:=[]) (here:=0) (pars:=[none]) (txts:=[x]) (lat:=[none]) (las:=[none]) (held:=[]) ha (s1.trans<|s2.trans s7) (fun y h=> ?_) ⟨A.same s7,h7,b7 _ _ pT n1,b7 _ _ pJ n2,b7 _ _ w9 n3,b7 _ _ MC n4, ?_,fun y h=> ⟨lv.no<|gR y h,(fun z=>by cases z)⟩,(fun v hv=>by cases hv),zqZ _,fun y hy=> ?_,zqR 1⟩ abv q
 ·rcases zad.mp h with h | h
  ·exact s1.free (f2 y h)
  ·exact s1.free (s2.free<|gR y h)
 ·simp only[zaN,zaa,not_or,zat,not_false_eq_true,and_true,List.nodup_nil]
  exact⟨⟨n1.symm,n2.symm,n3.symm,n4.symm⟩,⟨n5.symm,n6.symm,n7.symm⟩,⟨n8.symm,n9.symm⟩,kA.symm⟩
 ·rw[zac.mp hy];exact⟨gx,by lia⟩
end
end L2.mw
namespace L2
open PySem PySem.Spec PyProof.Rows
open PySem.W (Frag nsIn findIn isFn keepIn codeIn fnOf mg_of mg_none_of)
def jr(st:Stmt):List Str:=(iU st).args.map (·.arg)
structure Top (P:Program) (w:World) (K:Frag) (mg:Str->Option Value) (base:Heap):Prop where
 X:K.In base
 G:base.Ns mainGlobals mg
def cf(K:Frag)(x:Str)(st:Stmt):Prop:= ∃f fd,nsIn K mainGlobals x=some (some<|.ref f)/\oC K x x st f fd
def eU(K:Frag)(C:Addr)(x q:Str)(st:Stmt):Prop:= ∃f fd,findIn K (.ref C) x=some (some<|.ref f)/\isFn K (.ref f)=true/\oC K x q st f fd
structure yi (K:Frag) (x:Str) (C:Addr):Prop where
 g:nsIn K mainGlobals x=some (some<|.ref C)
 m:makesIn K C=true
 k:keepIn K (.ref C)=true
structure my (K:Frag) (p:Str×V):Prop where
 ex: ∃u,nsIn K mainGlobals p.1=some (some u)/\RelV p.2 u
structure rF (K:Frag) (p:Str×Addr):Prop where
 g:nsIn K mainGlobals p.1=some (some<|.ref p.2)
 x:PySem.W.excIn K p.2 [.type "ValueError", .type "Exception", .type "BaseException", .type "object"] "ValueError.__new__"=true
section
variable {P:Program} {w:World} {K:Frag} {mg:Str->Option Value} {base:Heap} {x q:Str} {st:Stmt} {f C:Addr} {fd:FuncData} {k:Nat} {sp:Sp}
theorem dfk{oc:Value}{od an:Option Addr}{ie:Array (Option Value)}{kV doc pm bE ct:Value}(a:nsIn K mainGlobals x=some (some<|.ref f))(l:K.lookup f=some ⟨oc,od, .func<|fnOf x x (iU st) (fU st) (fV st) .none kV doc pm an bE ct,ie⟩)
  (c:codeIn K bE x=true) (k:keepIn K (.ref f)=true):cf K x st:=⟨f,_,a,EF l c k⟩
theorem dmk{oc:Value}{od an:Option Addr}{ie:Array (Option Value)}{kV doc pm bE ct:Value}(a:findIn K (.ref C) x=some (some<|.ref f))(i:isFn K (.ref f)=true)(l:K.lookup f=some ⟨oc,od, .func<|fnOf x q (iU st) (fU st) (fV st) .none kV doc pm an bE ct,ie⟩)
  (c:codeIn K bE q=true) (k:keepIn K (.ref f)=true):eU K C x q st:=⟨f,_,a,i,EF l c k⟩
theorem abI{y:Str}{t:Tok}(h:nsIn K mainGlobals x=some (some<|.str y t)):my K (x, .str y):=⟨_,h,⟨_,rfl⟩⟩
theorem abJ{y:Addr}(h:nsIn K mainGlobals x=some (some<|.ref y)):my K (x, .ref y):=⟨_,h,rfl⟩
theorem abK{y:Str}(h:findIn K (.ref C) y=some none):eY K C y:=h
theorem Top.gv{p:Str×V}(Z:Top P w K mg base)(h:my K p):Ac mg p:=by
 obtain⟨u,a,b⟩:=h.ex
 exact⟨u,mg_of Z.X Z.G a,b⟩
theorem Top.no(Z:Top P w K mg base)(h:nsIn K mainGlobals x=some none):mg x=none:=mg_none_of Z.X Z.G h
theorem Top.exc{p:Str×Addr}(Z:Top P w K mg base)(h:rF K p):vX mg base p:=WR Z.X Z.G h.g h.x
structure uD (P:Program) (w:World) (K:Frag) (mg:Str->Option Value) (base:Heap) (k:Nat) (st:Stmt) (sp:Sp):Prop where
 ok: ∀{x q:Str} {f:Addr} {fd:FuncData},oC K x q st f fd->cX P w K mg base (gH P w) k f fd (jr st) sp
theorem abL{N P:List Str}{sc:Scope}(a:sc.kind= .function:=by kernel_rfl)(b:sc.isCoroutine=false:=by kernel_rfl)(c:sc.isGenerator=false:=by kernel_rfl)(d:N.Nodup:=by decide+kernel)(e:N.take P.length=P:=by kernel_rfl)(f: ∀x∈P,sc.names.lookup x=some .local\/sc.names.lookup x=some .cell:=by decide+kernel)(g: ∀y∈sc.names,y.2≠ .free:=by decide+kernel):rP N P sc:=⟨a,b,c,d,e,f,g⟩
theorem dL{N N0 bl:List Str}{tab:List (Str×Sp)}{gt:List (Str×V)}{dk:List (Addr×List (Key×V))}{mt kt:List (Str×Addr×Sp)}{et:List (Str×Addr)}{ht:List (Str×Sp)}{body:List RS}(Z:Top P w K mg base)
  (Ak: ∀vs H Q E,sp vs H Q E->ax (aS K tab gt dk mt kt et ht E) body {nx:=fun _ H'=>Q .aC H',rt:=Q} (start N0 vs) H)
  (hm: ∀{CX:bN} {Γ:aQ} {X:Cx},gj CX (vW N (fV st) (tab.map (·.1)) (gt.map (·.1)) bl (mt.map (·.1)) (kt.map (·.1)) (et.map (·.1)) (ht.map (·.1))) Γ X->eV X (fU st) (ax Γ body)) (k:Nat)
  (len: ∀vs H Q E,sp vs H Q E->vs.length=(jr st).length:=by intro _ _ _ _ h;repeat (first | (obtain⟨rfl,_⟩:=h;kernel_rfl) | (obtain⟨_,h⟩:=h)))
  (Ae: ∀p∈tab,j_ P w K mg base k p.1 p.2:=by repeat (first | exact nG | refine nH (j_.mono (by assumption) (by first | decide | lia)) ?_))
  (Af: ∀p∈gt,Ac mg p:=by repeat (first | exact nG | refine nH (Top.gv (by assumption) (by assumption)) ?_))
  (sT: ∀y∈bl,mg y=none:=by repeat (first | exact nG | refine nH (Top.no (by assumption) (by assumption)) ?_))
  (Ag: ∀q∈dk,vV P w K q:=by repeat (first | exact nG | refine nH (by assumption) ?_))
  (Ah: ∀p∈mt,kb P w K mg base k p:=by repeat (first | exact nG | refine nH (kb.mono (by assumption) (by first | decide | lia)) ?_))
  (Ai: ∀p∈kt,oO P w K mg base k p:=by repeat (first | exact nG | refine nH (oO.mono (by assumption) (by first | decide | lia)) ?_))
  (het: ∀p∈et,vX mg base p:=by repeat (first | exact nG | refine nH (Top.exc (by assumption) (by assumption)) ?_))
  (Aj: ∀p∈ht,Ad P w K mg base k p.1 p.2:=by repeat (first | exact nG | refine nH (Ad.mono (by assumption) (by first | decide | lia)) ?_))
  (S:rP N (jr st) (fV st):=by exact abL) (hN:N0.length=N.length:=by kernel_rfl):uD P w K mg base (k+1) st sp:=
 ⟨fun F=>Ti F S tab gt bl mt kt et ht body hm Ae Af sT dk Ag Ah Ai het Aj len fun vs H Q E h=>by
  have r:=Ak vs H Q E h
  unfold start at r⊢
  rw[hN] at r;exact r⟩
def Bd(x q:Str)(st:Stmt):Prop:= ∀(kV doc pm:Value) (an:Option Addr) (bE ct:Value) (us:List Value),us.length=(jr st).length->bindArgs (fnOf x q (iU st) (fU st) (fV st) .none kV doc pm an bE ct) ⟨us,[]⟩=pure ((jr st).zip us)
theorem abM(hp:(jr st).length=1)(h: ∀(kV doc pm:Value) (an:Option Addr) (bE ct a0:Value),bindArgs (fnOf x q (iU st) (fU st) (fV st) .none kV doc pm an bE ct) ⟨[a0],[]⟩=pure ((jr st).zip [a0])):Bd x q st:=fun kV doc pm an bE ct us hl=>by
 have e:=hl.trans hp
 rcases us with _ | ⟨a0,_ | ⟨_,_⟩⟩ <;>first | exact h kV doc pm an bE ct _ | exact absurd e (by simp)
theorem abN(hp:(jr st).length=2)(h: ∀(kV doc pm:Value) (an:Option Addr) (bE ct a0 a1:Value),bindArgs (fnOf x q (iU st) (fU st) (fV st) .none kV doc pm an bE ct) ⟨[a0,a1],[]⟩=pure ((jr st).zip [a0,a1])):Bd x q st:=fun kV doc pm an bE ct us hl=>by
 have e:=hl.trans hp
 rcases us with _ | ⟨a0,_ | ⟨a1,_ | ⟨_,_⟩⟩⟩ <;>first | exact h kV doc pm an bE ct _ _ | exact absurd e (by simp)
theorem abO(hp:(jr st).length=3)(h: ∀(kV doc pm:Value) (an:Option Addr) (bE ct a0 a1 a2:Value),bindArgs (fnOf x q (iU st) (fU st) (fV st) .none kV doc pm an bE ct) ⟨[a0,a1,a2],[]⟩=pure ((jr st).zip [a0,a1,a2])):Bd x q st:=fun kV doc pm an bE ct us hl=>by
 have e:=hl.trans hp
 rcases us with _ | ⟨a0,_ | ⟨a1,_ | ⟨a2,_ | ⟨_,_⟩⟩⟩⟩ <;>first | exact h kV doc pm an bE ct _ _ _ | exact absurd e (by simp)
theorem Dj(hb:Bd x q st:=by first | exact abM (by kernel_rfl) fun _ _ _ _ _ _ _=>rfl | exact abN (by kernel_rfl) fun _ _ _ _ _ _ _ _=>rfl | exact abO (by kernel_rfl) fun _ _ _ _ _ _ _ _ _=>rfl | exact adu (by kernel_rfl) fun _ _ _ _ _ _ _ _ _ _=>rfl | exact adv (by kernel_rfl) fun _ _ _ _ _ _ _ _ _ _ _=>rfl | exact adw (by kernel_rfl) fun _ _ _ _ _ _ _ _ _ _ _ _=>rfl | exact adx (by kernel_rfl) fun _ _ _ _ _ _ _ _ _ _ _ _ _=>rfl | exact ady (by kernel_rfl) fun _ _ _ _ _ _=>rfl):Bd x q st:=hb
theorem dT(Z:Top P w K mg base)(D:cf K x st)(R:uD P w K mg base k st sp)(hb:Bd x x st:=by exact Dj):j_ P w K mg base k x sp:=by
 obtain⟨f,fd,a,F⟩:=D
 exact⟨f,fd,_,R.ok F,mg_of Z.X Z.G a,F.kp,F.binds hb⟩
theorem dM(D:eU K C x q st)(c:fF K C)(R:uD P w K mg base k st sp)(hb:Bd x q st:=by exact Dj):kb P w K mg base k (x,C,sp):=by
 obtain⟨f,fd,a,i,F⟩:=D
 exact⟨c,f,fd,_,⟨a,i,F.kp⟩,R.ok F,F.binds hb⟩
theorem dI{cn:Str}(Z:Top P w K mg base)(D:eU K C "__init__" q st)(M:yi K cn C)(R:uD P w K mg base k st sp)(hb:Bd "__init__" q st:=by exact Dj):oO P w K mg base (k+1) (cn,C,sp):=by
 obtain⟨f,fd,a,i,F⟩:=D
 exact⟨k,f,fd,_,zqR _,⟨M.m,a,i,M.k⟩,R.ok F,mg_of Z.X Z.G M.g,F.binds hb⟩
theorem abP{h:Heap}{fa:Addr}(X:K.In h)(G:h.Ns mainGlobals mg)(lY:mg x=some (.ref fa))(D:cf K x st){y:Str}
  (R: ∀base,Top P w K mg base->uD P w K mg base k st sp) (hp:jr st=[y]:=by kernel_rfl)
  (hb: ∀(kV doc pm:Value) (an:Option Addr) (bE ct a0:Value),bindArgs (fnOf x x (iU st) (fU st) (fV st) .none kV doc pm an bE ct) ⟨[a0],[]⟩=pure [(y,a0)]:=by exact fun _ _ _ _ _ _ _=>rfl):
  ∃fd:FuncData,(∀(s:Shared) (v:Value),BindsTo s fd ⟨[v],[]⟩ [(y,v)])/\ ∀base:Heap,K.In base->base.Ns mainGlobals mg->cX P w K mg base se k fa fd [y] (fun vs H Q _=>sp vs H Q E0):=by
 obtain⟨f,fd,e,F⟩:=D
 cases lY.symm.trans (mg_of X G e)
 have F':=F
 obtain⟨oc,od,kV,doc,pm,an,bE,ct,ie,rfl,lk,jQ⟩:=F'.ex
 refine⟨_,fun s v=> .of_eq<|hb kV doc pm an bE ct v,fun base X2 G2=> ?_⟩
 have r:=(R base ⟨X2,G2⟩).ok F
 rw[hp] at r
 exact cX.top r
end
end L2
namespace L2.mw
open PySem PySem.Spec PyProof.Rows L2.B
theorem all_mk{P:Program}{w:World}{K:Frag}{h:Heap}{mg:Str->Option Value}{fa p9 gW Dk yj MD ME Dl:Addr}(X:K.In h)(G:h.Ns mainGlobals mg)(lY:mg "law"=some (.ref fa))
  {abQ:Nat} {abR abS abT abU abV abW:Tok}
  (adz:my K ("BadChange", .ref Dk))
  (adA:my K ("BadFit", .ref yj))
  (adB:my K ("NoPlace", .ref MD))
  (adC:my K ("NoNode", .ref ME))
  (abX:yi K "Walk" p9)
  (abY:yi K "History" gW)
  (nW:pf K p9)
  (dS:iu K gW)
  (adD:rF K ("BadChange",Dk))
  (adE:rF K ("BadFit",yj))
  (adF:rF K ("NoPlace",MD))
  (adG:rF K ("NoNode",ME))
  (a0:cf K "is_whole" Lj)
  (a1:cf K "is_between" Lk)
  (a2:cf K "is_word" Ll)
  (a3:cf K "is_text" Lm)
  (a4:cf K "is_part" Ln)
  (a5:cf K "may_follow" Lo)
  (a6:cf K "need_change" Lp)
  (a7:cf K "part_size" Lq)
  (a8:cf K "sizes" Lr)
  (a9:eU K p9 "__init__" "Walk.__init__" Ls)
  (a10:eU K p9 "word" "Walk.word" Lu)
  (a11:eU K p9 "left" "Walk.left" Lv)
  (a12:eU K p9 "take" "Walk.take" Lw)
  (a13:cf K "add_keep" Lx)
  (a14:cf K "add_texts" Ly)
  (a15:cf K "neat" Lz)
  (a16:cf K "back" LA)
  (a17:cf K "cut_behind" LB)
  (a18:cf K "parts_behind" LC)
  (a19:cf K "then" LD)
  (a20:cf K "joined_all" LF)
  (a21:eU K gW "__init__" "History.__init__" LG)
  (a22:eU K gW "need_node" "History.need_node" LH)
  (a23:eU K gW "need_over" "History.need_over" LI)
  (a24:eU K gW "many" "History.many" LJ)
  (a25:eU K gW "size" "History.size" LK)
  (a26:eU K gW "do" "History.do" LL)
  (a27:eU K gW "edge" "History.edge" LM)
  (a28:eU K gW "along" "History.along" LN)
  (a29:eU K gW "undo" "History.undo" LO)
  (a30:eU K gW "redo" "History.redo" LP)
  (a31:eU K gW "go" "History.go" LQ)
  (a32:eU K gW "upward" "History.upward" LR)
  (a33:eU K gW "way" "History.way" LS)
  (a34:cf K "_law_cell_at" LU)
  (a35:cf K "_law_signs" LV)
  (a36:cf K "_law_text_by" LW)
  (a37:cf K "_law_neat" LX)
  (a38:cf K "_law_change_by" LY)
  (a39:cf K "_law_done" LZ)
  (a40:cf K "_law_part" L0)
  (a41:cf K "_law_leads" L1)
  (a42:cf K "_law_up" L3)
  (a43:cf K "_law_way" L4)
  (a44:cf K "_law_walked" L7)
  (a45:cf K "_law_new" L_)
  (a46:cf K "_law_deed" eO)
  (a47:cf K "_law_sizes_right" Mc)
  (a48:cf K "law" dC)
  (adH:my K ("SIGNS", .str SG))
  (adI:my K ("WAYS_BACK", .ref Dl))
  (acE:K.lookup Dl=some ⟨.type "dict",none, .dict #[⟨PyData.keyHash w.params "keep", .str "keep" abR, .str "keep" abS⟩,⟨PyData.keyHash w.params "cut", .str "cut" abT, .str "put" abU⟩,⟨PyData.keyHash w.params "put", .str "put" abV, .str "cut" abW⟩] abQ,#[]⟩)
  (adJ:nsIn K mainGlobals "bool"=some none)
  (adK:nsIn K mainGlobals "int"=some none)
  (adL:nsIn K mainGlobals "isinstance"=some none)
  (adM:nsIn K mainGlobals "len"=some none)
  (adN:nsIn K mainGlobals "list"=some none)
  (adO:nsIn K mainGlobals "min"=some none)
  (adP:nsIn K mainGlobals "range"=some none)
  (adQ:nsIn K mainGlobals "reversed"=some none)
  (adR:nsIn K mainGlobals "str"=some none)
  (adS:nsIn K mainGlobals "sum"=some none)
  (adT:nsIn K mainGlobals "tuple"=some none)
  (adU:nsIn K mainGlobals "zip"=some none)
  : ∃fd:FuncData,(∀(s:Shared) (v:Value),BindsTo s fd ⟨[v],[]⟩ [("_law_script",v)])/\ ∀base:Heap,K.In base->base.Ns mainGlobals mg->cX P w K mg base se 11 fa fd ["_law_script"] (fun vs H Q _=> (yh K) vs H Q E0):=by
 have adV:vV P w K (Dl,WB):=WQ acE (.cons ⟨_,rfl⟩<|.cons ⟨_,rfl⟩<|.cons ⟨_,rfl⟩ .nil) (by decide)
 refine abP X G lY a48 fun base Z=> ?_
 have T0:=dT Z a0 (dL Z VM @ZV 0)
 have T1:=dT Z a1 (dL Z WS @ZW 1)
 have T2:=dT Z a2 (dL Z VO @ZX 0)
 have T3:=dT Z a3 (dL Z VN @ZY 0)
 have T4:=dT Z a4 (dL Z VQ @ZZ 1)
 have adW:=T4.weak (a:=oU) fun _ _ _ _ h=>VS h
 have T5:=dT Z a5 (dL Z Ux @Z0 0)
 have T6:=dT Z a6 (dL Z (UH (et:=[("BadChange",Dk)])) @Z1 2)
 have T7:=dT Z a7 (dL Z Uy @Z2 0)
 have T8:=dT Z a8 (dL Z UJ @Z3 3)
 have T9:=dI Z a9 abX (dL Z (VY nW) @Z4 0)
 have T10:=dM a10 nW.cl (dL Z (VZ nW) @Z5 0)
 have T11:=dM a11 nW.cl (dL Z (V0 nW) @Z6 1)
 have adY:=T11.weak (a:=nC p9) fun _ _ _ _ h=>V1 h
 have T12:=dM a12 nW.cl (dL Z (V2 nW) @Z7 2)
 have T13:=dT Z a13 (dL Z UR @Z8 0)
 have T14:=dT Z a14 (dL Z UM @Z9 0)
 have T15:=dT Z a15 (dL Z UX @Z_ 1)
 have T16:=dT Z a16 (dL Z Vo @aaa 3)
 have T17:=dT Z a17 (dL Z (V8 (et:=[("BadFit",yj)])) @aab 0)
 have T18:=dT Z a18 (dL Z Wb @aac 3)
 have T19:=dT Z a19 (dL Z (Wu (et:=[("BadFit",yj)]) nW) @aad 4)
 have T20:=dT Z a20 (dL Z N.Xp @aae 5)
 have T21:=dI Z a21 abY (dL Z (N.YQ dS) @aaf 1)
 have T24:=dM a24 dS.cl (dL Z (N.Xt dS) @aai 0)
 have T22:=dM a22 dS.cl (dL Z N.Xu @aag 2)
 have T23:=dM a23 dS.cl (dL Z (N.XD dS) @aah 4)
 have T25:=dM a25 dS.cl (dL Z (N.Xv dS) @aaj 3)
 have T26:=dM a26 dS.cl (dL Z (N.X7 dS) @aak 5)
 have T27:=dM a27 dS.cl (dL Z (N.XB dS) @aal 4)
 have T28:=dM a28 dS.cl (dL Z (N.Ys dS) @aam 6)
 have T29:=dM a29 dS.cl (dL Z (N.YM dS) @aan 7)
 have T30:=dM a30 dS.cl (dL Z (N.YN dS) @aao 7)
 have T32:=dM a32 dS.cl (dL Z (N.Xx dS) @aaq 0)
 have T33:=dM a33 dS.cl (dL Z N.Xy @aar 3)
 have T31:=dM a31 dS.cl (dL Z (N.YO dS) @aap 7)
 have T34:=dT Z a34 (dL Z Uz @aas 0)
 have T35:=dT Z a35 (dL Z N.Zd @aat 0)
 have T36:=dT Z a36 (dL Z N.Zf @aau 1)
 have T37:=dT Z a37 (dL Z N.Zn @aav 0)
 have T38:=dT Z a38 (dL Z N.Zq @aaw 1)
 have T39:=dT Z a39 (dL Z N.WX @aax 0)
 have T40:=dT Z a40 (dL Z N.ZD @aay 0)
 have T41:=dT Z a41 (dL Z N.ZH @aaz 1)
 have T42:=dT Z a42 (dL Z N.ZK @aaA 0)
 have T43:=dT Z a43 (dL Z N.ZN @aaB 1)
 have T44:=dT Z a44 (dL Z abb @aaD 8)
 have T45:=dT Z a45 (dL Z abh @aaG 6)
 have T46:=dT Z a46 (dL Z abq @aaQ 9)
 have T47:=dT Z a47 (dL Z aa7 @aaT 4)
 exact dL Z abF @aa5 10
theorem walk{l:PySem.W.OpenLaw}{q:Program}{loose:List Str}{XP:(Str->Option Value)->Heap->Prop}{YP:World->Heap->Prop}{d:DefRec}{K:Params->Frag}(hn:l.most=some 63)(rZ:d.params.defaults=[])
  (hY: ∀(w:World) (h:Heap),YP w h->(K w.params).In h)
  (F: ∀(w:World) (mg:Str->Option Value) (fa:Addr) (h:Heap),(K w.params).In h->h.Ns mainGlobals mg->mg d.name=some (.ref fa)->
   ∃fd:FuncData,(∀(s:Shared) (u:Value),BindsTo s fd ⟨[u],[]⟩ [("_law_script",u)])/\ ∀base:Heap,(K w.params).In base->base.Ns mainGlobals mg->cX l.prog w (K w.params) mg base se 11 fa fd ["_law_script"] ((fun K=> (fun vs H Q _=> (yh K) vs H Q E0)) (K w.params))):
  PySem.W.WalkO q loose XP YP l.row.toRowW d [] (fun f vs=>PySem.call f vs):=
 L2.PK (n:=63) (k:=11) (x:="_law_script") (CX:=fun _=>se) (sp:=fun w=> (fun K=> (fun vs H Q _=> (yh K) vs H Q E0)) (K w.params)) hn (by decide) rZ ⟨rfl,by decide,by decide⟩ hY F (fun _ _ a ns hl _ hS=> ⟨a,ns,rfl,hS,fun _=>rfl⟩) fun _ _ _ _ _ z=>z
end L2.mw
namespace PySem.W.Fast
def tw2521594285770594651:=()
def tw4587481549746413240:=()
def tw6121657389923824124:=()
def tw10538445989923734268:=()
def tw4407315627934769391:=()
def tw2983662201312811599:=()
def tw14200843244089468311:=()
def tw5075714934619226781:=()
def tw5372444316142041159:=()
def tw13468223329280430730:=()
def tw12836896886054505018:=()
def tw15833525273773303395:=()
def tw11502496933093099989:=()
def tw4501399883949784004:=()
def tw6786852896374468905:=()
def tw1112480890961269932:=()
def tw5564717431578190023:=()
def tw7424402005532051019:=()
def tw2897383703209956073:=()
def tw10653425907186665504:=()
def tw11427684848928052301:=()
def tw5906933504542748480:=()
def tw13399201068455007223:=()
def tw9519877022944317887:=()
def tw4443364831129355501:=()
def tw10718522329334606162:=()
def tw5651066579041819418:=()
def tw11724123065436604418:=()
def tw3341032657202103531:=()
def tw5464949906342264718:=()
def tw8968002128336095552:=()
def tw6496413871691073126:=()
def tw2241044979057630961:=()
def tw9149121914959513695:=()
def tw4316765247265460125:=()
def tw6497760502966766861:=()
def tw1680360866076906549:=()
def tw12110991169733220688:=()
def tw426999087858984929:=()
def tw4207191647435507096:=()
def tw192722483030492341:=()
def tw762275017069981412:=()
def tw15073538270588593569:=()
def tw7443718875410580065:=()
def tw5853915923844704446:=()
def tw5166473452458516045:=()
def tw12817830881287563855:=()
def tw11839186373402353116:=()
def tw7544584685995655539:=()
def tw5902298694307957097:=()
def tw10277152031461552681:=()
def tw8971585097378021727:=()
def tw13745152482439047152:=()
def tw6773102782738849194:=()
def tw6768126001036225794:=()
def tw7572652825377870213:=()
def tw16461951910982347856:=()
def tw12227167789910210669:=()
def tw11583511775722299586:=()
def tw16959357376152390216:=()
def tw17666215118683323562:=()
def tw11635584481659969895:=()
def tw3336994454899725336:=()
def tw5985920144062890160:=()
def tw13262395598453554130:=()
def tw3655897975588458072:=()
def tw14844826282186121294:=()
def tw3998324441273768062:=()
def tw17133523872522837194:=()
def tw4873332978747804841:=()
def tw17033752984739264816:=()
def tw8209630991350959860:=()
def tw2394294069716922518:=()
def tw8635311093963377825:=()
def tw5213650420288648822:=()
def tw4898140073700787032:=()
def tw7140809349199808989:=()
def tw9387093932259447145:=()
def tw3714154676936035147:=()
def tw10826330440590657196:=()
def tw17171572351225497366:=()
def tw940046391114306477:=()
def tw11179394568154284371:=()
def tw14786041621088706224:=()
def tw6128278718432400204:=()
def tw14595591471378772394:=()
def tw17093019128207017851:=()
def tw16803901892079564818:=()
def tw14825773609251146302:=()
def tw1379313352550080333:=()
def tw7025129088078406504:=()
def tw14107696426918379676:=()
def tw2505285431675746638:=()
def tw17290357626937903164:=()
def tw6468848640993844169:=()
def tw11598945356147945208:=()
def tw6416641323703731914:=()
def tw12116716863631534105:=()
def tw3876219297819559227:=()
def tw4627799572624208306:=()
def tw4788089511989811076:=()
def tw11779583958206777702:=()
def tw3878037529668669993:=()
def tw13615674382714832059:=()
def tw12592810875143472852:=()
def tw16112044124612801266:=()
def tw9434198605011777811:=()
def tw7507544075519539354:=()
def tw14116543009900041291:=()
def tw15214446332471629825:=()
def tw13624509901764817805:=()
def tw9159015350703526497:=()
def tw17575824253380492549:=()
def tw9659652181795609412:=()
def tw5233205526930325942:=()
def tw8654585679427041799:=()
def tw2454927084524418851:=()
def tw13741104521318145269:=()
def tw1830180330142921482:=()
def tw16887850445983311071:=()
def tw14441000041672869845:=()
def tw17341271403857455596:=()
def tw17844559135375895908:=()
def tw17425050859655128733:=()
def tw11125016537544706139:=()
def tw18094692155532310262:=()
def tw11968318806311790237:=()
def tw18290823414980554288:=()
def tw4041642653908092501:=()
def tw1179719439426361559:=()
def tw14448124264175838652:=()
def tw11231537999981433608:=()
def tw12483315046066653477:=()
def tw12859430902370232080:=()
def tw5229772180117778387:=()
def tw361181605826577791:=()
def tw13999703414433907630:=()
def tw3319352295662715904:=()
def tw4902890608262615436:=()
def tw12331419466652971770:=()
def tw4403901559040236939:=()
def tw9699398785939044220:=()
def tw9473799480068408802:=()
def tw7136703932494760442:=()
def tw585874538573245931:=()
def tw1459692800061783592:=()
def tw16332561779008186778:=()
def tw3227721886016971546:=()
def tw18149364198287502389:=()
def tw3284816346317600966:=()
def tw11815954802624387038:=()
def tw12301232621096899503:=()
def tw14418784671966870511:=()
def tw814690719707816812:=()
def tw8449211328609773335:=()
def tw15724386192464764478:=()
def tw5854451366159080033:=()
def tw17504896094555752033:=()
def tw5486492787091105596:=()
def tw276847170212938508:=()
def tw1858552922779920070:=()
def tw2294969752079331098:=()
def tw4510406546536887255:=()
def tw10192928949267991045:=()
def tw9893525382598894829:=()
def tw2055131290365893284:=()
def tw15110712714216900177:=()
def tw15716327361394603131:=()
def tw9786666610383368680:=()
def tw1999661322953047805:=()
def tw12060518549473811302:=()
def tw11836033326253220451:=()
def tw11648313693417877467:=()
def tw9638227956762383159:=()
def tw4611073386799155213:=()
def tw11882820422255728083:=()
def tw2267090569033374398:=()
def tw15711133126688288161:=()
def tw6942913009738654444:=()
def tw14784168249030193616:=()
def tw2813838981510619499:=()
def tw10149162409403143957:=()
def tw4838058819704668212:=()
def tw8443790783113479525:=()
def tw17692407578523118229:=()
def tw507379301267739533:=()
def tw9045502971742358070:=()
def tw5152249148697110438:=()
def tw15648222072738315836:=()
def tw6627267313584203089:=()
def tw3531247371819022023:=()
def tw6448205686063623556:=()
def tw15096447432278839680:=()
def tw14763905979304389268:=()
def tw7464251284898958219:=()
def tw15408742553790943941:=()
def tw2121559996019623710:=()
def tw1874185177760625055:=()
def tw8213745668935600979:=()
end PySem.W.Fast
open PySem PySem.W PyProof.Rows
set_option maxRecDepth 100000 in
set_option maxHeartbeats 0 in
theorem PySem.Challenge.cw_inkloom_k24_whole_each_text_holds : PySem.Challenge.rw_inkloom_k24_whole_each_text.Holds := by
 w_on;o_law;k_head;(case hw=>w_witness2)
 k_fill
 refine L2.mw.walk (l:=PySem.Challenge.rw_inkloom_k24_whole_each_text) rfl rfl (fun w h Y=>PySem.W.kIn_of Y) ?F
 case F=>
  intro w mg fa h KX G r9
  refine' L2.mw.all_mk KX G r9 ..
  all_goals try first | refine' L2.dfk .. | refine' L2.abJ .. | refine' L2.yi.mk .. | refine' L2.dmk .. | refine' L2.aey .. | refine' L2.abI .. | refine' L2.rF.mk .. | refine' L2.B.pf.mk (L2.fF.mk ..) .. | refine' L2.B.iu.mk (L2.fF.mk ..) ..
  all_goals try refine' L2.abK ..
  all_goals try first | k_is | k_exc | kernel_rfl
