import PyProof.Rows.All
import Wide.All
import OpenK.AllK
import Wide.FinOn
import Lean
import PyProof.EqAt
import PyProof.EqKinds
import PyProof.TupleCall
import PyProof.Rows.EqDataRows
import PyProof.DictList
import PyProof.FactsAll.dict_1
import PyProof.FactsAll.subtypes_4
import KE.KTryMore
import PyProof.WalksEnum
import PyProof.EnumMake
import PyProof.ListStr
import PyProof.TupleOfStr
import PyProof.Dict
import PyProof.ToksMono
import PyProof.StrCalls6
import PyProof.StrWalks
import PyProof.ConsumeWalk
import PyProof.CallStr
import PyProof.MeetsStr
import KE.KIntText
import PyProof.StrCalls2
import PyProof.StrOps2
import KE.KSortTup
import PyProof.WalksMore
import PyProof.TupleIter
import PyProof.SliceList
import PyProof.ListRange
import KE.KRevIter
import PyProof.ZipIter
import PyProof.ListNew
import KE.KDictSum
import KE.KDictIter
import PyProof.DictTruth
import PyProof.Rows.SetFrom
import PyProof.StrLawsIn
import PyProof.Rows.StrCut
import PySem.Challenge.RW_inkloom_k21_spans_told
set_option Elab.async false
set_option linter.all false
set_option maxRecDepth 100000
set_option compiler.extract_closed false
noncomputable section
theorem de:1≤PySem.sizeLine:=by decide
theorem bS:2≤PySem.sizeLine:=by decide
theorem nU:3≤PySem.sizeLine:=by decide
theorem MN:4≤PySem.sizeLine:=by decide
theorem C9:6≤PySem.sizeLine:=by decide
open PySem.W (Frag InstAt KdkAt callWith_K cellsFrom_some codeRec_of emptyDict exmOne handedIn hasDictIn hideAll hideAll_get instObj kia_one kitOne kitx_dict kitx_list lookIn makesIn methodObj nsIn of_hideAll plainGet plainGet_of plainOver takerIn)
theorem zqT{p:Prop}[Decidable p](h:p):decide p=true:=decide_eq_true h
theorem zqF{p:Prop}[Decidable p](h: ¬p):decide p=false:=decide_eq_false h
theorem zqA{α:Type}{a b:List α}:(a++b).length=a.length+b.length:=List.length_append
theorem zqR(n:Nat):n≤n:=Nat.le_refl n
theorem zqZ(n:Nat):0≤n:=Nat.zero_le n
def zaa:=@List.length_map
def zab:=@List.mem_cons
def zac:=@List.not_mem_nil
def zad:=@Bool.and_eq_true
def zae:=@Nat.ne_of_lt
def zaf:=@List.mem_singleton
def zag:=@List.mem_append
def zah:=@List.size_toArray
def zai:=@List.getElem?_map
def zaj:=@List.append_nil
def zak:=@Option.some.inj
def zal:=@List.map_cons
def zam:=@List.getElem?_eq_some_iff
def zan:=@Bool.false_ne_true
def zao:=@List.mem_cons_of_mem
def zap:=@Int.emod_lt_of_pos
def zaq:=@Int.emod_nonneg
def zar:=@Nat.le_trans
def zas:=@List.mem_cons_self
def zat:=@List.map_append
def zau:=@List.length_take
def zav:=@List.mem_of_getElem?
def zaw:=@Nat.lt_of_lt_of_le
def zax:=@List.mem_map
def zay:=@List.getElem?_eq_getElem
def zaz:=@List.mem_append_right
def zaA:=@List.length_cons
def zaB:=@List.map_map
def zaC:=@Int.eq_ofNat_of_zero_le
def zaD:=@Nat.lt_irrefl
def zaE:=@List.length_filter_le
def zaF:=@List.getElem_mem
def zaG:=@List.take_length
def zaH:=@List.find?_cons
def zaI:=@Int.le_refl
def zaJ:=@Bool.not_eq_true'
def zaK:=@Nat.lt_succ_self
def zaL:=@Nat.le_succ
def zaM:=@List.map_nil
def zaN:=@Nat.lt_succ_of_lt
def zaO:=@Bool.false_xor
def zaP:=@Array.getElem?_eq_getElem
def zaQ:=@List.filter_cons_of_pos
def zaR:=@List.filter_cons_of_neg
def zaS:=@List.mem_append_left
def zaT:=@List.length_drop
def zaU:=@List.length_eq_zero_iff
def zaV:=@List.mem_filter
def zaW:=@List.lookup_cons
def zaX:=@Bool.false_eq_true
def zaY:=@List.all_eq_true
def zaZ:=@Int.natCast_add
def zba:=@List.mem_map_of_mem
def zbb:=@Nat.le_of_lt
def zbc:=@Array.length_toList
def zbd:=@Nat.le_of_eq
def zbe:=@List.all_cons
def zbf:=@List.append_assoc
def zbg:=@Bool.true_xor
def zbh:=@List.take_of_length_le
def zbi:=@List.cons.inj
def zbj:=@List.take_add_one
def zbk:=@List.mem_range
def zbl:=@List.filterMap_cons
def zbm:=@Bool.false_and
def zbn:=@Bool.eq_iff_iff
def zbo:=@List.getElem?_append_right
def zbp:=@Bool.or_false
def zbq:=@List.any_cons
def zbr:=@List.replicate_succ
def zbs:=@List.length_singleton
def zbt:=@Bool.and_false
def zbu:=@List.length_range
def zbv:=@Nat.add_zero
def zbw:=@List.filter_append
def zbx:=@Nat.zero_add
def zby:=@List.take_append_drop
def zbz:=@List.nodup_cons
def zbA:=@List.of_mem_zip
def zbB:=@Option.isSome_iff_exists
def zbC:=@List.flatten_cons
def zbD:=@Nat.le_of_not_lt
def zbE:=@List.filter_cons
def zbF:=@Option.map_some
def zbG:=@Option.bind_some
def zbH:=@List.getElem_of_mem
def zbI:=@List.pairwise_iff_getElem
def zbJ:=@List.mem_iff_getElem
def zbK:=@Nat.not_lt_of_le
def zbL:=@Array.getElem?_eq_none
def zbM:=@List.ext_getElem?
def zbN:=@List.getElem?_set
def zbO:=@List.getElem?_set_self
def zbP:=@List.mem_filterMap
def zbQ:=@List.getElem?_append_left
def zbR:=@Option.ne_none_iff_exists'
def zbS:=@Array.eq_empty_of_size_eq_zero
def zbT:=@List.drop_eq_getElem_cons
def zbU:=@List.pairwise_cons
def zbV:=@Array.getElem_toList
def zbW:=@List.getD_eq_getElem?_getD
def zbX:=@List.getElem?_of_mem
def zbY:=@List.getLast?_append
def zbZ:=@Nat.add_right_comm
namespace L2
open PySem PySem.Spec PyProof.Rows
abbrev Key:=Sum Int Str
def l_:Key->Value->Bool
 |.inl k,v=>Value.isInt k v
 |.inr x,v=>Value.isStrOf x v
def MO(w:World):Key->Int
 |.inl k=>hashInt k
 |.inr x=>hashStr w x
theorem i4:∀{k:Key}{v:Value},l_ k v=true->(∃i t,k=Sum.inl i/\v=Value.int i t)\/(∃x t,k=Sum.inr x/\v=Value.str x t)
 |.inl i,v,h=>by
  obtain⟨t,e⟩:=Value.isInt_shape (k:=i) (v:=v) h;exact .inl ⟨i,t,rfl,e⟩
 |.inr x,v,h=>by
  obtain⟨t,e⟩:=Value.isStrOf_shape (x:=x) (v:=v) h;exact .inr ⟨x,t,rfl,e⟩
theorem MP(i:Int)(t:Tok):l_ (.inl i) (.int i t)=true:=by simp[l_,Value.isInt]
theorem MQ(x:Str)(t:Tok):l_ (.inr x) (.str x t)=true:=by simp[l_,Value.isStrOf]
theorem MR(a b:Int):decide ((Sum.inl a:Key)=Sum.inl b)=(a==b):=by
 by_cases e:a=b
 ·subst e;simp
 ·have h:¬(Sum.inl a:Key)=Sum.inl b:=fun q=>e (Sum.inl.inj q);rw[zqF h];exact(beq_eq_false_iff_ne.mpr e).symm
theorem MS(a b:Str):decide ((Sum.inr a:Key)=Sum.inr b)=decide (a=b):=by
 by_cases e:a=b
 ·subst e;simp
 ·have h:¬(Sum.inr a:Key)=Sum.inr b:=fun q=>e (Sum.inr.inj q);rw[zqF h,zqF e]
theorem MT(a:Int)(b:Str):decide ((Sum.inl a:Key)=Sum.inr b)=false:=zqF (fun q=>nomatch q)
theorem MU(a:Str)(b:Int):decide ((Sum.inr a:Key)=Sum.inl b)=false:=zqF (fun q=>nomatch q)
def cI(prog:Program)(w:World):PySem.KeyKind prog w Key where
 is:=l_
 hash:=MO w
 inj:=fun v a b ha hb=>by
  rcases i4 ha with⟨i,t,rfl,rfl⟩|⟨x,t,rfl,rfl⟩
  ·rcases i4 hb with⟨j,u,rfl,e⟩|⟨y,u,rfl,e⟩
   ·injection e with e1 _;rw[e1]
   ·exact nomatch e
  ·rcases i4 hb with⟨j,u,rfl,e⟩|⟨y,u,rfl,e⟩
   ·exact nomatch e
   ·injection e with e1 _;rw[e1]
 byValue:=fun k v h=>by
  rcases i4 h with⟨i,t,rfl,rfl⟩|⟨x,t,rfl,rfl⟩ <;>rfl
 pyHash:=fun hv h=>by
  rcases i4 hv with⟨i,t,rfl,rfl⟩|⟨x,t,rfl,rfl⟩
  ·exact wpAny_pyHash_int h
  ·exact wpAny_pyHash_str h
 eqBool:=fun hu hv h=>by
  rcases i4 hu with⟨i,t,rfl,rfl⟩|⟨x,t,rfl,rfl⟩
  ·rcases i4 hv with⟨j,u,rfl,rfl⟩|⟨y,u,rfl,rfl⟩
   ·rw[MR] at h;exact wpAny_eqBool_int h
   ·rw[MT] at h;exact SeqAt.EqAt.int_str i t y u _ _ _ _ h
  ·rcases i4 hv with⟨j,u,rfl,rfl⟩|⟨y,u,rfl,rfl⟩
   ·rw[MU] at h;exact SeqAt.EqAt.str_int x t j u _ _ _ _ h
   ·rw[MS] at h;exact wpAny_eqBool_str h
 «strs»:=fun k x t v h=>by
  rcases i4 h with⟨i,u,rfl,e⟩|⟨y,u,rfl,e⟩
  ·exact nomatch e
  ·injection e with e1 _
   subst e1;cases v<;>rfl
theorem C_(prog:Program)(w:World)(i:Int)(t:Tok):(cI prog w).is (.inl i) (.int i t)=true:=MP i t
theorem Dc(prog:Program)(w:World)(x:Str)(t:Tok):(cI prog w).is (.inr x) (.str x t)=true:=MQ x t
inductive V where
 |aD|bl (b:Bool)|int (i:Int)|str (x:Str)|e9 (b:Array UInt8)|ma (b:UInt64)|ref (a:Addr)|ty (n:String)
 deriving DecidableEq
def RelV:V->Value->Prop
 |.aD,u=>u=Value.none
 |.bl b,u=>u=Value.bool b
 |.int i,u=>∃t,u=Value.int i t
 |.str x,u=>∃t,u=Value.str x t
 |.e9 b,u=>∃t,u=Value.bytes b t
 |.ma b,u=>∃t,u=Value.float b t
 |.ref a,u=>u=Value.ref a
 |.ty n,u=>u=Value.type n
abbrev Vals:List V->List Value->Prop:=Paired RelV
theorem Vals.length{xs:List V}{us:List Value}(r:Vals xs us):xs.length=us.length:=Paired.length r
theorem Vals.get:∀{xs:List V}{us:List Value}{i:Nat}{x:V},Vals xs us->xs[i]?=some x->∃u,us[i]?=some u/\RelV x u
 |_,_,_,_,.nil,e=>by simp at e
 |_,_,0,_,.cons r _,e=>by simp at e;subst e;exact⟨_,rfl,r⟩
 |_,_,i+1,x,.cons _ t,e=>by
  obtain⟨u,h1,h2⟩:=Vals.get (i:=i) (x:=x) t (by simpa using e)
  exact⟨u,by simpa using h1,h2⟩
theorem Vals.set{x:V}{u:Value}(r:RelV x u):∀{xs:List V}{us:List Value} (i:Nat),Vals xs us->Vals (xs.set i x) (us.set i u)
 |_,_,_,.nil=>.nil
 |_,_,0,.cons _ t=>.cons r t
 |_,_,i+1,.cons q t=>.cons q (Vals.set r i t)
theorem Vals.append:∀{xs ys:List V}{us ws:List Value},Vals xs us->Vals ys ws->Vals (xs++ys) (us++ws)
 |_,_,_,_,.nil,s=>s
 |_,_,_,_,.cons r t,s=>.cons r (Vals.append t s)
theorem Vals.take:∀{xs:List V}{us:List Value} (n:Nat),Vals xs us->Vals (xs.take n) (us.take n)
 |_,_,0,_=>.nil
 |_,_,_+1,.nil=>.nil
 |_,_,n+1,.cons r t=>.cons r (Vals.take n t)
theorem Vals.drop:∀{xs:List V}{us:List Value} (n:Nat),Vals xs us->Vals (xs.drop n) (us.drop n)
 |_,_,0,r=>r
 |_,_,_+1,.nil=>.nil
 |_,_,n+1,.cons _ t=>Vals.drop n t
def e_:Option V->Option Value->Prop
 |some v,some u=>RelV v u
 |none,none=>True
 |_,_=>False
def KV{κ:Type}:List (κ×V)->List (κ×Value)->Prop:=Paired fun(p:κ×V) (q:κ×Value)=>p.1=q.1/\RelV p.2 q.2
def kV:Key->V
 |.inl i=>.int i
 |.inr x=>.str x
inductive HO where
 |lst (xs:List V)
 |tup (xs:List V)
 |dK (kvs:List (Key×V))|dT (kvs:List (List Key×V))
 |set (S:Int->Bool) (n:Nat)
 |ins (C dx:Addr) (fs:List (Str×V))
 |own (x:Addr)
 |xd (fs:List (Str×V))
 |met (f x:Addr)
 |fG (lo hi:Int)
 |a_ (o:Obj) (u:HO)
 |jI (ps:Array Value)
 |ext (φ:Heap->Prop)
abbrev Hp:=Addr->Option HO
def upd(H:Hp)(a:Addr)(o:HO):Hp:=fun b=>if b=a then some o else H b
theorem au{H:Hp}{a:Addr}{o:HO}:upd H a o a=some o:=by unfold upd;rw[if_pos rfl]
theorem ax{H:Hp}{a b:Addr}{o:HO}(h:b≠a):upd H a o b=H b:=by unfold upd;rw[if_neg h]
theorem i5{H:Hp}{a b:Addr}{o u:HO}(h:H a=some o)(h':H b=some u)(d:o≠u):a≠b:=by
 intro e;subst e;rw[h] at h';exact d (zak h')
theorem aL{H:Hp}{a b:Addr}{o:HO}(h:H a=some o)(h':H b=none):a≠b:=by
 intro e;subst e;rw[h] at h';cases h'
section
variable (P:Program) (w:World)
def bT(H:Hp)(h:Heap)(a:Addr):HO->Prop
 |.lst xs=>xs.length<=sizeLine/\∃(aq:List Value) (n:Nat),Vals xs aq/\h.get? a=some {cls:=.type "list",data:=.seq aq.toArray n}
 |.tup xs=>xs.length<=sizeLine/\∃aq:List Value,Vals xs aq/\IsTup h a aq.toArray
 |.dK kvs=>kvs.length<=sizeLine/\(a==sysModules)=false/\∃vs,KV kvs vs/\h.DictOf (cI P w) a vs
 |.dT kvs=>kvs.length<=sizeLine/\(a==sysModules)=false/\∃xs:List (List Key×Addr×Value),
   Paired (fun(p:List Key×V) (q:List Key×Addr×Value)=>p.1=q.1/\H q.2.1=some (.tup<|p.1.map kV)/\RelV p.2 q.2.2) kvs xs/\
   ∃o es ep,h.get? a=some o/\o.ExactDict/\o.data=.dict es ep/\es.toList=xs.map (entryOfKey<|tupleKind<|cI P w)/\(xs.map (·.1)).Nodup
 |.set S n=>h.SetOf (intKind P w) a S n
 |.ins C dx fs=>H dx=some (.own a)/\fs.length<=1000/\dx≠a/\h.get? a=some (instObj C dx)/\
   ∃mA,h.Ns1 dx mA/\(∀f,e_ (fs.lookup f)<|mA f)/\PySem.Within mA (fs.map (·.1))
 |.own _=>∃o,h.get? a=some o
 |.xd fs=>∃mA,h.Ns1 a mA/\∀f,e_ (fs.lookup f) (mA f)
 |.fG lo hi=>∃t u v,h.get? a=some {cls:=.type "range",data:=.fields #[.int lo t,.int hi u,.int 1 v]}
 |.a_ o u=>h.get? a=some o/\bT H h a u
 |.jI ps=>h.get? a=some {cls:=.none,data:=.fields ps}
 |.met f x=>h.get? a=some (methodObj (.ref f)<|.ref x)
 |.ext φ=>φ h/\(∃o,h.get? a=some o)/\∀h1 h2:Heap,φ h1->(∀o,h1.get? a=some o->h2.get? a=some o)->φ h2
def bI(H:Hp)(h:Heap):Prop:= ∀a o,H a=some o->bT P w H h a o
end
section
variable {P:Program}{w:World}{H H':Hp}{h h':Heap}{a:Addr}{o:HO}
theorem bT.lt(x:bT P w H h a o):a<h.objs.size:=by
 cases o with
 |lst xs=>obtain⟨_,_,_,_,e⟩:=x;exact Heap.lt_size e
 |tup xs=>obtain⟨_,_,_,p⟩:=x;exact p.lt
 |dK kvs=>obtain⟨_,_,_,_,o,_,_,e,_⟩:=x;exact Heap.lt_size e
 |dT kvs=>obtain⟨_,_,_,_,o,_,_,e,_⟩:=x;exact Heap.lt_size e
 |set S n=>obtain⟨o,_,_,_,e,_⟩:=x;exact Heap.lt_size e
 |ins C dx fs=>obtain⟨_,_,_,e,_⟩:=x;exact Heap.lt_size e
 |own y=>obtain⟨_,e⟩:=x;exact Heap.lt_size e
 |xd fs=>obtain⟨_,⟨_,_,_,e,_⟩,_⟩:=x;exact Heap.lt_size e
 |fG lo hi=>obtain⟨_,_,_,e⟩:=x;exact Heap.lt_size e
 |a_ ob u=>obtain⟨e,_⟩:=x;exact Heap.lt_size e
 |jI ps=>exact Heap.lt_size (show h.get? a=some _ from x)
 |met f y=>exact Heap.lt_size (show h.get? a=some _ from x)
 |ext φ=>obtain⟨_,⟨_,e⟩,_⟩:=x;exact Heap.lt_size e
theorem Paired.b9{α β:Type}{F G:α->β->Prop}:∀{l₁:List α}{l₂:List β},Paired F l₁ l₂->(∀a b,F a b->G a b)->Paired G l₁ l₂
 |_,_,.nil,_=>.nil
 |_,_,.cons r t,f=>.cons (f _ _ r) (Paired.b9 t f)
theorem bT.i6(x:bT P w H h a o)(k:∀b u,(b=a\/H b=some (.own a))->h.get? b=some u->h'.get? b=some u)
  (ho:∀b,H b=some (.own a)->H' b=some (.own a)) (ht:∀b xs,H b=some (.tup xs)->H' b=some (.tup xs)):bT P w H' h' a o:=by
 induction o with
 |lst xs=>obtain⟨z,aq,n,r,e⟩:=x;exact⟨z,aq,n,r,k _ _ (.inl rfl) e⟩
 |tup xs=>obtain⟨z,aq,r,ob,e,c⟩:=x;exact⟨z,aq,r,ob,k _ _ (.inl rfl) e,c⟩
 |dK kvs=>obtain⟨z,y,vs,r,ob,es,ep,e,c⟩:=x;exact⟨z,y,vs,r,ob,es,ep,k _ _ (.inl rfl) e,c⟩
 |dT kvs=>
  obtain⟨z,y,xs,r,ob,es,ep,e,c⟩:=x;exact⟨z,y,xs,Paired.b9 r fun p q z=>⟨z.1,ht _ _ z.2.1,z.2.2⟩,ob,es,ep,k _ _ (.inl rfl) e,c⟩
 |set S n=>obtain⟨ob,es,ep,t,e,c⟩:=x;exact⟨ob,es,ep,t,k _ _ (.inl rfl) e,c⟩
 |ins C dx fs=>
  obtain⟨d,z,ne,e,mA,⟨od,es,ep,e2,c⟩,r⟩:=x;exact⟨ho _ d,z,ne,k _ _ (.inl rfl) e,mA,⟨od,es,ep,k _ _ (.inr d) e2,c⟩,r⟩
 |own y=>obtain⟨ob,e⟩:=x;exact⟨ob,k _ _ (.inl rfl) e⟩
 |xd fs=>obtain⟨mA,⟨od,es,ep,e,c⟩,r⟩:=x;exact⟨mA,⟨od,es,ep,k _ _ (.inl rfl) e,c⟩,r⟩
 |fG lo hi=>obtain⟨t,u,v,e⟩:=x;exact⟨t,u,v,k _ _ (.inl rfl) e⟩
 |a_ ob u ih=>obtain⟨e,q⟩:=x;exact⟨k _ _ (.inl rfl) e,ih q⟩
 |jI ps=>
  have e:h.get? a=some {cls:=.none,data:=.fields ps}:=x;show h'.get? a=some {cls:=.none,data:=.fields ps};exact k a _ (.inl rfl) e
 |met f y=>
  have e:h.get? a=some (methodObj (.ref f)<|.ref y):=x;show h'.get? a=some (methodObj (.ref f)<|.ref y);exact k a _ (.inl rfl) e
 |ext φ=>obtain⟨p,⟨o,e⟩,st⟩:=x;exact⟨st _ _ p fun o q=>k _ _ (.inl rfl) q,⟨o,k _ _ (.inl rfl) e⟩,st⟩
theorem bI.lt(x:bI P w H h)(e:H a=some o):a<h.objs.size:=(x a o e).lt
theorem bI.fresh(x:bI P w H h)(e:h.objs.size<=a):H a=none:=by
 cases q:H a with
 |none=>rfl
 |some u=>exact absurd (zaw (x.lt q) e) (zaD _)
theorem bI.kept(x:bI P w H h)(k:∀b u,h.get? b=some u->h'.get? b=some u):bI P w H h':=fun a o e=>
 (x a o e).i6 (fun b u _ q=>k b u q) (fun _ q=>q) fun _ _ q=>q
theorem bI.laid(x:bI P w H h)(k:∀b u,h.get? b=some u->h'.get? b=some u)(hp:h.objs.size<=a)(new:bT P w (upd H a o) h' a o):bI P w (upd H a o) h':=fun b u e=>by
 have hn:=x.fresh hp;by_cases hb:b=a
 ·subst hb;rw[au] at e;cases e;exact new
 ·rw[ax hb] at e;exact(x b u e).i6 (fun c v _ q=>k c v q) (fun c q=>by rw[ax<|aL q hn];exact q) fun c xs q=>by rw[ax<|aL q hn];exact q
end
def Rd(H:Hp)(a:Addr)(u:HO):Prop:=H a=some u\/∃o,H a=some (.a_ o u)
theorem Rd.ok{P:Program}{w:World}{H:Hp}{h:Heap}{a:Addr}{u:HO}(r:Rd H a u)(x:bI P w H h):bT P w H h a u:=by
 rcases r with r|⟨o,r⟩
 ·exact x a u r
 ·obtain⟨_,q⟩:=x a _ r;exact q
def qf:Option HO->Prop
 |some (.lst _)=>True
 |some (.dK _)=>True
 |some (.dT _)=>True
 |some (.set _ _)=>True
 |some (.ins _ _ _)=>True
 |some (.ext _)=>True
 |_=>False
section
variable {P:Program}{w:World}{H:Hp}{h h':Heap}{x e:Addr}{o':HO}
theorem bI.write(ok:bI P w H h)(mu:qf (H x))(he:e=x\/H e=some (.own x))(k:∀b u,b≠e->h.get? b=some u->h'.get? b=some u)(qg:∃u,h'.get? e=some u)
  (new:bT P w (upd H x o') h' x o'):bI P w (upd H x o') h':=fun b u q=>by
 have Dd:∀c y,H c=some (.own y)->c≠x:=fun c y r z=>by subst z;rw[r] at mu;exact mu
 have MV:∀c xs,H c=some (.tup xs)->c≠x:=fun c xs r z=>by subst z;rw[r] at mu;exact mu
 by_cases hb:b=x
 ·subst hb;rw[au] at q;cases q;exact new
 ·rw[ax hb] at q;by_cases i7:b=e
  ·have q':H b=some (.own x):=by
    rcases he with z|z
    ·exact absurd (i7.trans z) hb
    ·rw[i7];exact z
   rw[q] at q';cases q';obtain⟨v,hv⟩:=qg;exact⟨v,by rw[i7];exact hv⟩
  ·refine(ok b u q).i6 (fun c v hc r=>k c v ?_ r) (fun c r=>by rw[ax<|Dd c b r];exact r) fun c xs r=>by rw[ax<|MV c xs r];exact r
   rcases hc with rfl|hc
   ·exact i7
   ·rintro rfl;rcases he with z|z
    ·exact Dd c b hc z
    ·rw[hc] at z;cases z;exact hb rfl
end
structure Un (fs ex:List Addr) (H H':Hp) (h h':Heap):Prop where
 keep:∀b o,h.get? b=some o->H b=none->b∉fs->b∉ex->h'.get? b=some o
 slot:∀b o,h.get? b=some o->H b=none->b∈fs->b∉ex->∃sl,h'.get? b=some {o with slots:=sl}
 free:∀b o,h.get? b=some o->H b=none->b∉ex->H' b=none
 there:∀b o,h.get? b=some o->b∉ex->∃o',h'.get? b=some o'
 eA:∀b xs,H b=some (.tup xs)->H' b=some (.tup xs)
 d4:∀b o u,H b=some (.a_ o u)->H' b=some (.a_ o u)
 fg:∀b ps,H b=some (.jI ps)->∃more,H' b=some (.jI<|ps++more)
section
variable {fs MW ex ex':List Addr}{H H1 H2:Hp}{h h1 h2 h':Heap}{a x e:Addr}{o:HO}
theorem Un.any(u:Un fs ex H H1 h h1){b:Addr}{ob:Obj}(q:h.get? b=some ob)(n:H b=none)(hx:b∉ex):∃sl,h1.get? b=some {ob with slots:=sl}:=by
 by_cases hb:b∈fs
 ·exact u.slot b ob q n hb hx
 ·exact⟨ob.slots,u.keep b ob q n hb hx⟩
theorem Un.kept(k:∀b u,h.get? b=some u->h'.get? b=some u):Un fs ex H H h h':=
 ⟨fun b ob q _ _ _=>k b ob q,fun b ob q _ _ _=>⟨ob.slots,k b ob q⟩,fun _ _ _ n _=>n,fun b ob q _=>⟨ob,k b ob q⟩,fun _ _ q=>q,fun _ _ _ q=>q,fun _ ps q=>⟨#[],by rw[q];simp⟩⟩
theorem Un.refl:Un fs ex H H h h:=Un.kept fun _ _ q=>q
theorem Un.laid(k:∀b u,h.get? b=some u->h'.get? b=some u)(hp:h.objs.size<=a)(hn:H a=none):Un fs ex H (upd H a o) h h' where
 keep:=fun b u q _ _ _=>k b u q
 slot:=fun b u q _ _ _=>⟨u.slots,k b u q⟩
 free:=fun b u q n _=>by rw[ax<|zae<|zaw (Heap.lt_size q) hp];exact n
 there:=fun b u q _=>⟨u,k b u q⟩
 eA:=fun b xs q=>by rw[ax<|aL q hn];exact q
 d4:=fun b u xs q=>by rw[ax<|aL q hn];exact q
 fg:=fun b ps q=>⟨#[],by rw[ax<|aL q hn,q];simp⟩
theorem Un.write(mu:qf (H x))(he:e=x\/H e=some (.own x))(k:∀b u,b≠e->h.get? b=some u->h'.get? b=some u)(qg:∃u,h'.get? e=some u):Un fs ex H (upd H x o) h h':=by
 have hx:∀b,H b=none->b≠x:=fun b n z=>by subst z;rw[n] at mu;exact mu
 have hb:∀b,H b=none->b≠e:=fun b n z=>by
  subst z;rcases he with r|r
  ·exact hx b n r
  ·rw[n] at r;cases r
 have hm:∀b u,H b=some u-> ¬qf (some u)->b≠x:=fun b u q nm z=>by subst z;rw[q] at mu;exact nm mu
 refine⟨fun b u q n _ _=>k b u (hb b n) q,fun b u q n _ _=>⟨u.slots,k b u (hb b n) q⟩,fun b u q n _=>by rw[ax (hx b n)];exact n,fun b u q _=>?_,
  fun b xs q=>by rw[ax (hm b _ q fun z=>z)];exact q,fun b u xs q=>by rw[ax (hm b _ q fun z=>z)];exact q,fun b ps q=>⟨#[],by rw[ax (hm b _ q fun z=>z),q];simp⟩⟩
 by_cases i7:b=e
 ·subst i7;exact qg
 ·exact⟨u,k b u i7 q⟩
end
def jJ(h:Heap)(H:Hp):List Addr:=(List.range h.objs.size).filter fun a=>(H a).isSome
def ky(h:Heap)(H:Hp):Heap:=hideAll h (jJ h H)
theorem MZ(h:Heap)(H:Hp):(ky h H).objs.size=h.objs.size:=PySem.W.hideAll_size _ _
theorem M0{h:Heap}{H:Hp}{b:Addr}{o:Obj}(e:h.get? b=some o)(n:H b=none):(ky h H).get? b=some o:=
 hideAll_get _ e fun hm=>by
  have q:(H b).isSome=true:=(zaV.mp hm).2;rw[n] at q;simp at q
theorem M1{h:Heap}{H:Hp}{b:Addr}{o:Obj}(e:(ky h H).get? b=some o):h.get? b=some o/\H b=none:=by
 have e':h.get? b=some o:=of_hideAll (jJ h H) e;refine⟨e',?_⟩;cases q:H b with
 |none=>rfl
 |some x=>
  have hm:b∈jJ h H:=zaV.mpr ⟨zbk.mpr<|Heap.lt_size e',by simp[q]⟩
  have z:(ky h H).get? b=none:=PySem.W.hideAll_none (jJ h H) hm;rw[z] at e;cases e
structure Mod (K:Frag) (mg:Str->Option Value) (base:Heap):Prop where
 nV:K.In base
 glob:base.Ns mainGlobals mg
 blt:∃mb,base.Ns builtinsNs mb/\∀x:Str,x≠"__name__"->mb x=bootBuiltins x
 nolimit:base.NoLimit
structure Cx where
 prog:Program
 w:World
 K:Frag
 mg:Str->Option Value
 base:Heap
 A:Around
 N:List Str
 s₀:Shared
 H₀:Hp
 env:Env
 outer:List Env
 stack:List Env
 ex:List Addr
 fn:Str->Bool
 calm:Bool
 pn:List (Addr×Obj)
 xe:Value->Shared->Prop
def bj(l:List Env):List Addr:=l.filterMap (·.frame)
abbrev Cx.fs(X:Cx):List Addr:=bj X.outer
def uQ(sc:Scope)(x:Str):Prop:=sc.names.lookup x=some .local\/sc.names.lookup x=some .cell\/sc.names.lookup x=some .free
def Loc(sc:Scope)(x:Str):Prop:=sc.names.lookup x=some .local\/sc.names.lookup x=some .cell
def Look(env:Env)(h:Heap)(m:Str->Option Value)(x:Str)(u:Value):Prop:=
 (env.kindOf x=some .local/\m x=some u)\/((env.kindOf x=some .cell\/env.kindOf x=some .free)/\∃c,env.cells.lookup x=some c/\h.IsCell c (some u))
structure Cx.Ok (X:Cx):Prop where
 mod:Mod X.K X.mg X.base
 kind:X.env.scope.kind=.function
 glob:X.env.globals=mainGlobals
 blt:X.env.builtins=builtinsNs
 above:X.s₀.heap.objs.size<=X.env.locals
 inj:∀x y c,X.env.cells.lookup x=some c->X.env.cells.lookup y=some c->x=y
 has:∀x,(X.env.kindOf x=some .cell\/X.env.kindOf x=some .free)->∃c,X.env.cells.lookup x=some c
 uR:∀x c,X.fn x=true->X.env.cells.lookup x=some c->X.s₀.heap.objs.size<=c
 hd:X.calm=true->X.A.handled=none
 frames:X.A.frames=some X.stack
 iw:X.stack=X.outer\/(X.stack=X.env::X.outer/\X.env.frame=some X.env.locals)
 M3:∀b∈X.ex,b≠X.env.locals/\∀x c,X.env.cells.lookup x=some c->c≠b
 bs:∀b o,X.base.get? b=some o->X.s₀.heap.get? b=some o/\X.H₀ b=none
 mf:X.base.objs.size<=X.s₀.heap.objs.size
 uS:∀b o,X.base.get? b=some o->b∉X.ex
 uT:∀b∈X.ex,b∉X.fs
 iy:X.s₀.heap.FunFrames X.base X.outer
 nW:∀b∈X.fs,X.H₀ b=none
structure Inv (X:Cx) (pins:List (Addr×Obj)) (σ:List (Option V)) (H:Hp) (s:Shared):Prop where
 ok:X.Ok
 os:s.os=X.s₀.os
 bare:AllBare s.gens
 base:Un X.fs X.ex X.H₀ H X.s₀.heap s.heap
 loc:∃m,s.heap.Ns X.env.locals m/\∀(i:Nat) (x:Str) (v:V),X.N[i]?=some x->σ[i]?=some (some v)->uQ X.env.scope x->∃u,RelV v u/\Look X.env s.heap m x u
 cell:∀x c,X.env.cells.lookup x=some c->∃v,s.heap.IsCell c v
 free:H X.env.locals=none
 eN:∀x c,X.env.cells.lookup x=some c->H c=none
 pin:∀p∈X.pn++pins,s.heap.get? p.1=some p.2/\H p.1=none/\p.1≠X.env.locals/\p.1∉X.fs/\∀v,p.2.data≠ .cell v
 az:bI X.prog X.w H s.heap
 len:σ.length=X.N.length
section
variable {X:Cx}{pins:List (Addr×Obj)}{σ:List (Option V)}{H H':Hp}{s:Shared}{h':Heap}
theorem Cx.Ok.M4(ok:X.Ok){b:Addr}{o:Obj}(e:X.base.get? b=some o):b∉X.fs:=fun hb=>by
 have:=(ok.iy.mem hb).1;rw[e] at this;cases this
theorem Inv.bs(I:Inv X pins σ H s):∀b o,X.base.get? b=some o->s.heap.get? b=some o/\H b=none:=fun b o e=>
 ⟨I.base.keep b o (I.ok.bs b o e).1 (I.ok.bs b o e).2 (I.ok.M4 e)<|I.ok.uS b o e,I.base.free b o (I.ok.bs b o e).1 (I.ok.bs b o e).2<|I.ok.uS b o e⟩
theorem Inv.bk(I:Inv X pins σ H s):∀b o,X.base.get? b=some o->s.heap.get? b=some o:=fun b o e=>(I.bs b o e).1
theorem Inv.mod(I:Inv X pins σ H s):Mod X.K X.mg X.base:=I.ok.mod
theorem Inv.cB(I:Inv X pins σ H s):X.K.In s.heap:=I.ok.mod.nV.keeps I.bk
theorem Inv.lt(I:Inv X pins σ H s):X.env.locals<s.heap.objs.size:=let ⟨_,hn,_⟩:=I.loc;hn.lt
theorem Inv.sz(I:Inv X pins σ H s):X.s₀.heap.objs.size<=s.heap.objs.size:=zar I.ok.above (zbb I.lt)
theorem Inv.De(I:Inv X pins σ H s){a:Addr}(h:s.heap.objs.size<=a):a∉X.fs:=fun hb=>by
 obtain⟨_,o,ho,_⟩:=I.ok.iy.mem hb;exact absurd (zaw (Heap.lt_size ho)<|zar I.sz h)<|zaD _
theorem Inv.nX(I:Inv X pins σ H s):∀x c,X.env.cells.lookup x=some c->c≠X.env.locals:=fun x c e z=>by
 obtain⟨v,o,ho,hd⟩:=I.cell x c e;obtain⟨m,⟨o',es,ep,dQ,kz,_⟩,_⟩:=I.loc;rw[z,dQ] at ho;cases ho;rw[kz] at hd;cases hd
theorem Inv.iy(I:Inv X pins σ H s):s.heap.FunFrames X.base X.outer:=by
 have all:∀(l:List Env),(∀b∈bj l,b∈X.fs)->X.s₀.heap.FunFrames X.base l->s.heap.FunFrames X.base l:=by
  intro l
  induction l with
  |nil=>intro _ _;trivial
  |cons env r ih=>
   intro hs hl;obtain⟨hk,⟨L,o,hf,hn,ho,hd⟩,hr⟩:=hl;have hL:L∈X.fs:=hs L (by unfold bj;rw[zbl,hf];exact zas)
   obtain⟨sl,e⟩:=I.base.slot L o ho (I.ok.nW L hL) hL fun z=>I.ok.uT L z hL;exact⟨hk,⟨L,_,hf,hn,e,hd⟩,ih (fun b hb=>hs b (by unfold bj;rw[zbl,hf];exact zao _ hb)) hr⟩
 exact all X.outer (fun _ hb=>hb) I.ok.iy
theorem Inv.stack(I:Inv X pins σ H s):s.heap.FunFrames X.base X.stack:=by
 rcases I.ok.iw with e|⟨e,hf⟩
 ·rw[e];exact I.iy
 ·rw[e];obtain⟨m,hn,_⟩:=I.loc;refine .cons (by rw[I.ok.kind];decide) hf hn ?_ I.iy
  exact Heap.get?_none_of_le<|zar I.ok.mf I.ok.above
theorem Inv.uU(I:Inv X pins σ H s):∀b∈bj X.stack,b∈X.env.locals::X.fs:=fun b hb=>by
 rcases I.ok.iw with e|⟨e,hf⟩
 ·rw[e] at hb;exact zao _ hb
 ·rw[e] at hb;unfold bj at hb;rw[zbl,hf] at hb;exact hb
theorem Inv.uV(I:Inv X pins σ H s):∀b∈bj X.stack,H b=none:=fun b hb=>by
 rcases zab.mp (I.uU b hb) with e|hb
 ·rw[e];exact I.free
 ·obtain⟨_,o,ho,_⟩:=I.ok.iy.mem hb;exact I.base.free b o ho (I.ok.nW b hb) fun z=>I.ok.uT b z hb
theorem Inv.step{g':Array GenState}{t':Nat}{d':Drawn}{ch:List Addr}(I:Inv X pins σ H s)
  (dR:∀b∈ch,(b∈X.ex\/X.s₀.heap.objs.size<=b)/\b≠X.env.locals/\(∀x c,X.env.cells.lookup x=some c->c≠b)/\∀p∈X.pn++pins,p.1≠b)
  (keep:∀b o,b≠X.env.locals->b∉X.fs->b∉ch->s.heap.get? b=some o->H b=none->h'.get? b=some o)
  (slot:∀b o,b≠X.env.locals->b∈X.fs->b∉ch->s.heap.get? b=some o->H b=none->∃sl,h'.get? b=some {o with slots:=sl}) (free:∀b o,b∉ch->s.heap.get? b=some o->H b=none->H' b=none)
  (there:∀b o,b∉ch->s.heap.get? b=some o->∃o',h'.get? b=some o')
  (eA:∀b xs,H b=some (.tup xs)->H' b=some (.tup xs)) (d4:∀b o u,H b=some (.a_ o u)->H' b=some (.a_ o u)) (fg:∀b ps,H b=some (.jI ps)->∃more,H' b=some (.jI<|ps++more))
  (ns:∀m,s.heap.Ns X.env.locals m->h'.Ns X.env.locals m) (az:bI X.prog X.w H' h') (hg:AllBare g'):
  Inv X pins σ H' {s with heap:=h',gens:=g',drawn:=d',toks:=t'}:=by
 have Df:∀b o,X.s₀.heap.get? b=some o->b≠X.env.locals:=fun b o e=>zae (zaw (Heap.lt_size e) I.ok.above);have uW:∀b o,X.s₀.heap.get? b=some o->b∉X.ex->b∉ch:=fun b o e hx hb=>by
  rcases (dR b hb).1 with z|z
  ·exact hx z
  ·exact absurd (zaw (Heap.lt_size e) z) (zaD _)
 have cellK:∀x c,X.env.cells.lookup x=some c->∀v,s.heap.IsCell c v->h'.IsCell c v:=fun x c e v ⟨o,ho,hd⟩=>by
  have rO:c∉ch:=fun z=>(dR c z).2.2.1 x c e rfl;by_cases hc:c∈X.fs
  ·obtain⟨sl,q⟩:=slot c o (I.nX x c e) hc rO ho (I.eN x c e);exact⟨_,q,hd⟩
  ·exact⟨o,keep c o (I.nX x c e) hc rO ho<|I.eN x c e,hd⟩
 refine⟨I.ok,I.os,hg,⟨fun b o e n hb hx=>?_,fun b o e n hb hx=>?_,fun b o e n hx=>?_,fun b o e hx=>?_,fun b xs e=>eA b xs<|I.base.eA b xs e,fun b o xs e=>d4 b o xs<|I.base.d4 b o xs e,fun b ps e=>?_⟩,?_,fun x c e=>?_,?_,fun x c e=>?_,fun p hp=>?_,az,I.len⟩
 ·exact keep b o (Df b o e) hb (uW b o e hx) (I.base.keep b o e n hb hx) (I.base.free b o e n hx)
 ·obtain⟨sl,e1⟩:=I.base.slot b o e n hb hx;obtain⟨yh,e2⟩:=slot b _ (Df b o e) hb (uW b o e hx) e1 (I.base.free b o e n hx);exact⟨yh,e2⟩
 ·obtain⟨o',e1⟩:=I.base.there b o e hx;exact free b o' (uW b o e hx) e1<|I.base.free b o e n hx
 ·obtain⟨o',e1⟩:=I.base.there b o e hx;exact there b o' (uW b o e hx) e1
 ·obtain⟨m1,e1⟩:=I.base.fg b ps e;obtain⟨m2,e2⟩:=fg b _ e1;exact⟨m1++m2,by rw[e2,Array.append_assoc]⟩
 ·obtain⟨m,hn,hl⟩:=I.loc;refine⟨m,ns m hn,fun i x v e1 e2 e3=>?_⟩;obtain⟨u,r,l⟩:=hl i x v e1 e2 e3;refine⟨u,r,?_⟩;rcases l with l|⟨k,c,e,z⟩
  ·exact .inl l
  ·exact .inr ⟨k,c,e,cellK x c e _ z⟩
 ·obtain⟨v,z⟩:=I.cell x c e;exact⟨v,cellK x c e v z⟩
 ·obtain⟨m,⟨o,_,_,ho,_⟩,_⟩:=I.loc;exact free _ o (fun z=>(dR _ z).2.1 rfl) ho I.free
 ·obtain⟨v,o,ho,hd⟩:=I.cell x c e;exact free c o (fun z=>(dR c z).2.2.1 x c e rfl) ho<|I.eN x c e
 ·obtain⟨e,n,ne,nf,d⟩:=I.pin p hp;have rO:p.1∉ch:=fun z=>(dR p.1 z).2.2.2 p hp rfl;exact⟨keep p.1 p.2 ne nf rO e n,free p.1 p.2 rO e n,ne,nf,d⟩
theorem Inv.un{t':Nat}(I:Inv X pins σ H s)(u:Un X.fs [] H H' s.heap h')(az:bI X.prog X.w H' h'):Inv X pins σ H' {s with heap:=h',toks:=t'}:=by
 obtain⟨m,⟨o,es,ep,ho,r⟩,_⟩:=id I.loc;obtain⟨sl,hL⟩:=u.any ho I.free (by simp)
 exact I.step (g':=s.gens) (d':=s.drawn) (ch:=[]) (fun _ z=>nomatch z) (fun b o _ hb _ e n=>u.keep b o e n hb (by simp)) (fun b o _ hb _ e n=>u.slot b o e n hb (by simp)) (fun b o _ e n=>u.free b o e n (by simp)) (fun b o _ e=>u.there b o e (by simp)) u.eA u.d4 u.fg (fun m' hm=>by
  obtain⟨o',bU,gY,dQ,r'⟩:=hm;rw[ho] at dQ;cases dQ;exact⟨_,bU,gY,hL,r'⟩) az I.bare
theorem Inv.call{g':Array GenState}{t':Nat}{d':Drawn}{ch:List Addr}(I:Inv X pins σ H s)(u:Un (bj X.stack) ch H H' s.heap h')(az:bI X.prog X.w H' h')(hg:AllBare g')
  (dR:∀b∈ch,(b∈X.ex\/X.s₀.heap.objs.size<=b)/\b≠X.env.locals/\(∀x c,X.env.cells.lookup x=some c->c≠b)/\∀p∈X.pn++pins,p.1≠b):
  Inv X pins σ H' {s with heap:=h',gens:=g',drawn:=d',toks:=t'}:=by
 obtain⟨m,⟨o,es,ep,ho,r⟩,_⟩:=id I.loc;obtain⟨sl,hL⟩:=u.any ho I.free fun z=>(dR _ z).2.1 rfl;exact I.step (ch:=ch) dR (fun b o hL hb hc e n=>u.keep b o e n (fun z=>(zab.mp (I.uU b z)).elim hL hb) hc) (fun b o _ _ hc e n=>u.any e n hc) (fun b o hc e n=>u.free b o e n hc) (fun b o hc e=>u.there b o e hc) u.eA u.d4 u.fg (fun m' hm=>by
  obtain⟨o',bU,gY,dQ,r'⟩:=hm;rw[ho] at dQ;cases dQ;exact⟨_,bU,gY,hL,r'⟩) az hg
theorem Inv.turned{t':Nat}{it:Addr}(I:Inv X pins σ H s)(k:∀b o,b≠it->s.heap.get? b=some o->h'.get? b=some o)(hn:H it=none)(hL:it≠X.env.locals)
  (h1:it∈X.ex\/X.s₀.heap.objs.size<=it) (h2:∀x c,X.env.cells.lookup x=some c->c≠it) (h3:∀p∈X.pn++pins,p.1≠it):Inv X pins σ H {s with heap:=h',toks:=t'}:=by
 have Dg:∀b u,H b=some u->b≠it:=fun b u e z=>by rw[z,hn] at e;cases e
 refine I.step (g':=s.gens) (d':=s.drawn) (ch:=[it]) (fun b hb=>?_) (fun b o _ _ hc e _=>k b o (fun z=>hc (by simp[z])) e) (fun b o _ _ hc e _=>⟨o.slots,k b o (fun z=>hc (by simp[z])) e⟩) (fun _ _ _ _ n=>n)
  (fun b o hc e=>⟨o,k b o (fun z=>hc (by simp[z])) e⟩) (fun _ _ e=>e) (fun _ _ _ e=>e) (fun b ps e=>⟨#[],by rw[e];simp⟩) (fun m hm=>?_) (fun b u e=>?_) I.bare
 ·have e:b=it:=by simpa using hb
  subst e;exact⟨h1,hL,h2,h3⟩
 ·obtain⟨o,es,ep,ho,r⟩:=hm;exact⟨o,es,ep,k _ o (Ne.symm hL) ho,r⟩
 ·refine(I.az b u e).i6 (fun c v hc q=>k c v ?_ q) (fun _ q=>q) fun _ _ q=>q;rcases hc with z|z
  ·rw[z];exact Dg b u e
  ·exact Dg c _ z
theorem Inv.tok(I:Inv X pins σ H s)(t:Nat):Inv X pins σ H {s with toks:=t}:=I.un (h':=s.heap) (t':=t) Un.refl I.az
theorem Inv.kept{t':Nat}(I:Inv X pins σ H s)(k:∀b u,s.heap.get? b=some u->h'.get? b=some u):Inv X pins σ H {s with heap:=h',toks:=t'}:=I.un (Un.kept k) (I.az.kept k)
theorem Inv.laid{a:Addr}{o:HO}{t':Nat}(I:Inv X pins σ H s)(k:∀b u,s.heap.get? b=some u->h'.get? b=some u)(hp:s.heap.objs.size<=a)(new:bT X.prog X.w (upd H a o) h' a o):
  Inv X pins σ (upd H a o) {s with heap:=h',toks:=t'}:=I.un (Un.laid k hp<|I.az.fresh hp) (I.az.laid k hp new)
theorem Inv.write{x e:Addr}{o:HO}{t':Nat}(I:Inv X pins σ H s)(mu:qf (H x))(he:e=x\/H e=some (.own x))(k:∀b u,b≠e->s.heap.get? b=some u->h'.get? b=some u)(qg:∃u,h'.get? e=some u)
  (new:bT X.prog X.w (upd H x o) h' x o):Inv X pins σ (upd H x o) {s with heap:=h',toks:=t'}:=I.un (Un.write mu he k qg) (I.az.write mu he k qg new)
theorem Inv.qh{pins':List (Addr×Obj)}(I:Inv X pins σ H s)(h:∀p∈pins',s.heap.get? p.1=some p.2/\H p.1=none/\p.1≠X.env.locals/\p.1∉X.fs/\∀v,p.2.data≠ .cell v):Inv X pins' σ H s:=
 ⟨I.ok,I.os,I.bare,I.base,I.loc,I.cell,I.free,I.eN,fun p hp=>(zag.mp hp).elim (fun z=>I.pin p<|zaS _ z)<|h p,I.az,I.len⟩
theorem Dh{N:List Str}(hN:N.Nodup){i j:Nat}{x:Str}(a:N[i]?=some x)(b:N[j]?=some x):i=j:=by
 obtain⟨h1,e1⟩:=zam.mp a;obtain⟨h2,e2⟩:=zam.mp b;exact(List.getElem_inj hN).mp<|e1.trans e2.symm
theorem Di{M:Model}{A:Around}{E:Value->Shared->Prop}{i:Nat}{x:Str}{v:V}{u:Value}{Q:Unit->Shared->Prop}(I:Inv X pins σ H s)(hN:X.N.Nodup)(hi:X.N[i]?=some x)(hx:Loc X.env.scope x)(r:RelV v u)
  (h:∀s',Inv X pins (σ.set i<|some v) H s'->(∃a,Heap.SameBut a s.heap s'.heap/\(a=X.env.locals\/X.env.cells.lookup x=some a))->Q () s') (hf:X.fn x=true\/X.env.scope.names.lookup x=some .local:=by first|exact .inl rfl|exact .inr rfl|assumption):wpAny M A (storeName X.env x u) Q E s:=by
 obtain⟨m,hn,hl⟩:=id I.loc;have M5:(X.env.scope.kind==.class ||(X.env.scope.kind==.module && X.env.locals !=X.env.globals))=false:=by rw[I.ok.kind];rfl
 have Dj:i<σ.length:=by rw[I.len];exact(zam.mp hi).1
 have nX:=I.nX;have tracked:∀{a:Addr}{h':Heap},(∃o,s.heap.get? a=some o/\H a=none)->Heap.SameBut a s.heap h'->bI X.prog X.w H h':=fun {a h'} ha hs b ob e=>by
  obtain⟨_,_,Dk⟩:=ha;refine(I.az b ob e).i6 (fun c w' hc q=>(hs.2 c ?_).trans q) (fun _ q=>q) fun _ _ q=>q;rintro rfl;rcases hc with rfl|hc
  ·rw[Dk] at e;cases e
  ·rw[Dk] at hc;cases hc
 rcases hx with hk|hk
 ·refine wpAny_storeName_local hk hn (fun h' yi hs=>?_) M5;obtain⟨oL,_,_,kA,_⟩:=id hn;refine h _ ⟨I.ok,I.os,I.bare,⟨fun b o e n hb hx=>?_,fun b o e n hb hx=>?_,I.base.free,fun b o e hx=>?_,I.base.eA,I.base.d4,I.base.fg⟩,⟨_,yi,fun j y v' e1 e2 e3=>?_⟩,fun y c e=>?_,I.free,I.eN,fun p hp=>?_,tracked ⟨oL,kA,I.free⟩ hs,by simpa using I.len⟩ ⟨_,hs,.inl rfl⟩
  ·exact(hs.2 b<|zae<|zaw (Heap.lt_size e) I.ok.above).trans (I.base.keep b o e n hb hx)
  ·obtain⟨sl,e1⟩:=I.base.slot b o e n hb hx;exact⟨sl,(hs.2 b<|zae<|zaw (Heap.lt_size e) I.ok.above).trans e1⟩
  ·obtain⟨o',e1⟩:=I.base.there b o e hx;exact⟨o',(hs.2 b<|zae<|zaw (Heap.lt_size e) I.ok.above).trans e1⟩
  ·by_cases hj:j=i
   ·subst hj;rw[hi] at e1;cases e1;rw[zbO Dj] at e2;cases e2;exact⟨u,r,.inl ⟨hk,by simp⟩⟩
   ·rw[List.getElem?_set_ne<|Ne.symm hj] at e2;obtain⟨u',r',q⟩:=hl j y v' e1 e2 e3;refine⟨u',r',?_⟩;rcases q with⟨k,e⟩|⟨k,c,e,z⟩
    ·refine .inl ⟨k,?_⟩;have:y≠x:=fun e=>hj (Dh hN e1<|e ▸ hi)
     simp[this,e]
    ·exact .inr ⟨k,c,e,z.sameBut hs<|nX y c e⟩
  ·obtain⟨w',z⟩:=I.cell y c e;exact⟨w',z.sameBut hs<|nX y c e⟩
  ·obtain⟨e,n,ne,nf,d⟩:=I.pin p hp;exact⟨(hs.2 p.1 ne).trans e,n,ne,nf,d⟩
 ·have yj:X.fn x=true:=by
   rcases hf with z|z
   ·exact z
   ·rw[z] at hk;cases hk
  obtain⟨c,hc⟩:=I.ok.has x (.inl hk);obtain⟨w',z⟩:=I.cell x c hc;refine wpAny_storeName_cell I.ok.kind hk hc z<|fun h' uX hs=>?_;obtain⟨oc,Dl,M6⟩:=id z;refine h {s with heap:=h'} ⟨I.ok,I.os,I.bare,⟨fun b o e n hb hx=>?_,fun b o e n hb hx=>?_,I.base.free,fun b o e hx=>?_,I.base.eA,I.base.d4,I.base.fg⟩,⟨m,hn.sameBut hs<|Ne.symm<|nX x c hc,fun j y v' e1 e2 e3=>?_⟩,fun y c' e=>?_,I.free,I.eN,fun p hp=>?_,tracked ⟨oc,Dl,I.eN x c hc⟩ hs,by simpa using I.len⟩ ⟨c,hs,.inr hc⟩
  ·exact(hs.2 b<|zae<|zaw (Heap.lt_size e)<|I.ok.uR x c yj hc).trans (I.base.keep b o e n hb hx)
  ·obtain⟨sl,e1⟩:=I.base.slot b o e n hb hx;exact⟨sl,(hs.2 b<|zae<|zaw (Heap.lt_size e)<|I.ok.uR x c yj hc).trans e1⟩
  ·obtain⟨o',e1⟩:=I.base.there b o e hx;exact⟨o',(hs.2 b<|zae<|zaw (Heap.lt_size e)<|I.ok.uR x c yj hc).trans e1⟩
  ·by_cases hj:j=i
   ·subst hj;rw[hi] at e1;cases e1;rw[zbO Dj] at e2;cases e2;exact⟨u,r,.inr ⟨.inl hk,c,hc,uX⟩⟩
   ·rw[List.getElem?_set_ne<|Ne.symm hj] at e2;obtain⟨u',r',q⟩:=hl j y v' e1 e2 e3;refine⟨u',r',?_⟩;rcases q with q|⟨k,c',e,z'⟩
    ·exact .inl q
    ·refine .inr ⟨k,c',e,z'.sameBut hs ?_⟩;rintro rfl;exact hj<|Dh hN e1<|I.ok.inj _ _ _ e hc ▸ hi
  ·by_cases Dm:c'=c
   ·subst Dm;exact⟨_,uX⟩
   ·obtain⟨w2,z2⟩:=I.cell y c' e;exact⟨w2,z2.sameBut hs Dm⟩
  ·obtain⟨e,n,ne,nf,d⟩:=I.pin p hp;refine⟨(hs.2 p.1 ?_).trans e,n,ne,nf,d⟩;intro q;rw[q,Dl] at e;have q':oc=p.2:=zak e;exact d w' (by rw[<-q'];exact M6)
theorem yk{M:Model}{A:Around}{E:Value->Shared->Prop}{i:Nat}{x:Str}{v:V}{u:Value}{Q:Unit->Shared->Prop}(I:Inv X pins σ H s)(hN:X.N.Nodup)(hi:X.N[i]?=some x)(hx:Loc X.env.scope x)(r:RelV v u)
  (h:∀s',Inv X pins (σ.set i<|some v) H s'->Q () s') (hf:X.fn x=true\/X.env.scope.names.lookup x=some .local:=by first|exact .inl rfl|exact .inr rfl|assumption):wpAny M A (storeName X.env x u) Q E s:=
 Di I hN hi hx r (fun s' I' _=>h s' I') hf
theorem Inv.yl{s':Shared}{ch:List Addr}(I:Inv X pins σ H s)(ho:s'.os=s.os)(u:Un (bj X.stack) ch H H' s.heap s'.heap)(az:bI X.prog X.w H' s'.heap)(hg:AllBare s'.gens)
  (dR:∀b∈ch,(b∈X.ex\/X.s₀.heap.objs.size<=b)/\b≠X.env.locals/\(∀x c,X.env.cells.lookup x=some c->c≠b)/\∀p∈X.pn++pins,p.1≠b):Inv X pins σ H' s':=by
 obtain⟨h',g',d',t',o'⟩:=s';have e:o'=s.os:=ho;subst e;exact I.call (g':=g') (t':=t') (d':=d') u az hg dR
end
abbrev XK:=Value->Option Addr->Hp->Prop
abbrev St:=List (Option V)
abbrev VK:=V->Hp->Prop
abbrev TE:=St->Hp->VK->Prop
abbrev TT:=St->Hp->(Bool->Hp->Prop)->Prop
abbrev TA:=St->Hp->(List V->Hp->Prop)->Prop
structure Ends where
 nx:St->Hp->Prop
 rt:VK
 bk:St->Hp->Prop:=fun _ _=>False
 ct:St->Hp->Prop:=fun _ _=>False
abbrev TS:=Ends->St->Hp->Prop
def EP(X:Cx)(pins:List (Addr×Obj))(σ:St)(Q:VK)(u:Value)(s':Shared):Prop:= ∃v H',Inv X pins σ H' s'/\RelV v u/\Q v H'
def TP(X:Cx)(pins:List (Addr×Obj))(σ:St)(Q:Bool->Hp->Prop)(b:Bool)(s':Shared):Prop:= ∃H',Inv X pins σ H' s'/\Q b H'
def AP(X:Cx)(pins:List (Addr×Obj))(σ:St)(Q:List V->Hp->Prop)(us:List Value)(s':Shared):Prop:= ∃vs H',Inv X pins σ H' s'/\Vals vs us/\Q vs H'
def SP(X:Cx)(pins:List (Addr×Obj))(D:Ends)(f:Flow)(s':Shared):Prop:=
 match f with
 |.next=>∃σ' H',Inv X pins σ' H' s'/\D.nx σ' H'
 |.brk=>∃σ' H',Inv X pins σ' H' s'/\D.bk σ' H'
 |.cont=>∃σ' H',Inv X pins σ' H' s'/\D.ct σ' H'
 |.ret u=>∃v σ' H',Inv X pins σ' H' s'/\RelV v u/\D.rt v H'
def PE(X:Cx)(e:Expr)(t:TE):Prop:=
 ∀(pins:List (Addr×Obj)) (s:Shared) (σ:St) (H:Hp) (Q:VK),Inv X pins σ H s->t σ H Q->wpAny (model X.prog X.w) X.A (eval e X.env) (EP X pins σ Q) X.xe s
def PT(X:Cx)(e:Expr)(t:TT):Prop:=
 ∀(pins:List (Addr×Obj)) (s:Shared) (σ:St) (H:Hp) (Q:Bool->Hp->Prop),Inv X pins σ H s->t σ H Q->wpAny (model X.prog X.w) X.A (isTrue e X.env<|eval e X.env) (TP X pins σ Q) X.xe s
def PW(X:Cx)(e:Expr)(t:TT):Prop:=
 ∀(whole:Sem Value) (pins:List (Addr×Obj)) (s:Shared) (σ:St) (H:Hp) (Q:Bool->Hp->Prop),Inv X pins σ H s->t σ H Q->wpAny (model X.prog X.w) X.A (isTrue e X.env whole) (TP X pins σ Q) X.xe s
theorem PW.pt{X:Cx}{e:Expr}{t:TT}(h:PW X e t):PT X e t:=h _
def PA(X:Cx)(es:List Expr)(t:TA):Prop:=
 ∀(pos:Pos) (pins:List (Addr×Obj)) (s:Shared) (σ:St) (H:Hp) (Q:List V->Hp->Prop),Inv X pins σ H s->t σ H Q->wpAny (model X.prog X.w) X.A (spliced<|backTo pos<|starEach es X.env) (AP X pins σ Q) X.xe s
def PS(X:Cx)(st:Stmt)(t:TS):Prop:=
 ∀(pins:List (Addr×Obj)) (s:Shared) (σ:St) (H:Hp) (D:Ends),Inv X pins σ H s->t D σ H->wpAny (model X.prog X.w) X.A (exec st X.env) (SP X pins D) X.xe s
def cT(X:Cx)(st:List Stmt)(t:TS):Prop:=
 ∀(pins:List (Addr×Obj)) (s:Shared) (σ:St) (H:Hp) (D:Ends),Inv X pins σ H s->t D σ H->wpAny (model X.prog X.w) X.A (execs st X.env) (SP X pins D) X.xe s
theorem aF{α:Type}{t:Sem α}{Q Q':α->Shared->Prop}{M:Model}{A:Around}{E:Value->Shared->Prop}{s:Shared}(h:wpAny M A t Q E s)(hQ:∀a s,Q a s->Q' a s):wpAny M A t Q' E s:=wpAny_mono h hQ fun _ _ x=>x
section
variable {X:Cx}
def ym(i:Nat):TE:=fun σ H Q=>∃v,σ[i]?=some (some v)/\Q v H
def tC(v:V):TE:=fun _ H Q=>Q v H
theorem M7{i:Nat}{x:Str}{pos:Pos}(hN:X.N[i]?=some x)(hv:uQ X.env.scope x)(hd:(x==("__debug__":Str))=false:=by decide)(gK:(x==("__classdict__":Str))=false:=by decide):PE X (.Name x pos) (ym i):=by
 intro pins s σ H Q I h;obtain⟨v,e,h⟩:=h;obtain⟨m,hn,hl⟩:=I.loc;obtain⟨u,r,l⟩:=hl i x v hN e hv;have fin:EP X pins σ Q u s:=⟨v,H,I,r,h⟩;rcases l with⟨hk,hm⟩|⟨hk,c,hc,Dp⟩
 ·exact wpAny_Name (wpAny_loadName_local I.ok.kind hk hn hm fin) hd
 ·rcases hk with hk|hk
  ·exact wpAny_Name (wpAny_loadName_cell I.ok.kind hk hc Dp fin) hd
  ·exact wpAny_Name (wpAny_loadName_free I.ok.kind hk hc Dp fin gK) hd
theorem M8{i j pos}:PE X (.Constant (.int i) j pos) (tC<|.int i):=fun _ _ _ H _ I h=>wpAny_Constant_int ⟨.int i,H,I.tok _,⟨_,rfl⟩,h⟩
theorem M9{b j pos}:PE X (.Constant (.bool b) j pos) (tC<|.bl b):=fun _ _ _ H _ I h=>Constant_bool ⟨.bl b,H,I,rfl,h⟩
theorem M_{j pos}:PE X (.Constant .none j pos) (tC .aD):=fun _ _ _ H _ I h=>Constant_none ⟨.aD,H,I,rfl,h⟩
theorem Na{x j pos}:PE X (.Constant (.str x) j pos) (tC<|.str x):=fun _ _ _ H _ I h=>Calls.Constant_str ⟨.str x,H,I.tok _,⟨_,rfl⟩,h⟩
def Gl(X:Cx)(x:Str):Prop:=X.env.kindOf x=some .globalImplicit
theorem rP{E:Value->Shared->Prop}{pins:List (Addr×Obj)}{s:Shared}{σ:St}{H:Hp}{x:Str}{u:Value}{pos:Pos}{Q:Value->Shared->Prop}(I:Inv X pins σ H s)(hg:Gl X x)(hm:X.mg x=some u)(h:Q u s)
  (hd:(x==("__debug__":Str))=false:=by decide):wpAny (model X.prog X.w) X.A (eval (.Name x pos) X.env) Q E s:=
 Calls.Name_function_global I.ok.kind hg (Calls.loadGlobal_global (by rw[I.ok.glob];exact I.mod.glob.keeps I.bk) hm h) hd
theorem qi{E:Value->Shared->Prop}{pins:List (Addr×Obj)}{s:Shared}{σ:St}{H:Hp}{x:Str}{u:Value}{pos:Pos}{Q:Value->Shared->Prop}(I:Inv X pins σ H s)(hg:Gl X x)(hm:X.mg x=none)(hv:bootBuiltins x=some u)(h:Q u s)
  (hn:x≠"__name__":=by decide) (hd:(x==("__debug__":Str))=false:=by decide):wpAny (model X.prog X.w) X.A (eval (.Name x pos) X.env) Q E s:=by
 obtain⟨mb,h1,h2⟩:=I.mod.blt;exact Calls.Name_function_global I.ok.kind hg (Calls.loadGlobal_builtin (by rw[I.ok.glob];exact I.mod.glob.keeps I.bk) hm (by rw[I.ok.blt];exact h1.keeps I.bk) ((h2 x hn).trans hv) h) hd
theorem Dq{x:Str}{v:V}{u:Value}{pos:Pos}(hg:Gl X x)(hm:X.mg x=some u)(r:RelV v u)(hd:(x==("__debug__":Str))=false:=by decide):PE X (.Name x pos) (tC v):=
 fun _ _ _ H _ I h=>rP I hg hm ⟨v,H,I,r,h⟩ hd
theorem Dr{x:Str}{v:V}{u:Value}{pos:Pos}(hg:Gl X x)(hm:X.mg x=none)(hv:bootBuiltins x=some u)(r:RelV v u)(hn:x≠"__name__":=by decide)(hd:(x==("__debug__":Str))=false:=by decide):PE X (.Name x pos) (tC v):=
 fun _ _ _ H _ I h=>qi I hg hm hv ⟨v,H,I,r,h⟩ hn hd
variable {a b:Expr}{ta tb:TE}{pos:Pos}
def PC(X:Cx)(op:CmpOp)(a b:Expr)(t:TE):Prop:=
 ∀(pins:List (Addr×Obj)) (s:Shared) (σ:St) (H:Hp) (Q:VK),Inv X pins σ H s->t σ H Q->
  wpAny (model X.prog X.w) X.A (eval a X.env) (fun v s₁=>wpAny (model X.prog X.w) X.A (eval b X.env) (fun u s₂=>wpAny (model X.prog X.w) X.A (compareOp op v u) (EP X pins σ Q) X.xe s₂) X.xe s₁) X.xe s
def tB(t:TE):TT:=fun σ H Q=>t σ H fun x H1=>∃c,x=.bl c/\Q c H1
theorem Nb{op:CmpOp}{t:TE}(h:PC X op a b t)(h1:behindInMarks op b=false:=by first|exact ad1 _ (by decide) (by decide)|rfl):PT X (.Compare a [op] [b] pos) (tB t):=by
 intro pins s σ H Q I hw;refine wpAny_isTrue_Compare1 (aF (h pins s σ H _ I hw) fun v s1 h1=>aF h1 fun u s2 h2=>aF h2 fun c s3 ⟨x,H1,I1,r1,q1⟩=>?_) h1;obtain⟨d,rfl,q⟩:=q1;cases r1;exact wpAny_truthy_bool ⟨H1,I1,q⟩
variable {tA uY:TT}{rest:List Expr}
def Ds(t u:TT):TT:=fun σ H Q=>t σ H fun c H1=>if c=true then u σ H1 Q else Q false H1
def Dt(t u:TT):TT:=fun σ H Q=>t σ H fun c H1=>if c=true then Q true H1 else u σ H1 Q
def Du(t:TT):TT:=fun σ H Q=>t σ H fun c H1=>Q (!c) H1
theorem pw_and1(ha:PT X a tA):PW X (.BoolOp .And [a] pos) tA:=by
 intro wh pins s σ H Q I h;refine isTrue_and<|aF (ha pins s σ H Q I h) fun c s1 e=>?_;cases c with
 |true=>exact isTrue_and_nil e
 |false=>exact e
theorem pw_or1(ha:PT X a tA):PW X (.BoolOp .Or [a] pos) tA:=by
 intro wh pins s σ H Q I h;refine isTrue_or<|aF (ha pins s σ H Q I h) fun c s1 e=>?_;cases c with
 |false=>exact isTrue_or_nil e
 |true=>exact e
theorem pw_and(ha:PT X a tA)(hb:PW X (.BoolOp .And (b::rest) pos) uY):PW X (.BoolOp .And (a::b::rest) pos) (Ds tA uY):=by
 intro wh pins s σ H Q I h;refine isTrue_and<|aF (ha pins s σ H _ I h) fun c s1 ⟨H1,I1,q1⟩=>?_;cases c with
 |true=>exact hb wh pins s1 σ H1 Q I1 q1
 |false=>exact⟨H1,I1,q1⟩
theorem pw_or(ha:PT X a tA)(hb:PW X (.BoolOp .Or (b::rest) pos) uY):PW X (.BoolOp .Or (a::b::rest) pos) (Dt tA uY):=by
 intro wh pins s σ H Q I h;refine isTrue_or<|aF (ha pins s σ H _ I h) fun c s1 ⟨H1,I1,q1⟩=>?_;cases c with
 |true=>exact⟨H1,I1,q1⟩
 |false=>exact hb wh pins s1 σ H1 Q I1 q1
theorem Nc(ha:PT X a tA):PT X (.UnaryOp .Not a pos) (Du tA):=by
 intro pins s σ H Q I h;exact isTrue_not<|ha pins s σ H (fun c H1=>Q (!c) H1) I h
def Dv(ta tb:TE):TE:=fun σ H Q=>ta σ H fun x H1=>∃c,x=.bl c/\if c=true then tb σ H1 Q else Q (.bl false) H1
def Dw(ta tb:TE):TE:=fun σ H Q=>ta σ H fun x H1=>∃c,x=.bl c/\if c=true then Q (.bl true) H1 else tb σ H1 Q
theorem Dx{op}{t:TE}(h:PE X a t):PE X (.BoolOp op [a] pos) t:=fun pins s σ H Q I hw=>BoolOp_one (h pins s σ H Q I hw)
theorem Nd(ha:PE X a ta)(hb:PE X (.BoolOp .And (b::rest) pos) tb):PE X (.BoolOp .And (a::b::rest) pos) (Dv ta tb):=by
 intro pins s σ H Q I h;refine BoolOp_and<|aF (ha pins s σ H _ I h) fun v s1 ⟨x,H1,I1,r1,q1⟩=>?_;obtain⟨c,rfl,q1⟩:=q1;cases r1;refine wpAny_truthy_bool ?_;cases c with
 |true=>exact hb pins s1 σ H1 Q I1 q1
 |false=>exact⟨.bl false,H1,I1,rfl,q1⟩
theorem Nf(ha:PE X a ta)(hb:PE X (.BoolOp .Or (b::rest) pos) tb):PE X (.BoolOp .Or (a::b::rest) pos) (Dw ta tb):=by
 intro pins s σ H Q I h;refine BoolOp_or<|aF (ha pins s σ H _ I h) fun v s1 ⟨x,H1,I1,r1,q1⟩=>?_;obtain⟨c,rfl,q1⟩:=q1;cases r1;refine wpAny_truthy_bool ?_;cases c with
 |false=>exact hb pins s1 σ H1 Q I1 q1
 |true=>exact⟨.bl true,H1,I1,rfl,q1⟩
def Dy(t:TT)(ta tb:TE):TE:=fun σ H Q=>t σ H fun c H1=>if c=true then ta σ H1 Q else tb σ H1 Q
theorem Ng{c:Expr}(hc:PT X c tA)(ha:PE X a ta)(hb:PE X b tb):PE X (.IfExp c a b pos) (Dy tA ta tb):=by
 intro pins s σ H Q I h;refine wpAny_IfExp<|aF (hc pins s σ H _ I h) fun d s1 ⟨H1,I1,q1⟩=>?_;cases d with
 |true=>exact ha pins s1 σ H1 Q I1 q1
 |false=>exact hb pins s1 σ H1 Q I1 q1
end
def ay(K:Frag)(H:Hp)(a:Addr)(xs:List V):Prop:=
 Rd H a (.lst xs)\/
  ∃(o:Obj) (aq:Array Value) (n:Nat),K.lookup a=some o/\o.cls=.type "list"/\o.dict=none/\o.data=.seq aq n/\aq.size<=sizeLine/\Vals xs aq.toList
def aO(K:Frag)(H:Hp)(a:Addr)(xs:List V):Prop:=
 Rd H a (.tup xs)\/
  ∃(o:Obj) (aq:Array Value) (n:Nat),K.lookup a=some o/\o.cls=.type "tuple"/\o.data=.seq aq n/\aq.size<=sizeLine/\Vals xs aq.toList
def Nh:Value->Option V
 |.none=>some .aD
 |.bool b=>some (.bl b)
 |.int i _=>some (.int i)
 |.str x _=>some (.str x)
 |.bytes b _=>some (.e9 b)
 |.float b _=>some (.ma b)
 |.ref a=>some (.ref a)
 |.type n=>some (.ty n)
 |_=>none
theorem RelV.abs{x:V}{u:Value}(r:RelV x u):Nh u=some x:=by
 cases x with
 |aD=>cases r;rfl
 |bl _=>cases r;rfl
 |int _=>obtain⟨t,rfl⟩:=r;rfl
 |str _=>obtain⟨t,rfl⟩:=r;rfl
 |e9 _=>obtain⟨t,rfl⟩:=r;rfl
 |ma _=>obtain⟨t,rfl⟩:=r;rfl
 |ref _=>cases r;rfl
 |ty _=>cases r;rfl
theorem RelV.inj{x y:V}{u:Value}(r:RelV x u)(q:RelV y u):x=y:=zak (r.abs.symm.trans q.abs)
theorem Vals.inj:∀{xs ys:List V}{us:List Value},Vals xs us->Vals ys us->xs=ys
 |_,_,_,.nil,.nil=>rfl
 |_,_,_,.cons r t,.cons r' t'=>by rw[r.inj r',Vals.inj t t']
section
variable {X:Cx}{pins:List (Addr×Obj)}{σ:St}{H:Hp}{s:Shared}{a:Addr}{xs ys:List V}
theorem ay.of{K:Frag}(h:H a=some (.lst xs)):ay K H a xs:=.inl (.inl h)
theorem aO.of{K:Frag}(h:H a=some (.tup xs)):aO K H a xs:=.inl (.inl h)
theorem Inv.list(I:Inv X pins σ H s)(h:ay X.K H a xs):∃aq:List Value,Vals xs aq/\PlainL s.heap a aq.toArray/\xs.length<=sizeLine:=by
 rcases h with h|⟨o,aq,n,hk,hc,hd,hs,hz,r⟩
 ·obtain⟨z,aq,n,r,e⟩:=h.ok I.az;exact⟨aq,r,⟨_,n,e,rfl,rfl,rfl⟩,z⟩
 ·refine⟨aq.toList,r,⟨o,n,I.cB a o hk,hc,hd,by simpa using hs⟩,?_⟩
  have e:=r.length
  simp only[zbc] at e
  omega
theorem Inv.tuple(I:Inv X pins σ H s)(h:aO X.K H a xs):∃aq:List Value,Vals xs aq/\IsTup s.heap a aq.toArray/\xs.length<=sizeLine:=by
 rcases h with h|⟨o,aq,n,hk,hc,hs,hz,r⟩
 ·obtain⟨z,aq,r,p⟩:=h.ok I.az;exact⟨aq,r,p,z⟩
 ·refine⟨aq.toList,r,⟨o,I.cB a o hk,hc,n,by simpa using hs⟩,?_⟩
  have e:=r.length
  simp only[zbc] at e
  omega
theorem Inv.Dz(I:Inv X pins σ H s)(h:ay X.K H a xs)(h':ay X.K H a ys):xs=ys:=by
 obtain⟨aq,r,⟨o,n,e,_,_,d⟩,_⟩:=I.list h;obtain⟨its',r',⟨o',n',e',_,_,d'⟩,_⟩:=I.list h';rw[e] at e';cases e';rw[d] at d'
 injection d' with d1 _
 have:aq=its':=by simpa using congrArg Array.toList d1
 subst this;exact r.inj r'
end
section
variable {X:Cx}{st:Stmt}{rest:List Stmt}{t u:TS}{e:Expr}{te:TE}{pos:Pos}
def yn:TS:=fun D σ H=>D.nx σ H
def DA(t u:TS):TS:=fun D σ H=>t {D with nx:=u D} σ H
theorem DB:cT X [] yn:=fun _ _ σ H _ I h=>wpAny_execs_nil ⟨σ,H,I,h⟩
theorem Ni(h1:PS X st t)(h2:cT X rest u):cT X (st::rest) (DA t u):=by
 intro pins s σ H D I h;refine wpAny_execs_cons<|aF (h1 pins s σ H {D with nx:=u D} I h) fun f s1 q=>?_
 cases f with
 |next=>
  obtain⟨σ',H',I',q⟩:=q;exact h2 pins s1 σ' H' D I' q
 |ret v=>exact q
 |brk=>exact q
 |cont=>exact q
def Nj:TS:=fun D σ H=>D.bk σ H
def Nk:TS:=fun D σ H=>D.ct σ H
theorem Inv.quiet{pins:List (Addr×Obj)}{σ:St}{H:Hp}{s:Shared}(I:Inv X pins σ H s):interactive X.env=false:=by simp[interactive,I.ok.kind]
def DC(te:TE):TS:=fun D σ H=>te σ H fun _ H1=>D.nx σ H1
theorem Nl(he:PE X e te)(hs:swapsWith e none pos.line X.env=pure false:=by rfl):PS X (.Expr e pos) (DC te):=by
 intro pins s σ H D I h;exact wpAny_Expr_any (aF (he pins s σ H _ I h) fun v s1 ⟨x,H1,I1,r1,q1⟩=>⟨σ,H1,I1,q1⟩) I.quiet hs
def DD(te:TE):TS:=fun D σ H=>te σ H D.rt
theorem Nm(he:PE X e te):PS X (.Return (some e) pos) (DD te):=by
 intro pins s σ H D I h;exact wpAny_Return_some<|aF (he pins s σ H _ I h) fun v s1 ⟨x,H1,I1,r1,q1⟩=>⟨x,σ,H1,I1,r1,q1⟩
def Nn:TS:=fun D _ H=>D.rt .aD H
def DE(c:TT)(t u:TS):TS:=fun D σ H=>c σ H fun b H1=>if b=true then t D σ H1 else u D σ H1
theorem Np{c:Expr}{a b:List Stmt}{tc:TT}(hc:PT X c tc)(ha:cT X a t)(hb:cT X b u):PS X (.If c a b pos) (DE tc t u):=by
 intro pins s σ H D I h;refine wpAny_If<|aF (hc pins s σ H _ I h) fun d s1 ⟨H1,I1,q1⟩=>?_;cases d with
 |true=>exact ha pins s1 σ H1 D I1 q1
 |false=>exact hb pins s1 σ H1 D I1 q1
def Nq:TS:=fun _ _ _=>False
end
abbrev TG:=V->St->Hp->(St->Hp->Prop)->Prop
abbrev i8:=List V->St->Hp->(St->Hp->Prop)->Prop
def PG(X:Cx)(target:Expr)(t:TG):Prop:=
 ∀(pins:List (Addr×Obj)) (s:Shared) (σ:St) (H:Hp) (v:V) (u:Value) (Q:St->Hp->Prop),Inv X pins σ H s->RelV v u->t v σ H Q->
  wpAny (model X.prog X.w) X.A (assign target X.env u) (fun _ s'=>∃σ' H',Inv X pins σ' H' s'/\Q σ' H') X.xe s
def nY(X:Cx)(ts:List Expr)(t:i8):Prop:=
 ∀(pins:List (Addr×Obj)) (s:Shared) (σ:St) (H:Hp) (vs:List V) (us:List Value) (Q:St->Hp->Prop),Inv X pins σ H s->Vals vs us->t vs σ H Q->
  wpAny (model X.prog X.w) X.A (assignInOrder ((assignEach ts X.env).map (·.2)) us) (fun _ s'=>∃σ' H',Inv X pins σ' H' s'/\Q σ' H') X.xe s
abbrev yo:=V->V->V->Hp->(Hp->Prop)->Prop
def DF(X:Cx)(t:yo):Prop:=
 ∀(pins:List (Addr×Obj)) (s:Shared) (σ:St) (H:Hp) (o i v:V) (ov iv u:Value) (Q:Hp->Prop),Inv X pins σ H s->RelV o ov->RelV i iv->RelV v u->t o i v H Q->
  wpAny (model X.prog X.w) X.A (setItem ov iv u) (fun _ s'=>∃H',Inv X pins σ H' s'/\Q H') X.xe s
section
variable {X:Cx}{pos:Pos}
def dv(i:Nat):TG:=fun v σ H Q=>Q (σ.set i<|some v) H
theorem qj{i:Nat}{x:Str}(hN:X.N.Nodup)(hi:X.N[i]?=some x)(hx:Loc X.env.scope x)(hf:X.fn x=true\/X.env.scope.names.lookup x=some .local:=by first|exact .inl rfl|exact .inr rfl|assumption):PG X (.Name x pos) (dv i):=by
 intro pins s σ H v u Q I r h;exact wpAny_assign_Name<|yk I hN hi hx r (fun s' I'=>⟨_,H,I',h⟩) hf
def uZ:i8:=fun vs σ H Q=>vs=[]/\Q σ H
def ql(t:TG)(u:i8):i8:=fun vs σ H Q=>∃v r,vs=v::r/\t v σ H fun σ' H'=>u r σ' H' Q
theorem yp:nY X [] uZ:=by
 intro pins s σ H vs us Q I r h;obtain⟨e,h⟩:=h;subst e;cases r;exact assignInOrder_nil ⟨σ,H,I,h⟩
theorem rQ{e:Expr}{es:List Expr}{t:TG}{u:i8}(h1:PG X e t)(h2:nY X es u)
  (hs:(assignEach (e::es) X.env).map (·.2)=assign e X.env::(assignEach es X.env).map (·.2):=by rfl):nY X (e::es) (ql t u):=by
 intro pins s σ H vs us Q I r h;obtain⟨v,vr,e1,h⟩:=h;subst e1;cases r with
 |cons r rr=>
  rw[hs];refine assignInOrder_cons<|aF (h1 pins s σ H _ _ _ I r h) fun _ s1 ⟨σ1,H1,I1,q1⟩=>?_;exact h2 pins s1 σ1 H1 _ _ Q I1 rr q1
def u0(K:Frag)(n:Nat)(t:i8):TG:=fun v σ H Q=>∃a xs,v=.ref a/\aO K H a xs/\xs.length=n/\t xs σ H Q
theorem DG{es:List Expr}{k:Nat}{t:i8}{n:Nat}(hc:X.calm=true)(h:nY X es t)
  (hn:(assignEach es X.env).length=n:=by rfl) (fH:(assignEach es X.env).findIdx? (·.1)=none:=by rfl):PG X (.Tuple es k pos) (u0 X.K n t):=by
 intro pins s σ H v u Q I r hw;obtain⟨a,xs,e1,hq,hl,hw⟩:=hw;subst e1;cases r;obtain⟨aq,rv,ht,hz⟩:=I.tuple hq;refine assign_Tuple_tuple (I.ok.hd hc) ht (by simp[hn,<-hl,rv.length]) fH fun h' hx=>?_
 have I1:Inv X pins σ H {s with heap:=h'}:=I.kept (t':=s.toks) fun b o e=>hx b o (zae<|Heap.lt_size e) e
 exact h pins _ σ H xs _ Q I1 (by simpa using rv) hw
def DH(to ti:TE)(t:yo):TG:=fun v σ H Q=>to σ H fun o H1=>ti σ H1 fun i H2=>t o i v H2 fun H3=>Q σ H3
theorem Nr{o i:Expr}{to ti:TE}{t:yo}(ho:PE X o to)(hi:PE X i ti)(hs:DF X t)
  (ha:∀v,assign (.Subscript o i pos) X.env v=(do
   let ov <-holding [v] (eval o X.env)
   let iv <-holding [v,ov] (eval i X.env)
   standAt pos
   holding [v,ov,iv] (setItem ov iv v)
   release [v,ov,iv] []):=by intro _;rfl):PG X (.Subscript o i pos) (DH to ti t):=by
 intro pins s σ H v u Q I r h;rw[ha];refine wpAny_bind<|wpAny_holding<|aF (ho pins s σ H _ I h) fun ov s1 ⟨x,H1,I1,r1,q1⟩=>?_;refine wpAny_bind<|wpAny_holding<|aF (hi pins s1 σ H1 _ I1 q1) fun iv s2 ⟨y,H2,I2,r2,q2⟩=>?_;refine wpAny_bind<|wpAny_standAt<|wpAny_bind<|wpAny_holding<|aF (hs pins s2 σ H2 x y v ov iv u _ I2 r1 r2 r q2) fun _ s3 ⟨H3,I3,q3⟩=>?_;exact wpAny_release ⟨σ,H3,I3,q3⟩
def iz(te:TE)(g:TG):TS:=fun D σ H=>te σ H fun x H1=>g x σ H1 D.nx
theorem DI{tg e:Expr}{te:TE}{g:TG}(he:PE X e te)(hg:PG X tg g)(hs:swapsWithSole [tg] e pos.line X.env=pure false:=by rfl)(hw:swappedStores [tg] e X.env=pure none:=by rfl)
  (h1:(assignEach [tg] X.env).map (·.2)=[assign tg X.env]:=by rfl):PS X (.Assign [tg] e pos) (iz te g):=by
 intro pins s σ H D I h;refine wpAny_Assign_stores (aF (he pins s σ H _ I h) fun v s1 ⟨x,H1,I1,r1,q1⟩=>?_) hs hw;rw[h1];exact aF (hg pins s1 σ H1 x v _ I1 r1 q1) fun _ s2 q=>q
theorem Nt{i:Nat}{x:Str}{e:Expr}{te:TE}{pos':Pos}(hN:X.N.Nodup)(hi:X.N[i]?=some x)(hx:Loc X.env.scope x)(he:PE X e te)(hs:swapsWith e (some<|.Name x pos') pos.line X.env=pure false:=by rfl)(hf:X.fn x=true\/X.env.scope.names.lookup x=some .local:=by first|exact .inl rfl|exact .inr rfl|assumption):
  PS X (.Assign [.Name x pos'] e pos) (iz te<|dv i):=by
 intro pins s σ H D I h;refine wpAny_Assign_Name (aF (he pins s σ H _ I h) fun v s1 ⟨y,H1,I1,r1,q1⟩=>?_) hs;exact yk I1 hN hi hx r1 (fun s2 I2=>⟨_,H1,I2,q1⟩) hf
end
section
variable {X:Cx}{pos:Pos}
def DJ(c:TT)(tb:TS):TS:=fun D σ H=>∃W:Nat->St->Hp->Prop,(∃m,W m σ H)/\∀m σ H,W m σ H->
 c σ H fun b H1=>if b=true then ∃N:St->Hp->Prop,(∀σ' H',N σ' H'->∃m',m'<m/\W m' σ' H')/\tb {D with nx:=N,ct:=N,bk:=D.nx} σ H1 else D.nx σ H1
theorem Nu{c:Expr}{body:List Stmt}{tc:TT}{tb:TS}(hp:PassesOwn (model X.prog X.w) X.A X.env X.xe)(hc:PT X c tc)(hb:cT X body tb):PS X (.While c body [] pos) (DJ tc tb):=by
 intro pins s σ H D I h;obtain⟨W,⟨m0,w0⟩,turn⟩:=h;refine wpAny_While<|codeAny_whileLoop (fun n s'=>∃σ' H',Inv X pins σ' H' s'/\W n σ' H') ?_ m0 ⟨σ,H,I,w0⟩;rintro n s1 ⟨σ1,H1,I1,w1⟩;refine wpAny_passesOwn hp<|aF (hc pins s1 σ1 H1 _ I1<|turn n σ1 H1 w1) fun b s2 ⟨H2,I2,q2⟩=>?_;cases b with
 |true=>
  obtain⟨N,hN,q2⟩:=q2;rw[if_pos rfl];refine wpAny_passesOwn hp<|aF (hb pins s2 σ1 H2 _ I2 q2) fun f s3 q3=>?_;cases f with
  |next=>
   obtain⟨σ3,H3,I3,n3⟩:=q3;obtain⟨m',hm,w3⟩:=hN σ3 H3 n3;exact⟨m',hm,σ3,H3,I3,w3⟩
  |cont=>
   obtain⟨σ3,H3,I3,n3⟩:=q3;obtain⟨m',hm,w3⟩:=hN σ3 H3 n3;exact⟨m',hm,σ3,H3,I3,w3⟩
  |brk=>exact q3
  |ret v=>exact q3
 |false=>
  rw[if_neg zan];exact wpAny_execs_nil ⟨σ1,H2,I2,q2⟩
end
structure It where
 go:Nat->Hp->Prop
 gL:Nat->Hp->V->Hp->Prop
 stop:Nat->Hp->Prop
def iA(X:Cx)(pins:List (Addr×Obj))(H:Hp)(b:Addr):Prop:=
 H b=none/\b≠X.env.locals/\b∉X.fs/\(b∈X.ex\/X.s₀.heap.objs.size<=b)/\(∀x c,X.env.cells.lookup x=some c->c≠b)/\∀p∈X.pn++pins,p.1≠b
theorem Inv.u9{X:Cx}{pins:List (Addr×Obj)}{σ:St}{H H':Hp}{s:Shared}{b:Addr}(I:Inv X pins σ H s)(hb:s.heap.objs.size<=b)(hn:H' b=none):iA X pins H' b:=by
 refine⟨hn,Nat.ne_of_gt<|zaw I.lt hb,I.De hb,.inr<|zar I.sz hb,fun x c e z=>?_,fun p hp z=>?_⟩
 ·obtain⟨v,q⟩:=I.cell x c e;exact absurd (zaw q.lt (by rw[z];exact hb))<|zaD _
 ·exact absurd (zaw (Heap.lt_size (I.pin p hp).1) (by rw[z];exact hb)) (zaD _)
structure Turn (P:Program) (w:World) (K:Frag) (tg:Expr) (J:It) (fp:List Addr) (it:Addr) (tn:Nat->Heap->Prop):Prop where
 mem:it∈fp
 obj:∀i h,tn i h->∀b∈fp,∃o,h.get? b=some o/\∀v,o.data≠ .cell v
 keep:∀i h h',tn i h->(∀b∈fp,∀o,h.get? b=some o->h'.get? b=some o)->tn i h'
 item:∀(X:Cx),X.prog=P->X.w=w->X.K=K->X.calm=true->∀(i:Nat) (pins:List (Addr×Obj)) (s:Shared) (σ:St) (H:Hp) (E:Value->Shared->Prop),Inv X pins σ H s->(∀b∈fp,iA X pins H b)->tn i s.heap->J.go i H->
  wpAny (model P w) X.A (pyNext (.ref it)) (fun r s1=>∃u,r=some u/\
   wpAny (model P w) X.A (letOwnedTupleGo tg (.ref it) u) (fun _ s2=>∃x H',Inv X pins σ H' s2/\RelV x u/\J.gL i H x H'/\tn (i+1) s2.heap/\∀b∈fp,H' b=none) E s1) E s
 done:∀(X:Cx),X.prog=P->X.w=w->X.K=K->X.calm=true->∀(i:Nat) (pins:List (Addr×Obj)) (s:Shared) (σ:St) (H:Hp) (E:Value->Shared->Prop),Inv X pins σ H s->(∀b∈fp,iA X pins H b)->tn i s.heap->J.stop i H->
  wpAny (model P w) X.A (pyNext<|.ref it) (fun r s1=>r=none/\Inv X pins σ H s1) E s
 self:∀(A:Around) (i:Nat) (s:Shared) (Q:Value->Shared->Prop) (E:Value->Shared->Prop),tn i s.heap->Q (.ref it) s->wpAny (model P w) A (pyIter<|.ref it) Q E s
abbrev TI:=St->Hp->(It->Hp->Prop)->Prop
def DK(X:Cx)(pins:List (Addr×Obj))(σ:St)(tg:Expr)(R:It->Hp->Prop)(nZ:Value)(s2:Shared):Prop:=
 ∃(it:Addr) (fp:List Addr) (tn:Nat->Heap->Prop) (J:It) (H':Hp),nZ=.ref it/\Inv X pins σ H' s2/\Turn X.prog X.w X.K tg J fp it tn/\tn 0 s2.heap/\(∀b∈fp,iA X pins H' b)/\R J H'
def PI(X:Cx)(tg iter:Expr)(wi:TI):Prop:=
 ∀(pins:List (Addr×Obj)) (s:Shared) (σ:St) (H:Hp) (R:It->Hp->Prop),Inv X pins σ H s->wi σ H R->
  wpAny (model X.prog X.w) X.A (eval iter X.env) (fun v s1=>wpAny (model X.prog X.w) X.A (pyIter v) (DK X pins σ tg R) X.xe s1) X.xe s
theorem u_{M:Model}{A:Around}{E:Value->Shared->Prop}{s:Shared}{tg:Expr}{it:Addr}{u:Value}{o:Obj}{n:String}{vs:Array Value}{Q:Unit->Shared->Prop}(ho:s.heap.get? it=some o)(hc:o.cls=.type n)(hd:o.data=.fields vs)
    (hn:["enumerate","zip","dict_itemiterator","dict_reverseitemiterator","odict_iterator","itertools.zip_longest","itertools.pairwise"].contains n=false) (hQ:Q () s):wpAny M A (letOwnedTupleGo tg (.ref it) u) Q E s:=by
  unfold letOwnedTupleGo;cases tg<;>first
    |exact wpAny_pure hQ
    | (cases u<;>first
        |exact wpAny_pure hQ
        | (refine wpAny_bind (wpAny_load ho ?_)
           rw[hc,hd];show wpAny M A (if (["enumerate","zip","dict_itemiterator","dict_reverseitemiterator","odict_iterator","itertools.zip_longest","itertools.pairwise"].contains n && vs[0]?==some (rawInt _))=true then _ else _) Q E s
           rw[if_neg (by intro h;rw[hn,zbm] at h;cases h)]
           exact wpAny_pure hQ))
def eO(K:Frag)(a:Addr):It:=
 ⟨fun i H=>∃xs x,ay K H a xs/\xs[i]?=some x,fun i H x H'=>H'=H/\∀xs,ay K H a xs->xs[i]?=some x,fun i H=>∃xs,ay K H a xs/\xs.length<=i⟩
def Nv(K:Frag)(a:Addr):It:=
 ⟨fun i H=>∃xs x,aO K H a xs/\xs[i]?=some x,fun i H x H'=>H'=H/\∀xs,aO K H a xs->xs[i]?=some x,fun i H=>∃xs,aO K H a xs/\xs.length<=i⟩
def fI(lo:Int)(n:Nat):It:=⟨fun i _=>i<n,fun i H x H'=>H'=H/\x=.int (lo+i),fun i _=>n<=i⟩
theorem va{P:Program}{w:World}{K:Frag}{tg:Expr}(a it:Addr):Turn P w K tg (eO K a) [it] it (fun i h=>h.IsListIter it a i) where
 mem:=by simp
 obj:=fun i h st b hb=>by
  have e:b=it:=by simpa using hb
  subst e;obtain⟨o,e,c,d⟩:=st;exact⟨o,e,fun v z=>by rw[d] at z;cases z⟩
 keep:=fun i h h' st k=>st.at fun o e=>k it (by simp) o e
 item:=by
  intro X hP hw hK hc i pins s σ H E I hf st hg;subst hP hw hK;obtain⟨xs,x,hq,hx⟩:=hg;obtain⟨aq,rv,p,hz⟩:=I.list hq;obtain⟨u,hu,ru⟩:=rv.get hx;obtain⟨f0,f1,f2,f3,f4,f5⟩:=hf it (by simp)
  refine wpAny_pyNext_list_item st p.isList (x:=u) (by simpa using hu) fun h' i9 sb=>?_
  have I1:Inv X pins σ H {s with heap:=h'}:=I.turned (t':=s.toks) (fun b o hb e=>(sb.2 b hb).trans e) f0 f1 f3 f4 f5
  obtain⟨o,e,c,d⟩:=id i9;exact⟨u,rfl,u_ (s:={s with heap:=h'}) e c d (by decide) ⟨x,H,I1,ru,⟨rfl,fun ys hy=>by rw[I.Dz hy hq];exact hx⟩,i9,fun b hb=>(hf b hb).1⟩⟩
 done:=by
  intro X hP hw hK hc i pins s σ H E I hf st hg;subst hP hw hK;obtain⟨xs,hq,hx⟩:=hg;obtain⟨aq,rv,p,hz⟩:=I.list hq;obtain⟨f0,f1,f2,f3,f4,f5⟩:=hf it (by simp)
  have hl:=rv.length;exact wpAny_pyNext_list_end (I.ok.hd hc) st p.isList (by simp;omega) fun h' eb=>⟨rfl,I.turned (t':=s.toks) (fun b o hb e=>eb b o hb e) f0 f1 f3 f4 f5⟩
 self:=fun _ _ _ _ _ st h=>wpAny_pyIter_listiter st h
theorem Nw{P:Program}{w:World}{K:Frag}{tg:Expr}(it:Addr)(lo:Int)(n:Nat):Turn P w K tg (fI lo n) [it] it (fun i h=>IsRangeIter h it (lo+(i:Nat)*1) ((n:Int) - (i:Nat)) 1) where
 mem:=by simp
 obj:=fun i h st b hb=>by
  have e:b=it:=by simpa using hb
  subst e;exact⟨_,st,fun v z=>by
   have z':Data.fields _=Data.cell v:=z;cases z'⟩
 keep:=fun i h h' st k=>k it (by simp) _ st
 item:=by
  intro X hP hw hK hc i pins s σ H E I hf st hg;subst hP hw hK;obtain⟨f0,f1,f2,f3,f4,f5⟩:=hf it (by simp)
  have W:=Walks.range (prog:=X.prog) (w:=X.w) (I.ok.hd hc) it lo 1 n;refine W.item i s _ _ hg st fun v h' tk hv i9 kk=>?_;obtain⟨t,rfl⟩:=hv;have I1:Inv X pins σ H {s with heap:=h',toks:=tk}:=I.turned (fun b o hb e=>kk b o (by simpa using hb) e) f0 f1 f3 f4 f5
  refine⟨_,rfl,u_ (s:={s with heap:=h',toks:=tk}) (n:="range_iterator") i9 rfl rfl (by decide) ⟨.int<|lo+i,H,I1,⟨t,?_⟩,⟨rfl,rfl⟩,i9,fun b hb=>(hf b hb).1⟩⟩
  rw[Int.mul_one]
 done:=by
  intro X hP hw hK hc i pins s σ H E I hf st hg;subst hP hw hK;obtain⟨f0,f1,f2,f3,f4,f5⟩:=hf it (by simp)
  exact wpAny_pyNext_range_end (I.ok.hd hc) st (by have:n<=i:=hg;omega) fun h' eb=>⟨rfl,I.turned (t':=s.toks) (fun b o hb e=>eb b o hb e) f0 f1 f3 f4 f5⟩
 self:=fun _ _ _ _ _ st h=>wpAny_pyIter_rangeiter st h
section
variable {X:Cx}{tg:Expr}
def rR(K:Frag)(tl:TE):TI:=fun σ H R=>tl σ H fun x H1=>∃a,x=.ref a/\(∃xs,ay K H1 a xs)/\R (eO K a) H1
def Nx(K:Frag)(tl:TE):TI:=fun σ H R=>tl σ H fun x H1=>∃a,x=.ref a/\(∃xs,aO K H1 a xs)/\R (Nv K a) H1
theorem Ny{l:Expr}{tl:TE}(hl:PE X l tl):PI X tg l (rR X.K tl):=by
 intro pins s σ H R I h;refine aF (hl pins s σ H _ I h) fun v s1 ⟨x,H1,I1,r1,q1⟩=>?_;obtain⟨a,e,⟨xs,hq⟩,q⟩:=q1;subst e;cases r1;obtain⟨aq,rv,p,hz⟩:=I1.list hq;refine wpAny_pyIter_list p.isList ?_;refine⟨s1.heap.objs.size,[s1.heap.objs.size],_,_,H1,rfl,I1.kept (t':=s1.toks) fun b o e=>Heap.get?_push_of_some _ e,va a _,⟨_,Heap.get?_push_size _ rfl,rfl,rfl⟩,fun b hb=>?_,q⟩;have e:b=s1.heap.objs.size:=by simpa using hb
 subst e;exact I1.u9 (zqR _)<|I1.az.fresh<|zqR _
theorem Nz{pins:List (Addr×Obj)}{σ:St}{H:Hp}{s:Shared}{R:It->Hp->Prop}{E:Value->Shared->Prop}{lo hi:Int}{t u v:Tok}{tk:Nat}(I:Inv X pins σ H s)(h1: -(2 ^ 62)<=lo)(h2:lo<2 ^ 62)(h3: -(2 ^ 62)<=hi)(h4:hi<2 ^ 62)
  (q:R (fI lo (hi - lo).toNat) H):wpAny (model X.prog X.w) X.A (pyIter<|.ref s.heap.objs.size) (DK X pins σ tg R) E {s with heap:=s.heap.push {cls:=.type "range",data:=.fields #[.int lo t,.int hi u,.int 1 v]},toks:=tk}:=by
 refine wpAny_pyIter_range (IsRange.new ..) (small_one h1 h2 h3 h4) ?_;have I1:Inv X pins σ H {s with heap:=s.heap.push {cls:=.type "range",data:=.fields #[.int lo t,.int hi u,.int 1 v]},toks:=tk}:=I.kept fun b o e=>Heap.get?_push_of_some _ e
 refine⟨(s.heap.push {cls:=.type "range",data:=.fields #[.int lo t,.int hi u,.int 1 v]}).objs.size,[(s.heap.push {cls:=.type "range",data:=.fields #[.int lo t,.int hi u,.int 1 v]}).objs.size],_,_,H,rfl,
  I1.kept (t':=tk) fun b o e=>Heap.get?_push_of_some _ e,Nw _ lo (hi - lo).toNat,?_,fun b hb=>?_,q⟩
 ·have e1:lo+((0:Nat):Int)*1=lo:=by simp
  have e2:(((hi - lo).toNat:Nat):Int) - ((0:Nat):Int)=Builtin.Range.rangeSize lo hi 1:=by rw[rangeSize_one];split<;>omega
  show IsRangeIter _ _ (lo+((0:Nat):Int)*1) ((((hi - lo).toNat:Nat):Int) - ((0:Nat):Int)) 1;rw[e1,e2];exact Heap.get?_push_size _ rfl
 ·have e:b=(s.heap.push {cls:=.type "range",data:=.fields #[.int lo t,.int hi u,.int 1 v]}).objs.size:=by simpa using hb
  subst e;exact I1.u9 (zqR _)<|I1.az.fresh<|zqR _
def DL(ta:TA):TI:=fun σ H R=>ta σ H fun vs H1=>∃j:Int,vs=[.int j]/\ -(2 ^ 62)<=j/\j<2 ^ 62/\R (fI 0 j.toNat) H1
def NA(ta:TA):TI:=fun σ H R=>ta σ H fun vs H1=>∃i j:Int,vs=[.int i,.int j]/\(-(2 ^ 62)<=i/\i<2 ^ 62/\ -(2 ^ 62)<=j/\j<2 ^ 62)/\R (fI i (j - i).toNat) H1
theorem NB{a:Expr}{ta:TA}{p pos:Pos}(hg:Gl X "range")(hm:X.mg "range"=none)(ha:PA X [a] ta)(hs:starEach [a] X.env=[(false,eval a X.env)]:=by rfl):PI X tg (.Call (.Name "range" p) [a] [] pos) (DL ta):=by
 intro pins s σ H R I h;refine Call_<|qi I hg hm boot_range<|PyProof.Rows.callWith_type1 (aF (ha pos pins s σ H _ I h) fun us s1 ⟨vs,H1,I1,r1,q1⟩=>?_) hs rfl;obtain⟨j,e,q1,q2,q⟩:=q1;subst e;cases r1 with
 |cons r rr=>
  cases rr;obtain⟨t,rfl⟩:=r;exact call_range_1<|Nz I1 (by omega) (by omega) q1 q2 (by simpa using q)
def rS(wi:TI)(g:TG)(tb:TS):TS:=fun D σ H=>wi σ H fun J H1=>∃W:Nat->Nat->St->Hp->Prop,(∃m,W 0 m σ H1)/\∀i m σ H,W i m σ H->
 (J.stop i H/\D.nx σ H)\/(J.go i H/\∃N:St->Hp->Prop,(∀σ' H',N σ' H'->∃m',m'<m/\W (i+1) m' σ' H')/\∀x H',J.gL i H x H'->g x σ H' fun σ2 H2=>tb {D with nx:=N,ct:=N,bk:=D.nx} σ2 H2)
def qm(fp:List Addr)(h:Heap):List (Addr×Obj):=fp.filterMap fun b=>(h.get? b).map fun o=>(b,o)
theorem vb{fp:List Addr}{h:Heap}{b:Addr}{o:Obj}(hb:b∈fp)(e:h.get? b=some o):(b,o)∈qm fp h:=zbP.mpr ⟨b,hb,by rw[e];rfl⟩
theorem NC{fp:List Addr}{h:Heap}{p:Addr×Obj}(hp:p∈qm fp h):p.1∈fp/\h.get? p.1=some p.2:=by
 obtain⟨b,hb,e⟩:=zbP.mp hp;cases q:h.get? b with
 |none=>rw[q] at e;cases e
 |some o=>
  rw[q] at e;have e':(b,o)=p:=zak e;subst e';exact⟨hb,q⟩
theorem Inv.pinned{pins:List (Addr×Obj)}{σ:St}{H:Hp}{s:Shared}{fp:List Addr}(I:Inv X pins σ H s)(hf:∀b∈fp,iA X pins H b)(ho:∀b∈fp,∃o,s.heap.get? b=some o/\∀v,o.data≠ .cell v):Inv X (pins++qm fp s.heap) σ H s:=
 I.qh fun p hp=>(zag.mp hp).elim (fun z=>I.pin p<|zaz _ z) fun z=>by
  obtain⟨hb,e⟩:=NC z;obtain⟨f0,f1,f2,_⟩:=hf p.1 hb;obtain⟨o,e',d⟩:=ho p.1 hb;rw[e] at e';cases e';exact⟨e,f0,f1,f2,d⟩
theorem Inv.yq{pins pl:List (Addr×Obj)}{σ:St}{H:Hp}{s:Shared}(I:Inv X (pins++pl) σ H s):Inv X pins σ H s:=I.qh fun p hp=>I.pin p (zaz _<|zaS _ hp)
theorem yr{iter:Expr}{body:List Stmt}{wi:TI}{g:TG}{tb:TS}{pos:Pos}(hp:PassesOwn (model X.prog X.w) X.A X.env X.xe)(hc:X.calm=true)(hi:PI X tg iter wi)(hg:PG X tg g)(hb:cT X body tb)
  (hs:∀x,foldedSetIterable iter X.env x=pure x:=by intro _;rfl):PS X (.For tg iter body [] pos) (rS wi g tb):=by
 intro pins s σ H D I h;refine wpAny_For (aF (hi pins s σ H _ I h) fun v s1 h1=>aF h1 fun nZ s2 h2=>?_) hs;obtain⟨it,fp,tn,J,H2,e,I2,T,rT,f2,W,⟨m0,w0⟩,turn⟩:=h2;subst e;have n6:∀{H':Hp},(∀b∈fp,H' b=none)->∀b∈fp,iA X pins H' b:=fun hn b hb=>⟨hn b hb,(f2 b hb).2⟩;refine codeAny_forLoop_any (fun n s'=>∃i σ' H',Inv X pins σ' H' s'/\tn i s'.heap/\(∀b∈fp,H' b=none)/\W i n σ' H') ?_ m0 ⟨0,σ,H2,I2,rT,fun b hb=>(f2 b hb).1,w0⟩;rintro n s3 ⟨i,σ3,H3,I3,DM,DN,w3⟩;rcases turn i n σ3 H3 w3 with⟨stop,qn⟩|⟨go,N,hN,step⟩
 ·refine wpAny_passesOwn hp (aF (T.done X rfl rfl rfl hc i pins s3 σ3 H3 X.xe I3 (n6 DN) DM stop) fun r s4 ⟨hr,I4⟩=>?_);subst hr;exact wpAny_execs_nil ⟨σ3,H3,I4,qn⟩
 ·refine wpAny_passesOwn hp (aF (T.item X rfl rfl rfl hc i pins s3 σ3 H3 X.xe I3 (n6 DN) DM go) fun r s4 ⟨u,hr,h4⟩=>?_);subst hr;refine wpAny_passesOwn hp<|aF h4 fun _ s5 ⟨x,H5,I5,r5,y5,n_,yt⟩=>?_;have rV:=I5.pinned (n6 yt) (T.obj _ _ n_);refine wpAny_passesOwn hp<|aF (hg _ s5 σ3 H5 x u _ rV r5<|step x H5 y5) fun _ s6 ⟨σ6,H6,I6,q6⟩=>?_;refine wpAny_passesOwn hp<|aF (hb _ s6 σ6 H6 _ I6 q6) fun f s7 q7=>?_;have again:∀{σ7:St}{H7:Hp},Inv X (pins++qm fp s5.heap) σ7 H7 s7->N σ7 H7->∃m,m<n/\∃i σ' H',Inv X pins σ' H' s7/\tn i s7.heap/\(∀b∈fp,H' b=none)/\W i m σ' H':=fun {σ7 H7} I7 n7=>by
   obtain⟨m',hm,w7⟩:=hN σ7 H7 n7;refine⟨m',hm,i+1,σ7,H7,I7.yq,T.keep _ _ _ n_ fun b hb o e=>(I7.pin (b,o)<|zaz _<|zaz _<|vb hb e).1,fun b hb=>?_,w7⟩;obtain⟨o,e,d⟩:=T.obj _ _ n_ b hb;exact(I7.pin (b,o)<|zaz _<|zaz _<|vb hb e).2.1
  cases f with
  |next=>obtain⟨σ7,H7,I7,n7⟩:=q7;exact again I7 n7
  |cont=>obtain⟨σ7,H7,I7,n7⟩:=q7;exact again I7 n7
  |brk=>obtain⟨σ7,H7,I7,q7⟩:=q7;exact⟨σ7,H7,I7.yq,q7⟩
  |ret v=>obtain⟨x7,σ7,H7,I7,r7,q7⟩:=q7;exact⟨x7,σ7,H7,I7.yq,r7,q7⟩
end
theorem iB{K:Frag}{a:Addr}{xs:List V}{g:TG}{tb:TS}{D:Ends}{σ:St}{H:Hp}(Pv:Nat->St->Hp->Prop)(h0:Pv 0 σ H)(hl:∀i σ H,i<=xs.length->Pv i σ H->ay K H a xs)
  (hs:∀i x σ H,xs[i]?=some x->Pv i σ H->g x σ H fun σ2 H2=>tb {D with nx:=Pv (i+1),ct:=Pv (i+1),bk:=D.nx} σ2 H2) (hd:∀σ H,Pv xs.length σ H->D.nx σ H):
  ∃W:Nat->Nat->St->Hp->Prop,(∃m,W 0 m σ H)/\∀i m σ H,W i m σ H->
   ((eO K a).stop i H/\D.nx σ H)\/((eO K a).go i H/\∃N:St->Hp->Prop,(∀σ' H',N σ' H'->∃m',m'<m/\W (i+1) m' σ' H')/\∀x H',(eO K a).gL i H x H'->g x σ H' fun σ2 H2=>tb {D with nx:=N,ct:=N,bk:=D.nx} σ2 H2):=by
 refine⟨fun i m σ H=>m=xs.length - i/\i<=xs.length/\Pv i σ H,⟨xs.length,by simp,zqZ _,h0⟩,?_⟩
 rintro i m σ H ⟨rfl,hi,p⟩;have q:=hl i σ H hi p;by_cases aG:i<xs.length
 ·refine .inr ⟨⟨xs,xs[i],q,by simp[aG]⟩,Pv<|i+1,fun σ' H' p'=>⟨xs.length - (i+1),by omega,rfl,aG,p'⟩,fun x H' y=>?_⟩
  obtain⟨e,y⟩:=y;subst e;exact hs i x σ _ (y xs q) p
 ·have e:i=xs.length:=by omega
  subst e;exact .inl ⟨⟨xs,q,zqR _⟩,hd σ H p⟩
theorem DO{lo:Int}{n:Nat}{g:TG}{tb:TS}{D:Ends}{σ:St}{H:Hp}(Pv:Nat->St->Hp->Prop)(h0:Pv 0 σ H)
  (hs:∀i σ H,i<n->Pv i σ H->g (.int<|lo+i) σ H fun σ2 H2=>tb {D with nx:=Pv (i+1),ct:=Pv (i+1),bk:=D.nx} σ2 H2) (hd:∀σ H,Pv n σ H->D.nx σ H):
  ∃W:Nat->Nat->St->Hp->Prop,(∃m,W 0 m σ H)/\∀i m σ H,W i m σ H->
   ((fI lo n).stop i H/\D.nx σ H)\/((fI lo n).go i H/\∃N:St->Hp->Prop,(∀σ' H',N σ' H'->∃m',m'<m/\W (i+1) m' σ' H')/\∀x H',(fI lo n).gL i H x H'->g x σ H' fun σ2 H2=>tb {D with nx:=N,ct:=N,bk:=D.nx} σ2 H2):=by
 refine⟨fun i m σ H=>m=n - i/\i<=n/\Pv i σ H,⟨n,by simp,zqZ _,h0⟩,?_⟩
 rintro i m σ H ⟨rfl,hi,p⟩;by_cases aG:i<n
 ·refine .inr ⟨aG,Pv<|i+1,fun σ' H' p'=>⟨n - (i+1),by omega,rfl,aG,p'⟩,fun x H' y=>?_⟩
  obtain⟨e,y⟩:=y;subst e y;exact hs i σ _ aG p
 ·have e:i=n:=by omega
  subst e;exact .inl ⟨zqR _,hd σ H p⟩
abbrev R2:=V->V->Hp->VK->Prop
def aX(X:Cx)(f:Value->Value->Sem Value)(r:R2):Prop:=
 ∀(pins:List (Addr×Obj)) (s:Shared) (σ:St) (H:Hp) (x y:V) (v u:Value) (Q:VK),Inv X pins σ H s->RelV x v->RelV y u->r x y H Q->
  wpAny (model X.prog X.w) X.A (f v u) (EP X pins σ Q) X.xe s
def vc(X:Cx)(f:Value->Sem Value)(r:V->Hp->VK->Prop):Prop:=
 ∀(pins:List (Addr×Obj)) (s:Shared) (σ:St) (H:Hp) (x:V) (v:Value) (Q:VK),Inv X pins σ H s->RelV x v->r x H Q->
  wpAny (model X.prog X.w) X.A (f v) (EP X pins σ Q) X.xe s
def cv(X:Cx)(f:Value)(r:List V->Hp->VK->Prop):Prop:=
 ∀(pins:List (Addr×Obj)) (s:Shared) (σ:St) (H:Hp) (xs:List V) (us:List Value) (Q:VK),Inv X pins σ H s->Vals xs us->r xs H Q->
  wpAny (model X.prog X.w) X.A (call f us) (EP X pins σ Q) X.xe s
def ND(X:Cx)(r:V->Hp->(Bool->Hp->Prop)->Prop):Prop:=
 ∀(pins:List (Addr×Obj)) (s:Shared) (σ:St) (H:Hp) (x:V) (v:Value) (Q:Bool->Hp->Prop),Inv X pins σ H s->RelV x v->r x H Q->
  wpAny (model X.prog X.w) X.A (truthy v) (TP X pins σ Q) X.xe s
def eB(r:R2)(ta tb:TE):TE:=fun σ H Q=>ta σ H fun x H1=>tb σ H1 fun y H2=>r x y H2 Q
def DP(r:V->Hp->VK->Prop)(ta:TE):TE:=fun σ H Q=>ta σ H fun x H1=>r x H1 Q
def rI(C:Int->Int->Prop)(g:Int->Int->V):R2:=fun x y H Q=>∃i j,x=.int i/\y=.int j/\C i j/\Q (g i j) H
def kD(g:Int->Int->V):R2:=fun x y H Q=>∃i j,x=.int i/\y=.int j/\Q (g i j) H
def rU(g:Int->V):V->Hp->VK->Prop:=fun x H Q=>∃i,x=.int i/\Q (g i) H
section
variable {X:Cx}{a b c:Expr}{ta tb tc:TE}{pos:Pos}
theorem yu(ha:PE X a ta)(hb:PE X b tb){pins:List (Addr×Obj)}{s:Shared}{σ:St}{H:Hp}{R:V->V->Hp->Prop}(I:Inv X pins σ H s)
  (h:ta σ H fun x H1=>tb σ H1 fun y H2=>R x y H2) {Q:Value->Shared->Prop}{f:Value->Value->Sem Value}
  (hf:∀v u s2 x y H2,Inv X pins σ H2 s2->RelV x v->RelV y u->R x y H2->wpAny (model X.prog X.w) X.A (f v u) Q X.xe s2):
  wpAny (model X.prog X.w) X.A (eval a X.env) (fun v s₁=>wpAny (model X.prog X.w) X.A (eval b X.env) (fun u s₂=>wpAny (model X.prog X.w) X.A (f v u) Q X.xe s₂) X.xe s₁) X.xe s:=by
 refine aF (ha pins s σ H _ I h) fun v s1 ⟨x,H1,I1,r1,q1⟩=>?_;refine aF (hb pins s1 σ H1 _ I1 q1) fun u s2 ⟨y,H2,I2,r2,q2⟩=>?_;exact hf v u s2 x y H2 I2 r1 r2 q2
theorem NF{op:Operator}{r:R2}(ho:aX X (binaryOp op) r)(ha:PE X a ta)(hb:PE X b tb):PE X (.BinOp a op b pos) (eB r ta tb):=by
 intro pins s σ H Q I h;exact wpAny_BinOp<|yu ha hb I h fun v u s2 x y H2 I2 rx ry q=>ho pins s2 σ H2 x y v u Q I2 rx ry q
theorem NG{op:UnaryOp}{r:V->Hp->VK->Prop}(ho:vc X (unaryOp op) r)(ha:PE X a ta):PE X (.UnaryOp op a pos) (DP r ta):=by
 intro pins s σ H Q I h;exact UnaryOp_<|aF (ha pins s σ H _ I h) fun v s1 ⟨x,H1,I1,r1,q1⟩=>ho pins s1 σ H1 x v Q I1 r1 q1
theorem vd{f:Value->Value->Sem Value}{C:Int->Int->Prop}{g:Int->Int->Int}
  (rule:∀(i j:Int) (t u:Tok) (s:Shared) (Q:Value->Shared->Prop) (E:Value->Shared->Prop),C i j->Q (.int (g i j) s.toks) {s with toks:=s.toks+1}->wpAny (model X.prog X.w) X.A (f (.int i t)<|.int j u) Q E s):
  aX X f (rI C fun i j=>.int (g i j)):=by
 intro pins s σ H x y v u Q I rx ry h;obtain⟨i,j,rfl,rfl,hc,q⟩:=h;obtain⟨t,rfl⟩:=rx;obtain⟨t',rfl⟩:=ry;exact rule i j t t' s _ _ hc ⟨.int<|g i j,H,I.tok _,⟨_,rfl⟩,q⟩
theorem DQ{f:Value->Value->Sem Value}{g:Int->Int->Int}
  (rule:∀(i j:Int) (t u:Tok) (s:Shared) (Q:Value->Shared->Prop) (E:Value->Shared->Prop),Q (.int (g i j) s.toks) {s with toks:=s.toks+1}->wpAny (model X.prog X.w) X.A (f (.int i t)<|.int j u) Q E s):
  aX X f (kD fun i j=>.int (g i j)):=by
 intro pins s σ H x y v u Q I rx ry h;obtain⟨i,j,rfl,rfl,q⟩:=h;obtain⟨t,rfl⟩:=rx;obtain⟨t',rfl⟩:=ry;exact rule i j t t' s _ _ ⟨.int<|g i j,H,I.tok _,⟨_,rfl⟩,q⟩
theorem vf{f:Value->Value->Sem Value}{g:Int->Int->Bool}
  (rule:∀(i j:Int) (t u:Tok) (s:Shared) (Q:Value->Shared->Prop) (E:Value->Shared->Prop),Q (.bool<|g i j) s->wpAny (model X.prog X.w) X.A (f (.int i t)<|.int j u) Q E s):
  aX X f (kD fun i j=>.bl (g i j)):=by
 intro pins s σ H x y v u Q I rx ry h;obtain⟨i,j,rfl,rfl,q⟩:=h;obtain⟨t,rfl⟩:=rx;obtain⟨t',rfl⟩:=ry;exact rule i j t t' s _ _ ⟨.bl<|g i j,H,I,rfl,q⟩
def yv(i j:Int):Prop:=0<j/\j<1073741824
def yw(i j:Int):Prop:=0<=j/\j<=1000000/\i.natAbs<2 ^ 64
def rW(i j:Int):Prop:=(-(2 ^ 64) <i/\i<2 ^ 64)\/(-(2 ^ 64) <j/\j<2 ^ 64)
theorem rW.ok{i j:Int}(h:rW i j):IntMulOk i j:=by
 rcases h with⟨h1,h2⟩|⟨h1,h2⟩
 ·exact .of_left (intBits_le_64 h1 h2)
 ·exact .of_right (intBits_le_64 h1 h2)
theorem NH:aX X (binaryOp .Add) (kD fun i j=>.int (i+j)):=DQ fun _ _ _ _ _ _ _ q=>add_int q
theorem NI:aX X (binaryOp .Sub) (kD fun i j=>.int (i - j)):=DQ fun _ _ _ _ _ _ _ q=>sub_int q
theorem NJ:aX X (binaryOp .Mult) (rI rW fun i j=>.int (i*j)):=vd fun _ _ _ _ _ _ _ hc q=>mul_int q hc.ok
theorem NK:aX X (binaryOp .FloorDiv) (rI yv fun i j=>.int (i / j)):=vd fun i j _ _ _ _ _ hc q=>by
 have h1:(0:Int) <j:=hc.1;have h2:j<1073741824:=hc.2;exact floordiv_int (by omega) (by rw[Int.fdiv_eq_ediv_of_nonneg i (by omega)];exact q)<|.inl<|PyProof.noPylong_small (by omega)
theorem NL:aX X (binaryOp .Mod) (rI (fun _ j=>0<j) fun i j=>.int (i % j)):=vd fun i j _ _ _ _ _ hc q=>by
 have h1:(0:Int) <j:=hc;exact mod_int' (by omega) (by rw[Int.fmod_eq_emod_of_nonneg i (by omega)];exact q)
theorem NM:aX X (binaryOp .Pow) (rI yw fun i j=>.int (i ^ j.toNat)):=vd fun _ _ _ _ _ _ _ hc q=>pow_int_small hc.1 hc.2.1 hc.2.2 q
theorem NN{f:Value->Sem Value}{g:Int->Int}
  (rule:∀(i:Int) (t:Tok) (s:Shared) (Q:Value->Shared->Prop) (E:Value->Shared->Prop),Q (.int (g i) s.toks) {s with toks:=s.toks+1}->wpAny (model X.prog X.w) X.A (f<|.int i t) Q E s):
  vc X f (rU fun i=>.int (g i)):=by
 intro pins s σ H x v Q I rx h;obtain⟨i,rfl,q⟩:=h;obtain⟨t,rfl⟩:=rx;exact rule i t s _ _ ⟨.int<|g i,H,I.tok _,⟨_,rfl⟩,q⟩
theorem NO:vc X (unaryOp .USub) (rU fun i=>.int (-i)):=NN fun _ _ _ _ _ q=>neg_int q
end
def jK:V->V->Bool
 |.aD,.aD=>true|.aD,.int _=>true|.int _,.aD=>true|.aD,.bl _=>true|.bl _,.aD=>true|.aD,.str _=>true|.str _,.aD=>true
 |.int _,.int _=>true|.bl _,.bl _=>true|.str _,.str _=>true|.e9 _,.e9 _=>true
 |.int _,.str _=>true|.str _,.int _=>true|.bl _,.str _=>true|.str _,.bl _=>true
 |_,_=>false
def NP:R2:=fun x y H Q=>jK x y=true/\Q (.bl<|decide<|x=y) H
def NQ:R2:=fun x y H Q=>jK x y=true/\Q (.bl<|!decide (x=y)) H
theorem DR{i j:Int}:decide (V.int i=V.int j)=(i==j):=by
 rw[zbn]
 simp
theorem DS{i j:Bool}:decide (V.bl i=V.bl j)=(i==j):=by
 rw[zbn]
 simp
theorem i_{i j:Str}:decide (V.str i=V.str j)=(i==j):=by
 rw[zbn]
 simp
theorem DT{i j:Array UInt8}:decide (V.e9 i=V.e9 j)=(i.toList==j.toList):=by
 rw[zbn];cases i;cases j
 simp
section
variable {X:Cx}{a b c:Expr}{ta tb tc:TE}{pos:Pos}
theorem bV{pins:List (Addr×Obj)}{σ:St}{H:Hp}{s:Shared}{Q:VK}{k k':Bool}(I:Inv X pins σ H s)(q:Q (.bl k) H)(e:k=k'):EP X pins σ Q (.bool k') s:=by
 subst e;exact⟨.bl k,H,I,rfl,q⟩
theorem NR:aX X (compareOp .Eq) NP:=by
 intro pins s σ H x y v u Q I rx ry h;obtain⟨hs,q⟩:=h;cases x with
 |aD=>
  cases rx;cases y with
  |aD=>cases ry;exact PySem.EqNone.eq_none_none (bV I q (by simp))
  |bl j=>cases ry;exact PySem.EqNone.eq_none_bool (bV I q (by simp))
  |int j=>obtain⟨t',rfl⟩:=ry;exact PySem.EqNone.eq_none_int (bV I q (by simp))
  |str j=>obtain⟨t',rfl⟩:=ry;exact PySem.EqNone.eq_none_str (bV I q (by simp))
  |_=>exact absurd (show false=true from hs) zan
 |bl i=>
  cases rx;cases y with
  |aD=>cases ry;exact PySem.EqNone.eq_bool_none (bV I q (by simp))
  |bl j=>cases ry;exact eq_bool (bV I q DS)
  |str j=>obtain⟨t',rfl⟩:=ry;exact PySem.EqMixed.eq_bool_str (bV I q (by simp))
  |_=>exact absurd (show false=true from hs) zan
 |int i=>
  obtain⟨t,rfl⟩:=rx;cases y with
  |aD=>cases ry;exact PySem.EqNone.eq_int_none (bV I q (by simp))
  |int j=>obtain⟨t',rfl⟩:=ry;exact eq_int (bV I q DR)
  |str j=>obtain⟨t',rfl⟩:=ry;exact PySem.EqMixed.eq_int_str (bV I q (by simp))
  |_=>exact absurd (show false=true from hs) zan
 |str i=>
  obtain⟨t,rfl⟩:=rx;cases y with
  |aD=>cases ry;exact PySem.EqNone.eq_str_none (bV I q (by simp))
  |bl j=>cases ry;exact PySem.EqMixed.eq_str_bool (bV I q (by simp))
  |int j=>obtain⟨t',rfl⟩:=ry;exact PySem.EqMixed.eq_str_int (bV I q (by simp))
  |str j=>obtain⟨t',rfl⟩:=ry;exact eq_str (bV I q i_)
  |_=>exact absurd (show false=true from hs) zan
 |e9 i=>
  obtain⟨t,rfl⟩:=rx;cases y with
  |e9 j=>obtain⟨t',rfl⟩:=ry;exact PySem.W.eq_bytes (bV I q DT)
  |_=>exact absurd (show false=true from hs) zan
 |_=>cases y<;>exact absurd (show false=true from hs) zan
theorem NT:aX X (compareOp .NotEq) NQ:=by
 intro pins s σ H x y v u Q I rx ry h;obtain⟨hs,q⟩:=h;cases x with
 |aD=>
  cases rx;cases y with
  |aD=>cases ry;exact PySem.EqNone.ne_none_none (bV I q (by simp))
  |bl j=>cases ry;exact PySem.EqNone.ne_none_bool (bV I q (by simp))
  |int j=>obtain⟨t',rfl⟩:=ry;exact PySem.EqNone.ne_none_int (bV I q (by simp))
  |str j=>obtain⟨t',rfl⟩:=ry;exact PySem.EqNone.ne_none_str (bV I q (by simp))
  |_=>exact absurd (show false=true from hs) zan
 |bl i=>
  cases rx;cases y with
  |aD=>cases ry;exact PySem.EqNone.ne_bool_none (bV I q (by simp))
  |bl j=>cases ry;exact ne_bool (bV I q<|congrArg not DS)
  |str j=>obtain⟨t',rfl⟩:=ry;exact PySem.EqMixed.ne_bool_str (bV I q (by simp))
  |_=>exact absurd (show false=true from hs) zan
 |int i=>
  obtain⟨t,rfl⟩:=rx;cases y with
  |aD=>cases ry;exact PySem.EqNone.ne_int_none (bV I q (by simp))
  |int j=>obtain⟨t',rfl⟩:=ry;exact ne_int (bV I q<|congrArg not DR)
  |str j=>obtain⟨t',rfl⟩:=ry;exact PySem.EqMixed.ne_int_str (bV I q (by simp))
  |_=>exact absurd (show false=true from hs) zan
 |str i=>
  obtain⟨t,rfl⟩:=rx;cases y with
  |aD=>cases ry;exact PySem.EqNone.ne_str_none (bV I q (by simp))
  |bl j=>cases ry;exact PySem.EqMixed.ne_str_bool (bV I q (by simp))
  |int j=>obtain⟨t',rfl⟩:=ry;exact PySem.EqMixed.ne_str_int (bV I q (by simp))
  |str j=>obtain⟨t',rfl⟩:=ry;exact ne_str (bV I q<|congrArg not i_)
  |_=>exact absurd (show false=true from hs) zan
 |e9 i=>
  obtain⟨t,rfl⟩:=rx;cases y with
  |e9 j=>obtain⟨t',rfl⟩:=ry;exact PySem.W.ne_bytes (bV I q<|congrArg not DT)
  |_=>exact absurd (show false=true from hs) zan
 |_=>cases y<;>exact absurd (show false=true from hs) zan
theorem NU:aX X (compareOp .Lt) (kD fun i j=>.bl (decide<|i<j)):=vf fun _ _ _ _ _ _ _ q=>lt_int q
theorem NV:aX X (compareOp .LtE) (kD fun i j=>.bl (decide<|i<=j)):=vf fun _ _ _ _ _ _ _ q=>le_int q
theorem NW:aX X (compareOp .Gt) (kD fun i j=>.bl (decide<|j<i)):=vf fun _ _ _ _ _ _ _ q=>gt_int q
theorem NX:aX X (compareOp .GtE) (kD fun i j=>.bl (decide<|j<=i)):=vf fun _ _ _ _ _ _ _ q=>ge_int q
theorem NY:aX X (compareOp .In) (fun x y H Q=>∃i j,x=.str i/\y=.str j/\Q (.bl<|!(Builtin.Str.occurrences j i 0 j.length 1).isEmpty) H):=by
 intro pins s σ H x y v u Q I rx ry h;obtain⟨i,j,rfl,rfl,q⟩:=h;obtain⟨t,rfl⟩:=rx;obtain⟨t',rfl⟩:=ry;exact in_str<|bV I q rfl
theorem NZ:aX X (compareOp .Is) (fun x y H Q=>y=.aD/\Q (.bl<|decide<|x=.aD) H):=by
 intro pins s σ H x y v u Q I rx ry h;obtain⟨rfl,q⟩:=h;cases ry;refine is_none_gen<|bV I q ?_;cases x<;>first
  | (cases rx;rfl)
  | (obtain⟨t,rfl⟩:=rx;rfl)
theorem N1:aX X (compareOp .IsNot) (fun x y H Q=>y=.aD/\Q (.bl<|!decide (x=.aD)) H):=by
 intro pins s σ H x y v u Q I rx ry h;obtain⟨rfl,q⟩:=h;cases ry;refine isnot_none_gen<|bV I q ?_;cases x<;>first
  | (cases rx;rfl)
  | (obtain⟨t,rfl⟩:=rx;rfl)
theorem N2:aX X (compareOp .NotIn) (fun x y H Q=>∃i j,x=.str i/\y=.str j/\Q (.bl<|!(!(Builtin.Str.occurrences j i 0 j.length 1).isEmpty)) H):=by
 intro pins s σ H x y v u Q I rx ry h;obtain⟨i,j,rfl,rfl,q⟩:=h;obtain⟨t,rfl⟩:=rx;obtain⟨t',rfl⟩:=ry;exact notIn_str<|bV I q rfl
theorem aX.or{f:Value->Value->Sem Value}{r r':R2}(h:aX X f r)(h':aX X f r'):aX X f (fun x y H Q=>r x y H Q\/r' x y H Q):=by
 intro pins s σ H x y v u Q I rx ry q;rcases q with q|q
 ·exact h pins s σ H x y v u Q I rx ry q
 ·exact h' pins s σ H x y v u Q I rx ry q
theorem N3{op:CmpOp}{r:R2}(ho:aX X (compareOp op) r)(ha:PE X a ta)(hb:PE X b tb)(hm:behindInMarks op b=false):PE X (.Compare a [op] [b] pos) (eB r ta tb):=by
 intro pins s σ H Q I h;exact wpAny_Compare1 (yu ha hb I h fun v u s2 x y H2 I2 rx ry q=>ho pins s2 σ H2 x y v u Q I2 rx ry q) hm
def mh(t:TE):TT:=fun σ H Q=>t σ H fun x H'=>∃k,x=.bl k/\Q k H'
theorem N4{op:CmpOp}{r:R2}(ho:aX X (compareOp op) r)(ha:PE X a ta)(hb:PE X b tb)(hm:behindInMarks op b=false):PT X (.Compare a [op] [b] pos) (mh<|eB r ta tb):=by
 intro pins s σ H Q I h;refine wpAny_isTrue_Compare1 (aF (ha pins s σ H _ I h) fun v s1 ⟨x,H1,I1,r1,q1⟩=>aF (hb pins s1 σ H1 _ I1 q1) fun u s2 ⟨y,H2,I2,r2,q2⟩=>
  aF (ho pins s2 σ H2 x y v u _ I2 r1 r2 q2) fun c s3 ⟨z,H3,I3,r3,k,e,q3⟩=>?_) hm
 subst e;cases r3;exact wpAny_truthy_bool ⟨H3,I3,q3⟩
def qo(r r':R2)(ta tb tc:TE):TE:=fun σ H Q=>ta σ H fun x H1=>tb σ H1 fun y H2=>r x y H2 fun z H3=>∃k,z=.bl k/\
 (if k=true then tc σ H3 fun w' H4=>r' y w' H4 Q else Q (.bl false) H3)
theorem N5{op b_:CmpOp}{r r':R2}(ho:aX X (compareOp op) r)(dQ:aX X (compareOp b_) r')(ha:PE X a ta)(hb:PE X b tb)(hc:PE X c tc)
  (hm:lastMarks [op,b_] [b,c]=false:=by with_unfolding_all rfl):PE X (.Compare a [op,b_] [b,c] pos) (qo r r' ta tb tc):=by
 intro pins s σ H Q I h;refine Compare_chain (aF (ha pins s σ H _ I h) fun v s1 ⟨x,H1,I1,r1,q1⟩=>chain_link (aF (hb pins s1 σ H1 _ I1 q1) fun u s2 ⟨y,H2,I2,r2,q2⟩=>
  aF (ho pins s2 σ H2 x y v u _ I2 r1 r2 q2) fun d s3 ⟨z,H3,I3,r3,k,e,q3⟩=>?_)) hm
 subst e;cases r3;refine wpAny_truthy_bool ?_;cases k with
 |false=>exact ite_ff ⟨.bl false,H3,I3,rfl,q3⟩
 |true=>exact ite_tt (chain_last<|aF (hc pins s3 σ H3 _ I3 q3) fun w' s4 ⟨z',H4,I4,r4,q4⟩=>dQ pins s4 σ H4 y z' u w' Q I4 r2 r4 q4)
theorem N6{op b_:CmpOp}{r r':R2}(ho:aX X (compareOp op) r)(dQ:aX X (compareOp b_) r')(ha:PE X a ta)(hb:PE X b tb)(hc:PE X c tc)
  (hm:lastMarks [op,b_] [b,c]=false:=by with_unfolding_all rfl):PT X (.Compare a [op,b_] [b,c] pos) (mh<|qo r r' ta tb tc):=by
 intro pins s σ H Q I h;refine isTrue_chain (aF (ha pins s σ H _ I h) fun v s1 ⟨x,H1,I1,r1,q1⟩=>test_link (aF (hb pins s1 σ H1 _ I1 q1) fun u s2 ⟨y,H2,I2,r2,q2⟩=>
  aF (ho pins s2 σ H2 x y v u _ I2 r1 r2 q2) fun d s3 ⟨z,H3,I3,r3,k,e,q3⟩=>?_)) hm
 subst e;cases r3;refine wpAny_truthy_bool ?_;cases k with
 |false=>
  obtain⟨k',e',q'⟩:=q3;cases e';exact ite_ff ⟨H3,I3,q'⟩
 |true=>
  refine ite_tt<|test_last<|aF (hc pins s3 σ H3 _ I3 q3) fun w' s4 ⟨z',H4,I4,r4,q4⟩=>aF (dQ pins s4 σ H4 y z' u w' _ I4 r2 r4 q4) fun d' s5 ⟨z2,H5,I5,r5,k2,e2,q5⟩=>?_;subst e2;cases r5;exact wpAny_truthy_bool ⟨H5,I5,q5⟩
def DU(K:Frag)(x:V)(H:Hp)(k:Bool):Prop:=
 match x with
 |.aD=>k=false
 |.bl b=>k=b
 |.int i=>k=(i !=0)
 |.str y=>y.length<=sizeLine/\k=((y.length:Int) !=0)
 |.e9 y=>y.size<=sizeLine/\k=((y.size:Int) !=0)
 |.ref p=>(∃xs,ay K H p xs/\k= !xs.isEmpty)\/(∃xs,aO K H p xs/\k= !xs.isEmpty)\/∃kvs,H p=some (.dK kvs)/\k= !kvs.isEmpty
 |_=>False
theorem N7{κ:Type}{kvs:List (κ×V)}{vs:List (κ×Value)}(r:KV kvs vs):(!vs.isEmpty)= !kvs.isEmpty:=by
 cases r<;>rfl
theorem DV{xs:List V}{aq:List Value}(r:Vals xs aq):(!aq.toArray.isEmpty)= !xs.isEmpty:=by
 cases r<;>simp
theorem oa:(sizeLine:Nat) <2 ^ 63:=by rw[sizeLine_eq];decide
theorem DW:ND X (fun x H Q=>∃k,DU X.K x H k/\Q k H):=by
 intro pins s σ H x v Q I rx h;obtain⟨k,e,q⟩:=h;have hl:=oa;have hs:sizeLine=16777216:=sizeLine_eq;cases x with
 |aD=>
  cases rx;have e':k=false:=e;subst e';exact truthy_none ⟨H,I,q⟩
 |bl b=>
  cases rx;have e':k=b:=e;subst e';exact wpAny_truthy_bool ⟨H,I,q⟩
 |int i=>
  obtain⟨t,rfl⟩:=rx;have e':k=(i !=0):=e;subst e';exact PySem.P.truthy_int ⟨H,I,q⟩
 |str y=>
  obtain⟨t,rfl⟩:=rx;obtain⟨hy,e'⟩:y.length<=sizeLine/\k=((y.length:Int) !=0):=e;subst e';exact PySem.P.truthy_str (by omega) ⟨H,I.tok _,q⟩
 |e9 y=>
  obtain⟨t,rfl⟩:=rx;obtain⟨hy,e'⟩:y.size<=sizeLine/\k=((y.size:Int) !=0):=e;subst e';exact PySem.W.truthy_bytes (by omega) ⟨H,I.tok _,q⟩
 |ref p=>
  cases rx;have e':(∃xs,ay X.K H p xs/\k= !xs.isEmpty)\/(∃xs,aO X.K H p xs/\k= !xs.isEmpty)\/∃kvs,H p=some (.dK kvs)/\k= !kvs.isEmpty:=e;rcases e' with⟨xs,hx,e'⟩|⟨xs,hx,e'⟩|⟨kvs,hx,e'⟩
  ·subst e';obtain⟨aq,r,pl,hz⟩:=I.list hx;have hlen:=r.length;exact wpAny_truthy_list pl.isList (by simp only[zah];omega) ⟨H,I.tok _,by rw[DV r];exact q⟩
  ·subst e';obtain⟨aq,r,pl,hz⟩:=I.tuple hx;have hlen:=r.length;exact truthy_tuple pl (by simp only[zah];omega) ⟨H,I.tok _,by rw[DV r];exact q⟩
  ·subst e';obtain⟨hz,hS,vs,r,m⟩:kvs.length<=sizeLine/\(p==sysModules)=false/\∃vs,KV kvs vs/\s.heap.DictOf (cI X.prog X.w) p vs:=I.az p _ hx;have hlen:kvs.length=vs.length:=Paired.length r;exact wpAny_truthy_dict hS m (by omega) ⟨H,I.tok _,by rw[N7 r];exact q⟩
 |_=>exact(show False from e).elim
theorem N8:aX X (binaryOp .Add) (fun x y H Q=>∃i j,x=.str i/\y=.str j/\i.length+j.length<=sizeLine/\Q (.str<|i++j) H):=by
 intro pins s σ H x y v u Q I rx ry h;obtain⟨i,j,rfl,rfl,hz,q⟩:=h;obtain⟨t,rfl⟩:=rx;obtain⟨t',rfl⟩:=ry;exact add_str (fun t' tk=>⟨.str<|i++j,H,I.tok _,⟨_,rfl⟩,q⟩) hz
theorem vals1{x:V}{us:List Value}(r:Vals [x] us):∃u,us=[u]/\RelV x u:=by
 cases r with
 |cons r1 r2=>cases r2;exact⟨_,rfl,r1⟩
theorem vals2{x y:V}{us:List Value}(r:Vals [x,y] us):∃u w',us=[u,w']/\RelV x u/\RelV y w':=by
 cases r with
 |cons r1 r2=>
  cases r2 with
  |cons r3 r4=>cases r4;exact⟨_,_,rfl,r1,r3⟩
theorem N9(hc:X.calm=true):cv X (.builtin "max") (fun xs H Q=>∃i j,xs=[.int i,.int j]/\Q (.int (if j>i then j else i)) H):=by
 intro pins s σ H xs us Q I r h;obtain⟨i,j,rfl,q⟩:=h;obtain⟨u,w',rfl,⟨t,rfl⟩,⟨t',rfl⟩⟩:=vals2 r;refine max_two_ints (I.ok.hd hc) fun h' tk k=>⟨_,H,I.kept k,?_,q⟩;by_cases hj:j>i
 ·rw[if_pos hj,if_pos hj];exact⟨_,rfl⟩
 ·rw[if_neg hj,if_neg hj];exact⟨_,rfl⟩
theorem N_(hc:X.calm=true):cv X (.builtin "min") (fun xs H Q=>∃i j,xs=[.int i,.int j]/\Q (.int (if j<i then j else i)) H):=by
 intro pins s σ H xs us Q I r h;obtain⟨i,j,rfl,q⟩:=h;obtain⟨u,w',rfl,⟨t,rfl⟩,⟨t',rfl⟩⟩:=vals2 r;refine min_two_ints (I.ok.hd hc) fun h' tk k=>⟨_,H,I.kept k,?_,q⟩;by_cases hj:j<i
 ·rw[if_pos hj,if_pos hj];exact⟨_,rfl⟩
 ·rw[if_neg hj,if_neg hj];exact⟨_,rfl⟩
theorem Oa:cv X (.type "int") (fun xs H Q=>(∃i,xs=[.int i]/\Q (.int i) H)\/∃k,xs=[.bl k]/\Q (.int (if k then 1 else 0)) H):=by
 intro pins s σ H xs us Q I r h;rcases h with⟨i,rfl,q⟩|⟨k,rfl,q⟩
 ·obtain⟨u,rfl,t,rfl⟩:=vals1 r;exact call_int_int ⟨.int i,H,I,⟨_,rfl⟩,q⟩
 ·obtain⟨u,rfl,r1⟩:=vals1 r;cases r1;exact call_int_bool ⟨.int (if k then 1 else 0),H,I.tok _,⟨_,rfl⟩,q⟩
def DX(K:Frag)(x:V)(H:Hp)(n:Nat):Prop:=
 match x with
 |.str y=>y.length<=sizeLine/\n=y.length
 |.e9 y=>y.size<=sizeLine/\n=y.size
 |.ref p=>(∃xs,ay K H p xs/\n=xs.length)\/∃xs,aO K H p xs/\n=xs.length
 |_=>False
theorem Oc:cv X (.builtin "len") (fun xs H Q=>∃x n,xs=[x]/\DX X.K x H n/\Q (.int n) H):=by
 intro pins s σ H xs us Q I r h;obtain⟨x,n,rfl,e,q⟩:=h;obtain⟨u,rfl,rx⟩:=vals1 r;have hl:=oa;have hs:sizeLine=16777216:=sizeLine_eq;cases x with
 |str y=>
  obtain⟨t,rfl⟩:=rx;obtain⟨hy,e'⟩:y.length<=sizeLine/\n=y.length:=e;subst e';exact len_str (by omega) ⟨.int _,H,I.tok _,⟨_,rfl⟩,q⟩
 |e9 y=>
  obtain⟨t,rfl⟩:=rx;obtain⟨hy,e'⟩:y.size<=sizeLine/\n=y.size:=e;subst e';exact PySem.W.len_bytes (by omega) ⟨.int _,H,I.tok _,⟨_,rfl⟩,q⟩
 |ref p=>
  cases rx;have e':(∃xs,ay X.K H p xs/\n=xs.length)\/∃xs,aO X.K H p xs/\n=xs.length:=e;rcases e' with⟨xs,hx,e'⟩|⟨xs,hx,e'⟩
  ·subst e';obtain⟨aq,r',pl,hz⟩:=I.list hx;have hlen:=r'.length;exact Calls.call_len_list pl.isList (by simp only[zah];omega) ⟨.int xs.length,H,I.tok _,⟨_,by simp only[zah];rw[hlen]⟩,q⟩
  ·subst e';obtain⟨aq,r',pl,hz⟩:=I.tuple hx;have hlen:=r'.length;exact len_tuple pl (by simp only[zah];omega) ⟨.int xs.length,H,I.tok _,⟨_,by simp only[zah];rw[hlen]⟩,q⟩
 |_=>exact(show False from e).elim
end
structure og (h:Heap) (x dx C:Addr) (mA:Str->Option Value):Prop where
 obj:h.get? x=some (instObj C dx)
 ns:h.Ns1 dx mA
 ne:dx≠x
theorem Od{h:Heap}{dx:Addr}{mA:Str->Option Value}(n:h.Ns1 dx mA):∃od,h.get? dx=some od/\∀name,lookIn name od=some (mA name):=by
 obtain⟨o,es,ep,ho,hd,hk,_,hm⟩:=n;refine⟨o,ho,fun name=>?_⟩;have e:=hm name;unfold nsFind findBy at e;rw[<-Array.find?_toList] at e;unfold lookIn;rw[hd]
 dsimp only
 split
 ·rename_i y q
  rw[q] at e;exact congrArg some e
 ·rename_i q
  rw[q] at e;have a:es.toList.any (·.refKey)=false:=by
   rw[List.any_eq_false];intro y hy;obtain⟨z,t,oh⟩:=hk y (Array.mem_toList_iff.mp hy)
   simp[DictEntry.refKey,oh]
  have a':¬es.toList.any (·.refKey)=true:=by rw[a];exact zan
  rw[if_neg a'];exact congrArg some e
theorem og.look{h:Heap}{x dx C:Addr}{mA:Str->Option Value}(I:og h x dx C mA):∃od,InstAt h x (instObj C dx) C (some od)/\∀name,lookIn name od=some (mA name):=
 let ⟨od,ho,hl⟩:=Od I.ns
 ⟨od,⟨I.obj,rfl,rfl,ho⟩,hl⟩
section
variable {prog:Program}{w:World}{A:Around}{E:Value->Shared->Prop}{s:Shared}{K:Frag}{x dx C f:Addr}{mA:Str->Option Value}{name:Str}{v:Value}
theorem get_map{expr:Bool}{Q:Value->Shared->Prop}(X:K.In s.heap)(I:og s.heap x dx C mA)(hg:plainGet K C name=true)(hh:hasDictIn K C=true)
  (ha:PySem.W.findIn K (.ref C) name=some none) (hv:mA name=some v) (yx:handedIn v=true) (h:Q v {s with toks:=s.toks+1}):
  wpAny (model prog w) A (getAttr (.ref x) name expr) Q E s:=by
 obtain⟨od,J,hl⟩:=I.look;exact PySem.W.get_value X J (plainGet_of hg).1 (PySem.W.findObj_own hh ha rfl (by rw[hl,hv])) yx h
theorem Oe{pl:Sem Bool}{Q:Value×List Value->Shared->Prop}(X:K.In s.heap)(I:og s.heap x dx C mA)(hg:plainGet K C name=true)
  (hf:PySem.W.findIn K (.ref C) name=some (some<|.ref f)) (ht:PySem.W.isFn K (.ref f)=true) (hv:mA name=none) (h:Q (.ref f,[.ref x]) s):
  wpAny (model prog w) A (getMethod (.ref x) name pl) Q E s:=by
 obtain⟨od,J,hl⟩:=I.look;exact PySem.W.method_fn X J (plainGet_of hg).1 (plainGet_of hg).2 hf (beq_iff_eq.mp ht) (by show(lookIn name od).map (·.isSome)=some false;rw[hl,hv];rfl) h
theorem Of{ns:List Str}{Q:Unit->Shared->Prop}(X:K.In s.heap)(I:og s.heap x dx C mA)
  (hs:PySem.W.findIn K (.ref C) "__setattr__"=some (some<|.builtin "object.__setattr__")) (hp:plainOver K C=true) (ht:takerIn K C name=some none) (hh:hasDictIn K C=true)
  (hw:PySem.Within mA ns) (hsz:ns.length<=sizeLine)
  (h:∀h',og h' x dx C (fun y=>if y=name then some v else mA y)->Heap.SameBut dx s.heap h'->Q () {s with heap:=h',toks:=s.toks+2}):
  wpAny (model prog w) A (setAttr (.ref x) name v) Q E s:=by
 obtain⟨od,J,hl⟩:=I.look;refine PySem.W.set_plain X J hs<|PySem.W.osa_open (s:={s with toks:=s.toks+1}) (r:=none) X J hp ht fun b=>?_
 obtain⟨cd,hc,kz⟩:=PySem.W.any_some hh;have hx:s.heap.get? x=some ⟨.ref C,some dx,.plain,#[]⟩:=I.obj;refine wpAny_bind<|wpAny_pure<|wpAny_bind<|wpAny_bind<|wpAny_loadPart hx<|wpAny_bind<|PySem.W.Looks.here (s:={s with toks:=s.toks+1}) (PySem.W.looks_clsIn X hc) ?_
 rw[kz];refine wpAny_pure (a:=some dx)<|wpAny_bind<|wpAny_pure<|wpAny_bind ?_;refine wpAny_nsSet1 (s:={s with toks:=s.toks+1}) I.ns fun h' oi gM=>?_
 obtain⟨oD,esD,epD,Og,Oh,kJ⟩:=oi.count (PySem.Within.cons name v hw);refine wpAny_bind<|wpAny_lookBehind Og (by rw[Oh];exact pastItsLine_dict (zar kJ (by rw[zaA];omega))) ?_
 exact wpAny_pure<|h _ ⟨(gM.2 _<|Ne.symm I.ne).trans I.obj,oi,I.ne⟩ gM
theorem Oi{R:Result->Shared->Prop}{vs:List Value}{kw:List (Str×Value)}(X:K.In s.heap)(hm:makesIn K C=true)
  (hi:PySem.W.findIn K (.ref C) "__init__"=some (some<|.ref f)) (hf:PySem.W.typeIn K (.ref f)=some (.type "function"))
  (h:codeAny (model prog w) (A.under (.builtin "type.__call__" ⟨.ref C::vs,kw⟩)) (.call (.ref f) ⟨.ref (s.heap.objs.size+1)::vs,kw⟩) (PySem.W.InitBack (s.heap.objs.size+1) R)
   {s with heap:=(s.heap.push emptyDict).push (instObj C s.heap.objs.size)}):
  codeAny (model prog w) A (.call (.ref C) ⟨vs,kw⟩) R s:=by
 obtain⟨hh,g,d,t,os⟩:=s;exact PySem.W.make_core (PySem.W.makes_of X hm) (PySem.W.looks_findIn X hi) (fun self=>PySem.W.bind_fn X self hf) (.inl rfl) h
end
def bz(f:Str)(v:V):List (Str×V)->List (Str×V)
 |[]=>[(f,v)]
 |(g,x)::r=>if g=f then (g,v)::r else (g,x)::bz f v r
theorem DY(f g:Str)(v:V):∀fs:List (Str×V),(bz f v fs).lookup g=if g=f then some v else fs.lookup g
 |[]=>by
  show List.lookup g [(f,v)]=_;by_cases h:g=f
  ·have hb:(g==f)=true:=beq_iff_eq.mpr h
   simp only[List.lookup,hb,if_pos h]
  ·have hb:(g==f)=false:=beq_eq_false_iff_ne.mpr h
   simp only[List.lookup,hb,if_neg h]
 |(k,x)::r=>by
  have ih:=DY f g v r;rw[show bz f v ((k,x)::r)=(if k=f then (k,v)::r else (k,x)::bz f v r) from rfl]
  by_cases hk:k=f
  ·rw[if_pos hk];by_cases h:g=k
   ·have hb:(g==k)=true:=beq_iff_eq.mpr h
    simp only[List.lookup,hb,if_pos<|h.trans hk]
   ·have hb:(g==k)=false:=beq_eq_false_iff_ne.mpr h
    simp only[List.lookup,hb,if_neg (fun e:g=f=>h (e.trans hk.symm))]
  ·rw[if_neg hk];by_cases h:g=k
   ·have hb:(g==k)=true:=beq_iff_eq.mpr h
    simp only[List.lookup,hb,if_neg (fun e:g=f=>hk (h.symm.trans e))]
   ·have hb:(g==k)=false:=beq_eq_false_iff_ne.mpr h
    simp only[List.lookup,hb]
    exact ih
theorem yy(f:Str)(v:V):∀fs:List (Str×V),f∈ (bz f v fs).map (·.1)/\∀g,g∈fs.map (·.1)->g∈ (bz f v fs).map (·.1)
 |[]=>⟨by simp[bz],fun g h=>by simp at h⟩
 |(k,x)::r=>by
  obtain⟨i1,i2⟩:=yy f v r;rw[show bz f v ((k,x)::r)=(if k=f then (k,v)::r else (k,x)::bz f v r) from rfl]
  by_cases hk:k=f
  ·rw[if_pos hk];subst hk;exact⟨by simp,fun g h=>by simpa using h⟩
  ·rw[if_neg hk];refine⟨?_,fun g h=>?_⟩
   ·rw[zal];exact zao _ i1
   ·rw[zal] at h⊢;rcases zab.mp h with e|e
    ·exact zab.mpr (.inl e)
    ·exact zao _ (i2 g e)
theorem DZ(f:Str)(v:V):∀fs:List (Str×V),(bz f v fs).length<=fs.length+1
 |[]=>by simp[bz]
 |(k,x)::r=>by
  have ih:=DZ f v r;rw[show bz f v ((k,x)::r)=(if k=f then (k,v)::r else (k,x)::bz f v r) from rfl]
  by_cases hk:k=f
  ·rw[if_pos hk,zaA,zaA];omega
  ·rw[if_neg hk,zaA,zaA];omega
theorem e_.some_of{v:V}{o:Option Value}(r:e_ (some v) o):∃u,o=some u/\RelV v u:=by
 cases o with
 |none=>exact(show False from r).elim
 |some u=>exact⟨u,rfl,r⟩
theorem e_.none_of{o:Option Value}(r:e_ none o):o=none:=by
 cases o with
 |none=>rfl
 |some u=>exact(show False from r).elim
theorem Oj{v:V}{u:Value}(r:RelV v u):handedIn u=true:=by
 cases v with
 |aD=>cases (show u=Value.none from r);rfl
 |bl b=>cases (show u=Value.bool b from r);rfl
 |int i=>obtain⟨t,e⟩:=(show ∃t,u=Value.int i t from r);cases e;rfl
 |str x=>obtain⟨t,e⟩:=(show ∃t,u=Value.str x t from r);cases e;rfl
 |e9 b=>obtain⟨t,e⟩:=(show ∃t,u=Value.bytes b t from r);cases e;rfl
 |ma b=>obtain⟨t,e⟩:=(show ∃t,u=Value.float b t from r);cases e;rfl
 |ref a=>cases (show u=Value.ref a from r);rfl
 |ty n=>cases (show u=Value.type n from r);rfl
section
variable {P:Program}{w:World}{H H':Hp}{h h':Heap}{a C dx:Addr}{fs MW:List (Str×V)}
theorem vg(az:bI P w H h)(e:H a=some (.ins C dx fs)):∃mA,og h a dx C mA/\(∀f,e_ (fs.lookup f)<|mA f)/\PySem.Within mA (fs.map (·.1))/\fs.length<=1000/\H dx=some (.own a):=by
 obtain⟨d,z,ne,ob,mA,n,r,q⟩:=(show bT P w H h a (.ins C dx fs) from az a _ e)
 exact⟨mA,⟨ob,n,ne⟩,r,q,z,d⟩
end
structure fh (K:Frag) (C:Addr):Prop where
 pg:plainGet K C Str.empty=true
 hd:hasDictIn K C=true
 po:plainOver K C=true
 sa:PySem.W.findIn K (.ref C) "__setattr__"=some (some<|.builtin "object.__setattr__")
theorem fh.get{K:Frag}{C:Addr}(c:fh K C)(f:Str):plainGet K C f=true:=c.pg
def fi(K:Frag)(C:Addr)(f:Str):Prop:=PySem.W.findIn K (.ref C) f=some none
theorem fi.Ol{K:Frag}{C:Addr}{f:Str}(n:fi K C f):takerIn K C f=some none:=by
 unfold takerIn;rw[show PySem.W.findIn K (.ref C) f=some none from n]
 rfl
structure Meth (K:Frag) (C:Addr) (m:Str) (f:Addr):Prop where
 at_:PySem.W.findIn K (.ref C) m=some (some<|.ref f)
 fn:PySem.W.isFn K (.ref f)=true
 kp:PySem.W.keepIn K (.ref f)=true
section
variable {X:Cx}{pins:List (Addr×Obj)}{σ:St}{H:Hp}{s:Shared}{a C dx:Addr}{fs:List (Str×V)}{f:Str}{v:V}{A:Around}{E:Value->Shared->Prop}
theorem Om{b:Bool}{Q:Value->Shared->Prop}(I:Inv X pins σ H s)(e:H a=some (.ins C dx fs))(c:fh X.K C)(n:fi X.K C f)(l:fs.lookup f=some v)
  (h:∀u s',Inv X pins σ H s'->RelV v u->Q u s'):wpAny (model X.prog X.w) A (getAttr (.ref a) f b) Q E s:=by
 obtain⟨mA,O,r,_,_,_⟩:=vg I.az e;obtain⟨u,hu,ru⟩:=e_.some_of (v:=v) (o:=mA f) (by rw[<-l];exact r f)
 exact get_map I.cB O (c.get f) c.hd n hu (Oj ru)<|h u _ (I.tok _) ru
theorem D0{m:Str}{g:Addr}{pl:Sem Bool}{Q:Value×List Value->Shared->Prop}(I:Inv X pins σ H s)(e:H a=some (.ins C dx fs))(c:fh X.K C)(k:Meth X.K C m g)(l:fs.lookup m=none)
  (h:Q (.ref g,[.ref a]) s):wpAny (model X.prog X.w) A (getMethod (.ref a) m pl) Q E s:=by
 obtain⟨mA,O,r,_,_,_⟩:=vg I.az e;have hn:mA m=none:=e_.none_of (by rw[<-l];exact r m)
 exact Oe I.cB O (c.get m) k.at_ k.fn hn h
theorem Oo{y:V}{u:Value}{Q:Unit->Shared->Prop}(I:Inv X pins σ H s)(e:H a=some (.ins C dx fs))(c:fh X.K C)(n:fi X.K C f)(hl:fs.length<1000)(ry:RelV y u)
  (h:∀s',Inv X pins σ (upd H a<|.ins C dx<|bz f y fs) s'->Q () s'):wpAny (model X.prog X.w) A (setAttr (.ref a) f u) Q E s:=by
 obtain⟨mA,O,r,wi,_,ho⟩:=vg I.az e;have hz:(fs.map (·.1)).length<=sizeLine:=by rw[zaa,sizeLine_eq];omega
 refine Of I.cB O c.sa c.po n.Ol c.hd wi hz fun h' O' sb=>h _ ?_;have hd:∃o,h'.get? dx=some o:=let ⟨o,_,_,e',_⟩:=O'.ns;⟨o,e'⟩;refine I.write (x:=a) (e:=dx) (by rw[e];exact True.intro) (.inr ho) (fun b q hb z=>(sb.2 b hb).trans z) hd ?_
 refine⟨by rw[ax O.ne];exact ho,?_,O.ne,O'.obj,_,O'.ns,fun g=>?_,fun g hg=>?_⟩
 ·have:=DZ f y fs;omega
 ·show e_ ((bz f y fs).lookup g) (if g=f then some u else mA g)
  rw[DY];by_cases q:g=f
  ·rw[if_pos q,if_pos q];exact ry
  ·rw[if_neg q,if_neg q];exact r g
 ·by_cases q:g=f
  ·rw[q];exact(yy f y fs).1
  ·refine(yy f y fs).2 g (wi g fun z=>hg ?_);show(if g=f then some u else mA g)=none
   rw[if_neg q];exact z
theorem Inv.made(I:Inv X pins σ H s):Inv X pins σ (upd (upd H s.heap.objs.size<|.own<|s.heap.objs.size+1) (s.heap.objs.size+1)<|.ins C s.heap.objs.size [])
  {s with heap:=(s.heap.push emptyDict).push (instObj C s.heap.objs.size)}:=by
 have e1:(s.heap.push emptyDict).get? s.heap.objs.size=some emptyDict:=Heap.get?_push_size s.heap rfl;have e2:((s.heap.push emptyDict).push<|instObj C s.heap.objs.size).get? (s.heap.objs.size+1)=some (instObj C s.heap.objs.size):=by
  have:=Heap.get?_push_size (s.heap.push emptyDict) (o:=instObj C s.heap.objs.size) rfl
  rwa [Heap.size_push] at this
 have e3:(s.heap.push emptyDict).Ns s.heap.objs.size (fun _=>none):=⟨emptyDict,#[],_,e1,rfl,(fun e he=>absurd he (by simp)),fun _=>rfl⟩
 have I1:=I.laid (a:=s.heap.objs.size) (o:=.own (s.heap.objs.size+1)) (h':=s.heap.push emptyDict) (t':=s.toks) (fun b u q=>Heap.get?_push_of_some _ q) (zqR _) ⟨_,e1⟩;refine I1.laid (a:=s.heap.objs.size+1) (o:=.ins C s.heap.objs.size []) (t':=s.toks) (fun b u q=>Heap.get?_push_of_some _ q) (zbd<|Heap.size_push _ _) ?_;have ne:s.heap.objs.size≠s.heap.objs.size+1:=zae (zaK _);refine⟨by rw[ax ne,au],zqZ _,ne,e2,fun _=>none,(Heap.Ns1.of_empty e3).at fun o q=>Heap.get?_push_of_some _ q,fun _=>True.intro,fun y hy=>absurd rfl hy⟩
theorem Oq{prog:Program}{w:World}{env:Env}{e:Expr}{f:Str}{pos:Pos}{s:Shared}{Q:Value->Shared->Prop}(hb:attributeBase e f env (eval e env)=eval e env)
  (h:wpAny (model prog w) A (eval e env) (fun o s₁=>wpAny (model prog w) A (getAttr o f true) Q E s₁) E s):wpAny (model prog w) A (eval (.Attribute e f pos) env) Q E s:=
 Attribute_any_ h (by rw[arm_eval_Attribute,hb])
end
def vh(K:Frag)(ta:TE)(f:Str):TE:=fun σ H Q=>ta σ H fun x H1=>∃a C dx fs v,x=.ref a/\H1 a=some (.ins C dx fs)/\fh K C/\fi K C f/\fs.lookup f=some v/\Q v H1
def yz(K:Frag)(ta tv:TE)(f:Str):TS:=fun D σ H=>tv σ H fun y H1=>ta σ H1 fun x H2=>∃a C dx fs,x=.ref a/\H2 a=some (.ins C dx fs)/\fh K C/\fi K C f/\fs.length<1000/\
 D.nx σ (upd H2 a<|.ins C dx<|bz f y fs)
section
variable {X:Cx}{o e value:Expr}{f:Str}{pos pos' Ot:Pos}{ta tv:TE}
theorem Ou(he:PE X e ta)(hb:attributeBase e f X.env (eval e X.env)=eval e X.env):PE X (.Attribute e f pos) (vh X.K ta f):=by
 intro pins s σ H Q I h;refine Oq hb<|aF (he pins s σ H _ I h) fun u s1 ⟨x,H1,I1,rx,a,C,dx,fs,v,ex,ea,c,n,l,q⟩=>?_;subst ex;obtain rfl:u=Value.ref a:=rx;exact Om I1 ea c n l fun u' s2 I2 ru=>⟨v,H1,I2,ru,q⟩
theorem Ov(ha:PE X o ta)(hv:PE X value tv)(hs:swapsWith value (some<|.Attribute o f pos') pos.line X.env=pure false):PS X (.Assign [.Attribute o f pos'] value pos) (yz X.K ta tv f):=by
 intro pins s σ H D I h;refine plainObj_wpAny_Assign_Attribute (aF (hv pins s σ H _ I h) fun u s1 ⟨y,H1,I1,ry,q⟩=>aF (ha pins s1 σ H1 _ I1 q) fun ov s2 ⟨x,H2,I2,rx,a,C,dx,fs,ex,ea,c,n,l,q2⟩=>?_) hs;subst ex;obtain rfl:ov=Value.ref a:=rx;exact Oo I2 ea c n l ry fun s3 I3=>⟨σ,_,I3,q2⟩
end
section
variable {X:Cx}{pins:List (Addr×Obj)}{σ:St}{H:Hp}{s:Shared}{A:Around}{E:Value->Shared->Prop}{Q:Value->Shared->Prop}{c:Value}{b:Bool}
inductive iC (K:Frag) (H:Hp):V->Value->Prop where
 |aD:iC K H .aD (.type "NoneType")
 |bl (x:Bool):iC K H (.bl x) (.type "bool")
 |int (i:Int):iC K H (.int i) (.type "int")
 |str (x:Str):iC K H (.str x) (.type "str")
 |ma (x:UInt64):iC K H (.ma x) (.type "float")
 |lst {a:Addr}{xs:List V} (e:H a=some (.lst xs)):iC K H (.ref a) (.type "list")
 |a_ {a:Addr}{o:Obj}{xs:List V} (e:H a=some (.a_ o<|.lst xs)):iC K H (.ref a) (.type "list")
 |tup {a:Addr}{xs:List V} (e:H a=some (.tup xs)):iC K H (.ref a) (.type "tuple")
 |dK {a:Addr}{kvs:List (Key×V)} (e:H a=some (.dK kvs)):iC K H (.ref a) (.type "dict")
 |dT {a:Addr}{kvs:List (List Key×V)} (e:H a=some (.dT kvs)):iC K H (.ref a) (.type "dict")
 |ins {a C dx:Addr}{fs:List (Str×V)} (e:H a=some (.ins C dx fs)) (cl:fh K C) (ha:PySem.W.findIn K (.ref C) "__class__"=some (some<|.builtin "object.__class__"))
   (hn:PySem.W.specialIn K (.builtin "object.__class__") "__get__"=some (some<|.builtin "getset_descriptor.__get__")) (mi:PySem.W.takesIn K (.builtin "object.__class__")=some true)
   (hm:PySem.W.mroIn K C (.type "object")=some true):iC K H (.ref a) (.ref C)
theorem kN{x:V}{u t:Value}(I:Inv X pins σ H s)(rx:RelV x u)(ty:iC X.K H x t)(e:kitOne X.K t c=some b)(h:∀tk,Q (.bool b) {s with toks:=tk}):
  wpAny (model X.prog X.w) A (call (.builtin "isinstance") [u,c]) Q E s:=by
 cases ty with
 |aD=>cases (show u=Value.none from rx);exact kia_one PySem.W.kitx_none I.cB True.intro e (fun z=>nomatch z) h
 |bl y=>cases (show u=Value.bool y from rx);exact kia_one PySem.W.kitx_bool I.cB True.intro e (fun z=>nomatch z) h
 |int i=>obtain⟨t,q⟩:=(show ∃t,u=Value.int i t from rx);cases q;exact kia_one PySem.W.kitx_int I.cB True.intro e (fun z=>nomatch z) h
 |str y=>obtain⟨t,q⟩:=(show ∃t,u=Value.str y t from rx);cases q;exact kia_one PySem.W.kitx_str I.cB True.intro e (fun z=>nomatch z) h
 |ma y=>obtain⟨t,q⟩:=(show ∃t,u=Value.float y t from rx);cases q;exact kia_one PySem.W.kitx_float I.cB True.intro e (fun z=>nomatch z) h
 | @lst a xs ea=>
  cases (show u=Value.ref a from rx)
  obtain⟨_,_,n,_,h1⟩:=(show bT X.prog X.w H s.heap a (.lst xs) from I.az a _ ea)
  exact kia_one kitx_list I.cB ⟨_,h1,rfl⟩ e (fun z=>nomatch z) h
 | @a_ a ob xs ea=>
  cases (show u=Value.ref a from rx)
  obtain⟨_,_,_,n,_,h1⟩:=(show bT X.prog X.w H s.heap a (.a_ ob<|.lst xs) from I.az a _ ea)
  exact kia_one kitx_list I.cB ⟨_,h1,rfl⟩ e (fun z=>nomatch z) h
 | @tup a xs ea=>
  cases (show u=Value.ref a from rx)
  obtain⟨_,_,_,p⟩:=(show bT X.prog X.w H s.heap a (.tup xs) from I.az a _ ea)
  obtain⟨o,h1,h2,_⟩:=p;exact kia_one PySem.W.kitx_tuple I.cB ⟨o,h1,h2⟩ e (fun z=>nomatch z) h
 | @dK a kvs ea=>
  cases (show u=Value.ref a from rx)
  obtain⟨_,_,vs,_,p⟩:=(show bT X.prog X.w H s.heap a (.dK kvs) from I.az a _ ea)
  obtain⟨o,es,ep,h1,h2,_⟩:=p;exact kia_one kitx_dict I.cB ⟨o,h1,h2.1⟩ e (fun z=>nomatch z) h
 | @dT a kvs ea=>
  cases (show u=Value.ref a from rx)
  obtain⟨_,_,xs,_,o,es,ep,h1,h2,_⟩:=(show bT X.prog X.w H s.heap a (.dT kvs) from I.az a _ ea)
  exact kia_one kitx_dict I.cB ⟨o,h1,h2.1⟩ e (fun z=>nomatch z) h
 | @ins a C dx fs ea cl ha hn mi hm=>
  cases (show u=Value.ref a from rx)
  obtain⟨mA,O,_⟩:=vg I.az ea;obtain⟨od,J,_⟩:=O.look;exact kia_one (PySem.W.kitx_own (cl.get _) cl.hd ha hn mi hm) I.cB J e (fun z=>nomatch z) h
end
structure df (k:Nat) (A:Around):Prop where
 hd:A.handled=none
 dp:A.depth+3*k+5<recursionLimit
 un:A.units+16*k+200<cLine
 gd:A.guards=some []:=by rfl
theorem df.mono{j k:Nat}{A:Around}(r:df k A)(h:j<=k):df j A:=⟨r.hd,by have:=r.dp;omega,by have:=r.un;omega,r.gd⟩
theorem df.deeper{k:Nat}{A:Around}(r:df (k+1) A)(env:Env):df k (A.deeper env):=
 ⟨r.hd,by have:=r.dp;show A.depth+1+3*k+5<_;omega,by have:=r.un;show A.units+3+16*k+200<_;omega,r.gd⟩
theorem Ow{A:Around}{C:Addr}{us:List Value}{kw:List (Str×Value)}:(A.under<|.builtin "type.__call__" ⟨.ref C::us,kw⟩).depth=A.depth+1:=by
 first|rfl|simp[Around.under,Code.weight,Code.isCreation,Code.isGuard,Code.isCaller,Code.frames,Code.isFrame,guardIds]
theorem Ox{A:Around}{C:Addr}{us:List Value}{kw:List (Str×Value)}:(A.under<|.builtin "type.__call__" ⟨.ref C::us,kw⟩).units=A.units+1:=by
 first|rfl|simp[Around.under,Code.cUnits,Code.frames,Code.isFrame]
theorem df.make{k:Nat}{A:Around}(r:df (k+1) A)(C:Addr)(us:List Value)(kw:List (Str×Value)):df k (A.under<|.builtin "type.__call__" ⟨.ref C::us,kw⟩):=
 ⟨r.hd,by have:=r.dp;rw[Ow];omega,by have:=r.un;rw[Ox];omega,by first|exact r.gd|simp[Around.under,Code.guards,Code.isGuard,guardIds,pushGuards,r.gd]⟩
theorem df.depth{k:Nat}{A:Around}(r:df k A):A.depth<recursionLimit:=by have:=r.dp;omega
theorem df.units{k:Nat}{A:Around}(r:df k A):A.units+64<cLine:=by have:=r.un;omega
def fj:TA:=fun _ H Q=>Q [] H
def cU(ta:TE)(tr:TA):TA:=fun σ H Q=>ta σ H fun x H1=>tr σ H1 fun xs H2=>Q (x::xs) H2
section
variable {X:Cx}{e:Expr}{es:List Expr}{te:TE}{t:TA}{pos:Pos}
theorem rX:PA X [] fj:=fun _ _ _ _ H Q I h=>Calls.spliced_nil ⟨[],H,I,.nil,h⟩
theorem oj(ha:PE X e te)(hr:PA X es t)(hs:starEach (e::es) X.env=(false,eval e X.env)::starEach es X.env:=by rfl):PA X (e::es) (cU te t):=by
 intro pos pins s σ H Q I h;rw[hs];show wpAny _ _ (spliced ((false,eval e X.env)::backTo pos (starEach es X.env))) _ _ s;refine Calls.spliced_cons<|aF (ha pins s σ H _ I h) fun u s1 ⟨x,H1,I1,r1,q1⟩=>?_;exact aF (hr pos pins s1 σ H1 _ I1 q1) fun us s2 ⟨xs,H2,I2,r2,q2⟩=>⟨x::xs,H2,I2,.cons r1 r2,q2⟩
def D1(t:TA):TE:=fun σ H Q=>t σ H fun xs H1=>xs.length<=sizeLine/\∀p,H1 p=none->Q (.ref p) (upd H1 p<|.tup xs)
def D2(t:TA):TE:=fun σ H Q=>t σ H fun xs H1=>xs.length<=sizeLine/\∀p,H1 p=none->Q (.ref p) (upd H1 p<|.lst xs)
theorem Oy{x1}(h:PA X es t):PE X (.Tuple es x1 pos) (D1 t):=by
 intro pins s σ H Q I hq;refine wpAny_Tuple_spliced<|aF (h pos pins s σ H _ I hq) fun us s1 ⟨xs,H1,I1,r,z,q⟩=>⟨by rw[<-r.length];exact z,?_⟩
 have hf:H1 s1.heap.objs.size=none:=I1.az.fresh (zqR _);refine⟨.ref s1.heap.objs.size,upd H1 s1.heap.objs.size<|.tup xs,I1.laid (t':=s1.toks) (fun b u e=>Heap.get?_push_of_some _ e) (zqR _) ?_,rfl,q _ hf⟩;exact⟨z,us,r,⟨_,Heap.get?_push_size _ rfl,rfl,_,rfl⟩⟩
theorem Oz(h:PA X es t):PE X (.List es pos) (D2 t):=by
 intro pins s σ H Q I hq;refine wpAny_List_spliced<|aF (h pos pins s σ H _ I hq) fun us s1 ⟨xs,H1,I1,r,z,q⟩=>⟨by rw[<-r.length];exact z,?_⟩
 have hf:H1 s1.heap.objs.size=none:=I1.az.fresh (zqR _);refine⟨.ref s1.heap.objs.size,upd H1 s1.heap.objs.size<|.lst xs,I1.laid (t':=s1.toks) (fun b u e=>Heap.get?_push_of_some _ e) (zqR _) ?_,rfl,q _ hf⟩;exact⟨z,us,0,r,Heap.get?_push_size _ rfl⟩
end
abbrev Sp:=List V->Hp->VK->XK->Prop
abbrev bK:=List Env->Hp->Shared->XK->Value->Shared->Prop
structure kO (P:Program) (w:World) (K:Frag) (mg:Str->Option Value) (base:Heap) (A:Around) (outer:List Env) (s:Shared) (H:Hp):Prop where
 frames:A.frames=some outer
 mod:Mod K mg base
 bs:∀b o,base.get? b=some o->s.heap.get? b=some o/\H b=none
 mf:base.objs.size<=s.heap.objs.size
 iy:s.heap.FunFrames base outer
 nW:∀b∈bj outer,H b=none
 az:bI P w H s.heap
 bare:AllBare s.gens
def CE(outer:List Env)(P:Program)(w:World)(H:Hp)(s:Shared)(Q:VK)(u:Value)(s':Shared):Prop:=
 ∃v H',s'.os=s.os/\AllBare s'.gens/\Un (bj outer) [] H H' s.heap s'.heap/\bI P w H' s'.heap/\RelV v u/\Q v H'
def CR(CX:bK)(outer:List Env)(P:Program)(w:World)(H:Hp)(s:Shared)(Q:VK)(E:XK)(r:Result)(s':Shared):Prop:=
 match r with
 |.ok (.ret u)=>CE outer P w H s Q u s'
 |.ok _=>False
 |.error e=>CX outer H s E e s'
structure cw (P:Program) (w:World) (K:Frag) (mg:Str->Option Value) (base:Heap) (CX:bK) (k:Nat) (f:Addr) (fd:FuncData) (ps:List Str) (sp:Sp):Prop where
 len:∀vs H Q E,sp vs H Q E->vs.length=ps.length
 run:∀(A:Around) (outer:List Env) (s:Shared) (H:Hp) (args:Args) (us:List Value) (vs:List V) (Q:VK) (E:XK),df k A->kO P w K mg base A outer s H->BindsTo s fd args (ps.zip us)->Vals vs us->sp vs H Q E->
  codeAny (model P w) A (.call (.ref f) args) (CR CX outer P w H s Q E) s
theorem cw.mono{P:Program}{w:World}{K:Frag}{mg:Str->Option Value}{base:Heap}{CX:bK}{j k:Nat}{f:Addr}{fd:FuncData}{ps:List Str}{sp:Sp}(F:cw P w K mg base CX j f fd ps sp)(h:j<=k):
  cw P w K mg base CX k f fd ps sp:=⟨F.len,fun A outer s H args us vs Q E hr=>F.run A outer s H args us vs Q E<|hr.mono h⟩
theorem kO.make{P:Program}{w:World}{K:Frag}{mg:Str->Option Value}{base:Heap}{A:Around}{outer:List Env}{s:Shared}{H:Hp}(e:kO P w K mg base A outer s H)(C:Addr)(us:List Value)(kw:List (Str×Value)):
  kO P w K mg base (A.under<|.builtin "type.__call__" ⟨.ref C::us,kw⟩) outer s H:=⟨by first|exact e.frames| (simpa[Around.under,Code.envs,Code.isFrame,pushEnvs] using e.frames),e.mod,e.bs,e.mf,e.iy,e.nW,e.az,e.bare⟩
section
variable {X:Cx}{pins:List (Addr×Obj)}{σ:St}{H:Hp}{s s':Shared}
theorem Inv.yA(I:Inv X pins σ H s):kO X.prog X.w X.K X.mg X.base X.A X.stack s H:=
 ⟨I.ok.frames,I.ok.mod,I.bs,zar I.ok.mf I.sz,I.stack,I.uV,I.az,I.bare⟩
theorem Inv.after{Q:VK}{u:Value}(I:Inv X pins σ H s)(h:CE X.stack X.prog X.w H s Q u s'):EP X pins σ Q u s':=by
 obtain⟨v,H',os,bare,un,az,r,q⟩:=h;obtain⟨hh,g,d,t,yB⟩:=s';obtain rfl:yB=s.os:=os;exact⟨v,H',I.call (h':=hh) (g':=g) (d':=d) (t':=t) (ch:=[]) un az bare<|fun b z=>absurd z (by simp),r,q⟩
end
def yC(sp:Sp)(fk:List V)(E:XK)(t:TA):TE:=fun σ H Q=>t σ H fun vs H1=>sp (vs++fk) H1 Q E
def mj(C:Addr)(m:Str)(sp:Sp)(fk:List V)(E:XK)(ta:TE)(t:TA):TE:=fun σ H Q=>ta σ H fun x H1=>∃a dx fs,x=.ref a/\H1 a=some (.ins C dx fs)/\fs.lookup m=none/\
 t σ H1 fun vs H2=>sp (x::(vs++fk)) H2 Q E
def yD(C:Addr)(sp:Sp)(fk:List V)(E:XK)(t:TA):TE:=fun σ H Q=>t σ H fun vs H1=>∀x dx,H1 x=none->H1 dx=none->dx≠x->
 sp (.ref x::(vs++fk)) (upd (upd H1 dx<|.own x) x<|.ins C dx []) (fun v H2=>v=.aD/\Q (.ref x) H2) E
def Binds(K:Frag)(fd:FuncData)(ps:List Str)(ds:List Value):Prop:=
 ∀(s:Shared) (us:List Value),K.In s.heap->(us++ds).length=ps.length->BindsTo s fd ⟨us,[]⟩ (ps.zip<|us++ds)
theorem Binds.all{K:Frag}{fd:FuncData}{ps:List Str}(h:∀us:List Value,us.length=ps.length->bindArgs fd ⟨us,[]⟩=pure (ps.zip us)):Binds K fd ps []:=fun s us _ hl=>by
 rw[zaj] at hl⊢;exact .of_eq<|h us hl
def Passes(CX:bK)(X:Cx)(E:XK):Prop:= ∀(pins:List (Addr×Obj)) (σ:St) (H:Hp) (s:Shared) (e:Value) (s':Shared),Inv X pins σ H s->CX X.stack H s E e s'->X.xe e s'
section
variable {X:Cx}{CX:bK}{k:Nat}{f C:Addr}{fd:FuncData}{ps:List Str}{sp:Sp}{fk:List V}{ds:List Value}{E:XK}{x m:Str}{p pos apos:Pos}{e o:Expr}{es:List Expr}{ta:TE}{t:TA}
theorem yE{pins:List (Addr×Obj)}{σ:St}{H:Hp}{s:Shared}{Q:VK}{us:List Value}{vs:List V}(F:cw X.prog X.w X.K X.mg X.base CX k f fd ps sp)(hr:df k X.A)(hb:Binds X.K fd ps ds)(hd:Vals fk ds)(hx:Passes CX X E)
  (I:Inv X pins σ H s) (r:Vals vs us) (h:sp (vs++fk) H Q E):wpAny (model X.prog X.w) X.A (call (.ref f) us) (EP X pins σ Q) X.xe s:=by
 have r2:Vals (vs++fk) (us++ds):=r.append hd;have hl:(us++ds).length=ps.length:=by rw[<-r2.length];exact F.len _ _ _ _ h
 refine wpAny_call<|codeAny_mono (F.run X.A X.stack s H ⟨us,[]⟩ (us++ds) (vs++fk) Q E hr I.yA (hb s us I.cB hl) r2 h) fun r s' hq=>?_;cases r with
 |error e=>exact hx pins σ H s e s' I hq
 |ok fl=>
  cases fl with
  |ret u=>exact I.after hq
  |next=>exact False.elim hq
  |brk=>exact False.elim hq
  |cont=>exact False.elim hq
theorem OB(F:cw X.prog X.w X.K X.mg X.base CX k f fd ps sp)(hr:df k X.A)(hg:Gl X x)(hm:X.mg x=some (.ref f))(hk:PySem.W.keepIn X.K (.ref f)=true)(hb:Binds X.K fd ps ds)(hd:Vals fk ds)(hx:Passes CX X E)
  (ha:PA X (e::es) t) (ja:(x==("__debug__":Str))=false:=by decide) (he:starEach (e::es) X.env=(false,eval e X.env)::starEach es X.env:=by rfl) (gg:(backTo pos<|starEach es X.env).any (·.1)=false:=by rfl):
  PE X (.Call (.Name x p) (e::es) [] pos) (yC sp fk E t):=by
 intro pins s σ H Q I h;refine wpAny_Call_Name_kw<|rP I hg hm ?_ ja;refine callWith_K (h₀:=X.base) I.ok.mod.nV hk (aF (ha pos pins s σ H _ I h) fun us s1 ⟨vs,H1,I1,r,q⟩=>⟨I1.cB,?_⟩) he gg;exact yE F hr hb hd hx I1 r q
structure Mk (K:Frag) (C f:Addr):Prop where
 makes:makesIn K C=true
 init:PySem.W.findIn K (.ref C) "__init__"=some (some<|.ref f)
 fn:PySem.W.isFn K (.ref f)=true
 kp:PySem.W.keepIn K (.ref C)=true
theorem OC{pins:List (Addr×Obj)}{σ:St}{H:Hp}{s:Shared}{Q:VK}{us:List Value}{vs:List V}(M:Mk X.K C f)(F:cw X.prog X.w X.K X.mg X.base CX k f fd ps sp)(hr:df (k+1) X.A)(hb:Binds X.K fd ps ds)(hd:Vals fk ds)
  (hx:Passes CX X E) (I:Inv X pins σ H s) (r:Vals vs us)
  (h:∀x dx,H x=none->H dx=none->dx≠x->sp (.ref x::(vs++fk)) (upd (upd H dx<|.own x) x<|.ins C dx []) (fun v H2=>v=.aD/\Q (.ref x) H2) E):
  wpAny (model X.prog X.w) X.A (call (.ref C) us) (EP X pins σ Q) X.xe s:=by
 have hq:=h (s.heap.objs.size+1) s.heap.objs.size (I.az.fresh<|zaL _) (I.az.fresh<|zqR _) (zae<|zaK _);have I2:=Inv.made (C:=C) I;have r2:Vals (V.ref (s.heap.objs.size+1)::(vs++fk)) (Value.ref (s.heap.objs.size+1)::(us++ds)):=.cons rfl (r.append hd);have hl:(Value.ref (s.heap.objs.size+1)::us++ds).length=ps.length:=by
  have e:=r2.length;rw[F.len _ _ _ _ hq] at e;exact e.symm
 refine wpAny_call (Oi (f:=f) I.cB M.makes M.init (beq_iff_eq.mp M.fn) (codeAny_mono (F.run _ X.stack _ _ ⟨Value.ref (s.heap.objs.size+1)::us,[]⟩ (Value.ref (s.heap.objs.size+1)::(us++ds)) _ _ E (hr.make C us [])
  (I2.yA.make C us []) (hb _ (Value.ref (s.heap.objs.size+1)::us) I2.cB hl) r2 hq) fun r s' om=>?_))
 cases r with
 |error e=>exact hx pins σ _ _ e s' I2 om
 |ok fl=>
  cases fl with
  |ret u=>
   obtain⟨v,H',I3,rv,ev,q3⟩:=I2.after om;subst ev;exact⟨rv,⟨V.ref<|s.heap.objs.size+1,H',I3,rfl,q3⟩⟩
  |next=>exact False.elim om
  |brk=>exact False.elim om
  |cont=>exact False.elim om
theorem OD(M:Mk X.K C f)(F:cw X.prog X.w X.K X.mg X.base CX k f fd ps sp)(hr:df (k+1) X.A)(hg:Gl X x)(hm:X.mg x=some (.ref C))(hb:Binds X.K fd ps ds)(hd:Vals fk ds)(hx:Passes CX X E)
  (ha:PA X (e::es) t) (ja:(x==("__debug__":Str))=false:=by decide) (he:starEach (e::es) X.env=(false,eval e X.env)::starEach es X.env:=by rfl) (gg:(backTo pos<|starEach es X.env).any (·.1)=false:=by rfl):
  PE X (.Call (.Name x p) (e::es) [] pos) (yD C sp fk E t):=by
 intro pins s σ H Q I h;refine wpAny_Call_Name_kw<|rP I hg hm ?_ ja;refine callWith_K (h₀:=X.base) I.ok.mod.nV M.kp (aF (ha pos pins s σ H _ I h) fun us s1 ⟨vs,H1,I1,r,q⟩=>⟨I1.cB,?_⟩) he gg;exact OC M F hr hb hd hx I1 r q
end
structure mm (N P:List Str) (sc:Scope):Prop where
 kind:sc.kind=.function
 co:sc.isCoroutine=false
 gen:sc.isGenerator=false
 nd:N.Nodup
 pre:N.take P.length=P
 par:∀x∈P,sc.names.lookup x=some .local\/sc.names.lookup x=some .cell
 OE:∀y∈sc.names,y.2≠ .free
theorem D3{kindOf:Str->Option NameKind}{x:Str}:∀{binds:List (Str×Value)}{m:Str->Option Value},(∀v,(x,v)∉binds)->bindL kindOf binds m x=m x
 |[],_,_=>rfl
 |(n,v)::r,m,h=>by
  unfold bindL;rw[D3 fun w hw=>h w (zao _ hw)]
  split
  ·have:x≠n:=by rintro rfl;exact h v zas
   simp[this]
  ·rfl
theorem D4{kindOf:Str->Option NameKind}{x:Str}:∀{binds:List (Str×Value)}{m:Str->Option Value},(∀v,(x,v)∉binds)->bindC kindOf binds m x=m x
 |[],_,_=>rfl
 |(n,v)::r,m,h=>by
  unfold bindC;rw[D4 fun w hw=>h w (zao _ hw)]
  split
  ·rfl
  ·have:x≠n:=by rintro rfl;exact h v zas
   simp[this]
theorem D5{kindOf:Str->Option NameKind}{x:Str}{v:Value}:∀{P:List Str}{vs:List Value}{i:Nat}{m:Str->Option Value},P.Nodup->P[i]?=some x->vs[i]?=some v->kindOf x=some .local->
  bindL kindOf (P.zip vs) m x=some v
 |[],_,_,_,_,h,_,_=>by simp at h
 |_::_,[],_,_,_,_,h,_=>by simp at h
 |p::P,w::vs,0,m,nd,h1,h2,hk=>by
  simp at h1 h2;subst h1;subst h2
  show bindL kindOf ((p,w)::P.zip vs) m p=_;unfold bindL;rw[D3 fun v hv=>(zbz.mp nd).1 (zbA hv).1,if_pos hk]
  simp
 |p::P,w::vs,i+1,m,nd,h1,h2,hk=>by
  show bindL kindOf ((p,w)::P.zip vs) m x=_;unfold bindL;exact D5 (i:=i) (zbz.mp nd).2 (by simpa using h1) (by simpa using h2) hk
theorem D6{kindOf:Str->Option NameKind}{x:Str}{v:Value}:∀{P:List Str}{vs:List Value}{i:Nat}{m:Str->Option Value},P.Nodup->P[i]?=some x->vs[i]?=some v->kindOf x≠some .local->
  bindC kindOf (P.zip vs) m x=some v
 |[],_,_,_,_,h,_,_=>by simp at h
 |_::_,[],_,_,_,_,h,_=>by simp at h
 |p::P,w::vs,0,m,nd,h1,h2,hk=>by
  simp at h1 h2;subst h1;subst h2
  show bindC kindOf ((p,w)::P.zip vs) m p=_;unfold bindC;rw[D4 fun v hv=>(zbz.mp nd).1 (zbA hv).1,if_neg hk]
  simp
 |p::P,w::vs,i+1,m,nd,h1,h2,hk=>by
  show bindC kindOf ((p,w)::P.zip vs) m x=_;unfold bindC;exact D6 (i:=i) (zbz.mp nd).2 (by simpa using h1) (by simpa using h2) hk
def start(N:List Str)(vs:List V):St:=vs.map some++List.replicate (N.length - vs.length) none
def kQ(CX:bK)(P:Program)(w:World)(K:Frag)(mg:Str->Option Value)(base:Heap)(N:List Str)(qual:Str)(scope:Scope)(f:Addr)(cd:Value)(A:Around)(outer:List Env)(s:Shared)(H:Hp)(E:XK):Cx where
 prog:=P
 w:=w
 K:=K
 mg:=mg
 base:=base
 A:=A.deeper (envOfC qual scope s.heap.objs.size f cd)
 N:=N
 s₀:=s
 H₀:=H
 env:=envOfC qual scope s.heap.objs.size f cd
 outer:=outer
 stack:=envOfC qual scope s.heap.objs.size f cd::outer
 ex:=[]
 calm:=true
 fn:=fun _=>true
 pn:=[]
 xe:=fun e s'=>wpAny (model P w) (A.deeper<|envOfC qual scope s.heap.objs.size f cd) (leaving (envOfC qual scope s.heap.objs.size f cd) e) (fun _ fq=>CX outer H s E e fq) (fun e' fq=>CX outer H s E e' fq) s'
theorem D7{sc:Scope}{n:Nat}{x:Str}(h:sc.names.lookup x=some .cell):∃c,(cellsFrom n sc.names []).lookup x=some c:=by
 have q:=cellsFrom_some sc.names n [] (.inl h);exact zbB.mp q
theorem D8{CX:bK}{P:Program}{w:World}{K:Frag}{mg:Str->Option Value}{base:Heap}{N ps:List Str}{qual:Str}{scope:Scope}{f:Addr}{cd:Value}{A:Around}{outer:List Env}{s s1:Shared}{H:Hp}{E:XK}{us:List Value}{vs:List V}
  (S:mm N ps scope) (hd:A.handled=none) (e0:kO P w K mg base A outer s H) (hl:vs.length=ps.length) (r:Vals vs us)
  (x:InCallC s s.heap.objs.size (bindL (envOfC qual scope s.heap.objs.size f cd).kindOf (ps.zip us) fun _=>none) (cellsFrom (s.heap.objs.size+1) scope.names []) (bindC (envOfC qual scope s.heap.objs.size f cd).kindOf (ps.zip us) fun _=>none) s1):
  Inv (kQ CX P w K mg base N qual scope f cd A outer s H E) [] (start N vs) H s1:=by
 have gg:ps.length<=N.length:=by have:=congrArg List.length S.pre;rw[zau] at this;omega
 obtain⟨h1,tk,rfl,hk⟩:=x.done;have rY:∀b:Addr,b∉ (kQ CX P w K mg base N qual scope f cd A outer s H E).ex:=fun b z=>absurd (show b∈ ([]:List Addr) from z) (by simp)
 refine⟨⟨e0.mod,S.kind,rfl,rfl,zqR _,fun y z c h1 h2=>?_,fun y hy=>?_,fun y c _ h=>?_,fun _=>hd,Around.frames_deeper e0.frames,.inr ⟨rfl,rfl⟩,fun b z=>absurd z (rY b),e0.bs,e0.mf,fun b _ _=>rY b,fun b z=>absurd z (rY b),e0.iy,e0.nW⟩,
  rfl,e0.bare,Un.kept hk,⟨_,x.toInCall.ns,fun i y v h1 h2 h3=>?_⟩,fun y c h=>⟨_,x.cell y c h⟩,e0.az.fresh (zqR _),fun y c h=>?_,fun p hp=>absurd (show p∈ ([]:List (Addr×Obj)) from hp) (by simp),e0.az.kept hk,?_⟩
 ·exact name_of_addr x.apart (PySem.mem_of_lookup h1) (PySem.mem_of_lookup h2)
 ·have hy:scope.names.lookup y=some .cell\/scope.names.lookup y=some .free:=hy;rcases hy with hy|hy
  ·exact D7 hy
  ·exact absurd rfl (S.OE _<|PySem.mem_of_lookup hy)
 ·exact zbb (x.above y c<|PySem.mem_of_lookup h)
 ·have hi:i<vs.length:=by
   unfold start at h2;by_cases hi:i<vs.length
   ·exact hi
   ·rw[zbo (by simpa using hi)] at h2
    rw[List.getElem?_replicate] at h2
    split at h2<;>cases h2
  have ha:vs[i]?=some v:=by
   unfold start at h2;rw[zbQ (by simpa using hi),zai] at h2
   cases e:vs[i]? with
   |none=>rw[e] at h2;cases h2
   |some a=>rw[e] at h2;cases h2;rfl
  obtain⟨u,hu,rv⟩:=r.get ha;have hp:ps[i]?=some y:=by
   rw[<-S.pre,List.getElem?_take_of_lt (by omega)];exact h1
  have D9:ps.Nodup:=by rw[<-S.pre];exact S.nd.sublist (List.take_sublist _ _)
  refine⟨u,rv,?_⟩;rcases S.par y (zav hp) with k|k
  ·exact .inl ⟨k,D5 D9 hp hu k⟩
  ·obtain⟨c,e⟩:=D7 (n:=s.heap.objs.size+1) k;refine .inr ⟨.inl k,c,e,?_⟩;have q:=x.cell y c e;rw[D6 D9 hp hu (by show scope.names.lookup y≠_;rw[k];decide)] at q
   exact q
 ·exact e0.az.fresh (zbb<|x.above y c<|PySem.mem_of_lookup h)
 ·unfold start;show _=N.length;rw[zqA,zaa,List.length_replicate];omega
theorem OF{CX:bK}{P:Program}{w:World}{K:Frag}{mg:Str->Option Value}{base:Heap}{k:Nat}{f:Addr}{name qual:Str}{params:Arguments}{body:List Stmt}{scope:Scope}{dV kV doc pm aT ct oc:Value}{an od:Option Addr}
  {fK:Array (Option Value)}{N ps:List Str}{sp:Sp} (lk:K.lookup f=some ⟨oc,od,.func<|PySem.W.fnOf name qual params body scope dV kV doc pm an aT ct,fK⟩) (gK:PySem.W.codeIn K aT qual=true) (S:mm N ps scope)
  (len:∀vs H Q E,sp vs H Q E->vs.length=ps.length)
  (yF:∀(A:Around) (outer:List Env) (s:Shared) (H:Hp) (vs:List V) (Q:VK) (E:XK),df k (A.deeper (envOfC qual scope s.heap.objs.size f aT))->sp vs H Q E->
   ∃t,cT (kQ CX P w K mg base N qual scope f aT A outer s H E) body t/\t {nx:=fun _ H'=>Q .aD H',rt:=Q} (start N vs) H):
  cw P w K mg base CX (k+1) f (PySem.W.fnOf name qual params body scope dV kV doc pm an aT ct) ps sp:=by
 refine⟨len,fun A outer s H args us vs Q E hr e0 hb r gZ=>?_⟩;have hl:=len _ _ _ _ gZ;have KX:K.In s.heap:=e0.mod.nV.keeps fun b o e=>(e0.bs b o e).1;have lim:s.heap.NoLimit:=e0.mod.nolimit.keeps fun b o e=>(e0.bs b o e).1;have yG:∀y∈ps.zip us,scope.names.lookup y.1=some .local\/(scope.names.lookup y.1=some .cell/\((cellsFrom (s.heap.objs.size+1) scope.names []).lookup y.1).isSome=true):=fun⟨n,v⟩ hy=>by
  rcases S.par n (zbA hy).1 with q|q
  ·exact .inl q
  ·exact .inr ⟨q,cellsFrom_some _ _ _<|.inl q⟩
 refine codeAny_call_function hr.depth (KX _ _ lk) rfl S.co S.gen rfl (codeRec_of KX gK)<|hb _ _ _ _ ?_;refine wpAny_newFunctionEnv_cells S.kind yG fun env he s1 x=>?_;subst he;refine⟨lim.keeps x.toInCall.keep,codeAny_func ?_⟩;obtain⟨t,ht,hq⟩:=yF A outer s H vs Q E (hr.deeper _) gZ;have I:Inv (kQ CX P w K mg base N qual scope f aT A outer s H E) [] (start N vs) H s1:=D8 S hr.hd e0 hl r x;refine wpAny_mono (ht [] s1 (start N vs) H _ I hq) (fun fl s' hs=>?_) fun e s' hs=>hs;have fin:∀{σ':St}{H':Hp}{v:V}{u:Value},Inv (kQ CX P w K mg base N qual scope f aT A outer s H E) [] σ' H' s'->RelV v u->Q v H'->CE outer P w H s Q u s':=
  fun {σ' H' v u} J rv q=>⟨v,H',J.os,J.bare,J.base,J.az,rv,q⟩
 cases fl with
 |ret u=>
  obtain⟨v,σ',H',J,rv,q⟩:=hs;exact fin J rv q
 |next=>
  obtain⟨σ',H',J,q⟩:=hs;exact fin (v:=V.aD) (u:=Value.none) J rfl q
 |brk=>
  obtain⟨_,_,_,q⟩:=hs;exact False.elim q
 |cont=>
  obtain⟨_,_,_,q⟩:=hs;exact False.elim q
section
variable {X:Cx}{x:Str}{p pos:Pos}{e:Expr}{es:List Expr}{t:TA}{id T:String}{r:List V->Hp->VK->Prop}
def dS(r:List V->Hp->VK->Prop)(t:TA):TE:=fun σ H Q=>t σ H fun vs H1=>r vs H1 Q
theorem qp(hc:cv X (.builtin id) r)(hg:Gl X x)(hm:X.mg x=none)(hv:bootBuiltins x=some (.builtin id))(ha:PA X (e::es) t)(hn:x≠"__name__":=by decide)(ja:(x==("__debug__":Str))=false:=by decide)
  (he:starEach (e::es) X.env=(false,eval e X.env)::starEach es X.env:=by rfl) (gg:(backTo pos<|starEach es X.env).any (·.1)=false:=by rfl):PE X (.Call (.Name x p) (e::es) [] pos) (dS r t):=by
 intro pins s σ H Q I h;refine wpAny_Call_Name_kw<|qi I hg hm hv ?_ hn ja;exact PyProof.Rows.callWith_builtin1 (aF (ha pos pins s σ H _ I h) fun us s1 ⟨vs,H1,I1,r1,q1⟩=>hc pins s1 σ H1 vs us Q I1 r1 q1) he gg
theorem D_(hc:cv X (.type T) r)(hg:Gl X x)(hm:X.mg x=none)(hv:bootBuiltins x=some (.type T))(ha:PA X (e::es) t)(hn:x≠"__name__":=by decide)(ja:(x==("__debug__":Str))=false:=by decide)
  (he:starEach (e::es) X.env=(false,eval e X.env)::starEach es X.env:=by rfl) (gg:(backTo pos<|starEach es X.env).any (·.1)=false:=by rfl):PE X (.Call (.Name x p) (e::es) [] pos) (dS r t):=by
 intro pins s σ H Q I h;refine wpAny_Call_Name_kw<|qi I hg hm hv ?_ hn ja;exact PyProof.Rows.callWith_type1 (aF (ha pos pins s σ H _ I h) fun us s1 ⟨vs,H1,I1,r1,q1⟩=>hc pins s1 σ H1 vs us Q I1 r1 q1) he gg
end
end L2
namespace HT
open PySem PyProof.Rows
section
variable {prog:Program}{w:World}{A:Around}{E:Value->Shared->Prop}{s:Shared}
theorem OG{t b:Addr}{vs ws:List Value}{Q:Value->Shared->Prop}(ht:IsTup s.heap t vs.toArray)(hb:IsTup s.heap b ws.toArray)(hv:vs≠ [])
  (h1:ws=[]->Q (.ref t) s) (h2:ws≠ []->Q (.ref s.heap.objs.size) {s with heap:=s.heap.push {cls:=.type "tuple",data:=.seq (vs++ws).toArray}})
  (hsz:vs.length+ws.length<=sizeLine):wpAny (model prog w) A (binaryOp .Add (.ref t)<|.ref b) Q E s:=by
 obtain⟨⟨cls,dd,data,sl⟩,ho,hc,n,hd⟩:=id ht;obtain⟨⟨ad4,Ea,data2,rZ⟩,dg,Eb,n2,hd2⟩:=id hb
 simp only at hc hd Eb hd2
 subst hc hd Eb hd2;have e:vs.toArray++ws.toArray=(vs++ws).toArray:=by simp
 by_cases hw:ws=[]
 ·exact concat_meets ⟨_,ho,rfl⟩ ⟨_,dg,rfl⟩ noFill_tuple_add seq_tuple_add PySem.F.slot_tuple_add PySem.F.entry_tuple_add (PySem.F.args_tuple_add_2 _ _)
   (tuple_addW1 t b vs.toArray ws.toArray n n2 dd Ea sl rZ (by simpa using hv) (by simp[hw])) ⟨ho,dg,h1 hw⟩
 ·refine concat_meets ⟨_,ho,rfl⟩ ⟨_,dg,rfl⟩ noFill_tuple_add seq_tuple_add PySem.F.slot_tuple_add PySem.F.entry_tuple_add (PySem.F.args_tuple_add_2 _ _)
   (tuple_addW2 t b vs.toArray ws.toArray n n2 dd Ea sl rZ (by simpa using hv) (by simpa using hw) (by rw[zah,zah];exact hsz)) ⟨ho,dg,?_⟩
  rw[e];exact h2 hw
def aQ(n d:Nat):Option Int->Nat
 |none=>d
 |some v=>if v<0 then (v+(n:Int)).toNat else min v.toNat n
theorem vi(n d k:Nat):aQ n d (some (k:Int))=min k n:=by
 show(if (k:Int) <0 then ((k:Int)+(n:Int)).toNat else min (k:Int).toNat n)=min k n
 rw[if_neg (by omega),Int.toNat_natCast]
theorem yH(n d:Nat)(hd:d<=n)(o:Option Int):aQ n d o<=n:=by
 cases o with
 |none=>exact hd
 |some v=>
  show(if v<0 then (v+(n:Int)).toNat else min v.toNat n)<=n
  by_cases hv:v<0
  ·rw[if_pos hv];omega
  ·rw[if_neg hv];exact Nat.min_le_right _ _
theorem Ec(v:Int)(n d:Nat):(if v<0 then max (v+(n:Int)) 0 else min v (n:Int))=((aQ n d (some v):Nat):Int):=by
 show(if v<0 then max (v+(n:Int)) 0 else min v (n:Int))=(((if v<0 then (v+(n:Int)).toNat else min v.toNat n):Nat):Int)
 by_cases hv:v<0
 ·simp only[if_pos hv];omega
 ·simp only[if_neg hv];omega
theorem OH(lo hi:Option Int)(n:Nat):Builtin.Slice.sliceAdjust lo hi 1 (n:Int)=(((aQ n 0 lo:Nat):Int),((aQ n n hi:Nat):Int)):=by
 have h1:¬((1:Int) <0):=by omega
 unfold Builtin.Slice.sliceAdjust
 simp only[h1,if_false]
 refine Prod.ext ?_ ?_
 ·cases lo with
  |none=>rfl
  |some v=>exact Ec v n 0
 ·cases hi with
  |none=>rfl
  |some v=>exact Ec v n n
theorem OI(i j:Nat):Builtin.Slice.slicePlaces (i:Int) (j:Int) 1=j - i:=by
 unfold Builtin.Slice.slicePlaces;have h1:(1:Int) >0:=by omega
 simp only[h1,if_true,Int.ediv_one]
 split<;>omega
theorem Ed{v:Value}{o:Option Int}{Q:Option Int->Shared->Prop}(p:IsPart v o)(h:Q o s):wpAny (model prog w) A (Builtin.Slice.slicePartIndex v) Q E s:=by
 cases p with
 |none=>exact slicePart_none h
 |int i t=>exact slicePart_int h
theorem OJ{sl:Addr}{vl vu:Value}{lo hi:Option Int}{n:Nat}{Q:Int×Int×Nat->Shared->Prop}(hs:s.heap.IsSliceOf sl vl vu .none)(pl:IsPart vl lo)(pu:IsPart vu hi)
  (h:Q (((aQ n 0 lo:Nat):Int),1,aQ n n hi - aQ n 0 lo) s):wpAny (model prog w) A (Builtin.Slice.sliceApplied (.ref sl)<|pure (n:Int)) Q E s:=by
 obtain⟨os,r6,Ee,vj⟩:=id hs;unfold Builtin.Slice.sliceApplied Builtin.Slice.sliceFields;refine wpAny_bind<|wpAny_bind<|wpAny_field r6 vj (x:=vl) rfl<|wpAny_bind<|wpAny_field r6 vj (x:=vu) rfl<|wpAny_bind<|wpAny_field r6 vj (x:=.none) rfl<|wpAny_pure ?_;refine wpAny_bind<|slicePart_none ?_;show wpAny _ _ (if ((1:Int)==0)=true then _ else _) _ _ s
 rw[if_neg (by decide)]
 refine wpAny_bind<|Ed pl<|wpAny_bind<|Ed pu<|wpAny_bind<|wpAny_pure ?_;show wpAny _ _ (match Builtin.Slice.sliceAdjust lo hi 1 (n:Int) with|(lo,hi)=>pure (lo,(1:Int),Builtin.Slice.slicePlaces lo hi 1)) _ _ s
 rw[OH lo hi n];show wpAny _ _ (pure (((aQ n 0 lo:Nat):Int),(1:Int),Builtin.Slice.slicePlaces ((aQ n 0 lo:Nat):Int) ((aQ n n hi:Nat):Int) 1)) _ _ s;rw[OI];exact wpAny_pure h
theorem OK(xs:Array Value)(i k:Nat):((List.range k).filterMap fun(m:Nat)=>xs[((i:Int)+(m:Int)*1).toNat]?).toArray=((xs.toList.drop i).take k).toArray:=by
 have e:(fun(m:Nat)=>xs[((i:Int)+(m:Int)*1).toNat]?)=fun m=>xs[i+m]?:=by
  funext m
  have:((i:Int)+(m:Int)*1).toNat=i+m:=by omega
  rw[this]
 rw[e];have:=pick_run xs i k;rw[List.filterMap_map] at this;have e2:((fun x=>xs[x]?)∘fun x=>i+x)=fun m=>xs[i+m]?:=rfl;rw[e2] at this;rw[this]
theorem OL{t sl:Addr}{items:Array Value}{vl vu:Value}{lo hi:Option Int}{Q:Value->Shared->Prop}(ht:IsTup s.heap t items)(hs:s.heap.IsSliceOf sl vl vu .none)(pl:IsPart vl lo)(pu:IsPart vu hi)
  (hw:¬(aQ items.size 0 lo=0/\aQ items.size items.size hi=items.size))
  (h:Q (.ref s.heap.objs.size) {s with heap:=s.heap.push {cls:=.type "tuple",data:=.seq ((items.toList.drop<|aQ items.size 0 lo).take<|aQ items.size items.size hi - aQ items.size 0 lo).toArray}})
  (hsz:items.size<=sizeLine):wpAny (model prog w) A (getItem (.ref t)<|.ref sl) Q E s:=by
 have vm:sizeOk (.seq ((items.toList.drop<|aQ items.size 0 lo).take<|aQ items.size items.size hi - aQ items.size 0 lo).toArray):=by
  show((items.toList.drop<|aQ items.size 0 lo).take<|aQ items.size items.size hi - aQ items.size 0 lo).toArray.size<=sizeLine;rw[zah,zau,zaT,zbc];omega
 have hj:aQ items.size items.size hi<=items.size:=yH _ _ (zqR _) hi;obtain⟨os,r6,Ee,vj⟩:=id hs;have OM:s.TypeIs (.ref sl) "slice":=⟨os,r6,Ee⟩;unfold getItem
 try with_reducible refine wpAny_holding ?_
 first|refine wpAny_bind (wpAny_pure ?_)|skip
 refine wpAny_bind<|wpAny_sequenceKey ht.typeIs (by decide) ?_
 refine wpAny_bind (wpAny_callSpecial?_slot (name:=Str.ofString "__getitem__") ht.typeIs PyProof.Rows.slot_tuple_getitem
  (wpAny_call_entry PyProof.Rows.slot_tuple_getitem ht.typeIs entry_tuple_getitem ?_ (args_tuple_getitem _ _)))
 show wpAny _ _ (Builtin.Tuple.tupleItemsOf (.ref t) >>=_) _ _ s;refine wpAny_bind<|tupleItemsOf_ ht ?_;refine wpAny_bind<|wpAny_typeOf OM ?_;rw[if_pos (by decide)]
 refine wpAny_bind<|OJ hs pl pu ?_;have yI:¬((((aQ items.size 0 lo:Nat):Int)==0 && (1:Int)==1 && (aQ items.size items.size hi - aQ items.size 0 lo)==items.size)=true):=by
  intro q;rw[zad,zad] at q;have q1:((aQ items.size 0 lo:Nat):Int)=0:=eq_of_beq q.1.1;have q2:aQ items.size items.size hi - aQ items.size 0 lo=items.size:=eq_of_beq q.2;exact hw ⟨by omega,by omega⟩
 show wpAny _ _ (if (((aQ items.size 0 lo:Nat):Int)==0 && (1:Int)==1 && (aQ items.size items.size hi - aQ items.size 0 lo)==items.size)=true then _ else _) _ _ s
 rw[if_neg yI,OK]
 first
  |exact wpAny_bind (m:=Builtin.Tuple.tupleExact _) (wpAny_newObj_type (wpAny_pure ⟨_,rfl,wpAny_pure h⟩) vm)
  |exact wpAny_bind (m:=Builtin.Tuple.tupleExact _) (wpAny_newObj_type (wpAny_bind<|wpAny_pure<|wpAny_pure ⟨_,rfl,wpAny_pure h⟩) vm)
  |exact wpAny_bind (wpAny_bind (m:=Builtin.Tuple.tupleExact _)<|wpAny_newObj_type (wpAny_pure<|wpAny_pure ⟨_,rfl,wpAny_pure h⟩) vm)
  |exact wpAny_bind (wpAny_bind (m:=Builtin.Tuple.tupleExact _)<|wpAny_newObj_type (wpAny_pure ⟨_,rfl,wpAny_pure h⟩) vm)
end
end HT
namespace L2
open PySem PySem.Spec PyProof.Rows
abbrev TO:=St->Hp->(Option Int->Hp->Prop)->Prop
def PO(X:Cx)(e:Option Expr)(t:TO):Prop:=
 ∀(pins:List (Addr×Obj)) (s:Shared) (σ:St) (H:Hp) (Q:Option Int->Hp->Prop),Inv X pins σ H s->t σ H Q->
  wpAny (model X.prog X.w) X.A (evalPart e X.env) (fun u s'=>∃o H',Inv X pins σ H' s'/\IsPart u o/\Q o H') X.xe s
def Ef:TO:=fun _ H Q=>Q none H
def vn(t:TE):TO:=fun σ H Q=>t σ H fun x H1=>∃i,x=.int i/\Q (some i) H1
theorem intsAre_of{ns:List Int}:∀{us:List Value},Vals (ns.map V.int) us->IntsAre us ns:=by
 induction ns with
 |nil=>intro us r;rw[zaM] at r;cases r;exact .nil
 |cons n ns ih=>
  intro us r;rw[zal] at r;cases r with
  |cons r1 r2=>
   obtain⟨t,e⟩:=r1;subst e;exact .cons n t<|ih r2
section
variable {X:Cx}{e:Expr}{te:TE}{lo hi:Option Expr}{tl th:TO}{pos p2:Pos}
theorem ON:PO X none Ef:=by
 intro pins s σ H Q I h;rw[evalPart_none];exact wpAny_pure ⟨none,H,I,.none,h⟩
theorem OO(h:PE X e te):PO X (some e) (vn te):=by
 intro pins s σ H Q I hw;rw[evalPart_some];refine aF (h pins s σ H _ I hw) fun u s1 ⟨x,H1,I1,r1,q1⟩=>?_;obtain⟨i,rfl,q⟩:=q1;obtain⟨t,rfl⟩:=r1;exact⟨some i,H1,I1,.int i t,q⟩
def vo(X:Cx)(r:V->Option Int->Option Int->Hp->VK->Prop):Prop:=
 ∀(pins:List (Addr×Obj)) (s:Shared) (σ:St) (H:Hp) (x:V) (v vl vu:Value) (lo hi:Option Int) (sl:Addr) (Q:VK),Inv X pins σ H s->RelV x v->s.heap.IsSliceOf sl vl vu .none->IsPart vl lo->IsPart vu hi->r x lo hi H Q->
  ∃T id,typeLookup (.type T) "__getitem__"=pure (some<|.builtin id)/\s.TypeIs v T/\wpAny (model X.prog X.w) X.A (getItem v<|.ref sl) (EP X pins σ Q) X.xe s
def yJ(r:V->Option Int->Option Int->Hp->VK->Prop)(te:TE)(tl th:TO):TE:=fun σ H Q=>te σ H fun x H1=>tl σ H1 fun l H2=>th σ H2 fun u H3=>r x l u H3 Q
theorem OP{r:V->Option Int->Option Int->Hp->VK->Prop}(hr:vo X r)(he:PE X e te)(hl:PO X lo tl)(hu:PO X hi th):PE X (.Subscript e (.Slice lo hi none p2) pos) (yJ r te tl th):=by
 intro pins s σ H Q I h;refine Subscript_<|aF (he pins s σ H _ I h) fun v s1 ⟨x,H1,I1,r1,q1⟩=>?_;refine wpAny_Slice<|aF (hl pins s1 σ H1 _ I1 q1) fun vl s2 ⟨l,H2,I2,pl,q2⟩=>aF (hu pins s2 σ H2 _ I2 q2) fun vu s3 ⟨u,H3,I3,pu,q3⟩=>?_;rw[evalPart_none];refine wpAny_pure ?_;have I4:Inv X pins σ H3 {s3 with heap:=s3.heap.push {cls:=.type "slice",data:=.fields #[vl,vu,.none]}}:=I3.kept (t':=s3.toks) fun b ob q=>Heap.get?_push_of_some _ q
 obtain⟨T,id,hT,ht,hg⟩:=hr pins {s3 with heap:=s3.heap.push {cls:=.type "slice",data:=.fields #[vl,vu,.none]}} σ H3 x v vl vu l u s3.heap.objs.size Q I4 r1 (Heap.IsSliceOf.new ..) pl pu q3
 show wpAny (model X.prog X.w) X.A (subscriptTail e (.Slice lo hi none p2) v<|.ref s3.heap.objs.size) (EP X pins σ Q) X.xe {s3 with heap:=s3.heap.push {cls:=.type "slice",data:=.fields #[vl,vu,.none]}}
 exact tail_any (ops:=[.ref s3.heap.objs.size,v]) ht hT hg (by with_unfolding_all rfl)
def cc(xs:List V)(lo hi:Option Int):List V:=(xs.drop<|HT.aQ xs.length 0 lo).take (HT.aQ xs.length xs.length hi - HT.aQ xs.length 0 lo)
theorem Eg(xs:List V)(lo hi:Option Int):(cc xs lo hi).length<=xs.length:=by
 unfold cc;rw[zau,zaT];omega
def OQ(K:Frag):V->Option Int->Option Int->Hp->VK->Prop:=fun x lo hi H Q=>∃a xs,x=.ref a/\aO K H a xs/\
 ¬(HT.aQ xs.length 0 lo=0/\HT.aQ xs.length xs.length hi=xs.length)/\∀p,H p=none->Q (.ref p) (upd H p<|.tup<|cc xs lo hi)
theorem OR:vo X (OQ X.K):=by
 intro pins s σ H x v vl vu lo hi sl Q I rx hs pl pu h;obtain⟨a,xs,rfl,hx,hw,q⟩:=h;cases rx;obtain⟨aq,r,ht,hz⟩:=I.tuple hx;have hlen:aq.toArray.size=xs.length:=by rw[zah];exact r.length.symm
 refine⟨"tuple",_,PyProof.Rows.slot_tuple_getitem.lookup,ht.typeIs,?_⟩;refine HT.OL ht hs pl pu (by rw[hlen];exact hw) ?_ (by rw[hlen];exact hz)
 rw[hlen];refine⟨.ref s.heap.objs.size,_,I.laid (t':=s.toks) (o:=.tup (cc xs lo hi)) (fun b ob q=>Heap.get?_push_of_some _ q) (zqR _) ?_,rfl,q _<|I.az.fresh<|zqR _⟩;exact⟨zar (Eg xs lo hi) hz,_,(r.drop<|HT.aQ xs.length 0 lo).take<|HT.aQ xs.length xs.length hi - HT.aQ xs.length 0 lo,IsTup.new _ _⟩
def Eh(K:Frag):R2:=fun x y H Q=>∃a b xs ys,x=.ref a/\y=.ref b/\aO K H a xs/\aO K H b ys/\xs≠ []/\xs.length+ys.length<=sizeLine/\
 (ys=[]->Q (.ref a) H)/\(ys≠ []->∀p,H p=none->Q (.ref p) (upd H p<|.tup<|xs++ys))
theorem Vals.yK{xs:List V}{us:List Value}(r:Vals xs us):us=[]↔xs=[]:=by
 cases r with
 |nil=>simp
 |cons _ _=>simp
theorem OS:aX X (binaryOp .Add) (Eh X.K):=by
 intro pins s σ H x y v u Q I rx ry h;obtain⟨a,b,xs,ys,rfl,rfl,ha,hb,hx,hz,q1,q2⟩:=h;cases rx;cases ry;obtain⟨aq,r1,p1,_⟩:=I.tuple ha;obtain⟨mq,r2,p2,_⟩:=I.tuple hb;refine HT.OG p1 p2 (fun z=>hx<|r1.yK.mp z) (fun z=>⟨.ref a,H,I,rfl,q1<|r2.yK.mp z⟩) (fun z=>?_) (by rw[<-r1.length,<-r2.length];exact hz)
 refine⟨.ref s.heap.objs.size,_,I.laid (t':=s.toks) (o:=.tup (xs++ys)) (fun b ob q=>Heap.get?_push_of_some _ q) (zqR _) ?_,rfl,q2 (fun w=>z<|r2.yK.mpr w) _<|I.az.fresh<|zqR _⟩;exact⟨by rw[zqA];exact hz,_,r1.append r2,IsTup.new _ _⟩
end
def jL(n:Nat)(i:Int):Option Nat:=if 0<=i then (if i<n then some i.toNat else none) else if -(n:Int)<=i then some (i+n).toNat else none
def dC{α:Type}(xs:List α)(i:Int):Option α:=(jL xs.length i).bind fun j=>xs[j]?
theorem Ei{n:Nat}{i:Int}{j:Nat}(h:jL n i=some j):seqIndex? i n=some j/\j<n/\ -(n:Int)<=i/\i<n:=by
 unfold jL at h;by_cases h0:0<=i
 ·rw[if_pos h0] at h;by_cases h1:i<n
  ·rw[if_pos h1] at h;have e:i.toNat=j:=zak h;exact⟨by rw[seqIndex_of h0 h1,e],by omega,by omega,h1⟩
  ·rw[if_neg h1] at h;cases h
 ·rw[if_neg h0] at h;by_cases h1: -(n:Int)<=i
  ·rw[if_pos h1] at h;have e:(i+n).toNat=j:=zak h;exact⟨by rw[seqIndex_neg (by omega) h1,e],by omega,h1,by omega⟩
  ·rw[if_neg h1] at h;cases h
theorem yL{α:Type}{xs:List α}{i:Int}{v:α}(h:dC xs i=some v):∃j,seqIndex? i xs.length=some j/\xs[j]?=some v/\j<xs.length/\ -(xs.length:Int)<=i/\i<xs.length:=by
 unfold dC at h;cases e:jL xs.length i with
 |none=>rw[e] at h;cases h
 |some j=>
  rw[e] at h;obtain⟨h1,h2,h3,h4⟩:=Ei e;exact⟨j,h1,h,h2,h3,h4⟩
theorem g4{α:Type}{xs:List α}{j:Nat}{v:α}(h:xs[j]?=some v):dC xs (j:Int)=some v:=by
 have hj:j<xs.length:=(zam.mp h).1;have e:jL xs.length (j:Int)=some j:=by
  unfold jL;rw[if_pos (by omega),if_pos (by omega)];simp
 unfold dC;rw[e];exact h
theorem OT{α:Type}(xs:List α)(v:α):dC (xs++[v]) (-1)=some v:=by
 have hl:(xs++[v]).length=xs.length+1:=by simp
 have e:jL (xs++[v]).length (-1)=some xs.length:=by
  unfold jL;rw[hl,if_neg (by decide),if_pos (by omega)]
  congr 1
  omega
 unfold dC;rw[e];show(xs++[v])[xs.length]?=some v
 simp
def Ej(b:Expr):Prop:= ∀o i,subscripted b false o i=operate [o,i] (getItem o i)
def jM(X:Cx)(r:R2):Prop:=
 ∀(value slice:Expr) (pins:List (Addr×Obj)) (s:Shared) (σ:St) (H:Hp) (x y:V) (v u:Value) (Q:VK),Inv X pins σ H s->RelV x v->RelV y u->r x y H Q->
  subscripted slice false v u=operate [v,u] (getItem v u)->wpAny (model X.prog X.w) X.A (subscriptTail value slice v u) (EP X pins σ Q) X.xe s
def qq(X:Cx)(id:String)(r:V->List V->Hp->VK->Prop):Prop:=
 ∀(pins:List (Addr×Obj)) (s:Shared) (σ:St) (H:Hp) (x:V) (xs:List V) (v:Value) (us:List Value) (Q:VK),Inv X pins σ H s->RelV x v->Vals xs us->r x xs H Q->
  wpAny (model X.prog X.w) X.A (call (.builtin id) (v::us)) (EP X pins σ Q) X.xe s
section
variable {X:Cx}{a b:Expr}{ta tb:TE}{pos:Pos}
theorem jM.or{r r':R2}(h:jM X r)(h':jM X r'):jM X (fun x y H Q=>r x y H Q\/r' x y H Q):=by
 intro value slice pins s σ H x y v u Q I rx ry q hs;rcases q with q|q
 ·exact h value slice pins s σ H x y v u Q I rx ry q hs
 ·exact h' value slice pins s σ H x y v u Q I rx ry q hs
theorem OU{r:R2}(hr:jM X r)(ha:PE X a ta)(hb:PE X b tb)(hs:Ej b):PE X (.Subscript a b pos) (eB r ta tb):=by
 intro pins s σ H Q I h;exact Subscript_<|yu ha hb I h fun v u s2 x y H2 I2 rx ry q=>hr a b pins s2 σ H2 x y v u Q I2 rx ry q (hs _ _)
def Ek(K:Frag):R2:=fun x y H Q=>∃p xs i v,x=.ref p/\y=.int i/\ay K H p xs/\dC xs i=some v/\Q v H
def El(K:Frag):R2:=fun x y H Q=>∃p xs i v,x=.ref p/\y=.int i/\aO K H p xs/\dC xs i=some v/\Q v H
def Em:R2:=fun x y H Q=>∃z i c,x=.str z/\y=.int i/\z.length<=sizeLine/\dC z.cps.toList i=some c/\Q (.str ⟨#[c]⟩) H
theorem OV:jM X (Ek X.K):=by
 intro value slice pins s σ H x y v u Q I rx ry h hs;obtain⟨p,xs,i,z,rfl,rfl,hq,he,q⟩:=h;cases rx;obtain⟨t,rfl⟩:=ry;obtain⟨aq,r,pl,hz⟩:=I.list hq;obtain⟨j,h1,h2,h3,h4,h5⟩:=yL he;obtain⟨w,ew,d5⟩:=r.get h2;have hl:=r.length;have hn:=oa;have fin:EP X pins σ Q w s:=⟨z,H,I,d5,q⟩;by_cases h0:0<=i
 ·have hj:i.toNat=j:=by
   rw[seqIndex_of h0 h5] at h1;exact zak h1
  exact item_listR pl.isList h0 (by omega) (by rw[hj];simpa using ew) fin hs
 ·have hj:(i+(aq.toArray.size:Int)).toNat=j:=by
   rw[seqIndex_neg (by omega) h4] at h1
   rw[zah,<-hl];exact zak h1
  exact subscriptTail_builtinR (x:=w) pl.isList.typeIs slot_list_getitem.lookup
   (wpAny_getItem_list_neg (Q:=fun r s'=>r=w/\EP X pins σ Q r s') pl.isList (by omega) (by rw[zah] <;>omega) (by omega) (by rw[hj];simpa using ew) ⟨rfl,fin⟩) hs
theorem OW:jM X (El X.K):=by
 intro value slice pins s σ H x y v u Q I rx ry h hs;obtain⟨p,xs,i,z,rfl,rfl,hq,he,q⟩:=h;cases rx;obtain⟨t,rfl⟩:=ry;obtain⟨aq,r,pl,hz⟩:=I.tuple hq;obtain⟨j,h1,h2,h3,h4,h5⟩:=yL he;obtain⟨w,ew,d5⟩:=r.get h2;have hl:=r.length;have hn:=oa;have fin:EP X pins σ Q w s:=⟨z,H,I,d5,q⟩;exact subscriptTail_builtinR (x:=w) pl.typeIs slot_tuple_getitem.lookup
  (getItem_tuple (j:=j) (Q:=fun r s'=>r=w/\EP X pins σ Q r s') pl (by omega) (by omega) (by rw[zah,<-hl];exact h1) (by simpa using ew) ⟨rfl,fin⟩) hs
theorem OX:jM X Em:=by
 intro value slice pins s σ H x y v u Q I rx ry h hs;obtain⟨z,i,c,rfl,rfl,hz,he,q⟩:=h;obtain⟨t,rfl⟩:=rx;obtain⟨t',rfl⟩:=ry;obtain⟨j,h1,h2,h3,h4,h5⟩:=yL he;have hl:z.cps.toList.length=z.length:=by simp[Str.length]
 rw[hl] at h1 h4 h5;have hn:=oa;exact tail_any (typeIs_str s z t) slot_str_getitem.lookup (getItem_str (c:=c) (by
  have e1:decide (i< -(2 ^ 63:Int))=false:=zqF (by omega)
  have e2:decide (i≥2 ^ 63)=false:=zqF (by omega)
  rw[e1,e2,zbp]) (by rw[h1];simpa using h2) ⟨.str ⟨#[c]⟩,H,I.tok _,⟨_,rfl⟩,q⟩) hs
theorem OY(aq:List Value)(n j:Nat)(u:Value):Obj.mapSeq (·.setIfInBounds j u) {cls:=.type "list",data:=.seq aq.toArray n}={cls:=.type "list",data:=.seq (aq.set j u).toArray n}:=by
 simp[Obj.mapSeq]
theorem Inv.lst{pins:List (Addr×Obj)}{σ:St}{H:Hp}{s:Shared}{p:Addr}{xs:List V}(I:Inv X pins σ H s)(h:H p=some (.lst xs)):
  ∃(aq:List Value) (n:Nat),Vals xs aq/\s.heap.get? p=some {cls:=.type "list",data:=.seq aq.toArray n}/\xs.length<=sizeLine:=by
 obtain⟨z,aq,n,r,e⟩:=I.az p _ h;exact⟨aq,n,r,e,z⟩
theorem Inv.OZ{pins:List (Addr×Obj)}{σ:St}{H:Hp}{s:Shared}{p:Addr}{xs ys:List V}{aq its':List Value}{n n':Nat}{f:Obj->Obj}(I:Inv X pins σ H s)(h:H p=some (.lst xs))
  (ho:s.heap.get? p=some {cls:=.type "list",data:=.seq aq.toArray n}) (hf:f {cls:=.type "list",data:=.seq aq.toArray n}={cls:=.type "list",data:=.seq its'.toArray n'}) (r:Vals ys its') (hz:ys.length<=sizeLine) (t:Nat):
  Inv X pins σ (upd H p<|.lst ys) {s with heap:=s.heap.update p f,toks:=t}:=by
 have e:(s.heap.update p f).get? p=some {cls:=.type "list",data:=.seq its'.toArray n'}:=by
  rw[Heap.get?_update_self f ho (by rw[hf] <;>rfl),hf]
 refine I.write (x:=p) (e:=p) (by rw[h];trivial) (.inl rfl) (fun b u hb q=>(Heap.get?_update_other _ _<|Ne.symm hb).trans q) ⟨_,e⟩ ?_
 exact⟨hz,its',n',r,e⟩
def yM:V->V->V->Hp->(Hp->Prop)->Prop:=fun o i v H Q=>∃p xs k j,o=.ref p/\i=.int k/\H p=some (.lst xs)/\jL xs.length k=some j/\Q (upd H p<|.lst<|xs.set j v)
theorem set_list:DF X yM:=by
 intro pins s σ H o i v ov iv u Q I ro ri rv h;obtain⟨p,xs,k,j,rfl,rfl,hp,hj,q⟩:=h;cases ro;obtain⟨t,rfl⟩:=ri;obtain⟨aq,n,r,ho,hz⟩:=I.lst hp;obtain⟨h1,h2,h3,h4⟩:=Ei hj;have hl:=r.length;have hn:=oa;have I':Inv X pins σ (upd H p<|.lst<|xs.set j v) {s with heap:=s.heap.update p (Obj.mapSeq (·.setIfInBounds j u))}:=
  I.OZ hp ho (OY aq n j u) (r.set rv j) (by rw[List.length_set];exact hz) s.toks
 by_cases h0:0<=k
 ·have hk:k.toNat=j:=by
   rw[seqIndex_of h0 h4] at h1;exact zak h1
  exact PySem.W.ki_setAt ho h0 (by omega) (by rw[zah,<-hl];exact h4) (by rw[hk];exact⟨_,I',q⟩)
 ·have hk:(k+(aq.toArray.size:Int)).toNat=j:=by
   rw[seqIndex_neg (by omega) h3] at h1
   rw[zah,<-hl];exact zak h1
  exact PySem.W.ki_setBack ho (by omega) (by rw[zah,<-hl];exact h3) (by omega) (by rw[hk];exact⟨_,I',q⟩)
theorem yN(lo hi:Option Int)(n:Nat):(sliceBounds lo hi none n).1=((HT.aQ n 0 lo:Nat):Int)/\(sliceBounds lo hi none n).2.1=((HT.aQ n n hi:Nat):Int)/\(sliceBounds lo hi none n).2.2=1:=by
 refine⟨?_,?_,rfl⟩
 ·cases lo with
  |none=>simp[sliceBounds,HT.aQ]
  |some i=>
   simp only[sliceBounds,HT.aQ,Option.getD_none,show(1:Int) >0 by decide,if_true]
   by_cases h:i<0
   ·simp only[h,if_true] <;>omega
   ·simp only[h,if_false] <;>omega
 ·cases hi with
  |none=>simp[sliceBounds,HT.aQ]
  |some i=>
   simp only[sliceBounds,HT.aQ,Option.getD_none,show(1:Int) >0 by decide,if_true]
   by_cases h:i<0
   ·simp only[h,if_true] <;>omega
   ·simp only[h,if_false] <;>omega
theorem O0(aq:List Value)(lo hi:Option Int):slicePick aq.toArray lo hi none=((aq.drop<|HT.aQ aq.length 0 lo).take<|HT.aQ aq.length aq.length hi - HT.aQ aq.length 0 lo).toArray:=by
 obtain⟨h1,h2,h3⟩:=yN lo hi aq.toArray.size;unfold slicePick;rw[h1,h2,h3]
 simp only[sliceRange_one,pick_run,zah] <;>rfl
def O3(K:Frag):V->Option Int->Option Int->Hp->VK->Prop:=fun x lo hi H Q=>∃a xs,x=.ref a/\ay K H a xs/\∀p,H p=none->Q (.ref p) (upd H p<|.lst<|cc xs lo hi)
theorem O4:vo X (O3 X.K):=by
 intro pins s σ H x v vl vu lo hi sl Q I rx hs pl pu h;obtain⟨a,xs,rfl,hx,q⟩:=h;cases rx;obtain⟨aq,r,ht,hz⟩:=I.list hx;have hlen:=r.length;refine⟨"list",_,slot_list_getitem.lookup,ht.isList.typeIs,?_⟩;refine wpAny_getItem_list_slice ht.isList hs pl pu .none (by simp) ?_ (by rw[zah] <;>omega)
 rw[O0,<-hlen];refine⟨.ref s.heap.objs.size,_,I.laid (t':=s.toks) (o:=.lst (cc xs lo hi)) (fun b ob q=>Heap.get?_push_of_some _ q) (zqR _) ?_,rfl,q _<|I.az.fresh<|zqR _⟩;exact⟨zar (Eg xs lo hi) hz,_,0,(r.drop<|HT.aQ xs.length 0 lo).take<|HT.aQ xs.length xs.length hi - HT.aQ xs.length 0 lo,Heap.get?_push_size _ rfl⟩
def gN:V->Bool
 |.aD=>true
 |.bl _=>true
 |.int _=>true
 |.str _=>true
 |_=>false
def gh:V->V->Bool
 |.aD,.aD=>true
 |.bl a,.bl b=>a==b
 |.bl a,.int b=>(if a then 1 else 0)==b
 |.int a,.bl b=>a==(if b then 1 else 0)
 |.int a,.int b=>a==b
 |.str a,.str b=>a==b
 |_,_=>false
theorem O5{A:Around}{s:Shared}{y x:V}{u v:Value}(ry:RelV y u)(rx:RelV x v)(fy:gN y=true)(fx:gN x=true):SeqAt.EqAt A s u v (gh y x):=by
 cases y with
 |aD=>
  cases ry;cases x with
  |aD=>cases rx;exact SeqAt.EqAt.same _
  |bl b=>cases rx;exact SeqAt.EqAt.none_bool b
  |int b=>obtain⟨t,rfl⟩:=rx;exact SeqAt.EqAt.none_int b t
  |str b=>obtain⟨t,rfl⟩:=rx;exact SeqAt.EqAt.none_str b t
  |_=>exact absurd (show false=true from fx) zan
 |bl a=>
  cases ry;cases x with
  |aD=>cases rx;exact SeqAt.EqAt.bool_none a
  |bl b=>cases rx;exact SeqAt.EqAt.bool_bool a b
  |int b=>obtain⟨t,rfl⟩:=rx;exact SeqAt.EqAt.bool_int a b t
  |str b=>obtain⟨t,rfl⟩:=rx;exact SeqAt.EqAt.bool_str a b t
  |_=>exact absurd (show false=true from fx) zan
 |int a=>
  obtain⟨t',rfl⟩:=ry;cases x with
  |aD=>cases rx;exact SeqAt.EqAt.int_none a t'
  |bl b=>cases rx;exact SeqAt.EqAt.int_bool a t' b
  |int b=>obtain⟨t,rfl⟩:=rx;exact SeqAt.EqAt.int_int a t' b t
  |str b=>obtain⟨t,rfl⟩:=rx;exact SeqAt.EqAt.int_str a t' b t
  |_=>exact absurd (show false=true from fx) zan
 |str a=>
  obtain⟨t',rfl⟩:=ry;cases x with
  |aD=>cases rx;exact SeqAt.EqAt.str_none a t'
  |bl b=>cases rx;exact SeqAt.EqAt.str_bool a t' b
  |int b=>obtain⟨t,rfl⟩:=rx;exact SeqAt.EqAt.str_int a t' b t
  |str b=>obtain⟨t,rfl⟩:=rx;exact SeqAt.EqAt.str_str a t' b t
  |_=>exact absurd (show false=true from fx) zan
 |_=>exact absurd (show false=true from fy) zan
def eE(x:V)(u:Value):Bool:=match u with
 |.none=>gh .aD x
 |.bool b=>gh (.bl b) x
 |.int i _=>gh (.int i) x
 |.str z _=>gh (.str z) x
 |_=>false
theorem yO{x y:V}{u:Value}(r:RelV y u)(f:gN y=true):eE x u=gh y x:=by
 cases y with
 |aD=>cases r;rfl
 |bl b=>cases r;rfl
 |int i=>obtain⟨t,rfl⟩:=r;rfl
 |str z=>obtain⟨t,rfl⟩:=r;rfl
 |_=>exact absurd (show false=true from f) zan
theorem r9{x:V}:∀{xs:List V}{us:List Value},Vals xs us->xs.all gN=true->us.any (eE x)=xs.any fun y=>gh y x
 |_,_,.nil,_=>rfl
 |y::xs,u::us,.cons r t,f=>by
  rw[zbe,zad] at f;rw[zbq,zbq,yO r f.1,r9 t f.2]
theorem qr{A:Around}{s:Shared}{x:V}{v:Value}(rx:RelV x v)(fx:gN x=true):∀{xs:List V}{us:List Value},Vals xs us->xs.all gN=true->∀u∈us,SeqAt.EqAt A s u v (eE x u)
 |_,_,.nil,_=>fun u hu=>by cases hu
 |y::xs,u::us,.cons r t,f=>fun u' hu=>by
  rw[zbe,zad] at f;rcases zab.mp hu with rfl|hu
  ·rw[yO r f.1];exact O5 r rx f.1 fx
  ·exact qr rx fx t f.2 u' hu
def fz(x:V)(xs:List V):Bool:=xs.any fun y=>gh y x
def yP(K:Frag)(neg:Bool):R2:=fun x y H Q=>∃p xs,y=.ref p/\(ay K H p xs\/aO K H p xs)/\gN x=true/\xs.all gN=true/\Q (.bl (if neg then !fz x xs else fz x xs)) H
theorem O6:aX X (compareOp .In) (yP X.K false):=by
 intro pins s σ H x y v u Q I rx ry h;obtain⟨p,xs,rfl,hq,fx,fs,q⟩:=h;cases ry;rcases hq with hq|hq
 ·obtain⟨aq,r,pl,hz⟩:=I.list hq;refine SeqAt.in_listAt (eE x) pl.isList (fun w hw=>qr rx fx r fs w (by simpa using hw)) ⟨.bl _,H,I,rfl,?_⟩
  rw[show aq.toArray.any (eE x)=aq.any (eE x) by simp,r9 r fs]
  exact q
 ·obtain⟨aq,r,pl,hz⟩:=I.tuple hq;refine SeqAt.in_tupleAt (eE x) pl (fun w hw=>qr rx fx r fs w (by simpa using hw)) ⟨.bl _,H,I,rfl,?_⟩
  rw[show aq.toArray.any (eE x)=aq.any (eE x) by simp,r9 r fs]
  exact q
theorem O7:aX X (compareOp .NotIn) (yP X.K true):=by
 intro pins s σ H x y v u Q I rx ry h;obtain⟨p,xs,rfl,hq,fx,fs,q⟩:=h;cases ry;rcases hq with hq|hq
 ·obtain⟨aq,r,pl,hz⟩:=I.list hq;refine SeqAt.notIn_listAt (eE x) pl.isList (fun w hw=>qr rx fx r fs w (by simpa using hw)) ⟨.bl _,H,I,rfl,?_⟩
  rw[show aq.toArray.any (eE x)=aq.any (eE x) by simp,r9 r fs]
  exact q
 ·obtain⟨aq,r,pl,hz⟩:=I.tuple hq;refine SeqAt.notIn_tupleAt (eE x) pl (fun w hw=>qr rx fx r fs w (by simpa using hw)) ⟨.bl _,H,I,rfl,?_⟩
  rw[show aq.toArray.any (eE x)=aq.any (eE x) by simp,r9 r fs]
  exact q
theorem cv.or{f:Value}{r r':List V->Hp->VK->Prop}(h:cv X f r)(h':cv X f r'):cv X f (fun xs H Q=>r xs H Q\/r' xs H Q):=by
 intro pins s σ H xs us Q I rs q;rcases q with q|q
 ·exact h pins s σ H xs us Q I rs q
 ·exact h' pins s σ H xs us Q I rs q
theorem O8:cv X (.type "list") (fun xs H Q=>∃p ys,xs=[.ref p]/\(ay X.K H p ys\/aO X.K H p ys)/\∀l,H l=none->Q (.ref l) (upd H l<|.lst ys)):=by
 intro pins s σ H xs us Q I r h;obtain⟨p,ys,rfl,hq,q⟩:=h;obtain⟨u,rfl,rx⟩:=vals1 r;cases rx;have fin:∀(aq:List Value),Vals ys aq->ys.length<=sizeLine->∀(h':Heap) (c':Nat),(∀b o',s.heap.get? b=some o'->h'.get? b=some o')->
   h'.get? s.heap.objs.size=some {cls:=.type "list",dict:=none,data:=.seq aq.toArray c',slots:= #[]}->EP X pins σ Q (.ref s.heap.objs.size) {s with heap:=h'}:=fun aq r' hz h' c' kp e=>
  ⟨.ref s.heap.objs.size,_,I.laid (t':=s.toks) kp (zqR _) (show bT X.prog X.w _ h' _ (.lst ys) from⟨hz,aq,c',r',e⟩),rfl,q _<|I.az.fresh<|zqR _⟩
 rcases hq with hq|hq
 ·obtain⟨aq,r',pl,hz⟩:=I.list hq;have hlen:=r'.length;obtain⟨o,ho,hc,n,hd⟩:=pl.isList;exact call_list_seq p (.inl rfl) ho hc hd (fun h' c' kp e=>fin aq r' hz h' c' kp e) (by simp only[zah] <;>omega)
 ·obtain⟨aq,r',pl,hz⟩:=I.tuple hq;have hlen:=r'.length;obtain⟨o,ho,hc,n,hd⟩:=pl;exact call_list_seq p (.inr rfl) ho hc hd (fun h' c' kp e=>fin aq r' hz h' c' kp e) (by simp only[zah] <;>omega)
def r_(K:Frag)(T:String)(x:V)(H:Hp):Prop:=match x with
 |.str _=>T="str"
 |.int _=>T="int"
 |.ref p=>(T="list"/\∃xs,ay K H p xs)\/(T="tuple"/\∃o,K.lookup p=some o/\o.cls=.type "tuple"/\o.dict=none)\/
   (T="dict"/\((∃kvs,H p=some (.dK kvs))\/∃kvs,H p=some (.dT kvs)))\/(T="set"/\∃S n,H p=some (.set S n))
 |_=>False
theorem En{pins:List (Addr×Obj)}{σ:St}{H:Hp}{s:Shared}{T:String}{x:V}{v:Value}(I:Inv X pins σ H s)(r:RelV x v)(ty:r_ X.K T x H):
  s.TypeIs v T/\∀a,v=.ref a->∃ob,s.heap.get? a=some ob/\ob.dict=none:=by
 cases x with
 |str z=>
  obtain⟨t,rfl⟩:=r;cases (show T="str" from ty)
  exact⟨typeIs_str s z t,fun _ e=>nomatch e⟩
 |int i=>
  obtain⟨t,rfl⟩:=r;cases (show T="int" from ty)
  exact⟨typeIs_int s i t,fun _ e=>nomatch e⟩
 |ref p=>
  cases r;rcases ty with⟨rfl,xs,hq⟩|⟨rfl,o,hk,hc,hd⟩|⟨rfl,hk⟩|⟨rfl,S,n,hk⟩
  ·obtain⟨aq,_,pl,_⟩:=I.list hq;refine⟨pl.isList.typeIs,fun a e=>?_⟩;cases e;obtain⟨o,n,e,c,hd,_⟩:=pl;exact⟨o,e,hd⟩
  ·refine⟨⟨o,I.cB p o hk,hc⟩,fun a e=>?_⟩;cases e;exact⟨o,I.cB _ o hk,hd⟩
  ·have z:∃o,s.heap.get? p=some o/\o.ExactDict:=by
    rcases hk with⟨kvs,hk⟩|⟨kvs,hk⟩
    ·obtain⟨_,_,_,_,o,_,_,e,ex,_⟩:=I.az p _ hk;exact⟨o,e,ex⟩
    ·obtain⟨_,_,_,_,o,_,_,e,ex,_⟩:=I.az p _ hk;exact⟨o,e,ex⟩
   obtain⟨o,e,ex⟩:=z;refine⟨⟨o,e,ex.1⟩,fun a e2=>?_⟩;cases e2;exact⟨o,e,ex.2.1⟩
  ·obtain⟨o,_,_,_,e,ex,_⟩:=I.az p _ hk;refine⟨⟨o,e,ex.1⟩,fun a e2=>?_⟩;cases e2;exact⟨o,e,ex.2.1⟩
 |_=>exact False.elim ty
def O9(K:Frag)(T:String)(r:V->List V->Hp->VK->Prop)(to:TE):TE:=fun σ H Q=>to σ H fun x H1=>r_ K T x H1/\r x [] H1 Q
def O_(K:Frag)(T:String)(r:V->List V->Hp->VK->Prop)(to:TE)(t:TA):TE:=fun σ H Q=>to σ H fun x H1=>r_ K T x H1/\t σ H1 fun xs H2=>r x xs H2 Q
variable {o e:Expr}{es:List Expr}{to:TE}{t:TA}{name:Str}{apos dw:Pos}{T id:String}{r:V->List V->Hp->VK->Prop}
theorem Pa(pa:PlainAttrs T)(slot:Slot T name id)(yQ:typeOf (.builtin id)=pure (.type "method_descriptor"))(hm:qq X id r)(ho:PE X o to)
  (yR:attributeBase o name X.env (eval o X.env)=eval o X.env:=by rfl) (yS:(apos.endLine==dw.line)=true:=by rfl):PE X (.Call (.Attribute o name apos) [] [] dw) (O9 X.K T r to):=by
 intro pins s σ H Q I h;refine wpAny_Call_method0_late yR yS<|aF (ho pins s σ H _ I h) fun v s1 ⟨x,H1,I1,r1,ty,q1⟩=>?_;obtain⟨h1,h2⟩:=En I1 r1 ty;exact⟨T,id,pa,slot,yQ,h1,h2,Calls.callWith_builtin rfl<|PySem.evalArgs_none<|hm pins s1 σ H1 x [] v [] Q I1 r1 .nil q1⟩
theorem Pb(pa:PlainAttrs T)(slot:Slot T name id)(yQ:typeOf (.builtin id)=pure (.type "method_descriptor"))(hm:qq X id r)(ho:PE X o to)(ha:PA X (e::es) t)
  (yR:attributeBase o name X.env (eval o X.env)=eval o X.env:=by rfl)
  (Pc:((backTo dw (starEach (e::es) X.env)).all (fun x=> !x.1) && (backToKw dw (keywordEach [] X.env)).all (fun x=>x.1.isSome)
   && decide ((e::es).length+([]:List Keyword).length+(if ([]:List Keyword).isEmpty then 0 else 1) <30))=true:=by rfl)
  (yS:(apos.endLine==dw.line)=true:=by rfl) (hs:starEach (e::es) X.env=(false,eval e X.env)::starEach es X.env:=by rfl) (Pd:(backTo dw<|starEach es X.env).any (·.1)=false:=by rfl):
  PE X (.Call (.Attribute o name apos) (e::es) [] dw) (O_ X.K T r to t):=by
 intro pins s σ H Q I h;refine wpAny_Call_method_late yR Pc yS rfl<|aF (ho pins s σ H _ I h) fun v s1 ⟨x,H1,I1,r1,ty,q1⟩=>?_;obtain⟨h1,h2⟩:=En I1 r1 ty;refine⟨T,id,pa,slot,yQ,h1,h2,?_⟩;have hA:=ha dw pins s1 σ H1 _ I1 q1;rw[hs] at hA⊢;refine Calls.callWith_builtin (by show(false ||(backTo dw<|starEach es X.env).any (·.1))=false;rw[Pd] <;>rfl)<|Calls.evalArgs_plain ?_
 exact aF hA fun us s2 ⟨vs,H2,I2,r2,q2⟩=>hm pins s2 σ H2 x vs v us Q I2 r1 r2 q2
end
def vp(X:Cx)(id:String)(r:V->List V->Hp->VK->Prop):Prop:=
 ∀(pins:List (Addr×Obj)) (s:Shared) (σ:St) (H:Hp) (x:V) (xs:List V) (v:Value) (us:List Value) (Q:VK),Inv X pins σ H s->RelV x v->Vals xs us->r x xs H Q->
  wpAny (model X.prog X.w) X.A (call (.builtin id) (v::us)) (EP X pins σ Q) X.xe s
theorem Vals.one:∀{x:V}{us:List Value},Vals [x] us->∃u,us=[u]/\RelV x u
 |_,_,.cons r .nil=>⟨_,rfl,r⟩
theorem Vals.zero:∀{us:List Value},Vals [] us->us=[]
 |_,.nil=>rfl
theorem Vals.dropLast{xs:List V}{us:List Value}(h:Vals xs us):Vals xs.dropLast us.dropLast:=by
 induction h with
 |nil=>exact .nil
 |cons r t ih=>
  cases t with
  |nil=>exact .nil
  |cons q t'=>exact .cons r ih
theorem Vals.rep{xs:List V}{us:List Value}(h:Vals xs us):∀k:Nat,Vals (List.replicate k xs).flatten (List.replicate k us).flatten
 | 0=>.nil
 |k+1=>by
  rw[zbr,zbr,zbC,zbC];exact Vals.append h<|Vals.rep h k
theorem Pe{α:Type}(l:List α):l.eraseIdx (l.length - 1)=l.dropLast:=by
 induction l with
 |nil=>rfl
 |cons a r ih=>
  cases r with
  |nil=>rfl
  |cons b r=>
   have e:(a::b::r).length - 1=((b::r).length - 1)+1:=by
    have h1:(a::b::r).length=r.length+2:=rfl;have h2:(b::r).length=r.length+1:=rfl;omega
   rw[e,List.eraseIdx_cons_succ,ih]
   all_goals rfl
theorem foldl_rep(aq:List Value):∀(k:Nat) (acc:List Value),
  List.foldl (fun x1 x2=>x1++x2) acc.toArray (List.replicate k aq.toArray)=(acc++(List.replicate k aq).flatten).toArray
 | 0,acc=>by simp
 |k+1,acc=>by
  have e:acc.toArray++aq.toArray=(acc++aq).toArray:=by simp
  have e2:(acc++aq)++(List.replicate k aq).flatten=acc++(List.replicate (k+1) aq).flatten:=by
   rw[zbr,zbC,zbf]
  rw[<-e2,<-foldl_rep aq k (acc++aq),<-e,zbr,List.foldl_cons]
section
variable {X:Cx}{pins:List (Addr×Obj)}{σ:St}{H:Hp}{s:Shared}{l b:Addr}{xs ys zs:List V}
theorem Inv.vq{aq its':List Value}{n:Nat}{f:Array Value->Array Value}{t':Nat}(I:Inv X pins σ H s)(hH:H l=some (.lst xs))
  (e:s.heap.get? l=some {cls:=.type "list",data:=.seq aq.toArray n}) (hf:f aq.toArray=its'.toArray) (hv:Vals ys its') (hz:ys.length<=sizeLine):
  Inv X pins σ (upd H l<|.lst ys) {s with heap:=s.heap.update l (Obj.mapSeq f),toks:=t'}:=by
 have q:=PySem.IsL.update e f;rw[hf] at q;refine I.write (x:=l) (e:=l) (by rw[hH];exact trivial) (.inl rfl) (fun b' u hb hu=>(Heap.get?_update_other s.heap (Obj.mapSeq f)<|Ne.symm hb).trans hu) ⟨_,q⟩ ?_
 exact⟨hz,its',_,hv,q⟩
theorem Inv.Eo{aq:List Value}{t':Nat}(I:Inv X pins σ H s)(hv:Vals ys aq)(hz:ys.length<=sizeLine):
  Inv X pins σ (upd H s.heap.objs.size<|.lst ys) {s with heap:=s.heap.push {cls:=.type "list",data:=.seq aq.toArray},toks:=t'}:=
 I.laid (fun _ _ q=>Heap.get?_push_of_some _ q) (zqR _) ⟨hz,aq,0,hv,Heap.get?_push_size _ rfl⟩
theorem Inv.fresh(I:Inv X pins σ H s):H s.heap.objs.size=none:=I.az.fresh (zqR _)
theorem Inv.mr(I:Inv X pins σ H s)(hH:H l=some (.lst xs)):xs.length<=sizeLine/\∃(aq:List Value) (n:Nat),Vals xs aq/\xs.length=aq.length/\s.heap.get? l=some {cls:=.type "list",data:=.seq aq.toArray n}:=by
 obtain⟨z,aq,n,r,e⟩:=I.az l _ hH;exact⟨z,aq,n,r,r.length,e⟩
theorem Ep{n:Nat}(h:n<=sizeLine):Builtin.List.listTooLong n=false:=by
 unfold Builtin.List.listTooLong;exact zqF (by omega)
end
section
variable {X:Cx}
def Pf:V->List V->Hp->VK->Prop:=fun x vs H Q=>∃l xs y,x=.ref l/\vs=[y]/\H l=some (.lst xs)/\xs.length<sizeLine/\Q .aD (upd H l<|.lst<|xs++[y])
theorem Pg:vp X "list.append" Pf:=by
 intro pins s σ H x vs v us Q I rx rv h;obtain⟨l,xs,y,rfl,rfl,hH,hz,q⟩:=h;cases rx;obtain⟨u,rfl,ru⟩:=rv.one;obtain⟨z,aq,n,r,hl,e⟩:=I.mr hH;refine call_meets F.slot_list_append ⟨_,e,rfl⟩ F.entry_list_append (F.args_list_append_2 _ _) (PySem.list_append l aq.toArray n u (by rw[zah];omega)) ⟨e,?_⟩
 refine⟨.aD,_,I.vq (its':=aq++[u]) hH e (by simp) (r.append<|.cons ru .nil) ?_,rfl,q⟩
 rw[zqA,zbs];omega
def Ph:V->List V->Hp->VK->Prop:=fun x vs H Q=>∃l b xs zs,x=.ref l/\vs=[.ref b]/\H l=some (.lst xs)/\H b=some (.lst zs)/\xs.length+zs.length<=sizeLine/\Q .aD (upd H l<|.lst<|xs++zs)
theorem Pj:vp X "list.extend" Ph:=by
 intro pins s σ H x vs v us Q I rx rv h;obtain⟨l,b,xs,zs,rfl,rfl,hH,hB,hz,q⟩:=h;cases rx;obtain⟨u,rfl,ru⟩:=rv.one;cases ru;obtain⟨z,aq,n,r,hl,e⟩:=I.mr hH;obtain⟨z2,mq,n2,r2,kR,e2⟩:=I.mr hB;have hsz:aq.toArray.size+mq.toArray.size<=sizeLine:=by rw[zah,zah];omega
 have yT:¬(!aq.toArray.isEmpty && Builtin.List.listTooLong (aq.toArray.size+mq.toArray.size))=true:=by
  rw[Ep hsz,zbt];exact zan
 refine call_meets F.slot_list_extend ⟨_,e,rfl⟩ F.entry_list_extend (F.args_list_extend_2 _ _)
  (AutoSeq1.list_extend_list_list_0 l aq.toArray n b mq.toArray n2 yT (by rw[zah];omega) (by omega)) ⟨e,e2,?_⟩
 refine⟨.aD,_,I.vq (its':=aq++mq) hH e (by simp) (r.append r2) ?_,rfl,q⟩
 rw[zqA];omega
def Pk:V->List V->Hp->VK->Prop:=fun x vs H Q=>∃l xs y,x=.ref l/\vs=[]/\H l=some (.lst xs)/\xs[xs.length - 1]?=some y/\Q y (upd H l<|.lst xs.dropLast)
theorem Pl:vp X "list.pop" Pk:=by
 intro pins s σ H x vs v us Q I rx rv h;obtain⟨l,xs,y,rfl,rfl,hH,hy,q⟩:=h;cases rx;have yU:=rv.zero;subst yU;obtain⟨z,aq,n,r,hl,e⟩:=I.mr hH;obtain⟨u,hu,ru⟩:=r.get hy;have Pm:aq.toArray[aq.toArray.size - 1]?=some u:=by
  show aq.toArray[aq.length - 1]?=some u;rw[<-Array.getElem?_toList,<-hl];exact hu
 refine call_meets F.slot_list_pop ⟨_,e,rfl⟩ F.entry_list_pop (F.args_list_pop_1 _) (MeetsSeq.list_pop_last l aq.toArray n u Pm (by rw[zah];omega)) ⟨e,?_⟩
 refine⟨y,_,I.vq (its':=aq.dropLast) hH e ?_ r.dropLast ?_,ru,q⟩
 ·show aq.toArray.eraseIdxIfInBounds (aq.toArray.size - 1)=aq.dropLast.toArray;rw[zah,List.eraseIdxIfInBounds_toArray,Pe]
 ·rw[List.length_dropLast];omega
def Pn:V->List V->Hp->VK->Prop:=fun x vs H Q=>∃l xs,x=.ref l/\vs=[]/\H l=some (.lst xs)/\Q .aD (upd H l<|.lst [])
theorem Po:vp X "list.clear" Pn:=by
 intro pins s σ H x vs v us Q I rx rv h;obtain⟨l,xs,rfl,rfl,hH,q⟩:=h;cases rx;have yU:=rv.zero;subst yU;obtain⟨z,aq,n,r,hl,e⟩:=I.mr hH;refine call_meets F.slot_list_clear ⟨_,e,rfl⟩ F.entry_list_clear (F.args_list_clear_1 _) (AutoSeq1.list_clear_list_0 l aq.toArray n (by rw[zah];omega)) ⟨e,?_⟩
 exact⟨.aD,_,I.vq (its':=[]) (ys:=[]) hH e rfl .nil<|zqZ _,rfl,q⟩
def Er:R2:=fun x y H Q=>∃l b xs zs,x=.ref l/\y=.ref b/\H l=some (.lst xs)/\H b=some (.lst zs)/\xs.length+zs.length<=sizeLine/\∀p,H p=none->Q (.ref p) (upd H p<|.lst<|xs++zs)
theorem Pp:aX X (binaryOp .Add) Er:=by
 intro pins s σ H x y v u Q I rx ry h;obtain⟨l,b,xs,zs,rfl,rfl,hH,hB,hz,q⟩:=h;cases rx;cases ry;obtain⟨z,aq,n,r,hl,e⟩:=I.mr hH;obtain⟨z2,mq,n2,r2,kR,e2⟩:=I.mr hB;refine PySem.P.add_list e e2 ?_ (by rw[zah,zah];omega)
 have ea:aq.toArray++mq.toArray=(aq++mq).toArray:=by simp
 rw[ea];exact⟨.ref _,_,I.Eo (t':=s.toks) (r.append r2) (by rw[zqA];omega),rfl,q _ I.fresh⟩
def Es:R2:=fun x y H Q=>∃l k xs,x=.ref l/\y=.int k/\H l=some (.lst xs)/\ -(2 ^ 63)<=k/\k<2 ^ 63/\xs.length*k.toNat<=sizeLine/\
 ∀p,H p=none->Q (.ref p) (upd H p<|.lst (List.replicate k.toNat xs).flatten)
theorem len_rep{α:Type}(xs:List α)(k:Nat):(List.replicate k xs).flatten.length=k*xs.length:=by
 induction k with
 |zero=>simp
 |succ k ih=>rw[zbr,zbC,zqA,ih,Nat.succ_mul,Nat.add_comm]
theorem Pq:aX X (binaryOp .Mult) Es:=by
 intro pins s σ H x y v u Q I rx ry h;obtain⟨l,k,xs,rfl,rfl,hH,h1,h2,hz,q⟩:=h;cases rx;obtain⟨t,rfl⟩:=ry;obtain⟨z,aq,n,r,hl,e⟩:=I.mr hH;have hlen:aq.toArray.size*k.toNat<=sizeLine:=by rw[zah,<-hl];exact hz
 have Pr:¬aq.toArray.size*k.toNat>(2 ^ 63 - 1) / 8:=by
  have:(sizeLine:Nat)<= (2 ^ 63 - 1) / 8:=by decide
  omega
 have Pu:¬(!Builtin.List.listFitsIndex k)=true:=by
  rw[fitsIndex_both h1 h2];exact zan
 have yT:¬Builtin.List.listTooLong (aq.toArray.size*k.toNat)=true:=by
  rw[Ep hlen];exact zan
 have Pw:List.foldl (fun x1 x2=>x1++x2) #[] (List.replicate (if aq.toArray.isEmpty=true then 0 else k.toNat) aq.toArray)=(List.replicate k.toNat aq).flatten.toArray:=by
  have f0:∀m:Nat,List.foldl (fun x1 x2=>x1++x2) #[] (List.replicate m aq.toArray)=(List.replicate m aq).flatten.toArray:=fun m=>by
   have:=foldl_rep aq m [];rw[List.nil_append] at this;exact this
  rw[f0];cases aq with
  |nil=>simp
  |cons a r'=>rw[if_neg (by simp)]
 refine wpAny_binaryOp_repeat_ref (T:="list") (U:="int") (by decide) ⟨_,e,rfl⟩ (fun s'=>typeIs_int s' k t) noFill_list_mul F.fills_int_mul F.slot_int_rmul repeat_list F.slot_int_index.lookup
  (call_meets F.slot_int_rmul (typeIs_int s k t) F.entry_int_rmul (F.args_int_rmul_2 _ _) (int___rmul___int_list k t l aq.toArray n)
   ⟨e,rfl,⟨_,e,rfl⟩,call_meets F.slot_list_mul ⟨_,e,rfl⟩ F.entry_list_mul (F.args_list_mul_2 _ _) (AutoListH.list___mul___list_int_3 l aq.toArray n k t Pu Pr yT) ⟨e,?_⟩⟩)
 rw[Pw];exact⟨.ref _,_,I.Eo (t':=s.toks) (r.rep k.toNat) (by rw[len_rep,Nat.mul_comm];exact hz),rfl,q _ I.fresh⟩
end
end L2
namespace Et
open PySem PySem.W PySem.Calls PyProof.Rows
theorem Px{P:Params}{h:Heap}:∀(ns:List Int) (vs:List Value),WellAll P h vs (ns.map WData.int)->IntsAre vs ns:=by
 intro ns
 induction ns with
 |nil=>
  intro vs w;rw[zaM] at w;cases w;exact .nil
 |cons n ns ih=>
  intro vs w;rw[zal] at w;cases w with
  |cons a b=>
   cases a;exact .cons _ _<|ih _ b
theorem Py{l:OpenLaw}{n:Nat}(hn:l.most=some n){P:Params}{h:Heap}{args:List WData}{vals:List Value}
  (kT:l.row.toRowW.claim.pre args=true) (yV:WellAll P h vals args):
  ∃a vs ns,vals=[Value.ref a]/\args=[WData.list<|ns.map WData.int]/\h.get? a=some {cls:=.type "list",data:=.seq vs.toArray}/\IntsAre vs ns/\ns.length<=n:=by
 have Pz:WShape.hasAll [] args [.list .int]=true:=(pre_splitW kT).1;have hc:l.pre.holds [] {args:=args}=true:=(pre_splitW kT).2;obtain⟨d,r,rfl,h1,h2⟩:=hasAllW_cons Pz;obtain rfl:=hasAllW_nil h2;obtain⟨xs,rfl,h3⟩:=hasW_list h1;obtain⟨ns,rfl⟩:=items_int h3;have hlen:ns.length<=n:=by
  unfold OpenLaw.pre at hc;have h4:(WTm.not<|.lt (.lit<|.int (n:Int))<|.len<|.arg 0).holds [] {args:=[.list<|ns.map .int]}=true:=by
   have h4:=(holds_andW hc).1;rw[hn] at h4;exact h4
  have h5:=condW_of h4 (w_not<|w_lt w_lit<|w_len_list<|w_arg rfl);rw[zaa] at h5;refine zbD fun q=>?_;have q':(n:Int) < ((ns.length:Nat):Int):=by omega
  first
   | (rw[zqT q'] at h5;exact absurd h5 (by decide))
   | (simp at h5;omega)
 cases yV with
 |cons w1 w2=>
  cases w2;cases w1 with
  |list ho oo=>exact⟨_,_,ns,rfl,rfl,ho,Px ns _ oo,hlen⟩
theorem PB(l:OpenLaw)(args:List WData):l.row.toRowW.claim.post args (.bool true) args=true:=
 postW_of (r:=l.row.toRowW) (X:=(true==true))
  (show WShape.has [] (.bool true) .bool=true by first|rfl|decide|simp[WShape.has,WShape.arms,WShape.armsAll])
  (show(WTm.eq .res<|.lit<|.bool true).value [] {args:=args,res:=some (.bool true),after:=args}=some (.bool<|true==true) from w_eq_bool (w_res rfl) w_lit) rfl
theorem PD{l:OpenLaw}{n:Nat}{q:Program}{loose:List Str}{XP:(Str->Option Value)->Heap->Prop}{YP:World->Heap->Prop}{d:DefRec}
  (hn:l.most=some n) (se:d.params.defaults=[])
  (call:∀(w:World) (s₀ s₁:Shared) (mg mb:Str->Option Value) (fa:Addr) (o:Obj) (pm cd doc:Value) (a:Addr) (vs:List Value) (ns:List Int),
   Ground q loose [] XP w s₀ mg mb s₁.heap->YP w s₁.heap->
   s₁.heap.get? fa=some o->o.data=.func (docDef d.name d.params d.body d.scope pm cd doc)->s₁.heap.CodeRec cd d.name->mg d.name=some (.ref fa)->
   s₁.heap.get? a=some {cls:=.type "list",data:=.seq vs.toArray}->IntsAre vs ns->ns.length<=n->s₁.gens= #[]->
   codeAny (model l.prog w) callerA (.call (.ref fa) ⟨[.ref a],[]⟩) (fun r s'=>r=.ok (.ret (.bool true))/\OldK s₁.heap s'.heap/\s'.os=s₁.os/\AllBare s'.gens) s₁):
  WalkO q loose XP YP l.row.toRowW d [] (fun f vs=>PySem.call f vs):=by
 intro w s₀ s₁ mg mb G Y fa o pm cd doc dV kV ho hd gK hD kU hg args vals as kT ad5 hrd yV vt;obtain rfl:dV=.none:=Dflts.none hD se;obtain rfl:kV=.none:=Dflts.noKw hD;obtain⟨a,vs,ns,rfl,rfl,yW,hints,hlen⟩:=Py hn kT yV;refine enter_call<|codeAny_mono (call w s₀ s₁ mg mb fa o pm cd doc a vs ns G Y ho (fd_plain hd) gK kU yW hints hlen hg) fun r s' hq=>?_;obtain⟨rfl,h2,h3,h4⟩:=hq;exact⟨.inl ⟨.bool true,.bool true,[],rfl,fun _=>rfl,.bool true,PB l _,fun _=>⟨List.Pairwise.nil,fun _ hm=>(nomatch hm)⟩⟩,h2,h3,h4⟩
section
variable {prog:Program}{w:World}{A:Around}{E:Value->Shared->Prop}{s:Shared}{K:Frag}
end
end Et
namespace L2
open PySem PySem.Spec PyProof.Rows
theorem Eu:∀{vs:List Value}{ns:List Int},IntsAre vs ns->Vals (ns.map V.int) vs
 |_,_,.nil=>.nil
 |_,_,.cons n t h=>.cons ⟨t,rfl⟩ (Eu h)
def yX(H:Hp):Prop:= ∀b,H b=none\/∃o xs,H b=some (.a_ o<|.lst xs)
theorem PF{P:Program}{w:World}{K:Frag}{mg mb:Str->Option Value}{CX:bK}{k:Nat}{fa a:Addr}{fd:FuncData}{x:Str}{sp:Sp}{s₁:Shared}{vs:List Value}{ns:List Int}
  (KX:K.In s₁.heap) (oq:s₁.heap.Ns mainGlobals mg) (hb:s₁.heap.Ns builtinsNs mb) (PH:∀x:Str,x≠"__name__"->mb x=bootBuiltins x) (PJ:s₁.heap.NoLimit) (hg:s₁.gens= #[])
  (ha:s₁.heap.get? a=some {cls:=.type "list",data:=.seq vs.toArray}) (hi:IntsAre vs ns) (hl:ns.length<=sizeLine) (hr:df k callerA)
  (F:∀base:Heap,K.In base->base.Ns mainGlobals mg->cw P w K mg base CX k fa fd [x] sp) (PK:∀(s:Shared) (u:Value),BindsTo s fd ⟨[u],[]⟩ [(x,u)])
  (gZ:∀H:Hp,yX H->ay K H a (ns.map V.int)->sp [.ref a] H (fun v _=>v=.bl true) fun _ _ _=>False)
  (yY:∀H e s',CX [] H s₁ (fun _ _ _=>False) e s'->False):
  codeAny (model P w) callerA (.call (.ref fa) ⟨[.ref a],[]⟩) (fun r s'=>r=.ok (.ret<|.bool true)/\OldK s₁.heap s'.heap/\s'.os=s₁.os/\AllBare s'.gens) s₁:=by
 have rv:=Eu hi;have sf:=hi.length;have core:∀H:Hp,yX H->ay K H a (ns.map V.int)->bI P w H s₁.heap->(∀b,H b≠none->b=a)->(H a≠none->K.lookup a=none)->
   codeAny (model P w) callerA (.call (.ref fa) ⟨[.ref a],[]⟩) (fun r s'=>r=.ok (.ret<|.bool true)/\OldK s₁.heap s'.heap/\s'.os=s₁.os/\AllBare s'.gens) s₁:=by
  intro H hO hS az hA hK;have mw:∀{b:Addr}{o:Obj},s₁.heap.get? b=some o->H b=none->(ky s₁.heap H).get? b=some o:=fun e n=>M0 e n;have rY:∀{b:Addr}{o:Obj}{es:Array DictEntry}{ep:Nat},s₁.heap.get? b=some o->o.data=.dict es ep->H b=none:=fun {b o es ep} e d=>by
   cases q:H b with
   |none=>rfl
   |some u=>
    have e':b=a:=hA b (by rw[q];simp)
    subst e';rw[ha] at e;cases e;have d':Data.seq vs.toArray _=Data.dict es ep:=d;cases d'
  have vv:∀{b:Addr}{m:Str->Option Value},s₁.heap.Ns b m->(ky s₁.heap H).Ns b m:=fun {b m} ⟨o,es,ep,e,d,r⟩=>⟨o,es,ep,mw e<|rY e d,d,r⟩;have Ew:K.In (ky s₁.heap H):=fun b o e=>mw (KX b o e) (by
   cases q:H b with
   |none=>rfl
   |some u=>
    have e':b=a:=hA b (by rw[q];simp)
    subst e';rw[hK (by rw[q];simp)] at e;cases e)
  have hM:Mod K mg (ky s₁.heap H):=⟨Ew,vv oq,⟨mb,vv hb,PH⟩,let ⟨mc,h1,h2⟩:=PJ;⟨mc,vv h1,h2⟩⟩;have e0:kO P w K mg (ky s₁.heap H) callerA [] s₁ H:=⟨rfl,hM,fun b o e=>M1 e,zbd<|MZ _ _,trivial,fun b hb=>absurd (show b∈ ([]:List Addr) from hb) (by simp),az,.of_eq hg⟩
  refine codeAny_mono ((F _ Ew<|vv oq).run callerA [] s₁ H ⟨[.ref a],[]⟩ [.ref a] [.ref a] _ _ hr e0 (PK s₁<|.ref a) (.cons rfl .nil)<|gZ H hO hS) fun r s' h=>?_;cases r with
  |error e=>exact(yY H e s' h).elim
  |ok fl=>
   cases fl with
   |next=>exact False.elim h
   |brk=>exact False.elim h
   |cont=>exact False.elim h
   |ret u=>
    obtain⟨v,H',os,bare,un,PL,r',q⟩:=h;have q':v=.bl true:=q;subst q';obtain rfl:u=Value.bool true:=r';refine⟨rfl,OldK.of_keep fun b o e=>?_,os,bare⟩;cases q:H b with
    |none=>exact un.keep b o e q (by intro z;exact absurd (show b∈ ([]:List Addr) from z) (by simp)) (by simp)
    |some u=>
     rcases hO b with z|⟨ob,xs,z⟩
     ·rw[q] at z;cases z
     ·have z2:=un.d4 b ob _ z;obtain⟨e1,_⟩:=az b _ z;obtain⟨e2,_⟩:=PL b _ z2;rw[e] at e1;cases e1;exact e2
 cases hk:K.lookup a with
 |some o=>
  have e:=KX a o hk;rw[ha] at e;cases e;refine core (fun _=>none) (fun _=>.inl rfl) (.inr ⟨_,vs.toArray,_,hk,rfl,rfl,rfl,by rw[zah,sf];exact hl,by simpa using rv⟩) (fun b u z=>by have z':(none:Option HO)=some u:=z;cases z') (fun b z=>absurd rfl z) fun z=>absurd rfl z
 |none=>
  refine core (fun b=>if b=a then some (.a_ {cls:=.type "list",data:=.seq vs.toArray}<|.lst<|ns.map V.int) else none) (fun b=>?_) (.inl<|.inr ⟨{cls:=.type "list",data:=.seq vs.toArray},if_pos rfl⟩) (fun b u z=>?_) (fun b z=>?_) fun _=>hk
  ·by_cases hb:b=a
   ·exact .inr ⟨_,_,if_pos hb⟩
   ·exact .inl (if_neg hb)
  ·by_cases hb:b=a
   ·have z':=(if_pos hb).symm.trans z;cases z';subst hb;exact⟨ha,by rw[zaa];exact hl,vs,_,rv,ha⟩
   ·have z':=(if_neg hb).symm.trans z;cases z'
  ·by_cases hb:b=a
   ·exact hb
   ·exact absurd (if_neg hb) z
theorem PM{l:PySem.W.OpenLaw}{n k:Nat}{q:Program}{loose:List Str}{XP:(Str->Option Value)->Heap->Prop}{YP:World->Heap->Prop}{d:DefRec}{K:Params->Frag}{CX:World->bK}{sp:World->Sp}{x:Str}
  (hn:l.most=some n) (oi:n<=sizeLine) (se:d.params.defaults=[]) (hr:df k callerA)
  (hY:∀(w:World) (h:Heap),YP w h->(K w.params).In h)
  (F:∀(w:World) (mg:Str->Option Value) (fa:Addr) (h:Heap),(K w.params).In h->h.Ns mainGlobals mg->mg d.name=some (.ref fa)->
   ∃fd:FuncData,(∀(s:Shared) (u:Value),BindsTo s fd ⟨[u],[]⟩ [(x,u)])/\
    ∀base:Heap,(K w.params).In base->base.Ns mainGlobals mg->cw l.prog w (K w.params) mg base (CX w) k fa fd [x] (sp w))
  (gZ:∀(w:World) (H:Hp) (a:Addr) (ns:List Int),ns.length<=n->yX H->ay (K w.params) H a (ns.map V.int)->sp w [.ref a] H (fun v _=>v=.bl true) fun _ _ _=>False)
  (yY:∀(w:World) (H:Hp) (s:Shared) (e:Value) (s':Shared),CX w [] H s (fun _ _ _=>False) e s'->False):
  PySem.W.WalkO q loose XP YP l.row.toRowW d [] (fun f vs=>PySem.call f vs):=by
 refine Et.PD hn se fun w s₀ s₁ mg mb fa o pm cd doc a vs ns G Y ho hd gK kU yW hints hlen hg=>?_;have KX:=hY w _ Y;obtain⟨fd,hb,hF⟩:=F w mg fa _ KX G.T.g kU;exact PF KX G.T.g G.T.b G.T.builtins G.T.nolimit hg yW hints (zar hlen oi) hr hF hb (fun H hO hS=>gZ w H a ns hlen hO hS) fun H e s'=>yY w H s₁ e s'
end L2
namespace L2
open PySem PySem.Spec PyProof.Rows
def inClass(s:Stmt)(j:Nat):Stmt:=match s with
 |.ClassDef _ _ _ body _ _ _ _ _ _ _=>body.getD j (.Pass ⟨0,0,0,0⟩)
 |_=>.Pass ⟨0,0,0,0⟩
def gO(s:Stmt):Arguments:=match s with
 |.FunctionDef _ a _ _ _ _ _ _ _ _=>a
 |_=> {posonlyargs:=[],args:=[],vararg:=none,kwonlyargs:=[],kw_defaults:=[],kwarg:=none,defaults:=[]}
def dm(s:Stmt):List Stmt:=match s with
 |.FunctionDef _ _ b _ _ _ _ _ _ _=>b
 |_=>[]
def dD(s:Stmt):Scope:=match s with
 |.FunctionDef _ _ _ _ _ _ sc _ _ _=>sc
 |_=> {kind:=.function,names:=[],isGenerator:=false,isCoroutine:=false}
abbrev si:bK:=fun _ _ _ _ _ _=>False
abbrev E0:XK:=fun _ _ _=>False
structure my (K:Frag) (x qual:Str) (st:Stmt) (f:Addr) (fd:FuncData):Prop where
 ex:∃(oc:Value) (od:Option Addr) (kV doc pm:Value) (an:Option Addr) (aT ct:Value) (fK:Array (Option Value)),
  fd=PySem.W.fnOf x qual (gO st) (dm st) (dD st) .none kV doc pm an aT ct/\K.lookup f=some ⟨oc,od,.func fd,fK⟩/\PySem.W.codeIn K aT qual=true
 kp:PySem.W.keepIn K (.ref f)=true
section
variable {P:Program}{w:World}{K:Frag}{mg:Str->Option Value}{base:Heap}
theorem my.binds{x qual:Str}{st:Stmt}{f:Addr}{fd:FuncData}{ps:List Str}(F:my K x qual st f fd)
  (h:∀(kV doc pm:Value) (an:Option Addr) (aT ct:Value) (us:List Value),us.length=ps.length->bindArgs (PySem.W.fnOf x qual (gO st) (dm st) (dD st) .none kV doc pm an aT ct) ⟨us,[]⟩=pure (ps.zip us)):Binds K fd ps []:=by
 obtain⟨oc,od,kV,doc,pm,an,aT,ct,fK,rfl,lk,gK⟩:=F.ex;exact .all<|h kV doc pm an aT ct
theorem Ex{x qual:Str}{st:Stmt}{f:Addr}{oc:Value}{od an:Option Addr}{fK:Array (Option Value)}{kV doc pm aT ct:Value}(l:K.lookup f=some ⟨oc,od,.func<|PySem.W.fnOf x qual (gO st) (dm st) (dD st) .none kV doc pm an aT ct,fK⟩)
  (c:PySem.W.codeIn K aT qual=true) (k:PySem.W.keepIn K (.ref f)=true):my K x qual st f (PySem.W.fnOf x qual (gO st) (dm st) (dD st) .none kV doc pm an aT ct):=⟨⟨oc,od,kV,doc,pm,an,aT,ct,fK,rfl,l,c⟩,k⟩
end
theorem kW{A B:Prop}(h:B):if false=true then A else B:=by
 rw[if_neg zan];exact h
theorem fM{A B:Prop}(h:A):if true=true then A else B:=by
 rw[if_pos rfl];exact h
theorem cx{c A B:Prop}[Decidable c](h1:c->A)(h2:¬c->B):if c then A else B:=by
 by_cases h:c
 ·rw[if_pos h];exact h1 h
 ·rw[if_neg h];exact h2 h
def av(H H':Hp):Prop:= ∀b o,H b=some o->H' b=some o
theorem av.refl(H:Hp):av H H:=fun _ _ h=>h
theorem av.trans{H H1 H2:Hp}(a:av H H1)(b:av H1 H2):av H H2:=fun c o h=>b c o (a c o h)
theorem av.free{H H':Hp}(e:av H H'){l:Addr}(h:H' l=Option.none):H l=Option.none:=by
 cases q:H l with
 |none=>rfl
 |some o=>
  rw[e l o q] at h;cases h
theorem av.seq{K:Frag}{H H':Hp}{a:Addr}{xs:List V}(e:av H H')(h:ay K H a xs):ay K H' a xs:=by
 rcases h with(h|⟨o,h⟩)|h
 ·exact .inl (.inl<|e _ _ h)
 ·exact .inl (.inr ⟨o,e _ _ h⟩)
 ·exact .inr h
section
variable {κ:Type} [DecidableEq κ]
def cW(kvs:List (κ×V))(k:κ):Option V:=(kvs.find? fun kv=>decide (kv.1=k)).map (·.2)
def putK(kvs:List (κ×V))(k:κ)(v:V):List (κ×V):=
 if (kvs.any fun kv=>decide (kv.1=k))=true then kvs.map (fun kv=>if kv.1=k then (kv.1,v) else kv) else kvs++[(k,v)]
def fN(kvs:List (κ×V))(k:κ):List (κ×V):=kvs.filter fun kv=>decide (kv.1≠k)
theorem mz{p:κ×V}{r:List (κ×V)}{k:κ}(e:p.1=k):cW (p::r) k=some p.2:=by simp[cW,zaH,e]
theorem jb{p:κ×V}{r:List (κ×V)}{k:κ}(e:¬p.1=k):cW (p::r) k=cW r k:=by simp[cW,zaH,e]
theorem sj(k:κ):∀kvs:List (κ×V),(kvs.any fun kv=>decide (kv.1=k))=(cW kvs k).isSome
 |[]=>rfl
 |p::r=>by
  rw[zbq];by_cases e:p.1=k
  ·simp only[mz e,zqT e,Bool.true_or,Option.isSome_some]
  ·rw[jb e,zqF e,Bool.false_or];exact sj k r
theorem yZ(kvs:List (κ×V))(k:κ)(v:V):(putK kvs k v).length<=kvs.length+1:=by
 unfold putK
 split
 ·rw[zaa];omega
 ·rw[zqA,zaA,List.length_nil];omega
theorem sk{kvs:List (κ×V)}{k:κ}(v:V)(h:cW kvs k=none):putK kvs k v=kvs++[(k,v)]:=by
 unfold putK;rw[sj,h];exact if_neg (by decide)
theorem e_.y4{o:Option V}{u:Option Value}(r:e_ o u):o.isSome=u.isSome:=by
 cases o with
 |none=>cases u with
  |none=>rfl
  |some _=>exact(show False from r).elim
 |some _=>cases u with
  |none=>exact(show False from r).elim
  |some _=>rfl
theorem KV.val{kvs:List (κ×V)}{vs:List (κ×Value)}(r:KV kvs vs)(k:κ):e_ (cW kvs k) (valueAt vs k):=by
 unfold KV at r
 induction r with
 |nil=>exact True.intro
 | @cons p q ps qs h t ih=>
  obtain⟨h1,h2⟩:=h;by_cases e:p.1=k
  ·have e':q.1=k:=h1.symm.trans e;have b:valueAt (q::qs) k=some q.2:=by simp[valueAt,zaH,e']
   rw[mz e,b];exact h2
  ·have e':¬q.1=k:=fun z=>e (h1.trans z);have b:valueAt (q::qs) k=valueAt qs k:=by simp[valueAt,zaH,e']
   rw[jb e,b];exact ih
theorem KV.any{kvs:List (κ×V)}{vs:List (κ×Value)}(r:KV kvs vs)(k:κ):(kvs.any fun kv=>decide (kv.1=k))=vs.any fun kv=>decide (kv.1=k):=by
 unfold KV at r
 induction r with
 |nil=>rfl
 |cons h t ih=>rw[zbq,zbq,ih,h.1]
theorem KV.y6{kvs:List (κ×V)}{vs:List (κ×Value)}(r:KV kvs vs)(k:κ){y:V}{u:Value}(ry:RelV y u):
  KV (kvs.map fun kv=>if kv.1=k then (kv.1,y) else kv) (vs.map fun kv=>if kv.1=k then (kv.1,u) else kv):=by
 unfold KV at r⊢
 induction r with
 |nil=>exact .nil
 | @cons p q ps qs h t ih=>
  rw[zal,zal];refine .cons ?_ ih;obtain⟨h1,h2⟩:=h;by_cases e:p.1=k
  ·rw[if_pos e,if_pos<|h1.symm.trans e];exact⟨h1,ry⟩
  ·rw[if_neg e,if_neg<|fun z=>e<|h1.trans z];exact⟨h1,h2⟩
theorem KV.put{kvs:List (κ×V)}{vs:List (κ×Value)}(r:KV kvs vs)(k:κ){y:V}{u:Value}(ry:RelV y u):KV (putK kvs k y) (stored vs k u):=by
 unfold putK stored;rw[r.any k];by_cases e:(vs.any fun kv=>decide (kv.1=k))=true
 ·rw[if_pos e,if_pos e];exact r.y6 k ry
 ·rw[if_neg e,if_neg e];exact Paired.snoc r ⟨rfl,ry⟩
theorem KV.drop{kvs:List (κ×V)}{vs:List (κ×Value)}(r:KV kvs vs)(k:κ):KV (fN kvs k) (without vs k):=by
 unfold KV at r⊢;unfold fN without
 induction r with
 |nil=>exact .nil
 | @cons p q ps qs h t ih=>
  obtain⟨h1,h2⟩:=h;rw[zbE,zbE];by_cases e:p.1=k
  ·have a:¬decide (p.1≠k)=true:=by simp[e]
   have b:¬decide (q.1≠k)=true:=by simp[h1.symm.trans e]
   rw[if_neg a,if_neg b];exact ih
  ·have e':¬q.1=k:=fun z=>e (h1.trans z);have a:decide (p.1≠k)=true:=by simp[e]
   have b:decide (q.1≠k)=true:=by simp[e']
   rw[if_pos a,if_pos b];exact .cons ⟨h1,h2⟩ ih
theorem KV.length{kvs:List (κ×V)}{vs:List (κ×Value)}(r:KV kvs vs):kvs.length=vs.length:=Paired.length r
theorem PN(kvs:List (κ×V))(k:κ):(fN kvs k).length<=kvs.length:=zaE _ _
end
theorem qt{P:Program}{w:World}{k:Key}{u:Value}(r:RelV (kV k) u):(cI P w).is k u=true:=by
 cases k with
 |inl i=>obtain⟨t,e⟩:=(show ∃t,u=Value.int i t from r);subst e;exact C_ P w i t
 |inr x=>obtain⟨t,e⟩:=(show ∃t,u=Value.str x t from r);subst e;exact Dc P w x t
theorem Ey{P:Program}{w:World}:∀{ks:List Key}{us:List Value},Vals (ks.map kV) us->ItemsAre (cI P w) ks us
 |[],_,r=>by rw[zaM] at r;cases r;exact .nil
 |k::ks,_,r=>by
  rw[zal] at r;cases r with
  |cons h t=>exact .cons (qt h) (Ey t)
abbrev KT(H:Hp):List (List Key×V)->List (List Key×Addr×Value)->Prop:=Paired fun p q=>p.1=q.1/\H q.2.1=some (.tup<|p.1.map kV)/\RelV p.2 q.2.2
theorem KT.val{H:Hp}{kvs:List (List Key×V)}{xs:List (List Key×Addr×Value)}(r:KT H kvs xs)(k:List Key):e_ (cW kvs k) ((atKey xs k).map (·.2)):=by
 induction r with
 |nil=>exact True.intro
 | @cons p q ps qs h t ih=>
  obtain⟨h1,_,h2⟩:=h;by_cases e:p.1=k
  ·have e':q.1=k:=h1.symm.trans e;have b:atKey (q::qs) k=some q.2:=by simp[atKey,zaH,e']
   rw[mz e,b];exact h2
  ·have e':¬q.1=k:=fun z=>e (h1.trans z);have b:atKey (q::qs) k=atKey qs k:=by simp[atKey,zaH,e']
   rw[jb e,b];exact ih
theorem KT.y6{H:Hp}{kvs:List (List Key×V)}{xs:List (List Key×Addr×Value)}(r:KT H kvs xs)(k:List Key){y:V}{u:Value}(ry:RelV y u):
  KT H (kvs.map fun kv=>if kv.1=k then (kv.1,y) else kv) (xs.map<|putAt k u):=by
 induction r with
 |nil=>exact .nil
 | @cons p q ps qs h t ih=>
  rw[zal,zal];refine .cons ?_ ih;obtain⟨h1,h2,h3⟩:=h;unfold putAt;by_cases e:p.1=k
  ·rw[if_pos e,if_pos<|h1.symm.trans e];exact⟨h1,h2,ry⟩
  ·rw[if_neg e,if_neg<|fun z=>e<|h1.trans z];exact⟨h1,h2,h3⟩
theorem KT.put{H:Hp}{kvs:List (List Key×V)}{xs:List (List Key×Addr×Value)}(r:KT H kvs xs)(k:List Key){b:Addr}{y:V}{u:Value}(hb:H b=some (.tup<|k.map kV))(ry:RelV y u):
  KT H (putK kvs k y) (storedH xs k b u):=by
 have e:(kvs.any fun kv=>decide (kv.1=k))=(atKey xs k).isSome:=by
  rw[sj,(r.val k).y4,Option.isSome_map]
 unfold putK storedH;rw[e];by_cases q:(atKey xs k).isSome=true
 ·rw[if_pos q,if_pos q];exact r.y6 k ry
 ·rw[if_neg q,if_neg q];exact Paired.snoc r ⟨rfl,hb,ry⟩
theorem KT.keeps{H H':Hp}{kvs:List (List Key×V)}{xs:List (List Key×Addr×Value)}(r:KT H kvs xs)(ht:∀b ys,H b=some (.tup ys)->H' b=some (.tup ys)):KT H' kvs xs:=
 Paired.b9 r fun _ _ z=>⟨z.1,ht _ _ z.2.1,z.2.2⟩
section
variable {P:Program}{w:World}{H:Hp}{h:Heap}{a:Addr}
theorem Ez{u:HO}(ok:bI P w H h)(e:Rd H a u):bT P w H h a u:=e.ok ok
theorem sq{kvs:List (Key×V)}(ok:bI P w H h)(e:Rd H a (.dK kvs)):kvs.length<=sizeLine/\(a==sysModules)=false/\∃vs,KV kvs vs/\h.DictOf (cI P w) a vs:=
 show bT P w H h a (.dK kvs) from Ez ok e
theorem ot{kvs:List (Key×V)}(ok:bI P w H h)(e:H a=some (.dK kvs)):kvs.length<=sizeLine/\(a==sysModules)=false/\∃vs,KV kvs vs/\h.DictOf (cI P w) a vs:=sq ok (.inl e)
theorem vw{ks:List Key}(ok:bI P w H h)(e:H a=some (.tup<|ks.map kV)):(tupleKind<|cI P w).is h ks a:=by
 obtain⟨_,aq,r,o,h1,h2,n,h3⟩:=(show bT P w H h a (.tup<|ks.map kV) from ok a _ e)
 exact⟨o,aq.toArray,n,h1,h2,h3,by simpa using Ey r⟩
theorem sv{kvs:List (List Key×V)}(ok:bI P w H h)(e:Rd H a (.dT kvs)):kvs.length<=sizeLine/\(a==sysModules)=false/\
  ∃xs,KT H kvs xs/\h.DictOfH (tupleKind<|cI P w) a xs:=by
 obtain⟨z,y,xs,r,o,es,ep,h1,h2,h3,h4,h5⟩:=(show bT P w H h a (.dT kvs) from Ez ok e)
 refine⟨z,y,xs,r,o,es,ep,h1,h2,h3,h4,fun x hx=>?_,h5⟩;have all:∀{l:List (List Key×V)}{m:List (List Key×Addr×Value)},KT H l m->∀x∈m,(tupleKind<|cI P w).is h x.1 x.2.1:=by
  intro l m q
  induction q with
  |nil=>intro x hx;exact nomatch hx
  | @cons p q ps qs hq t ih=>
   intro x hx;rcases zab.mp hx with e|hx
   ·subst e;exact vw ok (by rw[<-hq.1];exact hq.2.1)
   ·exact ih x hx
 exact all r x hx
theorem PQ{kvs:List (List Key×V)}(ok:bI P w H h)(e:H a=some (.dT kvs)):kvs.length<=sizeLine/\(a==sysModules)=false/\
  ∃xs,KT H kvs xs/\h.DictOfH (tupleKind<|cI P w) a xs:=sv ok (.inl e)
end
def cC(H:Hp)(a:Addr)(y:V)(r:Option V):Prop:=
 (∃kvs k,Rd H a (.dK kvs)/\y=kV k/\r=cW kvs k)\/∃kvs k b,Rd H a (.dT kvs)/\y=.ref b/\H b=some (.tup<|k.map kV)/\r=cW kvs k
def g5(H:Hp)(a:Addr)(y v:V)(H':Hp):Prop:=
 (∃kvs k,H a=some (.dK kvs)/\y=kV k/\kvs.length<sizeLine/\H'=upd H a (.dK<|putK kvs k v))\/
 ∃kvs k b,H a=some (.dT kvs)/\y=.ref b/\H b=some (.tup<|k.map kV)/\kvs.length<sizeLine/\H'=upd H a (.dT<|putK kvs k v)
theorem cC.k{H:Hp}{a:Addr}{kvs:List (Key×V)}{k:Key}(e:H a=some (.dK kvs)):cC H a (kV k) (cW kvs k):=.inl ⟨kvs,k,.inl e,rfl,rfl⟩
theorem g5.k{H:Hp}{a:Addr}{kvs:List (Key×V)}{k:Key}{v:V}(e:H a=some (.dK kvs))(hl:kvs.length<sizeLine):g5 H a (kV k) v (upd H a<|.dK<|putK kvs k v):=.inl ⟨kvs,k,e,rfl,hl,rfl⟩
section
variable {X:Cx}{pins:List (Addr×Obj)}{σ:St}{H:Hp}{s:Shared}{a:Addr}{y v:V}{u r:Value}{o:Option V}{A:Around}{E:Value->Shared->Prop}
theorem Inv.big(I:Inv X pins σ H s):sysModules<s.heap.objs.size:=by
 have h:mainGlobals<s.heap.objs.size:=(I.mod.glob.keeps I.bk).lt;exact Nat.lt_trans (by decide) h
theorem PR{Q:Value->Shared->Prop}(hu:A.units+1<cLine)(I:Inv X pins σ H s)(g:cC H a y (some v))(ry:RelV y u)(h:∀w' s',Inv X pins σ H s'->RelV v w'->Q w' s'):
  wpAny (model X.prog X.w) A (getItem (.ref a) u) Q E s:=by
 rcases g with⟨kvs,k,e,ey,l⟩|⟨kvs,k,b,e,ey,eb,l⟩
 ·subst ey;obtain⟨z,hd,vs,rel,dd⟩:=sq I.az e;obtain⟨w',hw,d5⟩:=e_.some_of (v:=v) (o:=valueAt vs k) (by rw[l];exact rel.val k)
  exact wpAny_getItem_of (qt ry) dd.mapOf hw<|h w' _ (I.tok _) d5
 ·subst ey;cases (show u=Value.ref b from ry)
  obtain⟨z,hd,xs,rel,dd⟩:=sv I.az e;obtain⟨w',hw,d5⟩:=e_.some_of (v:=v) (o:=(atKey xs k).map (·.2)) (by rw[l];exact rel.val k)
  obtain⟨p,hp,sy⟩:=Option.map_eq_some_iff.mp hw;refine wpAny_getItem_heap (tupleKind_room_in1 hu) (vw I.az eb) dd hp ?_;rw[sy];exact h w' _ (I.tok _) d5
theorem PU{Q:Value->Shared->Prop}(hu:A.units+1<cLine)(I:Inv X pins σ H s)(g:cC H a y o)(ry:RelV y u)(h:∀s',Inv X pins σ H s'->Q (.bool<|!o.isSome) s'):
  wpAny (model X.prog X.w) A (compareOp .NotIn u<|.ref a) Q E s:=by
 rcases g with⟨kvs,k,e,ey,l⟩|⟨kvs,k,b,e,ey,eb,l⟩
 ·subst ey;obtain⟨z,hd,vs,rel,dd⟩:=sq I.az e;refine wpAny_notIn_of (qt ry) hd dd.mapOf ?_;rw[<-(rel.val k).y4,<-l];exact h _<|I.tok _
 ·subst ey;cases (show u=Value.ref b from ry)
  obtain⟨z,hd,xs,rel,dd⟩:=sv I.az e;refine wpAny_notIn_heap (tupleKind_room_in1 hu) (vw I.az eb) hd dd ?_;have q:=(rel.val k).y4;rw[Option.isSome_map] at q;rw[<-q,<-l];exact h _<|I.tok _
theorem vx{h':Heap}{t':Nat}{ob:HO}(I:Inv X pins σ H s)(mu:qf (H a))(hs:Heap.SameBut a s.heap h')(he:∃q,h'.get? a=some q)(new:bT X.prog X.w (upd H a ob) h' a ob):
  Inv X pins σ (upd H a ob) {s with heap:=h',toks:=t'}:=
 I.write (x:=a) (e:=a) mu (.inl rfl) (fun b q hb z=>(hs.2 b hb).trans z) he new
theorem y7{P:Program}{w:World}{H':Hp}{h':Heap}{kvs:List (Key×V)}{vs:List (Key×Value)}(z:kvs.length<=sizeLine)(hd:(a==sysModules)=false)(rel:KV kvs vs)(dd:h'.DictOf (cI P w) a vs):
  bT P w H' h' a (.dK kvs):=⟨z,hd,vs,rel,dd⟩
theorem PV{H':Hp}{Q:Unit->Shared->Prop}(hu:A.units+1<cLine)(I:Inv X pins σ H s)(g:g5 H a y v H')(ry:RelV y u)(rv:RelV v r)(h:∀s',Inv X pins σ H' s'->Q () s'):
  wpAny (model X.prog X.w) A (setItem (.ref a) u r) Q E s:=by
 rcases g with⟨kvs,k,e,ey,l,eH⟩|⟨kvs,k,b,e,ey,eb,l,eH⟩
 ·subst ey eH;obtain⟨z,hd,vs,rel,dd⟩:=ot I.az e;have hz:vs.length<=sizeLine:=by rw[<-rel.length];exact z
  have hl:(putK kvs k v).length<=sizeLine:=by have:=yZ kvs k v;omega
  refine wpAny_setItem_pairs (hsz:=hz) (qt ry) dd fun h' jN hs=>h _ ?_;have he:∃q,h'.get? a=some q:=let ⟨q,_,_,hq,_⟩:=jN;⟨q,hq⟩;exact vx I (by rw[e];exact True.intro) hs he<|y7 hl hd (rel.put k rv) jN
 ·subst ey eH;cases (show u=Value.ref b from ry)
  obtain⟨z,hd,xs,rel,dd⟩:=PQ I.az e;have hz:xs.length<=sizeLine:=by rw[<-Paired.length rel];exact z
  have hl:(putK kvs k v).length<=sizeLine:=by have:=yZ kvs k v;omega
  refine wpAny_setItem_heap (hsz:=hz) (tupleKind_room_in1 hu) (vw I.az eb) dd fun h' jN hs=>h _ ?_;obtain⟨q,es,ep,hq,h2,h3,h4,_,h5⟩:=jN;refine vx I (by rw[e];exact True.intro) hs ⟨q,hq⟩ ⟨hl,hd,_,(rel.put k eb rv).keeps fun c ys ec=>?_,q,es,ep,hq,h2,h3,h4,h5⟩
  rw[ax<|i5 ec e<|fun z=>nomatch z];exact ec
end
section
variable {X:Cx}{pins:List (Addr×Obj)}{σ:St}{H:Hp}{s:Shared}{a:Addr}{kvs:List (Key×V)}{k:Key}{u:Value}{A:Around}{E:Value->Shared->Prop}
theorem PX{v:V}{more:List Value}{Q:Value->Shared->Prop}(I:Inv X pins σ H s)(e:H a=some (.dK kvs))(ry:RelV (kV k) u)(l:cW kvs k=some v)(hm:more=[]\/∃x,more=[x])
  (h:∀w' s',Inv X pins σ (upd H a<|.dK<|fN kvs k) s'->RelV v w'->Q w' s'):wpAny (model X.prog X.w) A (call (.builtin "dict.pop") (.ref a::u::more)) Q E s:=by
 obtain⟨z,hd,vs,rel,dd⟩:=ot I.az e;obtain⟨w',hw,d5⟩:=e_.some_of (v:=v) (o:=valueAt vs k) (by rw[<-l];exact rel.val k)
 have hp:(keyPart u).isSome=true:=by
  cases k with
  |inl i=>obtain⟨t,q⟩:=(show ∃t,u=Value.int i t from ry);subst q;rfl
  |inr x=>obtain⟨t,q⟩:=(show ∃t,u=Value.str x t from ry);subst q;rfl
 have ha:argsOk "dict.pop" ⟨.ref a::u::more,[]⟩:=by
  rcases hm with q|⟨x,q⟩
  ·subst q;exact PySem.F.args_dict_pop_2 _ _
  ·subst q;exact PySem.F.args_dict_pop_3 _ _ _
 refine call_meetsIn PySem.F.slot_dict_pop dd.typeIs PySem.F.entry_dict_pop ha (meets_dict_pop_there (cI X.prog X.w) a (qt ry) more hm hp)
  ⟨vs,w',dd,by rw[<-rel.length];exact z,hw,fun h' jN hs=>h w' _ ?_ d5⟩
 have he:∃q,h'.get? a=some q:=let ⟨q,_,_,hq,_⟩:=jN;⟨q,hq⟩;exact vx I (by rw[e];exact True.intro) hs he<|y7 (zar (PN kvs k) z) hd (rel.drop k) jN
end
def y8(i:Expr):Prop:= ∀ov iv,subscripted i false ov iv=operate [ov,iv] (getItem ov iv)
theorem PY{prog:Program}{w:World}{A:Around}{E:Value->Shared->Prop}{s:Shared}{env:Env}{value slice:Expr}{pos:Pos}{T id:String}{Q:Value->Shared->Prop}
  (hl:typeLookup (.type T) "__getitem__"=pure (some<|.builtin id)) (hs:y8 slice)
  (h:wpAny (model prog w) A (eval value env) (fun o s₁=>wpAny (model prog w) A (eval slice env) (fun i s₂=>s₂.TypeIs o T/\wpAny (model prog w) A (getItem o i) Q E s₂) E s₁) E s):
  wpAny (model prog w) A (eval (.Subscript value slice pos) env) Q E s:=by
 refine Subscript_<|wpAny_mono h (fun o s₁ h₁=>wpAny_mono h₁ (fun i s₂ h₂=>?_) fun _ _ x=>x) fun _ _ x=>x;obtain⟨hT,h₂⟩:=h₂;unfold subscriptTail;refine wpAny_bind ?_;rw[getitemInPython_of_ne hT.not_modules];refine wpAny_bind<|wpAny_specialOf hT hl ?_;have fin:wpAny (model prog w) A (subscripted slice false o i) (fun r s₃=>wpAny (model prog w) A (letTemporaryGo value o r>>=fun _=>pure r) Q E s₃) E s₂:=by
  rw[hs o i];exact wpAny_operating<|wpAny_mono h₂ (fun r s₃ h₃=>wpAny_bind<|wpAny_letTemporaryGo<|wpAny_pure h₃) fun _ _ x=>x
 first
  |exact wpAny_pure (wpAny_bind fin)
  |exact wpAny_bind (wpAny_pure<|wpAny_bind fin)
  |exact wpAny_bind fin
theorem PZ{X:Cx}{pins:List (Addr×Obj)}{σ:St}{H:Hp}{s:Shared}{a:Addr}{y:V}{o:Option V}(I:Inv X pins σ H s)(g:cC H a y o):s.TypeIs (.ref a) "dict":=by
 rcases g with⟨kvs,k,e,_,_⟩|⟨kvs,k,b,e,_,_,_⟩
 ·obtain⟨_,_,vs,_,dd⟩:=sq I.az e;exact dd.typeIs
 ·obtain⟨_,_,xs,_,dd⟩:=sv I.az e;exact dd.typeIs
def EA(td ty:TE):TE:=fun σ H Q=>td σ H fun x H1=>ty σ H1 fun y H2=>∃a v,x=.ref a/\cC H2 a y (some v)/\Q v H2
def EB(ty td:TE):TE:=fun σ H Q=>ty σ H fun y H1=>td σ H1 fun x H2=>∃a o,x=.ref a/\cC H2 a y o/\Q (.bl o.isSome) H2
def y9(ty td:TE):TE:=fun σ H Q=>ty σ H fun y H1=>td σ H1 fun x H2=>∃a o,x=.ref a/\cC H2 a y o/\Q (.bl<|!o.isSome) H2
def EC(td ty tv:TE):TS:=fun D σ H=>tv σ H fun v H1=>td σ H1 fun x H2=>ty σ H2 fun y H3=>∃a H4,x=.ref a/\g5 H3 a y v H4/\D.nx σ H4
section
variable {X:Cx}{o i e value:Expr}{pos pos' Ot:Pos}{td ty tv:TE}
theorem P0(hu:X.A.units+1<cLine)(ho:PE X o td)(hi:PE X i ty)(hs:y8 i):PE X (.Subscript o i pos) (EA td ty):=by
 intro pins s σ H Q I h;refine PY PySem.F.slot_dict_getitem.lookup hs<|aF (ho pins s σ H _ I h) fun u s1 ⟨x,H1,I1,rx,q1⟩=>aF (hi pins s1 σ H1 _ I1 q1) fun iv s2 ⟨y,H2,I2,ry,a,v,ex,g,q2⟩=>?_;subst ex;obtain rfl:u=Value.ref a:=rx;exact⟨PZ I2 g,PR hu I2 g ry fun w' s3 I3 d5=>⟨v,H2,I3,d5,q2⟩⟩
theorem P4(hu:X.A.units+1<cLine)(hi:PE X i ty)(ho:PE X o td):PC X .NotIn i o (y9 ty td):=by
 intro pins s σ H Q I h;refine aF (hi pins s σ H _ I h) fun iv s1 ⟨y,H1,I1,ry,q1⟩=>aF (ho pins s1 σ H1 _ I1 q1) fun u s2 ⟨x,H2,I2,rx,a,ov,ex,g,q2⟩=>?_;subst ex;obtain rfl:u=Value.ref a:=rx;exact PU hu I2 g ry fun s3 I3=>⟨.bl<|!ov.isSome,H2,I3,rfl,q2⟩
theorem P5(hu:X.A.units+1<cLine)(ho:PE X o td)(hi:PE X i ty)(hv:PE X value tv)(hs:swapsWith value (some<|.Subscript o i pos') pos.line X.env=pure false):
  PS X (.Assign [.Subscript o i pos'] value pos) (EC td ty tv):=by
 intro pins s σ H D I h;refine wpAny_Assign_Subscript (aF (hv pins s σ H _ I h) fun r s1 ⟨v,H1,I1,rv,q1⟩=>aF (ho pins s1 σ H1 _ I1 q1) fun u s2 ⟨x,H2,I2,rx,q2⟩=>aF (hi pins s2 σ H2 _ I2 q2) fun iv s3 ⟨y,H3,I3,ry,a,H4,ex,g,q3⟩=>?_) hs;subst ex;obtain rfl:u=Value.ref a:=rx;exact PV hu I3 g ry rv fun s4 I4=>⟨σ,H4,I4,q3⟩
end
theorem P6{P:Program}{w:World}{H:Hp}(h:Heap)(hb:sysModules<h.objs.size):bT P w H (h.push {cls:=.type "dict",data:=.dict #[]}) h.objs.size (.dK []):=
 ⟨zqZ _,beq_eq_false_iff_ne.mpr<|Ne.symm<|zae hb,[],.nil,Heap.DictOf.new h⟩
def P7:TE:=fun _ H Q=>∀p,H p=none->Q (.ref p) (upd H p<|.dT [])
def vy(H:Hp)(a:Addr):Prop:=(∃kvs,Rd H a<|.dK kvs)\/∃kvs,Rd H a (.dT kvs)
theorem P8{X:Cx}{pins:List (Addr×Obj)}{σ:St}{H:Hp}{s:Shared}{a:Addr}(I:Inv X pins σ H s)(d:vy H a):
  s.TypeIs (.ref a) "dict"/\(∀b,Value.ref a=.ref b->∃ob,s.heap.get? b=some ob/\ob.dict=none)/\(a==sysModules)=false:=by
 rcases d with⟨kvs,e⟩|⟨kvs,e⟩
 ·obtain⟨_,hd,vs,_,dd⟩:=sq I.az e;refine⟨dd.typeIs,fun b q=>?_,hd⟩;cases q;obtain⟨ob,_,_,h1,h2,_⟩:=dd;exact⟨ob,h1,h2.2.1⟩
 ·obtain⟨_,hd,xs,_,dd⟩:=sv I.az e;refine⟨dd.typeIs,fun b q=>?_,hd⟩;cases q;obtain⟨ob,_,_,h1,h2,_⟩:=dd;exact⟨ob,h1,h2.2.1⟩
def P9(td ty tx:TE):TE:=fun σ H Q=>td σ H fun x H1=>∃a,x=.ref a/\vy H1 a/\ty σ H1 fun y H2=>tx σ H2 fun z H3=>∃o,cC H3 a y o/\Q (o.getD z) H3
end L2
set_option maxHeartbeats 4000000
namespace L2
open PySem PySem.Spec PyProof.Rows
section
variable {X:Cx}{pins:List (Addr×Obj)}{σ:St}{H:Hp}{s:Shared}{a:Addr}{o:HO}
theorem Inv.P_(I:Inv X pins σ H s)(hn:H a=none)(h0:X.s₀.heap.objs.size<=a)(hL:a≠X.env.locals)(hC:∀x c,X.env.cells.lookup x=some c->c≠a)
  (hp:∀p∈X.pn++pins,p.1≠a) (new:bT X.prog X.w (upd H a o) s.heap a o):Inv X pins σ (upd H a o) s:=by
 have Qa:∀b u,X.s₀.heap.get? b=some u->b≠a:=fun b u e=>zae (zaw (Heap.lt_size e) h0);have sD:∀b u,H b=some u->b≠a:=fun b u e=>aL e hn;refine⟨I.ok,I.os,I.bare,⟨I.base.keep,I.base.slot,fun b u e n hx=>?_,I.base.there,fun b xs e=>?_,fun b u xs e=>?_,fun b ps e=>?_⟩,I.loc,I.cell,?_,fun x c e=>?_,fun p q=>?_,fun b u e=>?_,I.len⟩
 ·rw[ax<|Qa b u e];exact I.base.free b u e n hx
 ·have z:=I.base.eA b xs e;rw[ax<|sD b _ z];exact z
 ·have z:=I.base.d4 b u xs e;rw[ax<|sD b _ z];exact z
 ·obtain⟨m,z⟩:=I.base.fg b ps e;exact⟨m,by rw[ax<|sD b _ z];exact z⟩
 ·rw[ax<|Ne.symm hL];exact I.free
 ·rw[ax<|hC x c e];exact I.eN x c e
 ·obtain⟨z1,z2,z3⟩:=I.pin p q;exact⟨z1,by rw[ax<|hp p q];exact z2,z3⟩
 ·by_cases hb:b=a
  ·subst hb;rw[au] at e;cases e;exact new
  ·rw[ax hb] at e;exact(I.az b u e).i6 (fun _ _ _ q=>q) (fun c q=>by rw[ax<|sD c _ q];exact q) fun c xs q=>by rw[ax<|sD c _ q];exact q
end
def dy(cells:List (Str×Addr)):List (Str×NameKind)->List (Str×Addr)->List (Str×Addr)
 |[],acc=>acc
 |(n,k)::r,acc=>dy cells r (if k=.free then (n,(cells.lookup n).getD 0)::acc else acc)
theorem ED(env:Env):∀(names:List (Str×NameKind)) (acc:List (Str×Addr)),(∀y∈names,y.2=.free->∃c,env.cells.lookup y.1=some c)->
  (forIn names acc (fun(x:Str×NameKind) (cs:List (Str×Addr))=>match x with
   |(name,kind)=>if (kind==NameKind.free)=true then do let a <-cellOf env name;pure (ForInStep.yield ((name,a)::cs)) else pure (ForInStep.yield cs)):Sem (List (Str×Addr)))=pure (dy env.cells names acc)
 |[],acc,_=>rfl
 |(n,k)::r,acc,h=>by
  have hr:=fun sG=>ED env r sG fun y hy=>h y (zao _ hy);rw[List.forIn_cons];by_cases hk:k=.free
  ·subst hk;obtain⟨c,e⟩:=h (n,.free) zas rfl;have e':cellOf env n=pure c:=by unfold cellOf;rw[e]
   have ec:dy env.cells ((n,.free)::r) acc=dy env.cells r ((n,c)::acc):=by simp[dy,e]
   rw[ec,<-hr]
   simp[e']
  ·have hb:(k==NameKind.free)=false:=by simpa using hk
   have ec:dy env.cells ((n,k)::r) acc=dy env.cells r acc:=by simp[dy,hk]
   rw[ec,<-hr]
   simp[hb]
theorem Qc{scope:Scope}{env:Env}(h:∀y∈scope.names,y.2=.free->∃c,env.cells.lookup y.1=some c):closureFor scope env=pure (dy env.cells scope.names []):=by
 have:=ED env scope.names [] h
 simp only[closureFor]
 rw[<-this]
 simp
theorem EE{cells:List (Str×Addr)}:∀(names:List (Str×NameKind)) (acc:List (Str×Addr)) (x:Str) (c:Addr),(dy cells names acc).lookup x=some c->(acc.lookup x=some c)\/((x,.free)∈names/\(cells.lookup x).getD 0=c)
 |[],acc,x,c,h=>.inl h
 |(n,k)::r,acc,x,c,h=>by
  simp only[dy] at h
  rcases EE r _ x c h with z|⟨z1,z2⟩
  ·by_cases hk:k=.free
   ·subst hk
    simp only[if_true] at z
    rw[zaW] at z;by_cases hx:x==n
    ·simp only[hx] at z
     have Qd:x=n:=eq_of_beq hx;subst Qd;exact .inr ⟨zas,zak z⟩
    ·have ou:(x==n)=false:=by simpa using hx
     simp only[ou] at z
     exact .inl z
   ·simp only[if_neg hk] at z
    exact .inl z
  ·exact .inr ⟨zao _ z1,z2⟩
theorem y_{cells:List (Str×Addr)}:∀(names:List (Str×NameKind)) (acc:List (Str×Addr)) (x:Str),((x,NameKind.free)∈names\/∃c,acc.lookup x=some c)->∃c,(dy cells names acc).lookup x=some c
 |[],acc,x,h=>by
  rcases h with h|h
  ·cases h
  ·exact h
 |(n,k)::r,acc,x,h=>by
  simp only[dy]
  refine y_ r _ x ?_;rcases h with h|⟨c,h⟩
  ·rcases zab.mp h with e|h
   ·cases e;refine .inr ?_
    simp[zaW]
   ·exact .inl h
  ·refine .inr ?_;by_cases hk:k=.free
   ·simp only[if_pos hk,zaW]
    cases hx:x==n
    ·exact⟨c,h⟩
    ·exact⟨_,rfl⟩
   ·simp only[if_neg hk];exact⟨c,h⟩
theorem EF{env:Env}:∀(names:List (Str×NameKind)) (x:Str),
  (names.map fun(n,k)=>if (k==NameKind.free && env.scope.kind==.function && env.kindOf n==some .cell) then (n,NameKind.cell) else (n,k)).lookup x=
   (names.lookup x).map fun k=>if (k==NameKind.free && env.scope.kind==.function && env.kindOf x==some .cell) then NameKind.cell else k
 |[],_=>rfl
 |(n,k)::r,x=>by
  have ih:=EF (env:=env) r x;show List.lookup x ((if (k==NameKind.free && env.scope.kind==.function && env.kindOf n==some .cell)=true then (n,NameKind.cell) else (n,k))::_)=_
  cases hx:x==n with
  |true=>
   have e:x=n:=eq_of_beq hx;subst e;by_cases hc:(k==NameKind.free && env.scope.kind==.function && env.kindOf x==some .cell)=true
   ·rw[if_pos hc];simp only[zaW,beq_self_eq_true,zbF];rw[if_pos hc]
   ·rw[if_neg hc];simp only[zaW,beq_self_eq_true,zbF];rw[if_neg hc]
  |false=>
   by_cases hc:(k==NameKind.free && env.scope.kind==.function && env.kindOf n==some .cell)=true
   ·rw[if_pos hc];simp only[zaW,hx];exact ih
   ·rw[if_neg hc];simp only[zaW,hx];exact ih
section
variable {prog:Program}{w:World}{A:Around}{R:Result->Shared->Prop}{s:Shared}
theorem Qe{elt target iter:Expr}{ifs:List Expr}{scope:Scope}{pos:Pos}{it acc:Value}{env:Env}(I:Nat->Shared->Prop)
  (turn:∀n s,I n s->wpAny (model prog w) A (pyNext it) (fun r s₁=>match r with
   |none=>R (.ok .next) s₁
   |some v=>wpAny (model prog w) A (letOwnedTupleGo target it v) (fun _ EG=>wpAny (model prog w) A (assign target env v) (fun _ s₂=>
     wpAny (model prog w) A (forIn ifs true fun c r=>if r=true then do let ok <-isTrue c env (eval c env);pure (ForInStep.yield ok) else pure (ForInStep.yield r)) (fun ok s₃=>
      if ok=true then wpAny (model prog w) A (eval elt env) (fun x s₄=>
       wpAny (model prog w) A (call (.builtin "list.append") [acc,x]) (fun _ s₅=>∃m,m<n/\I m s₅) (fun _ _=>False) s₄) (fun _ _=>False) s₃
      else ∃m,m<n/\I m s₃) (fun _ _=>False) s₂) (fun _ _=>False) EG) (fun _ _=>False) s₁) (fun _ _=>False) s)
  (n:Nat) (h:I n s):codeAny (model prog w) A (.compLoop (.ListComp elt [⟨target,iter,ifs,0⟩] scope pos) 0 it acc env) R s:=by
 refine codeAny_loop rfl I (fun n s hI=>?_) n h;show wpAny _ A ((compTurn (.ListComp elt [⟨target,iter,ifs,0⟩] scope pos) 0 it acc env).onRaise (fun x=>do noteFrame x env;theTreesLotGoes x)) _ _ s
 refine wpAny_noted ?_;rw[compTurn_list];refine wpAny_bind<|wpAny_standAt<|wpAny_bind<|wpAny_mono (turn n s hI) (fun r s₁ h₁=>?_) fun _ _ h'=>h'.elim;cases r with
 |none=>exact wpAny_pure h₁
 |some v=>
  refine wpAny_bind<|wpAny_mono h₁ (fun _ EG Qg=>?_) fun _ _ h'=>h'.elim;refine wpAny_bind<|wpAny_mono Qg (fun _ s₂ h₂=>wpAny_bind<|wpAny_mono h₂ (fun ok s₃ h₃=>?_) fun _ _ h'=>h'.elim) fun _ _ h'=>h'.elim;cases ok with
  |false=>exact wpAny_pure ⟨rfl,h₃⟩
  |true=>
   exact wpAny_bind<|wpAny_bind<|wpAny_mono h₃ (fun x s₄ h₄=>wpAny_bind<|wpAny_mono h₄ (fun _ s₅ h₅=>wpAny_pure<|wpAny_pure ⟨rfl,h₅⟩) fun _ _ h'=>h'.elim) fun _ _ h'=>h'.elim
end
def fP(X:Cx)(scope:Scope)(N:List Str)(ex:List Addr)(C:Addr)(s:Shared)(H:Hp):Cx where
 prog:=X.prog
 w:=X.w
 K:=X.K
 mg:=X.mg
 base:=X.base
 A:=X.A
 N:=N
 s₀:=s
 H₀:=H
 env:=compEnvC scope (dy X.env.cells scope.names []) C X.env
 outer:=X.stack
 stack:=X.stack
 ex:=ex
 fn:=fun _=>false
 calm:=X.calm
 pn:=[]
 xe:=fun _ _=>False
structure jc (X:Cx) (scope:Scope) (ln:List Str) (fv:List (Str×Nat)):Prop where
 kind:scope.kind=.function
 EH:∀y∈scope.names,y.2≠ .cell
 locals:∀y∈scope.names,y.2=.local->scope.names.lookup y.1=some .local
 free:∀y∈scope.names,y.2=.free->(X.env.kindOf y.1=some .cell\/X.env.kindOf y.1=some .free)
 Qh:∀p∈fv,X.N[p.2]?=some p.1/\scope.names.lookup p.1=some .free
def cf(σ:St)(fv:List (Str×Nat)):St:=fv.map fun p=>(σ[p.2]?).join
def jd(K:Frag):Option Nat->V->Hp->(List V->Prop)->Prop
 |none,x,_,Q=>Q [x]
 |some n,x,H,Q=>if n=102 then ∃a xs,x=.ref a/\ay K H a xs/\xs.length=2/\Q xs else ∃a xs,x=.ref a/\aO K H a xs/\xs.length=n/\Q xs
theorem Qi{K:Frag}{n:Nat}{x:V}{H:Hp}{P Q:List V->Prop}(h:jd K (some n) x H P)(k:∀xs,P xs->Q xs):jd K (some n) x H Q:=by
 by_cases e:n=102
 ·have h:if n=102 then ∃a xs,x=.ref a/\ay K H a xs/\xs.length=2/\P xs else ∃a xs,x=.ref a/\aO K H a xs/\xs.length=n/\P xs:=h
  show if n=102 then ∃a xs,x=.ref a/\ay K H a xs/\xs.length=2/\Q xs else ∃a xs,x=.ref a/\aO K H a xs/\xs.length=n/\Q xs
  rw[if_pos e] at h⊢;obtain⟨a,xs,e1,e2,e3,q⟩:=h;exact⟨a,xs,e1,e2,e3,k _ q⟩
 ·have h:if n=102 then ∃a xs,x=.ref a/\ay K H a xs/\xs.length=2/\P xs else ∃a xs,x=.ref a/\aO K H a xs/\xs.length=n/\P xs:=h
  show if n=102 then ∃a xs,x=.ref a/\ay K H a xs/\xs.length=2/\Q xs else ∃a xs,x=.ref a/\aO K H a xs/\xs.length=n/\Q xs
  rw[if_neg e] at h⊢;obtain⟨a,xs,e1,e2,e3,q⟩:=h;exact⟨a,xs,e1,e2,e3,k _ q⟩
def kY:Option TT->TT
 |none=>fun _ H k=>k true H
 |some t=>t
def mD(K:Frag)(wi:TI)(tk:Option Nat)(fv:List (Str×Nat))(tc:Option TT)(te:TE):TE:=fun σ H Q=>
 wi σ H fun J H1=>∃W:Nat->Nat->List V->Hp->Prop,(∃m,W 0 m [] H1)/\∀i m ys H2,W i m ys H2->
  (J.stop i H2/\∀p,H2 p=none->Q (.ref p) (upd H2 p<|.lst ys))\/
  (J.go i H2/\∀x H3,J.gL i H2 x H3->jd K tk x H3 fun xs=>
   kY tc (xs.map some++cf σ fv) H3 fun b H5=>
    if b=true then te (xs.map some++cf σ fv) H5 fun y H6=>ys.length<sizeLine/\∃m',m'<m/\W (i+1) m' (ys++[y]) H6
    else ∃m',m'<m/\W (i+1) m' ys H5)
section
variable {X:Cx}{pins:List (Addr×Obj)}{σ:St}{H:Hp}{s₂ s₃:Shared}{scope:Scope}{ln:List Str}{fv:List (Str×Nat)}{fp:List Addr}{h₁:Heap}{D C:Addr}{m:Str->Option Value}{t:Nat}
theorem jc.cells(S:jc X scope ln fv)(I:Inv X pins σ H s₂){x:Str}{c:Addr}(h:(dy X.env.cells scope.names []).lookup x=some c):X.env.cells.lookup x=some c/\(x,NameKind.free)∈scope.names:=by
 rcases EE _ _ _ _ h with z|⟨z1,z2⟩
 ·cases z
 ·obtain⟨c',e⟩:=I.ok.has x (S.free _ z1 rfl);rw[e] at z2;have z3:c'=c:=z2;subst z3;exact⟨e,z1⟩
theorem jc.EI(S:jc X scope ln fv)(I:Inv X pins σ H s₂):closureFor scope X.env=pure (dy X.env.cells scope.names []):=
 Qc fun y hy hk=>I.ok.has y.1 (S.free y hy hk)
theorem Qj(S:jc X scope ln fv)(I:Inv X pins σ H s₂)(f2:∀b∈fp,iA X pins H b)(oy:∀b∈fp,∃o,s₂.heap.get? b=some o)
  (os:s₃.os=s₂.os) (gens:s₃.gens=s₂.gens) (k3:∀b o,s₂.heap.get? b=some o->s₃.heap.get? b=some o) (hD:D=s₂.heap.objs.size) (h3:s₃.heap.objs.size=s₂.heap.objs.size+1) (hC:C=s₃.heap.objs.size)
  (k4:∀b o,s₃.heap.get? b=some o->h₁.get? b=some o) (oq:h₁.Ns C m):
  Inv (fP X scope (ln++fv.map (·.1)) (D::fp) C s₃ H) [] (ln.map (fun _=>none)++cf σ fv) H {s₃ with heap:=h₁,toks:=t}:=by
 have cl:∀{x c},(dy X.env.cells scope.names []).lookup x=some c->X.env.cells.lookup x=some c:=fun h=>(S.cells I h).1;have Qk:∀{x c},(dy X.env.cells scope.names []).lookup x=some c->c<s₂.heap.objs.size:=fun h=>by
  obtain⟨v,q⟩:=I.cell _ _ (cl h);exact q.lt
 have Ql:∀b∈fp,b<s₂.heap.objs.size:=fun b hb=>by obtain⟨o,e⟩:=oy b hb;exact Heap.lt_size e
 have Qm:∀b∈D::fp,b<=s₂.heap.objs.size:=fun b hb=>by
  rcases zab.mp hb with e|hb
  ·rw[e,hD];exact zqR _
  ·exact zbb (Ql b hb)
 have EJ:∀x,(relabel scope X.env).names.lookup x=(scope.names.lookup x).map fun k=>if (k==NameKind.free && X.env.scope.kind==.function && X.env.kindOf x==some .cell) then NameKind.cell else k:=fun x=>EF scope.names x
 have Qn:∀x,scope.names.lookup x=some .free->((relabel scope X.env).names.lookup x=some .cell\/(relabel scope X.env).names.lookup x=some .free):=fun x e=>by
  rw[EJ,e]
  simp only[zbF]
  split
  ·exact .inl rfl
  ·exact .inr rfl
 have Qo:∀x,((relabel scope X.env).names.lookup x=some .cell\/(relabel scope X.env).names.lookup x=some .free)->(x,NameKind.free)∈scope.names:=fun x e=>by
  rw[EJ] at e;cases q:scope.names.lookup x with
  |none=>rw[q] at e;rcases e with e|e<;>cases e
  |some k=>
   rw[q] at e;have hm:(x,k)∈scope.names:=PySem.mem_of_lookup q
   simp only[zbF] at e
   by_cases hk:k=.free
   ·rw[hk] at hm;exact hm
   ·have hb:(k==NameKind.free)=false:=by simpa using hk
    simp only[hb,zbm,zaX,if_false] at e
    rcases e with e|e
    ·exact absurd (zak e) (S.EH _ hm)
    ·exact absurd (zak e) hk
 refine⟨⟨I.ok.mod,S.kind,I.ok.glob,I.ok.blt,zbd hC.symm,fun x y c h1 h2=>I.ok.inj x y c (cl h1) (cl h2),fun x hx=>y_ _ _ x (.inl (Qo x hx)),fun x c h _=>(by cases h),I.ok.hd,I.ok.frames,.inl rfl,fun b hb=>⟨?_,fun x c e=>?_⟩,fun b o e=>⟨k3 b o (I.bs b o e).1,(I.bs b o e).2⟩,?_,fun b o e hb=>?_,fun b hb hf=>?_,?_,I.uV⟩,
  rfl,?_,Un.kept fun b u e=>k4 b u e,⟨m,oq,fun i x v e1 e2 e3=>?_⟩,fun x c e=>?_,I.az.fresh ?_,fun x c e=>I.eN x c (cl e),fun p hp=>absurd (show p∈ ([]:List (Addr×Obj)) from hp) (by simp),I.az.kept fun b u e=>k4 b u (k3 b u e),?_⟩
 ·show b≠C;have:=Qm b hb;rw[hC,h3];exact zae (Nat.lt_succ_of_le this)
 ·have q1:=Qk e;rcases zab.mp hb with z|z
  ·rw[z,hD];exact zae q1
  ·exact(f2 b z).2.2.2.2.1 x c (cl e)
 ·show X.base.objs.size<=s₃.heap.objs.size;have:=zar I.ok.mf I.sz;lia
 ·have e2:=(I.bs b o e).1;have mE:b∈D::fp:=hb;rcases zab.mp mE with z|z
  ·have:=Heap.lt_size e2;rw[z,hD] at this;exact zaD _ this
  ·rcases (f2 b z).2.2.2.1 with q|q
   ·exact I.ok.uS b o e q
   ·exact absurd (zaw (Heap.lt_size (I.ok.bs b o e).1) q) (zaD _)
 ·have EK:b∈bj X.stack:=hf;have mE:b∈D::fp:=hb;rcases zab.mp mE with z|z
  ·rcases zab.mp (I.uU b EK) with q|q
   ·have:=I.lt;rw[<-q,z,hD] at this;exact zaD _ this
   ·exact I.De (by rw[z,hD];exact zqR _) q
  ·rcases zab.mp (I.uU b EK) with q|q
   ·exact(f2 b z).2.1 q
   ·exact(f2 b z).2.2.1 q
 ·exact PySem.Heap.FunFrames.of_keeps (fun b o e _=>⟨o,k3 b o e,rfl⟩) I.stack
 ·show AllBare s₃.gens;rw[gens];exact I.bare
 ·have hi:ln.length<=i:=by
   by_cases hi:i<ln.length
   ·exfalso
    rw[zbQ (by simpa using hi),zai] at e2
    cases q:ln[i]? with
    |none=>rw[q] at e2;cases e2
    |some y=>rw[q] at e2;cases e2
   ·lia
  have oz:(ln++fv.map (·.1))[i]?=some x:=e1;rw[zbo hi,zai] at oz;rw[zbo (by simpa using hi),zaa] at e2
  unfold cf at e2;rw[zai] at e2;cases q:fv[i - ln.length]? with
  |none=>rw[q] at oz;cases oz
  |some p=>
   rw[q] at oz e2;have ex:p.1=x:=zak oz;have ev:(σ[p.2]?).join=some v:=zak e2;obtain⟨g1,g2⟩:=S.Qh p (zav q);rw[ex] at g1 g2;have Qp:σ[p.2]?=some (some v):=by
    cases z:σ[p.2]? with
    |none=>rw[z] at ev;cases ev
    |some o=>rw[z] at ev;rw[show o=some v from ev]
   have hk:=S.free _ (PySem.mem_of_lookup g2) rfl;obtain⟨m2,oi,hl⟩:=I.loc;obtain⟨u,r,l⟩:=hl p.2 x v g1 Qp (by rcases hk with k|k;exact .inr (.inl k);exact .inr (.inr k))
   refine⟨u,r,.inr ?_⟩;rcases l with⟨k,_⟩|⟨_,c,ec,z⟩
   ·rcases hk with k'|k'<;>(rw[k] at k';cases k')
   ·refine⟨Qn x g2,c,?_,?_⟩
    ·obtain⟨c',e'⟩:=y_ (cells:=X.env.cells) scope.names [] x (.inl<|PySem.mem_of_lookup g2);have:=cl e';rw[ec] at this;cases this;exact e'
    ·obtain⟨o,ho,hd⟩:=z;exact⟨o,k4 c o<|k3 c o ho,hd⟩
 ·obtain⟨v,o,ho,hd⟩:=I.cell x c (cl e);exact⟨v,o,k4 c o<|k3 c o ho,hd⟩
 ·show s₂.heap.objs.size<=C;rw[hC,h3];exact zaL _
 ·show(ln.map (fun _=>none)++cf σ fv).length=(ln++fv.map (·.1)).length
  simp[cf]
end
structure za (Φ:Cx->Prop) (P:Program) (w:World) (K:Frag) (tg:Expr) (J:It) (fp:List Addr) (it:Addr) (tn:Nat->Heap->Prop):Prop where
 mem:it∈fp
 obj:∀i h,tn i h->∀b∈fp,∃o,h.get? b=some o/\∀v,o.data≠ .cell v
 keep:∀i h h',tn i h->(∀b∈fp,∀o,h.get? b=some o->h'.get? b=some o)->tn i h'
 item:∀(X:Cx),X.prog=P->X.w=w->X.K=K->Φ X->∀(i:Nat) (pins:List (Addr×Obj)) (s:Shared) (σ:St) (H:Hp) (E:Value->Shared->Prop),Inv X pins σ H s->(∀b∈fp,iA X pins H b)->tn i s.heap->J.go i H->
  wpAny (model P w) X.A (pyNext (.ref it)) (fun r s1=>∃u,r=some u/\
   wpAny (model P w) X.A (letOwnedTupleGo tg (.ref it) u) (fun _ s2=>∃x H',Inv X pins σ H' s2/\RelV x u/\J.gL i H x H'/\tn (i+1) s2.heap/\∀b∈fp,H' b=none) E s1) E s
 done:∀(X:Cx),X.prog=P->X.w=w->X.K=K->Φ X->∀(i:Nat) (pins:List (Addr×Obj)) (s:Shared) (σ:St) (H:Hp) (E:Value->Shared->Prop),Inv X pins σ H s->(∀b∈fp,iA X pins H b)->tn i s.heap->J.stop i H->
  wpAny (model P w) X.A (pyNext<|.ref it) (fun r s1=>r=none/\Inv X pins σ H s1) E s
 self:∀(A:Around) (i:Nat) (s:Shared) (Q:Value->Shared->Prop) (E:Value->Shared->Prop),tn i s.heap->Q (.ref it) s->wpAny (model P w) A (pyIter<|.ref it) Q E s
def vz(Φ:Cx->Prop)(X:Cx)(tg iter:Expr)(wi:TI):Prop:=
 ∀(pins:List (Addr×Obj)) (s:Shared) (σ:St) (H:Hp) (R:It->Hp->Prop),Inv X pins σ H s->wi σ H R->
  wpAny (model X.prog X.w) X.A (eval iter X.env) (fun v s1=>wpAny (model X.prog X.w) X.A (pyIter v) (fun nZ s2=>
   ∃(it:Addr) (fp:List Addr) (tn:Nat->Heap->Prop) (J:It) (H':Hp),nZ=.ref it/\Inv X pins σ H' s2/\za Φ X.prog X.w X.K tg J fp it tn/\tn 0 s2.heap/\(∀b∈fp,iA X pins H' b)/\R J H') X.xe s1) X.xe s
abbrev Calm(X:Cx):Prop:=X.calm=true
theorem PI.p{X:Cx}{tg iter:Expr}{wi:TI}(h:PI X tg iter wi):vz Calm X tg iter wi:=fun pins s σ H R I q=>
 aF (h pins s σ H R I q) fun v s1 h1=>aF h1 fun nZ s2 ⟨it,fp,tn,J,H',e,I',T,st,f,r⟩=>⟨it,fp,tn,J,H',e,I',⟨T.mem,T.obj,T.keep,T.item,T.done,T.self⟩,st,f,r⟩
section
variable {X:Cx}{pins:List (Addr×Obj)}{σ:St}{H:Hp}{s₂:Shared}{scope:Scope}{ln:List Str}{fv:List (Str×Nat)}{elt tg iter:Expr}{ifs:List Expr}{pos:Pos}
 {J:It}{fp:List Addr}{it:Addr}{tn:Nat->Heap->Prop}{tk:Option Nat}{tc:Option TT}{te:TE}{Qv:VK}{RR:Value->Addr->Result->Shared->Prop}{E:Value->Shared->Prop}
def vA(Ψ:Hp->Prop)(X:Cx)(scope:Scope)(ln:List Str)(fv:List (Str×Nat))(tg:Expr)(tk:Option Nat):Prop:=
 ∀(ex:List Addr) (C:Addr) (s:Shared) (H:Hp),Ψ H->∃g,PG (fP X scope (ln++fv.map (·.1)) ex C s H) tg g/\
  ∀(x:V) (pre φ:St) (H':Hp) (Q:St->Hp->Prop),pre.length=ln.length->jd X.K tk x H' (fun xs=>xs.length=ln.length->Q (xs.map some++φ) H')->g x (pre++φ) H' Q
def sI(X:Cx)(scope:Scope)(ln:List Str)(fv:List (Str×Nat))(tg:Expr)(tk:Option Nat):Prop:=
 ∀(ex:List Addr) (C:Addr) (s:Shared) (H:Hp),∃g,PG (fP X scope (ln++fv.map (·.1)) ex C s H) tg g/\
  ∀(x:V) (pre φ:St) (H':Hp) (Q:St->Hp->Prop),pre.length=ln.length->jd X.K tk x H' (fun xs=>xs.length=ln.length->Q (xs.map some++φ) H')->g x (pre++φ) H' Q
def sJ(X:Cx)(scope:Scope)(N:List Str)(ifs:List Expr)(tc:Option TT):Prop:=
 match tc with
 |none=>ifs=[]
 |some t=>∃c,ifs=[c]/\∀(ex:List Addr) (C:Addr) (s:Shared) (H:Hp),PT (fP X scope N ex C s H) c t
theorem EL{Φ:Cx->Prop}{Ψ:Hp->Prop}(S:jc X scope ln fv)(hc:∀Xc:Cx,Xc.A=X.A->Xc.calm=X.calm->Xc.H₀=H->Φ Xc)(hΨ:Ψ H)(hg:vA Ψ X scope ln fv tg tk)(ht:sJ X scope (ln++fv.map (·.1)) ifs tc)
  (he:∀(ex:List Addr) (C:Addr) (s:Shared) (H:Hp),PE (fP X scope (ln++fv.map (·.1)) ex C s H) elt te)
  (I:Inv X pins σ H s₂) (T:za Φ X.prog X.w X.K tg J fp it tn) (st:tn 0 s₂.heap) (f2:∀b∈fp,iA X pins H b)
  (h:∃W:Nat->Nat->List V->Hp->Prop,(∃m,W 0 m [] H)/\∀i m ys H2,W i m ys H2->
   (J.stop i H2/\∀p,H2 p=none->Qv (.ref p) (upd H2 p<|.lst ys))\/
   (J.go i H2/\∀x H3,J.gL i H2 x H3->jd X.K tk x H3 fun xs=>
    kY tc (xs.map some++cf σ fv) H3 fun b H5=>
     if b=true then te (xs.map some++cf σ fv) H5 fun y H6=>ys.length<sizeLine/\∃m',m'<m/\W (i+1) m' (ys++[y]) H6
     else ∃m',m'<m/\W (i+1) m' ys H5))
  (Qq:∀D C H' s' m,Inv X pins σ H' s'->s'.heap.Ns C m->H' C=none->C≠X.env.locals->X.s₀.heap.objs.size<=C->(∀x c,X.env.cells.lookup x=some c->c≠C)->(∀p∈X.pn++pins,p.1≠C)->Qv (.ref D) H'->RR (.ref D) C (.ok .next) s'):
  wpAny (model X.prog X.w) X.A (newList []) (fun acc s₃=>wpAny (model X.prog X.w) X.A (newFunctionEnv scope X.env.globals (dy X.env.cells scope.names []) [] X.env.qual none .none (some X.env)) (fun EM s₄=>
   codeAny (model X.prog X.w) X.A (.compStart (.ListComp elt [⟨tg,iter,ifs,0⟩] scope pos) 0 (.ref it) acc {EM with scope:=relabel scope X.env}) (RR acc EM.locals) s₄) E s₃) E s₂:=by
 obtain⟨W,⟨m0,w0⟩,turn⟩:=h;refine wpAny_newObj_type<|wpAny_newFunctionEnv S.EH (by intro y hy;simp at hy) (fun h₁ vB vC=>?_) S.kind
 dsimp only at vB vC⊢
 generalize vD:({s₂ with heap:=s₂.heap.push {cls:=.type "list",dict:=none,data:=.seq ([]:List Value).toArray}}:Shared)=s₃
 have sM:s₂.heap.push {cls:=.type "list",dict:=none,data:=.seq ([]:List Value).toArray}=s₃.heap:=by rw[<-vD]
 rw[sM] at vB vC⊢;have EN:s₃.os=s₂.os:=by rw[<-vD]
 have Qr:s₃.gens=s₂.gens:=by rw[<-vD]
 have oA:s₃.heap.objs.size=s₂.heap.objs.size+1:=by rw[<-sM,Heap.size_push]
 have k3:∀b o,s₂.heap.get? b=some o->s₃.heap.get? b=some o:=fun b o e=>by rw[<-sM];exact Heap.get?_push_of_some _ e
 have k4:∀b o,s₃.heap.get? b=some o->h₁.get? b=some o:=fun b o e=>vC.extBut b o (zae<|Heap.lt_size e) (Heap.get?_push_of_some _ e);have gD:s₃.heap.get? s₂.heap.objs.size=some {cls:=.type "list",dict:=none,data:=.seq ([]:List Value).toArray}:=by rw[<-sM];exact Heap.get?_push_size _ rfl
 generalize eD:s₂.heap.objs.size=D at gD;generalize eC:s₃.heap.objs.size=C at vB vC⊢;have vE:D≠C:=by rw[<-eD,<-eC,oA];exact zae (zaK _)
 have oy:∀b∈fp,∃o,s₂.heap.get? b=some o:=fun b hb=>by obtain⟨o,e,_⟩:=T.obj 0 _ st b hb;exact⟨o,e⟩
 have EO:∀b∈fp,b≠D:=fun b hb=>by obtain⟨o,e⟩:=oy b hb;rw[<-eD];exact zae (Heap.lt_size e)
 have Qs:∀b∈fp,b≠C:=fun b hb=>by
  obtain⟨o,e⟩:=oy b hb;have:=Heap.lt_size e;rw[<-eC,oA];exact zae (zaN this)
 generalize eX:fP X scope (ln++fv.map (·.1)) (D::fp) C s₃ H=Xc;have I4:∀t,Inv Xc [] (ln.map (fun _=>none)++cf σ fv) H {s₃ with heap:=h₁,toks:=t}:=fun t=>by
  rw[<-eX];exact Qj S I f2 oy EN Qr k3 eD.symm oA eC.symm k4 vB
 have xL:Xc.env.locals=C:=by rw[<-eX];rfl
 have vF:Xc.ex=D::fp:=by rw[<-eX];rfl
 have Qt:Xc.fs=bj X.stack:=by rw[<-eX];rfl
 have xP:Xc.prog=X.prog:=by rw[<-eX];rfl
 have xw:Xc.w=X.w:=by rw[<-eX];rfl
 have xK:Xc.K=X.K:=by rw[<-eX];rfl
 have xA:Xc.A=X.A:=by rw[<-eX];rfl
 have xc:Φ Xc:=hc Xc xA (by rw[<-eX];rfl) (by rw[<-eX];rfl)
 have ER:Xc.pn=[]:=by rw[<-eX];rfl
 have zb:Xc.xe=fun _ _=>False:=by rw[<-eX];rfl
 have ES:Xc.env.cells=dy X.env.cells scope.names []:=by rw[<-eX];rfl
 have zc:Xc.env=compEnvC scope (dy X.env.cells scope.names []) C X.env:=by rw[<-eX];rfl
 have cD:∀x c,Xc.env.cells.lookup x=some c->c≠D:=fun x c e=>by
  rw[ES] at e;obtain⟨v,q⟩:=I.cell x c (S.cells I e).1;rw[<-eD];exact zae q.lt
 have cF:∀x c,Xc.env.cells.lookup x=some c->∀b∈fp,c≠b:=fun x c e b hb=>by
  rw[ES] at e;exact(f2 b hb).2.2.2.2.1 x c (S.cells I e).1
 have sF:∀b∈D::fp,b∉Xc.fs:=fun b hb hf=>by
  have:=(I4 0).ok.uT b (by rw[vF];exact hb)
  exact this hf
 have n6:∀{H':Hp}{oD:Obj},(∀b∈fp,H' b=none)->∀b∈fp,iA Xc [(D,oD)] H' b:=fun hn b hb=>
  ⟨hn b hb,by rw[xL];exact Qs b hb,sF b (zao _ hb),.inl (by rw[vF];exact zao _ hb),fun x c e=>cF x c e b hb,fun p hp=>by
   rw[ER] at hp;rcases zaf.mp (show p∈ [(D,_)] from hp) with rfl
   exact(EO b hb).symm⟩
 have loop:∀s₄:Shared,s₄={s₃ with heap:=h₁,toks:=s₃.toks+([]:List (Str×Value)).length}->
   codeAny (model X.prog X.w) X.A (.compLoop (.ListComp elt [⟨tg,iter,ifs,0⟩] scope pos) 0 (.ref it) (.ref D)<|compEnvC scope (dy X.env.cells scope.names []) C X.env) (RR (.ref D) C) s₄:=by
  rintro s₄ rfl;refine Qe (fun n s'=>∃i pre ys aq nn H',Inv Xc [(D,{cls:=.type "list",data:=.seq (List.toArray aq) nn})] (pre++cf σ fv) H' s'/\pre.length=ln.length/\tn i s'.heap/\(∀b∈fp,H' b=none)/\Vals ys aq/\ys.length<=sizeLine/\W i n ys H') ?_ m0
   ⟨0,ln.map<|fun _=>none,[],[],0,H,(I4 _).qh<|fun p hp=>?_,by simp,T.keep 0 _ _ st<|fun b _ o e=>k4 b o<|k3 b o e,fun b hb=>(f2 b hb).1,.nil,zqZ _,w0⟩
  rotate_left
  ·have sN:=zaf.mp hp;subst sN;refine⟨k4 _ _ gD,I.az.fresh<|zbd eD,by rw[xL];exact vE,sF D zas,fun v z=>by cases z⟩
  rintro n s' ⟨i,pre,ys,aq,nn,H',I',kT,i9,kZ,hv,hz,w'⟩;have ad7:=I'.pin (D,_) (zaz _ zas);rcases turn i n ys H' w' with⟨stop,qn⟩|⟨go,step⟩
  ·have td:=T.done Xc xP xw xK xc i _ s' _ H' (fun _ _=>False) I' (n6 kZ) i9 stop;rw[xA] at td;refine aF td fun r s1 ⟨hr,I1⟩=>?_;subst hr;have zd:=I1.pin (D,_) (zaz _ zas);have b1:=I1.base;rw[Qt,vF] at b1;have ET:Xc.s₀=s₃:=by rw[<-eX];rfl
   have Qu:Xc.H₀=H:=by rw[<-eX];rfl
   rw[ET,Qu] at b1;have nD:∀b o,s₂.heap.get? b=some o->b∉fp->b∉D::fp:=fun b o e hb hm=>by
    rcases zab.mp hm with z|z
    ·have:=Heap.lt_size e;rw[z,eD] at this;exact zaD _ this
    ·exact hb z
   have un:Un (bj X.stack) fp H H' s₂.heap s1.heap:=⟨fun b o e nb hb hx=>b1.keep b o (k3 b o e) nb hb (nD b o e hx),fun b o e nb hb hx=>b1.slot b o (k3 b o e) nb hb (nD b o e hx),fun b o e nb hx=>b1.free b o (k3 b o e) nb (nD b o e hx),
    fun b o e hx=>b1.there b o (k3 b o e) (nD b o e hx),b1.eA,b1.d4,b1.fg⟩
   have Qw:s1.os=s₂.os:=by rw[I1.os,ET,EN]
   have qu:=I1.az;rw[xP,xw] at qu;have J1:Inv X pins σ H' s1:=I.yl Qw un qu I1.bare fun b hb=>⟨(f2 b hb).2.2.2.1,(f2 b hb).2.1,(f2 b hb).2.2.2.2.1,(f2 b hb).2.2.2.2.2⟩;have Qx:∀x c,X.env.cells.lookup x=some c->c≠D:=fun x c e=>by
    obtain⟨v,q⟩:=I.cell x c e;rw[<-eD];exact zae q.lt
   have Qy:∀x c,X.env.cells.lookup x=some c->c≠C:=fun x c e=>by
    obtain⟨v,q⟩:=I.cell x c e;rw[<-eC,oA];exact zae (zaN q.lt)
   have pD:∀p∈X.pn++pins,p.1≠D:=fun p hp=>by rw[<-eD];exact zae (Heap.lt_size (I.pin p hp).1)
   have pC:∀p∈X.pn++pins,p.1≠C:=fun p hp=>by
    rw[<-eC,oA];exact zae (zaN<|Heap.lt_size (I.pin p hp).1)
   have lD:D≠X.env.locals:=by rw[<-eD];exact Nat.ne_of_gt I.lt
   have lC:C≠X.env.locals:=by
    rw[<-eC,oA];exact Nat.ne_of_gt (zaN I.lt)
   have J2:Inv X pins σ (upd H' D<|.lst ys) s1:=Inv.P_ J1 zd.2.1 (by rw[<-eD];exact I.sz) lD Qx pD ⟨hz,aq,nn,hv,zd.1⟩
   obtain⟨mC,EU,_⟩:=I1.loc;rw[xL] at EU;have fC:H' C=none:=by have:=I1.free;rw[xL] at this;exact this
   exact Qq D C _ s1 mC J2 EU (by rw[ax<|Ne.symm vE];exact fC) lC (by rw[<-eC,oA];exact Nat.le_succ_of_le I.sz) Qy pC<|qn D zd.2.1
  ·have ti:=T.item Xc xP xw xK xc i _ s' _ H' (fun _ _=>False) I' (n6 kZ) i9 go;rw[xA] at ti;refine aF ti fun r s4 ⟨u,hr,h4⟩=>?_;subst hr;refine aF h4 fun _ s5 ⟨x,H5,I5,r5,y5,n_,yt⟩=>?_;have rV:=I5.pinned (n6 yt) (T.obj _ _ n_);obtain⟨g,pg,gq⟩:=hg (D::fp) C s₃ H hΨ;rw[eX] at pg;have rd:=step x H5 y5;have EV:=pg _ s5 _ H5 x u (fun σ6 H6=>∃xs:List V,σ6=xs.map some++cf σ fv/\xs.length=ln.length/\H6=H5/\
     kY tc (xs.map some++cf σ fv) H5 fun b H5=>
     if b=true then te (xs.map some++cf σ fv) H5 fun y H6=>ys.length<sizeLine/\∃m',m'<n/\W (i+1) m' (ys++[y]) H6
     else ∃m',m'<n/\W (i+1) m' ys H5) rV r5 (gq x pre (cf σ fv) H5 _ kT (by
      cases tk with
      |none=>exact fun hl=>⟨_,rfl,hl,rfl,rd⟩
      |some k=>exact Qi rd fun xs rd hl=>⟨xs,rfl,hl,rfl,rd⟩))
   rw[xA,xP,xw,zb,zc] at EV;refine aF EV fun _ s6 ⟨σ6,H6,I6,xs,e6,EW,eH,EX⟩=>?_;subst e6 eH;have EY:∀{H7:Hp}{σ7:St}{s7:Shared},Inv Xc ([(D,{cls:=.type "list",data:=.seq (List.toArray aq) nn})]++qm fp s5.heap) σ7 H7 s7->tn (i+1) s7.heap/\(∀b∈fp,H7 b=none)/\s7.heap.get? D=some {cls:=.type "list",data:=.seq (List.toArray aq) nn}/\H7 D=none:=fun {H7 σ7 s7} I7=>by
    refine⟨T.keep _ _ _ n_ fun b hb o e=>(I7.pin (b,o)<|zaz _<|zaz _<|vb hb e).1,fun b hb=>?_,?_,?_⟩
    ·obtain⟨o,e,d⟩:=T.obj _ _ n_ b hb;exact(I7.pin (b,o)<|zaz _<|zaz _<|vb hb e).2.1
    ·exact(I7.pin (D,_)<|zaz _<|zaS _ zas).1
    ·exact(I7.pin (D,_)<|zaz _<|zaS _ zas).2.1
   have tests:wpAny (model X.prog X.w) X.A (forIn ifs true fun c r=>if r=true then do let ok <-isTrue c (compEnvC scope (dy X.env.cells scope.names []) C X.env) (eval c<|compEnvC scope (dy X.env.cells scope.names []) C X.env);pure (ForInStep.yield ok) else pure (ForInStep.yield r))
     (fun ok s7=>∃H7,Inv Xc ([(D,{cls:=.type "list",data:=.seq (List.toArray aq) nn})]++qm fp s5.heap) (xs.map some++cf σ fv) H7 s7/\
      if ok=true then te (xs.map some++cf σ fv) H7 fun y H6=>ys.length<sizeLine/\∃m',m'<n/\W (i+1) m' (ys++[y]) H6
      else ∃m',m'<n/\W (i+1) m' ys H7) (fun _ _=>False) s6:=by
    cases tc with
    |none=>
     have ze:ifs=[]:=ht;subst ze;exact wpAny_tests_nil ⟨_,I6,EX⟩
    |some t=>
     obtain⟨c,ze,pt⟩:=(show ∃c,ifs=[c]/\∀(ex:List Addr) (C:Addr) (s:Shared) (H:Hp),PT (fP X scope (ln++fv.map (·.1)) ex C s H) c t from ht)
     subst ze;have EZ:=pt (D::fp) C s₃ H;rw[eX] at EZ;have q:=EZ _ s6 _ _ _ I6 EX;rw[xA,xP,xw,zb,zc] at q;exact wpAny_tests_one<|aF q fun b s7 ⟨H7,I7,q7⟩=>⟨H7,I7,q7⟩
   refine aF tests fun ok s7 ⟨H7,I7,q7⟩=>?_;cases ok with
   |false=>
    simp only[zaX,if_false] at q7⊢
    obtain⟨m',hm,w7⟩:=q7;obtain⟨t7,f7,d7,n7⟩:=EY I7;refine⟨m',hm,i+1,xs.map some,ys,aq,nn,H7,I7.qh<|fun p hp=>?_,by simpa using EW,t7,f7,hv,hz,w7⟩
    exact I7.pin p<|zaz _<|zaS _ hp
   |true=>
    simp only[if_true] at q7⊢
    have q:=he (D::fp) C s₃ H;rw[eX] at q;have q:=q _ s7 _ H7 _ I7 q7;rw[xA,xP,xw,zb,zc] at q;refine aF q fun uy s8 ⟨y,H8,I8,r8,aG,m',hm,w8⟩=>?_;obtain⟨t8,f8,d8,n8⟩:=EY I8;have hl:=hv.length;refine call_meets F.slot_list_append ⟨_,d8,rfl⟩ F.entry_list_append (F.args_list_append_2 _ _) (PySem.list_append D aq.toArray nn uy (by rw[zah];lia)) ⟨d8,?_⟩
    have I9:∀t,Inv Xc [] (xs.map some++cf σ fv) H8 {s8 with heap:=s8.heap.update D (Obj.mapSeq (·.push uy)),toks:=t}:=fun t=>
     (I8.qh (pins':=[])<|fun p hp=>absurd hp (by simp)).turned (it:=D) (t':=t) (fun b o hb e=>(Heap.get?_update_other s8.heap (Obj.mapSeq (·.push uy))<|Ne.symm hb).trans e) n8 (by rw[xL];exact vE) (.inl (by rw[vF];exact zas)) cD
      (fun p hp=>by rw[ER] at hp;exact absurd hp (by simp))
    have g9:=PySem.IsL.update d8 (·.push uy);obtain⟨n9,Qz⟩:∃n9,(s8.heap.update D (Obj.mapSeq (·.push uy))).get? D=some {cls:=.type "list",data:=.seq (aq++[uy]).toArray n9}:=
     ⟨_,by rw[show(aq++[uy]).toArray=aq.toArray.push uy by simp];exact g9⟩
    refine⟨m',hm,i+1,xs.map some,ys++[y],aq++[uy],n9,H8,(I9 _).qh<|fun p hp=>?_,by simpa using EW,?_,f8,hv.append<|.cons r8 .nil,?_,w8⟩
    ·have sN:=zaf.mp hp;subst sN;exact⟨Qz,n8,by rw[xL];exact vE,sF D zas,fun v z=>by cases z⟩
    ·exact T.keep _ _ _ t8 fun b hb o e=>(Heap.get?_update_other s8.heap (Obj.mapSeq (·.push uy))<|Ne.symm<|EO b hb).trans e
    ·rw[zqA,zbs];lia
 have QC:tn 0 h₁:=T.keep 0 _ _ st fun b _ o e=>k4 b o (k3 b o e);have e4:({s₂ with heap:=h₁,toks:=s₂.toks+([]:List (Str×Value)).length}:Shared)={s₃ with heap:=h₁,toks:=s₃.toks+([]:List (Str×Value)).length}:=by rw[<-vD]
 exact codeAny_compStart_list (loop _ e4)<|T.self X.A 0 _ _ _ QC<|loop _ e4
end
section
variable {X:Cx}{scope:Scope}{ln:List Str}{fv:List (Str×Nat)}{elt tg iter:Expr}{ifs:List Expr}{pos:Pos}{wi:TI}{tk:Option Nat}{tc:Option TT}{te:TE}
theorem QD{Φ:Cx->Prop}{Ψ:Hp->Prop}(S:jc X scope ln fv)(hc:∀H,Ψ H->∀Xc:Cx,Xc.A=X.A->Xc.calm=X.calm->Xc.H₀=H->Φ Xc)(hΨ:∀pins σ H s,Inv X pins σ H s->Ψ H)(hi:vz Φ X tg iter wi)(hg:vA Ψ X scope ln fv tg tk)(ht:sJ X scope (ln++fv.map (·.1)) ifs tc)
  (he:∀(ex:List Addr) (C:Addr) (s:Shared) (H:Hp),PE (fP X scope (ln++fv.map (·.1)) ex C s H) elt te) (hs:∀x,foldedSetIterable iter X.env x=pure x:=by intro _;rfl):
  PE X (.ListComp elt [⟨tg,iter,ifs,0⟩] scope pos) (mD X.K wi tk fv tc te):=by
 intro pins s σ H Q I h;rw[eval_ListComp];refine wpAny_comprehension_free (use:=none) rfl hs (S.EI I) S.kind S.locals<|aF (hi pins s σ H _ I h) fun v s1 h1=>aF h1 fun nZ s2 h2=>?_;obtain⟨it,fp,tn,J,H2,e,I2,T,rT,f2,hW⟩:=h2;subst e;refine EL (RR:=fun acc C=>compPost (model X.prog X.w) X.A X.xe none (EP X pins σ Q) acc C) S (hc H2<|hΨ _ _ _ _ I2) (hΨ _ _ _ _ I2) hg ht he I2 T rT f2 hW ?_;intro D C H' s' m I' ns hn hL h0 oB hp q;refine⟨m,ns,fun h' sb=>⟨.ref D,H',?_,rfl,q⟩⟩;exact I'.turned (it:=C) (t':=s'.toks) (fun b o hb e=>sb.extBut b o hb e) hn hL (.inr h0) oB hp
theorem E1{Φ:Cx->Prop}{Ψ:Hp->Prop}{i:Nat}{y:Str}{py sO:Pos}(hN:X.N.Nodup)(cX:X.N[i]?=some y)(hy:Loc X.env.scope y)(zf:swapsWith (.ListComp elt [⟨tg,iter,ifs,0⟩] scope pos) (some<|.Name y py) sO.line X.env=pure true)
  (S:jc X scope ln fv) (hc:∀H,Ψ H->∀Xc:Cx,Xc.A=X.A->Xc.calm=X.calm->Xc.H₀=H->Φ Xc) (hΨ:∀pins σ H s,Inv X pins σ H s->Ψ H) (hi:vz Φ X tg iter wi) (hg:vA Ψ X scope ln fv tg tk) (ht:sJ X scope (ln++fv.map (·.1)) ifs tc)
  (he:∀(ex:List Addr) (C:Addr) (s:Shared) (H:Hp),PE (fP X scope (ln++fv.map (·.1)) ex C s H) elt te) (hs:∀x,foldedSetIterable iter X.env x=pure x:=by intro _;rfl)
  (hf:X.fn y=true\/X.env.scope.names.lookup y=some .local:=by first|exact .inl rfl|exact .inr rfl|assumption):
  PS X (.Assign [.Name y py] (.ListComp elt [⟨tg,iter,ifs,0⟩] scope pos) sO) (iz (mD X.K wi tk fv tc te)<|dv i):=by
 intro pins s σ H D I h;rw[exec_Assign_Name_used _ _ _ _ zf];refine wpAny_bind<|wpAny_standAt<|wpAny_bind ?_;show wpAny _ X.A (do let _ <-comprehension (.ListComp elt [⟨tg,iter,ifs,0⟩] scope pos) scope X.env _ (newList []) false (eval iter X.env) (some<|assign (.Name y py) X.env)) _ _ s
 refine wpAny_bind (wpAny_mono (wpAny_comprehension_free (use:=some (assign (.Name y py) X.env)) (Q:=fun _ s'=>SP X pins D .next s') rfl hs (S.EI I) S.kind S.locals
  (aF (hi pins s σ H _ I h) fun v s1 h1=>aF h1 fun nZ s2 h2=>?_)) (fun _ s' hq=>wpAny_pure (wpAny_pure hq)) fun _ _ e=>e)
 obtain⟨it,fp,tn,J,H2,e,I2,T,rT,f2,hW⟩:=h2;subst e;refine EL (Qv:=fun x H1=>dv i x σ H1 D.nx) (RR:=fun acc C=>compPost (model X.prog X.w) X.A X.xe (some<|assign (.Name y py) X.env) (fun _ s'=>SP X pins D .next s') acc C) S (hc H2<|hΨ _ _ _ _ I2) (hΨ _ _ _ _ I2) hg ht he I2 T rT f2 hW ?_;intro Da C H' s' m I' ns hn hL h0 oB hp q;show wpAny _ X.A (assign (.Name y py) X.env<|.ref Da) _ _ _;refine wpAny_assign_Name<|Di I' hN cX hy (v:=.ref Da) rfl (fun s4 I4 ⟨a,sb,ha⟩=>?_) hf;have QE:C≠a:=by
  rcases ha with z|z
  ·rw[z];exact hL
  ·exact Ne.symm (oB _ _ z)
 refine⟨m,ns.sameBut sb QE,fun h' QF=>⟨_,H',?_,q⟩⟩;exact I4.turned (it:=C) (t':=s4.toks) (fun b o hb e=>QF.extBut b o hb e) hn hL (.inr h0) oB hp
theorem QG(S:jc X scope ln fv)(hc:X.calm=true)(hi:PI X tg iter wi)(hg:sI X scope ln fv tg tk)(ht:sJ X scope (ln++fv.map (·.1)) ifs tc)
  (he:∀(ex:List Addr) (C:Addr) (s:Shared) (H:Hp),PE (fP X scope (ln++fv.map (·.1)) ex C s H) elt te) (hs:∀x,foldedSetIterable iter X.env x=pure x:=by intro _;rfl):
  PE X (.ListComp elt [⟨tg,iter,ifs,0⟩] scope pos) (mD X.K wi tk fv tc te):=
 QD (Φ:=Calm) (Ψ:=fun _=>True) S (fun _ _ Xc _ e _=>e.trans hc) (fun _ _ _ _ _=>trivial) hi.p (fun ex C s H _=>hg ex C s H) ht he hs
theorem QH{i:Nat}{y:Str}{py sO:Pos}(hN:X.N.Nodup)(cX:X.N[i]?=some y)(hy:Loc X.env.scope y)(zf:swapsWith (.ListComp elt [⟨tg,iter,ifs,0⟩] scope pos) (some<|.Name y py) sO.line X.env=pure true)
  (S:jc X scope ln fv) (hc:X.calm=true) (hi:PI X tg iter wi) (hg:sI X scope ln fv tg tk) (ht:sJ X scope (ln++fv.map (·.1)) ifs tc)
  (he:∀(ex:List Addr) (C:Addr) (s:Shared) (H:Hp),PE (fP X scope (ln++fv.map (·.1)) ex C s H) elt te) (hs:∀x,foldedSetIterable iter X.env x=pure x:=by intro _;rfl)
  (hf:X.fn y=true\/X.env.scope.names.lookup y=some .local:=by first|exact .inl rfl|exact .inr rfl|assumption):
  PS X (.Assign [.Name y py] (.ListComp elt [⟨tg,iter,ifs,0⟩] scope pos) sO) (iz (mD X.K wi tk fv tc te)<|dv i):=
 E1 (Φ:=Calm) (Ψ:=fun _=>True) hN cX hy zf S (fun _ _ Xc _ e _=>e.trans hc) (fun _ _ _ _ _=>trivial) hi.p (fun ex C s H _=>hg ex C s H) ht he hs hf
end
section
variable {X:Cx}{scope:Scope}{fv:List (Str×Nat)}
theorem QI{x:Str}{px:Pos}(hl:scope.names.lookup x=some .local)(oC:(x::fv.map (·.1)).Nodup):sI X scope [x] fv (.Name x px) none:=by
 intro ex C s H;have QJ:Loc (fP X scope ([x]++fv.map (·.1)) ex C s H).env.scope x:=.inl (lookup_relabel_local hl);refine⟨dv 0,qj (X:=fP X scope ([x]++fv.map (·.1)) ex C s H) oC rfl QJ<|.inr<|lookup_relabel_local hl,fun v pre φ H' Q hp h=>?_⟩;obtain⟨a,rfl⟩:∃a,pre=[a]:=by
  match pre,hp with
  |[a],_=>exact⟨a,rfl⟩
 exact h rfl
theorem QK{x y:Str}{px py pos:Pos}{k:Nat}(hc:X.calm=true)(hx:scope.names.lookup x=some .local)(hy:scope.names.lookup y=some .local)(oC:(x::y::fv.map (·.1)).Nodup):sI X scope [x,y] fv (.Tuple [.Name x px,.Name y py] k pos) (some 2):=by
 intro ex C s H;generalize eX:fP X scope ([x,y]++fv.map (·.1)) ex C s H=Xc;have xN:Xc.N=x::y::fv.map (·.1):=by rw[<-eX];rfl
 have xc:Xc.calm=true:=by rw[<-eX];exact hc
 have lx:Xc.env.scope.names.lookup x=some .local:=by rw[<-eX];exact lookup_relabel_local hx
 have ly:Xc.env.scope.names.lookup y=some .local:=by rw[<-eX];exact lookup_relabel_local hy
 have p1:PG Xc (.Name x px) (dv 0):=qj (by rw[xN];exact oC) (by rw[xN];rfl) (.inl lx) (.inr lx)
 have p2:PG Xc (.Name y py) (dv 1):=qj (by rw[xN];exact oC) (by rw[xN];rfl) (.inl ly) (.inr ly)
 have xK:Xc.K=X.K:=by rw[<-eX];rfl
 refine⟨u0 Xc.K 2<|ql (dv 0)<|ql (dv 1) uZ,DG xc<|rQ p1<|rQ p2 yp,fun v pre φ H' Q hp h=>?_⟩;obtain⟨a,b,rfl⟩:∃a b,pre=[a,b]:=by
  match pre,hp with
  |[a,b],_=>exact⟨a,b,rfl⟩
 obtain⟨a',xs,rfl,e2,e3,q⟩:=h;obtain⟨v1,v2,rfl⟩:∃v1 v2,xs=[v1,v2]:=by
  match xs,e3 with
  |[v1,v2],_=>exact⟨v1,v2,rfl⟩
 exact⟨a',_,rfl,by rw[xK];exact e2,rfl,v1,_,rfl,v2,_,rfl,rfl,q rfl⟩
end
section
variable {X:Cx}
theorem aX.imp{f:Value->Value->Sem Value}{r r':R2}(h:aX X f r)(i:∀x y H Q,r' x y H Q->r x y H Q):aX X f r':=fun pins s σ H x y v u Q I rx ry q=>h pins s σ H x y v u Q I rx ry (i _ _ _ _ q)
theorem cv.imp{f:Value}{r r':List V->Hp->VK->Prop}(h:cv X f r)(i:∀xs H Q,r' xs H Q->r xs H Q):cv X f r':=fun pins s σ H xs us Q I rv q=>h pins s σ H xs us Q I rv (i _ _ _ q)
def E2(K:Frag):R2:=fun x y H Q=>match x,y with
 |.int i,.int j=>Q (.int<|i+j) H
 |.str i,.str j=>i.length+j.length<=sizeLine/\Q (.str<|i++j) H
 |.ref l,.ref b=>Er (.ref l) (.ref b) H Q\/Eh K (.ref l) (.ref b) H Q
 |_,_=>False
theorem QL:aX X (binaryOp .Add) (E2 X.K):=by
 refine aX.imp ((NH.or N8).or<|Pp.or OS) fun x y H Q h=>?_;cases x<;>cases y<;>first
  |exact False.elim h
  |exact .inl (.inl ⟨_,_,rfl,rfl,h⟩)
  |exact .inl (.inr ⟨_,_,rfl,rfl,h⟩)
  |exact .inr h
def jP(C:Int->Int->Prop)(g:Int->Int->V):R2:=fun x y H Q=>match x,y with
 |.int i,.int j=>C i j/\Q (g i j) H
 |_,_=>False
theorem zg{C:Int->Int->Prop}{g:Int->Int->V}(x y:V)(H:Hp)(Q:VK)(h:jP C g x y H Q):rI C g x y H Q:=by
 cases x<;>cases y<;>first
  |exact False.elim h
  |exact⟨_,_,rfl,rfl,h⟩
theorem sP{g:Int->Int->V}(x y:V)(H:Hp)(Q:VK)(h:jP (fun _ _=>True) g x y H Q):kD g x y H Q:=by
 cases x<;>cases y<;>first
  |exact False.elim h
  |exact⟨_,_,rfl,rfl,h.2⟩
def E3:R2:=fun x y H Q=>match x,y with
 |.int i,.int j=>rW i j/\Q (.int<|i*j) H
 |.ref l,.int k=>Es (.ref l) (.int k) H Q
 |_,_=>False
theorem QM:aX X (binaryOp .Mult) E3:=by
 refine aX.imp (NJ.or Pq) fun x y H Q h=>?_;cases x<;>cases y<;>first
  |exact False.elim h
  |exact .inl ⟨_,_,rfl,rfl,h⟩
  |exact .inr h
def iD(K:Frag):Operator->R2
 |.Add=>E2 K
 |.Sub=>jP (fun _ _=>True) fun i j=>.int (i - j)
 |.Mult=>E3
 |.FloorDiv=>jP yv fun i j=>.int (i / j)
 |.Mod=>jP (fun _ j=>0<j) fun i j=>.int (i % j)
 |.Pow=>jP yw fun i j=>.int (i ^ j.toNat)
 |_=>fun _ _ _ _=>False
theorem QN(op:Operator):aX X (binaryOp op) (iD X.K op):=by
 cases op<;>first
  |exact QL
  |exact aX.imp NI sP
  |exact QM
  |exact aX.imp NK zg
  |exact aX.imp NL zg
  |exact aX.imp NM zg
  |exact fun _ _ _ _ _ _ _ _ _ _ _ _ h=>False.elim h
mutual
def Is(H:Hp):PyData->V->Prop
 |.none,v=>v=.aD
 |.bool b,v=>v=.bl b
 |.int i,v=>v=.int i
 |.str x,v=>v=.str x
 |.list xs,v=>∃a vs,v=.ref a/\H a=some (.lst vs)/\IsL H xs vs
 |.tuple xs,v=>∃a vs,v=.ref a/\H a=some (.tup vs)/\IsL H xs vs
 |.dict _,_=>False
def IsL(H:Hp):List PyData->List V->Prop
 |[],vs=>vs=[]
 |d::ds,vs=>∃v r,vs=v::r/\Is H d v/\IsL H ds r
end
mutual
theorem Is.reads{pins:List (Addr×Obj)}{σ:St}{H:Hp}{s:Shared}(I:Inv X pins σ H s):∀(d:PyData) (v:V) (u:Value),Is H d v->RelV v u->∃as,Reads s.heap u d as
 |.none,v,u,h,r=>by rw[show v=.aD from h] at r;rw[show u=.none from r];exact⟨_,.none⟩
 |.bool b,v,u,h,r=>by rw[show v=.bl b from h] at r;rw[show u=.bool b from r];exact⟨_,.bool b⟩
 |.int i,v,u,h,r=>by rw[show v=.int i from h] at r;obtain⟨t,e⟩:=r;rw[e];exact⟨_,.int i t⟩
 |.str x,v,u,h,r=>by rw[show v=.str x from h] at r;obtain⟨t,e⟩:=r;rw[e];exact⟨_,.str x t⟩
 |.list xs,v,u,h,r=>by
  obtain⟨a,vs,e,hH,hl⟩:=(show ∃a vs,v=.ref a/\H a=some (.lst vs)/\IsL H xs vs by simpa only[Is] using h)
  rw[e] at r;rw[show u=.ref a from r]
  obtain⟨_,aq,n,hv,hg⟩:=I.az a _ hH;obtain⟨as,q⟩:=IsL.reads I xs vs aq hl hv;exact⟨_,.list hg rfl rfl (by simpa using q)⟩
 |.tuple xs,v,u,h,r=>by
  obtain⟨a,vs,e,hH,hl⟩:=(show ∃a vs,v=.ref a/\H a=some (.tup vs)/\IsL H xs vs by simpa only[Is] using h)
  rw[e] at r;rw[show u=.ref a from r]
  obtain⟨_,aq,hv,o,hg,hc,n,hd⟩:=I.az a _ hH;obtain⟨as,q⟩:=IsL.reads I xs vs aq hl hv;exact⟨_,.tuple hg hc hd (by simpa using q)⟩
 |.dict _,v,u,h,r=>by simp only[Is] at h
theorem IsL.reads{pins:List (Addr×Obj)}{σ:St}{H:Hp}{s:Shared}(I:Inv X pins σ H s):∀(ds:List PyData) (vs:List V) (us:List Value),IsL H ds vs->Vals vs us->∃as,ReadsAll s.heap us ds as
 |[],vs,us,h,r=>by
  rw[show vs=[] from h] at r
  cases r;exact⟨_,.nil⟩
 |d::ds,vs,us,h,r=>by
  obtain⟨v,q,e,h1,h2⟩:=(show ∃v r,vs=v::r/\Is H d v/\IsL H ds r by simpa only[IsL] using h)
  rw[e] at r;cases r with
  |cons r1 r2=>
   obtain⟨as,q1⟩:=Is.reads I d v _ h1 r1;obtain⟨bs,q2⟩:=IsL.reads I ds q _ h2 r2;exact⟨_,.cons q1 q2⟩
end
def QO:V->Bool
 |.ma _=>false
 |.e9 _=>false
 |_=>true
def QP:R2:=fun x y H Q=>∃a b xs,x=.ref a/\y=.ref b/\H a=some (.lst xs)/\H b=some (.lst xs)/\xs.all QO=true/\Q (.bl true) H
def k7(neg:Bool):R2:=fun x y H Q=>match jK x y with
 |true=>Q (.bl<|neg ^^ decide (x=y)) H
 |false=>∃d e,Is H d x/\Is H e y/\SeqAt.shaped d=true/\SeqAt.shaped e=true/\Q (.bl<|neg ^^ PyData.eqv d e) H
def QR:R2:=fun x y H Q=>k7 false x y H Q\/QP x y H Q
theorem QS(hu:X.A.units+64<cLine):aX X (compareOp .Eq) (k7 false):=by
 intro pins s σ H x y v u Q I rx ry h;unfold k7 at h;by_cases hs:jK x y=true
 ·rw[hs] at h
  simp only[zaO] at h
  exact NR pins s σ H x y v u Q I rx ry ⟨hs,h⟩
 ·rw[show jK x y=false by simpa using hs] at h
  obtain⟨d,e,h1,h2,h3,h4,q⟩:=h;rw[zaO] at q;obtain⟨as,r1⟩:=Is.reads I d x v h1 rx;obtain⟨bs,r2⟩:=Is.reads I e y u h2 ry;exact eq_dataH r1 r2 h3 h4 hu ⟨.bl _,H,I,rfl,q⟩
theorem QU(hu:X.A.units+64<cLine):aX X (compareOp .NotEq) (k7 true):=by
 intro pins s σ H x y v u Q I rx ry h;unfold k7 at h;by_cases hs:jK x y=true
 ·rw[hs] at h
  simp only[zbg] at h
  exact NT pins s σ H x y v u Q I rx ry ⟨hs,h⟩
 ·rw[show jK x y=false by simpa using hs] at h
  obtain⟨d,e,h1,h2,h3,h4,q⟩:=h;rw[zbg] at q;obtain⟨as,r1⟩:=Is.reads I d x v h1 rx;obtain⟨bs,r2⟩:=Is.reads I e y u h2 ry;exact ne_dataH r1 r2 h3 h4 hu ⟨.bl _,H,I,rfl,q⟩
def ad8(K:Frag)(H:Hp)(a:Addr):Prop:=(∃xs,ay K H a xs)\/(∃xs,aO K H a xs)\/∃kvs,H a=some (.dK kvs)
def vG(K:Frag)(neg:Bool):R2:=fun x y H Q=>match y with
 |.str j=>∃i,x=.str i/\Q (.bl (if neg then !(!(Builtin.Str.occurrences j i 0 j.length 1).isEmpty) else !(Builtin.Str.occurrences j i 0 j.length 1).isEmpty)) H
 |.ref p=>match x with
  |.ref _=>False
  |x=>yP K neg x (.ref p) H Q
 |_=>False
theorem QV(hu:X.A.units+64<cLine):aX X (compareOp .In) (vG X.K false):=by
 intro pins s σ H x y v u Q I rx ry h;cases y with
 |str j=>
  obtain⟨i,e,q⟩:=h;exact NY pins s σ H x _ v u Q I rx ry ⟨i,j,e,rfl,q⟩
 |ref p=>
  cases x with
  |ref a=>exact False.elim h
  |_=>exact O6 pins s σ H _ _ v u Q I rx ry h
 |_=>exact False.elim h
theorem QW(hu:X.A.units+64<cLine):aX X (compareOp .NotIn) (vG X.K true):=by
 intro pins s σ H x y v u Q I rx ry h;cases y with
 |str j=>
  obtain⟨i,e,q⟩:=h;exact N2 pins s σ H x _ v u Q I rx ry ⟨i,j,e,rfl,q⟩
 |ref p=>
  cases x with
  |ref a=>exact False.elim h
  |_=>exact O7 pins s σ H _ _ v u Q I rx ry h
 |_=>exact False.elim h
theorem QX{M:Model}{A:Around}{E:Value->Shared->Prop}{s:Shared}{Q:Value->Shared->Prop}{v:Value}{d:Bool}(hv:∀id,v≠ .builtin id)(h:Q (.bool<|v==.bool d) s):wpAny M A (compareOp .Is v<|.bool d) Q E s:=by
 cases v<;>first|exact wpAny_pure h|exact absurd rfl (hv _)
theorem QY{M:Model}{A:Around}{E:Value->Shared->Prop}{s:Shared}{Q:Value->Shared->Prop}{v:Value}{d:Bool}(hv:∀id,v≠ .builtin id)(h:Q (.bool<|!(v==.bool d)) s):wpAny M A (compareOp .IsNot v<|.bool d) Q E s:=by
 cases v<;>first|exact wpAny_pure h|exact absurd rfl (hv _)
def E4:R2:=fun x y H Q=>match y with
 |.bl b=>Q (.bl<|decide<|x=.bl b) H
 |_=>y=.aD/\Q (.bl<|decide<|x=.aD) H
def E5:R2:=fun x y H Q=>match y with
 |.bl b=>Q (.bl<|!decide (x=.bl b)) H
 |_=>y=.aD/\Q (.bl<|!decide (x=.aD)) H
theorem QZ:aX X (compareOp .Is) E4:=by
 intro pins s σ H x y v u Q I rx ry h;cases y with
 |bl b=>
  cases ry;have nb:∀id,v≠ .builtin id:=fun id z=>by
   subst z;cases x<;>first
    | (obtain⟨t,e⟩:=rx;cases e;done)
    | (cases rx;done)
  refine QX nb<|bV I (show Q (.bl<|decide<|x=.bl b) H from h) ?_
  cases x<;>first
   | (cases rx;rfl)
   | (obtain⟨t,rfl⟩:=rx;rfl)
   | (cases rx;rename_i a;cases a<;>cases b<;>rfl)
 |_=>exact NZ pins s σ H x _ v u Q I rx ry h
theorem Q0:aX X (compareOp .IsNot) E5:=by
 intro pins s σ H x y v u Q I rx ry h;cases y with
 |bl b=>
  cases ry;have nb:∀id,v≠ .builtin id:=fun id z=>by
   subst z;cases x<;>first
    | (obtain⟨t,e⟩:=rx;cases e;done)
    | (cases rx;done)
  refine QY nb<|bV I (show Q (.bl<|!decide (x=.bl b)) H from h) ?_
  cases x<;>first
   | (cases rx;rfl)
   | (obtain⟨t,rfl⟩:=rx;rfl)
   | (cases rx;rename_i a;cases a<;>cases b<;>rfl)
 |_=>exact N1 pins s σ H x _ v u Q I rx ry h
def cy(K:Frag):CmpOp->R2
 |.Eq=>k7 false
 |.NotEq=>k7 true
 |.Lt=>jP (fun _ _=>True) fun i j=>.bl (decide<|i<j)
 |.LtE=>jP (fun _ _=>True) fun i j=>.bl (decide<|i<=j)
 |.Gt=>jP (fun _ _=>True) fun i j=>.bl (decide<|j<i)
 |.GtE=>jP (fun _ _=>True) fun i j=>.bl (decide<|j<=i)
 |.In=>vG K false
 |.NotIn=>vG K true
 |.Is=>E4
 |.IsNot=>E5
theorem qv(hu:X.A.units+64<cLine)(op:CmpOp):aX X (compareOp op) (cy X.K op):=by
 cases op with
 |Eq=>exact QS hu
 |NotEq=>exact QU hu
 |Lt=>exact aX.imp NU sP
 |LtE=>exact aX.imp NV sP
 |Gt=>exact aX.imp NW sP
 |GtE=>exact aX.imp NX sP
 |In=>exact QV hu
 |NotIn=>exact QW hu
 |Is=>exact QZ
 |IsNot=>exact Q0
inductive Ty where|int|str|bool|list|tuple|dict
 deriving DecidableEq
def Ty.nm:Ty->String
 |.int=> "int" |.str=> "str" |.bool=> "bool" |.list=> "list" |.tuple=> "tuple" |.dict=> "dict"
def bG(T:Ty)(x:V)(H:Hp)(Q:Bool->Prop):Prop:=match x with
 |.aD=>Q false
 |.bl _=>Q (T==.bool ||T==.int)
 |.int _=>Q (T==.int)
 |.str _=>Q (T==.str)
 |.ref a=>match H a with
  |some (.lst _)=>Q (T==.list)
  |some (.a_ _<|.lst _)=>Q (T==.list)
  |some (.tup _)=>Q (T==.tuple)
  |some (.dK _)=>Q (T==.dict)
  |some (.dT _)=>Q (T==.dict)
  |_=>False
 |_=>False
theorem mF(K:Frag)(S T:Ty):kitOne K (.type S.nm) (.type T.nm)=some (S==T ||(S==.bool && T==.int)):=by
 cases S<;>cases T<;>rfl
theorem Q2(K:Frag)(T:Ty):kitOne K (.type "NoneType") (.type T.nm)=some false:=by
 cases T<;>rfl
theorem Q4(hc:X.calm=true):cv X (.builtin "sum") (fun xs H Q=>∃(p:Addr) (ns:List Int),xs=[.ref p]/\ay X.K H p (ns.map V.int)/\Q (.int ns.sum) H):=by
 intro pins s σ H xs us Q I r h;obtain⟨p,ns,rfl,hq,q⟩:=h;obtain⟨u,rfl,ru⟩:=vals1 r;cases ru;obtain⟨aq,rv,pl,hz⟩:=I.list hq;have hi:=intsAre_of rv;obtain⟨xs,hx⟩:=hi.allInts.items;have gP:s.heap.IsList p (intItems xs):=hx ▸ pl.isList;refine sum_intListG (I.ok.hd hc) gP fun h' tk t' hk=>?_;have e1:ns=xs.toList.map (·.1):=by
  rw[<-nums_intItems,<-hx];exact(show numsOf aq.toArray.toList=ns from hi.numsOf).symm
 have e2:preSum (numAt xs) xs.size=ns.sum:=by
  rw[preSum_eq,zbh (by simp),e1]
 rw[e2];exact⟨.int ns.sum,H,I.kept (t':=tk) hk,⟨t',rfl⟩,q⟩
theorem E6:∀{ts:List Str}{us:List Value},Vals (ts.map V.str) us->∃l:List (Str×Tok),us=strValues l/\l.map (·.1)=ts
 |[],_,.nil=>⟨[],rfl,rfl⟩
 |x::ts,_,.cons ⟨t,e⟩ r=>by
  obtain⟨l,e1,e2⟩:=E6 r;subst e e1;exact⟨(x,t)::l,rfl,by simp[e2]⟩
def rJoin(K:Frag):V->List V->Hp->VK->Prop:=fun x vs H Q=>∃(sep:Str) (p:Addr) (ts:List Str),x=.str sep/\vs=[.ref p]/\ay K H p (ts.map V.str)/\JoinOk sep ts=true/\Q (.str<|Txt.join sep ts) H
theorem Q6:qq X "str.join" (rJoin X.K):=by
 intro pins s σ H x vs v us Q I rx rv h;obtain⟨sep,p,ts,rfl,rfl,hq,hj,q⟩:=h;obtain⟨t,rfl⟩:=rx;obtain⟨u,rfl,ru⟩:=vals1 rv;cases ru;obtain⟨aq,rv,pl,hz⟩:=I.list hq;obtain⟨l,rfl,e2⟩:=E6 rv;exact SC.join pl.isList e2 hj fun t' k=>⟨.str _,H,I.tok k,⟨t',rfl⟩,q⟩
def Q7:V->List V->Hp->VK->Prop:=fun x vs H Q=>∃z y,x=.str z/\vs=[.str y]/\z.length<=sizeLine/\Q (.str<|Txt.lstripChars z y) H
theorem Q8:qq X "str.lstrip" Q7:=by
 intro pins s σ H x vs v us Q I rx rv h;obtain⟨z,y,rfl,rfl,hz,q⟩:=h;obtain⟨t,rfl⟩:=rx;obtain⟨u,rfl,⟨t2,rfl⟩⟩:=vals1 rv;refine call_gives F.slot_str_lstrip (typeIs_str _ _ _) F.entry_str_lstrip (F.args_str_lstrip_2 _ _) (gives_str_lstrip_chars z y t t2)<|post_val_or_made (fun _=>fits_stripped _ _ _ hz) fun t' k=>?_;exact⟨.str _,H,I.tok k,⟨t',rfl⟩,q⟩
def mG{α:Type}(xs:List α)(lo hi:Option Int):List α:=(xs.drop<|HT.aQ xs.length 0 lo).take (HT.aQ xs.length xs.length hi - HT.aQ xs.length 0 lo)
def sQ(z:Str)(lo hi:Option Int):Str:=⟨(mG z.cps.toList lo hi).toArray⟩
theorem Q9(z:Str)(lo hi:Option Int):((Builtin.Str.strSliceIndices lo hi 1 z.length).filterMap (z.cps[·]?))=mG z.cps.toList lo hi:=by
 obtain⟨h1,h2,h3⟩:=yN lo hi z.length;have e0:Builtin.Str.strSliceIndices lo hi 1 z.length=sliceRange (sliceBounds lo hi none z.length).1 (sliceBounds lo hi none z.length).2.1 (sliceBounds lo hi none z.length).2.2:=rfl;have hz:z.cps.toList.length=z.length:=by simp[Str.length]
 rw[e0,h1,h2,h3,sliceRange_one,pick_run];unfold mG;rw[hz]
end
section
variable {X:Cx}
def vH(K:Frag)(neg:Bool):R2:=fun x y H Q=>∃p xs d es,y=.ref p/\ay K H p xs/\Is H d x/\IsL H es xs/\SeqAt.shaped d=true/\d.depth<=60/\(∀e∈es,SeqAt.shaped e=true)/\Q (.bl<|neg ^^ es.any fun e=>PyData.eqv e d) H
open Classical in
end
def k8:HO:=.ext fun _=>True
structure vI (ob:Obj) (cls:Value) (vs:Array Value):Prop where
 cls:ob.cls=cls
 data:ob.data=.fields vs
 Q_:vs[2]?=some .none
 dict:ob.dict=none
def ExcAt(H:Hp)(ea D:Addr):Prop:= ∃ob vs,H ea=some (.a_ ob k8)/\vI ob (.ref D) vs
structure qw (K:Frag) (D:Addr):Prop where
 sS:PySem.W.findIn K (.ref D) "__getattribute__"=some (some<|.builtin "BaseException.__getattribute__")
 sT:PySem.W.findIn K (.ref D) "__getattr__"=some none
 hk:(PySem.W.clsIn K D).isSome=true
 ha:PySem.W.findIn K (.ref D) "__class__"=some (some<|.builtin "object.__class__")
 hn:PySem.W.specialIn K (.builtin "object.__class__") "__get__"=some (some<|.builtin "getset_descriptor.__get__")
 mi:PySem.W.takesIn K (.builtin "object.__class__")=some true
 hm:PySem.W.mroIn K D (.type "object")=some true
 hb:PySem.W.mroIn K D (.type "BaseException")=some true
def cV:V->Value
 |.ref a=>.ref a
 |.ty n=>.type n
 |_=>.none
def jQ(K:Frag):List V->Hp->VK->Prop
 |[.ref ea,c],H,Q=>∃D b,ExcAt H ea D/\qw K D/\((∃C,c=.ref C)\/∃n,c=.ty n)/\kitOne K (.ref D) (cV c)=some b/\Q (.bl b) H
 |_,_,_=>False
def E7(sp:Sp)(hv:Option Addr)(t:TA):TE:=fun σ H Q=>t σ H fun vs H1=>(∃ea D,hv=some ea/\ExcAt H1 ea D)/\sp vs H1 Q E0
def zh(C:Addr)(E:XK)(t:TA):TS:=fun _ σ H=>t σ H fun vs H1=>vs.length<=sizeLine/\E (.ref C) none H1
def zi(K:Frag)(C:Addr)(i n:Nat)(th:Addr->TS)(D:Ends):XK:=fun cls _ H'=>exmOne K cls (.ref C)=some true/\
 ∀(ea:Addr) (ob:Obj) (vs:Array Value) (σ':St),H' ea=none->σ'.length=n->vI ob cls vs->th ea {nx:=fun _ _=>False,rt:=D.rt} (σ'.set i<|some<|.ref ea) (upd H' ea<|.a_ ob k8)
def vJ(K:Frag)(C:Addr)(i n:Nat)(tb:XK->TS)(th:Addr->TS):TS:=fun D σ H=>tb (zi K C i n th D) {nx:=D.nx,rt:=D.rt} σ H
def Ra(K:Frag)(C:Addr)(i:Nat)(th:Addr->TS)(D:Ends)(σ:St):XK:=fun cls _ H'=>exmOne K cls (.ref C)=some true/\
 ∀(ea:Addr) (ob:Obj) (vs:Array Value),H' ea=none->vI ob cls vs->th ea {nx:=fun _ _=>False,rt:=D.rt} (σ.set i<|some<|.ref ea) (upd H' ea<|.a_ ob k8)
def Rb(K:Frag)(C:Addr)(i k:Nat)(sp:Sp)(ta:TA)(th:Addr->TS):TS:=fun D σ H=>ta σ H fun vs H1=>sp vs H1 (fun v H2=>D.nx (σ.set k<|some v) H2) (Ra K C i th D σ)
inductive mH where|len|min|max|sum|int|list|tuple|abs
 deriving DecidableEq
inductive g6 where|append|pop|extend|join|lstrip|starts|reverse|clear|index|find|count|E8|zj
 deriving DecidableEq
inductive IK where|list|tup|fG|Rc|zip|Rg|txt|Rh|Rj
 deriving DecidableEq
inductive RE where
 |v (i:Nat)|c (x:V)|g (j:Nat)
 |bin (op:Operator) (a b:RE)|neg (a:RE)
 |cmp (op:CmpOp) (a b:RE)|je (op b_:CmpOp) (a b d:RE)|E9 (op b_ E_:CmpOp) (a b d f:RE)
 |and (as:List RE)|or (as:List RE)|not (a:RE)|jR (t a b:RE)
 |call (j:Nat) (as:List RE)|blt (b:mH) (as:List RE)|eF (T:Ty) (a:RE)
 |dn (m:g6) (o:RE) (as:List RE)
 |ix (a b:RE)|sl (a:RE) (lo hi:Option RE)
 |tup (as:List RE)|lst (as:List RE)
 |comp (tk:Option Nat) (fv:List (Str×Nat)) (k:IK) (aq:List RE) (cond:Option RE) (elt:RE)
 |cY (a c:RE)|vK (j:Nat) (a:RE)|jf|same (a b:RE)
 |Rk|dU (a b:RE)|Fb (a b:RE)|qy (a b:RE)|Rl (o a b:RE)|inD (a b:RE)|Fc (a b:RE)
 |xt (T:Frag->TA->TE) (as:List RE)|xm (T:Frag->TE->TA->TE) (o:RE) (as:List RE)
 |fld (o:RE) (f:Str)|bc (j:Nat) (m:Str) (o:RE) (as:List RE)|make (j:Nat) (as:List RE)
structure aJ where
 K:Frag
 fs:Nat->Sp
 gv:Nat->V
 E:XK
 sd:Addr->List (Key×V)->Prop
 ms:Nat->Addr×Sp
 kt:Nat->Addr×Sp
 ex:Nat->Addr
 hs:Nat->Sp
 hv:Option Addr
abbrev aJ.calm(Γ:aJ):aJ:={Γ with E:=E0}
inductive RS where
 |asg (i:Nat) (e:RE)|jS (i:Nat) (e:RE)|set (o ix e:RE)
 |drop (e:RE)|ret (e:RE)|Rm
 |ite (c:RE) (t e:List RS)
 |gQ (i:Nat) (k:IK) (aq:List RE) (body:List RS)
 |qz (is:List Nat) (k:IK) (aq:List RE) (body:List RS)
 |zk (c:RE) (body:List RS)
 |pass|brk|cont|never
 |Rn (o lo hi e:RE)|g7 (o:RE) (f:Str) (e:RE)
 |mI (is:List Nat) (e:RE)|dput (o i e:RE)|g8 (j:Nat) (as:List RE)|zl (n i j:Nat) (body su:List RS)|Ro (k i j f:Nat) (as:List RE) (su:List RS)
 |xs (T:aJ->TS)
def jT(K:Frag)(x:V)(H:Hp)(Q:Bool->Prop):Prop:=match x with
 |.aD=>Q false
 |.bl b=>Q b
 |.int i=>Q (i !=0)
 |.str y=>y.length<=sizeLine/\Q ((y.length:Int) !=0)
 |.ref p=>(∃xs,ay K H p xs/\Q (!xs.isEmpty))\/(∃xs,aO K H p xs/\Q (!xs.isEmpty))\/∃kvs,H p=some (.dK kvs)/\Q (!kvs.isEmpty)
 |_=>False
theorem Fd{K:Frag}{x:V}{H:Hp}{Q:Bool->Prop}(h:jT K x H Q):∃k,DU K x H k/\Q k:=by
 cases x with
 |aD=>exact⟨_,rfl,h⟩
 |bl b=>exact⟨_,rfl,h⟩
 |int i=>exact⟨_,rfl,h⟩
 |str y=>exact⟨_,⟨h.1,rfl⟩,h.2⟩
 |ref p=>
  rcases h with⟨xs,h1,h2⟩|⟨xs,h1,h2⟩|⟨xs,h1,h2⟩
  ·exact⟨_,.inl ⟨xs,h1,rfl⟩,h2⟩
  ·exact⟨_,.inr<|.inl ⟨xs,h1,rfl⟩,h2⟩
  ·exact⟨_,.inr<|.inr ⟨xs,h1,rfl⟩,h2⟩
 |_=>exact False.elim h
def eP(K:Frag)(t:TE):TT:=fun σ H Q=>t σ H fun x H1=>jT K x H1 fun b=>Q b H1
def zm(K:Frag)(t:TE):TE:=fun σ H Q=>t σ H fun x H1=>jT K x H1 fun b=>Q (.bl<|!b) H1
def Fe:V->Hp->VK->Prop:=fun x H Q=>match x with|.int i=>Q (.int<|-i) H|_=>False
def sf(K:Frag)(x:V)(H:Hp)(Q:Nat->Prop):Prop:=match x with
 |.str y=>y.length<=sizeLine/\Q y.length
 |.ref p=>(∃xs,ay K H p xs/\Q xs.length)\/∃xs,aO K H p xs/\Q xs.length
 |_=>False
def signs(x:Str):List V:=x.cps.toList.map fun c=>V.str ⟨#[c]⟩
def Ff:TE:=fun _ H Q=>∀p,H p=none->Q (.ref p) (upd H p<|.dK [])
def g_(K:Frag):mH->List V->Hp->VK->Prop
 |.len,[x],H,Q=>sf K x H fun n=>Q (.int n) H
 |.min,[.int i,.int j],H,Q=>Q (.int (if j<i then j else i)) H
 |.max,[.int i,.int j],H,Q=>Q (.int (if j>i then j else i)) H
 |.min,[.ref p],H,Q=>∃ns:List Int,ay K H p (ns.map V.int)/\ns≠ []/\∀m:Int,m∈ns->(∀n∈ns,m<=n)->Q (.int m) H
 |.max,[.ref p],H,Q=>∃ns:List Int,ay K H p (ns.map V.int)/\ns≠ []/\∀m:Int,m∈ns->(∀n∈ns,n<=m)->Q (.int m) H
 |.sum,[.ref p],H,Q=>∃ns:List Int,ay K H p (ns.map V.int)/\Q (.int ns.sum) H
 |.int,[.int i],H,Q=>Q (.int i) H
 |.int,[.bl k],H,Q=>Q (.int (if k then 1 else 0)) H
 |.list,[.ref p],H,Q=>∃ys,(ay K H p ys\/aO K H p ys)/\∀l,H l=none->Q (.ref l) (upd H l<|.lst ys)
 |.list,[.str x],H,Q=>x.length<=sizeLine/\∀l,H l=none->Q (.ref l) (upd H l<|.lst<|signs x)
 |_,_,_,_=>False
def mJ(T:Ty):List V->Hp->VK->Prop
 |[x,.ty n],H,Q=>n=T.nm/\bG T x H fun b=>Q (.bl b) H
 |_,_,_=>False
def zo(K:Frag):g6->V->List V->Hp->VK->Prop
 |.append,.ref l,[y],H,Q=>∃xs,H l=some (.lst xs)/\xs.length<sizeLine/\Q .aD (upd H l<|.lst<|xs++[y])
 |.pop,.ref l,[],H,Q=>∃xs y,H l=some (.lst xs)/\xs[xs.length - 1]?=some y/\Q y (upd H l<|.lst xs.dropLast)
 |.extend,.ref l,[.ref b],H,Q=>∃xs zs,H l=some (.lst xs)/\H b=some (.lst zs)/\xs.length+zs.length<=sizeLine/\Q .aD (upd H l<|.lst<|xs++zs)
 |.join,.str sep,[.ref p],H,Q=>∃ts:List Str,ay K H p (ts.map V.str)/\JoinOk sep ts=true/\Q (.str<|Txt.join sep ts) H
 |.lstrip,.str z,[.str y],H,Q=>z.length<=sizeLine/\Q (.str<|Txt.lstripChars z y) H
 |.clear,.ref l,[],H,Q=>∃xs,H l=some (.lst xs)/\Q .aD (upd H l<|.lst [])
 |.zj,.ref l,[y],H,Q=>∃xs,ay K H l xs/\gN y=true/\xs.all gN=true/\fz y xs=true/\Q (.int (xs.findIdx (fun z=>gh z y):Nat)) H
 |_,_,_,_,_=>False
def vL:g6->String
 |.join|.lstrip|.starts|.find|.count=> "str"
 |_=> "list"
def qA(K:Frag)(m:g6)(to:TE)(t:TA):TE:=fun σ H Q=>to σ H fun x H1=>r_ K (vL m) x H1/\t σ H1 fun xs H2=>zo K m x xs H2 Q
def qB(K:Frag):V->Option Int->Option Int->Hp->VK->Prop:=fun x lo hi H Q=>match x with
 |.str z=>z.length<=sizeLine/\Q (.str<|sQ z lo hi) H
 |.ref a=>(∃xs,ay K H a xs/\∀p,H p=none->Q (.ref p) (upd H p<|.lst<|cc xs lo hi))\/
  (∃xs,aO K H a xs/\ ¬(HT.aQ xs.length 0 lo=0/\HT.aQ xs.length xs.length hi=xs.length)/\∀p,H p=none->Q (.ref p) (upd H p<|.tup<|cc xs lo hi))
 |_=>False
def oE(kvs:List (Key×V))(k:Key):Option V:=(kvs.find? fun kv=>decide (kv.1=k)).map (·.2)
def Fg(sd:Addr->List (Key×V)->Prop):R2:=fun x y H Q=>∃p kvs k v,x=.ref p/\y=kV k/\sd p kvs/\oE kvs k=some v/\Q v H
def mK(K:Frag)(sd:Addr->List (Key×V)->Prop):R2:=fun x y H Q=>Ek K x y H Q\/El K x y H Q\/Em x y H Q\/Fg sd x y H Q
def Rp(r r' r2:R2)(ta tb tc td:TE):TT:=fun σ H Q=>ta σ H fun x H1=>tb σ H1 fun y H2=>r x y H2 fun z H3=>∃k,z=.bl k/\
 (if k=true then tc σ H3 fun w H4=>r' y w H4 fun z2 H5=>∃k2,z2=.bl k2/\(if k2=true then td σ H5 fun u H6=>r2 w u H6 fun z3 H7=>∃k3,z3=.bl k3/\Q k3 H7 else Q false H5) else Q false H3)
def Rq(K:Frag)(a b:Addr):It:=
  ⟨fun i H=>∃xs ys,ay K H a xs/\ay K H b ys/\i<xs.length/\i<ys.length,
   fun i H x H'=>∃T,H T=none/\x=.ref T/\∀xs ys u v,ay K H a xs->ay K H b ys->xs[i]?=some u->ys[i]?=some v->H'=upd H T (.tup [u,v]),
   fun i H=>∃xs ys,ay K H a xs/\ay K H b ys/\i=min xs.length ys.length⟩
def Rr(K:Frag)(a:Addr):It:=
  ⟨fun i H=>∃xs,ay K H a xs/\i<xs.length,
   fun i H x H'=>∃T,H T=none/\x=.ref T/\∀xs u,ay K H a xs->xs[i]?=some u->H'=upd H T (.tup [.int (i:Nat),u]),
   fun i H=>∃xs,ay K H a xs/\i=xs.length⟩
def Rt(K:Frag)(ta:TA):TI:=fun σ H R=>ta σ H fun vs H1=>∃a,vs=[.ref a]/\(∃xs,ay K H1 a xs)/\R (Rr K a) H1
def Ru(K:Frag)(ta:TA):TI:=fun σ H R=>ta σ H fun vs H1=>∃a b,vs=[.ref a,.ref b]/\(∃xs,ay K H1 a xs)/\(∃ys,ay K H1 b ys)/\R (Rq K a b) H1
def Rv(K:Frag)(a b:Addr):It:=
  ⟨fun i H=>∃xs ys,aO K H a xs/\aO K H b ys/\i<xs.length/\i<ys.length,
   fun i H x H'=>∃T,H T=none/\x=.ref T/\∀xs ys u v,aO K H a xs->aO K H b ys->xs[i]?=some u->ys[i]?=some v->H'=upd H T (.tup [u,v]),
   fun i H=>∃xs ys,aO K H a xs/\aO K H b ys/\i=min xs.length ys.length⟩
def Rw(K:Frag)(ta:TA):TI:=fun σ H R=>ta σ H fun vs H1=>∃a b,vs=[.ref a,.ref b]/\(∃xs,aO K H1 a xs)/\(∃ys,aO K H1 b ys)/\R (Rv K a b) H1
def Rx(z:Str):It:=⟨fun i _=>i<z.length,fun i H x H'=>H'=H/\∃c,z.cps[i]?=some c/\x=.str ⟨#[c]⟩,fun i _=>i=z.length⟩
def Ry(ta:TE):TI:=fun σ H R=>ta σ H fun x H1=>∃z,x=.str z/\R (Rx z) H1
def Rz(lo c:Int)(n:Nat):It:=⟨fun i _=>i<n,fun i H x H'=>H'=H/\x=.int (lo+i*c),fun i _=>n<=i⟩
def RA(ta:TA):TI:=fun σ H R=>ta σ H fun vs H1=>∃(i j c:Int) (n:Nat),vs=[.int i,.int j,.int c]/\c≠0/\Builtin.Range.small i j c=true/\Builtin.divisionGoesByPylong (j - i) c=false/\Builtin.Range.rangeSize i j c=n/\R (Rz i c n) H1
mutual
def ag(Γ:aJ):RE->TE
 |.v i=>ym i
 |.c x=>tC x
 |.g j=>tC (Γ.gv j)
 |.bin op a b=>eB (iD Γ.K op) (ag Γ a) (ag Γ b)
 |.neg a=>DP Fe (ag Γ a)
 |.cmp op a b=>eB (cy Γ.K op) (ag Γ a) (ag Γ b)
 |.je op b_ a b d=>qo (cy Γ.K op) (cy Γ.K b_) (ag Γ a) (ag Γ b) (ag Γ d)
 |.E9 _ _ _ _ _ _ _=>fun _ _ _=>False
 |.and as=>Fh Γ as
 |.or as=>Fi Γ as
 |.not a=>zm Γ.K (ag Γ a)
 |.jR t a b=>Dy (aU Γ t) (ag Γ a) (ag Γ b)
 |.call j as=>yC (Γ.fs j) [] Γ.E (aM Γ as)
 |.blt b as=>dS (g_ Γ.K b) (aM Γ as)
 |.eF T a=>dS (mJ T) (cU (ag Γ a)<|cU (tC<|.ty T.nm) fj)
 |.dn m o as=>qA Γ.K m (ag Γ o) (aM Γ as)
 |.ix a b=>eB (mK Γ.K Γ.sd) (ag Γ a) (ag Γ b)
 |.sl a lo hi=>yJ (qB Γ.K) (ag Γ a) (mL Γ lo) (mL Γ hi)
 |.tup as=>D1 (aM Γ as)
 |.lst as=>D2 (aM Γ as)
 |.comp tk fv k aq cond elt=>mD Γ.K (iE Γ k aq) tk fv (sU Γ.calm cond) (ag Γ.calm elt)
 |.cY a c=>dS (jQ Γ.K) (cU (ag Γ a)<|cU (ag Γ c) fj)
 |.jf=>Ff
 |.same a b=>eB QR (ag Γ a) (ag Γ b)
 |.inD a b=>eB (vH Γ.K false) (ag Γ a) (ag Γ b)
 |.Fc a b=>eB (vH Γ.K true) (ag Γ a) (ag Γ b)
 |.Rk=>P7
 |.dU a b=>EA (ag Γ a) (ag Γ b)
 |.Fb a b=>EB (ag Γ a) (ag Γ b)
 |.qy a b=>y9 (ag Γ a) (ag Γ b)
 |.Rl o a b=>P9 (ag Γ o) (ag Γ a) (ag Γ b)
 |.xt T as=>T Γ.K (aM Γ as)
 |.xm T o as=>T Γ.K (ag Γ o) (aM Γ as)
 |.vK j a=>E7 (Γ.hs j) Γ.hv (cU (ag Γ a) fj)
 |.fld o f=>vh Γ.K (ag Γ o) f
 |.bc j m o as=>mj (Γ.ms j).1 m (Γ.ms j).2 [] Γ.E (ag Γ o) (aM Γ as)
 |.make j as=>yD (Γ.kt j).1 (Γ.kt j).2 [] Γ.E (aM Γ as)
def aU(Γ:aJ):RE->TT
 |.not a=>Du (aU Γ a)
 |.inD a b=>mh (eB (vH Γ.K false) (ag Γ a)<|ag Γ b)
 |.Fc a b=>mh (eB (vH Γ.K true) (ag Γ a)<|ag Γ b)
 |.Fb a b=>tB (EB (ag Γ a)<|ag Γ b)
 |.qy a b=>tB (y9 (ag Γ a)<|ag Γ b)
 |.and as=>Fj Γ as
 |.or as=>Fl Γ as
 |.cmp op a b=>mh (eB (cy Γ.K op) (ag Γ a)<|ag Γ b)
 |.je op b_ a b d=>mh (qo (cy Γ.K op) (cy Γ.K b_) (ag Γ a) (ag Γ b)<|ag Γ d)
 |.E9 op b_ E_ a b d f=>Rp (cy Γ.K op) (cy Γ.K b_) (cy Γ.K E_) (ag Γ a) (ag Γ b) (ag Γ d) (ag Γ f)
 |.v i=>eP Γ.K (ym i)
 |.call j as=>eP Γ.K (yC (Γ.fs j) [] Γ.E<|aM Γ as)
 |.eF T a=>eP Γ.K (dS (mJ T)<|cU (ag Γ a)<|cU (tC<|.ty T.nm) fj)
 |.cY a c=>eP Γ.K (dS (jQ Γ.K)<|cU (ag Γ a)<|cU (ag Γ c) fj)
 |.dn m o as=>eP Γ.K (qA Γ.K m (ag Γ o)<|aM Γ as)
 |.ix a b=>eP Γ.K (eB (mK Γ.K Γ.sd) (ag Γ a)<|ag Γ b)
 |.bin op a b=>eP Γ.K (eB (iD Γ.K op) (ag Γ a)<|ag Γ b)
 |.fld o f=>eP Γ.K (vh Γ.K (ag Γ o) f)
 |.xt T as=>eP Γ.K (T Γ.K<|aM Γ as)
 |.xm T o as=>eP Γ.K (T Γ.K (ag Γ o)<|aM Γ as)
 |.bc j m o as=>eP Γ.K (mj (Γ.ms j).1 m (Γ.ms j).2 [] Γ.E (ag Γ o)<|aM Γ as)
 |_=>fun _ _ _=>False
def aM(Γ:aJ):List RE->TA
 |[]=>fj
 |a::r=>cU (ag Γ a) (aM Γ r)
def Fh(Γ:aJ):List RE->TE
 |[]=>fun _ _ _=>False
 |[a]=>ag Γ a
 |a::r=>Dv (ag Γ a) (Fh Γ r)
def Fi(Γ:aJ):List RE->TE
 |[]=>fun _ _ _=>False
 |[a]=>ag Γ a
 |a::r=>Dw (ag Γ a) (Fi Γ r)
def Fj(Γ:aJ):List RE->TT
 |[]=>fun _ _ _=>False
 |[a]=>aU Γ a
 |a::r=>Ds (aU Γ a) (Fj Γ r)
def Fl(Γ:aJ):List RE->TT
 |[]=>fun _ _ _=>False
 |[a]=>aU Γ a
 |a::r=>Dt (aU Γ a) (Fl Γ r)
def mL(Γ:aJ):Option RE->TO
 |none=>Ef
 |some a=>vn (ag Γ a)
def sU(Γ:aJ):Option RE->Option TT
 |none=>none
 |some a=>some (aU Γ a)
def iE(Γ:aJ)(k:IK):List RE->TI
 |[]=>fun _ _ _=>False
 |a::r=>match k with
  |.list=>rR Γ.K (ag Γ a)
  |.tup=>Nx Γ.K (ag Γ a)
  |.fG=>DL (cU (ag Γ a)<|aM Γ r)
  |.Rc=>NA (cU (ag Γ a)<|aM Γ r)
  |.zip=>Ru Γ.K (cU (ag Γ a)<|aM Γ r)
  |.Rg=>Rt Γ.K (cU (ag Γ a)<|aM Γ r)
  |.txt=>Ry (ag Γ a)
  |.Rh=>Rw Γ.K (cU (ag Γ a)<|aM Γ r)
  |.Rj=>RA (cU (ag Γ a)<|aM Γ r)
end
structure cg where
 N:List Str
 sc:Scope
 fn:List Str
 gn:List Str
 bl:List Str
 mn:List Str
 kn:List Str
 en:List Str
 hn:List Str
 md:Nat
def zp(sc:Scope)(x:Str):Bool:=match sc.names.lookup x with
 |some .local=>true|some .cell=>true|some .free=>true|_=>false
def loc(sc:Scope)(x:Str):Bool:=match sc.names.lookup x with
 |some .local=>true|some .cell=>true|_=>false
def k9(sc:Scope)(x:Str):Bool:=match sc.names.lookup x with
 |some .globalImplicit=>true|_=>false
theorem RB{sc:Scope}{x:Str}(h:zp sc x=true):uQ sc x:=by
 unfold zp at h;unfold uQ;cases e:sc.names.lookup x with
 |none=>rw[e] at h;cases h
 |some k=>rw[e] at h;cases k<;>first|exact .inl rfl|exact .inr (.inl rfl)|exact .inr (.inr rfl)|cases h
theorem vM{sc:Scope}{x:Str}(h:loc sc x=true):Loc sc x:=by
 unfold loc at h;unfold Loc;cases e:sc.names.lookup x with
 |none=>rw[e] at h;cases h
 |some k=>rw[e] at h;cases k<;>first|exact .inl rfl|exact .inr rfl|cases h
theorem RC{sc:Scope}{x:Str}(h:k9 sc x=true):sc.names.lookup x=some .globalImplicit:=by
 unfold k9 at h;cases e:sc.names.lookup x with
 |none=>rw[e] at h;cases h
 |some k=>rw[e] at h;cases k<;>first|rfl|cases h
structure sV where
 elt:Expr
 tg:Expr
 iter:Expr
 ifs:List Expr
 sc:Scope
def mH.nm:mH->Str
 |.len=> "len" |.min=> "min" |.max=> "max" |.sum=> "sum" |.int=> "int" |.list=> "list" |.tuple=> "tuple" |.abs=> "abs"
def g6.nm:g6->Str
 |.append=> "append" |.pop=> "pop" |.extend=> "extend" |.join=> "join" |.lstrip=> "lstrip" |.starts=> "startswith" |.reverse=> "reverse" |.clear=> "clear" |.index=> "index" |.find=> "find" |.count=> "count" |.E8=> "count" |.zj=> "index"
def mM:Expr->Bool
 |.Call (.Name _ _) [] [] _=>false
 |_=>true
def noStar:Expr->Bool
 |.Starred ..=>false
 |_=>true
def qC:Expr->Bool
 |.Set ..=>false
 |_=>true
def zq(Fm sc:Scope):Scope:=
 {Fm with names:=Fm.names.map fun(n,k)=>if (k==.free && sc.kind==.function && sc.names.lookup n==some .cell) then (n,.cell) else (n,k)}
def zr(tk:Option Nat)(tg:Expr):Option (List Str):=match tk,tg with
 |none,.Name x _=>some [x]
 |some 2,.Tuple [.Name x _,.Name y _] _ _=>some [x,y]
 |_,_=>none
def Fn(S:cg)(c:sV)(ln:List Str)(fv:List (Str×Nat)):cg:={S with N:=ln++fv.map (·.1),sc:=zq c.sc S.sc,en:=[],md:=if S.md=0 then 0 else 2}
def zt(S:cg)(c:sV)(ln:List Str)(fv:List (Str×Nat)):Bool:=
 decide (c.sc.kind=.function) && c.sc.names.all (fun y=>decide<|y.2≠ .cell) && c.sc.names.all (fun y=>decide (y.2≠ .local)||decide (c.sc.names.lookup y.1=some .local))
 && c.sc.names.all (fun y=>decide (y.2≠ .free)||decide (S.sc.names.lookup y.1=some .cell)||decide (S.sc.names.lookup y.1=some .free))
 && fv.all (fun p=>decide (S.N[p.2]?=some p.1) && decide (c.sc.names.lookup p.1=some .free))
 && ln.all (fun x=>decide<|c.sc.names.lookup x=some .local) && decide ((ln++fv.map (·.1)).Nodup) && qC c.iter
end L2
set_option maxHeartbeats 400000
namespace L2
open PySem PySem.Spec PyProof.Rows
def hG(A:Around)(h:Heap):Prop:=A.handled=none\/∃e o vs,A.handled=some (.ref e)/\h.get? e=some o/\o.data=.fields vs/\vs[2]?=some .none
theorem hG.keeps{A:Around}{h h':Heap}(x:hG A h)(k:∀b o vs,h.get? b=some o->o.data=.fields vs->vs[2]?=some .none->h'.get? b=some o):hG A h':=by
 rcases x with x|⟨e,o,vs,a,b,c,d⟩
 ·exact .inl x
 ·exact .inr ⟨e,o,vs,a,k e o vs b c d,c,d⟩
theorem RD:entryFor table "proto.unchain"=some Builtin.«proto.unchain»:=entryFor_of_fast (by kernel_rfl)
section
variable {prog:Program}{w:World}{A:Around}{E:Value->Shared->Prop}{s:Shared}
theorem RH{a:Addr}{o:Obj}{vs:Array Value}{i:Nat}{v:Value}{Q:Unit->Shared->Prop}(ho:s.heap.get? a=some o)(hd:o.data=.fields vs)(hi:i<vs.size)(h:Q () {s with heap:=s.heap.update a (Obj.mapFields (·.setIfInBounds i v))}):
  wpAny (model prog w) A (updateField a i v) Q E s:=by
 unfold updateField;refine wpAny_bind<|wpAny_load ho ?_;rw[hd];show wpAny _ _ (if i<vs.size then _ else _) _ _ s
 rw[if_pos hi];exact wpAny_update ho h
theorem RJ{α:Type}{a:Addr}{o:Obj}{vs:Array Value}{Q:α->Shared->Prop}(hh:hG A s.heap)(ho:s.heap.get? a=some o)(hd:o.data=.fields vs)(h2:2<vs.size)(d6:∀e,A.handled=some (.ref e)->e≠a)
  (hE:∀h',Heap.SameBut a s.heap h'->(∃o',h'.get? a=some o'/\o'.cls=o.cls)->E (.ref a) {s with heap:=h'}):wpAny (model prog w) A (raiseNew (.ref a):Sem α) Q E s:=by
 unfold raiseNew;refine wpAny_bind<|wpAny_handled ?_;rcases hh with hh|⟨e,oe,ve,hh,he,RK,RL⟩
 ·rw[hh];exact wpAny_bind<|wpAny_pure<|wpAny_throw<|hE s.heap (Heap.SameBut.refl ..) ⟨o,ho,rfl⟩
 ·rw[hh];have ne:e≠a:=d6 e hh;have hb:((Value.ref e) !=(Value.ref a))=true:=by
   simp only[bne_iff_ne,ne_eq,Value.ref.injEq]
   exact ne
  dsimp only
  rw[if_pos hb];refine wpAny_bind<|wpAny_holding<|wpAny_runValue<|codeAny_builtin RD ?_;unfold Builtin.«proto.unchain»
  dsimp only
  refine wpAny_bind<|wpAny_field he RK RL ?_;rw[if_pos (by rfl)]
  refine wpAny_bind<|wpAny_pure<|wpAny_pure ?_
  dsimp only
  refine wpAny_bind<|RH ho hd h2 ?_;refine wpAny_throw<|hE _ (Heap.SameBut.update ..) ⟨_,Heap.get?_update_self _ ho<|Obj.isFreed_of_fields<|Obj.data_mapFields hd _,Obj.cls_mapFields ..⟩
theorem Fo{it:Addr}{f:Obj->Obj}{Qf:Fin->Shared->Prop}{Q:Option Value->Shared->Prop}(hh:hG A s.heap)(hn:∀vs:Array Value,¬ ∃o,s.heap.get? it=some o/\o.data=.fields vs/\vs[2]?=some .none)
  (hQ:∀h',Heap.ExtBut it s.heap h'->Q none {s with heap:=h'}):
  wpAny (model prog w) A.in1 Builtin.SmallTypes.stopIteration Qf (fun e s'=>wpAny (model prog w) A (do let b <-isInstance e (.type "StopIteration");if b=true then pure none else throw e) Q E s') {s with heap:=s.heap.update it f}:=by
 show wpAny _ _ (newExc (.type "StopIteration") [] >>=_) _ _ _;refine wpAny_bind ?_
 simp only[newExc,newTuple]
 refine wpAny_bind<|wpAny_newObj_type ?_ (by size_fits)
 refine wpAny_bind (m:=firstArgMember _ _)<|wpAny_of_eq (a:=Value.none) (by first|rfl| (simp only[firstArgMember];rfl)) ?_
 refine wpAny_newObj_type ?_ (by size_fits)
 dsimp only
 have lt:∀b o,s.heap.get? b=some o->b≠it->(s.heap.update it f).get? b=some o:=fun b o e hb=>(Heap.get?_update_other _ _<|Ne.symm hb).trans e;have RM:hG A.in1 (((s.heap.update it f).push {cls:=.type "tuple",data:=.seq ([]:List Value).toArray}).push
   {cls:=.type "StopIteration",data:=.fields (#[.ref (s.heap.update it f).objs.size,.none,.none,.none,.bool false,.none]++ownMembersOf (.type "StopIteration") [])}):=by
  rcases hh with hh|⟨e,oe,ve,h1,h2,h3,h4⟩
  ·exact .inl hh
  ·refine .inr ⟨e,oe,ve,h1,Heap.get?_push_of_some _<|Heap.get?_push_of_some _<|lt e oe h2 fun z=>?_,h3,h4⟩;subst z;exact hn ve ⟨oe,h2,h3,h4⟩
 refine RJ RM (Heap.get?_push_size _ rfl) rfl (zaw (show 2<6 by decide) (by rw[Array.size_append];exact Nat.le_add_right 6 _)) (fun e he=>?_)<|fun h' sb ⟨o',q1,q2⟩=>?_
 ·rcases hh with hh|⟨e',oe,ve,h1,h2,h3,h4⟩
  ·rw[show A.in1.handled=none from hh] at he;cases he
  ·rw[show A.in1.handled=_ from h1] at he
   cases he;have:=Heap.lt_size h2;refine zae<|zaw this ?_;rw[Heap.size_push,Heap.size_update];exact zaL _
 ·refine wpAny_bind (wpAny_isInstance (T:="StopIteration") (b:=true) ⟨_,q1,q2⟩ isSubtype_stop ?_);refine wpAny_pure<|hQ _ fun b o hb e=>?_;have e3:=lt b o e hb;have e4:=Heap.get?_push_of_some {cls:=.type "StopIteration",data:=.fields (#[.ref (s.heap.update it f).objs.size,.none,.none,.none,.bool false,.none]++ownMembersOf (.type "StopIteration") [])} (Heap.get?_push_of_some {cls:=.type "tuple",data:=.seq ([]:List Value).toArray} e3);refine(sb.2 b<|zae<|zaw (Heap.lt_size e3) ?_).trans e4;rw[Heap.size_push];exact zaL _
theorem RN{it l:Addr}{i:Nat}{items}{Q:Option Value->Shared->Prop}(hh:hG A s.heap)
  (hit:s.heap.IsListIter it l i) (hl:s.heap.IsList l items) (hx:items[i]?=none)
  (hQ:∀h',Heap.ExtBut it s.heap h'->Q none {s with heap:=h'}):wpAny (model prog w) A (pyNext<|.ref it) Q E s:=by
 obtain⟨o,ho,hc,hd⟩:=id hit;obtain⟨ol,qD,_,nl,jg⟩:=hl;unfold pyNext;refine wpAny_bind (wpAny_attempt (wpAny_callSpecial?_slot (name:=Str.ofString "__next__") hit.typeIs slot_listiter_next
  (wpAny_call_entry slot_listiter_next hit.typeIs entry_listiter_next ?_ (args_listiter_next _))))
 show wpAny _ _ (field (.ref it) 0>>=_) _ _ s;refine wpAny_bind<|wpAny_field ho hd (x:=.ref l) rfl ?_;show wpAny _ _ (if (Value.ref l==Value.none)=true then _ else _) _ _ s
 rw[if_neg (show ¬((Value.ref l==Value.none)=true) from zan)]
 show wpAny _ _ (field (.ref it) 1>>=_) _ _ s;refine wpAny_bind<|wpAny_field ho hd (x:=.int i 0) rfl ?_;show wpAny _ _ (seqItems? (.ref l) >>=_) _ _ s;refine wpAny_bind<|wpAny_seqItems qD jg ?_
 simp only[Int.toNat_natCast,hx]
 refine wpAny_bind<|wpAny_rule<|wpAny_bind<|wpAny_setField ho hd (by simp) ?_
 exact Fo hh (fun vs z=>by obtain⟨o',h1,h2,h3⟩:=z;rw[ho] at h1;cases h1;rw[hd] at h2;cases h2;cases h3) hQ
theorem RO{it t:Addr}{i:Nat}{items}{Q:Option Value->Shared->Prop}(hh:hG A s.heap)
  (hit:IsTupIter s.heap it t i) (ht:IsTup s.heap t items) (hx:items[i]?=none)
  (hQ:∀h',Heap.ExtBut it s.heap h'->Q none {s with heap:=h'}):wpAny (model prog w) A (pyNext<|.ref it) Q E s:=by
 obtain⟨o,ho,hc,hd⟩:=id hit;obtain⟨ol,qD,_,nl,jg⟩:=ht;unfold pyNext;refine wpAny_bind (wpAny_attempt (wpAny_callSpecial?_slot (name:=Str.ofString "__next__") hit.typeIs slot_tupleiter_next
  (wpAny_call_entry slot_tupleiter_next hit.typeIs entry_tupleiter_next ?_ (args_tupleiter_next _))))
 show wpAny _ _ (field (.ref it) 0>>=_) _ _ s;refine wpAny_bind<|wpAny_field ho hd (x:=.ref t) rfl ?_;show wpAny _ _ (if (Value.ref t==Value.none)=true then _ else _) _ _ s
 rw[if_neg (show ¬((Value.ref t==Value.none)=true) from zan)]
 show wpAny _ _ (field (.ref it) 1>>=_) _ _ s;refine wpAny_bind<|wpAny_field ho hd (x:=.int i 0) rfl ?_;show wpAny _ _ (seqItems? (.ref t) >>=_) _ _ s;refine wpAny_bind<|wpAny_seqItems qD jg ?_
 simp only[Int.toNat_natCast,hx]
 refine wpAny_bind<|wpAny_rule<|wpAny_bind<|wpAny_setField ho hd (by simp) ?_
 exact Fo hh (fun vs z=>by obtain⟨o',h1,h2,h3⟩:=z;rw[ho] at h1;cases h1;rw[hd] at h2;cases h2;cases h3) hQ
theorem RP{t:Addr}{items:Array Value}{Q:List Value->Shared->Prop}(hh:hG A s.heap)(ht:IsTup s.heap t items)
  (hQ:∀h',Heap.ExtBut s.heap.objs.size s.heap h'->Q items.toList {s with heap:=h'}):wpAny (model prog w) A (unpackItems (.ref t) items.size none) Q E s:=by
 have aG:t≠s.heap.objs.size:=by obtain⟨o,ho,_⟩:=ht;exact zae (Heap.lt_size ho)
 unfold unpackItems;refine wpAny_bind ?_
 ·unfold notIterableAtAll;refine wpAny_bind<|wpAny_specialOf ht.typeIs slot_tuple_iter.lookup ?_;refine wpAny_pure ?_
  simp only[zaX,if_false]
  refine wpAny_bind<|wpAny_holding<|iter_tuple ht ?_;refine wpAny_bind<|wpAny_holding<|draw_tuple aG items.size 0 _ _ ⟨_,Heap.get?_push_size _ rfl,rfl,rfl⟩ (ht.push _) (by lia) fun h₁ sW k_=>?_
  have oo:List.take items.size (List.drop 0 items.toList)=items.toList:=by
   rw[List.drop_zero];exact zbh (by simp)
  rw[oo];rw[if_neg (by simp)]
  have zu:IsTup h₁ t items:=(ht.push _).extBut k_.extBut aG;have RQ:hG A h₁:=hh.keeps fun b o vs e _ _=>k_.extBut b o (zae<|Heap.lt_size e) (Heap.get?_push_of_some _ e);refine wpAny_bind<|wpAny_holding<|RO RQ sW zu (by simp) fun h₂ zv=>?_
  simp only[Option.isSome_none,zaX,if_false]
  refine wpAny_pure<|hQ h₂ fun b o hb e=>zv b o hb (k_.extBut b o hb<|Heap.get?_push_of_some _ e)
theorem RT{env:Env}{elts:List Expr}{x1}{pos:Pos}{t:Addr}{items:Array Value}{Q:Unit->Shared->Prop}(hh:hG A s.heap)(ht:IsTup s.heap t items)
  (hn:(assignEach elts env).length=items.size) (zw:(assignEach elts env).findIdx? (·.1)=none)
  (h:∀h',Heap.ExtBut s.heap.objs.size s.heap h'->wpAny (model prog w) A (assignInOrder ((assignEach elts env).map (·.2)) items.toList) Q E {s with heap:=h'}):
  wpAny (model prog w) A (assign (.Tuple elts x1 pos) env<|.ref t) Q E s:=by
 rw[assign_Tuple];refine wpAny_bind<|wpAny_standAt ?_;unfold unpack;rw[hn,zw];exact wpAny_bind<|wpAny_holding<|RP hh ht h
end
end L2
set_option maxHeartbeats 1000000
namespace L2
open PySem PySem.Spec PyProof.Rows PySem.W
section
variable {prog:Program}{w:World}{A:Around}{E:Value->Shared->Prop}{s:Shared}{K:Frag}{x D:Addr}{ox:Obj}
theorem RU{Q:Option Value->Shared->Prop}(X:K.In s.heap)(I:InstAt s.heap x ox D none)(sS:findIn K (.ref D) "__getattribute__"=some (some<|.builtin "BaseException.__getattribute__"))(sT:findIn K (.ref D) "__getattr__"=some none)
  (hk:(clsIn K D).isSome=true) (ha:findIn K (.ref D) "__class__"=some (some<|.builtin "object.__class__")) (hn:specialIn K (.builtin "object.__class__") "__get__"=some (some<|.builtin "getset_descriptor.__get__")) (mi:takesIn K (.builtin "object.__class__")=some true)
  (hm:mroIn K D (.type "object")=some true) (hb:mroIn K D (.type "BaseException")=some true)
  (h:Q (some<|.ref D) {s with toks:=s.toks+1}):wpAny (model prog w) A (getAttr? (.ref x) "__class__") Q E s:=by
 have hf:findObj K D none "__class__"=some (.bind (.builtin "getset_descriptor.__get__")<|.builtin "object.__class__"):=by
  obtain⟨cd,hc⟩:=zbB.mp hk;unfold findObj;rw[hc,zbG,ha,zbG]
  simp only[hn,mi,zbG]
 obtain⟨hh,g,d,t,os⟩:=s;have L0:=I.type (M:=model prog w);have L1:=looks_findIn (M:=model prog w) X sS;have L2:=looks_findIn (M:=model prog w) X sT;have L3:=looks_find (M:=model prog w) X I hf;unfold getAttr? getAttrBy? getAttrBy;refine wpAny_bind<|wpAny_mkText<|wpAny_bind<|wpAny_attempt<|wpAny_holding<|wpAny_bind<|L0.at<|wpAny_bind<|L1.at ?_;have RV:(Value.builtin "BaseException.__getattribute__"==Value.builtin "object.__getattribute__")=false:=by decide+kernel
 show wpAny _ _ (if (onTheHeap (Value.ref D) && Value.builtin "BaseException.__getattribute__"==Value.builtin "object.__getattribute__")=true then _ else _) _ _ _
 rw[RV,zbt,if_neg (by decide)]
 unfold getAttrByItsOwn hookBefore;refine wpAny_bind<|L2.at ?_;refine wpAny_bind<|wpAny_attempt<|wpAny_holding ?_;show wpAny _ _ (boundAndCalled _ _ _) _ _ _;unfold boundAndCalled;rw[F.excAttr_ValueError.ga.bind<|.ref x];refine wpAny_bind<|wpAny_pure ?_;refine wpAny_call<|codeAny_call_builtin F.excAttr_ValueError.ga.plain F.entry_bexc_ga ?_;have L4:=looks_mroIn (M:=model prog w) X hb;have lg:builtinKind "BaseException.__getattribute__"=some .slot:=by decide+kernel
 have RW:splitId "BaseException.__getattribute__"=some ("BaseException","__getattribute__"):=by decide+kernel
 have ad9:=F.args_bexc_ga (.ref x) (.str "__class__" t)
 simp only[checkBuiltinCall,lg,RW]
 have L5:Looks (model prog w) hh (isInstance (.ref x)<|.type "BaseException") true:=L0.andThen L4;refine wpAny_bind<|L5.at ?_
 repeat (any_goals (first|assumption|(with_reducible refine wpAny_loadPart_at I.at_ ?_;rw[I.cls];refine wpAny_pure (wpAny_bind<|L3.at ?_))|wp_step))
 refine class_get (s:=⟨hh,g,d,t+1,os⟩) (ox:=ox) (od:=none) X I hm ?_;exact wpAny_pure<|wpAny_pure<|wpAny_pure h
theorem RX(sS:findIn K (.ref D) "__getattribute__"=some (some<|.builtin "BaseException.__getattribute__"))(sT:findIn K (.ref D) "__getattr__"=some none)
  (hk:(clsIn K D).isSome=true) (ha:findIn K (.ref D) "__class__"=some (some<|.builtin "object.__class__")) (hn:specialIn K (.builtin "object.__class__") "__get__"=some (some<|.builtin "getset_descriptor.__get__")) (mi:takesIn K (.builtin "object.__class__")=some true)
  (hm:mroIn K D (.type "object")=some true) (hb:mroIn K D (.type "BaseException")=some true):KitX K (.ref x) (.ref D) (fun h=>InstAt h x ox D none) where
 ty:=fun _ _ _ I=>I.type
 it:=fun _ _ X _=>by
  obtain⟨RY,kJ⟩:=zbB.mp hk;unfold clsIn at kJ
  split at kJ
  ·rename_i c' d' RZ yh ho
   intro A' Q' E' s' k q;unfold isType loadHead;exact wpAny_bind<|wpAny_loadPart (k _ _<|X _ _ ho)<|wpAny_pure q
  ·cases kJ
 ne:=fun h tp dd aq n sl X R0=>by
  obtain⟨RY,kJ⟩:=zbB.mp hk;refine Bool.eq_false_iff.mpr fun q=>?_;have e:D=tp:=Value.ref.inj (beq_iff_eq.mp q);subst e;unfold clsIn at kJ
  split at kJ
  ·rename_i c' d' RZ yh ho
   have z:=(X _ _ ho).symm.trans R0;cases z
  ·cases kJ
 ca:=fun X I k=>RU X I sS sT hk ha hn mi hm hb k
end
end L2
set_option maxHeartbeats 400000
namespace L2
open PySem PySem.Spec PyProof.Rows
inductive bH (J:Shared->Prop) {α:Type}:Sem α->Prop
 |pure (a:α):bH J (.pure a)
 |raise (e:Value):bH J (.raise e)
 |unsupported (w:String):bH J (.unsupported w)
 |rule {t:String}{k:Unit->Sem α}:bH J (k ())->bH J (.rule t k)
 |load {a:Addr}{p:Option Value}{k:Obj->Sem α}:(∀o,bH J<|k o)->bH J (.load a p k)
 |update {a:Addr}{p:Option Value}{f:Obj->Obj}{k:Unit->Sem α}:(∀s,J s->J {s with heap:=s.heap.update a f})->bH J (k ())->bH J (.update a p f k)
 |alloc {o:Obj}{k:Addr->Sem α}:(∀s,J s->J {s with heap:=s.heap.push o})->(∀a,bH J<|k a)->bH J (.alloc o k)
 |stack {k:List (Code×Pos)->Sem α}:(∀t,bH J<|k t)->bH J (.stack k)
theorem R1{M:Model}{Γ:PySem.Ctx}{J:Shared->Prop}{α:Type}{t:Sem α}(kt:bH J t):∀{Q:α->Pos->Shared->Prop}{E:Value->Pos->Shared->Prop}{p:Pos}{s:Shared},J s->Sem.wp M Γ t Q E p s->
  Sem.wp M Γ t (fun a p s=>Q a p s/\J s) (fun e p s=>E e p s/\J s) p s:=by
 induction kt with
 |pure a=>intro Q E p s j h;rw[Sem.wp] at h⊢;exact⟨h,j⟩
 |raise e=>intro Q E p s j h;rw[Sem.wp] at h⊢;exact⟨h,j⟩
 |unsupported w=>intro Q E p s j h;rw[Sem.wp] at h;exact h.elim
 |rule _ ih=>intro Q E p s j h;rw[Sem.wp] at h⊢;exact ih j h
 |load _ ih=>intro Q E p s j h;rw[Sem.wp] at h⊢;obtain⟨o,e,h⟩:=h;exact⟨o,e,ih o j h⟩
 |update f _ ih=>intro Q E p s j h;rw[Sem.wp] at h⊢;exact⟨h.1,ih (f _ j) h.2⟩
 |alloc f _ ih=>intro Q E p s j h;rw[Sem.wp] at h⊢;exact ih _ (f _ j) h
 |stack _ ih=>intro Q E p s j h;rw[Sem.wp] at h⊢;exact ih _ j h
theorem sY{M:Model}{A:Around}{J:Shared->Prop}{α:Type}{t:Sem α}{Q:α->Shared->Prop}{E:Value->Shared->Prop}{s:Shared}(k:bH J t)(j:J s)(h:wpAny M A t Q E s):
  wpAny M A t (fun a s=>Q a s/\J s) (fun e s=>E e s/\J s) s:=fun Γ p hΓ=>R1 k j (h Γ p hΓ)
def dW(e:Addr)(s:Shared):Prop:= ∃o vs,s.heap.get? e=some o/\o.data=.fields vs/\vs[2]?=some .none/\o.dict=none
theorem R3(f:Array Value->Array Value)(o:Obj):(Obj.mapFields f o).dict=o.dict:=by
 unfold Obj.mapFields
 split<;>rfl
theorem R4{e a:Addr}{i:Nat}{v:Value}(hi:i≠2)(s:Shared)(j:dW e s):dW e {s with heap:=s.heap.update a (Obj.mapFields (·.setIfInBounds i v))}:=by
 obtain⟨o,vs,h1,h2,h3,h4⟩:=j;by_cases z:a=e
 ·subst z;have d:=Obj.data_mapFields h2 (·.setIfInBounds i v);exact⟨_,_,Heap.get?_update_self _ h1<|Obj.isFreed_of_fields d,d,by rw[Array.getElem?_setIfInBounds_ne hi];exact h3,(R3 _ _).trans h4⟩
 ·exact⟨o,vs,(Heap.get?_update_other _ _ z).trans h1,h2,h3,h4⟩
theorem R5{e a:Addr}{f:Obj->Obj}(hf:∀o,(f o).data=o.data/\(f o).dict=o.dict)(s:Shared)(j:dW e s):dW e {s with heap:=s.heap.update a f}:=by
 obtain⟨o,vs,h1,h2,h3,h4⟩:=j;by_cases z:a=e
 ·subst z;exact⟨_,vs,Heap.get?_update_self _ h1<|Obj.isFreed_of_fields<|(hf o).1.trans h2,(hf o).1.trans h2,h3,(hf o).2.trans h4⟩
 ·exact⟨o,vs,(Heap.get?_update_other _ _ z).trans h1,h2,h3,h4⟩
theorem R6{e:Addr}{ob:Obj}(s:Shared)(j:dW e s):dW e {s with heap:=s.heap.push ob}:=by
 obtain⟨o,vs,h1,h2,h3,h4⟩:=j;exact⟨o,vs,Heap.get?_push_of_some _ h1,h2,h3,h4⟩
theorem bH.bind{J:Shared->Prop}{α β:Type}{t:Sem α}{f:α->Sem β}(kt:bH J t)(h:∀a,bH J<|f a):bH J (t>>=f):=by
 show bH J (t.bind f)
 induction kt with
 |pure a=>exact h a
 |raise e=>exact .raise e
 |unsupported w=>exact .unsupported w
 |rule _ ih=>exact .rule ih
 |load _ ih=>exact .load ih
 |update g _ ih=>exact .update g ih
 |alloc g _ ih=>exact .alloc g ih
 |stack _ ih=>exact .stack ih
section
variable {e:Addr}
theorem zx{a:Addr}:bH (dW e) (load a):=.load fun o=>.pure o
theorem zy{v x:Value}{i:Nat}(hi:i≠2):bH (dW e) (setField v i x):=by
 unfold setField
 split
 ·rename_i a
  unfold updateField;refine zx.bind fun o=>?_
  split
  ·split
   ·exact .update (fun s j=>R4 hi s j) (.pure ())
   ·exact .unsupported _
  ·exact .unsupported _
 ·exact .unsupported _
theorem R7{v:Value}:bH (dW e) (fieldsOf v):=by
 unfold fieldsOf
 split
 ·refine zx.bind fun o=>?_
  split
  ·exact .pure _
  ·exact .unsupported _
 ·exact .unsupported _
theorem vN{v:Value}{i:Nat}:bH (dW e) (field v i):=by
 unfold field;refine R7.bind fun vs=>?_
 split
 ·exact .pure _
 ·exact .unsupported _
theorem zA{v:Value}{f:Option Addr}:bH (dW e) (setFlight v f):=by
 unfold setFlight;refine vN.bind fun tb=>?_
 split
 ·exact zy (by decide)
 ·exact .pure _
theorem zB:bH (dW e) stack:=.stack fun t=>.pure t
theorem R8{ty:String}{vs:List Value}:bH (dW e) (newFields ty vs):=by
 unfold newFields newObj newObjAsIs;show bH (dW e) (if vs.toArray.size>sizeLine+2 then (unsupported "record:memory" >>=_) else _)
 split
 ·exact .unsupported _
 ·exact bH.bind (.alloc (fun s j=>R6 s j) fun a=>.pure a) fun a=>.pure _
theorem R9{f:Addr}{b:Bool}:bH (dW e) (entryPlaceOf f b):=by
 unfold entryPlaceOf;refine zB.bind fun ad_=>?_
 split
 ·exact .pure _
 ·exact .pure _
theorem Fp:∀l:List Env,bH (dW e) (readyFrames l)
 |[]=>.pure _
 |env::outer=>by
  unfold readyFrames
  split
  ·refine zx.bind fun o=>?_
   split
   ·exact .pure _
   ·refine bH.bind ?_ fun im=>bH.bind ?_ fun bk=>bH.bind (.update (fun s j=>R5 (by intro o;exact⟨rfl,rfl⟩) s j)<|.pure ()) fun _=>Fp outer
    ·unfold behindIsImport
     split
     ·exact .pure _
     ·split
      ·exact .pure _
      ·exact vN.bind fun _=>.pure _
    ·unfold keptBack
     split
     ·split
      ·exact .pure _
      ·unfold underTheClaimsCaller;exact bH.bind (zB.bind fun _=>.pure _) fun _=>.pure _
     ·exact .pure _
  ·exact .unsupported _
theorem R_{env:Env}:bH (dW e) (PySem.frameOf env):=by
 unfold PySem.frameOf frameEnvs;refine bH.bind (zB.bind fun _=>.pure _) fun l=>?_;refine bH.bind ?_ fun r=>?_
 ·unfold frameObject
  split
  ·exact .pure _
  ·exact(Fp _).bind fun _=>.pure _
 ·split
  ·exact .pure _
  ·exact .unsupported _
theorem Fq{v:Value}{env:Env}:bH (dW e) (noteFrame v env):=by
 unfold noteFrame
 split
 ·rename_i x d hq
  refine vN.bind fun hd=>?_;have tail:bH (dW e) (do let a <-PySem.frameOf env;let pl <-entryPlaceOf d (hd !=.none);let b <-EntryCells.newEntry hd a .none (rawInt d) .none pl;setField v 1 b):=
   R_.bind fun a=>R9.bind fun pl=>bH.bind R8 fun b=>zy (by decide)
  dsimp only
  split
  ·refine vN.bind fun x=>?_
   split
   ·exact .pure _
   ·exact(zy (by decide)).bind fun _=>tail
  ·exact tail
 ·exact .unsupported _
theorem Fs{v:Value}{env:Env}:bH (dW e) (leaving env v):=by
 unfold leaving;exact Fq.bind fun _=>zA
end
end L2
set_option maxHeartbeats 4000000
namespace L2
open PySem PySem.Spec PyProof.Rows
theorem bT.vO{P:Program}{w:World}{H:Hp}{h:Heap}{a:Addr}{o:HO}(x:bT P w H h a o):∃ob,h.get? a=some ob:=by
 cases o with
 |lst xs=>obtain⟨_,_,_,_,e⟩:=x;exact⟨_,e⟩
 |tup xs=>obtain⟨_,_,_,ob,e,_⟩:=x;exact⟨_,e⟩
 |dK kvs=>obtain⟨_,_,_,_,o,_,_,e,_⟩:=x;exact⟨_,e⟩
 |dT kvs=>obtain⟨_,_,_,_,o,_,_,e,_⟩:=x;exact⟨_,e⟩
 |set S n=>obtain⟨o,_,_,_,e,_⟩:=x;exact⟨_,e⟩
 |ins C dx fs=>obtain⟨_,_,_,e,_⟩:=x;exact⟨_,e⟩
 |own y=>obtain⟨_,e⟩:=x;exact⟨_,e⟩
 |xd fs=>obtain⟨_,⟨_,_,_,e,_⟩,_⟩:=x;exact⟨_,e⟩
 |fG lo hi=>obtain⟨_,_,_,e⟩:=x;exact⟨_,e⟩
 |a_ ob u=>obtain⟨e,_⟩:=x;exact⟨_,e⟩
 |jI ps=>exact⟨_,(show h.get? a=some _ from x)⟩
 |met f y=>exact⟨_,(show h.get? a=some _ from x)⟩
 |ext φ=>obtain⟨_,⟨_,e⟩,_⟩:=x;exact⟨_,e⟩
theorem bI.vP{P:Program}{w:World}{H:Hp}{h h':Heap}(ok:bI P w H h)(k:∀b u,H b≠none->h.get? b=some u->h'.get? b=some u):bI P w H h':=fun a o e=>
 (ok a o e).i6 (fun b u hb hu=>k b u (by
  rcases hb with rfl|hb
  ·rw[e];exact Option.some_ne_none _
  ·rw[hb];exact Option.some_ne_none _) hu) (fun _ z=>z) (fun _ _ z=>z)
def d9(P:Program)(w:World):bK:=fun outer H s E e s'=>∃(ea:Addr) (cls:Value) (t:Addr) (B:Heap) (H':Hp),
 e=.ref ea/\s'.os=s.os/\AllBare s'.gens/\Un (bj outer) [] H H' s.heap s'.heap/\bI P w H' s'.heap/\Heap.FlyingW B outer ea cls (.ref t) s'.heap/\dW ea s'/\H' ea=none/\
 (∀b,H' b≠none->∀o,s'.heap.get? b=some o->B.get? b=some o)/\(∀b o,s.heap.get? b=some o->b∉bj outer->∀o',s'.heap.get? b=some o'->B.get? b=some o')/\E cls none H'
theorem vQ{P:Program}{w:World}{outer:List Env}{H:Hp}{s:Shared}{e:Value}{s':Shared}(h:d9 P w outer H s E0 e s'):False:=by
 obtain⟨_,_,_,_,_,_,_,_,_,_,_,_,_,_,_,h⟩:=h;exact h
section
variable {P:Program}{w:World}{K:Frag}{mg:Str->Option Value}{base:Heap}{N:List Str}{qual:Str}{scope:Scope}{f:Addr}{cd:Value}{A:Around}{outer:List Env}{s₀:Shared}{H₀:Hp}{E:XK}
theorem Sa:Passes (d9 P w) (kQ (d9 P w) P w K mg base N qual scope f cd A outer s₀ H₀ E) E:=by
 intro pins σ H s e s' I hx;obtain⟨ea,cls,t,B,H',rfl,os,bare,u,az,fl,sZ,lj,c1,c2,hE⟩:=hx;have s_:=I.ok.frames;have hL:s₀.heap.objs.size<= (envOfC qual scope s₀.heap.objs.size f cd).locals:=I.ok.above;have nL:∀b o,s₀.heap.get? b=some o->b∉bj outer->b∉bj (envOfC qual scope s₀.heap.objs.size f cd::outer):=fun b o hb hn hm=>by
  have zC:b∈ (envOfC qual scope s₀.heap.objs.size f cd).locals::bj outer:=hm;rcases zab.mp zC with rfl|z
  ·exact absurd (Heap.lt_size hb) (Nat.not_lt.mpr hL)
  ·exact hn z
 have iw:∀b∈bj (envOfC qual scope s₀.heap.objs.size f cd::outer),H' b=none:=fun b hb=>by
  obtain⟨o,ho,_⟩:=(I.stack.mem hb).2;exact u.free b o ho (I.uV b hb) zac
 refine wpAny_mono (sY Fs sZ<|wpAny_leaves_onW (Q:=fun _ fq=>∃h',fq={s' with heap:=h'}/\Heap.FlyingW B outer ea cls (.ref t) h'/\s'.heap.UpToSlots h') (E:=fun _ _=>False) s_ rfl fl fun h' iG up=>⟨h',rfl,iG,up⟩)
  (fun _ fq hq=>?_) (fun _ _ z=>z.1.elim)
 obtain⟨⟨h',rfl,iG,up⟩,zD⟩:=hq;have into:∀b o,s.heap.get? b=some o->b∉bj (envOfC qual scope s₀.heap.objs.size f cd::outer)->∀o',s'.heap.get? b=some o'->h'.get? b=some o':=fun b o hb hn o' dQ=>iG.1 b o' (c2 b o hb hn o' dQ);have jJ:∀b o,H' b≠none->s'.heap.get? b=some o->h'.get? b=some o:=fun b o hb ho=>iG.1 b o (c1 b hb o ho);have fQ:∀b∈bj (envOfC qual scope s₀.heap.objs.size f cd::outer),∀o,s'.heap.get? b=some o->∃sl,h'.get? b=some {o with slots:=sl}:=fun b hb o ho=>by
  obtain⟨o1,gi,hd⟩:=(fl.2.2.1.mem hb).2;rw[ho] at gi;cases gi;exact up b o ho hd
 refine⟨ea,cls,t,B,H',rfl,os.trans I.os,bare,⟨fun b o q n hn _=>?_,fun b o q n hn _=>?_,fun b o q n _=>?_,fun b o q _=>?_,fun b xs q=>u.eA b xs (I.base.eA b xs q),fun b o v q=>u.d4 b o v (I.base.d4 b o v q),fun b ps q=>?_⟩,
  az.vP (fun b o hb ho=>jJ b o hb ho),iG,zD,lj,fun b hb o ho=>?_,fun b o q hn o' dQ=>?_,hE⟩
 ·have q1:=I.base.keep b o q n hn zac;have n1:=I.base.free b o q n zac;have iH:=nL b o q hn;exact into b o q1 iH o<|u.keep b o q1 n1 iH zac
 ·obtain⟨sl,q1⟩:=I.base.slot b o q n hn zac;have n1:=I.base.free b o q n zac;have iH:b∈bj (envOfC qual scope s₀.heap.objs.size f cd::outer):=zao _ hn;obtain⟨rZ,q2⟩:=u.slot b _ q1 n1 iH zac;obtain⟨zE,q3⟩:=fQ b iH _ q2;exact⟨zE,q3⟩
 ·obtain⟨o1,q1⟩:=I.base.there b o q zac;exact u.free b o1 q1 (I.base.free b o q n zac) zac
 ·obtain⟨o1,q1⟩:=I.base.there b o q zac;obtain⟨o2,q2⟩:=u.there b o1 q1 zac;by_cases hm:b∈bj (envOfC qual scope s₀.heap.objs.size f cd::outer)
  ·obtain⟨sl,q3⟩:=fQ b hm o2 q2;exact⟨_,q3⟩
  ·exact⟨o2,into b o1 q1 hm o2 q2⟩
 ·obtain⟨m1,e1⟩:=I.base.fg b ps q;obtain⟨m2,e2⟩:=u.fg b _ e1;exact⟨m1++m2,by rw[e2,Array.append_assoc]⟩
 ·obtain⟨dg,hH⟩:=zbR.mp hb;obtain⟨o2,q2⟩:=(az b dg hH).vO;have q3:=jJ b o2 hb q2;have jh:h'.get? b=some o:=ho;rw[q3] at jh;cases jh;exact c1 b hb _ q2
 ·obtain⟨o1,q1⟩:=I.base.there b o q zac;obtain⟨o2,q2⟩:=u.there b o1 q1 zac;have iH:=nL b o q hn;have q3:=into b o1 q1 iH o2 q2;have jh:h'.get? b=some o':=dQ;rw[q3] at jh;cases jh;exact c2 b o1 q1 iH _ q2
def Raises(X:Cx)(E:XK):Prop:= ∀(pins:List (Addr×Obj)) (σ:St) (H:Hp) (s:Shared) (h':Heap) (e:Addr) (cls:Value) (vs:List Value),Inv X pins σ H s->Heap.MadeExcOf s.heap h' e cls vs->E cls none H->X.xe (.ref e) {s with heap:=h'}
theorem Sb:Raises (kQ (d9 P w) P w K mg base N qual scope f cd A outer s₀ H₀ E) E:=by
 intro pins σ H s h1 e cls vs I hx hE;have s_:=I.ok.frames;have hL:s₀.heap.objs.size<= (envOfC qual scope s₀.heap.objs.size f cd).locals:=I.ok.above;have nL:∀b o,s₀.heap.get? b=some o->b∉bj outer->b∉bj (envOfC qual scope s₀.heap.objs.size f cd::outer):=fun b o hb hn hm=>by
  have zC:b∈ (envOfC qual scope s₀.heap.objs.size f cd).locals::bj outer:=hm;rcases zab.mp zC with rfl|z
  ·exact absurd (Heap.lt_size hb) (Nat.not_lt.mpr hL)
  ·exact hn z
 have tj:∀env∈ (envOfC qual scope s₀.heap.objs.size f cd::outer),∀b,env.frame=some b->b∈bj (envOfC qual scope s₀.heap.objs.size f cd::outer):=fun env he b hb=>zbP.mpr ⟨env,he,hb⟩;have sZ:dW e {s with heap:=h1}:=by
  obtain⟨t,ht,_,_⟩:=hx.there;exact⟨_,_,ht,rfl,rfl,rfl⟩
 refine wpAny_mono (sY Fs sZ (wpAny_leaves_madeW (Q:=fun _ fq=>∃h' t,fq={s with heap:=h'}/\Heap.FlyingW (hideAll s.heap (bj (envOfC qual scope s₀.heap.objs.size f cd::outer))) outer e cls (.ref t) h'/\h1.UpToSlots h') (E:=fun _ _=>False)
  s_ rfl (fun b o q=>of_hideAll _ q) (PySem.W.funFrames_hide I.stack tj) hx fun h' t iG _ _ up=>⟨h',t,rfl,iG,up⟩)) (fun _ fq hq=>?_) (fun _ _ z=>z.1.elim)
 obtain⟨⟨h',t,rfl,iG,up⟩,zD⟩:=hq;have into:∀b o,s.heap.get? b=some o->b∉bj (envOfC qual scope s₀.heap.objs.size f cd::outer)->h'.get? b=some o:=fun b o hb hn=>iG.1 b o (hideAll_get _ hb hn);have tm:∀b,H b≠none->b∉bj (envOfC qual scope s₀.heap.objs.size f cd::outer):=fun b hb hm=>hb (I.uV b hm);have fQ:∀b∈bj (envOfC qual scope s₀.heap.objs.size f cd::outer),∀o,s.heap.get? b=some o->∃sl,h'.get? b=some {o with slots:=sl}:=fun b hb o ho=>by
  obtain⟨o1,gi,hd⟩:=(I.stack.mem hb).2;rw[ho] at gi;cases gi;exact up b o (hx.keeps b o ho) hd
 refine⟨e,cls,t,_,H,rfl,I.os,I.bare,⟨fun b o q n hn _=>?_,fun b o q n hn _=>?_,fun b o q n _=>I.base.free b o q n zac,fun b o q _=>?_,I.base.eA,I.base.d4,I.base.fg⟩,
  I.az.vP (fun b o hb ho=>into b o ho (tm b hb)),iG,zD,?_,fun b hb o ho=>?_,fun b o q hn o' dQ=>?_,hE⟩
 ·exact into b o (I.base.keep b o q n hn zac) (nL b o q hn)
 ·obtain⟨sl,q1⟩:=I.base.slot b o q n hn zac;obtain⟨zE,q3⟩:=fQ b (zao _ hn) _ q1;exact⟨zE,q3⟩
 ·obtain⟨o1,q1⟩:=I.base.there b o q zac;by_cases hm:b∈bj (envOfC qual scope s₀.heap.objs.size f cd::outer)
  ·obtain⟨sl,q3⟩:=fQ b hm o1 q1;exact⟨_,q3⟩
  ·exact⟨o1,into b o1 q1 hm⟩
 ·cases q:H e with
  |none=>rfl
  |some ho=>
   obtain⟨o2,q2⟩:=(I.az e ho q).vO;rw[hx.new] at q2;cases q2
 ·obtain⟨dg,hH⟩:=zbR.mp hb;obtain⟨o2,q2⟩:=(I.az b dg hH).vO;have q3:=into b o2 q2 (tm b hb);have jh:h'.get? b=some o:=ho;rw[q3] at jh;cases jh;exact hideAll_get _ q2<|tm b hb
 ·obtain⟨o1,q1⟩:=I.base.there b o q zac;have iH:=nL b o q hn;have q3:=into b o1 q1 iH;have jh:h'.get? b=some o':=dQ;rw[q3] at jh;cases jh;exact hideAll_get _ q1 iH
end
section
variable {X:Cx}
theorem Se{x:Str}{C:Addr}{bm:List Value}{B newId qE:String}{e:Expr}{es:List Expr}{t:TA}{np dw pos:Pos}{E:XK}(hc:X.calm=true)(O:OwnCls x C bm newId X.mg X.base)(FB:ExcBaseFacts B newId qE bm)(zF:Gl X x)
  (hd:(x==("__debug__":Str))=false) (ha:PA X (e::es) t) (hs:starEach (e::es) X.env=(false,eval e X.env)::starEach es X.env) (h1:(backTo dw<|starEach es X.env).any (·.1)=false) (hR:Raises X E):
  PS X (.Raise (some<|.Call (.Name x np) (e::es) [] dw) none pos) (zh C E t):=by
 intro pins s σ H D I h;obtain⟨tl,N,nm,q,bs,hdct,sn,sub,ab,col,dd,k0,k1,k2,k3,k5,mN,hC,hN,vR,T⟩:=O.obj;have hg:PE X (.Name x np) (tC<|.ref C):=Dq zF O.bound rfl hd;refine wpAny_Raise_call_subT (C:=C) (nm:=nm) (q:=q) (N:=N) (bs:=bs) (bm:=tl) (hdct:=hdct) (sn:=sn) (sub:=sub) (ab:=ab) (col:=col) (dd:=dd) (k0:=k0) (k1:=k1) (k2:=k2) (k3:=k3) (k5:=k5)
  FB (mN:=mN) (T.hasType FB.hasBase) (I.ok.hd hc) (by rw[hs];show(false ||(backTo dw<|starEach es X.env).any (·.1))=false;rw[h1];rfl) vR
  (aF (hg pins s σ H (fun v H1=>v=.ref C/\zh C E t D σ H1) I ⟨rfl,h⟩) fun f s1 ⟨v,H1,I1,r1,ev,q1⟩=>?_)
 subst ev;obtain rfl:f=Value.ref C:=r1;refine⟨rfl,?_⟩;have hA:=ha dw pins s1 σ H1 _ I1 q1;rw[hs] at hA⊢;refine Calls.evalArgs_plain<|aF hA fun us s2 ⟨vs,H2,I2,r2,hl,q2⟩=>⟨rfl,?_,I2.bk _ _ hC,hN.keeps I2.bk,T.keeps I2.bk,fun h' e' hm=>hR pins σ H2 s2 h' e' _ _ I2 hm q2⟩;have:=r2.length;show us.length<=sizeLine;lia
end
theorem Ft{P:Program}{w:World}{l:List Env}{H H':Hp}{h h1 h' B:Heap}(u:Un (bj l) [] H H' h h1)(az:bI P w H' h1)(fr:h1.FunFrames B l)
  (c1:∀b,H' b≠none->∀o,h1.get? b=some o->B.get? b=some o) (c2:∀b o,h.get? b=some o->b∉bj l->∀o',h1.get? b=some o'->B.get? b=some o') (st:B.StaysIn h') (up:h1.UpToSlots h'):
  Un (bj l) [] H H' h h'/\bI P w H' h'/\(∀b,H' b≠none->∀o,h'.get? b=some o->B.get? b=some o)/\(∀b o,h.get? b=some o->b∉bj l->∀o',h'.get? b=some o'->B.get? b=some o'):=by
 have jJ:∀b o,H' b≠none->h1.get? b=some o->h'.get? b=some o:=fun b o hb ho=>st b o (c1 b hb o ho);have into:∀b o,h.get? b=some o->b∉bj l->∀o',h1.get? b=some o'->h'.get? b=some o':=fun b o hb hn o' dQ=>st b o' (c2 b o hb hn o' dQ);have fQ:∀b∈bj l,∀o,h1.get? b=some o->∃sl,h'.get? b=some {o with slots:=sl}:=fun b hb o ho=>by
  obtain⟨o1,gi,hd⟩:=(fr.mem hb).2;rw[ho] at gi;cases gi;exact up b o ho hd
 refine⟨⟨fun b o q n hn _=>into b o q hn o<|u.keep b o q n hn zac,fun b o q n hn _=>?_,u.free,fun b o q _=>?_,u.eA,u.d4,u.fg⟩,az.vP<|fun b o hb ho=>jJ b o hb ho,fun b hb o ho=>?_,fun b o q hn o' dQ=>?_⟩
 ·obtain⟨sl,q1⟩:=u.slot b o q n hn zac;obtain⟨rZ,q2⟩:=fQ b hn _ q1;exact⟨rZ,q2⟩
 ·obtain⟨o1,q1⟩:=u.there b o q zac;by_cases hm:b∈bj l
  ·obtain⟨sl,q3⟩:=fQ b hm o1 q1;exact⟨_,q3⟩
  ·exact⟨o1,into b o q hm o1 q1⟩
 ·obtain⟨dg,hH⟩:=zbR.mp hb;obtain⟨o2,q2⟩:=(az b dg hH).vO;have q3:=jJ b o2 hb q2;rw[q3] at ho;cases ho;exact c1 b hb _ q2
 ·obtain⟨o2,q2⟩:=u.there b o q zac;have q3:=into b o q hn o2 q2;rw[q3] at dQ;cases dQ;exact c2 b o q hn _ q2
def Cx.alt(X:Cx)(A:Around)(calm:Bool)(pn:List (Addr×Obj))(xe:Value->Shared->Prop):Cx:={X with A:=A,calm:=calm,pn:=pn,xe:=xe}
theorem Inv.alt{X:Cx}{pins pins' pn':List (Addr×Obj)}{σ:St}{H:Hp}{s:Shared}{A':Around}{calm':Bool}{zG:Value->Shared->Prop}(I:Inv X pins σ H s)(hf:A'.frames=X.A.frames)(hc:calm'=true->A'.handled=none)(hp:∀p∈pn'++pins',p∈X.pn++pins):
  Inv (X.alt A' calm' pn' zG) pins' σ H s where
 ok:=⟨I.ok.mod,I.ok.kind,I.ok.glob,I.ok.blt,I.ok.above,I.ok.inj,I.ok.has,I.ok.uR,hc,hf.trans I.ok.frames,I.ok.iw,I.ok.M3,I.ok.bs,I.ok.mf,I.ok.uS,I.ok.uT,I.ok.iy,I.ok.nW⟩
 os:=I.os
 bare:=I.bare
 base:=I.base
 loc:=I.loc
 cell:=I.cell
 free:=I.free
 eN:=I.eN
 pin:=fun p h=>I.pin p (hp p h)
 az:=I.az
 len:=I.len
theorem Inv.zH{X:Cx}{pins pins' pn':List (Addr×Obj)}{σ:St}{H:Hp}{s:Shared}{A':Around}{calm':Bool}{zG:Value->Shared->Prop}(ok:X.Ok)(I:Inv (X.alt A' calm' pn' zG) pins' σ H s)(hp:∀p∈X.pn++pins,p∈pn'++pins'):
  Inv X pins σ H s where
 ok:=ok
 os:=I.os
 bare:=I.bare
 base:=I.base
 loc:=I.loc
 cell:=I.cell
 free:=I.free
 eN:=I.eN
 pin:=fun p h=>I.pin p (hp p h)
 az:=I.az
 len:=I.len
theorem Sf{P:Program}{w:World}{H:Hp}{h:Heap}{ea:Addr}{ob:Obj}(h1:h.get? ea=some ob):bT P w H h ea (.a_ ob k8):=
 ⟨h1,trivial,⟨ob,h1⟩,fun _ _ _ _=>trivial⟩
theorem bI.more{P:Program}{w:World}{H:Hp}{h:Heap}{a:Addr}{o:HO}(ok:bI P w H h)(ha:H a=none)(x:bT P w (upd H a o) h a o):bI P w (upd H a o) h:=fun b u e=>by
 by_cases z:b=a
 ·subst z;rw[au] at e;cases e;exact x
 ·rw[ax z] at e;exact(ok b u e).i6 (fun _ _ _ q=>q) (fun c q=>by rw[ax<|aL q ha];exact q) (fun c xs q=>by rw[ax<|aL q ha];exact q)
section
variable {X:Cx}
theorem Inv.Sg{pins:List (Addr×Obj)}{σ:St}{H:Hp}{s:Shared}{h':Heap}{m':Str->Option Value}{tk:Nat}(I:Inv X pins σ H s)(hn:h'.Ns X.env.locals m')(sb:Heap.SameBut X.env.locals s.heap h'):
  Inv X pins (List.replicate X.N.length none) H {s with heap:=h',toks:=tk} where
 ok:=I.ok
 os:=I.os
 bare:=I.bare
 base:=by
  have ne:∀b o,X.s₀.heap.get? b=some o->b≠X.env.locals:=fun b o q z=>by
   rw[z] at q;exact absurd (Heap.lt_size q)<|Nat.not_lt.mpr I.ok.above
  refine⟨fun b o q n hn hx=>(sb.2 b<|ne b o q).trans<|I.base.keep b o q n hn hx,fun b o q n hn hx=>?_,I.base.free,fun b o q hx=>?_,I.base.eA,I.base.d4,I.base.fg⟩
  ·obtain⟨sl,e⟩:=I.base.slot b o q n hn hx;exact⟨sl,(sb.2 b<|ne b o q).trans e⟩
  ·obtain⟨o',e⟩:=I.base.there b o q hx;exact⟨o',(sb.2 b<|ne b o q).trans e⟩
 loc:=⟨m',hn,fun i x v h1 h2=>by
  rw[List.getElem?_replicate] at h2
  split at h2<;>cases h2⟩
 cell:=fun x c h=>by
  obtain⟨v,o,e,d⟩:=I.cell x c h;refine⟨v,o,(sb.2 c<|fun z=>?_).trans e,d⟩;obtain⟨m,⟨o2,es,ep,e2,d2,_⟩,_⟩:=I.loc;rw[z,e2] at e;cases e;rw[d] at d2;cases d2
 free:=I.free
 eN:=I.eN
 pin:=fun p hp=>by
  obtain⟨a,b,c,d,e⟩:=I.pin p hp;exact⟨(sb.2 _ c).trans a,b,c,d,e⟩
 az:=I.az.vP fun b u hb hu=>(sb.2 b<|fun z=>hb (by rw[z];exact I.free)).trans hu
 len:=List.length_replicate
theorem Sh{x n:Str}{C:Addr}{i:Nat}{body:List Stmt}{b₀:Stmt}{zI:List Stmt}{tb:XK->TS}{th:Addr->TS}{np vS pos:Pos}(fH:X.stack=X.env::X.outer)(s_:X.env.frame=some X.env.locals)(hex:X.ex=[])
  (zF:Gl X x) (hd:(x==("__debug__":Str))=false) (kU:X.mg x=some (.ref C)) (nd:X.N.Nodup) (hN:X.N[i]?=some n) (vt:X.env.scope.names.lookup n=some .local)
  (hb:∀(pn:List (Addr×Obj)) (xe:Value->Shared->Prop) (E:XK),PassesOwn (model X.prog X.w) X.A X.env xe->Passes (d9 X.prog X.w) (X.alt X.A X.calm pn xe) E->cT (X.alt X.A X.calm pn xe) body (tb E))
  (hh:∀(ea:Addr) (pn:List (Addr×Obj)),cT (X.alt (X.A.mark<|some<|.ref ea) false pn fun _ _=>False) (b₀::zI)<|th ea):
  PS X (.Try body [.ExceptHandler (some<|.Name x np) (some n) (b₀::zI) vS] [] [] pos) (vJ X.K C i X.N.length tb th):=by
 intro pins s σ H D I h;refine wpAny_Try_except ?_;have P1:Passes (d9 X.prog X.w) (X.alt X.A X.calm (X.pn++pins) fun e s₁=>wpAny (model X.prog X.w) X.A (noteFrame e X.env) (fun _ s₂=>wpAny (model X.prog X.w) X.A (setFlight e none) (fun _ s₃=>wpAny (model X.prog X.w) X.A (handleBy e X.env [.ExceptHandler (some<|.Name x np) (some n) (b₀::zI) vS]) (SP X pins D) X.xe s₃) X.xe s₂) X.xe s₁) (zi X.K C i X.N.length th D):=by
  intro pins' σ' H1 s1 e' s' I1 hx;obtain⟨ea,cls,t,B,H',rfl,os,bare,u,az,fl,sZ,lj,c1,c2,hm,Si⟩:=hx;have Sj:X.A.frames=some (X.env::X.outer):=by rw[I.ok.frames,fH]
  have iG:Heap.FlyingW B (X.env::X.outer) ea cls (.ref t) s'.heap:=by rw[<-fH];exact fl
  refine wpAny_mono (sY Fq sZ<|wpAny_looks_onW (Q:=fun _ fq=>∃h',fq={s' with heap:=h'}/\Heap.HeldW B (X.env::X.outer) ea cls (.ref t) X.env.locals h'/\s'.heap.UpToSlots h') (E:=fun _ _=>False) Sj s_ iG fun h4 qF zJ=>⟨h4,rfl,qF,zJ⟩)
   (fun _ s4 hq=>?_) (fun _ _ z=>z.1.elim)
  obtain⟨⟨h4,rfl,qF,zJ⟩,Sk⟩:=hq;refine wpAny_mono (sY zA Sk<|wpAny_landsW (s:={s' with heap:=h4}) (Q:=fun _ fq=>∃h',fq={s' with heap:=h'}/\Heap.FlyingW B (X.env::X.outer) ea cls (.ref t) h'/\h4.UpToSlots h') (E:=fun _ _=>False) qF fun h5 qG zK=>⟨h5,rfl,qG,zK⟩)
   (fun _ s5 hq=>?_) (fun _ _ z=>z.1.elim)
  obtain⟨⟨h5,rfl,Sl,zK⟩,Sm⟩:=hq;have qG:Heap.FlyingW B X.stack ea cls (.ref t) h5:=by rw[fH];exact Sl
  obtain⟨u5,Fu,Sn,So⟩:=Ft (l:=X.stack) u az fl.2.2.1 c1 c2 qG.1 (zJ.trans zK);obtain⟨oe,ws,Sq,Sr,aea,aeb⟩:=qG.first
  have I5:=I1.yl (s':={s' with heap:=h5}) (ch:=[]) os u5 Fu bare (fun b z=>absurd z zac)
  refine wpAny_handleBy_cons (codeAny_handlers_test ?_) (by intro q;cases q)
  have rV:Inv (X.alt (X.A.mark<|some<|.ref ea) false (X.pn++pins) fun _ _=>False) [] σ' H' {s' with heap:=h5}:=I5.alt (A':=X.A.mark (some<|.ref ea)) (calm':=false) (pn':=X.pn++pins) (pins':=[]) rfl (fun z=>nomatch z) (fun p hp=>zag.mpr<|.inl (by rw[zaj] at hp;exact hp))
  refine rP rV zF kU ?_ hd;have LT:PySem.W.Looks (model X.prog X.w) h5 (typeOf<|.ref ea) cls:=by
   subst Sr;exact(PySem.W.Looks.ld Sq).andThen .now
  refine(PySem.W.exm_one I5.cB LT hm).here ?_;refine codeAny_handlers_suite_as ?_;refine wpAny_mono (sY zA Sm<|lands_againW (s:={s' with heap:=h5}) (Q:=fun _ fq=>∃h',fq={s' with heap:=h'}/\Heap.FlyingW B X.stack ea cls (.ref t) h'/\h5.UpToSlots h') (E:=fun _ _=>False) qG fun h6 qH oF=>⟨h6,rfl,qH,oF⟩)
   (fun _ s6 hq=>?_) (fun _ _ z=>z.1.elim)
  obtain⟨⟨h6,rfl,qH,oF⟩,Ss⟩:=hq;obtain⟨u6,Su,c16,Sv⟩:=Ft (l:=X.stack) u5 Fu qG.2.2.1 Sn So qH.1 oF;obtain⟨qI,Fv,vT,Sw,zL,_⟩:=qH.first
  have Sx:vI qI cls Fv:=by
   obtain⟨o',vs',q1,q2,q3,q4⟩:=Ss;have jU:h6.get? ea=some o':=q1;rw[vT] at jU;cases jU;rw[zL] at q2;cases q2;exact⟨Sw,zL,q3,q4⟩
  have ne1:s1.heap.get? ea=none:=by
   cases q:s1.heap.get? ea with
   |none=>rfl
   |some o1=>
    by_cases Fw:ea∈bj X.stack
    ·obtain⟨o2,dg,hd2⟩:=(qH.2.2.1.mem Fw).2;rw[vT] at dg;cases dg;exact(hd2 _ zL).elim
    ·have:=Sv ea o1 q Fw qI vT;rw[qH.2.1] at this;cases this
  have u7:Un (bj X.stack) [] H1 (upd H' ea (.a_ qI k8)) s1.heap h6:=⟨u6.keep,u6.slot,fun b o q n hx=>by
    rw[ax (fun z=>by rw[z,ne1] at q;cases q)];exact u6.free b o q n hx,u6.there,fun b xs q=>by
    have q':=u6.eA b xs q;rw[ax<|aL q' lj];exact q',fun b o v q=>by
    have q':=u6.d4 b o v q;rw[ax<|aL q' lj];exact q',fun b ps q=>by
    obtain⟨more,q'⟩:=u6.fg b ps q;exact⟨more,by rw[ax (aL q' lj)];exact q'⟩⟩
  have Sy:bI X.prog X.w (upd H' ea<|.a_ qI k8) h6:=Su.more lj (Sf vT);have I7:=I1.yl (s':={s' with heap:=h6}) (ch:=[]) os u7 Sy bare (fun b z=>absurd z zac)
  have I8:Inv (X.alt (X.A.mark<|some<|.ref ea) false (X.pn++pins) fun _ _=>False) [] σ' (upd H' ea<|.a_ qI k8) {s' with heap:=h6}:=I7.alt (A':=X.A.mark (some<|.ref ea)) (calm':=false) (pn':=X.pn++pins) (pins':=[]) rfl (fun z=>nomatch z) (fun p hp=>zag.mpr<|.inl (by rw[zaj] at hp;exact hp))
  refine yk (X:=X.alt (X.A.mark<|some<|.ref ea) false (X.pn++pins) fun _ _=>False) (v:=.ref ea) I8 nd hN (.inl vt) rfl (fun s9 I9=>?_)<|.inr vt;refine wpAny_mono (hh ea (X.pn++pins) [] s9 _ _ {nx:=fun _ _=>False,rt:=D.rt} I9<|Si ea qI Fv σ' lj I1.len Sx) (fun f Sz hs=>?_) fun _ _ z=>z.elim;cases f with
  |next=>obtain⟨_,_,_,z⟩:=hs;exact z.elim
  |brk=>obtain⟨_,_,_,z⟩:=hs;exact z.elim
  |cont=>obtain⟨_,_,_,z⟩:=hs;exact z.elim
  |ret v=>
   obtain⟨v',SE,Fx,SF,r,q⟩:=hs;have Fy:Inv X pins SE Fx Sz:=SF.zH I.ok (fun p hp=>by simpa using hp)
   obtain⟨m,hn,_⟩:=Fy.loc;refine wpAny_nameGoes vt hn (by rw[I.ok.kind];rfl) fun h' m' yi sb=>?_
   exact⟨v',_,Fx,Fy.Sg yi sb,r,q⟩
 refine wpAny_mono (hb _ _ _ PassesOwn.looking P1 [] s σ H {nx:=D.nx,rt:=D.rt} (I.alt rfl I.ok.hd (fun p hp=>by simpa using hp)) h) (fun f s1 hs=>?_) fun e' s' hx=>hx
 cases f with
 |next=>
  obtain⟨σ',H',I',q⟩:=hs;exact DB pins s1 σ' H' D (I'.zH I.ok (fun p hp=>by simpa using hp)) q
 |brk=>obtain⟨_,_,_,z⟩:=hs;exact z.elim
 |cont=>obtain⟨_,_,_,z⟩:=hs;exact z.elim
 |ret v=>
  obtain⟨v',σ',H',I',r,q⟩:=hs;exact⟨v',σ',H',I'.zH I.ok (fun p hp=>by simpa using hp),r,q⟩
end
def gj(A:Around)(H:Hp):Prop:= ∃e D,A.handled=some (.ref e)/\ExcAt H e D
def Hd(X:Cx):Prop:=gj X.A X.H₀
theorem ExcAt.keeps{H H':Hp}{e D:Addr}(h:ExcAt H e D)(k:∀b o u,H b=some (.a_ o u)->H' b=some (.a_ o u)):ExcAt H' e D:=by
 obtain⟨ob,vs,h1,h2⟩:=h;exact⟨ob,vs,k _ _ _ h1,h2⟩
theorem gj.keeps{A:Around}{H H':Hp}(h:gj A H)(k:∀b o u,H b=some (.a_ o u)->H' b=some (.a_ o u)):gj A H':=by
 obtain⟨e,D,h1,h2⟩:=h;exact⟨e,D,h1,h2.keeps k⟩
theorem gj.jg{P:Program}{w:World}{A:Around}{H:Hp}{h:Heap}(x:gj A H)(ok:bI P w H h):hG A h:=by
 obtain⟨e,D,h1,ob,vs,h2,h3⟩:=x;exact .inr ⟨e,ob,vs,h1,(ok e _ h2).1,h3.data,h3.Q_⟩
section
variable {X:Cx}{pins:List (Addr×Obj)}{σ:St}{H:Hp}{s:Shared}
theorem Hd.at(h:Hd X)(I:Inv X pins σ H s):gj X.A H:=gj.keeps h I.base.d4
theorem Hd.jg(h:Hd X)(I:Inv X pins σ H s):hG X.A s.heap:=(h.at I).jg I.az
end
theorem SH{P:Program}{w:World}{K:Frag}{tg:Expr}(a it:Addr):za Hd P w K tg (eO K a) [it] it (fun i h=>h.IsListIter it a i) where
 mem:=by simp
 obj:=(va (P:=P) (w:=w) (K:=K) (tg:=tg) a it).obj
 keep:=(va (P:=P) (w:=w) (K:=K) (tg:=tg) a it).keep
 item:=by
  intro X hP hw hK hc i pins s σ H E I hf st hg;subst hP hw hK;obtain⟨xs,x,hq,hx⟩:=hg;obtain⟨aq,rv,p,hz⟩:=I.list hq;obtain⟨u,hu,ru⟩:=rv.get hx;obtain⟨f0,f1,f2,f3,f4,f5⟩:=hf it (by simp)
  refine wpAny_pyNext_list_item st p.isList (x:=u) (by simpa using hu) fun h' i9 sb=>?_
  have I1:Inv X pins σ H {s with heap:=h'}:=I.turned (t':=s.toks) (fun b o hb e=>(sb.2 b hb).trans e) f0 f1 f3 f4 f5
  obtain⟨o,e,c,d⟩:=id i9;exact⟨u,rfl,u_ (s:={s with heap:=h'}) e c d (by decide) ⟨x,H,I1,ru,⟨rfl,fun ys hy=>by rw[I.Dz hy hq];exact hx⟩,i9,fun b hb=>(hf b hb).1⟩⟩
 done:=by
  intro X hP hw hK hc i pins s σ H E I hf st hg;subst hP hw hK;obtain⟨xs,hq,hx⟩:=hg;obtain⟨aq,rv,p,hz⟩:=I.list hq;obtain⟨f0,f1,f2,f3,f4,f5⟩:=hf it (by simp)
  have hl:=rv.length;exact RN (hc.jg I) st p.isList (by simp;lia) fun h' eb=>⟨rfl,I.turned (t':=s.toks) (fun b o hb e=>eb b o hb e) f0 f1 f3 f4 f5⟩
 self:=(va (P:=P) (w:=w) (K:=K) (tg:=tg) a it).self
section
variable {X:Cx}{tg:Expr}
theorem SJ{l:Expr}{tl:TE}(hl:PE X l tl):vz Hd X tg l (rR X.K tl):=by
 intro pins s σ H R I h;refine aF (hl pins s σ H _ I h) fun v s1 ⟨x,H1,I1,r1,q1⟩=>?_;obtain⟨a,e,⟨xs,hq⟩,q⟩:=q1;subst e;cases r1;obtain⟨aq,rv,p,hz⟩:=I1.list hq;refine wpAny_pyIter_list p.isList ?_;refine⟨s1.heap.objs.size,[s1.heap.objs.size],_,_,H1,rfl,I1.kept (t':=s1.toks) fun b o e=>Heap.get?_push_of_some _ e,SH a _,⟨_,Heap.get?_push_size _ rfl,rfl,rfl⟩,fun b hb=>?_,q⟩;have e:b=s1.heap.objs.size:=by simpa using hb
 subst e;exact I1.u9 (zqR _)<|I1.az.fresh<|zqR _
theorem SK{pos:Pos}{es:List Expr}{k:Nat}{t:i8}{n:Nat}(hd:Hd X)(h:nY X es t)
  (hn:(assignEach es X.env).length=n:=by rfl) (fH:(assignEach es X.env).findIdx? (·.1)=none:=by rfl):PG X (.Tuple es k pos) (u0 X.K n t):=by
 intro pins s σ H v u Q I r hw;obtain⟨a,xs,e1,hq,hl,hw⟩:=hw;subst e1;cases r;obtain⟨aq,rv,ht,hz⟩:=I.tuple hq;refine RT (hd.jg I) ht (by simp[hn,<-hl,rv.length]) fH fun h' hx=>?_
 have I1:Inv X pins σ H {s with heap:=h'}:=I.kept (t':=s.toks) fun b o e=>hx b o (zae<|Heap.lt_size e) e
 exact h pins _ σ H xs _ Q I1 (by simpa using rv) hw
theorem SM{scope:Scope}{fv:List (Str×Nat)}{x y:Str}{px py pos:Pos}{k:Nat}(hx:scope.names.lookup x=some .local)(hy:scope.names.lookup y=some .local)(oC:(x::y::fv.map (·.1)).Nodup):vA (gj X.A) X scope [x,y] fv (.Tuple [.Name x px,.Name y py] k pos) (some 2):=by
 intro ex C s H hH;generalize eX:fP X scope ([x,y]++fv.map (·.1)) ex C s H=Xc;have xN:Xc.N=x::y::fv.map (·.1):=by rw[<-eX];rfl
 have xd:Hd Xc:=by rw[<-eX];exact hH
 have lx:Xc.env.scope.names.lookup x=some .local:=by rw[<-eX];exact lookup_relabel_local hx
 have ly:Xc.env.scope.names.lookup y=some .local:=by rw[<-eX];exact lookup_relabel_local hy
 have p1:PG Xc (.Name x px) (dv 0):=qj (by rw[xN];exact oC) (by rw[xN];rfl) (.inl lx) (.inr lx)
 have p2:PG Xc (.Name y py) (dv 1):=qj (by rw[xN];exact oC) (by rw[xN];rfl) (.inl ly) (.inr ly)
 have xK:Xc.K=X.K:=by rw[<-eX];rfl
 refine⟨u0 Xc.K 2<|ql (dv 0)<|ql (dv 1) uZ,SK xd<|rQ p1<|rQ p2 yp,fun v pre φ H' Q hp h=>?_⟩;obtain⟨a,b,rfl⟩:∃a b,pre=[a,b]:=by
  match pre,hp with
  |[a,b],_=>exact⟨a,b,rfl⟩
 obtain⟨a',xs,rfl,e2,e3,q⟩:=h;obtain⟨v1,v2,rfl⟩:∃v1 v2,xs=[v1,v2]:=by
  match xs,e3 with
  |[v1,v2],_=>exact⟨v1,v2,rfl⟩
 exact⟨a',_,rfl,by rw[xK];exact e2,rfl,v1,_,rfl,v2,_,rfl,rfl,q rfl⟩
theorem SN{X:Cx}:∀H,gj X.A H->∀Xc:Cx,Xc.A=X.A->Xc.calm=X.calm->Xc.H₀=H->Hd Xc:=fun H h Xc a _ b=>by
 show gj Xc.A Xc.H₀;rw[a,b];exact h
theorem SO:cv X (.builtin "isinstance") (jQ X.K):=by
 intro pins s σ H xs us Q I r h
 match xs,h with
 |[.ref ea,c],h=>
  obtain⟨D,b,⟨ob,vs,h1,h2⟩,hC,hc,hk,hq⟩:=h;cases r with
  |cons r1 r=>
   cases r with
   |cons r2 r=>
    cases r
    rename_i u1 u2
    cases (show u1=Value.ref ea from r1)
    have e2:u2=cV c:=by
     rcases hc with⟨C,rfl⟩|⟨n,rfl⟩
     ·exact r2
     ·exact r2
    subst e2;have at_:=(I.az ea _ h1).1;have inst:InstAt s.heap ea ob D none:=⟨at_,h2.cls,by unfold PySem.W.notCls;rw[h2.data],by rw[h2.dict];trivial⟩
    exact kia_one (RX hC.sS hC.sT hC.hk hC.ha hC.hn hC.mi hC.hm hC.hb) I.cB inst hk (fun z=>nomatch z) fun tk=>⟨.bl b,H,I.tok tk,rfl,hq⟩
end
structure gm (k:Nat) (A:Around):Prop where
 dp:A.depth+3*k+5<recursionLimit
 un:A.units+16*k+200<cLine
 gd:A.guards=some []:=by rfl
theorem df.h{k:Nat}{A:Around}(r:df k A):gm k A:=⟨r.dp,r.un,r.gd⟩
theorem gm.mark{k:Nat}{A:Around}(r:gm k A)(v:Option Value):gm k (A.mark v):=⟨r.dp,r.un,r.gd⟩
theorem gm.deeper{k:Nat}{A:Around}(r:gm (k+1) A)(env:Env):gm k (A.deeper env):=
 ⟨by have:=r.dp;show A.depth+1+3*k+5<_;lia,by have:=r.un;show A.units+3+16*k+200<_;lia,r.gd⟩
theorem gm.depth{k:Nat}{A:Around}(r:gm k A):A.depth<recursionLimit:=by have:=r.dp;lia
theorem gm.units{k:Nat}{A:Around}(r:gm k A):A.units+64<cLine:=by have:=r.un;lia
def SQ(outer:List Env)(P:Program)(w:World)(H:Hp)(s:Shared)(Q:VK)(r:Result)(s':Shared):Prop:=
 match r with
 |.ok (.ret u)=>CE outer P w H s Q u s'
 |_=>False
structure oG (P:Program) (w:World) (K:Frag) (mg:Str->Option Value) (base:Heap) (k:Nat) (f:Addr) (fd:FuncData) (ps:List Str) (sp:Sp):Prop where
 len:∀vs H Q E,sp vs H Q E->vs.length=ps.length
 run:∀(A:Around) (outer:List Env) (s:Shared) (H:Hp) (args:Args) (us:List Value) (vs:List V) (Q:VK),gm k A->gj A H->kO P w K mg base A outer s H->BindsTo s fd args (ps.zip us)->Vals vs us->sp vs H Q E0->
  codeAny (model P w) A (.call (.ref f) args) (SQ outer P w H s Q) s
theorem oG.mono{P:Program}{w:World}{K:Frag}{mg:Str->Option Value}{base:Heap}{j k:Nat}{f:Addr}{fd:FuncData}{ps:List Str}{sp:Sp}(F:oG P w K mg base j f fd ps sp)(h:j<=k):oG P w K mg base k f fd ps sp:=
 ⟨F.len,fun A outer s H args us vs Q hr=>F.run A outer s H args us vs Q ⟨by have:=hr.dp;lia,by have:=hr.un;lia,hr.gd⟩⟩
def vU(CX:bK)(P:Program)(w:World)(K:Frag)(mg:Str->Option Value)(base:Heap)(N:List Str)(qual:Str)(scope:Scope)(f:Addr)(cd:Value)(A:Around)(outer:List Env)(s:Shared)(H:Hp):Cx:=
 (kQ CX P w K mg base N qual scope f cd {A with handled:=none} outer s H E0).alt (A.deeper<|envOfC qual scope s.heap.objs.size f cd) false [] fun _ _=>False
theorem SR{CX:bK}{P:Program}{w:World}{K:Frag}{mg:Str->Option Value}{base:Heap}{k:Nat}{f:Addr}{name qual:Str}{params:Arguments}{body:List Stmt}{scope:Scope}{dV kV doc pm aT ct oc:Value}{an od:Option Addr}
  {fK:Array (Option Value)}{N ps:List Str}{sp:Sp} (lk:K.lookup f=some ⟨oc,od,.func<|PySem.W.fnOf name qual params body scope dV kV doc pm an aT ct,fK⟩) (gK:PySem.W.codeIn K aT qual=true) (S:mm N ps scope)
  (len:∀vs H Q E,sp vs H Q E->vs.length=ps.length)
  (yF:∀(A:Around) (outer:List Env) (s:Shared) (H:Hp) (vs:List V) (Q:VK),gm k (A.deeper (envOfC qual scope s.heap.objs.size f aT))->gj A H->sp vs H Q E0->
   ∃t,cT (vU CX P w K mg base N qual scope f aT A outer s H) body t/\t {nx:=fun _ H'=>Q .aD H',rt:=Q} (start N vs) H):
  oG P w K mg base (k+1) f (PySem.W.fnOf name qual params body scope dV kV doc pm an aT ct) ps sp:=by
 refine⟨len,fun A outer s H args us vs Q hr hh e0 hb r gZ=>?_⟩;have hl:=len _ _ _ _ gZ;have KX:K.In s.heap:=e0.mod.nV.keeps fun b o e=>(e0.bs b o e).1;have lim:s.heap.NoLimit:=e0.mod.nolimit.keeps fun b o e=>(e0.bs b o e).1;have yG:∀y∈ps.zip us,scope.names.lookup y.1=some .local\/(scope.names.lookup y.1=some .cell/\((cellsFrom (s.heap.objs.size+1) scope.names []).lookup y.1).isSome=true):=fun⟨n,v⟩ hy=>by
  rcases S.par n (zbA hy).1 with q|q
  ·exact .inl q
  ·exact .inr ⟨q,cellsFrom_some _ _ _<|.inl q⟩
 refine codeAny_call_function hr.depth (KX _ _ lk) rfl S.co S.gen rfl (codeRec_of KX gK)<|hb _ _ _ _ ?_;refine wpAny_newFunctionEnv_cells S.kind yG fun env he s1 x=>?_;subst he;refine⟨lim.keeps x.toInCall.keep,codeAny_func ?_⟩;obtain⟨t,ht,hq⟩:=yF A outer s H vs Q (hr.deeper _) hh gZ;have SS:kO P w K mg base {A with handled:=none} outer s H:=⟨e0.frames,e0.mod,e0.bs,e0.mf,e0.iy,e0.nW,e0.az,e0.bare⟩
 have I0:Inv (kQ CX P w K mg base N qual scope f aT {A with handled:=none} outer s H E0) [] (start N vs) H s1:=D8 S rfl SS hl r x
 have I:Inv (vU CX P w K mg base N qual scope f aT A outer s H) [] (start N vs) H s1:=I0.alt rfl (fun z=>nomatch z) (fun p hp=>hp);refine wpAny_mono (ht [] s1 (start N vs) H _ I hq) (fun fl s' hs=>?_) fun e s' hs=>hs.elim;have fin:∀{σ':St}{H':Hp}{v:V}{u:Value},Inv (vU CX P w K mg base N qual scope f aT A outer s H) [] σ' H' s'->RelV v u->Q v H'->CE outer P w H s Q u s':=
  fun {σ' H' v u} J rv q=>⟨v,H',J.os,J.bare,J.base,J.az,rv,q⟩
 cases fl with
 |ret u=>
  obtain⟨v,σ',H',J,rv,q⟩:=hs;exact fin J rv q
 |next=>
  obtain⟨σ',H',J,q⟩:=hs;exact fin (v:=V.aD) (u:=Value.none) J rfl q
 |brk=>
  obtain⟨_,_,_,q⟩:=hs;exact False.elim q
 |cont=>
  obtain⟨_,_,_,q⟩:=hs;exact False.elim q
theorem SU{CX:bK}{P:Program}{w:World}{K:Frag}{mg:Str->Option Value}{base:Heap}{N:List Str}{qual:Str}{scope:Scope}{f:Addr}{cd:Value}{A:Around}{outer:List Env}{s:Shared}{H:Hp}(h:gj A H):Hd (vU CX P w K mg base N qual scope f cd A outer s H):=h
section
variable {X:Cx}{k:Nat}{f:Addr}{fd:FuncData}{ps:List Str}{sp:Sp}{x:Str}{p pos:Pos}{e:Expr}{ta:TE}{hv:Option Addr}
theorem SV(F:oG X.prog X.w X.K X.mg X.base k f fd ps sp)(hr:gm k X.A)(hg:Gl X x)(hm:X.mg x=some (.ref f))(hk:PySem.W.keepIn X.K (.ref f)=true)(hb:Binds X.K fd ps [])(hh:∀e,hv=some e->X.A.handled=some (.ref e))
  (ha:PE X e ta) (hs:noStar e=true) (ja:(x==("__debug__":Str))=false):PE X (.Call (.Name x p) [e] [] pos) (E7 sp hv<|cU ta fj):=by
 intro pins s σ H Q I h;have he:starEach [e] X.env=(false,eval e X.env)::starEach [] X.env:=by cases e<;>first|rfl|cases hs
 refine wpAny_Call_Name_kw<|rP I hg hm ?_ ja;have hA:PA X [e] (cU ta fj):=oj ha rX he;refine callWith_K (h₀:=X.base) I.ok.mod.nV hk (aF (hA pos pins s σ H _ I h) fun us s1 ⟨vs,H1,I1,r,⟨ea,D,h1,h2⟩,q⟩=>⟨I1.cB,?_⟩) he rfl;have r2:Vals vs us:=r;have hl:us.length=ps.length:=by rw[<-r2.length];exact F.len _ _ _ _ q
 have mE:=hb s1 us I1.cB (by rw[zaj];exact hl)
 rw[zaj] at mE;refine wpAny_call<|codeAny_mono (F.run X.A X.stack s1 H1 ⟨us,[]⟩ us vs Q hr ⟨ea,D,hh ea h1,h2⟩ I1.yA mE r2 q) fun r s' hq=>?_;cases r with
 |error e=>exact False.elim hq
 |ok fl=>
  cases fl with
  |ret u=>exact I1.after hq
  |next=>exact False.elim hq
  |brk=>exact False.elim hq
  |cont=>exact False.elim hq
end
def Fz(CX:bK)(X:Cx)(x:Str)(sp:Sp):Prop:=
 ∃k f fd ps,cw X.prog X.w X.K X.mg X.base CX k f fd ps sp/\df k X.A/\X.mg x=some (.ref f)/\PySem.W.keepIn X.K (.ref f)=true/\Binds X.K fd ps []
def vV(CX:bK)(X:Cx)(C:Addr)(m:Str)(sp:Sp):Prop:=
 fh X.K C/\∃k f fd ps,Meth X.K C m f/\cw X.prog X.w X.K X.mg X.base CX k f fd ps sp/\df k X.A/\Binds X.K fd ps []
def FA(CX:bK)(X:Cx)(x:Str)(C:Addr)(sp:Sp):Prop:=
 ∃k f fd ps,Mk X.K C f/\cw X.prog X.w X.K X.mg X.base CX k f fd ps sp/\df (k+1) X.A/\X.mg x=some (.ref C)/\Binds X.K fd ps []
def FC(X:Cx)(x:Str)(sp:Sp):Prop:=
 ∃k f fd ps,oG X.prog X.w X.K X.mg X.base k f fd ps sp/\gm k X.A/\X.mg x=some (.ref f)/\PySem.W.keepIn X.K (.ref f)=true/\Binds X.K fd ps []
def FD(X:Cx)(x:Str)(C:Addr):Prop:= ∃bm B newId qE,OwnCls x C bm newId X.mg X.base/\ExcBaseFacts B newId qE bm
structure Good (CX:bK) (S:cg) (Γ:aJ) (X:Cx):Prop where
 N:X.N=S.N
 sc:X.env.scope=S.sc
 K:X.K=Γ.K
 calm:S.md=0->X.calm=true
 units:X.A.units+64<cLine
 gd:X.A.guards=some []
 fns:S.md=0->∀j x,S.fn[j]?=some x->Fz CX X x (Γ.fs j)
 jV:∀j x,S.gn[j]?=some x->∃u,X.mg x=some u/\RelV (Γ.gv j) u
 d0:∀x,S.bl.contains x=true->X.mg x=none
 pass:Passes CX X Γ.E
 jW:∀outer H s e s',CX outer H s E0 e s'->False
 lq:∀p kvs,Γ.sd p kvs->∀h:Heap,X.K.In h->∃vs,KV kvs vs/\h.DictOf (cI X.prog X.w) p vs
 lr:S.md=0->∀j m,S.mn[j]?=some m->vV CX X (Γ.ms j).1 m (Γ.ms j).2
 mO:S.md=0->∀j x,S.kn[j]?=some x->FA CX X x (Γ.kt j).1 (Γ.kt j).2
 dh:∀j x,S.en[j]?=some x->FD X x (Γ.ex j)
 lu:∀j x,S.hn[j]?=some x->FC X x (Γ.hs j)
 mP:∀e,Γ.hv=some e->X.A.handled=some (.ref e)
 oH:S.md=1->Hd X
theorem vW{S:cg}(h:(if S.md=0 then 0 else 2)=0):S.md=0:=by
 split at h
 ·assumption
 ·cases h
section
variable {CX:bK}{S:cg}{Γ:aJ}{X:Cx}
theorem Good.inner(G:Good CX S Γ X)(c:sV)(ln:List Str)(fv:List (Str×Nat))(ex:List Addr)(C:Addr)(s:Shared)(H:Hp):
  Good CX (Fn S c ln fv) Γ.calm (fP X c.sc (ln++fv.map (·.1)) ex C s H) where
 N:=rfl
 sc:=by
  show relabel c.sc X.env=zq c.sc S.sc;rw[<-G.sc];rfl
 K:=G.K
 calm:=fun h=>G.calm (vW h)
 units:=G.units
 gd:=G.gd
 fns:=fun m j x h=>G.fns (vW m) j x h
 jV:=G.jV
 d0:=G.d0
 pass:=fun _ _ _ _ _ _ _ h=>(G.jW _ _ _ _ _ h).elim
 jW:=G.jW
 lq:=G.lq
 lr:=fun z j m h=>G.lr (vW z) j m h
 mO:=fun z j x h=>G.mO (vW z) j x h
 dh:=fun j x h=>by simp[Fn] at h
 lu:=fun j x h=>G.lu j x h
 mP:=fun e h=>G.mP e h
 oH:=fun h=>by
  have h':(if S.md=0 then 0 else 2)=1:=h
  split at h'<;>cases h'
theorem Good.gl(G:Good CX S Γ X){x:Str}(h:k9 S.sc x=true):Gl X x:=by
 show X.env.scope.names.lookup x=_;rw[G.sc];exact RC h
theorem dE{e:Expr}{es:List Expr}{env:Env}(h:noStar e=true):starEach (e::es) env=(false,eval e env)::starEach es env:=by
 cases e<;>first|rfl|cases h
theorem mw{o:Expr}{x:Str}{env:Env}(h:mM o=true):attributeBase o x env (eval o env)=eval o env:=by
 unfold attributeBase
 split
 ·cases h
 ·rfl
theorem qJ{e:Expr}{env:Env}(h:qC e=true):∀x,foldedSetIterable e env x=pure x:=by
 intro x;cases e<;>first|rfl|cases h
def eG(es:List Expr):Bool:=es.all noStar
theorem hJ(env:Env)(pos:Pos):∀(es:List Expr),eG es=true->(backTo pos<|starEach es env).any (·.1)=false
 |[],h=>rfl
 |e::es,h=>by
  simp only[eG,zbe,zad] at h
  rw[dE h.1];have ih:=hJ env pos es h.2;show(false ||(backTo pos<|starEach es env).any (·.1))=false;rw[ih];rfl
theorem vX(env:Env)(pos:Pos):∀(es:List Expr),eG es=true->(backTo pos<|starEach es env).all (fun x=> !x.1)=true
 |[],h=>rfl
 |e::es,h=>by
  simp only[eG,zbe,zad] at h
  rw[dE h.1];have ih:=vX env pos es h.2;show(!false && (backTo pos<|starEach es env).all (fun x=> !x.1))=true;rw[ih];rfl
theorem cM{e:Expr}{es:List Expr}(h:eG (e::es)=true):noStar e=true/\eG es=true:=by
 simp only[eG,zbe,zad] at h
 exact h
theorem zM(G:Good CX S Γ X){c:sV}{ln:List Str}{fv:List (Str×Nat)}(h:zt S c ln fv=true):
  jc X c.sc ln fv/\(∀x∈ln,c.sc.names.lookup x=some .local)/\(ln++fv.map (·.1)).Nodup/\qC c.iter=true:=by
 simp only[zt,zad,decide_eq_true_eq,zaY,Bool.or_eq_true] at h
 obtain⟨⟨⟨⟨⟨⟨⟨h1,h2⟩,h3⟩,h4⟩,h5⟩,h6⟩,h7⟩,h8⟩:=h;refine⟨⟨h1,fun y hy=>h2 y hy,fun y hy hl=>?_,fun y hy hf=>?_,fun p hp=>?_⟩,h6,h7,h8⟩
 ·rcases h3 y hy with z|z
  ·exact absurd hl z
  ·exact z
 ·show X.env.scope.names.lookup y.1=_\/X.env.scope.names.lookup y.1=_;rw[G.sc];rcases h4 y hy with(z|z)|z
  ·exact absurd hf z
  ·exact .inl z
  ·exact .inr z
 ·rw[G.N];exact h5 p hp
theorem FE(hc:X.calm=true){c:sV}{tk:Option Nat}{ln:List Str}{fv:List (Str×Nat)}(h:zr tk c.tg=some ln)(hl:∀x∈ln,c.sc.names.lookup x=some .local)(hn:(ln++fv.map (·.1)).Nodup):
  sI X c.sc ln fv c.tg tk:=by
 unfold zr at h
 split at h
 ·rename_i x p he
  cases h;rw[he];exact QI (hl x (by simp)) hn
 ·rename_i x p y q k pos he
  cases h;rw[he];exact QK hc (hl x (by simp)) (hl y (by simp)) hn
 ·cases h
theorem SW{xs:List V}{H:Hp}{Q:VK}{K:Frag}(h:g_ K .int xs H Q):(∃i,xs=[.int i]/\Q (.int i) H)\/∃k,xs=[.bl k]/\Q (.int (if k then 1 else 0)) H:=by
 match xs,h with
 |[.int i],h=>exact .inl ⟨i,rfl,h⟩
 |[.bl k],h=>exact .inr ⟨k,rfl,h⟩
theorem SX{K:Frag}{x:V}{H:Hp}{Q:Nat->Prop}(h:sf K x H Q):∃n,DX K x H n/\Q n:=by
 match x,h with
 |.str y,h=>exact⟨_,⟨h.1,rfl⟩,h.2⟩
 |.ref p,.inl ⟨xs,a,b⟩=>exact⟨_,.inl ⟨xs,a,rfl⟩,b⟩
 |.ref p,.inr ⟨xs,a,b⟩=>exact⟨_,.inr ⟨xs,a,rfl⟩,b⟩
inductive SY (X:Cx) (b:mH):Prop where
 |fn (id:String) (hv:bootBuiltins b.nm=some (.builtin id)) (hc:cv X (.builtin id) (g_ X.K b))
 |ty (T:String) (hv:bootBuiltins b.nm=some (.type T)) (hc:cv X (.type T) (g_ X.K b))
theorem boot_min:bootBuiltins "min"=some (.builtin "min"):=by decide+kernel
theorem boot_max:bootBuiltins "max"=some (.builtin "max"):=by decide+kernel
theorem boot_abs:bootBuiltins "abs"=some (.builtin "abs"):=by decide+kernel
theorem boot_sum:bootBuiltins "sum"=some (.builtin "sum"):=by decide+kernel
theorem FF:bootBuiltins "isinstance"=some (.builtin "isinstance"):=by decide+kernel
theorem S_:bootBuiltins "int"=some (.type "int"):=by decide+kernel
theorem FG:bootBuiltins "list"=some (.type "list"):=by decide+kernel
theorem Ta:bootBuiltins "tuple"=some (.type "tuple"):=by decide+kernel
theorem zN(f:Nat->Int)(lt:Nat->Nat->Bool)(h:∀i j,lt i j=decide (f i<f j)):∀n,argBest lt n<=n/\∀i,i<=n->f (argBest lt n)<=f i
 | 0=>⟨zqR _,fun i hi=>by
   obtain rfl:i=0:=by lia
   exact zaI _⟩
 |n+1=>by
  obtain⟨a,b⟩:=zN f lt h n;have e:argBest lt (n+1)=if lt (n+1) (argBest lt n)=true then n+1 else argBest lt n:=rfl
  rw[e,h]
  split
  ·rename_i q
   have q:=of_decide_eq_true q;refine⟨zqR _,fun i hi=>?_⟩;by_cases z:i=n+1
   ·rw[z];exact zaI _
   ·have:=b i (by lia);lia
  ·rename_i q
   have q:¬f (n+1) <f (argBest lt n):=fun z=>q (zqT z);refine⟨by lia,fun i hi=>?_⟩
   by_cases z:i=n+1
   ·rw[z];lia
   ·exact b i (by lia)
theorem FH{xs:Array (Int×Tok)}{i:Nat}(h:i<xs.size):numAt xs i=xs[i].1:=by
 unfold numAt;rw[zaP h];rfl
theorem FI{xs:Array (Int×Tok)}{i:Nat}(h:i<xs.size):numAt xs i∈xs.toList.map (·.1):=by
 rw[FH h];exact zax.mpr ⟨xs[i],by simp,rfl⟩
theorem FJ{xs:Array (Int×Tok)}{n:Int}(h:n∈xs.toList.map (·.1)):∃i,i<xs.size/\n=numAt xs i:=by
 obtain⟨y,hy,rfl⟩:=zax.mp h;obtain⟨i,hi,rfl⟩:=zbH hy;have cX:i<xs.size:=by simpa using hi
 exact⟨i,cX,by rw[FH cX];simp⟩
theorem FK{pins:List (Addr×Obj)}{σ:St}{H:Hp}{s:Shared}{p:Addr}{ns:List Int}(I:Inv X pins σ H s)(hq:ay X.K H p (ns.map V.int)):∃xs:Array (Int×Tok),s.heap.IsList p (intItems xs)/\ns=xs.toList.map (·.1):=by
 obtain⟨aq,rv,pl,hz⟩:=I.list hq;have hi:=intsAre_of rv;obtain⟨xs,hx⟩:=hi.allInts.items;refine⟨xs,hx ▸ pl.isList,?_⟩;rw[<-nums_intItems,<-hx];exact(show numsOf aq.toArray.toList=ns from hi.numsOf).symm
theorem Tb(hc:X.calm=true):cv X (.builtin "min") (fun xs H Q=>∃(p:Addr) (ns:List Int),xs=[.ref p]/\ay X.K H p (ns.map V.int)/\ns≠ []/\∀m:Int,m∈ns->(∀n∈ns,m<=n)->Q (.int m) H):=by
 intro pins s σ H xs us Q I r h;obtain⟨p,ns,rfl,hq,d6,q⟩:=h;obtain⟨u,rfl,ru⟩:=vals1 r;cases ru;obtain⟨xs,hl,rfl⟩:=FK I hq;have sz:0<xs.size:=Nat.pos_of_ne_zero fun z=>d6 (by rw[zbS z];rfl)
 refine min_intList (I.ok.hd hc) hl sz fun v h' tk hv hk=>?_;obtain⟨t,rfl⟩:=intItems_at hv;obtain⟨b1,b2⟩:=zN (numAt xs) (fun i j=>decide<|numAt xs i<numAt xs j) (fun _ _=>rfl) (xs.size - 1);refine⟨.int _,H,I.kept (t':=tk) hk,⟨t,rfl⟩,q _ (FI (by lia)) fun n hn=>?_⟩
 obtain⟨i,hi,rfl⟩:=FJ hn;exact b2 i (by lia)
theorem Tc(hc:X.calm=true):cv X (.builtin "max") (fun xs H Q=>∃(p:Addr) (ns:List Int),xs=[.ref p]/\ay X.K H p (ns.map V.int)/\ns≠ []/\∀m:Int,m∈ns->(∀n∈ns,n<=m)->Q (.int m) H):=by
 intro pins s σ H xs us Q I r h;obtain⟨p,ns,rfl,hq,d6,q⟩:=h;obtain⟨u,rfl,ru⟩:=vals1 r;cases ru;obtain⟨xs,hl,rfl⟩:=FK I hq;have sz:0<xs.size:=Nat.pos_of_ne_zero fun z=>d6 (by rw[zbS z];rfl)
 refine max_intList (I.ok.hd hc) hl sz fun v h' tk hv hk=>?_;obtain⟨t,rfl⟩:=intItems_at hv;obtain⟨b1,b2⟩:=zN (fun i=> - numAt xs i) (fun i j=>decide<|numAt xs i>numAt xs j) (fun i j=>decide_eq_decide.mpr (by lia)) (xs.size - 1)
 refine⟨.int _,H,I.kept (t':=tk) hk,⟨t,rfl⟩,q _ (FI (by lia)) fun n hn=>?_⟩
 obtain⟨i,hi,rfl⟩:=FJ hn;have:=b2 i (by lia)
 lia
theorem Td{x:Str}{acc:Array Value}(h:ItemsOf (SignAt x) acc x.cps.size):Vals (signs x) acc.toList:=by
 have go:∀(l:List Nat) (us:List Value),us.length=l.length->(∀(j:Nat) (v:Value),us[j]?=some v->∃(c:Nat) (t:Tok),l[j]?=some c/\v=Value.str ⟨#[c]⟩ t)->Vals (l.map fun c=>V.str ⟨#[c]⟩) us:=by
  intro l
  induction l with
  |nil=>
   intro us hl _;rw[zaU.mp hl];exact .nil
  |cons c l ih=>
   intro us hl hv;cases us with
   |nil=>cases hl
   |cons u us=>
    obtain⟨c',t,e1,e2⟩:=hv 0 u rfl;have oz:c=c':=by simpa using e1
    subst oz;exact .cons ⟨t,e2⟩ (ih us (by simpa using hl) fun j v hj=>by
     obtain⟨c2,t2,g1,g2⟩:=hv (j+1) v (by simpa using hj)
     exact⟨c2,t2,by simpa using g1,g2⟩)
 refine go x.cps.toList acc.toList ?_ fun j v hj=>?_
 ·have:=h.1;simpa using this
 ·obtain⟨c,t,e1,e2⟩:=h.2 j v (by simpa using hj)
  exact⟨c,t,by simpa using e1,e2⟩
theorem Te(x:Str):(signs x).length=x.length:=by simp[signs,Str.length]
theorem Tf(hc:X.calm=true):cv X (.type "list") (fun xs H Q=>∃x,xs=[.str x]/\x.length<=sizeLine/\∀l,H l=none->Q (.ref l) (upd H l<|.lst<|signs x)):=by
 intro pins s σ H xs us Q I r h;obtain⟨x,rfl,hx,q⟩:=h;obtain⟨u,rfl,t,rfl⟩:=vals1 r;refine call_list_str (I.ok.hd hc) x t (fun h' tk sG c' hk e jX=>?_) hx;have rv:=Td jX;exact⟨.ref s.heap.objs.size,_,I.laid (t':=tk) hk (zqR _) (show bT X.prog X.w _ h' _ (.lst<|signs x) from⟨by rw[Te];exact hx,sG.toList,c',rv,by simpa using e⟩),rfl,q _<|I.az.fresh<|zqR _⟩
theorem Th{pos:Pos}:PE X (.Dict [] [] pos) Ff:=fun pins s σ H Q I h=>by
 have big:sysModules<s.heap.objs.size:=Nat.lt_trans (by decide) (I.mod.glob.keeps I.bk).lt
 have ok:bT X.prog X.w (upd H s.heap.objs.size<|.dK []) (s.heap.push {cls:=.type "dict",data:=.dict #[]}) s.heap.objs.size (.dK []):=
  ⟨zqZ _,beq_eq_false_iff_ne.mpr<|Ne.symm<|zae big,[],.nil,Heap.DictOf.new s.heap⟩
 exact wpAny_Dict_empty ⟨.ref s.heap.objs.size,_,I.laid (t':=s.toks) (fun _ _ q=>Heap.get?_push_of_some _ q) (zqR _) ok,rfl,h _<|I.az.fresh<|zqR _⟩
theorem Ti(hc:X.calm=true)(b:mH):SY X b:=by
 cases b with
 |len=>exact .fn "len" boot_len (cv.imp Oc fun xs H Q h=>by
   rcases xs with _|⟨x,_|⟨_,_⟩⟩ <;>(try exact False.elim h)
   obtain⟨n,h1,h2⟩:=SX (Q:=fun n=>Q (.int n) H) h;exact⟨x,n,rfl,h1,h2⟩)
 |min=>exact .fn "min" boot_min (cv.imp ((N_ hc).or (Tb hc)) fun xs H Q h=>by
   match xs,h with
   |[.int i,.int j],h=>exact .inl ⟨i,j,rfl,h⟩
   |[.ref p],⟨ns,h1,h2,h3⟩=>exact .inr ⟨p,ns,rfl,h1,h2,h3⟩)
 |max=>exact .fn "max" boot_max (cv.imp ((N9 hc).or (Tc hc)) fun xs H Q h=>by
   match xs,h with
   |[.int i,.int j],h=>exact .inl ⟨i,j,rfl,h⟩
   |[.ref p],⟨ns,h1,h2,h3⟩=>exact .inr ⟨p,ns,rfl,h1,h2,h3⟩)
 |sum=>exact .fn "sum" boot_sum (cv.imp (Q4 hc) fun xs H Q h=>by
   rcases xs with _|⟨x,_|⟨_,_⟩⟩ <;>(try exact False.elim h) <;>cases x<;>(try exact False.elim h)
   obtain⟨ns,h1,h2⟩:=h;exact⟨_,ns,rfl,h1,h2⟩)
 |abs=>exact .fn "abs" boot_abs fun _ _ _ _ xs _ _ _ _ h=>by rcases xs with _|⟨y0,_|⟨y1,_⟩⟩ <;>first|exact False.elim h| (cases y0<;>exact False.elim h)
 |int=>exact .ty "int" S_ (cv.imp Oa fun xs H Q h=>SW h)
 |list=>exact .ty "list" FG (cv.imp (O8.or (Tf hc)) fun xs H Q h=>by
   rcases xs with _|⟨x,_|⟨_,_⟩⟩ <;>(try exact False.elim h) <;>cases x<;>(try exact False.elim h)
   ·exact .inr ⟨_,rfl,h.1,h.2⟩
   ·obtain⟨ys,h1,h2⟩:=h;exact .inl ⟨_,ys,rfl,h1,h2⟩)
 |tuple=>exact .ty "tuple" Ta fun _ _ _ _ xs _ _ _ _ h=>by rcases xs with _|⟨y0,_|⟨y1,_⟩⟩ <;>first|exact False.elim h| (cases y0<;>exact False.elim h)
structure Tj (X:Cx) (m:g6) (id:String):Prop where
 pa:PlainAttrs (vL m)
 slot:Slot (vL m) m.nm id
 ty:typeOf (.builtin id)=pure (.type "method_descriptor")
 mt:qq X id (zo X.K m)
theorem Tn{P:Program}{w:World}{k:Key}{u:Value}(r:RelV (kV k) u):(cI P w).is k u=true:=by
 cases k with
 |inl i=>obtain⟨t,e⟩:=(show ∃t,u=Value.int i t from r);subst e;exact C_ P w i t
 |inr x=>obtain⟨t,e⟩:=(show ∃t,u=Value.str x t from r);subst e;exact Dc P w x t
theorem To{kvs:List (Key×V)}{vs:List (Key×Value)}(r:KV kvs vs)(k:Key){v:V}(h:oE kvs k=some v):∃u,valueAt vs k=some u/\RelV v u:=by
 unfold KV at r
 induction r with
 |nil=>cases h
 | @cons p q ps qs hh t ih=>
  obtain⟨h1,h2⟩:=hh;by_cases e:p.1=k
  ·have e':q.1=k:=h1.symm.trans e;have b:valueAt (q::qs) k=some q.2:=by simp[valueAt,zaH,e']
   have a:oE (p::ps) k=some p.2:=by simp[oE,zaH,e]
   rw[a] at h;cases h;exact⟨_,b,h2⟩
  ·have e':¬q.1=k:=fun z=>e (h1.trans z);have b:valueAt (q::qs) k=valueAt qs k:=by simp[valueAt,zaH,e']
   have a:oE (p::ps) k=oE ps k:=by simp[oE,zaH,e]
   rw[a] at h;rw[b];exact ih h
theorem Tp{sd:Addr->List (Key×V)->Prop}(zO:∀p kvs,sd p kvs->∀h:Heap,X.K.In h->∃vs,KV kvs vs/\h.DictOf (cI X.prog X.w) p vs):jM X (Fg sd):=by
 intro value slice pins s σ H x y v u Q I rx ry h hs;obtain⟨p,kvs,k,z,rfl,rfl,hq,he,q⟩:=h;cases rx;obtain⟨vs,r,dd⟩:=zO p kvs hq s.heap I.cB;obtain⟨w,ew,d5⟩:=To r k he;exact subscriptTail_builtinR (x:=w) dd.mapOf.typeIs PySem.F.slot_dict_getitem.lookup
  (wpAny_getItem_of (Q:=fun r s'=>r=w/\EP X pins σ Q r s') (Tn ry) dd.mapOf ew ⟨rfl,z,H,I.tok _,d5,q⟩) hs
theorem Tq{sd:Addr->List (Key×V)->Prop}(zO:∀p kvs,sd p kvs->∀h:Heap,X.K.In h->∃vs,KV kvs vs/\h.DictOf (cI X.prog X.w) p vs):jM X (mK X.K sd):=OV.or (OW.or<|OX.or<|Tp zO)
theorem Tr:qq X "list.index" (fun x vs H Q=>∃(l:Addr) (y:V) (xs:List V),x=.ref l/\vs=[y]/\ay X.K H l xs/\gN y=true/\xs.all gN=true/\fz y xs=true/\Q (.int (xs.findIdx (fun z=>gh z y):Nat)) H):=by
 intro pins s σ H x vs v us Q I rx rv h;obtain⟨l,y,xs,rfl,rfl,hq,fy,fs,tj,q⟩:=h;cases rx;obtain⟨u,rfl,ru⟩:=vals1 rv;obtain⟨aq,r,⟨⟨cls,dd,data,sl⟩,n,ho,hc,hd0,hd⟩,hz⟩:=I.list hq
 simp only at hc hd
 subst hc hd;have hlen:=r.length;have e:∀j (h1:j<aq.length) (h2:j<xs.length),eE y aq[j]=gh xs[j] y:=fun j h1 h2=>by
  obtain⟨w,e1,r1⟩:=r.get (i:=j) (x:=xs[j]) (by simp[h2])
  have e2:=zay h1;rw[e1] at e2;rw[<-zak e2];exact yO r1<|zaY.mp fs _<|zaF h2
 have hj:xs.findIdx (fun z=>gh z y) <xs.length:=List.findIdx_lt_length.mpr (List.any_eq_true.mp tj);have hn:=oa;refine call_meets PySem.F.slot_list_index ⟨_,ho,rfl⟩ PySem.F.entry_list_index (PySem.F.args_list_index_2 _ _)
  (PySem.SeqAt.list_indexAt l aq.toArray n dd sl u (eE y) (xs.findIdx fun z=>gh z y) (by simp;lia) (by lia) ?_ ?_) ⟨ho,fun z Ts=>qr ru fy r fs z (by simpa using Ts),⟨.int _,H,I.tok _,⟨_,rfl⟩,q⟩⟩
 ·show eE y aq[xs.findIdx fun z=>gh z y]=true;rw[e _ (by lia) hj]
  exact List.findIdx_getElem (w:=hj)
 ·intro j Tt aG;show eE y aq[j]=false;rw[e j (by simpa using Tt) (by lia)]
  simpa using List.not_of_lt_findIdx aG
theorem FL(m:g6):∃id,Tj X m id:=by
 cases m with
 |append=>exact⟨_,F.plainAttrs_list,F.slot_list_append,F.type_list_append,fun pins s σ H x xs v us Q I rx rv h=>by
   cases x<;>(try exact False.elim h) <;>rcases xs with _|⟨y0,_|⟨_,_⟩⟩ <;>(try exact False.elim h)
   obtain⟨zs,h1,h2,h3⟩:=h;exact Pg pins s σ H _ _ v us Q I rx rv ⟨_,zs,_,rfl,rfl,h1,h2,h3⟩⟩
 |pop=>exact⟨_,F.plainAttrs_list,F.slot_list_pop,F.type_list_pop,fun pins s σ H x xs v us Q I rx rv h=>by
   cases x<;>(try exact False.elim h) <;>rcases xs with _|⟨_,_⟩ <;>(try exact False.elim h)
   obtain⟨zs,y,h1,h2,h3⟩:=h;exact Pl pins s σ H _ _ v us Q I rx rv ⟨_,zs,y,rfl,rfl,h1,h2,h3⟩⟩
 |extend=>exact⟨_,F.plainAttrs_list,F.slot_list_extend,F.type_list_extend,fun pins s σ H x xs v us Q I rx rv h=>by
   cases x<;>(try exact False.elim h) <;>rcases xs with _|⟨y0,_|⟨_,_⟩⟩ <;>(try exact False.elim h) <;>cases y0<;>(try exact False.elim h)
   obtain⟨ys,zs,h1,h2,h3,h4⟩:=h;exact Pj pins s σ H _ _ v us Q I rx rv ⟨_,_,ys,zs,rfl,rfl,h1,h2,h3,h4⟩⟩
 |join=>exact⟨_,F.plainAttrs_str,F.slot_str_join,F.type_str_join,fun pins s σ H x xs v us Q I rx rv h=>by
   cases x<;>(try exact False.elim h) <;>rcases xs with _|⟨y0,_|⟨_,_⟩⟩ <;>(try exact False.elim h) <;>cases y0<;>(try exact False.elim h)
   obtain⟨ts,h1,h2,h3⟩:=h;exact Q6 pins s σ H _ _ v us Q I rx rv ⟨_,_,ts,rfl,rfl,h1,h2,h3⟩⟩
 |lstrip=>exact⟨_,F.plainAttrs_str,F.slot_str_lstrip,F.type_str_lstrip,fun pins s σ H x xs v us Q I rx rv h=>by
   cases x<;>(try exact False.elim h) <;>rcases xs with _|⟨y0,_|⟨_,_⟩⟩ <;>(try exact False.elim h) <;>cases y0<;>(try exact False.elim h)
   obtain⟨h1,h2⟩:=h;exact Q8 pins s σ H _ _ v us Q I rx rv ⟨_,_,rfl,rfl,h1,h2⟩⟩
 |starts=>exact⟨_,F.plainAttrs_str,F.slot_str_startswith,F.type_str_startswith,fun _ _ _ _ x xs _ _ _ _ _ _ h=>by cases x<;>rcases xs with _|⟨y0,_|⟨y1,_⟩⟩ <;>first|exact False.elim h| (cases y0<;>exact False.elim h)⟩
 |find=>exact⟨_,F.plainAttrs_str,F.slot_str_find,F.type_str_find,fun _ _ _ _ x xs _ _ _ _ _ _ h=>by cases x<;>rcases xs with _|⟨y0,_|⟨y1,_⟩⟩ <;>first|exact False.elim h| (cases y0<;>exact False.elim h)⟩
 |count=>exact⟨_,F.plainAttrs_str,F.slot_str_count,F.type_str_count,fun _ _ _ _ x xs _ _ _ _ _ _ h=>by cases x<;>rcases xs with _|⟨y0,_|⟨y1,_⟩⟩ <;>first|exact False.elim h| (cases y0<;>exact False.elim h)⟩
 |reverse=>exact⟨_,F.plainAttrs_list,F.slot_list_reverse,F.type_list_reverse,fun _ _ _ _ x xs _ _ _ _ _ _ h=>by cases x<;>rcases xs with _|⟨y0,_|⟨y1,_⟩⟩ <;>first|exact False.elim h| (cases y0<;>exact False.elim h)⟩
 |index=>exact⟨_,F.plainAttrs_list,F.slot_list_index,F.type_list_index,fun _ _ _ _ x xs _ _ _ _ _ _ h=>by cases x<;>rcases xs with _|⟨y0,_|⟨y1,_⟩⟩ <;>first|exact False.elim h| (cases y0<;>exact False.elim h)⟩
 |E8=>exact⟨_,F.plainAttrs_list,F.slot_list_count,F.type_list_count,fun _ _ _ _ x xs _ _ _ _ _ _ h=>by cases x<;>rcases xs with _|⟨y0,_|⟨y1,_⟩⟩ <;>first|exact False.elim h| (cases y0<;>exact False.elim h)⟩
 |zj=>exact⟨_,F.plainAttrs_list,F.slot_list_index,F.type_list_index,fun pins s σ H x xs v us Q I rx rv h=>by
   cases x<;>(try exact False.elim h) <;>rcases xs with _|⟨y0,_|⟨_,_⟩⟩ <;>(try exact False.elim h)
   obtain⟨zs,h1,h2,h3,h4,h5⟩:=h;exact Tr pins s σ H _ _ v us Q I rx rv ⟨_,_,zs,rfl,rfl,h1,h2,h3,h4,h5⟩⟩
 |clear=>exact⟨_,F.plainAttrs_list,F.slot_list_clear,F.type_list_clear,fun pins s σ H x xs v us Q I rx rv h=>by
   cases x<;>(try exact False.elim h) <;>rcases xs with _|⟨_,_⟩ <;>(try exact False.elim h)
   obtain⟨zs,h1,h2⟩:=h;exact Po pins s σ H _ _ v us Q I rx rv ⟨_,zs,rfl,rfl,h1,h2⟩⟩
theorem Tu{pins:List (Addr×Obj)}{σ:St}{H:Hp}{s:Shared}{T:Ty}{x:V}{u:Value}{Qb:Bool->Prop}{Q:Value->Shared->Prop}{E:Value->Shared->Prop}(I:Inv X pins σ H s)(rx:RelV x u)(h:bG T x H Qb)
  (hq:∀b tk,Qb b->Q (.bool b) {s with toks:=tk}):wpAny (model X.prog X.w) X.A (call (.builtin "isinstance") [u,.type T.nm]) Q E s:=by
 match x,rx,h with
 |.aD,rx,h=>exact kN I rx (.aD) (Q2 _ T) fun tk=>hq _ _ h
 |.bl b,rx,h=>exact kN I rx (.bl b) (mF X.K .bool T) fun tk=>hq _ _ (by cases T<;>exact h)
 |.int i,rx,h=>exact kN I rx (.int i) (mF X.K .int T) fun tk=>hq _ _ (by cases T<;>exact h)
 |.str i,rx,h=>exact kN I rx (.str i) (mF X.K .str T) fun tk=>hq _ _ (by cases T<;>exact h)
 |.ref a,rx,h=>
  cases e:H a with
  |none=>simp only[bG,e] at h
  |some o=>
   match o,e with
   |.lst xs,e=>simp only[bG,e] at h;exact kN I rx (.lst e) (mF X.K .list T) fun tk=>hq _ _ (by cases T<;>exact h)
   |.a_ ob (.lst xs),e=>simp only[bG,e] at h;exact kN I rx (.a_ e) (mF X.K .list T) fun tk=>hq _ _ (by cases T<;>exact h)
   |.tup xs,e=>simp only[bG,e] at h;exact kN I rx (.tup e) (mF X.K .tuple T) fun tk=>hq _ _ (by cases T<;>exact h)
   |.dK xs,e=>simp only[bG,e] at h;exact kN I rx (.dK e) (mF X.K .dict T) fun tk=>hq _ _ (by cases T<;>exact h)
   |.dT xs,e=>simp only[bG,e] at h;exact kN I rx (.dT e) (mF X.K .dict T) fun tk=>hq _ _ (by cases T<;>exact h)
   |.set _ _,e=>simp only[bG,e] at h
   |.ins _ _ _,e=>simp only[bG,e] at h
   |.own _,e=>simp only[bG,e] at h
   |.xd _,e=>simp only[bG,e] at h
   |.met _ _,e=>simp only[bG,e] at h
   |.fG _ _,e=>simp only[bG,e] at h
   |.jI _,e=>simp only[bG,e] at h
   |.ext _,e=>simp only[bG,e] at h
   |.a_ ob (.tup xs),e=>simp only[bG,e] at h
   |.a_ ob (.dK xs),e=>simp only[bG,e] at h
   |.a_ ob (.dT xs),e=>simp only[bG,e] at h
   |.a_ ob (.set _ _),e=>simp only[bG,e] at h
   |.a_ ob (.ins _ _ _),e=>simp only[bG,e] at h
   |.a_ ob (.own _),e=>simp only[bG,e] at h
   |.a_ ob (.xd _),e=>simp only[bG,e] at h
   |.a_ ob (.met _ _),e=>simp only[bG,e] at h
   |.a_ ob (.fG _ _),e=>simp only[bG,e] at h
   |.a_ ob (.jI _),e=>simp only[bG,e] at h
   |.a_ ob (.ext _),e=>simp only[bG,e] at h
   |.a_ ob (.a_ _ _),e=>simp only[bG,e] at h
theorem Tv(T:Ty):bootBuiltins (Str.ofString T.nm)=some (.type T.nm):=by cases T<;>decide+kernel
theorem Tw(T:Ty):cv X (.builtin "isinstance") (mJ T):=by
 intro pins s σ H xs us Q I r h
 match xs,r,h with
 |[x,.ty n],r,⟨e,h⟩=>
  subst e;obtain⟨u,w',rfl,ru,d5⟩:=vals2 r;cases d5;exact Tu I ru h fun b tk hb=>⟨.bl b,H,I.tok tk,rfl,hb⟩
theorem Tx{T:Ty}{a:Expr}{ta:TE}{p q pos:Pos}(ha:PE X a ta)(hs:noStar a=true)(hg:Gl X "isinstance")(hm:X.mg "isinstance"=none)(Tz:Gl X (Str.ofString T.nm))(TB:X.mg (Str.ofString T.nm)=none):
  PE X (.Call (.Name "isinstance" p) [a,.Name (Str.ofString T.nm) q] [] pos) (dS (mJ T)<|cU ta<|cU (tC<|.ty T.nm) fj):=by
 have hT:PE X (.Name (Str.ofString T.nm) q) (tC<|.ty T.nm):=Dr Tz TB (Tv T) rfl (by cases T<;>decide) (by cases T<;>decide)
 exact qp (Tw T) hg hm FF (oj ha (oj hT rX rfl)<|dE hs) (by decide) (by decide) (dE hs) rfl
end
section
variable {X:Cx}
theorem TC:vo X (qB X.K):=by
 intro pins s σ H x v vl vu lo hi sl Q I rx hs pl pu h
 match x,rx,h with
 |.ref a,rx,.inl ⟨xs,h1,h2⟩=>exact O4 pins s σ H _ v vl vu lo hi sl Q I rx hs pl pu ⟨a,xs,rfl,h1,h2⟩
 |.ref a,rx,.inr ⟨xs,h1,h2,h3⟩=>exact OR pins s σ H _ v vl vu lo hi sl Q I rx hs pl pu ⟨a,xs,rfl,h1,h2,h3⟩
 |.str z,rx,⟨h1,h2⟩=>
  obtain⟨t,rfl⟩:=rx;obtain⟨l,el,ml⟩:∃l:Option (Int×Tok),vl=partValue l/\l.map (·.1)=lo:=by
   cases pl with
   |none=>exact⟨none,rfl,rfl⟩
   |int i t=>exact⟨some (i,t),rfl,rfl⟩
  obtain⟨u,eu,mu⟩:∃u:Option (Int×Tok),vu=partValue u/\u.map (·.1)=hi:=by
   cases pu with
   |none=>exact⟨none,rfl,rfl⟩
   |int i t=>exact⟨some (i,t),rfl,rfl⟩
  subst el eu;refine⟨"str",_,F.slot_str_getitem.lookup,typeIs_str _ _ _,?_⟩;refine wpAny_getItem_str_slice (l:=l) (u:=u) (st:=none) hs rfl ?_;obtain⟨b1,b2,b3⟩:=yN lo hi z.length;have hp:slicePicked z l u none=(List.range<|HT.aQ z.length z.length hi - HT.aQ z.length 0 lo).map (HT.aQ z.length 0 lo+ ·):=by
   show Builtin.Str.strSliceIndices (l.map (·.1)) (u.map (·.1)) 1 z.length=_;rw[ml,mu];have e0:Builtin.Str.strSliceIndices lo hi 1 z.length=sliceRange (sliceBounds lo hi none z.length).1 (sliceBounds lo hi none z.length).2.1 (sliceBounds lo hi none z.length).2.2:=rfl;rw[e0,b1,b2,b3,sliceRange_one]
  have hc:((slicePicked z l u none).filterMap (z.cps[·]?))=mG z.cps.toList lo hi:=by
   show(Builtin.Str.strSliceIndices (l.map (·.1)) (u.map (·.1)) 1 z.length).filterMap (z.cps[·]?)=_;rw[ml,mu,Q9]
  have hz:z.cps.toList.length=z.length:=by simp[Str.length]
  have hA:=HT.yH z.length 0 (zqZ _) lo;have hB:=HT.yH z.length z.length (zqR _) hi;unfold sliceMade;refine post_val_or_made (fun _=>?_) fun t' k=>?_
  ·show(List.toArray ((slicePicked z l u none).filterMap (z.cps[·]?))).size<=sizeLine;rw[hc,zah];have:(mG z.cps.toList lo hi).length<=z.cps.toList.length:=by unfold mG;simp only[zau,zaT];lia
   lia
  ·have e:(if (((none:Option (Int×Tok)).map (·.1)).getD 1==1 && (slicePicked z l u none).length==z.length)=true then z else ⟨((slicePicked z l u none).filterMap (z.cps[·]?)).toArray⟩)=sQ z lo hi:=by
    split
    ·rename_i hq
     simp only[zad,beq_iff_eq] at hq
     have TF:=hq.2;rw[hp,zaa,zbu] at TF;have a0:HT.aQ z.length 0 lo=0:=by lia
     have b0:HT.aQ z.length z.length hi=z.length:=by lia
     unfold sQ mG;rw[hz,a0,b0,<-hz,Nat.sub_zero,List.drop_zero,zaG]
    ·rw[hc];rfl
   rw[e];exact⟨.str _,H,I.tok k,⟨t',rfl⟩,h2⟩
theorem TH:vc X (unaryOp .USub) Fe:=by
 intro pins s σ H x v Q I rx h
 match x,rx,h with
 |.int i,rx,h=>exact NO pins s σ H _ v Q I rx ⟨i,rfl,h⟩
theorem TJ{a:Expr}{ta:TE}{pos:Pos}(ha:PE X a ta):PE X (.UnaryOp .Not a pos) (zm X.K ta):=by
 intro pins s σ H Q I h;refine UnaryOp_<|aF (ha pins s σ H _ I h) fun v s1 ⟨x,H1,I1,r1,q1⟩=>not_of ?_;exact aF (DW pins s1 σ H1 x v (fun b H2=>Q (.bl<|!b) H2) I1 r1<|Fd q1) fun b s2 ⟨H2,I2,q2⟩=>⟨.bl<|!b,H2,I2,rfl,q2⟩
theorem tq{a:Expr}{ta:TE}(ha:PE X a ta)(he:∀whole,isTrue a X.env whole=(do let v <-whole;standAt a.pos;holding [v] (truthy v))):PT X a (eP X.K ta):=by
 intro pins s σ H Q I h;exact isTrue_plain (aF (ha pins s σ H _ I h) fun v s1 ⟨x,H1,I1,r1,q1⟩=>DW pins s1 σ H1 x v Q I1 r1 (Fd q1))<|he _
theorem TK{m:g6}{o e:Expr}{es:List Expr}{to:TE}{t:TA}{apos dw:Pos}(ho:PE X o to)(ha:PA X (e::es) t)(hb:mM o=true)(hl:(apos.endLine==dw.line)=true)(hn:(e::es).length<29)
  (hs:starEach (e::es) X.env=(false,eval e X.env)::starEach es X.env) (h1:(backTo dw<|starEach es X.env).any (·.1)=false) (h2:(backTo dw<|starEach (e::es) X.env).all (fun x=> !x.1)=true):
  PE X (.Call (.Attribute o m.nm apos) (e::es) [] dw) (qA X.K m to t):=by
 obtain⟨id,M⟩:=FL (X:=X) m;exact Pb M.pa M.slot M.ty M.mt ho ha (mw hb) (by
  rw[h2];show(true && true && decide ((e::es).length+0+0<30))=true;rw[zqT (by lia)];rfl) hl hs h1
theorem TL{m:g6}{o:Expr}{to:TE}{apos dw:Pos}(ho:PE X o to)(hb:mM o=true)(hl:(apos.endLine==dw.line)=true):
  PE X (.Call (.Attribute o m.nm apos) [] [] dw) (qA X.K m to fj):=by
 obtain⟨id,M⟩:=FL (X:=X) m;exact Pa M.pa M.slot M.ty M.mt ho (mw hb) hl
end
section
variable {X:Cx}{CX:bK}
theorem FN{o:Expr}{m:Str}{apos pos:Pos}{args:List Expr}{Q:Value->Shared->Prop}{E:Value->Shared->Prop}{A:Around}{s:Shared}{env:Env}{prog:Program}{w:World}
  (hb:mM o=true) (hl:(apos.endLine==pos.line)=true) (hn:args.length<29) (hf:(backTo pos<|starEach args env).all (fun x=> !x.1)=true)
  (h:wpAny (model prog w) A (eval o env) (fun ov s1=>∀pl,wpAny (model prog w) A (getMethod ov m pl) (fun fx s2=>wpAny (model prog w) A (callWith pos fx.1 fx.2 (backTo pos<|starEach args env)<|backToKw pos<|keywordEach [] env) Q E s2) E s1) E s):
  wpAny (model prog w) A (eval (.Call (.Attribute o m apos) args [] pos) env) Q E s:=by
 have TM:methodCallForm (args.length+0) (backTo pos<|starEach args env) (backToKw pos<|keywordEach [] env)=true:=by
  show((backTo pos<|starEach args env).all (fun x=> !x.1) && true && decide (args.length+0+0<30))=true;rw[hf,zqT (by lia)];rfl
 have line:methodCallPos true o env apos pos=pure pos:=by unfold methodCallPos;simp[hl]
 rw[arm_eval_Call,mw hb];refine wpAny_bind<|wpAny_mono h (fun ov s1 h1=>wpAny_bind<|wpAny_standAt ?_) fun _ _ e=>e;unfold methodCall;rw[show([]:List Keyword).length=0 from rfl,TM]
 refine wpAny_bind<|wpAny_holding<|wpAny_mono (h1 _) (fun fx s2 h2=>?_) fun _ _ e=>e;exact wpAny_bind<|wpAny_of_eq line h2
theorem TN{o e:Expr}{es:List Expr}{to:TE}{t:TA}{apos pos:Pos}{C:Addr}{m:Str}{sp:Sp}{E:XK}(M:vV CX X C m sp)(hx:Passes CX X E)(ho:PE X o to)(ha:PA X (e::es) t)(hb:mM o=true)(hl:(apos.endLine==pos.line)=true)(hn:(e::es).length<29)
  (hs:starEach (e::es) X.env=(false,eval e X.env)::starEach es X.env) (h1:(backTo pos<|starEach es X.env).any (·.1)=false) (h2:(backTo pos<|starEach (e::es) X.env).all (fun x=> !x.1)=true):
  PE X (.Call (.Attribute o m apos) (e::es) [] pos) (mj C m sp [] E to t):=by
 obtain⟨c,k,f,fd,ps,hm,F,hr,tu⟩:=M;intro pins s σ H Q I h;refine FN hb hl hn h2<|aF (ho pins s σ H _ I h) fun u s1 ⟨x,H1,I1,rx,a,dx,fs,ex,ea,l,q⟩=>fun pl=>?_;subst ex;obtain rfl:u=Value.ref a:=rx;refine D0 I1 ea c hm l ?_;refine callWith_K (first:=[.ref a]) (h₀:=X.base) I.ok.mod.nV hm.kp (aF (ha pos pins s1 σ H1 _ I1 q) fun us s2 ⟨vs,H2,I2,r,q2⟩=>⟨I2.cB,?_⟩) hs h1
 exact yE (us:=.ref a::us) (vs:=.ref a::vs) F hr tu .nil hx I2 (.cons rfl r) q2
theorem TQ{o:Expr}{to:TE}{apos pos:Pos}{C:Addr}{m:Str}{sp:Sp}{E:XK}(M:vV CX X C m sp)(hx:Passes CX X E)(ho:PE X o to)(hb:mM o=true)(hl:(apos.endLine==pos.line)=true):
  PE X (.Call (.Attribute o m apos) [] [] pos) (mj C m sp [] E to fj):=by
 obtain⟨c,k,f,fd,ps,hm,F,hr,tu⟩:=M;intro pins s σ H Q I h;refine FN hb hl (by decide) rfl<|aF (ho pins s σ H _ I h) fun u s1 ⟨x,H1,I1,rx,a,dx,fs,ex,ea,l,q⟩=>fun pl=>?_
 subst ex;obtain rfl:u=Value.ref a:=rx;refine D0 I1 ea c hm l ?_;exact PySem.W.callWith_K0 (first:=[.ref a]) I1.cB hm.kp<|yE (us:=[.ref a]) (vs:=[.ref a]) F hr tu .nil hx I1 (.cons rfl .nil) q
end
section
variable {prog:Program}{w:World}{A:Around}{E:Value->Shared->Prop}{s:Shared}
theorem FO{it l:Addr}{items:Array Value}(d6:l≠it):∀(n i:Nat) (s:Shared) (Q:List Value->Shared->Prop),s.heap.IsListIter it l i->s.heap.IsList l items->i+n<=items.size->
  (∀h',h'.IsListIter it l (i+n)->Heap.SameBut it s.heap h'->Q ((items.toList.drop i).take n) {s with heap:=h'})->wpAny (model prog w) A (draw (.ref it) n) Q E s
 | 0,i,s,Q,hit,_,_,hQ=>by
  show wpAny _ _ (pure []) Q E s;exact wpAny_pure (by simpa using hQ s.heap hit (Heap.SameBut.refl ..))
 |n+1,i,s,Q,hit,ht,hle,hQ=>by
  have aG:i<items.size:=by lia
  show wpAny _ _ (pyNext (.ref it) >>=_) Q E s;refine wpAny_bind<|wpAny_pyNext_list_item hit ht (x:=items[i]) (by simp[aG]) fun h₁ sW k_=>?_
  refine wpAny_bind<|wpAny_holding<|FO d6 n (i+1) _ _ sW (ht.extBut k_.extBut d6) (by lia) fun h₂ TU TV=>wpAny_pure ?_
  have hd:items.toList.drop i=items[i]::items.toList.drop (i+1):=by simp[zbT,aG]
  have:=hQ h₂ (by rw[show i+(n+1)=i+1+n by lia];exact TU) (k_.trans TV)
  rw[hd,List.take_succ_cons] at this;exact this
theorem TX{t:Addr}{items:Array Value}{Q:List Value->Shared->Prop}(hh:A.handled=none)(ht:s.heap.IsList t items)
  (hQ:∀h',Heap.ExtBut s.heap.objs.size s.heap h'->Q items.toList {s with heap:=h'}):wpAny (model prog w) A (unpackItems (.ref t) items.size none) Q E s:=by
 have aG:t≠s.heap.objs.size:=by obtain⟨o,ho,_⟩:=ht;exact zae (Heap.lt_size ho)
 unfold unpackItems;refine wpAny_bind ?_
 ·unfold notIterableAtAll;refine wpAny_bind<|wpAny_specialOf ht.typeIs slot_list_iter.lookup ?_;refine wpAny_pure ?_
  simp only[zaX,if_false]
  refine wpAny_bind<|wpAny_holding<|wpAny_pyIter_list ht ?_;refine wpAny_bind<|wpAny_holding<|FO aG items.size 0 _ _ ⟨_,Heap.get?_push_size _ rfl,rfl,rfl⟩ (ht.push _) (by lia) fun h₁ sW k_=>?_
  have oo:List.take items.size (List.drop 0 items.toList)=items.toList:=by
   rw[List.drop_zero];exact zbh (by simp)
  rw[oo];rw[if_neg (by simp)]
  have zu:h₁.IsList t items:=(ht.push _).extBut k_.extBut aG;refine wpAny_bind<|wpAny_holding<|wpAny_pyNext_list_end hh sW zu (by simp) fun h₂ zv=>?_
  simp only[Option.isSome_none,zaX,if_false]
  refine wpAny_pure<|hQ h₂ fun b o hb e=>zv b o hb (k_.extBut b o hb<|Heap.get?_push_of_some _ e)
theorem TY{env:Env}{elts:List Expr}{x1}{pos:Pos}{t:Addr}{items:Array Value}{Q:Unit->Shared->Prop}(hh:A.handled=none)(ht:s.heap.IsList t items)
  (hn:(assignEach elts env).length=items.size) (zw:(assignEach elts env).findIdx? (·.1)=none)
  (h:∀h',Heap.ExtBut s.heap.objs.size s.heap h'->wpAny (model prog w) A (assignInOrder ((assignEach elts env).map (·.2)) items.toList) Q E {s with heap:=h'}):
  wpAny (model prog w) A (assign (.Tuple elts x1 pos) env<|.ref t) Q E s:=by
 rw[assign_Tuple];refine wpAny_bind<|wpAny_standAt ?_;unfold unpack;rw[hn,zw];exact wpAny_bind<|wpAny_holding<|TX hh ht h
end
def mQ(K:Frag)(n:Nat)(t:i8):TG:=fun v σ H Q=>∃a xs,v=.ref a/\(aO K H a xs\/ay K H a xs)/\xs.length=n/\t xs σ H Q
theorem FP{X:Cx}{es:List Expr}{k:Nat}{t:i8}{n:Nat}{pos:Pos}(hc:X.calm=true)(h:nY X es t)
  (hn:(assignEach es X.env).length=n) (fH:(assignEach es X.env).findIdx? (·.1)=none):PG X (.Tuple es k pos) (mQ X.K n t):=by
 intro pins s σ H v u Q I r hw;obtain⟨a,xs,e1,hq,hl,hw⟩:=hw;rcases hq with hq|hq
 ·exact DG hc h hn fH pins s σ H v u Q I r ⟨a,xs,e1,hq,hl,hw⟩
 ·subst e1;cases r;obtain⟨aq,rv,ht,hz⟩:=I.list hq;refine TY (I.ok.hd hc) ht.isList (by simp[hn,<-hl,rv.length]) fH fun h' hx=>?_
  have I1:Inv X pins σ H {s with heap:=h'}:=I.kept (t':=s.toks) fun b o e=>hx b o (zae<|Heap.lt_size e) e
  exact h pins _ σ H xs _ Q I1 (by simpa using rv) hw
def lB:List Nat->i8
 |[]=>uZ
 |i::r=>ql (dv i) (lB r)
def TZ(to:TE)(tl th:TO):TG:=fun v σ H Q=>to σ H fun o H1=>tl σ H1 fun i H2=>th σ H2 fun j H3=>∃l b xs ys a c,o=.ref l/\v=.ref b/\i=some a/\j=some c/\H3 l=some (.lst xs)/\H3 b=some (.lst ys)/\l≠b/\
 0<=a/\a<=c/\c<=xs.length/\xs.length+ys.length<=sizeLine/\Q σ (upd H3 l<|.lst<|xs.take a.toNat++ys++xs.drop c.toNat)
mutual
def bg(Γ:aJ):RS->TS
 |.asg i e=>iz (ag Γ e) (dv i)
 |.jS i e=>iz (ag Γ e) (dv i)
 |.set o ix e=>iz (ag Γ e) (DH (ag Γ o) (ag Γ ix) yM)
 |.dput o i e=>EC (ag Γ o) (ag Γ i) (ag Γ e)
 |.drop e=>DC (ag Γ e)
 |.ret e=>DD (ag Γ e)
 |.Rm=>Nn
 |.ite c t e=>DE (aU Γ c) (aA Γ t) (aA Γ e)
 |.gQ i k aq body=>rS (iE Γ k aq) (dv i) (aA Γ body)
 |.qz is k aq body=>rS (iE Γ k aq) (mQ Γ.K is.length<|lB is) (aA Γ body)
 |.zk c body=>DJ (aU Γ c) (aA Γ body)
 |.pass=>yn
 |.brk=>Nj
 |.cont=>Nk
 |.never=>Nq
 |.Rn o lo hi e=>iz (ag Γ e) (TZ (ag Γ o) (vn<|ag Γ lo)<|vn<|ag Γ hi)
 |.g7 o f e=>yz Γ.K (ag Γ o) (ag Γ e) f
 |.mI is e=>iz (ag Γ e) (mQ Γ.K is.length<|lB is)
 |.g8 j as=>zh (Γ.ex j) Γ.E (aM Γ as)
 |.zl n i j body su=>fun D σ H=>∃C,Γ.gv j=.ref C/\vJ Γ.K C i n (fun E=>aA {Γ with E:=E} body) (fun ea=>aA {Γ with E:=E0,hv:=some ea} su) D σ H
 |.Ro k i j f as su=>fun D σ H=>∃C,Γ.gv j=.ref C/\Rb Γ.K C i k (Γ.fs f) (aM {Γ with E:=E0} as) (fun ea=>aA {Γ with E:=E0,hv:=some ea} su) D σ H
 |.xs T=>T Γ
def aA(Γ:aJ):List RS->TS
 |[]=>yn
 |s::r=>DA (bg Γ s) (aA Γ r)
end
def tD:Expr->Bool
 |.Slice ..=>false|_=>true
def tE:Expr->Bool
 |.ListComp ..=>false|.SetComp ..=>false|.DictComp ..=>false|_=>true
def vY(sc:Scope)(x:Str)(line:Nat)(s:Scope)(p:Pos):Bool:=
 decide (sc.kind=.function) && decide (sc.names.lookup x=some .local) && (line==p.line) && !(s.names.any fun(n,k)=>n==x && (k==.local ||k==.cell))
def oJ(N:List Str)(sc:Scope):List Nat->List Str->Bool
 |[],xs=>xs.isEmpty
 |i::r,xs=>match xs with
  |[]=>false
  |x::t=>decide (N[i]?=some x) && loc sc x && oJ N sc r t
structure cJ (CX:bK) (S:cg) (Γ:aJ) (X:Cx):Prop extends Good CX S Γ X where
 nd:S.N.Nodup
 jY:∀x,X.fn x=true
 own:PassesOwn (model X.prog X.w) X.A X.env X.xe
 mU:X.env.scope.kind=.function
 rs:∀(j:Nat) (x:Str),S.en[j]?=some x->Raises X Γ.E
 iw:X.stack=X.env::X.outer
 fQ:X.env.frame=some X.env.locals
 oK:X.ex=[]
 oM:CX=d9 X.prog X.w
def qV(S:cg)(i:Nat)(x:Str):Bool:=decide (S.N[i]?=some x) && zp S.sc x && !(x==("__debug__":Str)) && !(x==("__classdict__":Str))
def kG(S:cg)(j:Nat)(x:Str):Bool:=decide (S.gn[j]?=some x) && k9 S.sc x && !(x==("__debug__":Str))
def kF(S:cg)(j:Nat)(x:Str):Bool:=decide (S.fn[j]?=some x) && k9 S.sc x && !(x==("__debug__":Str))
def kK(S:cg)(j:Nat)(x:Str):Bool:=decide (S.kn[j]?=some x) && k9 S.sc x && !(x==("__debug__":Str))
def kB(S:cg)(x y:Str):Bool:=decide (x=y) && k9 S.sc x && S.bl.contains x
def kM(o:Expr)(m:Str)(x:Str)(n:Nat)(a c:Pos):Bool:=decide (x=m) && mM o && (a.endLine==c.line) && decide (n<29)
def kL(S:cg)(i:Nat)(x:Str):Bool:=decide (S.N[i]?=some x) && loc S.sc x
section
variable {CX:bK}{S:cg}{Γ:aJ}{X:Cx}{e e2 a b c d:Expr}{es:List Expr}{x:Str}{p q pos:Pos}{r ra rb rc:RE}{rs:List RE}{i j:Nat}
theorem aa(G:Good CX S Γ X)(h:qV S i x=true:=by kernel_rfl):PE X (.Name x p) (ag Γ<|.v i):=by
 simp only[qV,zad,decide_eq_true_eq,zaJ] at h
 exact M7 (by rw[G.N];exact h.1.1.1) (by rw[G.sc];exact RB h.1.1.2) h.1.2 h.2
theorem ak{v:Int}{k:Nat}:PE X (.Constant (.int v) k p) (ag Γ<|.c<|.int v):=M8
theorem aE{v:Str}{k:Nat}:PE X (.Constant (.str v) k p) (ag Γ<|.c<|.str v):=Na
theorem cN{v:Bool}{k:Nat}:PE X (.Constant (.bool v) k p) (ag Γ<|.c<|.bl v):=M9
theorem oN{k:Nat}:PE X (.Constant .none k p) (ag Γ<|.c .aD):=M_
theorem fU(G:Good CX S Γ X)(h:kG S j x=true:=by kernel_rfl):PE X (.Name x p) (ag Γ<|.g j):=by
 simp only[kG,zad,decide_eq_true_eq,zaJ] at h
 obtain⟨u,hm,r⟩:=G.jV j x h.1.1;exact Dq (G.gl h.1.2) hm r h.2
theorem aB{op:Operator}(G:Good CX S Γ X)(ha:PE X a (ag Γ ra))(hb:PE X b (ag Γ rb)):PE X (.BinOp a op b p) (ag Γ<|.bin op ra rb):=by
 show PE X _ (eB (iD Γ.K op) (ag Γ ra)<|ag Γ rb);rw[<-G.K];exact NF (QN op) ha hb
theorem ji(ha:PE X a (ag Γ ra)):PE X (.UnaryOp .USub a p) (ag Γ<|.neg ra):=NG TH ha
theorem d_{op:CmpOp}(G:Good CX S Γ X)(ha:PE X a (ag Γ ra))(hb:PE X b (ag Γ rb))(hm:behindInMarks op b=false:=by kernel_rfl):PE X (.Compare a [op] [b] p) (ag Γ<|.cmp op ra rb):=by
 show PE X _ (eB (cy Γ.K op) (ag Γ ra)<|ag Γ rb);rw[<-G.K];exact N3 (qv G.units op) ha hb hm
theorem T_{op b_:CmpOp}(G:Good CX S Γ X)(ha:PE X a (ag Γ ra))(hb:PE X b (ag Γ rb))(hc:PE X c (ag Γ rc))(hm:lastMarks [op,b_] [b,c]=false:=by kernel_rfl):PE X (.Compare a [op,b_] [b,c] p) (ag Γ<|.je op b_ ra rb rc):=by
 show PE X _ (qo (cy Γ.K op) (cy Γ.K b_) (ag Γ ra) (ag Γ rb)<|ag Γ rc);rw[<-G.K];exact N5 (qv G.units op) (qv G.units b_) ha hb hc hm
theorem iI(h:PE X e (ag Γ r)):PE X (.BoolOp .And [e] p) (ag Γ<|.and [r]):=Dx h
theorem hU{r2:RE}(h:PE X e (ag Γ r))(t:PE X (.BoolOp .And (e2::es) p) (ag Γ<|.and (r2::rs))):PE X (.BoolOp .And (e::e2::es) p) (ag Γ<|.and (r::r2::rs)):=Nd h t
theorem Ua(h:PE X e (ag Γ r)):PE X (.BoolOp .Or [e] p) (ag Γ<|.or [r]):=Dx h
theorem Ub{r2:RE}(h:PE X e (ag Γ r))(t:PE X (.BoolOp .Or (e2::es) p) (ag Γ<|.or (r2::rs))):PE X (.BoolOp .Or (e::e2::es) p) (ag Γ<|.or (r::r2::rs)):=Nf h t
theorem zP(G:Good CX S Γ X)(ha:PE X a (ag Γ ra)):PE X (.UnaryOp .Not a p) (ag Γ<|.not ra):=by
 show PE X _ (zm Γ.K<|ag Γ ra);rw[<-G.K];exact TJ ha
theorem vZ(hc:PT X c (aU Γ rc))(ha:PE X a (ag Γ ra))(hb:PE X b (ag Γ rb)):PE X (.IfExp c a b p) (ag Γ<|.jR rc ra rb):=Ng hc ha hb
theorem qK:PE X (.Dict [] [] p) (ag Γ .jf):=Th
theorem ai:PA X [] (aM Γ []):=rX
theorem ae(h:PE X e (ag Γ r))(t:PA X es (aM Γ rs))(hs:noStar e=true:=by kernel_rfl):PA X (e::es) (aM Γ (r::rs)):=oj h t (dE hs)
theorem aN(G:Good CX S Γ X)(hA:PA X (e::es) (aM Γ (r::rs)))(h:kF S j x=true:=by kernel_rfl)(hn:eG (e::es)=true:=by kernel_rfl)(hq:S.md=0:=by rfl):PE X (.Call (.Name x p) (e::es) [] pos) (ag Γ<|.call j (r::rs)):=by
 simp only[kF,zad,decide_eq_true_eq,zaJ] at h
 obtain⟨k,f,fd,ps,F,hr,hm,hk,hb⟩:=G.fns hq j x h.1.1;exact OB F hr (G.gl h.1.2) hm hk hb .nil G.pass hA h.2 (dE (cM hn).1)<|hJ _ _ es (cM hn).2
theorem qL(G:Good CX S Γ X)(hA:PA X (e::es) (aM Γ (r::rs)))(h:kK S j x=true:=by kernel_rfl)(hn:eG (e::es)=true:=by kernel_rfl)(hq:S.md=0:=by rfl):PE X (.Call (.Name x p) (e::es) [] pos) (ag Γ<|.make j (r::rs)):=by
 simp only[kK,zad,decide_eq_true_eq,zaJ] at h
 obtain⟨k,f,fd,ps,M,F,hr,hm,hb⟩:=G.mO hq j x h.1.1;exact OD M F hr (G.gl h.1.2) hm hb .nil G.pass hA h.2 (dE (cM hn).1)<|hJ _ _ es (cM hn).2
theorem cj{t:mH}(G:Good CX S Γ X)(hA:PA X (e::es) (aM Γ (r::rs)))(h:kB S x t.nm=true:=by kernel_rfl)(hn:eG (e::es)=true:=by kernel_rfl)(hq:S.md=0:=by rfl):PE X (.Call (.Name x p) (e::es) [] pos) (ag Γ<|.blt t (r::rs)):=by
 simp only[kB,zad,decide_eq_true_eq] at h
 obtain⟨⟨rfl,h2⟩,h3⟩:=h;have n1:t.nm≠"__name__":=by cases t<;>decide
 have n2:(t.nm==("__debug__":Str))=false:=by cases t<;>decide
 show PE X _ (dS (g_ Γ.K t)<|aM Γ (r::rs));rw[<-G.K];cases Ti (X:=X) (G.calm hq) t with
 |fn id hv hc=>exact qp hc (G.gl h2) (G.d0 _ h3) hv hA n1 n2 (dE (cM hn).1) (hJ _ _ es (cM hn).2)
 |ty T hv hc=>exact D_ hc (G.gl h2) (G.d0 _ h3) hv hA n1 n2 (dE (cM hn).1) (hJ _ _ es (cM hn).2)
theorem iJ{T:Ty}{y:Str}(G:Good CX S Γ X)(ha:PE X a (ag Γ ra))(h:kB S x "isinstance"=true:=by kernel_rfl)(h2:kB S y (Str.ofString T.nm)=true:=by kernel_rfl)(hs:noStar a=true:=by kernel_rfl):PE X (.Call (.Name x p) [a,.Name y q] [] pos) (ag Γ<|.eF T ra):=by
 simp only[kB,zad,decide_eq_true_eq] at h h2
 obtain⟨⟨rfl,g2⟩,g3⟩:=h;obtain⟨⟨rfl,k2⟩,k3⟩:=h2;exact Tx ha hs (G.gl g2) (G.d0 _ g3) (G.gl k2)<|G.d0 _ k3
theorem gp(G:Good CX S Γ X)(ha:PE X a (ag Γ ra))(hb:PE X b (ag Γ rb))(h:kB S x "isinstance"=true:=by kernel_rfl)(hn:eG [a,b]=true:=by kernel_rfl):PE X (.Call (.Name x p) [a,b] [] pos) (ag Γ<|.cY ra rb):=by
 simp only[kB,zad,decide_eq_true_eq] at h
 obtain⟨⟨rfl,g2⟩,g3⟩:=h;show PE X _ (dS (jQ Γ.K)<|cU (ag Γ ra)<|cU (ag Γ rb) fj);rw[<-G.K];exact qp SO (G.gl g2) (G.d0 _ g3) FF (oj ha (oj hb rX<|dE (cM (cM hn).2).1)<|dE (cM hn).1) (by decide) (by decide) (dE (cM hn).1)<|hJ _ _ _ (cM hn).2
theorem Uc{n:String}(G:Good CX S Γ X)(hv:bootBuiltins (Str.ofString n)=some (.type n))(h1:Str.ofString n≠"__name__")(h2:(Str.ofString n==("__debug__":Str))=false)(h:kB S x (Str.ofString n)=true:=by kernel_rfl):PE X (.Name x p) (ag Γ<|.c<|.ty n):=by
 simp only[kB,zad,decide_eq_true_eq] at h
 obtain⟨⟨rfl,g2⟩,g3⟩:=h;exact Dr (G.gl g2) (G.d0 _ g3) hv rfl h1 h2
def kH(S:cg)(j:Nat)(x:Str):Bool:=decide (S.hn[j]?=some x) && k9 S.sc x && !(x==("__debug__":Str))
theorem Ud(G:Good CX S Γ X)(ha:PE X a (ag Γ ra))(h:kH S j x=true:=by kernel_rfl)(hs:noStar a=true:=by kernel_rfl):PE X (.Call (.Name x p) [a] [] pos) (ag Γ<|.vK j ra):=by
 simp only[kH,zad,decide_eq_true_eq,zaJ] at h
 obtain⟨k,f,fd,ps,F,hr,hm,hk,hb⟩:=G.lu j x h.1.1;exact SV F hr (G.gl h.1.2) hm hk hb G.mP ha hs h.2
theorem Ue{m:g6}{o:Expr}{ro:RE}{ap:Pos}(G:Good CX S Γ X)(ho:PE X o (ag Γ ro))(h:kM o m.nm x 0 ap pos=true:=by kernel_rfl):PE X (.Call (.Attribute o x ap) [] [] pos) (ag Γ<|.dn m ro []):=by
 simp only[kM,zad,decide_eq_true_eq] at h
 obtain⟨⟨⟨rfl,h2⟩,h3⟩, -⟩:=h;show PE X _ (qA Γ.K m (ag Γ ro) fj);rw[<-G.K];exact TL ho h2 h3
theorem gu{m:g6}{o:Expr}{ro:RE}{ap:Pos}(G:Good CX S Γ X)(ho:PE X o (ag Γ ro))(hA:PA X (e::es) (aM Γ (r::rs)))(h:kM o m.nm x (es.length+1) ap pos=true:=by kernel_rfl)(hn:eG (e::es)=true:=by kernel_rfl):PE X (.Call (.Attribute o x ap) (e::es) [] pos) (ag Γ<|.dn m ro (r::rs)):=by
 simp only[kM,zad,decide_eq_true_eq] at h
 obtain⟨⟨⟨rfl,h2⟩,h3⟩,h4⟩:=h;show PE X _ (qA Γ.K m (ag Γ ro)<|aM Γ (r::rs));rw[<-G.K];exact TK ho hA h2 h3 h4 (dE (cM hn).1) (hJ _ _ es (cM hn).2)<|vX _ _ (e::es) hn
theorem cK{f:Str}{ro:RE}(G:Good CX S Γ X)(ho:PE X a (ag Γ ro))(h:mM a=true:=by kernel_rfl):PE X (.Attribute a f p) (ag Γ<|.fld ro f):=by
 show PE X _ (vh Γ.K (ag Γ ro) f);rw[<-G.K];exact Ou ho<|mw h
theorem iK{m:Str}{o:Expr}{ro:RE}{ap:Pos}(G:Good CX S Γ X)(ho:PE X o (ag Γ ro))(h:(kM o m m 0 ap pos && decide (S.mn[j]?=some m))=true:=by kernel_rfl)(hq:S.md=0:=by rfl):PE X (.Call (.Attribute o m ap) [] [] pos) (ag Γ<|.bc j m ro []):=by
 simp only[kM,zad,decide_eq_true_eq] at h
 obtain⟨⟨⟨⟨-,h2⟩,h3⟩, -⟩,h5⟩:=h;exact TQ (G.lr hq j _ h5) G.pass ho h2 h3
theorem di{m:Str}{o:Expr}{ro:RE}{ap:Pos}(G:Good CX S Γ X)(ho:PE X o (ag Γ ro))(hA:PA X (e::es) (aM Γ (r::rs)))(h:(kM o m m (es.length+1) ap pos && decide (S.mn[j]?=some m))=true:=by kernel_rfl)(hn:eG (e::es)=true:=by kernel_rfl)(hq:S.md=0:=by rfl):PE X (.Call (.Attribute o m ap) (e::es) [] pos) (ag Γ<|.bc j m ro (r::rs)):=by
 simp only[kM,zad,decide_eq_true_eq] at h
 obtain⟨⟨⟨⟨-,h2⟩,h3⟩,h4⟩,h5⟩:=h;exact TN (G.lr hq j _ h5) G.pass ho hA h2 h3 h4 (dE (cM hn).1) (hJ _ _ es (cM hn).2)<|vX _ _ (e::es) hn
theorem Ug(h:tD b=true):Ej b:=fun o i=>by cases b<;>first|rfl|cases h
theorem aK(G:Good CX S Γ X)(ha:PE X a (ag Γ ra))(hb:PE X b (ag Γ rb))(h:tD b=true:=by kernel_rfl):PE X (.Subscript a b p) (ag Γ<|.ix ra rb):=by
 show PE X _ (eB (mK Γ.K Γ.sd) (ag Γ ra)<|ag Γ rb);rw[<-G.K];exact OU (Tq G.lq) ha hb<|Ug h
theorem Uh(h:tD b=true):y8 b:=fun ov iv=>by cases b<;>first|rfl|cases h
theorem fV(G:Good CX S Γ X)(ha:PE X a (ag Γ ra))(hb:PE X b (ag Γ rb))(h:tD b=true:=by kernel_rfl):PE X (.Subscript a b p) (ag Γ<|.dU ra rb):=
 P0 (by have:=G.units;lia) ha hb (Uh h)
theorem FQ(G:Good CX S Γ X)(ha:PE X a (ag Γ ra))(hb:PE X b (ag Γ rb))(hm:behindInMarks .NotIn b=false:=by kernel_rfl):PT X (.Compare a [.NotIn] [b] p) (aU Γ<|.qy ra rb):=
 Nb (P4 (by have:=G.units;lia) ha hb) hm
theorem tF{lo hi:Option Expr}{rl rh:Option RE}(G:Good CX S Γ X)(ha:PE X a (ag Γ ra))(hl:PO X lo (mL Γ rl))(hh:PO X hi (mL Γ rh)):PE X (.Subscript a (.Slice lo hi none q) p) (ag Γ<|.sl ra rl rh):=by
 show PE X _ (yJ (qB Γ.K) (ag Γ ra) (mL Γ rl)<|mL Γ rh);rw[<-G.K];exact OP TC ha hl hh
theorem FR:PO X none (mL Γ none):=ON
theorem mV(ha:PE X a (ag Γ ra)):PO X (some a) (mL Γ<|some ra):=OO ha
theorem bf{k}(hA:PA X es (aM Γ rs)):PE X (.Tuple es k p) (ag Γ<|.tup rs):=Oy hA
theorem aR(hA:PA X es (aM Γ rs)):PE X (.List es p) (ag Γ<|.lst rs):=Oz hA
def tG(CX:bK)(S:cg)(Γ:aJ)(cond:Option RE)(ifs:List Expr):Prop:=match cond with
 |none=>ifs=[]
 |some r=>∃e0,ifs=[e0]/\∀X,Good CX S Γ X->PT X e0 (aU Γ r)
theorem mW:tG CX S Γ none []:=rfl
theorem oO(h:∀X,Good CX S Γ X->PT X e (aU Γ r)):tG CX S Γ (some r) [e]:=⟨e,rfl,h⟩
def kC(S:cg)(tk:Option Nat)(tg iter:Expr)(sc:Scope)(k:IK)(ln:List Str)(fv:List (Str×Nat)):Bool:=decide (zr tk tg=some ln) && (decide (k≠ .zip)||tk.isSome) && zt S ⟨.Constant .none 0 ⟨0,0,0,0⟩,tg,iter,[],sc⟩ ln fv
abbrev cS(S:cg)(sc:Scope)(ln:List Str)(fv:List (Str×Nat)):cg:={S with N:=ln++fv.map (·.1),sc:=zq sc S.sc,en:=[],md:=if S.md=0 then 0 else 2}
theorem jZ{tk:Option Nat}{fv:List (Str×Nat)}{k:IK}{aq:List RE}{cond:Option RE}{elt:RE}{el tg iter:Expr}{ifs:List Expr}{sc:Scope}{ln:List Str}(G:Good CX S Γ X)(h:kC S tk tg iter sc k ln fv=true)(hi:PI X tg iter (iE Γ k aq))
  (hc:tG CX (cS S sc ln fv) Γ.calm cond ifs) (he:∀X,Good CX (cS S sc ln fv) Γ.calm X->PE X el (ag Γ.calm elt)) (hq:S.md=0:=by rfl):PE X (.ListComp el [⟨tg,iter,ifs,0⟩] sc p) (ag Γ<|.comp tk fv k aq cond elt):=by
 simp only[kC,zad,decide_eq_true_eq] at h
 obtain⟨⟨h1,h2⟩,h3⟩:=h;obtain⟨o1,o2,o3,o4⟩:=zM (c:=⟨.Constant .none 0 ⟨0,0,0,0⟩,tg,iter,[],sc⟩) G h3;show PE X _ (mD Γ.K (iE Γ k aq) tk fv (sU Γ.calm cond)<|ag Γ.calm elt);rw[<-G.K];refine QG o1 (G.calm hq) hi (FE (c:=⟨.Constant .none 0 ⟨0,0,0,0⟩,tg,iter,[],sc⟩) (G.calm hq) h1 o2 o3) ?_ (fun ex C s H=>he _<|G.inner ⟨.Constant .none 0 ⟨0,0,0,0⟩,tg,iter,[],sc⟩ ln fv ex C s H)<|qJ o4;cases cond with
 |none=>exact hc
 |some r=>
  obtain⟨e0,q,hq⟩:=hc;exact⟨e0,q,fun ex C s H=>hq _<|G.inner ⟨.Constant .none 0 ⟨0,0,0,0⟩,tg,iter,[],sc⟩ ln fv ex C s H⟩
theorem cZ(h:PT X a (aU Γ ra)):PT X (.UnaryOp .Not a p) (aU Γ<|.not ra):=Nc h
theorem v5(h:PT X e (aU Γ r)):PW X (.BoolOp .And [e] p) (aU Γ<|.and [r]):=pw_and1 h
theorem v7{r2:RE}(h:PT X e (aU Γ r))(t:PW X (.BoolOp .And (e2::es) p) (aU Γ<|.and (r2::rs))):PW X (.BoolOp .And (e::e2::es) p) (aU Γ<|.and (r::r2::rs)):=pw_and h t
theorem gR(h:PT X e (aU Γ r)):PW X (.BoolOp .Or [e] p) (aU Γ<|.or [r]):=pw_or1 h
theorem eQ{r2:RE}(h:PT X e (aU Γ r))(t:PW X (.BoolOp .Or (e2::es) p) (aU Γ<|.or (r2::rs))):PW X (.BoolOp .Or (e::e2::es) p) (aU Γ<|.or (r::r2::rs)):=pw_or h t
theorem ba{op:CmpOp}(G:Good CX S Γ X)(ha:PE X a (ag Γ ra))(hb:PE X b (ag Γ rb))(hm:behindInMarks op b=false:=by kernel_rfl):PT X (.Compare a [op] [b] p) (aU Γ<|.cmp op ra rb):=by
 show PT X _ (mh<|eB (cy Γ.K op) (ag Γ ra)<|ag Γ rb);rw[<-G.K];exact N4 (qv G.units op) ha hb hm
theorem FT{op b_:CmpOp}(G:Good CX S Γ X)(ha:PE X a (ag Γ ra))(hb:PE X b (ag Γ rb))(hc:PE X c (ag Γ rc))(hm:lastMarks [op,b_] [b,c]=false:=by kernel_rfl):PT X (.Compare a [op,b_] [b,c] p) (aU Γ<|.je op b_ ra rb rc):=by
 show PT X _ (mh<|qo (cy Γ.K op) (cy Γ.K b_) (ag Γ ra) (ag Γ rb)<|ag Γ rc);rw[<-G.K];exact N6 (qv G.units op) (qv G.units b_) ha hb hc hm
theorem zQ(G:Good CX S Γ X)(h:PE X (.Name x p) (ag Γ<|.v i)):PT X (.Name x p) (aU Γ<|.v i):=by
 show PT X _ (eP Γ.K<|ag Γ<|.v i);rw[<-G.K];exact tq h fun _=>rfl
theorem eS(G:Good CX S Γ X)(h:PE X (.Call a es [] p) (ag Γ<|.call j rs)):PT X (.Call a es [] p) (aU Γ<|.call j rs):=by
 show PT X _ (eP Γ.K<|ag Γ<|.call j rs);rw[<-G.K];exact tq h fun _=>rfl
theorem FU(G:Good CX S Γ X)(h:PE X (.Call a es [] p) (ag Γ<|.cY ra rb)):PT X (.Call a es [] p) (aU Γ<|.cY ra rb):=by
 show PT X _ (eP Γ.K<|ag Γ<|.cY ra rb);rw[<-G.K];exact tq h fun _=>rfl
theorem qM{T:Ty}(G:Good CX S Γ X)(h:PE X (.Call a es [] p) (ag Γ<|.eF T ra)):PT X (.Call a es [] p) (aU Γ<|.eF T ra):=by
 show PT X _ (eP Γ.K<|ag Γ<|.eF T ra);rw[<-G.K];exact tq h fun _=>rfl
theorem dF{tg:Expr}(G:Good CX S Γ X)(ha:PE X a (ag Γ ra)):PI X tg a (iE Γ .list [ra]):=by
 show PI X tg a (rR Γ.K<|ag Γ ra);rw[<-G.K];exact Ny ha
theorem v8{tg:Expr}(G:Good CX S Γ X)(ha:PE X a (ag Γ ra))(h:kB S x "range"=true:=by kernel_rfl)(hs:noStar a=true:=by kernel_rfl):PI X tg (.Call (.Name x p) [a] [] pos) (iE Γ .fG [ra]):=by
 simp only[kB,zad,decide_eq_true_eq] at h
 obtain⟨⟨rfl,h2⟩,h3⟩:=h;exact NB (G.gl h2) (G.d0 _ h3) (oj ha rX<|dE hs)<|dE hs
end
section
variable {CX:bK}{S:cg}{Γ:aJ}{X:Cx}{e a b c v:Expr}{es:List Expr}{x:Str}{p q pos:Pos}{r ra rb rc:RE}{i j:Nat}{st:Stmt}{FV:List Stmt}{s:RS}{ss t u:List RS}
theorem v9{v:Expr}{t:Option Expr}{l:Nat}{env:Env}(h:tE v=true):swapsWith v t l env=pure false:=by
 cases v<;>first|rfl|cases h
theorem Ui{v:Expr}{x:Str}{p:Pos}{l:Nat}{env:Env}(h:env.kindOf x=some .cell):swapsWith v (some<|.Name x p) l env=pure false:=by
 cases v<;>first
  |rfl
  |(unfold swapsWith;simp only[h];have q:(some NameKind.cell==some NameKind.local)=false:=rfl;simp only[q,zbt,zbm])
theorem FW{v o i:Expr}{p:Pos}{l:Nat}{env:Env}:swapsWith v (some<|.Subscript o i p) l env=pure false:=by
 cases v<;>rfl
theorem Uj{v o i:Expr}{p:Pos}{env:Env}:swappedStores [.Subscript o i p] v env=pure none:=by
 cases v<;>rfl
theorem cJ.name(G:cJ CX S Γ X)(h:kL S i x=true):PG X (.Name x p) (dv i):=by
 simp only[kL,zad,decide_eq_true_eq] at h
 exact qj (by rw[G.N];exact G.nd) (by rw[G.N];exact h.1) (by rw[G.sc];exact vM h.2)<|.inl<|G.jY x
theorem aw:cT X [] (aA Γ []):=DB
theorem aj(h:PS X st (bg Γ s))(t:cT X FV (aA Γ ss)):cT X (st::FV) (aA Γ (s::ss)):=Ni h t
theorem aI(G:cJ CX S Γ X)(he:PE X v (ag Γ r))(h:kL S i x=true:=by kernel_rfl)(hc:(tE v ||decide (S.sc.names.lookup x=some .cell))=true:=by kernel_rfl):PS X (.Assign [.Name x p] v q) (bg Γ<|.asg i r):=by
 simp only[kL,zad,decide_eq_true_eq,Bool.or_eq_true] at h hc
 refine Nt (by rw[G.N];exact G.nd) (by rw[G.N];exact h.1) (by rw[G.sc];exact vM h.2) he ?_<|.inl<|G.jY x
 rcases hc with h4|h4
 ·exact v9 h4
 ·exact Ui (by show X.env.scope.names.lookup x=_;rw[G.sc];exact h4)
theorem v_{tk:Option Nat}{fv:List (Str×Nat)}{k:IK}{aq:List RE}{cond:Option RE}{elt:RE}{el tg iter:Expr}{ifs:List Expr}{sc:Scope}{ln:List Str}{pc:Pos}(G:cJ CX S Γ X)(h0:kL S i x=true)(hs:vY S.sc x p.line sc pc=true)(h:kC S tk tg iter sc k ln fv=true)(hi:PI X tg iter (iE Γ k aq))
  (hc:tG CX (cS S sc ln fv) Γ.calm cond ifs) (he:∀X,Good CX (cS S sc ln fv) Γ.calm X->PE X el (ag Γ.calm elt)) (hq:S.md=0:=by rfl):PS X (.Assign [.Name x p] (.ListComp el [⟨tg,iter,ifs,0⟩] sc pc) q) (bg Γ<|.jS i<|.comp tk fv k aq cond elt):=by
 simp only[kC,kL,vY,zad,decide_eq_true_eq,beq_iff_eq,zaJ] at h h0 hs
 obtain⟨⟨h1,h2⟩,h3⟩:=h;obtain⟨o1,o2,o3,o4⟩:=zM (c:=⟨.Constant .none 0 ⟨0,0,0,0⟩,tg,iter,[],sc⟩) G.toGood h3;show PS X _ (iz (mD Γ.K (iE Γ k aq) tk fv (sU Γ.calm cond)<|ag Γ.calm elt)<|dv i);rw[<-G.K];refine QH (by rw[G.N];exact G.nd) (by rw[G.N];exact h0.1) (by rw[G.sc];exact vM h0.2) ?_ o1 (G.calm hq) hi (FE (c:=⟨.Constant .none 0 ⟨0,0,0,0⟩,tg,iter,[],sc⟩) (G.calm hq) h1 o2 o3) ?_ (fun ex C s H=>he _<|G.toGood.inner ⟨.Constant .none 0 ⟨0,0,0,0⟩,tg,iter,[],sc⟩ ln fv ex C s H) (qJ o4)<|.inl<|G.jY x
 ·have e1:X.env.kindOf x=some .local:=by show X.env.scope.names.lookup x=_;rw[G.sc];exact hs.1.1.2
  have e2:X.env.blockKind=.function:=by unfold Env.blockKind;rw[G.mU];rfl
  unfold swapsWith
  simp only[e1,e2,hs.1.2,hs.2]
  show pure (true && true && (pc.line==pc.line) && !false)=pure true;rw[beq_self_eq_true];rfl
 ·cases cond with
  |none=>exact hc
  |some r=>
   obtain⟨e0,q,hq⟩:=hc;exact⟨e0,q,fun ex C s H=>hq _<|G.toGood.inner ⟨.Constant .none 0 ⟨0,0,0,0⟩,tg,iter,[],sc⟩ ln fv ex C s H⟩
theorem Uk{fv:List (Str×Nat)}{cond:Option RE}{elt:RE}{el iter:Expr}{ifs:List Expr}{sc:Scope}{n1 n2:Str}{p1 p2 tp:Pos}{kt}{pc:Pos}(G:cJ CX S Γ X)(h0:kL S i x=true)(hs:vY S.sc x p.line sc pc=true)(h:kC S (some 2) (.Tuple [.Name n1 p1,.Name n2 p2] kt tp) iter sc .list [n1,n2] fv=true)(hi:PE X iter (ag Γ ra))
  (hc:tG CX (cS S sc [n1,n2] fv) Γ.calm cond ifs) (he:∀X,Good CX (cS S sc [n1,n2] fv) Γ.calm X->PE X el (ag Γ.calm elt)) (hq:S.md=1:=by rfl):PS X (.Assign [.Name x p] (.ListComp el [⟨.Tuple [.Name n1 p1,.Name n2 p2] kt tp,iter,ifs,0⟩] sc pc) q) (bg Γ<|.jS i<|.comp (some 2) fv .list [ra] cond elt):=by
 simp only[kC,kL,vY,zad,decide_eq_true_eq,beq_iff_eq,zaJ] at h h0 hs
 obtain⟨⟨h1,h2⟩,h3⟩:=h;obtain⟨o1,o2,o3,o4⟩:=zM (c:=⟨.Constant .none 0 ⟨0,0,0,0⟩,.Tuple [.Name n1 p1,.Name n2 p2] kt tp,iter,[],sc⟩) G.toGood h3;show PS X _ (iz (mD Γ.K (rR Γ.K<|ag Γ ra) (some 2) fv (sU Γ.calm cond)<|ag Γ.calm elt)<|dv i);rw[<-G.K];have hH:Hd X:=G.oH hq;refine E1 (Φ:=Hd) (Ψ:=gj X.A) (by rw[G.N];exact G.nd) (by rw[G.N];exact h0.1) (by rw[G.sc];exact vM h0.2) ?_ o1 SN (fun _ _ _ _ I=>hH.at I) (SJ hi) (SM (o2 n1 (by simp)) (o2 n2 (by simp)) o3) ?_ (fun ex C s H=>he _<|G.toGood.inner ⟨.Constant .none 0 ⟨0,0,0,0⟩,.Tuple [.Name n1 p1,.Name n2 p2] kt tp,iter,[],sc⟩ [n1,n2] fv ex C s H) (qJ o4)<|.inl<|G.jY x
 ·have e1:X.env.kindOf x=some .local:=by show X.env.scope.names.lookup x=_;rw[G.sc];exact hs.1.1.2
  have e2:X.env.blockKind=.function:=by unfold Env.blockKind;rw[G.mU];rfl
  unfold swapsWith
  simp only[e1,e2,hs.1.2,hs.2]
  show pure (true && true && (pc.line==pc.line) && !false)=pure true;rw[beq_self_eq_true];rfl
 ·cases cond with
  |none=>exact hc
  |some r=>
   obtain⟨e0,q,hq⟩:=hc;exact⟨e0,q,fun ex C s H=>hq _<|G.toGood.inner ⟨.Constant .none 0 ⟨0,0,0,0⟩,.Tuple [.Name n1 p1,.Name n2 p2] kt tp,iter,[],sc⟩ [n1,n2] fv ex C s H⟩
theorem FX(he:PE X v (ag Γ r))(ha:PE X a (ag Γ ra))(hb:PE X b (ag Γ rb))(h:tD b=true:=by kernel_rfl):PS X (.Assign [.Subscript a b p] v q) (bg Γ<|.set ra rb r):=
 DI he (Nr ha hb set_list (by intro w;cases b<;>first|rfl|cases h)) (by exact FW (o:=a) (i:=b) (p:=p) (l:=q.line) (env:=X.env)) Uj rfl
theorem mX(G:cJ CX S Γ X)(he:PE X v (ag Γ r))(ha:PE X a (ag Γ ra))(hb:PE X b (ag Γ rb)):PS X (.Assign [.Subscript a b p] v q) (bg Γ<|.dput ra rb r):=
 P5 (by have:=G.toGood.units;lia) ha hb he (by exact FW (o:=a) (i:=b) (p:=p) (l:=q.line) (env:=X.env))
theorem j2{f:Str}(G:cJ CX S Γ X)(ho:PE X a (ag Γ ra))(he:PE X v (ag Γ r))(h:tE v=true:=by kernel_rfl):PS X (.Assign [.Attribute a f p] v q) (bg Γ<|.g7 ra f r):=by
 show PS X _ (yz Γ.K (ag Γ ra) (ag Γ r) f);rw[<-G.K];exact Ov ho he<|v9 h
theorem dj(he:PE X v (ag Γ r))(h:tE v=true:=by kernel_rfl):PS X (.Expr v p) (bg Γ<|.drop r):=Nl he (v9 h)
theorem aP(he:PE X v (ag Γ r)):PS X (.Return (some v) p) (bg Γ<|.ret r):=Nm he
theorem aZ{as bs:List Stmt}(hc:PT X c (aU Γ rc))(ha:cT X as (aA Γ t))(hb:cT X bs (aA Γ u)):PS X (.If c as bs p) (bg Γ<|.ite rc t u):=Np hc ha hb
theorem Ul{as:List Stmt}(G:cJ CX S Γ X)(hc:PT X c (aU Γ rc))(ha:cT X as (aA Γ t)):PS X (.While c as [] p) (bg Γ<|.zk rc t):=Nu G.own hc ha
theorem lE{k:IK}{aq:List RE}{iter:Expr}{as:List Stmt}(G:cJ CX S Γ X)(hi:PI X (.Name x p) iter (iE Γ k aq))(ha:cT X as (aA Γ t))(h:kL S i x=true:=by kernel_rfl)(hs:qC iter=true:=by kernel_rfl)(hq:S.md=0:=by rfl):PS X (.For (.Name x p) iter as [] q) (bg Γ<|.gQ i k aq t):=
 yr G.own (G.calm hq) hi (G.name h) ha (qJ hs)
theorem zR(G:cJ CX S Γ X):∀(is:List Nat) (xs:List (Str×Pos)),oJ S.N S.sc is (xs.map (·.1))=true->
  nY X (xs.map fun y=>.Name y.1 y.2) (lB is)/\(assignEach (xs.map fun y=>Expr.Name y.1 y.2) X.env).length=is.length/\(assignEach (xs.map fun y=>Expr.Name y.1 y.2) X.env).findIdx? (·.1)=none
 |[],xs,h=>by
  simp only[oJ,List.isEmpty_iff,List.map_eq_nil_iff] at h
  subst h;exact⟨yp,rfl,rfl⟩
 |i::r,[],h=>by simp only[zaM,oJ] at h;cases h
 |i::r,y::t,h=>by
  simp only[zal,oJ,zad] at h
  obtain⟨i1,i2,i3⟩:=zR G r t h.2;refine⟨rQ (G.name (by simp only[kL,zad];exact h.1)) i1 rfl,?_,?_⟩
  ·show(assignEach _ X.env).length+1=r.length+1;rw[i2]
  ·show List.findIdx? (·.1) ((false,assign (.Name y.1 y.2) X.env)::assignEach _ X.env)=none;rw[List.findIdx?_cons,i3];rfl
theorem wa{is:List Nat}{k:IK}{aq:List RE}{iter:Expr}{as:List Stmt}{kt}{tp:Pos}(xs:List (Str×Pos))(G:cJ CX S Γ X)(hi:PI X (.Tuple (xs.map fun y=>.Name y.1 y.2) kt tp) iter (iE Γ k aq))(ha:cT X as (aA Γ t))(h:oJ S.N S.sc is (xs.map (·.1))=true:=by kernel_rfl)(hs:qC iter=true:=by kernel_rfl)(hq:S.md=0:=by rfl):
  PS X (.For (.Tuple (xs.map fun y=>.Name y.1 y.2) kt tp) iter as [] q) (bg Γ<|.qz is k aq t):=by
 obtain⟨i1,i2,i3⟩:=zR G is xs h;show PS X _ (rS (iE Γ k aq) (mQ Γ.K is.length<|lB is)<|aA Γ t);rw[<-G.K];exact yr G.own (G.calm hq) hi (FP (G.calm hq) i1 i2 i3) ha<|qJ hs
def Um:Expr->Bool
 |.Tuple ..=>false|_=>true
theorem tH{is:List Nat}{kt}{tp:Pos}(xs:List (Str×Pos))(G:cJ CX S Γ X)(he:PE X v (ag Γ r))(h:oJ S.N S.sc is (xs.map (·.1))=true:=by kernel_rfl)(hc:(tE v && Um v)=true:=by kernel_rfl)(hq:S.md=0:=by rfl):
  PS X (.Assign [.Tuple (xs.map fun y=>.Name y.1 y.2) kt tp] v q) (bg Γ<|.mI is r):=by
 simp only[zad] at hc
 obtain⟨i1,i2,i3⟩:=zR G is xs h;show PS X _ (iz (ag Γ r)<|mQ Γ.K is.length<|lB is);rw[<-G.K];refine DI he (FP (G.calm hq) i1 i2 i3) (by show swapsWith v (some<|.Tuple (xs.map fun y=>Expr.Name y.1 y.2) kt tp) q.line X.env=pure false;exact v9 hc.1) ?_ rfl
 have h2:=hc.2;cases v<;>first|rfl|cases h2
def kX(S:cg)(j:Nat)(x:Str):Bool:=decide (S.en[j]?=some x) && k9 S.sc x && !(x==("__debug__":Str))
theorem jj{rs:List RE}{np dw:Pos}(G:cJ CX S Γ X)(hA:PA X (e::es) (aM Γ (r::rs)))(h:kX S j x=true:=by kernel_rfl)(hn:eG (e::es)=true:=by kernel_rfl)(hq:S.md=0:=by rfl):PS X (.Raise (some<|.Call (.Name x np) (e::es) [] dw) none pos) (bg Γ<|.g8 j (r::rs)):=by
 simp only[kX,zad,decide_eq_true_eq,zaJ] at h
 obtain⟨bm,B,newId,qE,O,FB⟩:=G.dh j x h.1.1;exact Se (G.calm hq) O FB (G.gl h.1.2) h.2 hA (dE (cM hn).1) (hJ _ _ es (cM hn).2)<|G.rs j x h.1.1
abbrev tS(S:cg):cg:={S with en:=[]}
abbrev hS(S:cg):cg:={S with en:=[],md:=2}
theorem cJ.Uo(G:cJ CX S Γ X)(pn:List (Addr×Obj))(xe:Value->Shared->Prop)(E:XK)(ho:PassesOwn (model X.prog X.w) X.A X.env xe)(hp:Passes (d9 X.prog X.w) (X.alt X.A X.calm pn xe) E):
  cJ CX (tS S) {Γ with E:=E} (X.alt X.A X.calm pn xe):=
 {N:=G.N,sc:=G.sc,K:=G.K,calm:=G.calm,units:=G.units,gd:=G.gd,fns:=G.fns,jV:=G.jV,d0:=G.d0,pass:=by rw[G.oM];exact hp,jW:=G.jW,lq:=G.lq,lr:=G.lr,mO:=G.mO,
  dh:=fun _ _ h=>(by simp at h),lu:=G.lu,mP:=G.mP,oH:=G.oH,nd:=G.nd,jY:=G.jY,own:=ho,mU:=G.mU,rs:=fun _ _ h=>(by simp at h),iw:=G.iw,fQ:=G.fQ,oK:=G.oK,oM:=G.oM}
theorem cJ.held(G:cJ CX S Γ X)(ea:Addr)(pn:List (Addr×Obj)):
  cJ CX (hS S) {Γ with E:=E0,hv:=some ea} (X.alt (X.A.mark<|some<|.ref ea) false pn fun _ _=>False):=
 {N:=G.N,sc:=G.sc,K:=G.K,calm:=fun h=>(nomatch h),units:=G.units,gd:=G.gd,fns:=fun h=>(nomatch h),jV:=G.jV,d0:=G.d0,pass:=fun _ _ _ _ _ _ _ h=>(G.jW _ _ _ _ _ h).elim,jW:=G.jW,lq:=G.lq,lr:=fun h=>(nomatch h),mO:=fun h=>(nomatch h),
  dh:=fun _ _ h=>(by simp at h),lu:=fun j x h=>(by
   obtain⟨k,f,fd,ps,F,r,m⟩:=G.lu j x h;exact⟨k,f,fd,ps,F,r.mark _,m⟩),
  mP:=fun e h=>(by cases h;rfl),oH:=fun h=>(nomatch h),nd:=G.nd,jY:=G.jY,own:=PassesOwn.never,mU:=G.mU,rs:=fun _ _ h=>(by simp at h),iw:=G.iw,fQ:=G.fQ,oK:=G.oK,oM:=G.oM}
theorem Up{n:Nat}{y:Str}{np vS:Pos}{body su:List Stmt}{b₀:Stmt}{rb tI:List RS}(G:cJ CX S Γ X)(h:kG S j x=true)(hn:(decide (S.N.length=n) && decide (S.N[i]?=some y) && decide (S.sc.names.lookup y=some .local))=true)
  (hb:∀{Γ:aJ}{X:Cx},cJ CX (tS S) Γ X->cT X body (aA Γ rb)) (hs:∀{Γ:aJ}{X:Cx},cJ CX (hS S) Γ X->cT X (b₀::su) (aA Γ tI)):
  PS X (.Try body [.ExceptHandler (some<|.Name x np) (some y) (b₀::su) vS] [] [] pos) (bg Γ<|.zl n i j rb tI):=by
 simp only[kG,zad,decide_eq_true_eq,zaJ] at h hn
 obtain⟨u,hm,hu⟩:=G.jV j x h.1.1;intro pins s σ H D I q;obtain⟨C,e,q⟩:=(show ∃C,Γ.gv j=.ref C/\vJ Γ.K C i n (fun E=>aA {Γ with E:=E} rb) (fun ea=>aA {Γ with E:=E0,hv:=some ea} tI) D σ H from q)
 rw[e] at hu;have Uq:u=.ref C:=hu;subst Uq;have hl:X.N.length=n:=by rw[G.N];exact hn.1.1
 have q':vJ X.K C i X.N.length (fun E=>aA {Γ with E:=E} rb) (fun ea=>aA {Γ with E:=E0,hv:=some ea} tI) D σ H:=by rw[G.K,hl];exact q
 exact Sh (tb:=fun E=>aA {Γ with E:=E} rb) (th:=fun ea=>aA {Γ with E:=E0,hv:=some ea} tI) G.iw G.fQ G.oK (G.gl h.1.2) h.2 hm (by rw[G.N];exact G.nd) (by rw[G.N];exact hn.1.2) (by rw[G.sc];exact hn.2)
  (fun pn xe E ho hp=>hb<|G.Uo pn xe E ho hp) (fun ea pn=>hs<|G.held ea pn) pins s σ H D I q'
end
section
variable {P:Program}{w:World}{K:Frag}{mg:Str->Option Value}{base:Heap}
def fW(P:Program)(w:World)(K:Frag)(mg:Str->Option Value)(base:Heap)(k:Nat)(x:Str)(sp:Sp):Prop:=
 ∃f fd ps,cw P w K mg base (d9 P w) k f fd ps sp/\mg x=some (.ref f)/\PySem.W.keepIn K (.ref f)=true/\Binds K fd ps []
theorem fW.mono{j k:Nat}{x:Str}{sp:Sp}(h:fW P w K mg base j x sp)(hk:j<=k):fW P w K mg base k x sp:=by
 obtain⟨f,fd,ps,F,r⟩:=h;exact⟨f,fd,ps,F.mono hk,r⟩
def mY(tab:List (Str×Sp))(j:Nat):Sp:=match tab[j]? with
 |some p=>p.2
 |none=>fun _ _ _ _=>False
def oP(tab:List (Str×V))(j:Nat):V:=match tab[j]? with
 |some p=>p.2
 |none=>.aD
structure tJ (mg:Str->Option Value) (p:Str×V):Prop where
 ex:∃u,mg p.1=some u/\RelV p.2 u
def j3(tab:List (Str×Addr×Sp))(j:Nat):Addr×Sp:=match tab[j]? with
 |some p=>p.2
 |none=>(0,fun _ _ _ _=>False)
def wb(tab:List (Str×Addr))(j:Nat):Addr:=match tab[j]? with
 |some p=>p.2
 |none=>0
abbrev aH(K:Frag)(tab:List (Str×Sp))(gt:List (Str×V))(dk:List (Addr×List (Key×V)):=[])(mt kt:List (Str×Addr×Sp):=[])(et:List (Str×Addr):=[])(ht:List (Str×Sp):=[])(E:XK:=E0):aJ:=
 {K:=K,fs:=mY tab,gv:=oP gt,E:=E,sd:=fun p kvs=>(p,kvs)∈dk,ms:=j3 mt,kt:=j3 kt,ex:=wb et,hs:=mY ht,hv:=none}
def fX(P:Program)(w:World)(K:Frag)(mg:Str->Option Value)(base:Heap)(k:Nat)(p:Str×Addr×Sp):Prop:=
 fh K p.2.1/\∃f fd ps,Meth K p.2.1 p.1 f/\cw P w K mg base (d9 P w) k f fd ps p.2.2/\Binds K fd ps []
def fY(P:Program)(w:World)(K:Frag)(mg:Str->Option Value)(base:Heap)(k:Nat)(p:Str×Addr×Sp):Prop:=
 ∃j f fd ps,j+1<=k/\Mk K p.2.1 f/\cw P w K mg base (d9 P w) j f fd ps p.2.2/\mg p.1=some (.ref p.2.1)/\Binds K fd ps []
theorem fX.mono{j k:Nat}{p:Str×Addr×Sp}(h:fX P w K mg base j p)(hk:j<=k):fX P w K mg base k p:=by
 obtain⟨c,f,fd,ps,m,F,b⟩:=h;exact⟨c,f,fd,ps,m,F.mono hk,b⟩
theorem fY.mono{j k:Nat}{p:Str×Addr×Sp}(h:fY P w K mg base j p)(hk:j<=k):fY P w K mg base k p:=by
 obtain⟨i,f,fd,ps,m,r⟩:=h;exact⟨i,f,fd,ps,zar m hk,r⟩
def FY(P:Program)(w:World)(K:Frag)(q:Addr×List (Key×V)):Prop:= ∀h:Heap,K.In h->∃vs,KV q.2 vs/\h.DictOf (cI P w) q.1 vs
abbrev qN(N:List Str)(sc:Scope)(tab:List Str)(gt:List Str)(bl:List Str)(mn kn:List Str:=[])(en hn:List Str:=[])(md:Nat:=0):cg:={N:=N,sc:=sc,fn:=tab,gn:=gt,bl:=bl,mn:=mn,kn:=kn,en:=en,hn:=hn,md:=md}
def wc(mg:Str->Option Value)(base:Heap)(p:Str×Addr):Prop:= ∃bm B newId qE,OwnCls p.1 p.2 bm newId mg base/\ExcBaseFacts B newId qE bm
def mZ(P:Program)(w:World)(K:Frag)(mg:Str->Option Value)(base:Heap)(k:Nat)(x:Str)(sp:Sp):Prop:=
 ∃f fd ps,oG P w K mg base k f fd ps sp/\mg x=some (.ref f)/\PySem.W.keepIn K (.ref f)=true/\Binds K fd ps []
theorem mZ.mono{P:Program}{w:World}{K:Frag}{mg:Str->Option Value}{base:Heap}{j k:Nat}{x:Str}{sp:Sp}(h:mZ P w K mg base j x sp)(hk:j<=k):mZ P w K mg base k x sp:=by
 obtain⟨f,fd,ps,F,r⟩:=h;exact⟨f,fd,ps,F.mono hk,r⟩
theorem Ur{x qual:Str}{st:Stmt}{f:Addr}{fd:FuncData}{N ps:List Str}{k:Nat}{sp:Sp}(F:my K x qual st f fd)(S:mm N ps (dD st))
  (tab:List (Str×Sp)) (gt:List (Str×V)) (bl:List Str) (mt kt:List (Str×Addr×Sp)) (et:List (Str×Addr)) (ht:List (Str×Sp)) (body:List RS)
  (hm:∀{CX:bK}{Γ:aJ}{X:Cx},cJ CX (qN N (dD st) (tab.map (·.1)) (gt.map (·.1)) bl (mt.map (·.1)) (kt.map (·.1)) (et.map (·.1)) (ht.map (·.1))) Γ X->cT X (dm st) (aA Γ body))
  (zS:∀p∈tab,fW P w K mg base k p.1 p.2) (oQ:∀p∈gt,tJ mg p) (oR:∀y∈bl,mg y=none) (dk:List (Addr×List (Key×V))) (zT:∀q∈dk,FY P w K q)
  (zU:∀p∈mt,fX P w K mg base k p) (zV:∀p∈kt,fY P w K mg base k p) (het:∀p∈et,wc mg base p) (zW:∀p∈ht,mZ P w K mg base k p.1 p.2)
  (len:∀vs H Q E,sp vs H Q E->vs.length=ps.length)
  (oS:∀vs H Q E,sp vs H Q E->aA (aH K tab gt dk mt kt et ht E) body {nx:=fun _ H'=>Q .aD H',rt:=Q} (start N vs) H):cw P w K mg base (d9 P w) (k+1) f fd ps sp:=by
 obtain⟨oc,od,kV,doc,pm,an,aT,ct,fK,rfl,lk,gK⟩:=F.ex;refine OF lk gK S len fun A outer s H vs Q E hr gZ=>⟨_,hm (CX:=d9 P w) (Γ:=aH K tab gt dk mt kt et ht E) ?_,oS vs H Q E gZ⟩;refine {N:=rfl,sc:=rfl,K:=rfl,calm:=fun _=>rfl,units:=hr.units,gd:=hr.gd,fns:=fun _ j y hj=>?_,jV:=fun j y hj=>?_,d0:=fun y hy=>?_,pass:=Sa,jW:=fun _ _ _ _ _ h=>vQ h,lq:=fun p kvs h=>zT _ h,lr:=fun _ j y hj=>?_,mO:=fun _ j y hj=>?_,dh:=fun j y hj=>?_,lu:=fun j y hj=>?_,mP:=fun _ h=>(nomatch h),oH:=fun h=>(nomatch h),nd:=S.nd,jY:=fun _=>rfl,own:=PassesOwn.leaving,mU:=S.kind,rs:=fun _ _ _=>Sb,iw:=rfl,fQ:=rfl,oK:=rfl,oM:=rfl}
 ·have bJ:(tab.map (·.1))[j]?=some y:=hj;rw[zai] at bJ;cases q:tab[j]? with
  |none=>rw[q] at bJ;cases bJ
  |some p=>
   rw[q] at bJ;have e:p.1=y:=zak bJ;obtain⟨f',jk,oT,F',m',k',b'⟩:=zS p (zav q);have es:mY tab j=p.2:=by unfold mY;rw[q]
   show Fz (d9 P w) _ y (mY tab j);rw[es,<-e];exact⟨k,f',jk,oT,F',hr,m',k',b'⟩
 ·have bJ:(gt.map (·.1))[j]?=some y:=hj;rw[zai] at bJ;cases q:gt[j]? with
  |none=>rw[q] at bJ;cases bJ
  |some p=>
   rw[q] at bJ;have e:p.1=y:=zak bJ;obtain⟨u,h1,h2⟩:=(oQ p<|zav q).ex;have es:oP gt j=p.2:=by unfold oP;rw[q]
   show ∃u,mg y=some u/\RelV (oP gt j) u;rw[es,<-e];exact⟨u,h1,h2⟩
 ·exact oR y (by simpa using hy)
 ·have bJ:(mt.map (·.1))[j]?=some y:=hj;rw[zai] at bJ;cases q:mt[j]? with
  |none=>rw[q] at bJ;cases bJ
  |some p=>
   rw[q] at bJ;have e:p.1=y:=zak bJ;obtain⟨c,f',jk,oT,m',F',b'⟩:=zU p (zav q);have es:j3 mt j=p.2:=by unfold j3;rw[q]
   show vV (d9 P w) _ (j3 mt j).1 y (j3 mt j).2;rw[es,<-e];exact⟨c,k,f',jk,oT,m',F',hr,b'⟩
 ·have bJ:(kt.map (·.1))[j]?=some y:=hj;rw[zai] at bJ;cases q:kt[j]? with
  |none=>rw[q] at bJ;cases bJ
  |some p=>
   rw[q] at bJ;have e:p.1=y:=zak bJ;obtain⟨i,f',jk,oT,hi,m',F',g',b'⟩:=zV p (zav q);have es:j3 kt j=p.2:=by unfold j3;rw[q]
   show FA (d9 P w) _ y (j3 kt j).1 (j3 kt j).2;rw[es,<-e];exact⟨i,f',jk,oT,m',F',hr.mono hi,g',b'⟩
 ·have bJ:(et.map (·.1))[j]?=some y:=hj;rw[zai] at bJ;cases q:et[j]? with
  |none=>rw[q] at bJ;cases bJ
  |some p=>
   rw[q] at bJ;have e:p.1=y:=zak bJ;have es:wb et j=p.2:=by unfold wb;rw[q]
   show FD _ y (wb et j);rw[es,<-e];exact het p<|zav q
 ·have bJ:(ht.map (·.1))[j]?=some y:=hj;rw[zai] at bJ;cases q:ht[j]? with
  |none=>rw[q] at bJ;cases bJ
  |some p=>
   rw[q] at bJ;have e:p.1=y:=zak bJ;obtain⟨f',jk,oT,F',m',k',b'⟩:=zW p (zav q);have es:mY ht j=p.2:=by unfold mY;rw[q]
   show FC _ y (mY ht j);rw[es,<-e];exact⟨k,f',jk,oT,F',hr.h,m',k',b'⟩
end
section
variable {P:Program}{w:World}{K:Frag}{mg:Str->Option Value}{base:Heap}{x qual:Str}{st:Stmt}{f:Addr}{fd:FuncData}{N ps:List Str}{k:Nat}{sp:Sp}
theorem Us(F:my K x qual st f fd)(S:mm N ps (dD st))(kU:mg x=some (.ref f))(hb:Binds K fd ps [])
  (gt:List (Str×V)) (bl:List Str) (body:List RS)
  (hm:∀{CX:bK}{Γ:aJ}{X:Cx},cJ CX (qN N (dD st) [] (gt.map (·.1)) bl (md:=1)) Γ X->cT X (dm st) (aA Γ body))
  (oQ:∀p∈gt,tJ mg p) (oR:∀y∈bl,mg y=none) (len:∀vs H Q E,sp vs H Q E->vs.length=ps.length)
  (oS:∀vs H Q,sp vs H Q E0->aA (aH K [] gt) body {nx:=fun _ H'=>Q .aD H',rt:=Q} (start N vs) H):mZ P w K mg base (k+1) x sp:=by
 obtain⟨oc,od,kV,doc,pm,an,aT,ct,fK,rfl,lk,gK⟩:=F.ex;refine⟨f,_,ps,SR (CX:=d9 P w) lk gK S len fun A outer s H vs Q hr hh gZ=>⟨_,hm (CX:=d9 P w) (Γ:=aH K [] gt) ?_,oS vs H Q gZ⟩,kU,F.kp,hb⟩;refine {N:=rfl,sc:=rfl,K:=rfl,calm:=fun h=>(nomatch h),units:=hr.units,gd:=hr.gd,fns:=fun h=>(nomatch h),jV:=fun j y hj=>?_,d0:=fun y hy=>?_,pass:=fun _ _ _ _ _ _ _ h=>(vQ h).elim,jW:=fun _ _ _ _ _ h=>vQ h,lq:=fun p kvs h=>(nomatch h),lr:=fun h=>(nomatch h),mO:=fun h=>(nomatch h),dh:=fun j y hj=>(nomatch hj),lu:=fun j y hj=>(nomatch hj),mP:=fun _ h=>(nomatch h),oH:=fun _=>SU hh,nd:=S.nd,jY:=fun _=>rfl,own:=PassesOwn.never,mU:=S.kind,rs:=fun _ _ hj=>(nomatch hj),iw:=rfl,fQ:=rfl,oK:=rfl,oM:=rfl}
 ·have bJ:(gt.map (·.1))[j]?=some y:=hj;rw[zai] at bJ;cases q:gt[j]? with
  |none=>rw[q] at bJ;cases bJ
  |some p=>
   rw[q] at bJ;have e:p.1=y:=zak bJ;obtain⟨u,h1,h2⟩:=(oQ p<|zav q).ex;have es:oP gt j=p.2:=by unfold oP;rw[q]
   show ∃u,mg y=some u/\RelV (oP gt j) u;rw[es,<-e];exact⟨u,h1,h2⟩
 ·exact oR y (by simpa using hy)
theorem cw.top{k:Nat}(F:cw P w K mg base (d9 P w) k f fd ps sp):cw P w K mg base si k f fd ps (fun vs H Q _=>sp vs H Q E0):=
 ⟨fun vs H Q E h=>F.len vs H Q E0 h,fun A outer s H args us vs Q E hr e0 hb hv hs=>codeAny_mono (F.run A outer s H args us vs Q E0 hr e0 hb hv hs) fun r s' h=>by
  cases r with
  |error e=>exact(vQ h).elim
  |ok fl=>cases fl<;>exact h⟩
end
section
variable {Γ:aJ}{D:Ends}{σ:St}{H:Hp}{r:List RS}{Q:VK}
theorem Ut{i:Nat}{e:RE}(h:ag Γ e σ H fun x H1=>aA Γ r D (σ.set i<|some x) H1):aA Γ (.asg i e::r) D σ H:=h
theorem Uu{i:Nat}{e:RE}(h:ag Γ e σ H fun x H1=>aA Γ r D (σ.set i<|some x) H1):aA Γ (.jS i e::r) D σ H:=h
theorem Uv{c:RE}{t e:List RS}(h:aU Γ c σ H fun b H1=>if b=true then aA Γ t {D with nx:=aA Γ r D} σ H1 else aA Γ e {D with nx:=aA Γ r D} σ H1):aA Γ (.ite c t e::r) D σ H:=h
end
end L2
variable {H H' H2:L2.Hp}{σ:L2.St}{Γ:L2.aJ}{a o e:L2.RE}{v:L2.V}{Q:L2.VK}{xs:List L2.V}{i j n:Nat}{ln ll C:PySem.Addr}{D:L2.Ends}{y:PySem.Str}
namespace L2.B
open PySem PySem.Spec PyProof.Rows
def iL:List Str:=["thing"]
noncomputable def FZ:List RS:=
 [.ret<|.and [(.eF .int<|.v 0),(.not<|.eF .bool<|.v 0)]]
def af:List Str:=[]
def F0:List Str:=["isinstance","int","bool"]
def zX:List Str:=["thing","words"]
noncomputable def zY:List RS:=
 [.ret<|.and [(.eF .str<|.v 0),(.cmp .In (.v 0)<|.v 1)]]
def F1:List Str:=["isinstance","str"]
noncomputable def zZ:List RS:=
 [.ret<|.and [(.eF .str<|.v 0),(.cmp .Eq (.dn .lstrip (.v 0) [.g 0])<|.c<|.str "")]]
def Uw:List Str:=["SIGNS"]
noncomputable def we:List RS:=
 [.ite (.or [(.not (.eF .tuple (.v 0))),(.cmp .NotEq (.blt .len [.v 0]) (.c (.int 2)))]) [.ret (.c (.bl false))] [],
 .ite (.call 0 [(.ix (.v 0)<|.c<|.int 0),(.tup [(.c<|.str "keep")])]) [.ret<|.and [(.call 1 [(.ix (.v 0)<|.c<|.int 1)]),(.cmp .GtE (.ix (.v 0)<|.c<|.int 1)<|.c<|.int 1)]] [],
 .ret (.and [(.call 0 [(.ix (.v 0) (.c (.int 0))),(.tup [(.c (.str "cut")),(.c (.str "put"))])]),(.call 2 [(.ix (.v 0) (.c (.int 1)))]),(.cmp .NotEq (.ix (.v 0) (.c (.int 1))) (.c (.str "")))])]
def Ux:List Str:=["is_word","is_whole","is_text"]
def Uy:List Str:=["isinstance","tuple","len"]
def F2:List Str:=["word","ahead"]
noncomputable def F3:List RS:=
 [.ret<|.and [(.cmp .NotEq (.v 0)<|.v 1),(.not<|.and [(.cmp .Eq (.v 1)<|.c<|.str "cut"),(.cmp .Eq (.v 0)<|.c<|.str "put")])]]
def z5:List Str:=["change","ahead","part"]
noncomputable def z6:List RS:=
 [.ite (.not (.eF .list (.v 0))) [.g8 0 [(.c (.str "a change is a list"))]] [],
 .asg 1 (.c<|.str ""),
 .gQ 2 .list [.v 0] [.ite (.not (.call 0 [.v 2])) [.g8 0 [(.c (.str "a part is a keep of 1 sign or more, or a cut or put of a text that is not empty"))]] [],
  .ite (.not<|.call 1 [(.ix (.v 2)<|.c<|.int 0),.v 1]) [.g8 0 [(.c<|.str "neighbours have two words, and no put stands right behind a cut")]] [],
  .asg 1 (.ix (.v 2) (.c (.int 0)))]]
def Uz:List Str:=["is_part","may_follow"]
def UA:List Str:=["isinstance","list"]
def UB:List Str:=["BadChange"]
def F4:List Str:=["_law_script","_law_k"]
noncomputable def F5:List RS:=
 [.ite (.cmp .Lt (.v 1) (.blt .len [.v 0])) [.ret (.ix (.v 0) (.v 1))] [],
 .ret (.c (.int 0))]
def tK:List Str:=["len"]
def F6:List Str:=["_law_cell","_law_k","_law_number"]
noncomputable def F7:List RS:=
 [.asg 2 (.bin .Mod (.bin .Add (.bin .Add (.bin .Mult (.v 0) (.c (.int 48271))) (.bin .Mult (.c (.int 7919)) (.v 1))) (.c (.int 11))) (.c (.int 1000003))),
 .ret (.bin .Mod (.bin .Mult (.bin .Mod (.bin .Mult (.v 2) (.v 2)) (.c (.int 1000003))) (.v 2)) (.c (.int 1000003)))]
def F8:List Str:=["_law_cell","_law_size_here","_law_some"]
noncomputable def F9:List RS:=
 [.asg 2 (.c (.str " !\"#$&'()*+,-./0123456789:;<=>?@ABCDEFGHIJKLMNOPQRSTUVWXYZ[\\]^_`")),
 .asg 2 (.bin .Add (.v 2)<|.c<|.str "abcdefghijklmnopqrstuvwxyz{|}~\n"),
 .ite (.cmp .Eq (.bin .Mod (.v 0)<|.c<|.int 3)<|.c<|.int 0) [.asg 2<|.c<|.str "ab\n"] [],
 .ret (.dn .join (.c (.str "")) [(.comp none [("_law_some",2),("_law_cell",0)] .fG [.v 1] none (.ix (.v 1) (.bin .Mod (.bin .FloorDiv (.call 0 [.v 2,.v 0]) (.c (.int 7))) (.blt .len [.v 1]))))])]
def m7:List Str:=["_law_mixed"]
def F_:List Str:=["range","len"]
def Ga:List Str:=["_law_cell"]
noncomputable def Gb:List RS:=
 [.ite (.cmp .Eq (.bin .Mod (.v 0) (.c (.int 8))) (.c (.int 1))) [.ret (.bin .Mod (.bin .FloorDiv (.v 0) (.c (.int 8))) (.c (.int 401)))] [],
 .ret (.bin .Mod (.bin .FloorDiv (.v 0) (.c (.int 8))) (.c (.int 25)))]
def z7:List Str:=["_law_cell","_law_text_here","_law_many","_law_parts_here","_law_at","_law_k","_law_number","_law_size_here","_law_left"]
noncomputable def Gd:List RS:=
 [.asg 3 (.lst []),
 .asg 4 (.c<|.int 0),
 .gQ 5 .fG [.v 2] [.asg 6 (.call 0 [.v 0,(.bin .Add (.c (.int 50)) (.v 5))]),
  .asg 7 (.ix (.lst [(.c<|.int 1),(.c<|.int 2),(.c<|.int 0),(.c<|.int 3),(.c<|.int 5),(.c<|.int 40)])<|.bin .Mod (.bin .FloorDiv (.v 6)<|.c<|.int 4)<|.c<|.int 6),
  .asg 8 (.blt .min [.v 7,(.bin .Sub (.blt .len [.v 1])<|.v 4)]),
  .ite (.cmp .Eq (.bin .Mod (.v 6)<|.c<|.int 4)<|.c<|.int 3) [.drop<|.dn .append (.v 3) [(.tup [(.c<|.str "put"),(.call 1 [.v 6,.v 7])])]] [.ite (.cmp .Eq (.bin .Mod (.v 6)<|.c<|.int 4)<|.c<|.int 2) [.drop<|.dn .append (.v 3) [(.tup [(.c<|.str "cut"),(.sl (.v 1) (some<|.v 4)<|some<|.bin .Add (.v 4)<|.v 8)])]] [.drop<|.dn .append (.v 3) [(.tup [(.c<|.str "keep"),.v 8])]]],
  .ite (.cmp .Lt (.bin .Mod (.v 6) (.c (.int 4))) (.c (.int 3))) [.asg 4 (.bin .Add (.v 4) (.v 8))] []],
 .ret (.bin .Add (.v 3) (.lst [(.tup [(.c (.str "keep")),(.bin .Sub (.blt .len [.v 1]) (.v 4))])]))]
def UC:List Str:=["_law_mixed","_law_text"]
def UD:List Str:=["range","min","len"]
def z8:List Str:=["_law_parts_here","_law_rows","_law_word","_law_thing","_law_found","_law_put","_law_cut","_law_keep","_law_some"]
noncomputable def Ge:List RS:=
 [.asg 1 (.lst [(.lst [(.c (.str "")),(.c (.str "")),(.c (.int 0))])]),
 .qz [2,3] .list [.v 0] [.ite (.cmp .Eq (.v 2) (.c (.str "keep"))) [.set (.ix (.v 1) (.neg (.c (.int 1)))) (.c (.int 2)) (.bin .Add (.ix (.ix (.v 1) (.neg (.c (.int 1)))) (.c (.int 2))) (.v 3))] [.ite (.cmp .NotEq (.v 3) (.c (.str ""))) [.ite (.cmp .Gt (.ix (.ix (.v 1) (.neg (.c (.int 1)))) (.c (.int 2))) (.c (.int 0))) [.drop (.dn .append (.v 1) [(.lst [(.c (.str "")),(.c (.str "")),(.c (.int 0))])])] [],
    .set (.ix (.v 1) (.neg (.c (.int 1)))) (.blt .int [(.cmp .Eq (.v 2) (.c (.str "cut")))]) (.bin .Add (.ix (.ix (.v 1) (.neg (.c (.int 1)))) (.blt .int [(.cmp .Eq (.v 2) (.c (.str "cut")))])) (.v 3))] []]],
 .asg 4 (.lst []),
 .qz [5,6,7] .list [.v 1] [.asg 8 (.lst [(.tup [(.c (.str "put")),.v 5]),(.tup [(.c (.str "cut")),.v 6]),(.tup [(.c (.str "keep")),.v 7])]),
  .asg 4 (.bin .Add (.v 4) (.comp none [] .list [.v 8] (some (.and [(.cmp .NotEq (.ix (.v 0) (.c (.int 1))) (.c (.str ""))),(.cmp .NotEq (.ix (.v 0) (.c (.int 1))) (.c (.int 0)))])) (.v 0)))],
 .ret (.v 4)]
def UE:List Str:=["int"]
def Gf:List Str:=["_law_cell","_law_text_here","_law_many"]
noncomputable def Gg:List RS:=
 [.ret<|.call 0 [(.call 1 [.v 0,.v 1,.v 2])]]
def UG:List Str:=["_law_neat","_law_parts"]
def z9:List Str:=["_law_text_here","_law_change_here","_law_found_here","_law_at","_law_word_here","_law_thing"]
noncomputable def Gh:List RS:=
 [.asg 2 (.c (.str "")),
 .asg 3 (.c<|.int 0),
 .qz [4,5] .list [.v 1] [.ite (.cmp .Eq (.v 4) (.c (.str "put"))) [.asg 2 (.bin .Add (.v 2) (.v 5))] [.ite (.cmp .Eq (.v 4) (.c (.str "cut"))) [.asg 3 (.bin .Add (.v 3) (.blt .len [.v 5]))] [.asg 2 (.bin .Add (.v 2) (.sl (.v 0) (some (.v 3)) (some (.bin .Add (.v 3) (.v 5))))),
    .asg 3 (.bin .Add (.v 3) (.v 5))]]],
 .ret (.v 2)]
def jl:List Str:=["_law_e","_law_some","_law_found_here"]
noncomputable def eh:List RS:=
 [.asg 1 (.lst [(.tup [(.c (.str "text")),(.cY (.v 0) (.g 0))]),(.tup [(.c (.str "change")),(.cY (.v 0) (.g 1))]),(.tup [(.c (.str "fit")),(.cY (.v 0) (.g 2))])]),
 .asg 1 (.bin .Add (.v 1)<|.lst [(.tup [(.c<|.str "place"),(.cY (.v 0)<|.g 3)]),(.tup [(.c<|.str "side"),(.cY (.v 0)<|.g 4)]),(.tup [(.c<|.str "mark"),(.cY (.v 0)<|.g 5)])]),
 .asg 1 (.bin .Add (.v 1)<|.lst [(.tup [(.c<|.str "node"),(.cY (.v 0)<|.g 6)]),(.tup [(.c<|.str "cursor"),(.cY (.v 0)<|.g 7)])]),
 .asg 1 (.bin .Add (.v 1)<|.lst [(.tup [(.c<|.str "deed"),(.cY (.v 0)<|.g 8)]),(.tup [(.c<|.str "letter"),(.cY (.v 0)<|.g 9)])]),
 .asg 1 (.bin .Add (.v 1)<|.lst [(.tup [(.c<|.str "gone"),(.cY (.v 0)<|.g 10)]),(.tup [(.c<|.str "hand"),(.cY (.v 0)<|.g 11)]),(.tup [(.c<|.str "note"),(.cY (.v 0)<|.g 12)])]),
 .jS 2 (.comp (some 2) [] .list [.v 1] (some<|.v 1)<|.v 0),
 .ite (.or [(.not<|.cY (.v 0)<|.g 13),(.not<|.cY (.v 0)<|.c<|.ty "ValueError")]) [.drop<|.dn .append (.v 2) [(.c<|.str "bare")]] [],
 .ret (.dn .join (.c (.str "/")) [.v 2])]
def lF:List Str:=["BadText","BadChange","BadFit","NoPlace","BadSide","NoMark","NoNode","NoCursor","BadDeed","BadLetter","NoLetter","NoHand","NoNote","InkError"]
def lG:List Str:=["isinstance","ValueError"]
def Gi:List Str:=["thing","least","most"]
noncomputable def Gj:List RS:=
 [.ret<|.and [(.call 0 [.v 0]),(.je .LtE .LtE (.v 1) (.v 0)<|.v 2)]]
def z_:List Str:=["is_whole"]
def Aa:List Str:=["_law_found_here"]
noncomputable def Gk:List RS:=
 [.ret<|.and [(.eF .int<|.v 0),(.not<|.eF .bool<|.v 0)]]
end L2.B
namespace L2
open PySem PySem.Spec PyProof.Rows
section
variable {X:Cx}
def Ab(K:Frag):List V->Hp->VK->Prop:=fun xs H Q=>∃(p:Addr) (bs:List Bool),xs=[.ref p]/\ay K H p (bs.map V.bl)/\Q (.bl<|bs.all id) H
theorem Gm:∀{bs:List Bool}{us:List Value},Vals (bs.map V.bl) us->us=bs.map Value.bool
 |[],_,.nil=>rfl
 |b::r,_,.cons e t=>by
  have e':_=Value.bool b:=e;rw[zal,<-Gm t,e']
theorem all_range(bs:List Bool):((List.range bs.length).all fun i=>(bs[i]?).getD true)=bs.all id:=by
 rw[zbn,zaY,zaY]
 constructor
 ·intro h b hb;obtain⟨i,hi,rfl⟩:=zbH hb;have:=h i (zbk.mpr hi)
  simpa[hi] using this
 ·intro h i hi;have hi:=zbk.mp hi;have:=h _ (zaF hi)
  simpa[hi] using this
theorem UH(hc:X.calm=true):cv X (.builtin "all") (Ab X.K):=by
 intro pins s σ H xs us Q I r h;obtain⟨p,bs,rfl,hq,q⟩:=h;obtain⟨u,rfl,ru⟩:=vals1 r;cases ru;obtain⟨aq,rv,pl,hz⟩:=I.list hq;have e:=Gm rv;subst e;have aG: @LT.lt Nat _ p s.heap.objs.size:=by obtain⟨_,e,_⟩:=pl.isList;exact Heap.lt_size e
 refine call_all_walk<|wpAny_pyIter_list pl.isList ?_;refine⟨s.heap.objs.size,[s.heap.objs.size,p],[s.heap.objs.size],(bs.map Value.bool).toArray.size,_,_,fun i=>(bs[i]?).getD true,rfl,
  Walks.list (A:=X.A.in1) (I.ok.hd hc) _ p (zae aG) _,⟨⟨_,Heap.get?_push_size _ rfl,rfl,rfl⟩,pl.isList.push _⟩,fun i v s' Q' E' hP hQ=>?_,fun h' tk hk=>?_⟩
 ·have tL:(bs.map Value.bool)[i]?=some v:=by simpa using hP
  rw[zai] at tL;cases eb:bs[i]? with
  |none=>rw[eb] at tL;cases tL
  |some b=>
   rw[eb] at tL;cases tL;have Gn:Q' ((bs[i]?).getD true) s':=hQ;rw[eb] at Gn;exact wpAny_truthy_bool Gn
 ·have e:((List.range (bs.map Value.bool).toArray.size).all fun i=>(bs[i]?).getD true)=bs.all id:=by
   have e0:(bs.map Value.bool).toArray.size=bs.length:=by simp
   rw[e0];exact all_range bs
  rw[e];refine⟨.bl _,H,I.kept (t':=tk) fun b o e=>?_,rfl,q⟩;exact hk b o (fun hm=>by rw[zaf.mp hm] at e;exact zaD _ (Heap.lt_size e))<|Heap.get?_push_of_some _ e
theorem boot_all:bootBuiltins "all"=some (.builtin "all"):=by decide+kernel
end
def qO:Frag->TA->TE:=fun K t=>dS (Ab K) t
section
variable {CX:bK}{S:cg}{Γ:aJ}{X:Cx}{e e2 a b c d:Expr}{es:List Expr}{x:Str}{p q pos:Pos}{r ra rb rc:RE}{rs:List RE}{i j:Nat}
theorem Ac(G:Good CX S Γ X)(hA:PA X (e::es) (aM Γ (r::rs)))(h:kB S x "all"=true:=by kernel_rfl)(hn:eG (e::es)=true:=by kernel_rfl)(hq:S.md=0:=by rfl):PE X (.Call (.Name x p) (e::es) [] pos) (ag Γ<|.xt qO (r::rs)):=by
 simp only[kB,zad,decide_eq_true_eq] at h
 obtain⟨⟨rfl,h2⟩,h3⟩:=h;show PE X _ (dS (Ab Γ.K)<|aM Γ (r::rs));rw[<-G.K];exact qp (UH<|G.calm hq) (G.gl h2) (G.d0 _ h3) boot_all hA (by decide) (by decide) (dE (cM hn).1)<|hJ _ _ es (cM hn).2
theorem Gp{T:Frag->TA->TE}(G:Good CX S Γ X)(h:PE X (.Call a es [] p) (ag Γ<|.xt T rs)):PT X (.Call a es [] p) (aU Γ<|.xt T rs):=by
 show PT X _ (eP Γ.K<|ag Γ<|.xt T rs);rw[<-G.K];exact tq h fun _=>rfl
end
end L2
namespace L2.B
open PySem PySem.Spec PyProof.Rows
end L2.B
namespace L2
open PySem PySem.Spec PyProof.Rows
section
variable {X:Cx}
end
section
variable {X:Cx}
end
end L2
namespace L2.B
open PySem PySem.Spec PyProof.Rows
noncomputable def Ad:List RS:=
 [.ret<|.or [(.cmp .Is (.v 0)<|.c<|.bl true),(.cmp .Is (.v 0)<|.c<|.bl false)]]
end L2.B
namespace L2.Ae
open PySem PySem.W PyProof.Rows
section
variable {n:Nat}{lt:Nat->Nat->Bool}{p:Array Nat}
variable {cmp:Nat->Nat->(Bool->Shared->Prop)->Shared->Prop}{R:Shared->Prop}
end
end L2.Ae
namespace L2
open PySem PySem.Spec PyProof.Rows PySem.W L2.Ae
end L2
namespace L2
open PySem PySem.Spec PyProof.Rows
end L2
namespace L2.B
open PySem PySem.Spec PyProof.Rows
end L2.B
namespace L2
open PySem PySem.Spec PyProof.Rows
def tM:List (TE×TE)->St->Hp->(List (V×V)->Hp->Prop)->Prop
 |[],_,H,Q=>Q [] H
 |(tk,tv)::r,σ,H,Q=>tk σ H fun x H1=>tv σ H1 fun y H2=>tM r σ H2 fun ps H3=>Q ((x,y)::ps) H3
abbrev VV:List (V×V)->List (Value×Value)->Prop:=Paired fun p q=>RelV p.1 q.1/\RelV p.2 q.2
def m_(X:Cx)(pos:Pos)(keys:List (Option Expr))(values:List Expr)(lH:List (TE×TE)):Prop:=
 ∀(pins:List (Addr×Obj)) (s:Shared) (σ:St) (H:Hp) (Q:List (V×V)->Hp->Prop),Inv X pins σ H s->tM lH σ H Q->
  wpAny (model X.prog X.w) X.A (evalPairs<|pairTrees keys values X.env pos) (fun vs s'=>∃ps H',Inv X pins σ H' s'/\VV ps vs/\Q ps H') X.xe s
theorem UI{X:Cx}{pos:Pos}:m_ X pos [] [] []:=fun pins s σ H Q I h=>pairTrees_nil_walk ⟨[],H,I,.nil,h⟩
theorem UJ{X:Cx}{pos:Pos}{k v:Expr}{ks:List (Option Expr)}{vs:List Expr}{tk tv:TE}{lH:List (TE×TE)}(hk:PE X k tk)(hv:PE X v tv)(hr:m_ X pos ks vs lH):
  m_ X pos (some k::ks) (v::vs) ((tk,tv)::lH):=fun pins s σ H Q I h=>
 pairTrees_cons_walk (aF (hk pins s σ H _ I h) fun u s1 ⟨x,H1,I1,rx,q1⟩=>aF (hv pins s1 σ H1 _ I1 q1) fun w2 s2 ⟨y,H2,I2,ry,q2⟩=>
  aF (hr pins s2 σ H2 _ I2 q2) fun ws s3 ⟨ps,H3,I3,rel,q3⟩=>⟨(x,y)::ps,H3,I3,.cons ⟨rx,ry⟩ rel,q3⟩)
def iM(kvs more:List (Key×V)):List (Key×V):=more.foldl (fun acc kv=>putK acc kv.1 kv.2) kvs
theorem KV.merge:∀{more:List (Key×V)}{rs:List (Key×Value)}{kvs:List (Key×V)}{vs:List (Key×Value)},KV more rs->KV kvs vs->KV (iM kvs more) (merged vs rs):=by
 intro more rs kvs vs r;unfold KV at r
 induction r generalizing kvs vs with
 |nil=>intro q;exact q
 | @cons p q ps qs h t ih=>
  intro r0;have e:KV (putK kvs p.1 p.2) (stored vs q.1 q.2):=by
   have:=r0.put p.1 h.2;rw[<-h.1];exact this
  exact ih e
theorem Gq:∀(more kvs:List (Key×V)),(iM kvs more).length<=kvs.length+more.length
 |[],kvs=>by show kvs.length<=kvs.length+0;omega
 |p::r,kvs=>by
  have h1:=Gq r (putK kvs p.1 p.2);have h2:=yZ kvs p.1 p.2;show(iM (putK kvs p.1 p.2) r).length<=_;rw[zaA];omega
theorem Gr{P:Program}{w:World}:∀{kvs:List (Key×V)}{ws:List (Value×Value)},VV (kvs.map fun kv=>(kV kv.1,kv.2)) ws->∃rs,Carries (cI P w) ws rs/\KV kvs rs
 |[],_,r=>by rw[zaM] at r;cases r;exact⟨[],True.intro,.nil⟩
 |p::kvs,_,r=>by
  rw[zal] at r;cases r with
  | @cons a b as bs h t=>
   obtain⟨rs,c,q⟩:=Gr (P:=P) (w:=w) t;obtain⟨b1,b2⟩:=b;exact⟨(p.1,b2)::rs,⟨qt h.1,rfl,c⟩,.cons ⟨rfl,h.2⟩ q⟩
def Af(lH:List (TE×TE)):TE:=fun σ H Q=>∀p,H p=none->tM lH σ (upd H p<|.dK []) fun ps H2=>H2 p=some (.dK [])/\∃kvs:List (Key×V),ps=kvs.map (fun kv=>(kV kv.1,kv.2))/\kvs.length<=15/\Q (.ref p) (upd H2 p<|.dK<|iM [] kvs)
theorem UK{X:Cx}{pos:Pos}{keys:List (Option Expr)}{values:List Expr}{lH:List (TE×TE)}(h:m_ X pos keys values lH)(oo:keys.all (·.isSome)=true)(hl:keys.length=values.length)(h0:keys≠ [])
  (UL:keys.length<=15):PE X (.Dict keys values pos) (Af lH):=by
 intro pins s σ H Q I q;have hn:=I.az.fresh (zqR s.heap.objs.size);have I1:=I.laid (a:=s.heap.objs.size) (o:=.dK []) (h':=s.heap.push {cls:=.type "dict",data:=.dict #[]}) (t':=s.toks) (fun _ _ q=>Heap.get?_push_of_some _ q) (zqR _) (P6 s.heap I.big);refine wpAny_Dict_walk (knd:=cI X.prog X.w) oo hl h0 UL<|aF (h pins _ σ _ _ I1<|q _ hn) fun ws s2 ⟨ps,H2,I2,rel,e,kvs,ep,lk,q2⟩=>?_;subst ep;obtain⟨rs,c,rk⟩:=Gr (P:=X.prog) (w:=X.w) rel;obtain⟨z,hd,vs0,r0,dd⟩:=ot I2.az e;cases r0;refine⟨rs,c,dd,fun h' jN hs=>⟨.ref s.heap.objs.size,_,?_,rfl,q2⟩⟩;have hz:(iM [] kvs).length<=sizeLine:=by
  have h1:=Gq kvs [];rw[List.length_nil] at h1;rw[sizeLine_eq];omega
 have he:∃q,h'.get? s.heap.objs.size=some q:=let ⟨q,_,_,hq,_⟩:=jN;⟨q,hq⟩;exact vx I2 (by rw[e];exact True.intro) hs he<|y7 hz hd (rk.merge .nil) jN
def oU:List (Key×V)->List V
 |[]=>[]
 |kv::r=>kV kv.1::kv.2::oU r
def oV:List (V×V)->List V
 |[]=>[]
 |p::r=>p.1::p.2::oV r
def nc:Frag->TA->TE:=fun _ t σ H Q=>∀p,H p=none->t σ (upd H p<|.dK []) fun vs H2=>H2 p=some (.dK [])/\∃kvs:List (Key×V),vs=oU kvs/\kvs.length<=15/\Q (.ref p) (upd H2 p<|.dK<|iM [] kvs)
def ng(Γ:aJ):List RE->List (TE×TE)
 |a::b::r=>(ag Γ a,ag Γ b)::ng Γ r
 |_=>[]
theorem Ag{Γ:aJ}{σ:St}:∀(rs:List RE) (H:Hp) (Q:List V->Hp->Prop),rs.length % 2=0->aM Γ rs σ H Q=tM (ng Γ rs) σ H fun ps H2=>Q (oV ps) H2
 |[],H,Q,_=>rfl
 |[a],H,Q,e=>absurd e (by show ¬(1 % 2=0);decide)
 |a::b::r,H,Q,e=>by
  have e':r.length % 2=0:=by
   have:(r.length+1+1) % 2=0:=e;lia
  show(ag Γ a σ H fun x H1=>ag Γ b σ H1 fun y H2=>aM Γ r σ H2 fun vs H3=>Q (x::y::vs) H3)=ag Γ a σ H fun x H1=>ag Γ b σ H1 fun y H2=>tM (ng Γ r) σ H2 fun ps H3=>Q (x::y::oV ps) H3
  congr 1
  funext x H1
  congr 1
  funext y H2
  exact Ag r H2 (fun vs H3=>Q (x::y::vs) H3) e'
theorem wg:∀(ps:List (V×V)) (kvs:List (Key×V)),oV ps=oU kvs↔ps=kvs.map fun kv=>(kV kv.1,kv.2)
 |[],[]=>⟨fun _=>rfl,fun _=>rfl⟩
 |[],kv::r=>⟨(fun h=>by cases h),(fun h=>by cases h)⟩
 |p::ps,[]=>⟨(fun h=>by cases h),(fun h=>by cases h)⟩
 |p::ps,kv::r=>by
  constructor
  ·intro h;have h1:p.1=kV kv.1:=(zbi h).1;have h2:p.2=kv.2:=(zbi (zbi h).2).1;have h3:=(wg ps r).mp (zbi (zbi h).2).2;rw[h3,zal,<-h1,<-h2]
  ·intro h;rw[zal] at h;obtain⟨h1,h2⟩:=zbi h;show p.1::p.2::oV ps=kV kv.1::kv.2::oU r;rw[(wg ps r).mpr h2,h1]
theorem UM{K:Frag}(rs:List RE)(e:rs.length % 2=0):nc K (aM Γ rs)=Af (ng Γ rs):=by
 funext σ H Q
 unfold nc Af
 apply propext
 constructor
 ·intro h p hp;have:=h p hp;rw[Ag rs _ _ e] at this;have e2:(fun(ps:List (V×V)) (H2:Hp)=>H2 p=some (.dK [])/\∃kvs:List (Key×V),oV ps=oU kvs/\kvs.length<=15/\Q (.ref p) (upd H2 p<|.dK<|iM [] kvs))=fun ps H2=>H2 p=some (.dK [])/\∃kvs:List (Key×V),ps=kvs.map (fun kv=>(kV kv.1,kv.2))/\kvs.length<=15/\Q (.ref p) (upd H2 p<|.dK<|iM [] kvs):=by
   funext ps H2
   simp only[wg]
  rw[e2] at this;exact this
 ·intro h p hp;have:=h p hp;rw[Ag rs _ _ e];have e2:(fun(ps:List (V×V)) (H2:Hp)=>H2 p=some (.dK [])/\∃kvs:List (Key×V),oV ps=oU kvs/\kvs.length<=15/\Q (.ref p) (upd H2 p<|.dK<|iM [] kvs))=fun ps H2=>H2 p=some (.dK [])/\∃kvs:List (Key×V),ps=kvs.map (fun kv=>(kV kv.1,kv.2))/\kvs.length<=15/\Q (.ref p) (upd H2 p<|.dK<|iM [] kvs):=by
   funext ps H2
   simp only[wg]
  rw[e2];exact this
section
variable {CX:bK}{S:cg}{Γ:aJ}{X:Cx}{pos:Pos}{k v:Expr}{ks:List (Option Expr)}{vs:List Expr}{rk rv:RE}{rs:List RE}
theorem Gs:m_ X pos [] [] (ng Γ []):=UI
theorem qP(hk:PE X k (ag Γ rk))(hv:PE X v (ag Γ rv))(h:m_ X pos ks vs (ng Γ rs)):m_ X pos (some k::ks) (v::vs) (ng Γ (rk::rv::rs)):=UJ hk hv h
def Gu(keys:List (Option Expr))(values:List Expr)(rs:List RE):Bool:=keys.all (·.isSome) && decide (keys.length=values.length) && decide (keys.length≠0) && decide (keys.length<=15) && decide (rs.length % 2=0)
theorem Gv(hp:m_ X pos ks vs (ng Γ rs))(h:Gu ks vs rs=true:=by kernel_rfl):PE X (.Dict ks vs pos) (ag Γ<|.xt nc rs):=by
 simp only[Gu,zad,decide_eq_true_eq] at h
 obtain⟨⟨⟨⟨h1,h2⟩,h3⟩,h4⟩,h5⟩:=h;show PE X _ (nc Γ.K<|aM Γ rs);rw[UM rs h5];exact UK hp h1 h2 (fun z=>h3 (by rw[z];rfl)) h4
end
end L2
namespace L2.B
open PySem PySem.Spec PyProof.Rows
end L2.B
namespace L2
open PySem PySem.Spec PyProof.Rows
end L2
namespace L2.B
open PySem PySem.Spec PyProof.Rows
end L2.B
namespace L2
open PySem PySem.Spec PyProof.Rows PySem.W
theorem Gw{P:Program}{w:World}{k:Key}{u:Value}(h:(cI P w).is k u=true):RelV (kV k) u:=by
 cases k with
 |inl i=>
  rcases i4 (show l_ (.inl i) u=true from h) with⟨j,t,e,rfl⟩|⟨x,t,e,rfl⟩
  ·cases e;exact⟨t,rfl⟩
  ·cases e
 |inr x=>
  rcases i4 (show l_ (.inr x) u=true from h) with⟨j,t,e,rfl⟩|⟨y,t,e,rfl⟩
  ·cases e
  ·cases e;exact⟨t,rfl⟩
theorem Ah{P:Program}{w:World}:∀{kvs:List (Key×V)}{vs:List (Key×Value)}{l:List Value},KV kvs vs->l.length=vs.length->(∀(j:Nat) (v:Value),l[j]?=some v->∃k x,vs[j]?=some (k,x)/\(cI P w).is k v=true)->Vals (kvs.map fun p=>kV p.1) l
 |[],[],[],_,_,_=>.nil
 |p::r,q::s,u::us,h,hl,hp=>by
  cases h with
  |cons h1 h2=>
   obtain⟨k,x,e,hk⟩:=hp 0 u rfl;cases e;refine .cons ?_<|Ah (P:=P) (w:=w) h2 (by simpa using hl) fun j v hj=>?_
   ·have:=Gw hk;have e1:p.1=k:=h1.1;show RelV (kV p.1) u;rw[e1];exact this
   ·obtain⟨k',x',e',lg⟩:=hp (j+1) v (by simpa using hj)
    exact⟨k',x',by simpa using e',lg⟩
 |[],[],_::_,_,hl,_=>by simp at hl
 |_::_,_::_,[],_,hl,_=>by simp at hl
def tN(K:Frag):List V->Hp->VK->Prop:=fun xs H Q=>∃p kvs,xs=[.ref p]/\H p=some (.dK kvs)/\∀l,H l=none->Q (.ref l) (upd H l<|.lst<|kvs.map fun p=>kV p.1)
def qQ(K:Frag):List V->Hp->VK->Prop:=fun xs H Q=>∃p kvs,∃ns:List Int,xs=[.ref p]/\H p=some (.dK kvs)/\(kvs.map fun p=>kV p.1)=ns.map V.int/\ns.length<64/\
 ∀l,∀ms:List Int,H l=none->ms.Perm ns->ms.Pairwise (· <= ·)->Q (.ref l) (upd H l<|.lst<|ms.map V.int)
theorem Ai:∀{vs:List Value}{ns:List Int},IntsAre vs ns->Vals (ns.map V.int) vs
 |_,_,.nil=>.nil
 |_,_,.cons _ _ h=>.cons ⟨_,rfl⟩ (Ai h)
section
variable {X:Cx}
theorem UN(hc:X.calm=true):cv X (.type "list") (tN X.K):=by
 intro pins s σ H xs us Q I r h;obtain⟨p,kvs,rfl,hp,q⟩:=h;obtain⟨u,rfl,ru⟩:=vals1 r;cases ru;obtain⟨hz,hd,vs,kv,dd⟩:=ot I.az hp;obtain⟨ep,Aj⟩:=dd.dictAt;have hl:=kv.length;refine kdl_call (kdl_dict (knd:=cI X.prog X.w) (kvs:=vs) (ep:=ep) hd) (I.ok.hd hc) Aj (by omega) fun h' tk sG c' hk e jX=>?_
 exact⟨.ref s.heap.objs.size,_,I.laid (t':=tk) hk (zqR _) (show bT X.prog X.w _ h' _ (.lst<|kvs.map fun p=>kV p.1) from⟨by rw[zaa];exact hz,sG.toList,c',Ah kv (by simpa using jX.1)<|fun j v hj=>jX.2 j v (by simpa using hj),by simpa using e⟩),rfl,q _<|I.az.fresh<|zqR _⟩
theorem UO(hc:X.calm=true):cv X (.builtin "sorted") (qQ X.K):=by
 intro pins s σ H xs us Q I r h;obtain⟨p,kvs,ns,rfl,hp,oq,dG,q⟩:=h;obtain⟨u,rfl,ru⟩:=vals1 r;cases ru;obtain⟨hz,hd,vs,kv,dd⟩:=ot I.az hp;obtain⟨ep,Aj⟩:=dd.dictAt;have hl:=kv.length;have hln:kvs.length=ns.length:=by have:=congrArg List.length oq;simpa using this
 refine Calls.call_function_entry kind_sorted plain_sorted entry_sorted (args_sorted1 _) ?_;unfold Builtin.«sorted»;refine wpAny_bind (m:=checkCount "sorted" 1 1 _)<|wpAny_pure ?_;refine wpAny_bind<|kdu_collect (A:=X.A.in1) (kdl_dict (knd:=cI X.prog X.w) (kvs:=vs) (ep:=ep) hd) (I.ok.hd hc) Aj (by omega) fun h' tk acc hk jX=>?_
 have vk:=Ah (P:=X.prog) (w:=X.w) (l:=acc.toList) kv (by simpa using jX.1) (fun j v hj=>jX.2 j v (by simpa using hj))
 rw[oq] at vk;have hI:=intsAre_of vk;have UP:acc.toList.length=ns.length:=by rw[<-Vals.length vk,zaa]
 refine wpAny_bind<|wpAny_newList ?_ (by omega)
 have kA:(h'.push<|seqObj "list" acc.toList.toArray 0).get? h'.objs.size=some (seqObj "list" acc.toList.toArray 0):=Heap.get?_push_size _ rfl;show wpAny _ _ _ _ _ {s with heap:=h'.push (seqObj "list" acc.toList.toArray 0),toks:=tk}
 refine wpAny_bind<|wpAny_holding<|wpAny_call_entry slot_list_sort ⟨_,kA,rfl⟩ entry_list_sort (list_sort_tree kA hI (by omega) fun out ms a1 a2 a3=>⟨_,rfl,?_⟩)<|args_list_sort _
 obtain⟨e,he⟩:=sortedHeap_at (out:=out) kA;have I1:Inv X pins σ H {s with heap:=h',toks:=tk}:=I.kept (t':=tk) hk
 refine wpAny_pure ⟨_,rfl,.ref h'.objs.size,_,I1.laid (t':=tk) (fun b o eb=>?_) (zqR _) (show bT X.prog X.w _ _ _ (.lst<|ms.map V.int) from⟨by rw[zaa,a2.length_eq];omega,out.toList,e,Ai a1,by simpa using he⟩),rfl,q _ ms (I1.az.fresh<|zqR _) a2 a3⟩
 have hb:h'.get? b=some o:=eb;have aG:=Heap.lt_size hb;rw[sortedHeap_old (zae aG) (by rw[size_push'];exact zaN aG)]
 exact Heap.get?_push_of_some _ hb
end
def wj:Frag->TA->TE:=fun K t=>dS (tN K) t
def j4:Frag->TA->TE:=fun K t=>dS (qQ K) t
section
variable {CX:bK}{S:cg}{Γ:aJ}{X:Cx}{e:Expr}{es:List Expr}{x:Str}{p pos:Pos}{r:RE}{rs:List RE}
theorem Gx(G:Good CX S Γ X)(hA:PA X (e::es) (aM Γ (r::rs)))(h:kB S x "list"=true:=by kernel_rfl)(hn:eG (e::es)=true:=by kernel_rfl)(hq:S.md=0:=by rfl):PE X (.Call (.Name x p) (e::es) [] pos) (ag Γ<|.xt wj (r::rs)):=by
 simp only[kB,zad,decide_eq_true_eq] at h
 obtain⟨⟨rfl,h2⟩,h3⟩:=h;show PE X _ (dS (tN Γ.K)<|aM Γ (r::rs));rw[<-G.K];exact D_ (UN<|G.calm hq) (G.gl h2) (G.d0 _ h3) FG hA (by decide) (by decide) (dE (cM hn).1)<|hJ _ _ es (cM hn).2
theorem oX(G:Good CX S Γ X)(hA:PA X (e::es) (aM Γ (r::rs)))(h:kB S x "sorted"=true:=by kernel_rfl)(hn:eG (e::es)=true:=by kernel_rfl)(hq:S.md=0:=by rfl):PE X (.Call (.Name x p) (e::es) [] pos) (ag Γ<|.xt j4 (r::rs)):=by
 simp only[kB,zad,decide_eq_true_eq] at h
 obtain⟨⟨rfl,h2⟩,h3⟩:=h;show PE X _ (dS (qQ Γ.K)<|aM Γ (r::rs));rw[<-G.K];exact qp (UO<|G.calm hq) (G.gl h2) (G.d0 _ h3) (by decide+kernel) hA (by decide) (by decide) (dE (cM hn).1)<|hJ _ _ es (cM hn).2
end
end L2
namespace L2.B
open PySem PySem.Spec PyProof.Rows
def Ak:List Str:=["self","size"]
noncomputable def Al:List RS:=
 [.ite (.or [(.not (.call 0 [.v 1])),(.cmp .Lt (.v 1) (.c (.int 0)))]) [.g8 0 [(.c (.str "a text has no such number of signs"))]] [],
 .g7 (.v 0) "signs" (.v 1),
 .g7 (.v 0) "given" (.c<|.int 0),
 .g7 (.v 0) "stands" .jf]
def Am:List Str:=["NoPlace"]
def Gy:List Str:=["self","sided","number"]
noncomputable def Gz:List RS:=
 [.asg 2 (.fld (.v 0) "given"),
 .dput (.fld (.v 0) "stands") (.v 2) (.v 1),
 .g7 (.v 0) "given" (.bin .Add (.v 2)<|.c<|.int 1),
 .ret (.v 2)]
def qR:List Str:=["self","number"]
noncomputable def An:List RS:=
 [.ite (.or [(.not (.call 0 [.v 1])),(.qy (.v 1) (.fld (.v 0) "stands"))]) [.g8 0 [(.c (.str "there is none of that number"))]] [],
 .ret (.dU (.fld (.v 0) "stands") (.v 1))]
def UQ:List Str:=["NoMark"]
def wk:List Str:=["self"]
noncomputable def GA:List RS:=
 [.ret<|.xt j4 [(.fld (.v 0) "stands")]]
def UR:List Str:=["sorted"]
noncomputable def GB:List RS:=
 [.ret<|.fld (.v 0) "signs"]
def Ao:List Str:=["self","change","track","number"]
noncomputable def Ap:List RS:=
 [.asg 2 (.make 0 [.v 1]),
 .ite (.cmp .NotEq (.fld (.v 2) "over")<|.fld (.v 0) "signs") [.g8 0 [(.c<|.str "the change is over a text of another number of signs")]] [],
 .gQ 3 .list [(.xt wj [(.fld (.v 0) "stands")])] [.dput (.fld (.v 0) "stands") (.v 3)<|.comp (some 2) [("track",2)] .list [(.dU (.fld (.v 0) "stands")<|.v 3)] none<|.tup [(.bc 0 "lead" (.v 2) [.v 0,.v 1]),.v 1]],
 .g7 (.v 0) "signs" (.fld (.v 2) "gives")]
def Aq:List Str:=["list"]
def GC:List Str:=["lead"]
def GD:List Str:=["Track"]
def US:List Str:=["BadFit"]
structure jm (K:Frag) (C:Addr):Prop where
 cl:fh K C
 tO:fi K C "signs"
 Ar:fi K C "given"
 j5:fi K C "stands"
def GF:List Str:=["row","most","least","beyond","middle"]
noncomputable def GG:List RS:=
 [.asg 2 (.c (.int 0)),
 .asg 3 (.blt .len [.v 0]),
 .zk (.cmp .Lt (.v 2) (.v 3)) [.asg 4 (.bin .FloorDiv (.bin .Add (.v 2) (.v 3)) (.c (.int 2))),
  .ite (.cmp .LtE (.ix (.v 0) (.v 4)) (.v 1)) [.asg 2 (.bin .Add (.v 4) (.c (.int 1)))] [.asg 3 (.v 4)]],
 .ret (.v 2)]
def GH:List Str:=["side"]
noncomputable def GI:List RS:=
 [.ite (.not<|.call 0 [.v 0,.g 0]) [.g8 0 [(.c<|.str "a side is left or right")]] []]
def UT:List Str:=["is_word"]
def UU:List Str:=["SIDES"]
def UW:List Str:=["BadSide"]
def As:List Str:=["self","change","old","new","word","what"]
noncomputable def Au:List RS:=
 [.drop (.call 0 [.v 1]),
 .g7 (.v 0) "olds" (.lst []),
 .g7 (.v 0) "news" (.lst []),
 .g7 (.v 0) "lengths" (.lst []),
 .asg 2 (.c<|.int 0),
 .asg 3 (.c<|.int 0),
 .qz [4,5] .list [.v 1] [.ite (.cmp .Eq (.v 4) (.c (.str "put"))) [.asg 3 (.bin .Add (.v 3) (.blt .len [.v 5]))] [.ite (.cmp .Eq (.v 4) (.c (.str "cut"))) [.asg 2 (.bin .Add (.v 2) (.blt .len [.v 5]))] [.drop (.dn .append (.fld (.v 0) "olds") [.v 2]),
    .drop (.dn .append (.fld (.v 0) "news") [.v 3]),
    .drop (.dn .append (.fld (.v 0) "lengths") [.v 5]),
    .asg 2 (.bin .Add (.v 2)<|.v 5),
    .asg 3 (.bin .Add (.v 3) (.v 5))]]],
 .g7 (.v 0) "over" (.v 2),
 .g7 (.v 0) "gives" (.v 3)]
def UX:List Str:=["need_change"]
def wm:List Str:=["self","place","run"]
noncomputable def GJ:List RS:=
 [.asg 2 (.bin .Sub (.call 0 [(.fld (.v 0) "olds"),(.bin .Sub (.v 1) (.c (.int 1)))]) (.c (.int 1))),
 .ite (.cmp .Lt (.v 2)<|.c<|.int 0) [.ret<|.c<|.int 0] [],
 .ret (.bin .Add (.ix (.fld (.v 0) "news") (.v 2)) (.blt .min [(.ix (.fld (.v 0) "lengths") (.v 2)),(.bin .Sub (.v 1) (.ix (.fld (.v 0) "olds") (.v 2)))]))]
def GK:List Str:=["many_upto"]
def Av:List Str:=["min"]
noncomputable def GN:List RS:=
 [.asg 2 (.bin .Sub (.call 0 [(.fld (.v 0) "olds"),.v 1]) (.c (.int 1))),
 .ite (.and [(.cmp .GtE (.v 2)<|.c<|.int 0),(.cmp .Lt (.v 1)<|.bin .Add (.ix (.fld (.v 0) "olds")<|.v 2)<|.ix (.fld (.v 0) "lengths")<|.v 2)]) [.ret<|.bin .Sub (.bin .Add (.ix (.fld (.v 0) "news")<|.v 2)<|.v 1)<|.ix (.fld (.v 0) "olds")<|.v 2] [],
 .ret (.jR (.cmp .Lt (.bin .Add (.v 2) (.c (.int 1))) (.blt .len [(.fld (.v 0) "news")])) (.ix (.fld (.v 0) "news") (.bin .Add (.v 2) (.c (.int 1)))) (.fld (.v 0) "gives"))]
def GO:List Str:=["self","place","side"]
noncomputable def GP:List RS:=
 [.ret<|.jR (.cmp .Eq (.v 2)<|.c<|.str "left") (.bc 0 "to_left" (.v 0) [.v 1])<|.bc 1 "to_right" (.v 0) [.v 1]]
def UY:List Str:=["to_left","to_right"]
def GQ:List Str:=["change","place","side","track"]
noncomputable def GR:List RS:=
 [.asg 3 (.make 0 [.v 0]),
 .ite (.not<|.call 0 [.v 1,(.c<|.int 0),(.fld (.v 3) "over")]) [.g8 0 [(.c<|.str "the text has no such place")]] [],
 .drop (.call 1 [.v 2]),
 .ret (.bc 0 "lead" (.v 3) [.v 1,.v 2])]
def UZ:List Str:=["is_between","need_side"]
structure lI (K:Frag) (C:Addr):Prop where
 cl:fh K C
 oY:fi K C "olds"
 qS:fi K C "news"
 wo:fi K C "lengths"
 wq:fi K C "over"
 Aw:fi K C "gives"
end L2.B
namespace L2
open PySem PySem.Spec PyProof.Rows
def GS(od:Obj)(kvs:List (Key×V))(d:Addr):It:=
 ⟨fun i H=>H d=some (.a_ od<|.dK kvs)/\i<kvs.length,fun i H x H'=>H'=H/\∃p,kvs[i]?=some p/\x=kV p.1,fun i H=>H d=some (.a_ od<|.dK kvs)/\i=kvs.length⟩
def GU(ta:TA):TI:=fun σ H R=>ta σ H fun xs H1=>∃d kvs,xs=[.ref d]/\H1 d=some (.dK kvs)/\∀od,R (GS od kvs d) (upd H1 d<|.a_ od<|.dK kvs)
theorem KV.get{kvs:List (Key×V)}{vs:List (Key×Value)}(h:KV kvs vs):∀{i:Nat}{p:Key×V},kvs[i]?=some p->∃q,vs[i]?=some q/\p.1=q.1:=by
 induction h with
 |nil=>intro i p e;simp at e
 |cons r t ih=>
  intro i p e;cases i with
  |zero=>simp at e;subst e;exact⟨_,by simp,r.1⟩
  |succ i=>exact ih (by simpa using e)
theorem U0{P:Program}{w:World}{K:Frag}{tg:Expr}{od:Obj}{kvs:List (Key×V)}{vs:List (Key×Value)}{d it:Addr}{ep:Nat}(ha:KdkAt (cI P w) od vs ep)(kv:KV kvs vs)(d6:d≠it):
  Turn P w K tg (GS od kvs d) [it] it (fun i h=>h.IsKeyIter it d i vs.length ep) where
 mem:=by simp
 obj:=fun i h st b hb=>by
  have e:b=it:=by simpa using hb
  subst e;obtain⟨o,e,c,d⟩:=st;exact⟨o,e,fun v z=>by rw[d] at z;cases z⟩
 keep:=fun i h h' st k=>st.at fun o e=>k it (by simp) o e
 item:=by
  intro X hP hw hK hc i pins s σ H E I hf st hg;subst hP hw hK;obtain⟨hd,hi⟩:=hg;obtain⟨f0,f1,f2,f3,f4,f5⟩:=hf it (by simp)
  have iN:s.heap.get? d=some od:=(I.az d _ hd).1;have hx:kvs[i]?=some kvs[i]:=by simp[hi]
  obtain⟨⟨qk,qx⟩,hq,hk⟩:=kv.get hx;refine wpAny_pyNext_dict_item st (ha.dictAt iN) hq fun key h' oh GV bW=>?_;have I1:Inv X pins σ H {s with heap:=h'}:=I.turned (t':=s.toks) (fun b o hb e=>bW.extBut b o hb e) f0 f1 f3 f4 f5
  obtain⟨o,e,c,d'⟩:=id GV;have r:=Gw oh;rw[show qk=kvs[i].fst from hk.symm] at r
  exact⟨key,rfl,u_ (s:={s with heap:=h'}) e c d' (by decide) ⟨_,H,I1,r,⟨rfl,_,hx,rfl⟩,GV,fun b hb=>(hf b hb).1⟩⟩
 done:=by
  intro X hP hw hK hc i pins s σ H E I hf st hg;subst hP hw hK;obtain⟨hd,hi⟩:=hg;obtain⟨f0,f1,f2,f3,f4,f5⟩:=hf it (by simp)
  have iN:s.heap.get? d=some od:=(I.az d _ hd).1;have hl:=kv.length;exact wpAny_pyNext_dict_end (I.ok.hd hc) st (ha.dictAt iN) (by simp;omega) fun h' eb=>⟨rfl,I.turned (t':=s.toks) (fun b o hb e=>eb b o hb e) f0 f1 f3 f4 f5⟩
 self:=fun _ _ _ _ _ st h=>wpAny_pyIter_keyiter st h
section
variable {X:Cx}{pins:List (Addr×Obj)}{σ:St}{H:Hp}{s:Shared}{d:Addr}{kvs wt:List (Key×V)}{od:Obj}
theorem Inv.freeze(I:Inv X pins σ H s)(hd:H d=some (.dK kvs))(ho:s.heap.get? d=some od):Inv X pins σ (upd H d<|.a_ od<|.dK kvs) s:=by
 have mu:qf (H d):=by rw[hd];trivial
 refine I.un (t':=s.toks) (Un.write (e:=d) mu (.inl rfl) (fun _ _ _ q=>q) ⟨_,ho⟩)<|I.az.write (e:=d) mu (.inl rfl) (fun _ _ _ q=>q) ⟨_,ho⟩ ⟨ho,(I.az d _ hd).i6 (fun _ _ _ q=>q) (fun b q=>?_) fun b xs q=>?_⟩
 ·rw[ax<|i5 q hd (by intro z;cases z)];exact q
 ·rw[ax<|i5 q hd (by intro z;cases z)];exact q
theorem Inv.U1{σ0:St}{H0:Hp}{s0:Shared}(I0:Inv X pins σ0 H0 s0)(h0:H0 d=some (.dK wt))(I:Inv X pins σ H s)(hd:H d=some (.a_ od<|.dK kvs)):Inv X pins σ (upd H d<|.dK kvs) s:=by
 have nn:∀b,H b=none->b≠d:=fun b n z=>by rw[z,hd] at n;cases n
 refine⟨I.ok,I.os,I.bare,⟨I.base.keep,I.base.slot,fun b o e n hx=>?_,I.base.there,fun b xs e=>?_,fun b o u e=>?_,fun b ps e=>?_⟩,I.loc,I.cell,?_,fun x c e=>?_,fun p hp=>?_,fun b o e=>?_,I.len⟩
 ·have:=I.base.free b o e n hx;rw[ax<|nn b this];exact this
 ·have:=I.base.eA b xs e;rw[ax<|i5 this hd (by intro z;cases z)];exact this
 ·have h1:=I.base.d4 b o u e;have h2:=I0.base.d4 b o u e;rw[ax (fun z=>by rw[z,h0] at h2;cases h2)];exact h1
 ·obtain⟨m,q⟩:=I.base.fg b ps e;exact⟨m,by rw[ax<|i5 q hd (by intro z;cases z)];exact q⟩
 ·rw[ax<|nn _ I.free];exact I.free
 ·rw[ax<|nn _<|I.eN x c e];exact I.eN x c e
 ·obtain⟨h1,h2,h3⟩:=I.pin p hp;exact⟨h1,by rw[ax<|nn _ h2];exact h2,h3⟩
 ·have ho:∀c,H b=some o\/b=d->H c=some (.own b)->upd H d (.dK kvs) c=some (.own b):=fun c _ q=>by rw[ax<|i5 q hd (by intro z;cases z)];exact q
  by_cases hb:b=d
  ·subst hb;rw[au] at e;cases e;exact(I.az b _ hd).2.i6 (fun _ _ _ q=>q) (fun c q=>by rw[ax<|i5 q hd (by intro z;cases z)];exact q) fun c xs q=>by rw[ax<|i5 q hd (by intro z;cases z)];exact q
  ·rw[ax hb] at e;exact(I.az b o e).i6 (fun _ _ _ q=>q) (fun c q=>by rw[ax<|i5 q hd (by intro z;cases z)];exact q) fun c xs q=>by rw[ax<|i5 q hd (by intro z;cases z)];exact q
theorem U2{tg l:Expr}{tl:TE}(hl:PE X l tl):PI X tg l (GU<|cU tl fj):=by
 intro pins s σ H R I h;refine aF (hl pins s σ H _ I h) fun v s1 ⟨x,H1,I1,r1,q1⟩=>?_;obtain⟨d,kvs,e,hd,q⟩:=q1
 simp only[List.cons.injEq,and_true] at e
 subst e;cases r1;obtain⟨hz,hy,vs,kv,dd⟩:=ot I1.az hd;obtain⟨od,es,ep,ho,rr⟩:=dd;have ha:KdkAt (cI X.prog X.w) od vs ep:=⟨es,rr⟩;refine wpAny_pyIter_dict hy (ha.dictAt ho) ?_;have aG:=Heap.lt_size ho;have I2:Inv X pins σ (upd H1 d<|.a_ od<|.dK kvs) s1:=I1.freeze hd ho;refine⟨s1.heap.objs.size,[s1.heap.objs.size],_,_,upd H1 d<|.a_ od<|.dK kvs,rfl,I2.kept (t':=s1.toks) fun b o e=>Heap.get?_push_of_some _ e,U0 ha kv<|zae aG,⟨_,Heap.get?_push_size _ rfl,rfl,rfl⟩,fun b hb=>?_,q od⟩;have e:b=s1.heap.objs.size:=by simpa using hb
 subst e;exact I2.u9 (zqR _)<|I2.az.fresh<|zqR _
end
def GW(i:Nat)(a:RE)(body:List RS):aJ->TS:=fun Γ D σ H=>rS (GU<|cU (ag Γ a) fj) (dv i) (aA Γ body) {D with nx:=fun σ' H'=>∃d od kvs wt,H d=some (.dK wt)/\H' d=some (.a_ od<|.dK kvs)/\D.nx σ' (upd H' d<|.dK kvs)} σ H
section
variable {CX:bK}{S:cg}{Γ:aJ}{X:Cx}{p q:Pos}{a:RE}{i:Nat}{x:Str}{t:List RS}{iter:Expr}{as:List Stmt}
theorem U3(G:cJ CX S Γ X)(hi:PE X iter (ag Γ a))(ha:cT X as (aA Γ t))(h:kL S i x=true:=by kernel_rfl)(hs:qC iter=true:=by kernel_rfl)(hq:S.md=0:=by rfl):PS X (.For (.Name x p) iter as [] q) (bg Γ<|.xs<|GW i a t):=by
 intro pins s σ H D I hh;refine aF (yr G.own (G.calm hq) (U2 hi) (G.name h) ha (qJ hs) pins s σ H _ I hh) fun f s1 y=>?_;cases f with
 |next=>
  obtain⟨σ',H',I',d,od,kvs,wt,e0,e1,y⟩:=y;exact⟨σ',_,I.U1 e0 I' e1,y⟩
 |_=>exact y
end
end L2
namespace L2
open PySem PySem.Spec PyProof.Rows PySem.W
def wu(K:Frag):List V->Hp->VK->Prop:=fun xs H Q=>∃p kvs,xs=[.ref p]/\H p=some (.dK kvs)/\Q (.int (kvs.length:Nat)) H
section
variable {X:Cx}
theorem U4:cv X (.builtin "len") (wu X.K):=by
 intro pins s σ H xs us Q I r h;obtain⟨p,kvs,rfl,hp,q⟩:=h;obtain⟨u,rfl,ru⟩:=vals1 r;cases ru;obtain⟨hz,hd,vs,kv,dd⟩:=ot I.az hp;have hl:=kv.length;have hs:=sizeLine_eq;refine call_len_dict (knd:=cI X.prog X.w) hd dd (by rw[<-hl];have:kvs.length<=sizeLine:=hz;omega) ?_
 exact⟨.int (kvs.length:Nat),H,(I.tok _),⟨_,by rw[hl]⟩,q⟩
end
def wx:Frag->TA->TE:=fun K t=>dS (wu K) t
section
variable {CX:bK}{S:cg}{Γ:aJ}{X:Cx}{e:PySem.Expr}{es:List PySem.Expr}{x:Str}{p pos:Pos}{r:RE}{rs:List RE}
theorem U5:bootBuiltins "len"=some (.builtin "len"):=by decide+kernel
theorem GX(G:Good CX S Γ X)(hA:PA X (e::es) (aM Γ (r::rs)))(h:kB S x "len"=true:=by kernel_rfl)(hn:eG (e::es)=true:=by kernel_rfl):PE X (.Call (.Name x p) (e::es) [] pos) (ag Γ<|.xt wx (r::rs)):=by
 simp only[kB,zad,decide_eq_true_eq] at h
 obtain⟨⟨rfl,h2⟩,h3⟩:=h;show PE X _ (dS (wu Γ.K)<|aM Γ (r::rs));rw[<-G.K];exact qp U4 (G.gl h2) (G.d0 _ h3) U5 hA (by decide) (by decide) (dE (cM hn).1)<|hJ _ _ es (cM hn).2
end
def GY(a:Addr):List V->Hp->VK->Prop
 |[y]=>fun H Q=>∃kvs k v,H a=some (.dK kvs)/\y=kV k/\cW kvs k=some v/\Q v (upd H a<|.dK<|fN kvs k)
 |_=>fun _ _=>False
def wy:Frag->TE->TA->TE:=fun _ to ta σ H Q=>to σ H fun x H1=>∃a,x=.ref a/\vy H1 a/\ta σ H1 fun ys H2=>GY a ys H2 Q
section
variable {CX:bK}{S:cg}{Γ:aJ}{X:Cx}{e o:PySem.Expr}{x:Str}{ap pos:Pos}{r ro:RE}
theorem GZ(G:Good CX S Γ X)(ho:PE X o (ag Γ ro))(he:PE X e (ag Γ r))(h:kM o "pop" x 1 ap pos=true:=by kernel_rfl)(hn:eG [e]=true:=by kernel_rfl):PE X (.Call (.Attribute o x ap) [e] [] pos) (ag Γ<|.xm wy ro [r]):=by
 simp only[kM,zad,decide_eq_true_eq] at h
 obtain⟨⟨⟨rfl,h2⟩,h3⟩,h4⟩:=h;intro pins s σ H Q I q;have U6:((backTo pos<|starEach [e] X.env).all (fun x=> !x.1) && (backToKw pos<|keywordEach [] X.env).all (fun x=>x.1.isSome) && decide (([e]:List PySem.Expr).length+([]:List Keyword).length+(if ([]:List Keyword).isEmpty then 0 else 1) <30))=true:=by rw[vX _ _ [e] hn];rfl
 have tr:backTo pos (starEach [e] X.env)=[(false,eval e X.env)]:=by rw[dE (cM hn).1];rfl
 refine wpAny_Call_method (mw h2) U6 h3 PySem.F.plainAttrs_dict PySem.F.slot_dict_pop PySem.F.type_dict_pop<|aF (ho pins s σ H _ I q) fun u s1 w=>?_;obtain⟨x,H1,I1,rx,a,ex,d,q1⟩:=w;subst ex;cases (show u=Value.ref a from rx)
 obtain⟨t1,t2,_⟩:=P8 I1 d;refine⟨t1,t2,?_⟩;rw[tr];refine Calls.callWith_builtin rfl<|Calls.evalArgs_plain<|Calls.spliced_cons<|aF (he pins s1 σ H1 _ I1 q1) fun iv s2 w2=>Calls.spliced_nil ?_;obtain⟨y,H2,I2,ry,kvs,k,v,ea,ey,l,q2⟩:=w2;subst ey;exact PX I2 ea ry l (.inl rfl) fun w' s3 I3 d5=>⟨v,_,I3,d5,q2⟩
end
end L2
namespace L2.P2
open PySem PySem.Spec PyProof.Rows PySem.W L2.Ae L2
end L2.P2
namespace L2
open PySem PySem.Spec PyProof.Rows PySem.W
end L2
namespace L2.ST
open PySem
def Rs(xs:Array Nat):Prop:= ∀i k (h:i<k) (hk:k<xs.size),xs[i] <xs[k]
theorem Ax{xs:Array Nat}{j:Nat}(r:Rs xs):∀(f lo hi:Nat),lo<=hi->hi<=xs.size->hi - lo<=f->(∀i (h:i<xs.size),i<lo->xs[i] <j)->(∀i (h:i<xs.size),hi<=i->j<=xs[i])->
  lo<=SetTable.below.go xs j f lo hi/\SetTable.below.go xs j f lo hi<=hi/\(∀i (h:i<xs.size),i<SetTable.below.go xs j f lo hi->xs[i] <j)/\(∀i (h:i<xs.size),SetTable.below.go xs j f lo hi<=i->j<=xs[i])
 | 0,lo,hi,a,b,c,u,v=>by
  have:lo=hi:=by omega
  subst this;exact⟨zqR _,zqR _,u,v⟩
 |f+1,lo,hi,a,b,c,u,v=>by
  unfold SetTable.below.go;by_cases h:lo<hi
  ·rw[if_pos h];have hm:(lo+hi) / 2<xs.size:=by omega
   have e:xs.getD ((lo+hi) / 2) j=xs[(lo+hi) / 2]:=by simp[Array.getD,hm]
   dsimp only
   rw[e];by_cases q:xs[(lo+hi) / 2] <j
   ·rw[if_pos q];obtain⟨a1,a2,a3,a4⟩:=Ax r f ((lo+hi) / 2+1) hi (by omega) b (by omega) (fun i cX hl=>by
     rcases Nat.lt_or_ge i ((lo+hi) / 2) with y|y
     ·exact Nat.lt_trans (r _ _ y hm) q
     ·have:i=(lo+hi) / 2:=by omega
      subst this;exact q) v
    exact⟨by omega,a2,a3,a4⟩
   ·rw[if_neg q];obtain⟨a1,a2,a3,a4⟩:=Ax r f lo ((lo+hi) / 2) (by omega) (by omega) (by omega) u (fun i cX hl=>by
     rcases Nat.lt_or_ge ((lo+hi) / 2) i with y|y
     ·exact zar (zbD q) (zbb<|r _ _ y cX)
     ·have:i=(lo+hi) / 2:=by omega
      subst this;exact zbD q)
    exact⟨a1,by omega,a3,a4⟩
  ·rw[if_neg h];have:lo=hi:=by omega
   subst this;exact⟨zqR _,zqR _,u,v⟩
theorem Ay{xs:Array Nat}(r:Rs xs)(j:Nat):SetTable.below xs j<=xs.size/\(∀i (h:i<xs.size),i<SetTable.below xs j->xs[i] <j)/\(∀i (h:i<xs.size),SetTable.below xs j<=i->j<=xs[i]):=by
 obtain⟨_,b,c,d⟩:=Ax (j:=j) r xs.size 0 xs.size (zqZ _) (zqR _) (by omega) (fun i _ h=>by omega) (fun i h h2=>by omega)
 exact⟨b,c,d⟩
theorem U7{xs:Array Nat}(r:Rs xs)(h:i<xs.size):SetTable.below xs (xs[i]+1)=i+1:=by
 obtain⟨a,b,c⟩:=Ay r (xs[i]+1);have h1:i<SetTable.below xs (xs[i]+1):=Nat.lt_of_not_le fun y=>by have:=c i h y;omega
 have h2:SetTable.below xs (xs[i]+1)<=i+1:=zbD fun y=>by
  have hk:i+1<xs.size:=by omega
  have:=b (i+1) hk y;have:=r i (i+1) (zaK _) hk;omega
 omega
theorem U8{xs:Array Nat}(r:Rs xs):SetTable.below xs 0=0:=by
 obtain⟨a,b,c⟩:=Ay r 0;rcases Nat.eq_zero_or_pos (SetTable.below xs 0) with h|h
 ·exact h
 ·have:=b 0 (by omega) h
  omega
theorem G0{l:List Nat}(h:l.Pairwise (· < ·)):Rs l.toArray:=fun i k tP hk=>by
 have:=zbI.mp h i k (by simp at hk;omega) (by simpa using hk) tP
 simpa using this
theorem G4{xs:Array Nat}(h:Rs xs):xs.toList.Pairwise (· < ·):=zbI.mpr fun i k hi hk tP=>by
 have:=h i k tP (by simpa using hk)
 simpa using this
theorem U9{xs:Array Nat}(r:Rs xs)(e:xs[SetTable.below xs j]?≠some j):Rs (SetTable.insertAt xs (SetTable.below xs j) j):=by
 obtain⟨a,b,c⟩:=Ay r j;have hl:(SetTable.insertAt xs (SetTable.below xs j) j)=(xs.toList.take (SetTable.below xs j)++j::xs.toList.drop (SetTable.below xs j)).toArray:=by
  apply Array.toList_inj.mp
  simp[SetTable.insertAt,List.extract,zbh]
 rw[hl];refine G0<|List.pairwise_append.mpr ⟨(G4 r).sublist<|List.take_sublist _ _,zbU.mpr ⟨fun x hx=>?_,(G4 r).sublist<|List.drop_sublist _ _⟩,fun x hx y hy=>?_⟩
 ·obtain⟨i,hi,rfl⟩:=zbJ.mp hx
  simp only[zaT,zbc] at hi
  rw[List.getElem_drop,zbV];have h1:=c (SetTable.below xs j+i) (by omega) (by omega)
  rcases Nat.lt_or_eq_of_le h1 with h|h
  ·exact h
  ·exfalso
   rcases Nat.eq_zero_or_pos i with z|z
   ·subst z;exact e (by simp only[zbv] at h;rw[zaP (by omega),<-h])
   ·have h2:=c (SetTable.below xs j) (by omega) (zqR _)
    have h3:=r (SetTable.below xs j) (SetTable.below xs j+i) (by omega) (by omega)
    omega
 ·have G5:x<j:=by
   obtain⟨i,hi,rfl⟩:=zbJ.mp hx
   simp only[zau,zbc] at hi
   rw[List.getElem_take,zbV];exact b i (by omega) (by omega)
  rcases zab.mp hy with rfl|hy
  ·exact G5
  ·obtain⟨i,hi,rfl⟩:=zbJ.mp hy
   simp only[zaT,zbc] at hi
   rw[List.getElem_drop,zbV];exact zaw G5<|c _ (by omega) (by omega)
structure Tg (b:Bool) (t:SetTable):Prop where
 rs:Rs t.place
 du:t.dummies= #[]
 led:t.led=b
theorem Tg.fresh(b:Bool):Tg b (.fresh 0 0 b):=⟨fun i k _ hk=>absurd hk (by simp[SetTable.fresh]),rfl,rfl⟩
theorem Tg.wz{b:Bool}{t:SetTable}(h:Tg b t)(n:Nat):Tg b (t.standIn n):=⟨fun i k tP hk=>by simpa[SetTable.standIn] using tP,rfl,h.led⟩
theorem Tg.plain{b:Bool}{t:SetTable}(h:Tg b t)(p:Bool):Tg b {t with plain:=p}:=⟨h.rs,h.du,h.led⟩
theorem has_none(j:Nat):SetTable.has #[] j=false:=by simp[SetTable.has]
theorem U_{b:Bool}{t:SetTable}(h:Tg b t)(e:t.slot j=.empty):t.place[SetTable.below t.place j]?≠some j:=fun y=>by
 unfold SetTable.slot at e
 simp only[y,beq_self_eq_true,if_true] at e
 cases e
theorem G6{b:Bool}{t:SetTable}(h:Tg b t){f:Nat->Int}{k:Int}:∀(n:Nat) (p:SetTable.Probe) (j:Nat) (d:Option Nat),p.dummy=none->SetTable.probe.go t f k n p=some (.empty j d)->d=none/\t.slot j=.empty
 | 0,p,j,d,_,e=>by cases e
 |n+1,p,j,d,hp,e=>by
  unfold SetTable.probe.go at e;have Va:(t.advance p).dummy=none:=by unfold SetTable.advance;split<;>exact hp
  cases hs:t.slot p.j with
  |empty=>rw[hs] at e;cases e;exact⟨hp,hs⟩
  |dummy=>
   exfalso
   unfold SetTable.slot at hs;rw[h.du,has_none] at hs
   dsimp only at hs
   split at hs<;>cases hs
  |live i=>
   rw[hs] at e
   dsimp only at e
   split at e
   ·cases e
   ·exact G6 h n _ j d Va e
theorem Vb{b:Bool}{t:SetTable}(h:Tg b t)(es:Array (Int×Value))(k:Int)(x:Value):Tg b (layNew t es k x).2.1:=by
 unfold layNew;cases e:t.freeSlot k with
 |none=>exact h.wz _
 |some q=>
  obtain⟨sl,w⟩:=q
  dsimp only
  have hs:t.slot sl=.empty:=by
   unfold SetTable.freeSlot SetTable.probe at e
   split at e
   ·rename_i j d hj
    obtain⟨rfl,hs⟩:=G6 h _ _ _ _ rfl hj;cases e;exact hs
   ·cases e
  have hp:Tg b (t.put sl).1:=⟨U9 h.rs<|U_ h hs,by show(if _ then _ else _)=_;rw[h.du,has_none];rfl,h.led⟩
  unfold SetTable.orStandIn
  split
  ·exact hp
  ·exact hp.wz _
theorem Az(f:Nat->Option Nat):∀l:List Nat,(l.filterMap fun j=>(f j).map (j,·)).map (·.1)=l.filter fun j=>(f j).isSome
 |[]=>rfl
 |a::l=>by
  cases h:f a with
  |none=>simp[zbl,zbE,h,Az f l]
  |some y=>simp[zbl,zbE,h,Az f l]
theorem Vc{b:Bool}{t:SetTable}(h:Tg b t)(es:Array (Int×Value))(n:Nat):Tg b (relayAll t es n).2.1:=by
 unfold relayAll;cases e:t.relaid (es.map (·.1)) n with
 |none=>exact h.wz _
 |some q=>
  obtain⟨t',o⟩:=q
  dsimp only
  split
  ·unfold SetTable.relaid SetTable.laid at e;cases ho:SetTable.layClean (SetTable.sizeAbove n - 1) (es.map (·.1)) with
   |none=>rw[ho] at e;cases e
   |some ow=>
    rw[ho] at e
    simp only[Option.pure_def,Option.bind_eq_bind,zbG,Option.some.injEq,Prod.mk.injEq] at e
    obtain⟨e1,_⟩:=e;refine⟨?_,by rw[<-e1],by rw[<-e1];exact h.led⟩
    rw[<-e1];show Rs (List.map _ _).toArray;rw[Az fun j=>ow.getD j none];exact G0<|List.Pairwise.filter _ List.pairwise_lt_range
  ·exact h.wz _
end L2.ST
namespace L2.ST
open PySem PySem.Spec PyProof.Rows
def iv(e:Int×Value):Int:=match e.2 with|.int n _=>n|_=>0
structure eI (prog:Program) (w:World) (h:Heap) (a:Addr) (b:Bool) (ds:List Int) (n:Nat) (es:Array (Int×Value)) (ep:Nat) (t:SetTable):Prop where
 ob:h.get? a=some {cls:=.type "set",dict:=none,data:=.set es ep t,slots:= #[]}
 el:ElemsOf (intKind prog w) es.toList
 nd:(es.toList.map iv).Nodup
 me:∀k,k∈es.toList.map iv↔k∈ds
 le:es.size<=n
 ft:t.fits es.size=true
 tg:Tg b t
def SI(prog:Program)(w:World)(h:Heap)(a:Addr)(b:Bool)(ds:List Int)(n:Nat):Prop:= ∃es ep t,eI prog w h a b ds n es ep t
theorem AD{prog:Program}{w:World}{k:Int}{e:Int×Value}(h:(intKind prog w).is k e.2=true):iv e=k:=by
 obtain⟨t,h⟩:=Value.isInt_shape (show Value.isInt k e.2=true from h)
 unfold iv;rw[h]
theorem oZ{prog:Program}{w:World}{l:List (Int×Value)}(h:ElemsOf (intKind prog w) l){e:Int×Value}(he:e∈l):(intKind prog w).is (iv e) e.2=true:=by
 obtain⟨⟨k,hk,_⟩,_⟩:=h e he;rw[AD hk];exact hk
section
variable {prog:Program}{w:World}{A:Around}{E:Value->Shared->Prop}{s:Shared}{b:Bool}
theorem G7{g:Bool->Sem Unit}(hg:∀(c:Bool) (s₁:Shared) (Q':Unit->Shared->Prop),Q' () s₁->wpAny (model prog w) A (g c) Q' E s₁)
  {a:Addr}{es d3:Array (Int×Value)}{ep:Nat}{t t2:SetTable} (ho:s.heap.get? a=some {cls:=.type "set",dict:=none,data:=.set es ep t,slots:= #[]})
  (lJ:d3.size<scanBound) (tQ:t2.fits d3.size=true) (tg:Tg b t2) {wd:Bool}{R:Option Bool->Shared->Prop}
  (h:∀h' bU gY t',Heap.SameBut a s.heap h'->h'.get? a=some {cls:=.type "set",dict:=none,data:=.set bU gY t',slots:= #[]}->bU.toList.Perm d3.toList->t'.fits bU.size=true->Tg b t'->R (some true) {s with heap:=h'}):
  wpAny (model prog w) A (do
    storeSet a d3 t2
    if (!wd && t2.tooFull)=true then do
      g (relayAll t2 d3<|SetTable.grown d3.size).2.2
      storeSet a (relayAll t2 d3<|SetTable.grown d3.size).1 (relayAll t2 d3<|SetTable.grown d3.size).2.1
      pure (some true)
     else pure (some true)) R E s:=by
 have st:∀(hp:Heap) (G8 bU:Array (Int×Value)) (e0:Nat) (t0 t':SetTable),hp.get? a=some {cls:=.type "set",dict:=none,data:=.set G8 e0 t0,slots:= #[]}->(hp.update a<|Obj.putSet bU t').get? a=some {cls:=.type "set",dict:=none,data:=.set bU (e0+1) t',slots:= #[]}:=fun hp G8 bU e0 t0 t' e=>Heap.get?_update_self (Obj.putSet bU t') e rfl;refine wpAny_bind<|wpAny_storeSet_of ho rfl ?_<|fits_of_scanBound lJ;have o1:=st _ _ d3 _ _ t2 ho
 split
 ·have hp:=relayAll_perm t2 d3 (SetTable.grown d3.size);have hz:(relayAll t2 d3<|SetTable.grown d3.size).1.size=d3.size:=by have:=hp.length_eq;simpa using this
  exact wpAny_bind<|hg _ _ _<|wpAny_bind<|wpAny_storeSet_of o1 rfl (wpAny_pure<|h _ _ _ _ ((Heap.SameBut.update s.heap a _).trans<|Heap.SameBut.update _ a _) (st _ _ _ _ _ _ o1) hp (relayAll_fits t2 d3<|SetTable.grown d3.size)<|Vc tg _ _)<|fits_of_scanBound (by rw[hz];exact lJ)
 ·exact wpAny_pure (h _ _ _ _ (Heap.SameBut.update s.heap a _) o1 (List.Perm.refl _) tQ tg)
theorem Vd{a:Addr}{ds:List Int}{k:Int}{x:Value}{Q:Bool->Shared->Prop}(oh:(intKind prog w).is k x=true)(tR:x.scannable=true)(S:SI prog w s.heap a b ds n)(room:n+1<scanBound)
  (h:∀r h',Heap.SameBut a s.heap h'->SI prog w h' a b (k::ds) (n+1)->Q r {s with heap:=h'}):wpAny (model prog w) A (setAddHashed a x<|hashInt k) Q E s:=by
 obtain⟨es,ep,t,S⟩:=S;have le:=S.le;unfold setAddHashed setAddHashedIn;refine wpAny_holding<|wpAny_bind<|wpAny_setState_of S.ob rfl S.ft ?_
 dsimp only
 rw[byScan_of tR (by omega) S.el,if_pos rfl]
 unfold setAddByScan;refine wpAny_bind<|wpAny_bind<|wpAny_rule<|wpAny_bind<|wpAny_setScan_of oh S.ob rfl S.ft S.el ?_;cases hr:List.findIdx? (fun e=>(intKind prog w).is k e.2) es.toList with
 |some j=>
  dsimp only
  obtain⟨hj,Ve,_⟩:=List.findIdx?_eq_some_iff_getElem.mp hr;have tj:k∈ds:=(S.me k).mp (zax.mpr ⟨es.toList[j],zaF hj,AD Ve⟩);refine wpAny_pure<|wpAny_pure ?_;have:=h false s.heap (Heap.SameBut.refl a s.heap) ⟨es,ep,t,S.ob,S.el,S.nd,fun k'=>(S.me k').trans ⟨.tail _,fun y=>(zab.mp y).elim (fun e=>e ▸ tj) id⟩,by omega,S.ft,S.tg⟩
  cases s;exact this
 |none=>
  dsimp only
  have yI:k∉es.toList.map iv:=fun y=>by
   obtain⟨e,he,q⟩:=zax.mp y;have:=List.findIdx?_eq_none_iff.mp hr e he;rw[<-q,oZ S.el he] at this;cases this
  have AE:∀(c:Bool) (s₁:Shared) (Q':Unit->Shared->Prop),Q' () s₁->wpAny (model prog w) A (match c with|true=>rule "set.scan.the-table-gave-way" |false=>pure ()) Q' E s₁:=
   fun c s₁ Q' hq=>by cases c;exact wpAny_pure hq;exact wpAny_rule hq
  have hp:=layNew_perm t es (hashInt k) x;have hf:=layNew_fits t es (hashInt k) x;have tT:=Vb S.tg es (hashInt k) x;show wpAny _ _ (_>>=fun _=>_) _ _ _
  change wpAny _ _ (match layNew t es (hashInt k) x with|(es,t,wd,Vf)=>_) _ _ _
  generalize layNew t es (hashInt k) x=L at hp hf tT⊢;obtain⟨d3,t1,wd,Vf⟩:=L
  dsimp only at hp hf tT⊢
  rw[Array.toList_push] at hp;have hz:d3.size=es.size+1:=by have:=hp.length_eq;simpa using this
  have fin:∀h' bU gY t',Heap.SameBut a s.heap h'->h'.get? a=some {cls:=.type "set",dict:=none,data:=.set bU gY t',slots:= #[]}->bU.toList.Perm d3.toList->t'.fits bU.size=true->Tg b t'->Q true {s with heap:=h'}:=fun h' bU gY t' sb ob pm ft tg=>by
   have p2:=pm.trans hp;have p3:=p2.map iv;rw[zat] at p3;have ek:iv (hashInt k,x)=k:=AD oh;have z2:bU.size=es.size+1:=by have:=pm.length_eq;simpa[hz] using this
   refine h true h' sb ⟨bU,gY,t',ob,(S.el.push oh tR).perm p2,?_,fun k'=>?_,by omega,ft,tg⟩
   ·rw[p3.nodup_iff];refine List.nodup_append.mpr ⟨S.nd,by simp,fun x' hx y hy=>?_⟩
    rw[List.map_singleton,zaf,ek] at hy;rw[hy];exact fun e=>yI (e ▸ hx)
   ·rw[p3.mem_iff,zag,S.me k',List.map_singleton,zaf,ek,zab];exact Or.comm
  refine wpAny_bind<|AE _ _ _ ?_
  split
  ·rw[hashByValue_scannable 8 tR];refine wpAny_bind<|wpAny_pure ?_;refine G7 AE S.ob (by omega) ?_ ?_ fun h' bU gY t' sb ob pm ft tg=>wpAny_pure (fin h' bU gY t' sb ob pm ft tg)
   ·split
    ·exact hf
    ·exact SetTable.fits_plain_off hf
   ·split
    ·exact tT
    ·exact tT.plain false
  ·refine wpAny_bind (wpAny_pure ?_);rw[if_pos rfl];exact G7 AE S.ob (by omega) hf tT fun h' bU gY t' sb ob pm ft tg=>wpAny_pure (fin h' bU gY t' sb ob pm ft tg)
end
def nh(val:Nat->Int):Nat->List Int
 | 0=>[]
 |i+1=>val i::nh val i
theorem G9{val:Nat->Int}{k:Int}:∀{i:Nat},k∈nh val i↔ ∃j,j<i/\val j=k
 | 0=>⟨fun h=>(by cases h),fun⟨_,h,_⟩=>by omega⟩
 |i+1=>by
  rw[nh,zab,G9 (i:=i)]
  constructor
  ·rintro(e|⟨j,hj,e⟩)
   ·exact⟨i,by omega,e.symm⟩
   ·exact⟨j,by omega,e⟩
  ·rintro⟨j,hj,e⟩;rcases Nat.lt_or_ge j i with y|y
   ·exact .inr ⟨j,y,e⟩
   ·have:j=i:=by omega
    subst this;exact .inl e.symm
theorem SI.at{prog:Program}{w:World}{h h':Heap}{a:Addr}{b:Bool}{ds:List Int}(S:SI prog w h a b ds n)(e:∀o,h.get? a=some o->h'.get? a=some o):SI prog w h' a b ds n:=by
 obtain⟨es,ep,t,S⟩:=S;exact⟨es,ep,t,e _ S.ob,S.el,S.nd,S.me,S.le,S.ft,S.tg⟩
section
variable {prog:Program}{w:World}{A:Around}{R:Result->Shared->Prop}{I:Addr}{fp wr:List Addr}{G:Array GenState->Array GenState->Prop}{n:Nat}{P:Nat->Value->Prop}{St:Nat->Shared->Prop}{b:Bool}
theorem Vg(W:WalksS prog w A.in1 I fp wr G n P St)(S:Addr)(wA:S∉fp)(val:Nat->Int)(Vh:∀i v,P i v->∃t,v=.int (val i) t)(hb:n+1<scanBound):
  ∀(k i:Nat) (s:Shared),n - i=k->i<=n->St i s->SI prog w s.heap S b (nh val i) i->(∀s',Moved (S::wr) G s s'->SI prog w s'.heap S b (nh val n) n->R (.ok<|.ret .none) s')->
   codeAny (model prog w) A (.builtin "set.update.loop" ⟨[.ref S,.ref I],[]⟩) R s:=by
 have G_:S∉wr:=fun h=>wA (W.sub _ h);have hs:∀c∈wr,c∈S::wr:=fun c hc=>.tail _ hc;intro k
 induction k with
 |zero=>
  intro i s hk hi fH hS hR;have:i=n:=by omega
  subst this;refine codeAny_builtin PyProof.Rows.F.entry_set_update_loop ?_;rw[Around.under_plainId PyProof.Rows.F.plain_set_update_loop _];exact wpAny_bind (m:=pyNext (.ref I))<|W.done s _ _ fH fun s' hm=>wpAny_pure (hR s' (hm.mono hs)<|hS.at fun o e=>hm.heap S _ G_ e)
 |succ k ih=>
  intro i s hk hi fH hS hR;have aG:i<n:=by omega
  refine codeAny_builtin PyProof.Rows.F.entry_set_update_loop ?_;rw[Around.under_plainId PyProof.Rows.F.plain_set_update_loop _];refine wpAny_bind (m:=pyNext (.ref I))<|W.item i s _ _ aG fH fun v s' hP Vi hm=>?_;obtain⟨t,rfl⟩:=Vh i v hP;have lK:=hS.at fun o e=>hm.heap S o G_ e;show wpAny _ A.in1 (holding [Value.int (val i) t] (setAdd S<|.int (val i) t) >>=_) _ _ s';refine wpAny_bind<|wpAny_holding ?_;unfold setAdd;refine wpAny_holding<|wpAny_bind<|(intKind prog w).pyHash (k:=val i) (intKind_is _ _ _ _) ?_;refine Vd (s:={s' with toks:=s'.toks+1}) (k:=val i) (intKind_is _ _ _ _) rfl lK (by omega) fun r h' Ha Vj=>?_
  refine wpAny_pure ⟨plainId_quiet PyProof.Rows.F.plain_set_update_loop _,ih (i+1) _ (by omega) aG (W.frame _ s' _ _ Vi (zaL _) fun c hc o e=>?_) Vj fun fq Vk Vl=>?_⟩
  ·rw[Ha.2 c (fun h:c=S=>wA (by rw[<-h];exact hc))];exact e
  ·refine hR fq (Moved.trans W.gtrans ((hm.mono hs).then_heap (zaL _) fun c o hc e=>?_) Vk) Vl;rw[Ha.2 c (fun h:c=S=>hc (by rw[h];exact .head _))];exact e
end
def gw(w:World):Bool:=w.params.followText "set-order"
section
variable {prog:Program}{w:World}{A:Around}{E:Value->Shared->Prop}{s:Shared}
def nO(w:World):Obj:={cls:=.type "set",dict:=none,data:=.set #[] 0 (.fresh 0 0<|!gw w)}
theorem Vm(a:Value){Q₁:Value->Shared->Prop}(h:Q₁ (.ref s.heap.objs.size) {s with heap:=s.heap.push (nO w)}):
  codeAny (model prog w) A (.call (.builtin "set.__new__") ⟨[.type "set",a],[]⟩) (wants Q₁ E) s:=by
 refine codeAny_of_tree ?_;refine wpAny_bind (m:=checkBuiltinCall "set.__new__" ⟨[.type "set",a],[]⟩)<|wpAny_of_eq (PySem.F.newCall_set_1 a)<|wpAny_pure ⟨plainId_quiet PySem.F.plain_set_new _,codeAny_builtin PySem.F.entry_set_new ?_⟩;rw[Around.under_plainId PySem.F.plain_set_new _];unfold Builtin.«set.__new__» Builtin.Frozenset.newClass;have Vn:=sub_set_self;obtain⟨hp,g,d,tk,os⟩:=s
 dsimp only
 wp_walk
 refine wpAny_askSetting<|wpAny_pure ?_
 dsimp only
 simp only[newObj]
 exact wpAny_bind<|wpAny_alloc<|wpAny_pure<|wpAny_pure h
theorem Vo{h:Heap}{a:Addr}(e:h.get? a=some (nO w)):SI prog w h a (!gw w) [] 0:=
 ⟨#[],0,_,e,fun _ y=>by simp at y,by simp,fun k=>by simp,by simp,rfl,Tg.fresh _⟩
end
section
variable {prog:Program}{w:World}{A:Around}{E:Value->Shared->Prop}{s:Shared}
theorem Vp{l:Addr}{items:Array Value}{ns:List Int}{Q:Value->Shared->Prop}(hh:A.handled=none)(hl:s.heap.IsList l items)(hi:IntsAre items.toList ns)(hb:items.size+1<scanBound)
  (h:∀(h':Heap) (tk:Nat),SI prog w h' s.heap.objs.size (!gw w) (nh (fun i=>ns.getD i 0) items.size) items.size->
   (∀c o,s.heap.get? c=some o->h'.get? c=some o)->Q (.ref s.heap.objs.size) {s with heap:=h',toks:=tk}):
  wpAny (model prog w) A (call (.type "set") [.ref l]) Q E s:=by
 obtain⟨_,_,aeh⟩:=PySem.F.called_set.mro;have aei:=PySem.F.called_set.made;have Vn:=PySem.F.called_set.sub;refine wpAny_call<|codeAny_of_tree ?_;show wpAny _ _ (callAny (.type "set") _) _ _ _;refine wpAny_pure ⟨Code.quiet_builtin _ (by decide+kernel),codeAny_builtin PySem.F.entry_type_call ?_⟩
 rw[Around.under_plain (weight_type_call_type "set" [.ref l] []) rfl];have h1:=PySem.F.called_set.notType;have h2:=PySem.F.called_set.canCreate;have hct:=PySem.F.typeCall_set_1 (.ref l)
 repeat (any_goals (first|assumption|wp_step))
 refine codeAny_mono (Vm (.ref l) (E:=E) (Q₁:=fun u s₁=>u=.ref s.heap.objs.size/\s₁={s with heap:=s.heap.push (nO w)}) ⟨rfl,rfl⟩) fun r s₁ hr=>?_
 cases r with
 |error e=>exact hr
 |ok fl=>
  cases fl with
  |ret u=>
   obtain⟨rfl,rfl⟩:=hr;have hS:(s.heap.push<|nO w).get? s.heap.objs.size=some (nO w):=Heap.get?_push_size _ rfl;have hT:Shared.TypeIs {s with heap:=s.heap.push (nO w)} (.ref s.heap.objs.size) "set":=⟨_,hS,rfl⟩
   have hli:=PySem.F.called_set.init.lookup;have hbi:=PySem.F.called_set.init.bind (.ref s.heap.objs.size)
   repeat (any_goals (first|assumption|wp_step))
   refine codeAny_mono (codeAny_call_builtin (R:=wants (fun r s₂=>r=.none/\∃h' tk,s₂={s with heap:=h',toks:=tk}/\SI prog w h' s.heap.objs.size (!gw w) (nh (fun i=>ns.getD i 0) items.size) items.size/\∀c o,s.heap.get? c=some o->h'.get? c=some o) E) PySem.F.called_set.init.plain PySem.F.entry_set_init<|check_set_init_1 hT ?_) fun r₂ s₂ AF=>?_
   ·obtain⟨⟨aem,aen,aeo,aep⟩,qD,oB,nl,jg⟩:=hl
    simp only at oB jg
    subst oB;subst jg;have Vq:=Heap.get?_push_of_some (nO w) qD;have aeq:=PySem.F.sub_list_set;have aer:=PySem.F.sub_list_frozenset;have d6:(Value.type "list"==Value.type "dict")=false:=by decide
    have ck:(s.heap.push<|nO w).IsList l items:=⟨_,Vq,rfl,nl,rfl⟩;unfold Builtin.«set.__init__» noKeywords Builtin.Frozenset.updateFrom;generalize Vr:pyIter=PI
    wp_walk
    subst Vr;refine wpAny_pyIter_list ck<|wpAny_bind<|wpAny_runValue ?_;have Hb:l<s.heap.objs.size:=Heap.lt_size qD;have hsz:(s.heap.push<|nO w).objs.size=s.heap.objs.size+1:=Heap.size_push _ _;have Vs:l≠ (s.heap.push<|nO w).objs.size:=by rw[hsz];exact zae (zaN Hb)
    have wA:s.heap.objs.size∉ [(s.heap.push<|nO w).objs.size,l]:=by
     rw[hsz];simp only[zab,zac,or_false,not_or];exact⟨zae<|zaK _,Nat.ne_of_gt Hb⟩
    refine Vg (b:= !gw w) ((Walks.list (by simp[hh]) _ l Vs items).toS) s.heap.objs.size wA (fun i=>ns.getD i 0) (fun i v hv=>IntsAre.int_at hi i v (by rw[Array.getElem?_toList];exact hv)) hb (items.size - 0) 0 _ (by omega) (zqZ _)
     ⟨⟨_,Heap.get?_push_size _ rfl,rfl,rfl⟩,(ck.push _)⟩ (Vo<|Heap.get?_push_of_some _ hS) ?_
    intro s' hm lK;obtain⟨h',g',d',Vt,yB⟩:=s';have eg:g'=s.gens:=hm.gens;have ed:d'=s.drawn:=hm.drawn;have eo:yB=s.os:=hm.os;subst eg;subst ed;subst eo;show wpAny _ _ _ _ _ _;refine wpAny_pure<|wpAny_pure ⟨rfl,h',Vt,rfl,lK,fun c o e=>?_⟩;have hc:=Heap.lt_size e;refine hm.heap c o (fun y=>?_)<|Heap.get?_push_of_some _<|Heap.get?_push_of_some _ e
    simp only[zab,zac,or_false] at y
    rcases y with y|y
    ·exact absurd hc (by rw[y];exact zaD _)
    ·exact absurd hc (by rw[y,hsz];exact zbK (zaL _))
   ·cases r₂ with
    |error e=>exact AF
    |ok Vu=>
     cases Vu with
     |ret r=>
      obtain⟨rfl,h',tk,rfl,lK,lg⟩:=AF
      repeat (any_goals (first|assumption|wp_step))
      exact h _ _ lK lg
     |_=>exact AF.elim
  |_=>exact hr.elim
end
theorem Vv:entryFor table "set.__iter__"=some Builtin.«frozenset.__iter__»:=entryFor_alias (id':="frozenset.__iter__") (by kernel_rfl) rfl (by decide+kernel) (by kernel_rfl)
theorem j6:Slot "set_iterator" "__next__" "set_iterator.__next__":=
 .of (owner:="set_iterator") (n:="__next__") (by rw[typeLookup_type,builtinLookup_eq_fast];kernel_rfl) (by decide+kernel) (by decide+kernel) (by decide+kernel) (.inl (by decide+kernel)) (by rw[isSubtype_type];kernel_rfl)
theorem Hc:Slot "set_iterator" "__iter__" "set_iterator.__iter__":=
 .of (owner:="set_iterator") (n:="__iter__") (by rw[typeLookup_type,builtinLookup_eq_fast];kernel_rfl) (by decide+kernel) (by decide+kernel) (by decide+kernel) (.inl (by decide+kernel)) (by rw[isSubtype_type];kernel_rfl)
theorem wB:entryFor table "set_iterator.__next__"=some Builtin.«set_iterator.__next__»:=entryFor_of_tree (by kernel_rfl)
theorem He:Manifest.owners.lookup (String.ofList ['r','o','t','a','r','e','t','i','_','t','e','s'].reverse)=some Manifest.sig_set_iterator:=by kernel_rfl
theorem wD(a:Value):argsOk "set_iterator.__next__" ⟨[a],[]⟩:=by
 unfold argsOk;rw[signature?_of (id:="set_iterator.__next__") (n:=['_','_','t','x','e','n','_','_']) (o:=['r','o','t','a','r','e','t','i','_','t','e','s']) (by kernel_rfl) He];kernel_rfl
theorem era{α:Type}:∀(l:List α) (i:Nat) (h:i<l.length),(l[i]::l.eraseIdx i).Perm l
 |[],i,h=>by simp at h
 |a::l,0,h=>by simp
 |a::l,i+1,h=>by
  simp only[List.getElem_cons_succ,List.eraseIdx_cons_succ]
  exact(List.Perm.swap _ _ _).trans<|(era l i (by simpa using h)).cons a
section
variable {M:Model}{A:Around}{E:Value->Shared->Prop}
theorem Hf{α:Type}:∀(n:Nat) (xs:List α) {s:Shared}{Q:List α->Shared->Prop},xs.length=n->(∀ys d,ys.Perm xs->Q ys {s with drawn:=d})->wpAny M A (drawOrder n xs) Q E s
 | 0,xs,s,Q,hl,h=>by
  have:xs=[]:=List.eq_nil_of_length_eq_zero hl;subst this;unfold drawOrder;exact wpAny_pure<|h [] s.drawn<|List.Perm.refl _
 |n+1,[],s,Q,hl,h=>by simp at hl
 |n+1,x::xs,s,Q,hl,h=>by
  unfold drawOrder;refine wpAny_bind (m:=choose .order (x::xs).length)<|fun Γ p hΓ=>?_;refine⟨by simp,?_⟩
  have aG:=Nat.mod_lt (M.w.draws .order<|s.drawn.get .order) (show 0< (x::xs).length by simp)
  generalize M.w.draws .order (s.drawn.get .order) % (x::xs).length=i at aG;show wpAny M A _ Q E {s with drawn:=s.drawn.bump .order}
  rw[zay aG]
  dsimp only
  refine wpAny_bind<|Hf n _ (by rw[List.length_eraseIdx_of_lt aG];omega) fun ys d hp=>?_
  exact wpAny_pure<|h _ _<|(hp.cons _).trans<|era _ _ aG
end
theorem Hg{α:Type}(nx:Nat->Nat):∀(f k:Nat) (l:List α) (o:Array α),l.length=f->∃ys:List α,ys.Perm l/\pickOrder.go nx f k l o=o++ys.toArray
 | 0,k,l,o,h=>⟨[],by rw[List.eq_nil_of_length_eq_zero h],by unfold pickOrder.go;simp⟩
 |f+1,k,l,o,h=>by
  have aG:=Nat.mod_lt (nx k) (show 0<l.length by omega)
  unfold pickOrder.go;rw[zay aG]
  dsimp only
  obtain⟨ys,p,e⟩:=Hg nx f (k+1) (l.eraseIdx<|nx k % l.length) (o.push l[nx k % l.length]) (by rw[List.length_eraseIdx_of_lt aG];omega)
  refine⟨l[nx k % l.length]::ys,(p.cons _).trans<|era _ _ aG,?_⟩;rw[e]
  apply Array.toList_inj.mp
  simp
theorem Vw{α:Type}(nx:Nat->Nat)(xs:Array α):(pickOrder nx xs).toList.Perm xs.toList:=by
 obtain⟨ys,p,e⟩:=Hg nx xs.size 0 xs.toList #[] (by simp)
 unfold pickOrder;rw[e]
 simpa using p
section
variable {prog:Program}{w:World}{A:Around}{E:Value->Shared->Prop}{s:Shared}
theorem Vx{r:Addr}{Q:Bool->Shared->Prop}(hT:s.TypeIs (.ref r) "set")(h:Q false s):wpAny (model prog w) A (Builtin.List.listLengthHint<|.ref r) Q E s:=by
 unfold Builtin.List.listLengthHint;refine wpAny_bind<|wpAny_specialOf hT PySem.F.slot_set_len.lookup ?_;generalize Hh:("set.__len__":String)=Vy
 wp_delta
 rw[show splitId Vy=some ("set","__len__") from by subst Hh;decide+kernel]
 subst Hh;refine wpAny_bind<|wpAny_isInstance (T:="set") (b:=true) hT (by rw[isSubtype_type];kernel_rfl) ?_
 refine wpAny_ite_split (fun y=>absurd y (by decide))<|fun _=>wpAny_ite_split (fun _=>wpAny_bind<|wpAny_typeOf hT<|wpAny_pure h)<|fun y=>absurd (by decide+kernel) y
end
def jn(f:Value)(i n ep:Nat)(S:Addr):Obj:={cls:=.type "set_iterator",dict:=none,data:=.fields #[f,.int i 0,.ref S,.int n 0,.int ep 0],slots:= #[]}
section
variable {prog:Program}{w:World}{A:Around}{E:Value->Shared->Prop}{s:Shared}{S I:Addr}{b:Bool}{ds:List Int}{n:Nat}{es:Array (Int×Value)}{ep:Nat}{t:SetTable}
theorem wF{Q:Bool->Shared->Prop}(h:Q (gw w) s):wpAny (model prog w) A setsByText Q E s:=by
 unfold setsByText;exact wpAny_bind<|wpAny_askSetting<|wpAny_pure h
theorem nextT{c:Nat}{Q:Option (Value×Nat)->Shared->Prop}(hS:eI prog w s.heap S b ds n es ep t)(hb:gw w=true)(h:Q (((pickOrder (w.params.setOrder S ep) es)[i]?).map fun e=>(e.2,c)) s):wpAny (model prog w) A (setNext S c i ep) Q E s:=by
 unfold setNext;refine wpAny_bind<|wpAny_setState_of hS.ob rfl hS.ft ?_
 dsimp only
 refine wpAny_bind<|wF ?_;rw[hb,if_pos rfl];refine wpAny_ite_split (fun y=>absurd y (by simp)) fun _=>?_
 unfold setWalk;refine wpAny_bind<|wpAny_bind<|wpAny_setState_of hS.ob rfl hS.ft ?_
 dsimp only
 refine wpAny_bind<|wF ?_;rw[hb,if_pos rfl];exact wpAny_bind<|wpAny_askSetting<|wpAny_pure<|wpAny_pure h
theorem Vz{c:Nat}{Q:Option (Value×Nat)->Shared->Prop}(hS:eI prog w s.heap S b ds n es ep t)(hb:gw w=false)(hd:(!t.plain && decide (es.size>1))=false)(hl:t.led=true)
  (h:Q (match es[SetTable.below t.place c]?,t.place[SetTable.below t.place c]? with|some (_,x),some j=>some (x,j+1)|_,_=>none) s):wpAny (model prog w) A (setNext S c i ep) Q E s:=by
 unfold setNext;refine wpAny_bind<|wpAny_setState_of hS.ob rfl hS.ft ?_
 dsimp only
 refine wpAny_bind<|wF ?_;rw[hb,if_neg (by decide)]
 refine wpAny_ite_split (fun y=>absurd (show(!t.plain && decide (es.size>1))=true from y) (by rw[hd];decide)) fun _=>?_
 refine wpAny_bind<|wpAny_ite_split (fun y=>absurd (show(!t.led && !es.isEmpty)=true from y) (by rw[hl];simp)) fun _=>wpAny_pure ?_
 exact wpAny_pure h
end
section
variable {prog:Program}{w:World}{A:Around}{E:Value->Shared->Prop}{s:Shared}{S I:Addr}{b:Bool}{ds:List Int}{n:Nat}{es:Array (Int×Value)}{ep:Nat}{t:SetTable}
theorem VA{c c':Nat}{x:Value}{Q:Option Value->Shared->Prop}(ho:s.heap.get? I=some (jn (.int c 0) i es.size ep S))(hS:eI prog w s.heap S b ds n es ep t)
  (hn:∀(A':Around) (E':Value->Shared->Prop) (Q':Option (Value×Nat)->Shared->Prop),Q' (some (x,c')) s->wpAny (model prog w) A' (setNext S c i ep) Q' E' s)
  (hQ:∀h',h'.get? I=some (jn (.int c' 0) (i+1) es.size ep S)->Heap.SameBut I s.heap h'->Q (some x) {s with heap:=h'}):wpAny (model prog w) A (pyNext<|.ref I) Q E s:=by
 have hT:s.TypeIs (.ref I) "set_iterator":=⟨_,ho,rfl⟩;unfold pyNext;refine wpAny_bind<|wpAny_attempt<|wpAny_callSpecial?_slot (name:=Str.ofString "__next__") hT j6<|wpAny_call_entry j6 hT wB ?_<|wD _;unfold Builtin.«set_iterator.__next__»;refine wpAny_bind (m:=slotArgs "__next__" 0 _)<|wpAny_pure ?_;refine wpAny_bind<|wpAny_fieldsOf ho rfl ?_;refine wpAny_bind<|wpAny_setEntries_of hS.ob rfl hS.ft ?_;refine wpAny_ite_split (fun y=>absurd y (by simp)) fun _=>?_
 refine wpAny_bind<|hn _ _ _ ?_;refine wpAny_bind<|wpAny_setField_rec ho (by simp) fun h1 o1 b1=>?_
 refine wpAny_bind<|wpAny_setField_rec o1 (by simp) fun h2 o2 b2=>?_
 refine wpAny_pure ⟨_,rfl,?_⟩;refine wpAny_pure<|hQ h2 ?_<|b1.trans b2;rw[o2]
 rfl
theorem Hi{M:Model}{E':Value->Shared->Prop}{β:Type}{Q':β->Shared->Prop}(hh:A.handled=none)
  (h:∀h' u,Shared.TypeIs {s with heap:=h'} u "StopIteration"->(∀c o,s.heap.get? c=some o->h'.get? c=some o)->E' u {s with heap:=h'}):wpAny M A (newExc (.type "StopIteration") [] >>=fun e=>(raiseNew e:Sem β)) Q' E' s:=by
 refine wpAny_bind ?_
 simp only[newExc,newTuple]
 refine wpAny_bind<|wpAny_newObj_type ?_ (by size_fits)
 refine wpAny_bind (m:=firstArgMember _ _)<|wpAny_of_eq (a:=Value.none) (by first|rfl| (simp only[firstArgMember];rfl)) ?_
 refine wpAny_newObj_type ?_ (by size_fits)
 simp only[raiseNew]
 refine wpAny_bind<|wpAny_handled ?_;rw[hh];refine wpAny_bind<|wpAny_pure<|wpAny_throw ?_;refine h _ _ ?_ fun c o e=>Heap.get?_push_of_some _ (Heap.get?_push_of_some _ e);exact⟨_,Heap.get?_push_size _ rfl,rfl⟩
theorem VB{c:Nat}{Q:Option Value->Shared->Prop}(hh:A.handled=none)(ho:s.heap.get? I=some (jn (.int c 0) i es.size ep S))(hS:eI prog w s.heap S b ds n es ep t)
  (hn:∀(A':Around) (E':Value->Shared->Prop) (Q':Option (Value×Nat)->Shared->Prop),Q' none s->wpAny (model prog w) A' (setNext S c i ep) Q' E' s)
  (hQ:∀h',(∀c o,c≠I->s.heap.get? c=some o->h'.get? c=some o)->Q none {s with heap:=h'}):wpAny (model prog w) A (pyNext<|.ref I) Q E s:=by
 have hT:s.TypeIs (.ref I) "set_iterator":=⟨_,ho,rfl⟩;unfold pyNext;refine wpAny_bind<|wpAny_attempt<|wpAny_callSpecial?_slot (name:=Str.ofString "__next__") hT j6<|wpAny_call_entry j6 hT wB ?_<|wD _;unfold Builtin.«set_iterator.__next__»;refine wpAny_bind (m:=slotArgs "__next__" 0 _)<|wpAny_pure ?_;refine wpAny_bind<|wpAny_fieldsOf ho rfl ?_;refine wpAny_bind<|wpAny_setEntries_of hS.ob rfl hS.ft ?_;refine wpAny_ite_split (fun y=>absurd y (by simp)) fun _=>?_
 refine wpAny_bind<|hn _ _ _ ?_;refine wpAny_bind<|wpAny_setField_rec ho (by simp) fun h1 o1 b1=>?_
 refine Hi (by simpa using hh) fun h' u hu k=>?_
 refine wpAny_bind<|wpAny_isInstance (T:="StopIteration") (b:=true) hu isSubtype_stop ?_;exact wpAny_pure<|hQ h' fun c o hc e=>k c o (by rw[b1.2 c hc];exact e)
end
def ni(pl:List Nat):Obj:={cls:=.type "tuple",data:=.seq (pl.map fun i:Nat=>rawInt i).toArray}
section
variable {prog:Program}{w:World}{A:Around}{E:Value->Shared->Prop}{s:Shared}{S I P:Addr}{b:Bool}{ds:List Int}{n:Nat}{es:Array (Int×Value)}{ep:Nat}{t:SetTable}{pl:List Nat}
theorem VC{e:Int×Value}{Q:Value->Shared->Prop}(hS:eI prog w s.heap S b ds n es ep t)(he:es[j]?=some e)(h:Q e.2 s):wpAny (model prog w) A (setNextDrawn S j ep) Q E s:=by
 unfold setNextDrawn;refine wpAny_bind<|wpAny_setState_of hS.ob rfl hS.ft ?_
 dsimp only
 refine wpAny_ite_split (fun y=>absurd y (by simp)) fun _=>?_
 rw[he];exact wpAny_pure h
theorem VD{e:Int×Value}{Q:Option Value->Shared->Prop}(ho:s.heap.get? I=some (jn (.ref P) i es.size ep S))(hS:eI prog w s.heap S b ds n es ep t)(hP:s.heap.get? P=some (ni pl))(hj:pl[i]?=some j)(he:es[j]?=some e)
  (hQ:∀h',h'.get? I=some (jn (.ref P) (i+1) es.size ep S)->Heap.SameBut I s.heap h'->Q (some e.2) {s with heap:=h'}):wpAny (model prog w) A (pyNext<|.ref I) Q E s:=by
 have hT:s.TypeIs (.ref I) "set_iterator":=⟨_,ho,rfl⟩;unfold pyNext;refine wpAny_bind<|wpAny_attempt<|wpAny_callSpecial?_slot (name:=Str.ofString "__next__") hT j6<|wpAny_call_entry j6 hT wB ?_<|wD _;unfold Builtin.«set_iterator.__next__»;refine wpAny_bind (m:=slotArgs "__next__" 0 _)<|wpAny_pure ?_;refine wpAny_bind<|wpAny_fieldsOf ho rfl ?_;refine wpAny_bind<|wpAny_setEntries_of hS.ob rfl hS.ft ?_;refine wpAny_ite_split (fun y=>absurd y (by simp)) fun _=>?_
 refine wpAny_bind (m:=seqItems? (.ref P))<|wpAny_bind<|wpAny_load hP<|wpAny_pure ?_;have hp:(pl.map fun i:Nat=>rawInt i).toArray[(i:Int).toNat]?=some (rawInt j):=by simp[hj]
 dsimp only[ni]
 rw[hp];refine wpAny_bind<|VC (j:=j) hS he ?_;refine wpAny_bind<|wpAny_setField_rec ho (by simp) fun h2 o2 b2=>?_
 refine wpAny_pure ⟨_,rfl,?_⟩;refine wpAny_pure<|hQ h2 ?_ b2;rw[o2]
 rfl
theorem VE{Q:Option Value->Shared->Prop}(hh:A.handled=none)(ho:s.heap.get? I=some (jn (.ref P) i es.size ep S))(hS:eI prog w s.heap S b ds n es ep t)(hP:s.heap.get? P=some (ni pl))(hj:pl[i]?=none)
  (hQ:∀h',(∀c o,c≠I->s.heap.get? c=some o->h'.get? c=some o)->Q none {s with heap:=h'}):wpAny (model prog w) A (pyNext<|.ref I) Q E s:=by
 have hT:s.TypeIs (.ref I) "set_iterator":=⟨_,ho,rfl⟩;unfold pyNext;refine wpAny_bind<|wpAny_attempt<|wpAny_callSpecial?_slot (name:=Str.ofString "__next__") hT j6<|wpAny_call_entry j6 hT wB ?_<|wD _;unfold Builtin.«set_iterator.__next__»;refine wpAny_bind (m:=slotArgs "__next__" 0 _)<|wpAny_pure ?_;refine wpAny_bind<|wpAny_fieldsOf ho rfl ?_;refine wpAny_bind<|wpAny_setEntries_of hS.ob rfl hS.ft ?_;refine wpAny_ite_split (fun y=>absurd y (by simp)) fun _=>?_
 refine wpAny_bind (m:=seqItems? (.ref P))<|wpAny_bind<|wpAny_load hP<|wpAny_pure ?_;have hp:(pl.map fun i:Nat=>rawInt i).toArray[(i:Int).toNat]?=none:=by simpa using hj
 dsimp only[ni]
 rw[hp];refine wpAny_bind<|wpAny_setField_rec ho (by simp) fun h1 o1 b1=>?_
 refine wpAny_bind<|wpAny_setField_rec o1 (by simp) fun h2 o2 b2=>?_
 refine Hi (by simpa using hh) fun h' u hu k=>?_
 refine wpAny_bind<|wpAny_isInstance (T:="StopIteration") (b:=true) hu isSubtype_stop ?_;exact wpAny_pure<|hQ h' fun c o hc e=>k c o (by rw[b2.2 c hc,b1.2 c hc];exact e)
end
theorem VF:entryFor table "set_iterator.__iter__"=some Builtin.«dict_keyiterator.__iter__»:=entryFor_alias (id':="dict_keyiterator.__iter__") (by kernel_rfl) rfl (by decide+kernel) (by kernel_rfl)
theorem VG(a:Value):argsOk "set_iterator.__iter__" ⟨[a],[]⟩:=by
 unfold argsOk;rw[signature?_of (id:="set_iterator.__iter__") (n:=['_','_','r','e','t','i','_','_']) (o:=['r','o','t','a','r','e','t','i','_','t','e','s']) (by kernel_rfl) He];kernel_rfl
theorem eI.at{prog:Program}{w:World}{h h':Heap}{a:Addr}{b:Bool}{ds:List Int}{es:Array (Int×Value)}{ep:Nat}{t:SetTable}(S:eI prog w h a b ds n es ep t)(e:∀o,h.get? a=some o->h'.get? a=some o):eI prog w h' a b ds n es ep t:=
 ⟨e _ S.ob,S.el,S.nd,S.me,S.le,S.ft,S.tg⟩
section
variable {prog:Program}{w:World}{A:Around}{E:Value->Shared->Prop}{s:Shared}{S I P:Addr}{b:Bool}{ds:List Int}{n:Nat}{es:Array (Int×Value)}{ep:Nat}{t:SetTable}{pl:List Nat}
theorem Hj{f:Value}{Q:Value->Shared->Prop}(ho:s.heap.get? I=some (jn f i es.size ep S))(h:Q (.ref I) s):wpAny (model prog w) A (pyIter<|.ref I) Q E s:=by
 have hT:s.TypeIs (.ref I) "set_iterator":=⟨_,ho,rfl⟩;refine wpAny_pyIter_slot hT Hc<|wpAny_call_entry Hc hT VF ?_<|VG _;exact wpAny_bind (m:=slotArgs "__iter__" 0 _)<|wpAny_pure<|wpAny_pure ⟨_,rfl,"set_iterator",_,hT,j6.lookup,h⟩
theorem VH(hh:A.handled=none)(c:Nat->Nat)(od:Array Value)(d6:S≠I)
  (hn:∀i (s:Shared),i<=od.size->eI prog w s.heap S b ds n es ep t->∀(A':Around) (E':Value->Shared->Prop) (Q':Option (Value×Nat)->Shared->Prop),Q' ((od[i]?).map fun x=>(x,c<|i+1)) s->wpAny (model prog w) A' (setNext S (c i) i ep) Q' E' s):
  Walks prog w A I [I,S] [I] od.size (fun i v=>od[i]?=some v) (fun i h=>h.get? I=some (jn (.int (c i) 0) i es.size ep S)/\eI prog w h S b ds n es ep t) where
 sub:=fun b hb=>by simp at hb;simp[hb]
 frame:=fun i h h' st k=>⟨k I (by simp) _ st.1,st.2.at fun o e=>k S (by simp) o e⟩
 item:=fun i s Q E hi st hQ=>by
  have ex:od[i]?=some od[i]:=zaP hi;refine VA (c':=c (i+1)) (x:=od[i]) st.1 st.2 (fun A' E' Q' q=>hn i s (zbb hi) st.2 A' E' Q' (by rw[ex];exact q)) fun h' o' sb=>?_
  exact hQ _ h' s.toks ex ⟨o',st.2.at fun o e=>by rw[sb.2 S d6];exact e⟩ fun z o hz e=>by rw[sb.2 z fun y=>hz (by simp[y])];exact e
 done:=fun s Q E st hQ=>by
  refine VB hh st.1 st.2 (fun A' E' Q' q=>hn _ s (zqR _) st.2 A' E' Q' (by rw[zbL<|zqR _];exact q)) fun h' k=>?_
  exact hQ h' s.toks fun z o hz e=>k z o (fun y=>hz (by simp[y])) e
 self:=fun i s Q E st hQ=>Hj st.1 hQ
theorem VI(hh:A.handled=none)(d6:S≠I)(VJ:P≠I)(hp:∀i∈pl,i<es.size)(od:Array Value)(ho:od=(pl.map fun j=>(es.getD j (0,.none)).2).toArray):
  Walks prog w A I [I,S,P] [I] od.size (fun i v=>od[i]?=some v) (fun i h=>h.get? I=some (jn (.ref P) i es.size ep S)/\eI prog w h S b ds n es ep t/\h.get? P=some (ni pl)) where
 sub:=fun b hb=>by simp at hb;simp[hb]
 frame:=fun i h h' st k=>⟨k I (by simp) _ st.1,st.2.1.at fun o e=>k S (by simp) o e,k P (by simp) _ st.2.2⟩
 item:=fun i s Q E hi st hQ=>by
  have hl:i<pl.length:=by rw[ho] at hi;simpa using hi
  have hj:=hp pl[i] (zaF hl);have he:es[pl[i]]?=some es[pl[i]]:=zaP hj;refine VD (j:=pl[i]) (e:=es[pl[i]]) st.1 st.2.1 st.2.2 (zay hl) he fun h' o' sb=>?_;refine hQ _ h' s.toks ?_ ⟨o',st.2.1.at fun o e=>by rw[sb.2 S d6];exact e,by rw[sb.2 P VJ];exact st.2.2⟩ fun z o hz e=>by rw[sb.2 z fun y=>hz (by simp[y])];exact e
  rw[ho]
  simp[hl,Array.getD,hj]
 done:=fun s Q E st hQ=>by
  refine VE hh st.1 st.2.1 st.2.2 (by rw[ho];simp) fun h' k=>?_
  exact hQ h' s.toks fun z o hz e=>k z o (fun y=>hz (by simp[y])) e
 self:=fun i s Q E st hQ=>Hj st.1 hQ
end
theorem getD_map{es:Array (Int×Value)}:((List.range es.size).map fun j=>(es.getD j (0,.none)).2)=es.toList.map (·.2):=by
 apply List.ext_getElem
 ·simp
 ·intro i h1 h2
  simp at h1
  simp[Array.getD,h1]
section
variable {prog:Program}{w:World}{A:Around}{E:Value->Shared->Prop}{s:Shared}{S:Addr}{ds:List Int}{n:Nat}{es:Array (Int×Value)}{ep:Nat}{t:SetTable}
theorem VL{Q:Value->Shared->Prop}(hh:A.handled=none)(hS:eI prog w s.heap S (!gw w) ds n es ep t)(hz:es.size<=4096)
  (h:∀(h1:Heap) (d1:Drawn) (I:Addr) (fp:List Addr) (od:Array Value) (St:Nat->Heap->Prop),(∀c o,s.heap.get? c=some o->h1.get? c=some o)->(∀x∈fp,x=S\/s.heap.objs.size<=x)->s.heap.objs.size<=I->od.toList.Perm (es.toList.map (·.2))->
   Walks prog w A I fp [I] od.size (fun i v=>od[i]?=some v) St->St 0 h1->Q (.ref I) {s with heap:=h1,drawn:=d1}):wpAny (model prog w) A (pyIter (.ref S)) Q E s:=by
 have hT:s.TypeIs (.ref S) "set":=⟨_,hS.ob,rfl⟩;have aG:=Heap.lt_size hS.ob;have cz:t.place.size=es.size:=by have:=hS.ft;simp only[SetTable.fits,zad,beq_iff_eq] at this;exact this.1
 refine wpAny_pyIter_slot hT PySem.F.slot_set_iter<|wpAny_call_entry PySem.F.slot_set_iter hT Vv ?_<|PySem.F.args_set_iter_1 _;unfold Builtin.«frozenset.__iter__»;refine wpAny_bind (m:=Builtin.Frozenset.slot0 "__iter__" _)<|wpAny_pure ?_;unfold Builtin.Frozenset.sizeOf;refine wpAny_bind<|wpAny_bind<|wpAny_setEntries_of hS.ob rfl hS.ft<|wpAny_pure ?_;unfold setDrawn;refine wpAny_bind<|wpAny_bind<|wpAny_setState_of hS.ob rfl hS.ft ?_
 dsimp only
 refine wpAny_bind<|wF<|wpAny_pure ?_;have made:∀(f:Value) (s1:Shared) (fp:List Addr) (od:Array Value) (St:Nat->Heap->Prop),eI prog w s1.heap S (!gw w) ds n es ep t->s1={s with heap:=s1.heap,drawn:=s1.drawn}->(∀c o,s.heap.get? c=some o->s1.heap.get? c=some o)->(∀x∈fp,x=S\/s.heap.objs.size<=x)->s.heap.objs.size<=s1.heap.objs.size->od.toList.Perm (es.toList.map (·.2))->
   Walks prog w A s1.heap.objs.size fp [s1.heap.objs.size] od.size (fun i v=>od[i]?=some v) St->St 0 (s1.heap.push<|jn f 0 es.size ep S)->
   wpAny (model prog w) A.in1 (do let e <-setEpoch S;let o <-newFields "set_iterator" [f,rawInt 0,.ref S,rawInt es.size,rawInt e];ret o) (fun fin s'=>∃v,fin=Fin.done (Flow.ret v)/\∃T' r,s'.TypeIs v T'/\typeLookup (.type T') "__next__"=pure (some r)/\Q v s') E s1:=by
  intro f s1 fp od St Hk e1 k1 AG hI iN W st;refine wpAny_bind<|wpAny_setEpoch_of Hk.ob rfl Hk.ft ?_;refine wpAny_bind<|wpAny_newObj_type ?_;refine wpAny_pure ⟨_,rfl,"set_iterator",_,⟨_,Heap.get?_push_size _ rfl,rfl⟩,j6.lookup,?_⟩;have:=h (s1.heap.push<|jn f 0 es.size ep S) s1.drawn s1.heap.objs.size fp od St (fun c o e=>Heap.get?_push_of_some _<|k1 c o e) AG hI iN W st;rw[e1];exact this
 have here:∀(c:Nat->Nat) (od:Array Value),c 0=0->od.toList.Perm (es.toList.map (·.2))->(∀i (s:Shared),i<=od.size->eI prog w s.heap S (!gw w) ds n es ep t->∀(A':Around) (E':Value->Shared->Prop) (Q':Option (Value×Nat)->Shared->Prop),Q' ((od[i]?).map fun x=>(x,c<|i+1)) s->wpAny (model prog w) A' (setNext S (c i) i ep) Q' E' s)->
   wpAny (model prog w) A.in1 (do let e <-setEpoch S;let o <-newFields "set_iterator" [rawInt 0,rawInt 0,.ref S,rawInt es.size,rawInt e];ret o) (fun fin s'=>∃v,fin=Fin.done (Flow.ret v)/\∃T' r,s'.TypeIs v T'/\typeLookup (.type T') "__next__"=pure (some r)/\Q v s') E s:=by
  intro c od c0 iN hn;refine made (rawInt 0) s [s.heap.objs.size,S] od _ hS rfl (fun _ _ e=>e) (fun x hx=>?_) (zqR _) iN (VH hh c od (zae aG) hn) ⟨?_,hS.at fun o e=>Heap.get?_push_of_some _ e⟩
  ·simp only[zab,zac,or_false] at hx
   exact hx.elim (fun e=>.inr<|zbd e.symm) .inl
  ·rw[c0];exact Heap.get?_push_size _ rfl
 cases hb:gw w with
 |true=>
  rw[hb] at hS made here;refine wpAny_ite_split (fun y=>absurd y (by simp)) fun _=>?_
  refine here (fun _=>0) ((pickOrder (w.params.setOrder S ep) es).map (·.2)) rfl ?_ fun i s' hi lK A' E' Q' q=>nextT lK hb ?_
  ·rw[Array.toList_map];exact(Vw _ es).map _
  ·rw[Array.getElem?_map,Option.map_map] at q;exact q
 |false=>
  rw[hb] at hS made here;cases hd:(!t.plain && decide (es.size>1)) with
  |true=>
   refine wpAny_ite_split (fun _=>?_) fun y=>absurd (show(!false && (!t.plain && decide (es.size>1)))=true by rw[hd];rfl) y
   refine wpAny_bind<|Hf es.size (List.range es.size) zbu fun ys d hp=>?_;refine wpAny_bind<|wpAny_newTuple ?_ (by rw[zaa,hp.length_eq,zbu];exact zar hz (by decide))
   have iN:((ys.map fun j=>(es.getD j (0,.none)).2).toArray).toList.Perm (es.toList.map (·.2)):=by
    have:=hp.map fun j=>(es.getD j (0,.none)).2;rw[getD_map] at this
    simpa using this
   have wG:(s.heap.push<|ni ys).objs.size=s.heap.objs.size+1:=Heap.size_push _ _;refine made (.ref s.heap.objs.size) {s with heap:=s.heap.push (ni ys),drawn:=d} [(s.heap.push<|ni ys).objs.size,S,s.heap.objs.size] _ _ (hS.at fun o e=>Heap.get?_push_of_some _ e) rfl (fun c o e=>Heap.get?_push_of_some _ e) (fun x hx=>?_) (by rw[wG];exact zaL _) iN
    (VI hh (by rw[wG];exact zae (zaN aG)) (by rw[wG];exact zae (zaK _)) (fun i hi=>zbk.mp<|hp.mem_iff.mp hi) _ rfl) ⟨Heap.get?_push_size _ rfl,hS.at fun o e=>Heap.get?_push_of_some _ (Heap.get?_push_of_some _ e),Heap.get?_push_of_some _<|Heap.get?_push_size _ rfl⟩
   simp only[zab,zac,or_false] at hx
   rcases hx with e|e|e
   ·right;rw[e,wG];exact zaL _
   ·exact .inl e
   ·exact .inr (zbd e.symm)
  |false=>
   refine wpAny_ite_split (fun y=>absurd (show(!false && (!t.plain && decide (es.size>1)))=true from y) (by rw[hd];decide)) fun _=>?_
   refine here (fun i=>if i=0 then 0 else t.place.getD (i - 1) 0+1) (es.map (·.2)) rfl (by rw[Array.toList_map]) fun i s' hi lK A' E' Q' q=>Vz lK hb hd hS.tg.led ?_
   have VM:SetTable.below t.place (if i=0 then 0 else t.place.getD (i - 1) 0+1)=i:=by
    by_cases i0:i=0
    ·rw[if_pos i0,i0];exact U8 hS.tg.rs
    ·have cX:i - 1<t.place.size:=by rw[Array.size_map] at hi;omega
     rw[if_neg i0];have:t.place.getD (i - 1) 0=t.place[i - 1]:=by simp[Array.getD,cX]
     rw[this,U7 hS.tg.rs cX];omega
   rw[VM];rcases Nat.lt_or_ge i es.size with y|y
   ·have y':i<t.place.size:=by omega
    rw[zaP y,zaP y'];rw[zaP (by simpa using y)] at q
    simpa[Array.getD,y'] using q
   ·rw[zbL y,zbL (by omega)]
    rw[zbL (by simpa using y)] at q
    exact q
end
section
variable {prog:Program}{w:World}{A:Around}{E:Value->Shared->Prop}{s:Shared}{S:Addr}{ds:List Int}{n:Nat}{es:Array (Int×Value)}{ep:Nat}{t:SetTable}
theorem VN{R:Result->Shared->Prop}(hh:A.handled=none)(hS:eI prog w s.heap S (!gw w) ds n es ep t)(hz:es.size<=4096)(L:Addr)(res:Value)(c₀:Nat)(hL:s.heap.get? L=some {cls:=.type "list",data:=.seq #[] c₀})
  (hR:∀h' d' tk acc c',(∀b o,b≠L->s.heap.get? b=some o->h'.get? b=some o)->h'.get? L=some {cls:=.type "list",dict:=none,data:=.seq acc c',slots:= #[]}->acc.toList.Perm (es.toList.map (·.2))->R (.ok<|.ret res) {s with heap:=h',drawn:=d',toks:=tk}):
  wpAny (model prog w) A.in1 (Builtin.List.listExtendWith (.ref L) (.ref S) res)
   (fun fin s'=>match fin with|.done f=>R (.ok f) s'|.again c'=>c'.quiet=true/\codeAny (model prog w) A c' R s') (fun e s'=>R (.error e) s') s:=by
 have Hl:L≠S:=fun y=>by rw[y,hS.ob] at hL;exact absurd (show Value.type "set"=Value.type "list" from congrArg Obj.cls (zak hL)) (by decide)
 have hT:s.TypeIs (.ref S) "set":=⟨_,hS.ob,rfl⟩;unfold Builtin.List.listExtendWith;refine wpAny_bind<|wpAny_typeOf hT ?_;have h1:Builtin.List.listSameRef (.ref L) (.ref S)=false:=by simp[Builtin.List.listSameRef,Hl]
 simp only[h1,show(Value.type "set"==Value.type "list")=false by decide,show(Value.type "set"==Value.type "tuple")=false by decide,zbp,zaX,if_false]
 refine wpAny_bind<|VL (by simpa using hh) hS hz fun hp d1 I fp od St k1 AG hI iN W st=>?_
 have Hn:L∉fp:=fun y=>(AG L y).elim Hl fun y=>absurd (Heap.lt_size hL) (zbK y);have hLI:L≠I:=fun y=>absurd (Heap.lt_size hL) (zbK<|y ▸ hI);have tU:=k1 _ _ hL;have VO:od.size<=sizeLine:=by
  have:=iN.length_eq
  simp at this
  rw[this];exact zar hz (by decide)
 have key:∀(h:Heap) (c₁ tk:Nat),St 0 h->(∀b o,b≠L->s.heap.get? b=some o->h.get? b=some o)->h.get? L=some {cls:=.type "list",data:=.seq #[] c₁}->
   codeAny (model prog w) A (.builtin "list.extend.loop" ⟨[.ref L,.ref I,res],[]⟩) R {s with heap:=h,drawn:=d1,toks:=tk}:=by
  intro h c₁ tk fH hk tU;refine codeAny_extend_loopS W.toS VO L Hn res od.size 0 _ #[] c₁ rfl (zqZ _) fH tU (ItemsOf.nil _) fun s' acc c' hm o5 jX=>?_;rw[Moved.eq_with hm];have VP:acc=od:=by
   apply Array.ext jX.1
   intro i h1 h2;have:od[i]?=some acc[i]:=jX.2 i acc[i] (zaP h1);rw[zaP h2] at this;exact(zak this).symm
  refine hR s'.heap d1 s'.toks acc c' (fun b o hb e=>hm.heap b o (fun y=>?_)<|hk b o hb e) o5<|VP ▸ iN;rcases zab.mp y with y|y
  ·exact hb y
  ·exact absurd (Heap.lt_size e) (zbK (by rw[zaf.mp y];exact hI))
 have j7:Shared.TypeIs {s with heap:=hp,drawn:=d1} (.ref S) "set":=⟨_,k1 _ _ hS.ob,rfl⟩
 refine wpAny_bind<|wpAny_holding<|Vx j7 ?_;refine wpAny_ite_split (fun _=>?_)<|fun _=>wpAny_pure ⟨plainId_quiet PySem.F.plain_extend_loop _,key _ c₀ _ st (fun b o _ e=>k1 _ _ e) tU⟩;refine wpAny_bind<|wpAny_rule<|wpAny_bind ?_;show wpAny _ _ (updateSeq L (·.push .none) >>=fun _=>updateSeq L (·.pop)) _ _ _;refine wpAny_bind<|wpAny_updateSeq tU rfl ?_;have Ho:=Heap.get?_update_self (Obj.mapSeq (·.push Value.none)) tU rfl;refine wpAny_updateSeq (hz:=by seq_fits) Ho rfl ?_
 have VQ:=Heap.get?_update_self (Obj.mapSeq (·.pop)) Ho rfl;refine wpAny_pure ⟨plainId_quiet PySem.F.plain_extend_loop _,key _ _ _ (W.frame 0 _ _ st fun b hb o e=>?_) (fun b o hb e=>?_) VQ⟩
 ·have Hq:b≠L:=fun y=>Hn (y ▸ hb);exact(Heap.get?_update_other _ _<|Ne.symm Hq).trans<|(Heap.get?_update_other _ _<|Ne.symm Hq).trans e
 ·exact(Heap.get?_update_other _ _<|Ne.symm hb).trans ((Heap.get?_update_other _ _<|Ne.symm hb).trans<|k1 _ _ e)
theorem VR{R:List Value->Shared->Prop}(hh:A.handled=none)(hS:eI prog w s.heap S (!gw w) ds n es ep t)(hz:es.size<=4096)
  (h:∀(h':Heap) (d':Drawn) (tk:Nat) (acc:Array Value),(∀b o,s.heap.get? b=some o->h'.get? b=some o)->acc.toList.Perm (es.toList.map (·.2))->R acc.toList {s with heap:=h',drawn:=d',toks:=tk}):
  wpAny (model prog w) A (collect<|.ref S) R E s:=by
 unfold collect;refine wpAny_bind<|wpAny_runValue<|codeAny_builtin entry_proto_collect' ?_;rw[Around.under_plainId PySem.F.plain_proto_collect _];show wpAny _ A.in1 (newList [] >>=fun l=>again (.builtin "list.__iadd__" ⟨[l,.ref S],[]⟩)) _ _ s;refine wpAny_bind<|wpAny_newObj_type<|wpAny_pure ⟨plainId_quiet PySem.F.plain_list_iadd _,codeAny_builtin entry_list_iadd' ?_⟩;rw[Around.under_plainId PySem.F.plain_list_iadd _];show wpAny _ A.in1 (Builtin.List.listExtendWith (.ref s.heap.objs.size) (.ref S)<|.ref s.heap.objs.size) _ _ _;have key:=VN (A:=A) (s:={s with heap:=s.heap.push {cls:=.type "list",data:=.seq ([]:List Value).toArray}})
  (R:=fun(q:Result) (s':Shared)=>∃(h':Heap) (d':Drawn) (tk:Nat) (acc:Array Value) (c':Nat),q=.ok (.ret (.ref s.heap.objs.size))/\s'={s with heap:=h',drawn:=d',toks:=tk}/\
   (∀b o,s.heap.get? b=some o->h'.get? b=some o)/\h'.get? s.heap.objs.size=some {cls:=.type "list",dict:=none,data:=.seq acc c',slots:= #[]}/\acc.toList.Perm (es.toList.map (·.2)))
  hh (hS.at fun o e=>Heap.get?_push_of_some _ e) hz s.heap.objs.size (.ref s.heap.objs.size) 0 (Heap.get?_push_size _ rfl)
  (fun h' d' tk acc c' hk o5 ha=>⟨h',d',tk,acc,c',rfl,rfl,fun b o e=>hk b o (zae<|Heap.lt_size e)<|Heap.get?_push_of_some _ e,o5,ha⟩)
 refine wpAny_mono key (fun fin s' x=>?_) fun e s' x=>?_
 ·cases fin with
  |done f=>
   obtain⟨h',d',tk,acc,c',e,rfl,hk,o5,ha⟩:=x;cases e;exact wpAny_bind<|wpAny_load o5<|wpAny_pure<|h h' d' tk acc hk ha
  |again c₁=>
   refine⟨x.1,codeAny_mono x.2 fun q s₂ y=>?_⟩;obtain⟨h',d',tk,acc,c',rfl,rfl,hk,o5,ha⟩:=y;exact wpAny_bind<|wpAny_load o5<|wpAny_pure<|h h' d' tk acc hk ha
 ·obtain⟨_,_,_,_,_,e',_⟩:=x;cases e'
end
end L2.ST
namespace L2
open PySem PySem.Spec PyProof.Rows PySem.W ST
def wH:Value->Int|.int n _=>n|_=>0
theorem Hr:∀{l:List Value},(∀v∈l,∃n t,v=Value.int n t)->IntsAre l (l.map wH)
 |[],_=>.nil
 |v::l,h=>by
  obtain⟨n,t,rfl⟩:=h v (.head _);exact .cons n t<|Hr fun u hu=>h u (.tail _ hu)
theorem Inv.dr{X:Cx}{pins:List (Addr×Obj)}{s:Shared}(I:Inv X pins σ H s)(d:Drawn):Inv X pins σ H {s with drawn:=d}:=⟨I.ok,I.os,I.bare,I.base,I.loc,I.cell,I.free,I.eN,I.pin,I.az,I.len⟩
def wI(K:Frag):List V->Hp->VK->Prop:=fun xs H Q=>∃p,∃ns:List Int,xs=[.ref p]/\H p=some (.lst<|ns.map V.int)/\ns.length<64/\
 ∀l,∀ms:List Int,H l=none->ms.Nodup->(∀k,k∈ms↔k∈ns)->ms.Pairwise (· <= ·)->Q (.ref l) (upd H l<|.lst<|ms.map V.int)
section
variable {X:Cx}{e:Expr}{t:TA}{x y:Str}{p q r pos:Pos}
theorem VS{pins:List (Addr×Obj)}{s:Shared}{S:Addr}{ns:List Int}(hc:X.calm=true)(I:Inv X pins σ H s)(hS:SI X.prog X.w s.heap S (!gw X.w) (nh (fun i=>ns.getD i 0) ns.length) ns.length)(dG:ns.length<64)
  (k:∀l,∀ms:List Int,H l=none->ms.Nodup->(∀k,k∈ms↔k∈ns)->ms.Pairwise (· <= ·)->Q (.ref l) (upd H l<|.lst<|ms.map V.int)):wpAny (model X.prog X.w) X.A (call (.builtin "sorted") [.ref S]) (EP X pins σ Q) X.xe s:=by
 obtain⟨es,ep,t,hS⟩:=hS;have hle:=hS.le;refine Calls.call_function_entry kind_sorted plain_sorted entry_sorted (args_sorted1 _) ?_;unfold Builtin.«sorted»;refine wpAny_bind (m:=checkCount "sorted" 1 1 _)<|wpAny_pure ?_;refine wpAny_bind<|VR (A:=X.A.in1) (I.ok.hd hc) hS (by omega) fun h' d tk acc hk ha=>?_
 have hI:IntsAre acc.toList (acc.toList.map wH):=Hr fun v hv=>by
  obtain⟨z,hz,rfl⟩:=zax.mp (ha.mem_iff.mp hv);obtain⟨⟨k,hk,_⟩,_⟩:=hS.el z hz;obtain⟨u,hu⟩:=Value.isInt_shape (show Value.isInt k z.2=true from hk)
  exact⟨k,u,hu⟩
 have Hs:(acc.toList.map wH).Perm (es.toList.map iv):=by
  have:=ha.map wH;rw[zaB] at this;exact this
 have UP:acc.toList.length=es.size:=by rw[ha.length_eq];simp
 refine wpAny_bind<|wpAny_newList ?_<|zar (show acc.toList.length<=64 by omega) (by decide)
 have kA:(h'.push<|seqObj "list" acc.toList.toArray 0).get? h'.objs.size=some (seqObj "list" acc.toList.toArray 0):=Heap.get?_push_size _ rfl;show wpAny _ _ _ _ _ {s with heap:=h'.push (seqObj "list" acc.toList.toArray 0),drawn:=d,toks:=tk}
 refine wpAny_bind<|wpAny_holding<|wpAny_call_entry slot_list_sort ⟨_,kA,rfl⟩ entry_list_sort (list_sort_tree kA hI (by omega) fun out ms a1 a2 a3=>⟨_,rfl,?_⟩)<|args_list_sort _
 obtain⟨c,uX⟩:=sortedHeap_at (out:=out) kA;have I1:Inv X pins σ H {s with heap:=h',drawn:=d,toks:=tk}:=(I.kept (t':=tk) hk).dr d
 refine wpAny_pure ⟨_,rfl,.ref h'.objs.size,_,I1.laid (t':=tk) (fun b o eb=>?_) (zqR _) (show bT X.prog X.w _ _ _ (.lst<|ms.map V.int) from⟨by rw[zaa,a2.length_eq,zaa];exact zar (show acc.toList.length<=64 by omega) (by decide),out.toList,c,Ai a1,by simpa using uX⟩),rfl,k _ ms (I1.az.fresh<|zqR _) ?_ (fun z=>?_) a3⟩
 ·have hb:h'.get? b=some o:=eb;have aG:=Heap.lt_size hb;rw[sortedHeap_old (zae aG) (by rw[size_push'];exact zaN aG)]
  exact Heap.get?_push_of_some _ hb
 ·exact(a2.trans Hs).nodup_iff.mpr hS.nd
 ·rw[(a2.trans Hs).mem_iff,hS.me z,G9]
  constructor
  ·rintro⟨j,hj,rfl⟩
   simp only[zbW,zay hj,Option.getD_some]
   exact zaF hj
  ·intro hz;obtain⟨j,hj,rfl⟩:=zbJ.mp hz;exact⟨j,hj,by simp[zbW,zay hj]⟩
theorem VT(hc:X.calm=true)(hg:Gl X x)(hm:X.mg x=none)(hv:bootBuiltins x=some (.builtin "sorted"))(VU:Gl X y)(VW:X.mg y=none)(wJ:bootBuiltins y=some (.type "set"))(ha:PA X [e] t)
  (hn:x≠"__name__") (ja:(x==("__debug__":Str))=false) (oi:y≠"__name__") (VX:(y==("__debug__":Str))=false) (he:starEach [e] X.env=(false,eval e X.env)::starEach [] X.env) (gg:(backTo r<|starEach [] X.env).any (·.1)=false):
  PE X (.Call (.Name x p) [.Call (.Name y q) [e] [] r] [] pos) (dS (wI X.K) t):=by
 intro pins s σ H Q I h;refine wpAny_Call_Name_kw<|qi I hg hm hv ?_ hn ja;refine PyProof.Rows.callWith_builtin1 ?_ rfl rfl;show wpAny _ _ (spliced ((false,eval (.Call (.Name y q) [e] [] r) X.env)::backTo pos (starEach [] X.env))) _ _ s;refine Calls.spliced_cons ?_;refine wpAny_Call_Name_kw<|qi I VU VW wJ ?_ oi VX;refine PyProof.Rows.callWith_type1 (aF (ha r pins s σ H _ I h) fun us s1 ⟨vs,H1,I1,r1,q1⟩=>?_) he gg;obtain⟨a,ns,rfl,hp,dG,k⟩:=q1;obtain⟨u,rfl,ru⟩:=vals1 r1;cases ru;obtain⟨hz,aq,nn,hv,ob⟩:=I1.az _ _ hp;have hi:=intsAre_of hv;have hl:aq.length=ns.length:=by rw[<-Vals.length hv,zaa]
 have hsz:aq.toArray.size=ns.length:=by rw[zah,hl]
 refine Vp (I1.ok.hd hc) (items:=aq.toArray) (ns:=ns) ⟨_,ob,rfl,nn,rfl⟩ (by simpa using hi) (by rw[hsz];exact Nat.lt_trans (show ns.length+1<66 by omega) (by decide)) fun h' tk hS hk=>?_
 refine Calls.spliced_nil ?_;rw[hsz] at hS;exact VS hc (I1.kept (t':=tk) hk) hS dG k
end
def AH:Frag->TA->TE:=fun K t=>dS (wI K) t
section
variable {CX:bK}{S:cg}{Γ:aJ}{X:Cx}{e:Expr}{x y:Str}{p q z pos:Pos}{r:RE}
theorem VY(G:Good CX S Γ X)(hA:PA X [e] (aM Γ [r]))(h:kB S x "sorted"=true:=by kernel_rfl)(h':kB S y "set"=true:=by kernel_rfl)(hs:noStar e=true:=by kernel_rfl)(hq:S.md=0:=by rfl):PE X (.Call (.Name x p) [.Call (.Name y q) [e] [] z] [] pos) (ag Γ<|.xt AH [r]):=by
 simp only[kB,zad,decide_eq_true_eq] at h h'
 obtain⟨⟨rfl,h2⟩,h3⟩:=h;obtain⟨⟨rfl,h4⟩,h5⟩:=h';show PE X _ (dS (wI Γ.K)<|aM Γ [r]);rw[<-G.K];exact VT (G.calm hq) (G.gl h2) (G.d0 _ h3) (by decide+kernel) (G.gl h4) (G.d0 _ h5) (by decide+kernel) hA (by decide) (by decide) (by decide) (by decide) (dE hs) rfl
end
end L2
namespace L2.bA
open PySem PySem.Spec PyProof.Rows L2.B
def bh(i:Nat):Stmt:=(PySem.Challenge.pw_inkloom_k21_spans_told.main.body).getD i (.Pass ⟨0,0,0,0⟩)
def Ht:Stmt:=bh 17
abbrev bw(s:Stmt)(k:Nat):Stmt:=(dm s).getD k (.Pass ⟨0,0,0,0⟩)
abbrev bx(b:List RS)(k:Nat):RS:=b.getD k (.ret<|.c .aD)
abbrev MX(N:List Str)(s:Stmt)(f g l mn kn en hn:List Str)(b:List RS)(md:Nat):Prop:= ∀{CX:bK}{Γ:aJ}{X:Cx},cJ CX (qN N (dD s) f g l mn kn en hn md) Γ X->cT X (dm s) (aA Γ b)
abbrev MY(N:List Str)(s:Stmt)(f g l mn kn en hn:List Str)(b:List RS)(md k:Nat):Prop:= ∀{CX:bK}{Γ:aJ}{X:Cx},cJ CX (qN N (dD s) f g l mn kn en hn md) Γ X->PS X (bw s k) (bg Γ<|bx b k)
theorem VZ:MX iL Ht af af F0 af af af af FZ 0:=fun G=>have g:=G.toGood;(aj (aP<|hU (iJ g<|aa g)<|iI<|zP g<|iJ g<|aa g) aw)
def Hu:Stmt:=bh 18
theorem V0:MX Gi Hu z_ af af af af af af Gj 0:=fun G=>have g:=G.toGood;(aj (aP<|hU (aN g<|ae (aa g) ai)<|iI<|T_ g (aa g) (aa g)<|aa g) aw)
def Hv:Stmt:=bh 19
theorem V1:MX iL Hv af af af af af af af Ad 0:=fun G=>have g:=G.toGood;(aj (aP<|Ub (d_ g (aa g) cN)<|Ua<|d_ g (aa g) cN) aw)
def Hw:Stmt:=bh 20
theorem V2:MX zX Hw af af F1 af af af af zY 0:=fun G=>have g:=G.toGood;(aj (aP<|hU (iJ g<|aa g)<|iI<|d_ g (aa g)<|aa g) aw)
def Hx:Stmt:=bh 21
theorem V3:MX iL Hx af Uw F1 af af af af zZ 0:=fun G=>have g:=G.toGood;(aj (aP<|hU (iJ g<|aa g)<|iI<|d_ g (gu g (aa g)<|ae (fU g) ai) aE) aw)
def Hy:Stmt:=bh 23
theorem V4:MX iL Hy Ux af Uy af af af af we 0:=fun G=>have g:=G.toGood;(aj (aZ (PW.pt<|eQ (cZ<|qM g<|iJ g<|aa g)<|gR<|ba g (cj g<|ae (aa g) ai) ak) (aj (aP cN) aw) aw)<|aj (aZ (eS g<|aN g<|ae (aK g (aa g) ak)<|ae (bf<|ae aE ai) ai) (aj (aP<|hU (aN g<|ae (aK g (aa g) ak) ai)<|iI<|d_ g (aK g (aa g) ak) ak) aw) aw)<|aj (aP<|hU (aN g<|ae (aK g (aa g) ak)<|ae (bf<|ae aE<|ae aE ai) ai)<|hU (aN g<|ae (aK g (aa g) ak) ai)<|iI<|d_ g (aK g (aa g) ak) aE) aw)
def Hz:Stmt:=bh 24
theorem V5:MX F2 Hz af af af af af af af F3 0:=fun G=>have g:=G.toGood;(aj (aP<|hU (d_ g (aa g)<|aa g)<|iI<|zP g<|hU (d_ g (aa g) aE)<|iI<|d_ g (aa g) aE) aw)
def HD:Stmt:=bh 25
theorem HE:MX z5 HD Uz af UA af af UB af z6 0:=fun G=>have g:=G.toGood;(aj (aZ (cZ<|qM g<|iJ g<|aa g) (aj (jj G<|ae aE ai) aw) aw)<|aj (aI G aE)<|aj (lE G (dF g<|aa g)<|aj (aZ (cZ<|eS g<|aN g<|ae (aa g) ai) (aj (jj G<|ae aE ai) aw) aw)<|aj (aZ (cZ<|eS g<|aN g<|ae (aK g (aa g) ak)<|ae (aa g) ai) (aj (jj G<|ae aE ai) aw) aw)<|aj (aI G<|aK g (aa g) ak) aw) aw)
def HF:Stmt:=bh 27
theorem V6:MX GF HF af af tK af af af af GG 0:=fun G=>have g:=G.toGood;(aj (aI G ak)<|aj (aI G<|cj g<|ae (aa g) ai)<|aj (Ul G (ba g (aa g)<|aa g)<|aj (aI G<|aB g (aB g (aa g)<|aa g) ak)<|aj (aZ (ba g (aK g (aa g)<|aa g)<|aa g) (aj (aI G<|aB g (aa g) ak) aw)<|aj (aI G<|aa g) aw) aw)<|aj (aP<|aa g) aw)
def HG:Stmt:=bh 30
theorem V7:MX GH HG UT UU af af af UW af GI 0:=fun G=>have g:=G.toGood;(aj (aZ (cZ<|eS g<|aN g<|ae (aa g)<|ae (fU g) ai) (aj (jj G<|ae aE ai) aw) aw) aw)
def HH:Stmt:=inClass (bh 31) 0
theorem HI:MX As HH UX af tK af af af af Au 0:=fun G=>have g:=G.toGood;(aj (dj<|aN g<|ae (aa g) ai)<|aj (j2 G (aa g)<|aR ai)<|aj (j2 G (aa g)<|aR ai)<|aj (j2 G (aa g)<|aR ai)<|aj (aI G ak)<|aj (aI G ak)<|aj (wa [(_,_),(_,_)] G (dF g<|aa g)<|aj (aZ (ba g (aa g) aE) (aj (aI G<|aB g (aa g)<|cj g<|ae (aa g) ai) aw)<|aj (aZ (ba g (aa g) aE) (aj (aI G<|aB g (aa g)<|cj g<|ae (aa g) ai) aw)<|aj (dj<|gu g (cK g<|aa g)<|ae (aa g) ai)<|aj (dj<|gu g (cK g<|aa g)<|ae (aa g) ai)<|aj (dj<|gu g (cK g<|aa g)<|ae (aa g) ai)<|aj (aI G<|aB g (aa g)<|aa g)<|aj (aI G<|aB g (aa g)<|aa g) aw) aw) aw)<|aj (j2 G (aa g)<|aa g)<|aj (j2 G (aa g)<|aa g) aw)
def HJ:Stmt:=inClass (bh 31) 1
theorem V8:MX wm HJ GK af Av af af af af GJ 0:=fun G=>have g:=G.toGood;(aj (aI G<|aB g (aN g<|ae (cK g<|aa g)<|ae (aB g (aa g) ak) ai) ak)<|aj (aZ (ba g (aa g) ak) (aj (aP ak) aw) aw)<|aj (aP<|aB g (aK g (cK g<|aa g)<|aa g)<|cj g<|ae (aK g (cK g<|aa g)<|aa g)<|ae (aB g (aa g)<|aK g (cK g<|aa g)<|aa g) ai) aw)
def HK:Stmt:=inClass (bh 31) 2
theorem V9:MX wm HK GK af tK af af af af GN 0:=fun G=>have g:=G.toGood;(aj (aI G<|aB g (aN g<|ae (cK g<|aa g)<|ae (aa g) ai) ak)<|aj (aZ (PW.pt<|v7 (ba g (aa g) ak)<|v5<|ba g (aa g)<|aB g (aK g (cK g<|aa g)<|aa g)<|aK g (cK g<|aa g)<|aa g) (aj (aP<|aB g (aB g (aK g (cK g<|aa g)<|aa g)<|aa g)<|aK g (cK g<|aa g)<|aa g) aw) aw)<|aj (aP<|vZ (ba g (aB g (aa g) ak)<|cj g<|ae (cK g<|aa g) ai) (aK g (cK g<|aa g)<|aB g (aa g) ak)<|cK g<|aa g) aw)
def HL:Stmt:=inClass (bh 31) 3
theorem V_:MX GO HL af af af UY af af af GP 0:=fun G=>have g:=G.toGood;(aj (aP<|vZ (ba g (aa g) aE) (di g (aa g)<|ae (aa g) ai)<|di g (aa g)<|ae (aa g) ai) aw)
def HM:Stmt:=bh 32
theorem Wa:MX GQ HM UZ af af GC GD Am af GR 0:=fun G=>have g:=G.toGood;(aj (aI G<|qL g<|ae (aa g) ai)<|aj (aZ (cZ<|eS g<|aN g<|ae (aa g)<|ae ak<|ae (cK g<|aa g) ai) (aj (jj G<|ae aE ai) aw) aw)<|aj (dj<|aN g<|ae (aa g) ai)<|aj (aP<|di g (aa g)<|ae (aa g)<|ae (aa g) ai) aw)
def HN:Stmt:=inClass (bh 34) 0
theorem HP:MX Ak HN z_ af af af af Am af Al 0:=fun G=>have g:=G.toGood;(aj (aZ (PW.pt<|eQ (cZ<|eS g<|aN g<|ae (aa g) ai)<|gR<|ba g (aa g) ak) (aj (jj G<|ae aE ai) aw) aw)<|aj (j2 G (aa g)<|aa g)<|aj (j2 G (aa g) ak)<|aj (j2 G (aa g) qK) aw)
def HQ:Stmt:=inClass (bh 34) 1
theorem Wb:MX Gy HQ af af af af af af af Gz 0:=fun G=>have g:=G.toGood;(aj (aI G<|cK g<|aa g)<|aj (mX G (aa g) (cK g<|aa g)<|aa g)<|aj (j2 G (aa g)<|aB g (aa g) ak)<|aj (aP<|aa g) aw)
def HR:Stmt:=inClass (bh 34) 2
theorem HS:MX qR HR z_ af af af af UQ af An 0:=fun G=>have g:=G.toGood;(aj (aZ (PW.pt<|eQ (cZ<|eS g<|aN g<|ae (aa g) ai)<|gR<|FQ g (aa g)<|cK g<|aa g) (aj (jj G<|ae aE ai) aw) aw)<|aj (aP<|fV g (cK g<|aa g)<|aa g) aw)
noncomputable def AI:List RS:=
 [.drop (.bc 0 "stand" (.v 0) [.v 1]),
 .drop (.xm wy (.fld (.v 0) "stands") [.v 1])]
def HU:List Str:=["stand"]
def HV:Stmt:=inClass (bh 34) 3
theorem HW:MX qR HV af af af HU af af af AI 0:=fun G=>have g:=G.toGood;(aj (dj<|di g (aa g)<|ae (aa g) ai)<|aj (dj<|GZ g (cK g<|aa g)<|aa g) aw)
def HX:Stmt:=inClass (bh 34) 4
theorem Wc:MX wk HX af af UR af af af af GA 0:=fun G=>have g:=G.toGood;(aj (aP<|oX g<|ae (cK g<|aa g) ai) aw)
def HY:Stmt:=inClass (bh 34) 5
theorem Wd:MX wk HY af af af af af af af GB 0:=fun G=>have g:=G.toGood;(aj (aP<|cK g<|aa g) aw)
def HZ:Stmt:=inClass (bh 34) 6
theorem H_:MX Ao HZ af af Aq GC GD US af Ap 0:=fun G=>have g:=G.toGood;(aj (aI G<|qL g<|ae (aa g) ai)<|aj (aZ (ba g (cK g<|aa g)<|cK g<|aa g) (aj (jj G<|ae aE ai) aw) aw)<|aj (lE G (dF g<|Gx g<|ae (cK g<|aa g) ai)<|aj (mX G (jZ (ln:=["place","side"]) g (by kernel_rfl) (dF g<|fV g (cK g<|aa g)<|aa g) mW<|fun _ g=>(bf<|ae (di g (aa g)<|ae (aa g)<|ae (aa g) ai)<|ae (aa g) ai)) (cK g<|aa g)<|aa g) aw)<|aj (j2 G (aa g)<|cK g<|aa g) aw)
def AJ:List Str:=["self","begin","end","grows"]
noncomputable def AK:List RS:=
 [.ite (.or [(.not (.call 0 [.v 1,(.c (.int 0)),(.bc 0 "size" (.v 0) [])])),(.not (.call 0 [.v 2,.v 1,(.bc 0 "size" (.v 0) [])]))]) [.g8 0 [(.c (.str "a span leads from a place of the text to one that is no less"))]] [],
 .ite (.not<|.call 1 [.v 3]) [.g8 1 [(.c<|.str "a span grows or doesn't: True or False")]] [],
 .ret (.bc 1 "keep" (.v 0) [(.lst [(.tup [.v 1,(.jR (.v 3) (.c (.str "left")) (.c (.str "right")))]),(.tup [.v 2,(.jR (.v 3) (.c (.str "right")) (.c (.str "left")))])])])]
def We:List Str:=["is_between","is_truth"]
def Wf:List Str:=["size","keep"]
def Wg:List Str:=["NoPlace","BadSide"]
def Ia:Stmt:=inClass (bh 36) 0
theorem Ib:MX AJ Ia We af af Wf af Wg af AK 0:=fun G=>have g:=G.toGood;(aj (aZ (PW.pt<|eQ (cZ<|eS g<|aN g<|ae (aa g)<|ae ak<|ae (iK g<|aa g) ai)<|gR<|cZ<|eS g<|aN g<|ae (aa g)<|ae (aa g)<|ae (iK g<|aa g) ai) (aj (jj G<|ae aE ai) aw) aw)<|aj (aZ (cZ<|eS g<|aN g<|ae (aa g) ai) (aj (jj G<|ae aE ai) aw) aw)<|aj (aP<|di g (aa g)<|ae (aR<|ae (bf<|ae (aa g)<|ae (vZ (zQ g<|aa g) aE aE) ai)<|ae (bf<|ae (aa g)<|ae (vZ (zQ g<|aa g) aE aE) ai) ai) ai) aw)
def AL:List Str:=["self","number","stand","end"]
noncomputable def AM:List RS:=
 [.asg 2 (.bc 0 "stand" (.v 0) [.v 1]),
 .asg 3 (.ix (.ix (.v 2)<|.c<|.int 1)<|.c<|.int 0),
 .ret (.tup [(.blt .min [(.ix (.ix (.v 2) (.c (.int 0))) (.c (.int 0))),.v 3]),.v 3])]
def Ic:Stmt:=inClass (bh 36) 1
theorem Ie:MX AL Ic af af Av HU af af af AM 0:=fun G=>have g:=G.toGood;(aj (aI G<|di g (aa g)<|ae (aa g) ai)<|aj (aI G<|aK g (aK g (aa g) ak) ak)<|aj (aP<|bf<|ae (cj g<|ae (aK g (aK g (aa g) ak) ak)<|ae (aa g) ai)<|ae (aa g) ai) aw)
def AN:List Str:=["self","place"]
noncomputable def AO:List RS:=
 [.ite (.not (.call 0 [.v 1,(.c (.int 0)),(.bin .Sub (.bc 0 "size" (.v 0) []) (.c (.int 1)))])) [.g8 0 [(.c (.str "no sign is there"))]] [],
 .ret (.comp none [("place",1),("self",0)] .list [(.bc 1 "numbers" (.v 0) [])] (some (.je .LtE .Lt (.ix (.bc 2 "told" (.v 2) [.v 0]) (.c (.int 0))) (.v 1) (.ix (.bc 2 "told" (.v 2) [.v 0]) (.c (.int 1))))) (.v 0))]
def Wh:List Str:=["is_between"]
def Wi:List Str:=["size","numbers","told"]
def Ig:Stmt:=inClass (bh 36) 2
theorem Ih:MX AN Ig Wh af af Wi af Am af AO 0:=fun G=>have g:=G.toGood;(aj (aZ (cZ<|eS g<|aN g<|ae (aa g)<|ae ak<|ae (aB g (iK g<|aa g) ak) ai) (aj (jj G<|ae aE ai) aw) aw)<|aj (aP<|jZ (ln:=["number"]) g (by kernel_rfl) (dF g<|iK g<|aa g) (oO fun _ g=>(FT g (aK g (di g (aa g)<|ae (aa g) ai) ak) (aa g)<|aK g (di g (aa g)<|ae (aa g) ai) ak))<|fun _ g=>(aa g)) aw)
def Ii:List Str:=["self","told","full"]
noncomputable def Ij:List RS:=
 [.jS 1 (.comp none [("self",0)] .list [(.bc 0 "numbers" (.v 0) [])] none (.bc 1 "told" (.v 1) [.v 0])),
 .jS 2 (.comp none [] .list [.v 1] (some<|.cmp .Lt (.ix (.v 0)<|.c<|.int 0)<|.ix (.v 0)<|.c<|.int 1)<|.v 0),
 .ret (.xt AH [(.bin .Add (.comp none [] .list [.v 2] none (.ix (.v 0) (.c (.int 0)))) (.comp none [] .list [.v 2] none (.ix (.v 0) (.c (.int 1)))))])]
def Wj:List Str:=["sorted","set"]
def Wk:List Str:=["numbers","told"]
def Ik:Stmt:=inClass (bh 36) 3
theorem Wl:MX Ii Ik af af Wj Wk af af af Ij 0:=fun G=>have g:=G.toGood;(aj (v_ (ln:=["number"]) G (by kernel_rfl) (by kernel_rfl) (by kernel_rfl) (dF g<|iK g<|aa g) mW<|fun _ g=>(di g (aa g)<|ae (aa g) ai))<|aj (v_ (ln:=["span"]) G (by kernel_rfl) (by kernel_rfl) (by kernel_rfl) (dF g<|aa g) (oO fun _ g=>(ba g (aK g (aa g) ak)<|aK g (aa g) ak))<|fun _ g=>(aa g))<|aj (aP<|VY g<|ae (aB g (jZ (ln:=["span"]) g (by kernel_rfl) (dF g<|aa g) mW<|fun _ g=>(aK g (aa g) ak))<|jZ (ln:=["span"]) g (by kernel_rfl) (dF g<|aa g) mW<|fun _ g=>(aK g (aa g) ak)) ai) aw)
def Il:Stmt:=bh 38
theorem Wm:MX F4 Il af af tK af af af af F5 0:=fun G=>have g:=G.toGood;(aj (aZ (ba g (aa g)<|cj g<|ae (aa g) ai) (aj (aP<|aK g (aa g)<|aa g) aw) aw)<|aj (aP ak) aw)
def Aa:List Str:=["_law_found"]
def Im:Stmt:=bh 39
theorem Wn:MX Aa Im af af F0 af af af af Gk 0:=fun G=>have g:=G.toGood;(aj (aP<|hU (iJ g<|aa g)<|iI<|zP g<|iJ g<|aa g) aw)
def Io:Stmt:=bh 40
theorem Wo:MX F6 Io af af af af af af af F7 0:=fun G=>have g:=G.toGood;(aj (aI G<|aB g (aB g (aB g (aB g (aa g) ak)<|aB g ak<|aa g) ak) ak)<|aj (aP<|aB g (aB g (aB g (aB g (aa g)<|aa g) ak)<|aa g) ak) aw)
def Ip:Stmt:=bh 41
theorem Wq:MX F8 Ip m7 af F_ af af af af F9 0:=fun G=>have g:=G.toGood;(aj (aI G aE)<|aj (aI G<|aB g (aa g) aE)<|aj (aZ (ba g (aB g (aa g) ak) ak) (aj (aI G aE) aw) aw)<|aj (aP<|gu g aE<|ae (jZ (ln:=["_law_k"]) g (by kernel_rfl) (v8 g<|aa g) mW<|fun _ g=>(aK g (aa g)<|aB g (aB g (aN g<|ae (aa g)<|ae (aa g) ai) ak)<|cj g<|ae (aa g) ai)) ai) aw)
def Iq:Stmt:=bh 42
theorem Wr:MX Ga Iq af af af af af af af Gb 0:=fun G=>have g:=G.toGood;(aj (aZ (ba g (aB g (aa g) ak) ak) (aj (aP<|aB g (aB g (aa g) ak) ak) aw) aw)<|aj (aP<|aB g (aB g (aa g) ak) ak) aw)
def z7:List Str:=["_law_cell","_law_text_here","_law_many","_law_parts_here","_law_at_here","_law_k","_law_number","_law_size_here","_law_left"]
def Ir:Stmt:=bh 43
theorem Wt:MX z7 Ir UC af UD af af af af Gd 0:=fun G=>have g:=G.toGood;(aj (aI G<|aR ai)<|aj (aI G ak)<|aj (lE G (v8 g<|aa g)<|aj (aI G<|aN g<|ae (aa g)<|ae (aB g ak<|aa g) ai)<|aj (aI G<|aK g (aR<|ae ak<|ae ak<|ae ak<|ae ak<|ae ak<|ae ak ai)<|aB g (aB g (aa g) ak) ak)<|aj (aI G<|cj g<|ae (aa g)<|ae (aB g (cj g<|ae (aa g) ai)<|aa g) ai)<|aj (aZ (ba g (aB g (aa g) ak) ak) (aj (dj<|gu g (aa g)<|ae (bf<|ae aE<|ae (aN g<|ae (aa g)<|ae (aa g) ai) ai) ai) aw)<|aj (aZ (ba g (aB g (aa g) ak) ak) (aj (dj<|gu g (aa g)<|ae (bf<|ae aE<|ae (tF g (aa g) (mV<|aa g)<|mV<|aB g (aa g)<|aa g) ai) ai) aw)<|aj (dj<|gu g (aa g)<|ae (bf<|ae aE<|ae (aa g) ai) ai) aw) aw)<|aj (aZ (ba g (aB g (aa g) ak) ak) (aj (aI G<|aB g (aa g)<|aa g) aw) aw) aw)<|aj (aP<|aB g (aa g)<|aR<|ae (bf<|ae aE<|ae (aB g (cj g<|ae (aa g) ai)<|aa g) ai) ai) aw)
def z8:List Str:=["_law_parts_here","_law_rows","_law_word_here","_law_thing","_law_found","_law_put","_law_cut","_law_keep","_law_some"]
def Iu:Stmt:=bh 44
theorem Wu:MX z8 Iu af af UE af af af af Ge 0:=fun G=>have g:=G.toGood;(aj (aI G<|aR<|ae (aR<|ae aE<|ae aE<|ae ak ai) ai)<|aj (wa [(_,_),(_,_)] G (dF g<|aa g)<|aj (aZ (ba g (aa g) aE) (aj (FX (aB g (aK g (aK g (aa g)<|ji ak) ak)<|aa g) (aK g (aa g)<|ji ak) ak) aw)<|aj (aZ (ba g (aa g) aE) (aj (aZ (ba g (aK g (aK g (aa g)<|ji ak) ak) ak) (aj (dj<|gu g (aa g)<|ae (aR<|ae aE<|ae aE<|ae ak ai) ai) aw) aw)<|aj (FX (aB g (aK g (aK g (aa g)<|ji ak)<|cj g<|ae (d_ g (aa g) aE) ai)<|aa g) (aK g (aa g)<|ji ak)<|cj g<|ae (d_ g (aa g) aE) ai) aw) aw) aw) aw)<|aj (aI G<|aR ai)<|aj (wa [(_,_),(_,_),(_,_)] G (dF g<|aa g)<|aj (aI G<|aR<|ae (bf<|ae aE<|ae (aa g) ai)<|ae (bf<|ae aE<|ae (aa g) ai)<|ae (bf<|ae aE<|ae (aa g) ai) ai)<|aj (aI G<|aB g (aa g)<|jZ (ln:=["_law_part"]) g (by kernel_rfl) (dF g<|aa g) (oO fun _ g=>(PW.pt<|v7 (ba g (aK g (aa g) ak) aE)<|v5<|ba g (aK g (aa g) ak) ak))<|fun _ g=>(aa g)) aw)<|aj (aP<|aa g) aw)
def Iv:Stmt:=bh 45
theorem Wv:MX Gf Iv UG af af af af af af Gg 0:=fun G=>have g:=G.toGood;(aj (aP<|aN g<|ae (aN g<|ae (aa g)<|ae (aa g)<|ae (aa g) ai) ai) aw)
def z9:List Str:=["_law_text_here","_law_change_here","_law_found","_law_at_here","_law_word_here","_law_thing"]
def Iw:Stmt:=bh 46
theorem Ww:MX z9 Iw af af tK af af af af Gh 0:=fun G=>have g:=G.toGood;(aj (aI G aE)<|aj (aI G ak)<|aj (wa [(_,_),(_,_)] G (dF g<|aa g)<|aj (aZ (ba g (aa g) aE) (aj (aI G<|aB g (aa g)<|aa g) aw)<|aj (aZ (ba g (aa g) aE) (aj (aI G<|aB g (aa g)<|cj g<|ae (aa g) ai) aw)<|aj (aI G<|aB g (aa g)<|tF g (aa g) (mV<|aa g)<|mV<|aB g (aa g)<|aa g)<|aj (aI G<|aB g (aa g)<|aa g) aw) aw) aw)<|aj (aP<|aa g) aw)
def jl:List Str:=["_law_e","_law_some","_law_found"]
def eJ:Stmt:=bh 47
theorem Wx:MY jl eJ af lF lG af af af af eh 1 0:=by
 intro CX Γ X G;have g:=G.toGood;show PS X (.Assign [.Name "_law_some" _] _ _) (bg Γ<|.asg 1 _)
 with_reducible exact(aI G<|aR<|ae (bf<|ae aE<|ae (gp g (aa g)<|fU g) ai)<|ae (bf<|ae aE<|ae (gp g (aa g)<|fU g) ai)<|ae (bf<|ae aE<|ae (gp g (aa g)<|fU g) ai) ai)
theorem Wy:MY jl eJ af lF lG af af af af eh 1 1:=by
 intro CX Γ X G;have g:=G.toGood;show PS X (.Assign [.Name "_law_some" _] _ _) (bg Γ<|.asg 1 _)
 with_reducible exact(aI G<|aB g (aa g)<|aR<|ae (bf<|ae aE<|ae (gp g (aa g)<|fU g) ai)<|ae (bf<|ae aE<|ae (gp g (aa g)<|fU g) ai)<|ae (bf<|ae aE<|ae (gp g (aa g)<|fU g) ai) ai)
theorem Wz:MY jl eJ af lF lG af af af af eh 1 2:=by
 intro CX Γ X G;have g:=G.toGood;show PS X (.Assign [.Name "_law_some" _] _ _) (bg Γ<|.asg 1 _)
 with_reducible exact(aI G<|aB g (aa g)<|aR<|ae (bf<|ae aE<|ae (gp g (aa g)<|fU g) ai)<|ae (bf<|ae aE<|ae (gp g (aa g)<|fU g) ai) ai)
theorem WA:MY jl eJ af lF lG af af af af eh 1 3:=by
 intro CX Γ X G;have g:=G.toGood;show PS X (.Assign [.Name "_law_some" _] _ _) (bg Γ<|.asg 1 _)
 with_reducible exact(aI G<|aB g (aa g)<|aR<|ae (bf<|ae aE<|ae (gp g (aa g)<|fU g) ai)<|ae (bf<|ae aE<|ae (gp g (aa g)<|fU g) ai) ai)
theorem WB:MY jl eJ af lF lG af af af af eh 1 4:=by
 intro CX Γ X G;have g:=G.toGood;show PS X (.Assign [.Name "_law_some" _] _ _) (bg Γ<|.asg 1 _)
 with_reducible exact(aI G<|aB g (aa g)<|aR<|ae (bf<|ae aE<|ae (gp g (aa g)<|fU g) ai)<|ae (bf<|ae aE<|ae (gp g (aa g)<|fU g) ai)<|ae (bf<|ae aE<|ae (gp g (aa g)<|fU g) ai) ai)
theorem WC:MY jl eJ af lF lG af af af af eh 1 5:=fun G=>have g:=G.toGood;(Uk G (by kernel_rfl) (by kernel_rfl) (by kernel_rfl) (aa g) (oO fun _ g=>(zQ g<|aa g))<|fun _ g=>(aa g))
theorem WD:MY jl eJ af lF lG af af af af eh 1 6:=fun G=>have g:=G.toGood;(aZ (PW.pt<|eQ (cZ<|FU g<|gp g (aa g)<|fU g)<|gR<|cZ<|FU g<|gp g (aa g)<|Uc g (by decide+kernel) (by decide) (by decide)) (aj (dj<|gu g (aa g)<|ae aE ai) aw) aw)
theorem WE:MY jl eJ af lF lG af af af af eh 1 7:=by
 intro CX Γ X G;have g:=G.toGood;show PS X (.Return (some _) _) (bg Γ<|.ret _)
 with_reducible exact(aP<|gu g aE<|ae (aa g) ai)
theorem WG:MX jl eJ af lF lG af af af af eh 1:=by
 intro CX Γ X G;have e:dm eJ=[bw eJ 0,bw eJ 1,bw eJ 2,bw eJ 3,bw eJ 4,bw eJ 5,bw eJ 6,bw eJ 7]:=by kernel_rfl
 have e2:eh=[bx eh 0,bx eh 1,bx eh 2,bx eh 3,bx eh 4,bx eh 5,bx eh 6,bx eh 7]:=by kernel_rfl
 rw[e,e2]
 with_reducible exact aj (Wx G) (aj (Wy G)<|aj (Wz G)<|aj (WA G)<|aj (WB G)<|aj (WC G)<|aj (WD G)<|aj (WE G)<|aw)
def Iy:List Str:=["_law_cell","_law_size_here","_law_one","_law_other","_law_pair"]
noncomputable def Iz:List RS:=
 [.asg 2 (.bin .Mod (.call 0 [.v 0,(.c (.int 7))]) (.bin .Add (.v 1) (.c (.int 1)))),
 .asg 3 (.bin .Mod (.call 0 [.v 0,(.c<|.int 9)])<|.bin .Add (.v 1)<|.c<|.int 1),
 .asg 4 (.lst [(.tup [(.blt .min [.v 2,.v 3]),(.blt .max [.v 2,.v 3])]),(.tup [.v 2,.v 2]),(.tup [(.c<|.int 0),.v 1]),(.tup [.v 2,(.blt .min [.v 1,(.bin .Add (.bin .Add (.v 2)<|.c<|.int 1)<|.bin .Mod (.v 3)<|.c<|.int 5)])])]),
 .ret (.ix (.v 4) (.ix (.lst [(.c (.int 0)),(.c (.int 0)),(.c (.int 1)),(.c (.int 2)),(.c (.int 3)),(.c (.int 3))]) (.bin .Mod (.v 0) (.c (.int 6)))))]
def WH:List Str:=["min","max"]
def IA:Stmt:=bh 48
theorem WI:MX Iy IA m7 af WH af af af af Iz 0:=fun G=>have g:=G.toGood;(aj (aI G<|aB g (aN g<|ae (aa g)<|ae ak ai)<|aB g (aa g) ak)<|aj (aI G<|aB g (aN g<|ae (aa g)<|ae ak ai)<|aB g (aa g) ak)<|aj (aI G<|aR<|ae (bf<|ae (cj g<|ae (aa g)<|ae (aa g) ai)<|ae (cj g<|ae (aa g)<|ae (aa g) ai) ai)<|ae (bf<|ae (aa g)<|ae (aa g) ai)<|ae (bf<|ae ak<|ae (aa g) ai)<|ae (bf<|ae (aa g)<|ae (cj g<|ae (aa g)<|ae (aB g (aB g (aa g) ak)<|aB g (aa g) ak) ai) ai) ai)<|aj (aP<|aK g (aa g)<|aK g (aR<|ae ak<|ae ak<|ae ak<|ae ak<|ae ak<|ae ak ai)<|aB g (aa g) ak) aw)
def tV:List Str:=["_law_cell","_law_beyond","_law_more","_law_some"]
noncomputable def lL:List RS:=
 [.asg 2 (.call 0 [.v 0,(.c (.int 2))]),
 .asg 3 (.lst [(.neg<|.c<|.int 1),.v 1,(.c<|.bl true),.c .aD,(.c<|.str "0"),(.lst [(.c<|.int 0)]),(.tup [(.c<|.int 0)]),.jf,(.bin .Add (.v 1)<|.v 2),(.c<|.bl false),(.bin .Sub (.neg<|.c<|.int 1)<|.v 2)]),
 .ret (.ix (.v 3) (.bin .Mod (.v 0) (.c (.int 11))))]
def lM:Stmt:=bh 49
theorem WJ:MY tV lM m7 af af af af af af lL 0 0:=by
 intro CX Γ X G;have g:=G.toGood;show PS X (.Assign [.Name "_law_more" _] _ _) (bg Γ<|.asg 2 _)
 with_reducible exact(aI G<|aN g<|ae (aa g)<|ae ak ai)
theorem WK:MY tV lM m7 af af af af af af lL 0 1:=by
 intro CX Γ X G;have g:=G.toGood;show PS X (.Assign [.Name "_law_some" _] _ _) (bg Γ<|.asg 3 _)
 with_reducible exact(aI G<|aR<|ae (ji ak)<|ae (aa g)<|ae cN<|ae oN<|ae aE<|ae (aR<|ae ak ai)<|ae (bf<|ae ak ai)<|ae qK<|ae (aB g (aa g)<|aa g)<|ae cN<|ae (aB g (ji ak)<|aa g) ai)
theorem WL:MY tV lM m7 af af af af af af lL 0 2:=by
 intro CX Γ X G;have g:=G.toGood;show PS X (.Return (some _) _) (bg Γ<|.ret _)
 with_reducible exact(aP<|aK g (aa g)<|aB g (aa g) ak)
theorem WM:MX tV lM m7 af af af af af af lL 0:=by
 intro CX Γ X G;have e:dm lM=[bw lM 0,bw lM 1,bw lM 2]:=by kernel_rfl
 have e2:lL=[bx lL 0,bx lL 1,bx lL 2]:=by kernel_rfl
 rw[e,e2]
 with_reducible exact aj (WJ G) (aj (WK G)<|aj (WL G)<|aw)
def IB:List Str:=["_law_spans","_law_way","_law_things","_law_e"]
noncomputable def IC:List RS:=
 [.zl 4 3 0 [.ite (.cmp .Eq (.v 1) (.c (.int 0))) [.drop (.make 0 [(.ix (.v 2) (.c (.int 0)))])] [.ite (.cmp .Eq (.v 1) (.c (.int 1))) [.drop (.bc 0 "add" (.v 0) [(.ix (.v 2) (.c (.int 0))),(.ix (.v 2) (.c (.int 1))),(.ix (.v 2) (.c (.int 2)))])] [.ite (.cmp .Eq (.v 1) (.c (.int 2))) [.drop (.bc 1 "drop" (.v 0) [(.ix (.v 2) (.c (.int 0)))])] [.ite (.cmp .Eq (.v 1) (.c (.int 3))) [.drop (.bc 2 "told" (.v 0) [(.ix (.v 2) (.c (.int 0)))])] [.ite (.cmp .Eq (.v 1) (.c (.int 4))) [.drop (.bc 3 "at" (.v 0) [(.ix (.v 2) (.c (.int 0)))])] [.drop (.bc 4 "changed" (.v 0) [(.ix (.v 2) (.c (.int 0)))])]]]]]] [.ret (.vK 0 (.v 3))],
 .ret (.c (.str ""))]
def WN:List Str:=["InkError"]
def WO:List Str:=["add","drop","told","at","changed"]
def iO:List Str:=["Spans"]
def WQ:List Str:=["_law_word"]
def ID:Stmt:=bh 50
theorem WR:MX IB ID af WN af WO iO af WQ IC 0:=fun G=>have g:=G.toGood;(aj (Up G (by kernel_rfl) (by kernel_rfl) (fun G=>(fun g=>(aj (aZ (ba g (aa g) ak) (aj (dj<|qL g<|ae (aK g (aa g) ak) ai) aw)<|aj (aZ (ba g (aa g) ak) (aj (dj<|di g (aa g)<|ae (aK g (aa g) ak)<|ae (aK g (aa g) ak)<|ae (aK g (aa g) ak) ai) aw)<|aj (aZ (ba g (aa g) ak) (aj (dj<|di g (aa g)<|ae (aK g (aa g) ak) ai) aw)<|aj (aZ (ba g (aa g) ak) (aj (dj<|di g (aa g)<|ae (aK g (aa g) ak) ai) aw)<|aj (aZ (ba g (aa g) ak) (aj (dj<|di g (aa g)<|ae (aK g (aa g) ak) ai) aw)<|aj (dj<|di g (aa g)<|ae (aK g (aa g) ak) ai) aw) aw) aw) aw) aw) aw)) G.toGood)<|fun G=>(fun g=>(aj (aP<|Ud g<|aa g) aw)) G.toGood)<|aj (aP aE) aw)
def gT:List Str:=["_law_spans","_law_own","_law_cell","_law_size_here","_law_odd_here","_law_lost","_law_number","_law_wrong","_law_some","_law_way","_law_things","_law_word_here"]
noncomputable def bX:List RS:=
 [.asg 3 (.blt .len [(.dU (.v 1) (.c (.str "text")))]),
 .asg 4 (.call 0 [(.bin .FloorDiv (.v 2)<|.c<|.int 10),(.bin .Add (.v 3)<|.c<|.int 1)]),
 .jS 5 (.comp none [("_law_own",1)] .fG [(.bin .Add (.dU (.v 1)<|.c<|.str "begun")<|.c<|.int 1)] (some<|.qy (.v 0)<|.dU (.v 1)<|.c<|.str "rows")<|.v 0),
 .asg 6 (.ix (.lst [(.ix (.v 5)<|.bin .Mod (.bin .FloorDiv (.v 2)<|.c<|.int 20)<|.blt .len [.v 5]),(.call 0 [(.bin .FloorDiv (.v 2)<|.c<|.int 20),(.dU (.v 1)<|.c<|.str "begun")])])<|.bin .Mod (.bin .FloorDiv (.v 2)<|.c<|.int 10)<|.c<|.int 2),
 .asg 7 (.ix (.lst [.c .aD,(.c<|.str "ab"),(.lst [(.tup [(.c<|.str "keep"),(.c<|.int 0)])]),(.lst [(.tup [(.c<|.str "keep"),.v 3]),(.tup [(.c<|.str "keep"),(.c<|.int 1)])]),(.lst [(.tup [(.c<|.str "put"),(.c<|.str "")])])])<|.bin .Mod (.bin .FloorDiv (.v 2)<|.c<|.int 10)<|.c<|.int 5),
 .asg 8 (.lst [(.tup [(.c<|.int 0),(.lst [(.ix (.lst [(.neg<|.c<|.int 1),(.c<|.bl true),.c .aD,(.c<|.str "3"),(.lst [(.c<|.int 3)]),(.tup [(.c<|.int 3)]),.jf,(.c<|.bl false)])<|.bin .Mod (.bin .FloorDiv (.v 2)<|.c<|.int 10)<|.c<|.int 8)]),(.c<|.str "place")])]),
 .asg 8 (.bin .Add (.v 8)<|.lst [(.tup [(.c<|.int 1),(.lst [.v 4,.v 3,(.c<|.bl true)]),(.c<|.str "place")]),(.tup [(.c<|.int 1),(.lst [(.c<|.int 0),.v 4,(.c<|.int 5)]),(.c<|.str "place")]),(.tup [(.c<|.int 1),(.lst [.v 3,(.bin .Sub (.v 3)<|.c<|.int 1),.c .aD]),(.c<|.str "place")])]),
 .asg 8 (.bin .Add (.v 8)<|.lst [(.tup [(.c<|.int 1),(.lst [(.c<|.int 0),.v 3,(.ix (.lst [(.c<|.int 0),(.c<|.int 1),.c .aD,(.c<|.str "True"),(.lst [(.c<|.bl true)]),(.c<|.str "left")])<|.bin .Mod (.bin .FloorDiv (.v 2)<|.c<|.int 10)<|.c<|.int 6)]),(.c<|.str "side")])]),
 .asg 8 (.bin .Add (.v 8)<|.lst [(.tup [(.c<|.int 2),(.lst [.v 6]),(.c<|.str "mark")]),(.tup [(.c<|.int 3),(.lst [.v 6]),(.c<|.str "mark")]),(.tup [(.c<|.int 4),(.lst [(.call 0 [(.bin .FloorDiv (.v 2)<|.c<|.int 10),.v 3])]),(.c<|.str "place")])]),
 .asg 8 (.bin .Add (.v 8)<|.lst [(.tup [(.c<|.int 5),(.lst [.v 7]),(.c<|.str "change")]),(.tup [(.c<|.int 5),(.lst [(.lst [(.tup [(.c<|.str "keep"),(.bin .Add (.v 3)<|.c<|.int 1)])])]),(.c<|.str "fit")])]),
 .mI [9,10,11] (.ix (.v 8)<|.bin .Mod (.v 2)<|.c<|.int 10),
 .ret (.cmp .Eq (.call 1 [.v 0,.v 9,.v 10]) (.v 11))]
def hV:List Str:=["_law_odd","_law_told"]
def hX:List Str:=["len","range"]
def c_:Stmt:=bh 51
theorem WS:MY gT c_ hV af hX af af af af bX 0 0:=by
 intro CX Γ X G;have g:=G.toGood;show PS X (.Assign [.Name "_law_size_here" _] _ _) (bg Γ<|.asg 3 _)
 with_reducible exact(aI G<|cj g<|ae (fV g (aa g) aE) ai)
theorem WT:MY gT c_ hV af hX af af af af bX 0 1:=by
 intro CX Γ X G;have g:=G.toGood;show PS X (.Assign [.Name "_law_odd_here" _] _ _) (bg Γ<|.asg 4 _)
 with_reducible exact(aI G<|aN g<|ae (aB g (aa g) ak)<|ae (aB g (aa g) ak) ai)
theorem WU:MY gT c_ hV af hX af af af af bX 0 2:=fun G=>have g:=G.toGood;(v_ (ln:=["_law_number"]) G (by kernel_rfl) (by kernel_rfl) (by kernel_rfl) (v8 g<|aB g (fV g (aa g) aE) ak) (oO fun _ g=>(FQ g (aa g)<|fV g (aa g) aE))<|fun _ g=>(aa g))
theorem WV:MY gT c_ hV af hX af af af af bX 0 3:=by
 intro CX Γ X G;have g:=G.toGood;show PS X (.Assign [.Name "_law_number" _] _ _) (bg Γ<|.asg 6 _)
 with_reducible exact(aI G<|aK g (aR<|ae (aK g (aa g)<|aB g (aB g (aa g) ak)<|cj g<|ae (aa g) ai)<|ae (aN g<|ae (aB g (aa g) ak)<|ae (fV g (aa g) aE) ai) ai)<|aB g (aB g (aa g) ak) ak)
theorem WW:MY gT c_ hV af hX af af af af bX 0 4:=by
 intro CX Γ X G;have g:=G.toGood;show PS X (.Assign [.Name "_law_wrong" _] _ _) (bg Γ<|.asg 7 _)
 with_reducible exact(aI G<|aK g (aR<|ae oN<|ae aE<|ae (aR<|ae (bf<|ae aE<|ae ak ai) ai)<|ae (aR<|ae (bf<|ae aE<|ae (aa g) ai)<|ae (bf<|ae aE<|ae ak ai) ai)<|ae (aR<|ae (bf<|ae aE<|ae aE ai) ai) ai)<|aB g (aB g (aa g) ak) ak)
theorem WX:MY gT c_ hV af hX af af af af bX 0 5:=by
 intro CX Γ X G;have g:=G.toGood;show PS X (.Assign [.Name "_law_some" _] _ _) (bg Γ<|.asg 8 _)
 with_reducible exact(aI G<|aR<|ae (bf<|ae ak<|ae (aR<|ae (aK g (aR<|ae (ji ak)<|ae cN<|ae oN<|ae aE<|ae (aR<|ae ak ai)<|ae (bf<|ae ak ai)<|ae qK<|ae cN ai)<|aB g (aB g (aa g) ak) ak) ai)<|ae aE ai) ai)
theorem WY:MY gT c_ hV af hX af af af af bX 0 6:=by
 intro CX Γ X G;have g:=G.toGood;show PS X (.Assign [.Name "_law_some" _] _ _) (bg Γ<|.asg 8 _)
 with_reducible exact(aI G<|aB g (aa g)<|aR<|ae (bf<|ae ak<|ae (aR<|ae (aa g)<|ae (aa g)<|ae cN ai)<|ae aE ai)<|ae (bf<|ae ak<|ae (aR<|ae ak<|ae (aa g)<|ae ak ai)<|ae aE ai)<|ae (bf<|ae ak<|ae (aR<|ae (aa g)<|ae (aB g (aa g) ak)<|ae oN ai)<|ae aE ai) ai)
theorem WZ:MY gT c_ hV af hX af af af af bX 0 7:=by
 intro CX Γ X G;have g:=G.toGood;show PS X (.Assign [.Name "_law_some" _] _ _) (bg Γ<|.asg 8 _)
 with_reducible exact(aI G<|aB g (aa g)<|aR<|ae (bf<|ae ak<|ae (aR<|ae ak<|ae (aa g)<|ae (aK g (aR<|ae ak<|ae ak<|ae oN<|ae aE<|ae (aR<|ae cN ai)<|ae aE ai)<|aB g (aB g (aa g) ak) ak) ai)<|ae aE ai) ai)
theorem W0:MY gT c_ hV af hX af af af af bX 0 8:=by
 intro CX Γ X G;have g:=G.toGood;show PS X (.Assign [.Name "_law_some" _] _ _) (bg Γ<|.asg 8 _)
 with_reducible exact(aI G<|aB g (aa g)<|aR<|ae (bf<|ae ak<|ae (aR<|ae (aa g) ai)<|ae aE ai)<|ae (bf<|ae ak<|ae (aR<|ae (aa g) ai)<|ae aE ai)<|ae (bf<|ae ak<|ae (aR<|ae (aN g<|ae (aB g (aa g) ak)<|ae (aa g) ai) ai)<|ae aE ai) ai)
theorem W2:MY gT c_ hV af hX af af af af bX 0 9:=by
 intro CX Γ X G;have g:=G.toGood;show PS X (.Assign [.Name "_law_some" _] _ _) (bg Γ<|.asg 8 _)
 with_reducible exact(aI G<|aB g (aa g)<|aR<|ae (bf<|ae ak<|ae (aR<|ae (aa g) ai)<|ae aE ai)<|ae (bf<|ae ak<|ae (aR<|ae (aR<|ae (bf<|ae aE<|ae (aB g (aa g) ak) ai) ai) ai)<|ae aE ai) ai)
theorem W3:MY gT c_ hV af hX af af af af bX 0 10:=fun G=>have g:=G.toGood;(tH [(_,_),(_,_),(_,_)] G<|aK g (aa g)<|aB g (aa g) ak)
theorem W4:MY gT c_ hV af hX af af af af bX 0 11:=by
 intro CX Γ X G;have g:=G.toGood;show PS X (.Return (some _) _) (bg Γ<|.ret _)
 with_reducible exact(aP<|d_ g (aN g<|ae (aa g)<|ae (aa g)<|ae (aa g) ai)<|aa g)
theorem W5:MX gT c_ hV af hX af af af af bX 0:=by
 intro CX Γ X G;have e:dm c_=[bw c_ 0,bw c_ 1,bw c_ 2,bw c_ 3,bw c_ 4,bw c_ 5,bw c_ 6,bw c_ 7,bw c_ 8,bw c_ 9,bw c_ 10,bw c_ 11]:=by kernel_rfl
 have e2:bX=[bx bX 0,bx bX 1,bx bX 2,bx bX 3,bx bX 4,bx bX 5,bx bX 6,bx bX 7,bx bX 8,bx bX 9,bx bX 10,bx bX 11]:=by kernel_rfl
 rw[e,e2]
 with_reducible exact aj (WS G) (aj (WT G)<|aj (WU G)<|aj (WV G)<|aj (WW G)<|aj (WX G)<|aj (WY G)<|aj (WZ G)<|aj (W0 G)<|aj (W2 G)<|aj (W3 G)<|aj (W4 G)<|aw)
def IE:List Str:=["_law_rows","_law_number","_law_begin","_law_end","_law_grows"]
noncomputable def IF:List RS:=
 [.mI [2,3,4] (.dU (.v 0) (.v 1)),
 .ret (.tup [(.blt .min [.v 2,.v 3]),.v 3])]
def IG:Stmt:=bh 52
theorem W6:MX IE IG af af Av af af af af IF 0:=fun G=>have g:=G.toGood;(aj (tH [(_,_),(_,_),(_,_)] G<|fV g (aa g)<|aa g)<|aj (aP<|bf<|ae (cj g<|ae (aa g)<|ae (aa g) ai)<|ae (aa g) ai) aw)
def IH:List Str:=["_law_spans","_law_rows","_law_place","_law_due_here","_law_found"]
noncomputable def II:List RS:=
 [.jS 3 (.comp none [("_law_place",2),("_law_rows",1)] .list [(.xt j4 [.v 1])] (some (.je .LtE .Lt (.ix (.call 0 [.v 2,.v 0]) (.c (.int 0))) (.v 1) (.ix (.call 0 [.v 2,.v 0]) (.c (.int 1))))) (.v 0)),
 .asg 4 (.bc 0 "at" (.v 0) [.v 2]),
 .ite (.or [(.not<|.eF .list<|.v 4),(.cmp .NotEq (.v 4)<|.v 3),(.not<|.xt qO [(.comp none [] .list [.v 4] none<|.call 1 [.v 0])])]) [.ret<|.c<|.bl false] [],
 .drop (.dn .append (.v 4) [(.neg<|.c<|.int 1)]),
 .ret (.cmp .Eq (.bc 0 "at" (.v 0) [.v 2]) (.v 3))]
def IJ:List Str:=["_law_due","_law_whole"]
def W7:List Str:=["sorted","isinstance","list","all"]
def W8:List Str:=["at"]
def IL:Stmt:=bh 53
theorem W9:MX IH IL IJ af W7 W8 af af af II 0:=fun G=>have g:=G.toGood;(aj (v_ (ln:=["_law_number"]) G (by kernel_rfl) (by kernel_rfl) (by kernel_rfl) (dF g<|oX g<|ae (aa g) ai) (oO fun _ g=>(FT g (aK g (aN g<|ae (aa g)<|ae (aa g) ai) ak) (aa g)<|aK g (aN g<|ae (aa g)<|ae (aa g) ai) ak))<|fun _ g=>(aa g))<|aj (aI G<|di g (aa g)<|ae (aa g) ai)<|aj (aZ (PW.pt<|eQ (cZ<|qM g<|iJ g<|aa g)<|eQ (ba g (aa g)<|aa g)<|gR<|cZ<|Gp g<|Ac g<|ae (jZ (ln:=["_law_number"]) g (by kernel_rfl) (dF g<|aa g) mW<|fun _ g=>(aN g<|ae (aa g) ai)) ai) (aj (aP cN) aw) aw)<|aj (dj<|gu g (aa g)<|ae (ji ak) ai)<|aj (aP<|d_ g (di g (aa g)<|ae (aa g) ai)<|aa g) aw)
def IM:List Str:=["_law_spans","_law_rows","_law_places","_law_number","_law_begin","_law_end","_law_found"]
noncomputable def IP:List RS:=
 [.asg 2 .jf,
 .xs (GW 3 (.v 1) [.mI [4,5] (.call 0 [.v 1,.v 3]),
  .ite (.cmp .Lt (.v 4) (.v 5)) [.dput (.v 2) (.v 4) (.c (.bl true)),
   .dput (.v 2) (.v 5) (.c (.bl true))] []]),
 .asg 6 (.bc 0 "bounds" (.v 0) []),
 .ite (.or [(.not<|.eF .list<|.v 6),(.cmp .NotEq (.v 6)<|.xt j4 [.v 2]),(.not<|.xt qO [(.comp none [] .list [.v 6] none<|.call 1 [.v 0])])]) [.ret<|.c<|.bl false] [],
 .drop (.dn .append (.v 6) [(.neg<|.c<|.int 1)]),
 .ret (.cmp .Eq (.bc 0 "bounds" (.v 0) []) (.xt j4 [.v 2]))]
def IQ:List Str:=["isinstance","list","sorted","all"]
def W_:List Str:=["bounds"]
def IS:Stmt:=bh 54
theorem Xa:MX IM IS IJ af IQ W_ af af af IP 0:=fun G=>have g:=G.toGood;(aj (aI G qK)<|aj (U3 G (aa g)<|aj (tH [(_,_),(_,_)] G<|aN g<|ae (aa g)<|ae (aa g) ai)<|aj (aZ (ba g (aa g)<|aa g) (aj (mX G cN (aa g)<|aa g)<|aj (mX G cN (aa g)<|aa g) aw) aw) aw)<|aj (aI G<|iK g<|aa g)<|aj (aZ (PW.pt<|eQ (cZ<|qM g<|iJ g<|aa g)<|eQ (ba g (aa g)<|oX g<|ae (aa g) ai)<|gR<|cZ<|Gp g<|Ac g<|ae (jZ (ln:=["_law_place"]) g (by kernel_rfl) (dF g<|aa g) mW<|fun _ g=>(aN g<|ae (aa g) ai)) ai) (aj (aP cN) aw) aw)<|aj (dj<|gu g (aa g)<|ae (ji ak) ai)<|aj (aP<|d_ g (iK g<|aa g)<|oX g<|ae (aa g) ai) aw)
def IT:List Str:=["_law_spans","_law_rows","_law_size_here","_law_cell","_law_place"]
noncomputable def IU:List RS:=
 [.gQ 4 .list [(.lst [(.bin .Mod (.call 0 [.v 3,(.c (.int 11))]) (.blt .max [(.c (.int 1)),.v 2])),(.c (.int 0)),(.bin .Sub (.v 2) (.c (.int 1)))])] [.ite (.and [(.cmp .Gt (.v 2) (.c (.int 0))),(.not (.call 1 [.v 0,.v 1,.v 4]))]) [.ret (.c (.bl false))] []],
 .ret (.c (.bl true))]
def Xb:List Str:=["_law_mixed","_law_at"]
def Xd:List Str:=["max"]
def IV:Stmt:=bh 55
theorem Xe:MX IT IV Xb af Xd af af af af IU 0:=fun G=>have g:=G.toGood;(aj (lE G (dF g<|aR<|ae (aB g (aN g<|ae (aa g)<|ae ak ai)<|cj g<|ae ak<|ae (aa g) ai)<|ae ak<|ae (aB g (aa g) ak) ai)<|aj (aZ (PW.pt<|v7 (ba g (aa g) ak)<|v5<|cZ<|eS g<|aN g<|ae (aa g)<|ae (aa g)<|ae (aa g) ai) (aj (aP cN) aw) aw) aw)<|aj (aP cN) aw)
def IW:List Str:=["_law_spans","_law_rows","_law_cell","_law_some","_law_first","_law_number","_law_told_here"]
noncomputable def IX:List RS:=
 [.asg 3 (.xt j4 [.v 1]),
 .asg 4 (.bin .Mod (.call 0 [.v 2,(.c<|.int 17)])<|.blt .max [(.c<|.int 1),(.blt .len [.v 3])]),
 .gQ 5 .list [(.bin .Add (.sl (.v 3) (some (.v 4)) none) (.sl (.v 3) none (some (.v 4))))] [.asg 6 (.bc 0 "told" (.v 0) [.v 5]),
  .ite (.or [(.not<|.eF .tuple<|.v 6),(.cmp .NotEq (.v 6)<|.call 1 [.v 1,.v 5])]) [.ret<|.c<|.bl false] [],
  .ite (.or [(.not (.call 2 [(.ix (.v 6) (.c (.int 0)))])),(.not (.call 2 [(.ix (.v 6) (.c (.int 1)))]))]) [.ret (.c (.bl false))] []],
 .ret (.c (.bl true))]
def Xf:List Str:=["_law_mixed","_law_due","_law_whole"]
def Xg:List Str:=["sorted","max","len","isinstance","tuple"]
def Xh:List Str:=["told"]
def IY:Stmt:=bh 56
theorem Xi:MX IW IY Xf af Xg Xh af af af IX 0:=fun G=>have g:=G.toGood;(aj (aI G<|oX g<|ae (aa g) ai)<|aj (aI G<|aB g (aN g<|ae (aa g)<|ae ak ai)<|cj g<|ae ak<|ae (cj g<|ae (aa g) ai) ai)<|aj (lE G (dF g<|aB g (tF g (aa g) (mV<|aa g) FR)<|tF g (aa g) FR<|mV<|aa g)<|aj (aI G<|di g (aa g)<|ae (aa g) ai)<|aj (aZ (PW.pt<|eQ (cZ<|qM g<|iJ g<|aa g)<|gR<|ba g (aa g)<|aN g<|ae (aa g)<|ae (aa g) ai) (aj (aP cN) aw) aw)<|aj (aZ (PW.pt<|eQ (cZ<|eS g<|aN g<|ae (aK g (aa g) ak) ai)<|gR<|cZ<|eS g<|aN g<|ae (aK g (aa g) ak) ai) (aj (aP cN) aw) aw) aw)<|aj (aP cN) aw)
def IZ:List Str:=["_law_spans","_law_rows","_law_size_here","_law_cell","_law_way","_law_numbers"]
noncomputable def I_:List RS:=
 [.ite (.cmp .Eq (.v 4) (.c (.int 0))) [.ret (.and [(.call 0 [(.bc 0 "size" (.v 0) [])]),(.cmp .Eq (.bc 0 "size" (.v 0) []) (.v 2))])] [],
 .ite (.cmp .Eq (.v 4) (.c (.int 1))) [.asg 5 (.bc 1 "numbers" (.v 0) []),
  .ite (.or [(.not<|.eF .list<|.v 5),(.cmp .NotEq (.v 5)<|.xt j4 [.v 1])]) [.ret<|.c<|.bl false] [],
  .drop (.dn .append (.v 5) [(.neg<|.c<|.int 1)]),
  .ret (.xt qO [(.comp none [] .list [.v 5] none (.call 0 [.v 0]))])] [],
 .ite (.cmp .Eq (.v 4)<|.c<|.int 2) [.ret<|.call 1 [.v 0,.v 1,.v 3]] [],
 .ite (.cmp .Eq (.v 4)<|.c<|.int 3) [.ret<|.call 2 [.v 0,.v 1,.v 2,.v 3]] [],
 .ret (.call 3 [.v 0,.v 1])]
def Xj:List Str:=["_law_whole","_law_ends","_law_covers","_law_bounds"]
def Xk:List Str:=["size","numbers"]
def Ja:Stmt:=bh 57
theorem Xl:MX IZ Ja Xj af IQ Xk af af af I_ 0:=fun G=>have g:=G.toGood;(aj (aZ (ba g (aa g) ak) (aj (aP<|hU (aN g<|ae (iK g<|aa g) ai)<|iI<|d_ g (iK g<|aa g)<|aa g) aw) aw)<|aj (aZ (ba g (aa g) ak) (aj (aI G<|iK g<|aa g)<|aj (aZ (PW.pt<|eQ (cZ<|qM g<|iJ g<|aa g)<|gR<|ba g (aa g)<|oX g<|ae (aa g) ai) (aj (aP cN) aw) aw)<|aj (dj<|gu g (aa g)<|ae (ji ak) ai)<|aj (aP<|Ac g<|ae (jZ (ln:=["_law_number"]) g (by kernel_rfl) (dF g<|aa g) mW<|fun _ g=>(aN g<|ae (aa g) ai)) ai) aw) aw)<|aj (aZ (ba g (aa g) ak) (aj (aP<|aN g<|ae (aa g)<|ae (aa g)<|ae (aa g) ai) aw) aw)<|aj (aZ (ba g (aa g) ak) (aj (aP<|aN g<|ae (aa g)<|ae (aa g)<|ae (aa g)<|ae (aa g) ai) aw) aw)<|aj (aP<|aN g<|ae (aa g)<|ae (aa g) ai) aw)
def Jb:List Str:=["_law_spans","_law_own","_law_cell","_law_first","_law_step","_law_k"]
noncomputable def Jc:List RS:=
 [.asg 3 (.bin .Mod (.call 0 [.v 2,(.c (.int 15))]) (.c (.int 5))),
 .asg 4 (.bin .Add (.c<|.int 1)<|.bin .Mod (.bin .FloorDiv (.call 0 [.v 2,(.c<|.int 15)])<|.c<|.int 5)<|.c<|.int 4),
 .gQ 5 .fG [(.c<|.int 6)] [.ite (.not<|.call 1 [.v 0,(.dU (.v 1)<|.c<|.str "rows"),(.blt .len [(.dU (.v 1)<|.c<|.str "text")]),.v 2,(.bin .Mod (.bin .Add (.v 3)<|.bin .Mult (.v 5)<|.v 4)<|.c<|.int 5)]) [.ret<|.c<|.bl false] []],
 .ret (.c (.bl true))]
def Xm:List Str:=["_law_mixed","_law_asked"]
def Jd:Stmt:=bh 58
theorem Xn:MX Jb Jd Xm af F_ af af af af Jc 0:=fun G=>have g:=G.toGood;(aj (aI G<|aB g (aN g<|ae (aa g)<|ae ak ai) ak)<|aj (aI G<|aB g ak<|aB g (aB g (aN g<|ae (aa g)<|ae ak ai) ak) ak)<|aj (lE G (v8 g ak)<|aj (aZ (cZ<|eS g<|aN g<|ae (aa g)<|ae (fV g (aa g) aE)<|ae (cj g<|ae (fV g (aa g) aE) ai)<|ae (aa g)<|ae (aB g (aB g (aa g)<|aB g (aa g)<|aa g) ak) ai) (aj (aP cN) aw) aw) aw)<|aj (aP cN) aw)
def Je:List Str:=["_law_rows","_law_change_here","_law_number","_law_begin","_law_end","_law_grows","_law_sides"]
noncomputable def Jf:List RS:=
 [.gQ 2 .list [(.xt wj [.v 0])] [.mI [3,4,5] (.dU (.v 0) (.v 2)),
  .asg 6 (.ix (.lst [(.tup [(.c<|.str "right"),(.c<|.str "left")]),(.tup [(.c<|.str "left"),(.c<|.str "right")])])<|.blt .int [.v 5]),
  .dput (.v 0) (.v 2) (.tup [(.call 0 [.v 1,.v 3,(.ix (.v 6) (.c (.int 0)))]),(.call 0 [.v 1,.v 4,(.ix (.v 6) (.c (.int 1)))]),.v 5])]]
def Xo:List Str:=["moved"]
def Xp:List Str:=["list","int"]
def Jg:Stmt:=bh 59
theorem Xq:MX Je Jg Xo af Xp af af af af Jf 0:=fun G=>have g:=G.toGood;(aj (lE G (dF g<|Gx g<|ae (aa g) ai)<|aj (tH [(_,_),(_,_),(_,_)] G<|fV g (aa g)<|aa g)<|aj (aI G<|aK g (aR<|ae (bf<|ae aE<|ae aE ai)<|ae (bf<|ae aE<|ae aE ai) ai)<|cj g<|ae (aa g) ai)<|aj (mX G (bf<|ae (aN g<|ae (aa g)<|ae (aa g)<|ae (aK g (aa g) ak) ai)<|ae (aN g<|ae (aa g)<|ae (aa g)<|ae (aK g (aa g) ak) ai)<|ae (aa g) ai) (aa g)<|aa g) aw) aw)
def AQ:List Str:=["_law_spans","_law_size_here","_law_cell","_law_told_here","_law_way","_law_before"]
noncomputable def tW:List RS:=
 [.gQ 4 .list [(.ix (.lst [(.lst []),(.lst [(.c (.int 0))]),(.lst [(.c (.int 1))]),(.lst [(.c (.int 2))]),(.lst [(.c (.int 0)),(.c (.int 1))]),(.lst [(.c (.int 1)),(.c (.int 0))]),(.lst [(.c (.int 1)),(.c (.int 2))]),(.lst [(.c (.int 2)),(.c (.int 0))])]) (.bin .Mod (.call 0 [.v 2,(.c (.int 19))]) (.c (.int 8))))] [.ite (.cmp .Eq (.v 4) (.c (.int 0))) [.asg 5 (.bc 0 "bounds" (.v 0) [])] [.ite (.or [(.cmp .Eq (.v 4) (.c (.int 1))),(.cmp .Eq (.v 1) (.c (.int 0)))]) [.asg 5 (.bc 1 "numbers" (.v 0) [])] [.asg 5 (.bc 2 "at" (.v 0) [(.bin .Mod (.call 0 [.v 2,(.c (.int 21))]) (.v 1))])]],
  .drop (.dn .append (.v 3) [(.tup [.v 5,(.blt .list [.v 5])])])]]
def Jh:List Str:=["bounds","numbers","at"]
def tX:Stmt:=bh 60
theorem Xr:MY AQ tX m7 af Aq Jh af af af tW 0 0:=by
 intro CX Γ X G;have g:=G.toGood;show PS X (.For (.Name _ _) (.Subscript (.List _ _) _ _) _ _ _) (bg Γ<|.gQ 4 .list [(.ix (.lst _) _)] _)
 with_reducible refine lE G (dF g<|aK g ?_ ?_) ?_ (hq:=by kernel_rfl)
 ·with_reducible exact(aR<|ae (aR ai)<|ae (aR<|ae ak ai)<|ae (aR<|ae ak ai)<|ae (aR<|ae ak ai)<|ae (aR<|ae ak<|ae ak ai)<|ae (aR<|ae ak<|ae ak ai)<|ae (aR<|ae ak<|ae ak ai)<|ae (aR<|ae ak<|ae ak ai) ai)
 ·with_reducible exact(aB g (aN g (ae (aa g)<|ae ak ai) (hq:=by kernel_rfl)) ak)
 refine aj ?_ ?_
 ·exact(aZ (ba g (aa g) ak) (aj (aI G<|iK g<|aa g) aw)<|aj (aZ (PW.pt<|eQ (ba g (aa g) ak)<|gR<|ba g (aa g) ak) (aj (aI G<|iK g<|aa g) aw)<|aj (aI G<|di g (aa g)<|ae (aB g (aN g<|ae (aa g)<|ae ak ai)<|aa g) ai) aw) aw)
 refine aj ?_ ?_
 ·exact(dj<|gu g (aa g)<|ae (bf<|ae (aa g)<|ae (cj g<|ae (aa g) ai) ai) ai)
 exact aw
theorem Xs:MX AQ tX m7 af Aq Jh af af af tW 0:=by
 intro CX Γ X G;have e:dm tX=[bw tX 0]:=by kernel_rfl
 have e2:tW=[bx tW 0]:=by kernel_rfl
 rw[e,e2]
 with_reducible exact aj (Xr G) (aw)
def gU:List Str:=["_law_spans","_law_own","_law_cell","_law_rows","_law_text_here","_law_begin","_law_end","_law_number","_law_change_here","_law_handed"]
noncomputable def cO:List RS:=
 [.asg 3 (.dU (.v 1) (.c (.str "rows"))),
 .asg 4 (.dU (.v 1)<|.c<|.str "text"),
 .ite (.cmp .Lt (.bin .Mod (.v 2) (.c (.int 10))) (.c (.int 4))) [.mI [5,6] (.call 0 [(.bin .FloorDiv (.v 2) (.c (.int 20))),(.blt .len [.v 4])]),
  .asg 7 (.bc 0 "add" (.v 0) [.v 5,.v 6,(.cmp .Eq (.bin .Mod (.bin .FloorDiv (.v 2)<|.c<|.int 10)<|.c<|.int 2)<|.c<|.int 1)]),
  .dput (.v 3) (.dU (.v 1)<|.c<|.str "begun") (.tup [.v 5,.v 6,(.cmp .Eq (.bin .Mod (.bin .FloorDiv (.v 2)<|.c<|.int 10)<|.c<|.int 2)<|.c<|.int 1)]),
  .dput (.v 1) (.c<|.str "begun") (.bin .Add (.dU (.v 1)<|.c<|.str "begun")<|.c<|.int 1),
  .ret (.and [(.call 1 [.v 7]),(.cmp .Eq (.v 7) (.bin .Sub (.dU (.v 1) (.c (.str "begun"))) (.c (.int 1))))])] [],
 .ite (.and [(.cmp .Eq (.bin .Mod (.v 2) (.c (.int 10))) (.c (.int 4))),(.cmp .Gt (.xt wx [.v 3]) (.c (.int 0)))]) [.asg 7 (.ix (.xt j4 [.v 3]) (.bin .Mod (.bin .FloorDiv (.v 2) (.c (.int 10))) (.xt wx [.v 3]))),
  .drop (.xm wy (.v 3) [.v 7]),
  .ret (.cmp .Is (.bc 1 "drop" (.v 0) [.v 7]) (.c .aD))] [],
 .ite (.cmp .Eq (.bin .Mod (.v 2)<|.c<|.int 10)<|.c<|.int 9) [.ret<|.call 2 [.v 0,.v 1,(.bin .FloorDiv (.v 2)<|.c<|.int 10)]] [],
 .asg 8 (.call 3 [.v 2,.v 4,(.bin .Mod (.call 4 [.v 2,(.c<|.int 3)])<|.c<|.int 9)]),
 .dput (.v 1) (.c<|.str "text") (.call 5 [.v 4,.v 8]),
 .drop (.call 6 [.v 3,.v 8]),
 .asg 9 (.blt .list [.v 8]),
 .ite (.or [(.cmp .IsNot (.bc 2 "changed" (.v 0) [.v 9])<|.c .aD),(.cmp .NotEq (.v 9)<|.v 8)]) [.ret<|.c<|.bl false] [],
 .drop (.dn .clear (.v 9) []),
 .ret (.c (.bl true))]
def hZ:List Str:=["_law_stretch","_law_whole","_law_refused","_law_change","_law_mixed","_law_done","_law_moved"]
def h9:List Str:=["len","sorted","list"]
def h_:List Str:=["add","drop","changed"]
def da:Stmt:=bh 61
theorem Xt:MY gU da hZ af h9 h_ af af af cO 0 0:=by
 intro CX Γ X G;have g:=G.toGood;show PS X (.Assign [.Name "_law_rows" _] _ _) (bg Γ<|.asg 3 _)
 with_reducible exact(aI G<|fV g (aa g) aE)
theorem Xu:MY gU da hZ af h9 h_ af af af cO 0 1:=by
 intro CX Γ X G;have g:=G.toGood;show PS X (.Assign [.Name "_law_text_here" _] _ _) (bg Γ<|.asg 4 _)
 with_reducible exact(aI G<|fV g (aa g) aE)
theorem Xv:MY gU da hZ af h9 h_ af af af cO 0 2:=fun G=>have g:=G.toGood;(aZ (ba g (aB g (aa g) ak) ak) (aj (tH [(_,_),(_,_)] G<|aN g<|ae (aB g (aa g) ak)<|ae (cj g<|ae (aa g) ai) ai)<|aj (aI G<|di g (aa g)<|ae (aa g)<|ae (aa g)<|ae (d_ g (aB g (aB g (aa g) ak) ak) ak) ai)<|aj (mX G (bf<|ae (aa g)<|ae (aa g)<|ae (d_ g (aB g (aB g (aa g) ak) ak) ak) ai) (aa g)<|fV g (aa g) aE)<|aj (mX G (aB g (fV g (aa g) aE) ak) (aa g) aE)<|aj (aP<|hU (aN g<|ae (aa g) ai)<|iI<|d_ g (aa g)<|aB g (fV g (aa g) aE) ak) aw) aw)
theorem Xw:MY gU da hZ af h9 h_ af af af cO 0 3:=fun G=>have g:=G.toGood;(aZ (PW.pt<|v7 (ba g (aB g (aa g) ak) ak)<|v5<|ba g (GX g<|ae (aa g) ai) ak) (aj (aI G<|aK g (oX g<|ae (aa g) ai)<|aB g (aB g (aa g) ak)<|GX g<|ae (aa g) ai)<|aj (dj<|GZ g (aa g)<|aa g)<|aj (aP<|d_ g (di g (aa g)<|ae (aa g) ai) oN) aw) aw)
theorem Xx:MY gU da hZ af h9 h_ af af af cO 0 4:=fun G=>have g:=G.toGood;(aZ (ba g (aB g (aa g) ak) ak) (aj (aP<|aN g<|ae (aa g)<|ae (aa g)<|ae (aB g (aa g) ak) ai) aw) aw)
theorem Xy:MY gU da hZ af h9 h_ af af af cO 0 5:=by
 intro CX Γ X G;have g:=G.toGood;show PS X (.Assign [.Name "_law_change_here" _] _ _) (bg Γ<|.asg 8 _)
 with_reducible exact(aI G<|aN g<|ae (aa g)<|ae (aa g)<|ae (aB g (aN g<|ae (aa g)<|ae ak ai) ak) ai)
theorem Xz:MY gU da hZ af h9 h_ af af af cO 0 6:=fun G=>have g:=G.toGood;(mX G (aN g<|ae (aa g)<|ae (aa g) ai) (aa g) aE)
theorem XA:MY gU da hZ af h9 h_ af af af cO 0 7:=fun G=>have g:=G.toGood;(dj<|aN g<|ae (aa g)<|ae (aa g) ai)
theorem XB:MY gU da hZ af h9 h_ af af af cO 0 8:=by
 intro CX Γ X G;have g:=G.toGood;show PS X (.Assign [.Name "_law_handed" _] _ _) (bg Γ<|.asg 9 _)
 with_reducible exact(aI G<|cj g<|ae (aa g) ai)
theorem XC:MY gU da hZ af h9 h_ af af af cO 0 9:=fun G=>have g:=G.toGood;(aZ (PW.pt<|eQ (ba g (di g (aa g)<|ae (aa g) ai) oN)<|gR<|ba g (aa g)<|aa g) (aj (aP cN) aw) aw)
theorem XD:MY gU da hZ af h9 h_ af af af cO 0 10:=fun G=>have g:=G.toGood;(dj<|Ue g<|aa g)
theorem XE:MY gU da hZ af h9 h_ af af af cO 0 11:=by
 intro CX Γ X G;have g:=G.toGood;show PS X (.Return (some _) _) (bg Γ<|.ret _)
 with_reducible exact(aP cN)
theorem XF:MX gU da hZ af h9 h_ af af af cO 0:=by
 intro CX Γ X G;have e:dm da=[bw da 0,bw da 1,bw da 2,bw da 3,bw da 4,bw da 5,bw da 6,bw da 7,bw da 8,bw da 9,bw da 10,bw da 11]:=by kernel_rfl
 have e2:cO=[bx cO 0,bx cO 1,bx cO 2,bx cO 3,bx cO 4,bx cO 5,bx cO 6,bx cO 7,bx cO 8,bx cO 9,bx cO 10,bx cO 11]:=by kernel_rfl
 rw[e,e2]
 with_reducible exact aj (Xt G) (aj (Xu G)<|aj (Xv G)<|aj (Xw G)<|aj (Xx G)<|aj (Xy G)<|aj (Xz G)<|aj (XA G)<|aj (XB G)<|aj (XC G)<|aj (XD G)<|aj (XE G)<|aw)
def iP:List Str:=["_law_script","_law_text_here","_law_both","_law_owns","_law_told_here","_law_cell","_law_at_here","_law_far","_law_wide"]
noncomputable def dz:List RS:=
 [.asg 1 (.call 0 [(.call 1 [.v 0,(.c (.int 1))]),(.call 2 [(.call 1 [.v 0,(.c (.int 0))])])]),
 .asg 2 (.lst [(.make 0 [(.blt .len [.v 1])]),(.make 0 [(.blt .len [.v 1])])]),
 .asg 3 (.lst [(.xt nc [(.c<|.str "rows"),.jf,(.c<|.str "begun"),(.c<|.int 0),(.c<|.str "text"),.v 1]),(.xt nc [(.c<|.str "rows"),.jf,(.c<|.str "begun"),(.c<|.int 0),(.c<|.str "text"),.v 1])]),
 .asg 4 (.lst []),
 .gQ 5 .list [(.sl (.v 0) (some (.c (.int 2))) (some (.c (.int 26))))] [.asg 6 (.blt .int [(.cmp .Eq (.bin .Mod (.call 3 [.v 5,(.c (.int 1))]) (.c (.int 6))) (.c (.int 1)))]),
  .drop (.call 4 [(.ix (.v 2)<|.v 6),(.blt .len [(.dU (.ix (.v 3)<|.v 6)<|.c<|.str "text")]),.v 5,.v 4]),
  .ite (.not<|.call 5 [(.ix (.v 2)<|.v 6),(.ix (.v 3)<|.v 6),.v 5]) [.ret<|.c<|.bl false] [],
  .ite (.or [(.not (.call 6 [(.ix (.v 2) (.c (.int 0))),(.ix (.v 3) (.c (.int 0))),.v 5])),(.not (.call 6 [(.ix (.v 2) (.c (.int 1))),(.ix (.v 3) (.c (.int 1))),.v 5]))]) [.ret (.c (.bl false))] []],
 .ite (.cmp .NotEq (.comp (some 2) [] .list [.v 4] (some<|.cmp .NotEq (.v 0)<|.v 1)<|.v 0)<|.lst []) [.ret<|.c<|.bl false] [],
 .asg 7 (.bin .Add (.bin .Pow (.c<|.int 10)<|.c<|.int 12)<|.call 3 [(.call 1 [.v 0,(.c<|.int 0)]),(.c<|.int 17)]),
 .asg 8 (.make 0 [.v 7]),
 .ite (.or [(.cmp .NotEq (.bc 0 "add" (.v 8) [(.c<|.int 1),.v 7,(.c<|.bl true)])<|.c<|.int 0),(.cmp .NotEq (.bc 1 "told" (.v 8) [(.c<|.int 0)])<|.tup [(.c<|.int 1),.v 7]),(.cmp .NotEq (.bc 2 "at" (.v 8) [(.bin .Sub (.v 7)<|.c<|.int 1)])<|.lst [(.c<|.int 0)]),(.cmp .NotEq (.bc 2 "at" (.v 8) [(.c<|.int 0)])<|.lst [])]) [.ret<|.c<|.bl false] [],
 .ret (.and [(.call 6 [(.ix (.v 2) (.c (.int 0))),(.ix (.v 3) (.c (.int 0))),(.c (.int 1))]),(.call 6 [(.ix (.v 2) (.c (.int 1))),(.ix (.v 3) (.c (.int 1))),(.c (.int 1))])])]
def jo:List Str:=["_law_text","_law_cell_at","_law_size","_law_mixed","_law_kept","_law_deed","_law_stands"]
def jq:List Str:=["len","int"]
def jr:List Str:=["add","told","at"]
def dJ:Stmt:=bh 62
theorem XG:MY iP dJ jo af jq jr iO af af dz 0 0:=by
 intro CX Γ X G;have g:=G.toGood;show PS X (.Assign [.Name "_law_text_here" _] _ _) (bg Γ<|.asg 1 _)
 with_reducible exact(aI G<|aN g<|ae (aN g<|ae (aa g)<|ae ak ai)<|ae (aN g<|ae (aN g<|ae (aa g)<|ae ak ai) ai) ai)
theorem XH:MY iP dJ jo af jq jr iO af af dz 0 1:=by
 intro CX Γ X G;have g:=G.toGood;show PS X (.Assign [.Name "_law_both" _] _ _) (bg Γ<|.asg 2 _)
 with_reducible exact(aI G<|aR<|ae (qL g<|ae (cj g<|ae (aa g) ai) ai)<|ae (qL g<|ae (cj g<|ae (aa g) ai) ai) ai)
theorem XI:MY iP dJ jo af jq jr iO af af dz 0 2:=by
 intro CX Γ X G;have g:=G.toGood;show PS X (.Assign [.Name "_law_owns" _] _ _) (bg Γ<|.asg 3 _)
 with_reducible exact(aI G<|aR<|ae (Gv<|qP aE qK<|qP aE ak<|qP aE (aa g) Gs)<|ae (Gv<|qP aE qK<|qP aE ak<|qP aE (aa g) Gs) ai)
theorem XJ:MY iP dJ jo af jq jr iO af af dz 0 3:=by
 intro CX Γ X G;have g:=G.toGood;show PS X (.Assign [.Name "_law_told_here" _] _ _) (bg Γ<|.asg 4 _)
 with_reducible exact(aI G<|aR ai)
theorem XM:MY iP dJ jo af jq jr iO af af dz 0 4:=fun G=>have g:=G.toGood;(lE G (dF g<|tF g (aa g) (mV ak)<|mV ak)<|aj (aI G<|cj g<|ae (d_ g (aB g (aN g<|ae (aa g)<|ae ak ai) ak) ak) ai)<|aj (dj<|aN g<|ae (aK g (aa g)<|aa g)<|ae (cj g<|ae (fV g (aK g (aa g)<|aa g) aE) ai)<|ae (aa g)<|ae (aa g) ai)<|aj (aZ (cZ<|eS g<|aN g<|ae (aK g (aa g)<|aa g)<|ae (aK g (aa g)<|aa g)<|ae (aa g) ai) (aj (aP cN) aw) aw)<|aj (aZ (PW.pt<|eQ (cZ<|eS g<|aN g<|ae (aK g (aa g) ak)<|ae (aK g (aa g) ak)<|ae (aa g) ai)<|gR<|cZ<|eS g<|aN g<|ae (aK g (aa g) ak)<|ae (aK g (aa g) ak)<|ae (aa g) ai) (aj (aP cN) aw) aw) aw)
theorem XN:MY iP dJ jo af jq jr iO af af dz 0 5:=fun G=>have g:=G.toGood;(aZ (ba g (jZ (ln:=["_law_one","_law_other"]) g (by kernel_rfl) (dF g<|aa g) (oO fun _ g=>(ba g (aa g)<|aa g))<|fun _ g=>(aa g))<|aR ai) (aj (aP cN) aw) aw)
theorem XO:MY iP dJ jo af jq jr iO af af dz 0 6:=by
 intro CX Γ X G;have g:=G.toGood;show PS X (.Assign [.Name "_law_far" _] _ _) (bg Γ<|.asg 7 _)
 with_reducible exact(aI G<|aB g (aB g ak ak)<|aN g<|ae (aN g<|ae (aa g)<|ae ak ai)<|ae ak ai)
theorem XQ:MY iP dJ jo af jq jr iO af af dz 0 7:=by
 intro CX Γ X G;have g:=G.toGood;show PS X (.Assign [.Name "_law_wide" _] _ _) (bg Γ<|.asg 8 _)
 with_reducible exact(aI G<|qL g<|ae (aa g) ai)
theorem XR:MY iP dJ jo af jq jr iO af af dz 0 8:=fun G=>have g:=G.toGood;(aZ (PW.pt<|eQ (ba g (di g (aa g)<|ae ak<|ae (aa g)<|ae cN ai) ak)<|eQ (ba g (di g (aa g)<|ae ak ai)<|bf<|ae ak<|ae (aa g) ai)<|eQ (ba g (di g (aa g)<|ae (aB g (aa g) ak) ai)<|aR<|ae ak ai)<|gR<|ba g (di g (aa g)<|ae ak ai)<|aR ai) (aj (aP cN) aw) aw)
theorem XS:MY iP dJ jo af jq jr iO af af dz 0 9:=by
 intro CX Γ X G;have g:=G.toGood;show PS X (.Return (some _) _) (bg Γ<|.ret _)
 with_reducible exact(aP<|hU (aN g<|ae (aK g (aa g) ak)<|ae (aK g (aa g) ak)<|ae ak ai)<|iI<|aN g<|ae (aK g (aa g) ak)<|ae (aK g (aa g) ak)<|ae ak ai)
theorem XT:MX iP dJ jo af jq jr iO af af dz 0:=by
 intro CX Γ X G;have e:dm dJ=[bw dJ 0,bw dJ 1,bw dJ 2,bw dJ 3,bw dJ 4,bw dJ 5,bw dJ 6,bw dJ 7,bw dJ 8,bw dJ 9]:=by kernel_rfl
 have e2:dz=[bx dz 0,bx dz 1,bx dz 2,bx dz 3,bx dz 4,bx dz 5,bx dz 6,bx dz 7,bx dz 8,bx dz 9]:=by kernel_rfl
 rw[e,e2]
 with_reducible exact aj (XG G) (aj (XH G)<|aj (XI G)<|aj (XJ G)<|aj (XM G)<|aj (XN G)<|aj (XO G)<|aj (XQ G)<|aj (XR G)<|aj (XS G)<|aw)
end L2.bA
namespace L2.B
open PySem PySem.Spec PyProof.Rows
def gz(H H':Hp):Prop:= ∀b xs,H b=some (.tup xs)->H' b=some (.tup xs)
theorem dc(h:av H H'):gz H H':=fun b xs e=>h b _ e
theorem sameNew{p:Addr}{o:HO}(h:H p=none):av H (upd H p o):=fun b u e=>by rw[ax<|aL e h];exact e
def bQ(c:Addr)(H H':Hp):Prop:= ∀b o,H b=some o->b≠c->H' b=some o
theorem bQ.upd{c:Addr}{o:HO}:bQ c H (upd H c o):=fun b u e n=>by rw[ax n];exact e
theorem sameBut{c:Addr}{H1:Hp}(a:av H H1)(b:bQ c H1 H2):bQ c H H2:=fun d o e n=>b d o (a d o e) n
theorem Ji{c:Addr}{H1:Hp}(a:av H H1)(hc:H c=none)(b:bQ c H1 H2):av H H2:=fun d o e=>b d o (a d o e) (aL e hc)
theorem bQ.eA{c:Addr}(h:bQ c H H')(hc:H c=some (.lst xs)):gz H H':=fun b ys e=>h b _ e (fun z=>by rw[z,hc] at e;cases e)
theorem iF{c:Bool}{A B:Prop}(q:B)(h:c=false:=by first|rfl|decide):if c=true then A else B:=by
 rw[h];exact kW q
theorem iT{c:Bool}{A B:Prop}(q:A)(h:c=true:=by first|rfl|decide):if c=true then A else B:=by
 rw[h];exact fM q
inductive Pt where|keep (n:Int)|put (s:Str)|cut (s:Str)
 deriving DecidableEq
def Pt.word:Pt->Str|.keep _=> "keep" |.put _=> "put" |.cut _=> "cut"
def Pt.val:Pt->V|.keep n=>.int n|.put s=>.str s|.cut s=>.str s
def lN(H:Hp)(v:V)(p:Pt):Prop:= ∃a,v=.ref a/\H a=some (.tup [.str p.word,p.val])
abbrev bL(H:Hp):List V->List Pt->Prop:=Paired (lN H)
theorem lN.mono{p:Pt}(t:gz H H')(h:lN H v p):lN H' v p:=by
 obtain⟨a,e,h⟩:=h;exact⟨a,e,t _ _ h⟩
theorem bL.mono{H H':Hp}(t:gz H H'):∀{vs:List V}{ps:List Pt},bL H vs ps->bL H' vs ps
 |_,_,.nil=>.nil
 |_,_,.cons h r=>.cons (h.mono t) (bL.mono t r)
theorem bL.get{H:Hp}:∀{vs:List V}{ps:List Pt}{i:Nat}{v:V},bL H vs ps->vs[i]?=some v->∃p,ps[i]?=some p/\lN H v p
 |_,_,i,v,.nil,e=>by simp at e
 |_,_,0,v,.cons h r,e=>by simp at e;subst e;exact⟨_,rfl,h⟩
 |_,_,i+1,v,.cons h r,e=>by
  obtain⟨p,a,b⟩:=bL.get (i:=i) r (by simpa using e)
  exact⟨p,by simpa using a,b⟩
theorem bL.snoc{vs:List V}{ps:List Pt}{p:Pt}(h:bL H vs ps)(q:lN H v p):bL H (vs++[v]) (ps++[p]):=Paired.snoc h q
def iQ:Sp:=fun vs H Q E=>∃i,vs=[.int i]/\Q (.bl true) H
def nj(w a:Str):Bool:=w !=a && !(a=="cut" && w=="put")
def AR:Sp:=fun vs H Q E=>∃w a,vs=[.str w,.str a]/\Q (.bl<|nj w a) H
theorem XU{i j:Str}:decide (V.str i=V.str j)=(i==j):=i_
theorem XW{K:Frag}(vs:List V)(H:Hp)(Q:VK)(E:XK)(h:AR vs H Q E):aA (aH K [] [] (E:=E)) F3 {nx:=fun _ H'=>Q .aD H',rt:=Q} (start F2 vs) H:=by
 obtain⟨w,a,rfl,q⟩:=h;refine⟨_,rfl,_,rfl,_,rfl,?_⟩;unfold nj at q;refine cx (fun h=>?_)<|fun h=>?_
 ·rw[zbg,i_] at h;have e:(w !=a)=true:=h;rw[e] at q;refine⟨_,rfl,_,rfl,?_⟩;refine cx (fun h2=>?_)<|fun h2=>?_
  ·rw[zaO,i_] at h2;rw[h2] at q;refine⟨_,rfl,?_⟩;show Q (.bl<|!(false ^^ decide (V.str w=V.str "put"))) H;rw[zaO,i_];exact q
  ·rw[zaO,i_] at h2;have e2:(a=="cut")=false:=by simpa using h2
   rw[e2] at q;exact q
 ·rw[zbg,i_] at h;have e:(w !=a)=false:=by simpa using h
  rw[e] at q;exact q
def Jj:Pt->Prop|.keep _=>True|.put s=>s.length<=1000000|.cut s=>s.length<=1000000
theorem bY(h:n<=1000000):n<=sizeLine:=zar h (by decide)
theorem cP(h:n<=1000000):n<sizeLine:=Nat.lt_of_le_of_lt h (by decide)
def cell(ns:List Int)(k:Nat):Int:=ns.getD k 0
def tY(K:Frag):Sp:=fun vs H Q E=>∃(a:Addr) (ns:List Int) (k:Int),vs=[.ref a,.int k]/\ay K H a (ns.map V.int)/\0<=k/\Q (.int<|cell ns k.toNat) H
theorem XX{K:Frag}(vs:List V)(H:Hp)(Q:VK)(E:XK)(h:tY K vs H Q E):aA (aH K [] [] (E:=E)) F5 {nx:=fun _ H'=>Q .aD H',rt:=Q} (start F4 vs) H:=by
 obtain⟨a,ns,k,rfl,ha,hk,q⟩:=h;refine⟨_,rfl,_,rfl,.inl ⟨_,ha,trivial,_,rfl,?_⟩⟩;rw[zaa];refine cx (fun h=>?_)<|fun h=>?_
 ·have aG:k< (ns.length:Int):=of_decide_eq_true h;refine⟨_,rfl,_,rfl,.inl ⟨_,_,_,_,rfl,rfl,ha,?_,q⟩⟩;have e:=g4 (xs:=ns.map V.int) (j:=k.toNat) (v:=.int (cell ns k.toNat)) (by
   have:k.toNat<ns.length:=by lia
   simp[cell,this])
  rw[show((k.toNat:Nat):Int)=k by lia] at e
  exact e
 ·have hge:¬k< (ns.length:Int):=fun z=>h (zqT z);have e:cell ns k.toNat=0:=by
   have z:ns[k.toNat]?=none:=List.getElem?_eq_none_iff.mpr (by lia)
   unfold cell;rw[zbW,z];rfl
  rw[e] at q;exact q
theorem AS:(0:Int) <1000003:=by decide
def mixed(c k:Int):Int:=let n:=(c*48271+7919*k+11) % 1000003;n*n % 1000003*n % 1000003
def dN:Sp:=fun vs H Q E=>∃c k,vs=[.int c,.int k]/\Q (.int<|mixed c k) H
theorem XY{K:Frag}(vs:List V)(H:Hp)(Q:VK)(E:XK)(h:dN vs H Q E):aA (aH K [] [] (E:=E)) F7 {nx:=fun _ H'=>Q .aD H',rt:=Q} (start F6 vs) H:=by
 obtain⟨c,k,rfl,q⟩:=h;have h0:∀z:Int,0<=z % 1000003/\z % 1000003<1000003:=fun z=>⟨zaq _ (by decide),zap _ (by decide)⟩
 have h1:=h0 (c*48271+7919*k+11);have h2:=h0 ((c*48271+7919*k+11) % 1000003* ((c*48271+7919*k+11) % 1000003));refine⟨_,rfl,.inr ⟨by decide,by decide⟩,_,rfl,.inl ⟨by decide,by decide⟩,AS,?_⟩
 refine⟨_,rfl,_,rfl,.inl ⟨by lia,by lia⟩,AS,_,rfl,.inl ⟨by lia,by lia⟩,AS,?_⟩
 exact q
theorem AU(c k:Int):0<=mixed c k/\mixed c k<1000003:=⟨zaq _ (by decide),zap _ (by decide)⟩
def SG:Str:=" !\"#$&'()*+,-./0123456789:;<=>?@ABCDEFGHIJKLMNOPQRSTUVWXYZ[\\]^_`abcdefghijklmnopqrstuvwxyz{|}~\n"
def good(x:Str):Prop:=x.length<=1000000/\∀c∈x.cps.toList,SG.cps.contains c=true
theorem takeWhile_all{α:Type}(p:α->Bool):∀l:List α,(∀c∈l,p c=true)->l.takeWhile p=l
 |[],_=>rfl
 |c::l,h=>by rw[List.takeWhile_cons,h c zas,takeWhile_all p l fun d hd=>h d (zao _ hd)];rfl
theorem XZ(x y:Str)(h:∀c∈x.cps.toList,y.cps.contains c=true):Txt.lstripChars x y="":=by
 have e0:stripLo y.cps.contains true x=x.length:=by
  unfold stripLo;rw[if_pos rfl,takeWhile_all _ _ h]
  simp[Str.length]
 have e1:stripHi y.cps.contains false x x.length=x.length:=rfl;unfold Txt.lstripChars Txt.stripBy stripSame stripped;rw[e0,e1]
 split
 ·rename_i hq
  simp only[zad,beq_iff_eq] at hq
  have:x.cps= #[]:=zbS hq.1;obtain⟨c⟩:=x;have e:c= #[]:=this;subst e
  rfl
 ·show(⟨x.cps.extract x.length x.length⟩:Str)=_;have:x.cps.extract x.length x.length= #[]:=by simp[Str.length]
  rw[this];rfl
theorem wK{a:Addr}{T:Ty}{k:Bool->Prop}(h:H a=some (.tup xs))(q:k (T==.tuple)):bG T (.ref a) H k:=by
 show(match H a with|some (.lst _)=>k (T==.list)|some (.a_ _<|.lst _)=>k (T==.list)|some (.tup _)=>k (T==.tuple)|some (.dK _)=>k (T==.dict)|some (.dT _)=>k (T==.dict)|_=>False)
 rw[h];exact q
theorem qT{a:Addr}{T:Ty}{k:Bool->Prop}(h:H a=some (.lst xs))(q:k (T==.list)):bG T (.ref a) H k:=by
 show(match H a with|some (.lst _)=>k (T==.list)|some (.a_ _<|.lst _)=>k (T==.list)|some (.tup _)=>k (T==.tuple)|some (.dK _)=>k (T==.dict)|some (.dT _)=>k (T==.dict)|_=>False)
 rw[h];exact q
abbrev gS:List (Str×V):=[("SIGNS",.str SG)]
def X0:Sp:=fun vs H Q E=>∃x,vs=[.str x]/\good x/\Q (.bl true) H
theorem X1{K:Frag}(vs:List V)(H:Hp)(Q:VK)(E:XK)(h:X0 vs H Q E):aA (aH K [] gS (E:=E)) zZ {nx:=fun _ H'=>Q .aD H',rt:=Q} (start iL vs) H:=by
 obtain⟨x,rfl,hx,q⟩:=h;refine⟨_,rfl,rfl,_,rfl,fM ⟨_,rfl,rfl,bY hx.1,?_⟩⟩;show Q (.bl<|false ^^ decide (V.str (Txt.lstripChars x SG)=V.str "")) H;rw[XZ x SG hx.2,zqT rfl];exact q
def gA:Pt->Prop|.keep n=>1<=n|.put s=>good s/\s≠"" |.cut s=>good s/\s≠""
def X3(K:Frag):Sp:=fun vs H Q E=>∃w p xs,vs=[.str w,.ref p]/\aO K H p xs/\xs.all gN=true/\Q (.bl<|fz (.str w) xs) H
theorem X4{K:Frag}(vs:List V)(H:Hp)(Q:VK)(E:XK)(h:X3 K vs H Q E):aA (aH K [] [] (E:=E)) zY {nx:=fun _ H'=>Q .aD H',rt:=Q} (start zX vs) H:=by
 obtain⟨w,p,xs,rfl,hp,hf,q⟩:=h;exact⟨_,rfl,rfl,_,rfl,fM ⟨_,rfl,_,rfl,p,xs,rfl,.inr hp,rfl,hf,q⟩⟩
def AV:Sp:=fun vs H Q E=>∃v p,vs=[v]/\lN H v p/\gA p/\∀H',av H H'->Q (.bl true) H'
def chainOk:Str->List Pt->Bool
 |_,[]=>true
 |a,p::r=>nj p.word a && chainOk p.word r
def ia(a:Str)(ps:List Pt):Nat->Str
 | 0=>a
 |i+1=>match ps[i]? with|some p=>p.word|none=> ""
theorem AW:∀(ps:List Pt) (a:Str) (i:Nat) (p:Pt),chainOk a ps=true->ps[i]?=some p->nj p.word (ia a ps i)=true
 |[],_,_,_,_,h=>by simp at h
 |q::r,a,0,p,h,e=>by
  simp only[chainOk,zad] at h
  simp at e;subst e;exact h.1
 |q::r,a,i+1,p,h,e=>by
  simp only[chainOk,zad] at h
  have e':r[i]?=some p:=by simpa using e
  have ih:=AW r q.word i p h.2 e';cases i with
  |zero=>simpa[ia] using ih
  |succ i=>simpa[ia] using ih
abbrev X5:List (Str×Sp):=[("is_part",AV),("may_follow",AR)]
def Jk:Sp:=fun vs H Q E=>∃a xs ps,vs=[.ref a]/\H a=some (.lst xs)/\bL H xs ps/\(∀p∈ps,gA p)/\chainOk "" ps=true/\∀H',av H H'->Q .aD H'
theorem X6{K:Frag}{et:List (Str×Addr)}(vs:List V)(H:Hp)(Q:VK)(E:XK)(h:Jk vs H Q E):aA (aH K X5 [] (et:=et) (E:=E)) z6 {nx:=fun _ H'=>Q .aD H',rt:=Q} (start z5 vs) H:=by
 obtain⟨a,xs,ps,rfl,ha,cz,az,dR,q⟩:=h;refine⟨_,rfl,rfl,qT ha ⟨_,rfl,a,rfl,⟨_,ay.of ha⟩,iB (K:=K) (a:=a) (xs:=xs) (fun i σ H2=>∃v,σ=[some (.ref a),some (.str (ia "" ps i)),v]/\av H H2) ⟨none,rfl,av.refl _⟩
  (fun i σ H2 _ ⟨_,_,s2⟩=>ay.of (s2 _ _ ha)) ?_ ?_⟩⟩
 ·rintro i x σ H2 hi ⟨v,rfl,s2⟩;obtain⟨p,hp,o6⟩:=cz.get hi;obtain⟨b,rfl,hb⟩:=o6.mono (dc s2);refine⟨_,rfl,_,p,rfl,⟨b,rfl,hb⟩,az p<|zav hp,fun H3 s3=>?_⟩;refine⟨_,rfl,.inr<|.inl ⟨_,_,_,_,rfl,rfl,aO.of<|s3 _ _ hb,rfl,_,rfl,p.word,_,rfl,?_⟩⟩;have e:=AW ps "" i p dR hp;show(fun c H1=>if (!c)=true then _ else _) (nj p.word<|ia "" ps i) H3
  rw[e];refine⟨_,rfl,.inr<|.inl ⟨_,_,_,_,rfl,rfl,aO.of<|s3 _ _ hb,rfl,some<|.ref b,?_,s2.trans s3⟩⟩;show[some<|V.ref a,some<|V.str p.word,some<|V.ref b]=_;have e2:ia "" ps (i+1)=p.word:=by simp only[ia,hp]
  rw[e2]
 ·rintro σ H2 ⟨v,rfl,s2⟩;exact q H2 s2
theorem X7{p:Pt}(h:gA p):Jj p:=by
 cases p with
 |keep n=>trivial
 |put s=>exact h.1.1
 |cut s=>exact h.1.1
theorem X8{α:Type}(p:α->Bool)(l:List α)(i:Nat)(v:α)(h:l[i]?=some v):(l.take<|i+1).filter p=(l.take i).filter p++(if p v then [v] else []):=by
 rw[zbj,h,zbw];cases hp:p v<;>simp[hp]
def cat(ts:List Str):Str:=Txt.join "" ts
def sz(ts:List Str):Nat:=(ts.map Str.length).sum
theorem ofString_empty:(Str.ofString "")=⟨#[]⟩:=rfl
theorem qU(ts:List Str):(cat ts).cps.toList=(ts.map fun t=>t.cps.toList).flatten:=by
 have e:(Str.ofString "").cps= #[]:=rfl;cases ts with
 |nil=>rfl
 |cons t r=>
  show(r.foldl (fun acc p=>acc++(Str.ofString "").cps++p.cps) t.cps).toList=_;rw[e];have go:∀(r:List Str) (acc:Array Nat),(r.foldl (fun acc p=>acc++ #[]++p.cps) acc).toList=acc.toList++(r.map fun t=>t.cps.toList).flatten:=by
   intro r
   induction r with
   |nil=>intro acc;simp
   |cons q r ih=>
    intro acc;show(r.foldl (fun acc p=>acc++ #[]++p.cps)<|acc++ #[]++q.cps).toList=_;rw[ih];simp
  rw[go];simp
theorem j8{x:Str}(h:x.cps.toList=y.cps.toList):x=y:=by
 obtain⟨x⟩:=x;obtain⟨y⟩:=y;exact congrArg Str.mk<|Array.toList_inj.mp h
theorem app_list(x y:Str):(x++y).cps.toList=x.cps.toList++y.cps.toList:=by
 show(x.cps++y.cps).toList=_
 simp
theorem X9(a b:List Str):cat (a++b)=cat a++cat b:=j8 (by rw[app_list,qU,qU,qU];simp)
theorem X_(x:Str):cat [x]=x:=j8 (by rw[qU];simp)
theorem len_list(x:Str):x.length=x.cps.toList.length:=by simp[Str.length]
theorem Jl(ts:List Str):(cat ts).length=sz ts:=by
 rw[len_list,qU,List.length_flatten];unfold sz;rw[zaB]
 congr 1
theorem Jm(x:Str):x++(Str.ofString "")=x:=j8 (by rw[app_list];simp[ofString_empty])
theorem qW(x:Str):(Str.ofString "")++x=x:=j8 (by rw[app_list];simp[ofString_empty])
theorem joinOk_of{ts:List Str}(h:sz ts<=1000000):JoinOk "" ts=true:=by
 have go:∀(l:List Str) (n:Nat),l.foldl (· + ·.length+(Str.ofString "").length) n=n+sz l:=by
  intro l
  induction l with
  |nil=>intro n;rfl
  |cons t r ih=>
   intro n;show r.foldl _ (n+t.length+0)=_;rw[ih];show n+t.length+0+sz r=n+(t.length+sz r);lia
 unfold JoinOk;have e:ts.toArray.foldl (· + ·.length+(Str.ofString "").length) 0=sz ts:=by
  rw[List.foldl_toArray,go,zbx]
 rw[e];show(!decide (sz ts>sizeLine))=true;rw[zqF (by have:=bY h;lia)]
 rfl
def txt(mk:Str->Pt)(x:Str):List Pt:=if x="" then [] else [mk x]
def fZ(ch:List Pt)(Ya Yb:List Str):List Pt:=ch++txt .put (cat Ya)++txt .cut (cat Yb)
def js(ch:List Pt)(n:Int):List Pt:=match ch.getLast? with
 |some (.keep m)=>ch.dropLast++[.keep<|n+m]
 |_=>ch++[.keep n]
abbrev NS:=List Pt×List Str×List Str
def gB:NS->Pt->NS
 |(ch,p,c),.put s=>(ch,p++[s],c)
 |(ch,p,c),.cut s=>(ch,p,c++[s])
 |(ch,p,c),.keep n=>if 0<n then (js (fZ ch p c) n,[],[]) else (ch,p,c)
def Jn(ps:List Pt):List Pt:=let s:=ps.foldl gB ([],[],[]);fZ s.1 s.2.1 s.2.2
def eT:Pt->Nat|.keep _=>0|.put s=>s.length|.cut s=>s.length
def aV(ps:List Pt):Nat:=(ps.map eT).sum
theorem Jo(ps:List Pt)(i:Nat):aV (ps.take i)<=aV ps:=by
 have:aV ps=aV (ps.take i)+aV (ps.drop i):=by
  unfold aV;rw[<-List.sum_append,<-zat,zby]
 lia
theorem Yc{ps:List Pt}{p:Pt}(h:ps[i]?=some p):aV (ps.take<|i+1)=aV (ps.take i)+eT p:=by
 rw[zbj,h]
 simp[aV]
theorem Yd{α β:Type}{f:β->α->β}{b:β}{l:List α}{i:Nat}{p:α}(h:l[i]?=some p):(l.take<|i+1).foldl f b=f ((l.take i).foldl f b) p:=by
 rw[zbj,h,List.foldl_append]
 rfl
theorem Jp(mk:Str->Pt)(x:Str):(txt mk x).length<=1:=by unfold txt;split<;>simp
theorem Jq(ch:List Pt)(p c:List Str):(fZ ch p c).length<=ch.length+2:=by
 unfold fZ;have:=Jp .put (cat p);have:=Jp .cut (cat c)
 simp only[zqA]
 lia
theorem Ye(ch:List Pt)(n:Int):(js ch n).length<=ch.length+1:=by
 unfold js
 split
 ·simp only[zqA,List.length_dropLast,zbs];lia
 ·simp
def A1:Str:=" !\"#$&'()*+,-./0123456789:;<=>?@ABCDEFGHIJKLMNOPQRSTUVWXYZ[\\]^_`"
def A2:Str:="abcdefghijklmnopqrstuvwxyz{|}~\n"
def A3:Str:="ab\n"
def wL(al:Str):Prop:=0<al.length/\al.length<=1000/\∀c∈al.cps.toList,SG.cps.contains c=true
theorem Jr{al:Str}(h:(decide (0<al.length) && decide (al.length<=1000) && al.cps.toList.all fun c=>SG.cps.contains c)=true):wL al:=by
 simp only[zad,decide_eq_true_eq,zaY] at h
 exact⟨h.1.1,h.1.2,h.2⟩
theorem Yf:wL (A1++A2):=Jr (by decide+kernel)
theorem AX:wL A3:=Jr (by decide+kernel)
theorem Yg:A1.length+A2.length<=sizeLine:=by decide+kernel
abbrev Js:List (Str×Sp):=[("_law_mixed",dN)]
def wM:Sp:=fun vs H Q E=>∃c n,vs=[.int c,.int n]/\0<=n/\n<=1000/\∀x H',good x->x.length=n.toNat->av H H'->Q (.str x) H'
def AY(t:Str):Prop:=t.length=1/\∀c∈t.cps.toList,SG.cps.contains c=true
theorem wN:∀(ts:List Str),(∀t∈ts,AY t)->sz ts=ts.length
 |[],_=>rfl
 |t::r,h=>by
  show t.length+sz r=r.length+1;rw[(h t zas).1,wN r fun q hq=>h q (zao _ hq)];lia
theorem Yh{ts:List Str}(h:∀t∈ts,AY t)(hl:ts.length<=1000):good (cat ts):=by
 refine⟨by rw[Jl,wN ts h];lia,fun c hc=>?_⟩
 rw[qU,List.mem_flatten] at hc;obtain⟨l,hl,hc⟩:=hc;obtain⟨t,ht,rfl⟩:=zax.mp hl;exact(h t ht).2 c hc
theorem Yi{K:Frag}(vs:List V)(H:Hp)(Q:VK)(E:XK)(h:wM vs H Q E):aA (aH K Js [] (E:=E)) F9 {nx:=fun _ H'=>Q .aD H',rt:=Q} (start F8 vs) H:=by
 obtain⟨c,n,rfl,Yj,iH,k⟩:=h;have fin:∀(al:Str),wL al->aA (aH K Js [] (E:=E)) [.ret<|.dn .join (.c<|.str "") [(.comp none [("_law_some",2),("_law_cell",0)] .fG [.v 1] none<|.ix (.v 1)<|.bin .Mod (.bin .FloorDiv (.call 0 [.v 2,.v 0])<|.c<|.int 7)<|.blt .len [.v 1])]]
   {nx:=fun _ H'=>Q .aD H',rt:=Q} [some<|.int c,some<|.int n,some<|.str al] H:=by
  intro al ho;refine⟨rfl,_,rfl,n,rfl,by lia,by lia,fun i m ys H2=>m=n.toNat - i/\i<=n.toNat/\H2=H/\∃ts:List Str,ys=ts.map V.str/\ts.length=i/\∀t∈ts,AY t,⟨_,rfl,zqZ _,rfl,[],rfl,rfl,fun t ht=>by cases ht⟩,?_⟩
  rintro i m ys H2 ⟨rfl,hi,rfl,ts,rfl,hl,wO⟩;by_cases aG:i<n.toNat
  ·refine .inr ⟨aG,?_⟩;rintro x H3 ⟨rfl,rfl⟩;refine⟨_,rfl,_,rfl,_,rfl,_,_,rfl,⟨by decide,by decide⟩,_,rfl,bY (by have:=ho.2.1;lia),(by show(0:Int) < (al.length:Int);have:=ho.1;lia),?_⟩
   have hm:=AU c (0+(i:Int));have Yk:0<=mixed c (0+(i:Int)) / 7 % (al.length:Int):=zaq _ (by have:=ho.1;lia)
   have Yl:mixed c (0+(i:Int)) / 7 % (al.length:Int) < (al.length:Int):=zap _ (by have:=ho.1;lia)
   obtain⟨j,ej⟩:∃j,j=mixed c (0+(i:Int)) / 7 % (al.length:Int):=⟨_,rfl⟩;rw[<-ej] at Yk Yl;have Jt:j.toNat<al.cps.toList.length:=by rw[<-len_list];lia
   refine .inr<|.inr<|.inl ⟨al,j,al.cps.toList[j.toNat],rfl,(by rw[ej]),bY (by have:=ho.2.1;lia),?_,?_,n.toNat - (i+1),by lia,rfl,aG,rfl,ts++[⟨#[al.cps.toList[j.toNat]]⟩],(by rw[zat];rfl),by simp[hl],?_⟩
   ·have e:=g4 (xs:=al.cps.toList) (j:=j.toNat) (v:=al.cps.toList[j.toNat]) (by simp[Jt])
    rw[show((j.toNat:Nat):Int)=j by lia] at e
    exact e
   ·rw[zaa];exact cP (by lia)
   ·intro t ht;rcases zag.mp ht with z|z
    ·exact wO t z
    ·rw[zaf.mp z];refine⟨rfl,fun d hd=>?_⟩;have:d=al.cps.toList[j.toNat]:=by simpa using hd
     rw[this];exact ho.2.2 _<|zaF Jt
  ·have dq:i=n.toNat:=by lia
   refine .inl ⟨by show n.toNat<=i;lia,fun p hp=>?_⟩
   refine⟨ts,ay.of au,joinOk_of (by rw[wN ts wO];lia),?_⟩
   exact k (cat ts) _ (Yh wO (by lia)) (by rw[Jl,wN ts wO,hl,dq])<|sameNew hp
 refine⟨_,rfl,Yg,_,rfl,(by show(0:Int) <3;decide),_,rfl,?_⟩
 refine cx (fun h=>?_)<|fun h=>?_
 ·exact fin A3 AX
 ·exact fin (A1++A2) Yf
def gC:Pt->Prop|.keep n=>0<=n|.put s=>good s/\s.length<=100000|.cut s=>good s/\s.length<=100000
abbrev Row:=Str×Str×Int
def jt(r:Row):List V:=[.str r.1,.str r.2.1,.int r.2.2]
def Ju(H:Hp)(v:V)(r:Row):Prop:= ∃b,v=.ref b/\H b=some (.lst<|jt r)
abbrev lO(H:Hp):List V->List Row->Prop:=Paired (Ju H)
theorem lO.mono{H H':Hp}:∀{vs:List V}{ps:List Row},lO H vs ps->(∀v∈vs,∀b,v=.ref b->∀o,H b=some o->H' b=some o)->lO H' vs ps
 |_,_,.nil,_=>.nil
 |_,_,.cons ⟨b,e,h⟩ r,k=>.cons ⟨b,e,k _ zas b e _ h⟩ (lO.mono r fun v hv=>k v (zao _ hv))
theorem lO.get{H:Hp}:∀{vs:List V}{ps:List Row}{i:Nat}{v:V},lO H vs ps->vs[i]?=some v->∃p,ps[i]?=some p/\Ju H v p
 |_,_,i,v,.nil,e=>by simp at e
 |_,_,0,v,.cons h r,e=>by simp at e;subst e;exact⟨_,rfl,h⟩
 |_,_,i+1,v,.cons h r,e=>by
  obtain⟨p,a,b⟩:=lO.get (i:=i) r (by simpa using e)
  exact⟨p,by simpa using a,b⟩
def aW:List Row×Row->Pt->List Row×Row
 |(pre,r),.keep n=>(pre,(r.1,r.2.1,r.2.2+n))
 |(pre,r),.put s=>if s="" then (pre,r) else if 0<r.2.2 then (pre++[r],(Str.ofString ""++s,"",0)) else (pre,(r.1++s,r.2.1,r.2.2))
 |(pre,r),.cut s=>if s="" then (pre,r) else if 0<r.2.2 then (pre++[r],("",Str.ofString ""++s,0)) else (pre,(r.1,r.2.1++s,r.2.2))
def dO(r:Row):List Pt:=txt .put r.1++txt .cut r.2.1++(if r.2.2=0 then [] else [.keep r.2.2])
def cm(rows:List Row):List Pt:=(rows.map dO).flatten
def qX(ps:List Pt):List Row:=let s:=ps.foldl aW ([],("","",0));s.1++[s.2]
def j9(ps:List Pt):List Pt:=cm (qX ps)
structure iR (H H2:Hp) (R:Addr) (rs:List V) (b:Addr) (pre:List Row) (r:Row):Prop where
 same:av H H2
 lst:H2 R=some (.lst<|rs++[.ref b])
 fr:H R=none
 rows:lO H2 rs pre
 last:H2 b=some (.lst<|jt r)
 fb:H b=none
 bj:∀v∈rs,∀x,v=.ref x->H x=none/\x≠b/\x≠R
 ne:b≠R
theorem tZ(xs:List V)(v:V):dC (xs++[v]) (-1)=some v:=OT xs v
theorem iR.set{R b:Addr}{rs:List V}{pre:List Row}{r r':Row}(S:iR H H2 R rs b pre r):iR H (upd H2 b<|.lst<|jt r') R rs b pre r' where
 same:=Ji S.same S.fb bQ.upd
 lst:=by rw[ax S.ne.symm];exact S.lst
 fr:=S.fr
 rows:=S.rows.mono fun v hv x e o h=>by rw[ax (S.bj v hv x e).2.1];exact h
 last:=au
 fb:=S.fb
 bj:=S.bj
 ne:=S.ne
theorem iR.grow{R b t:Addr}{rs:List V}{pre:List Row}{r r':Row}(S:iR H H2 R rs b pre r)(ht:H2 t=none):
  iR H (upd (upd H2 t<|.lst<|jt r') R<|.lst<|rs++[.ref b]++[.ref t]) R (rs++[.ref b]) t (pre++[r]) r':=by
 have wQ:t≠R:=fun z=>by rw[z,S.lst] at ht;cases ht
 have Ym:b≠t:=aL S.last ht;have kk:∀x o,H2 x=some o->x≠R->upd (upd H2 t<|.lst<|jt r') R (.lst<|rs++[.ref b]++[.ref t]) x=some o:=fun x o e n=>by rw[ax n,ax<|aL e ht];exact e
 exact {
  same:=fun x o e=>kk x o (S.same x o e) (aL e S.fr)
  lst:=au
  fr:=S.fr
  rows:=Paired.snoc (S.rows.mono fun v hv x e o h=>kk x o h (S.bj v hv x e).2.2) ⟨b,rfl,kk b _ S.last S.ne⟩
  last:=by rw[ax wQ,au]
  fb:=S.same.free ht
  bj:=fun v hv x e=>by
   rcases zag.mp hv with z|z
   ·obtain⟨h1,h2,h3⟩:=S.bj v z x e;refine⟨h1,fun q=>?_,h3⟩;obtain⟨i,hi⟩:=zbX z;obtain⟨p,_,y,e',hy⟩:=S.rows.get hi;rw[e] at e';cases e';rw[q,ht] at hy;cases hy
   ·rw[zaf.mp z] at e;cases e;exact⟨S.fb,Ym,S.ne⟩
  ne:=wQ}
abbrev Dn(Q:VK):Ends:={nx:=fun _ H'=>Q .aD H',rt:=Q}
abbrev bE(sp:Sp)(Γ:XK->aJ)(b:List RS)(N:List Str):Prop:= ∀vs H Q E,sp vs H Q E->aA (Γ E) b (Dn Q) (start N vs) H
def Jv:Sp:=fun vs H Q E=>∃a xs ps,vs=[.ref a]/\H a=some (.lst xs)/\bL H xs ps/\ps.length<=100000/\aV ps<=100000/\
 ∀b H' ys,av H H'->H b=none->H' b=some (.lst ys)->bL H' ys (j9 ps)->Q (.ref b) H'
theorem wR{K:Frag}{R b:Addr}{rs:List V}{pre:List Row}{r r':Row}{a:Addr}{w s:Str}{x4 x5 x6 x7 x8:Option V}(S:iR H H2 R rs b pre r)(i:Nat)(hi:i<2)
  (hw:(if (w=="cut")=true then 1 else 0:Int)=(i:Int)) (o:Str) (ho:(jt r)[i]?=some (.str o)) (hr:(jt r).set i (.str<|o++s)=jt r') (hs:o.length+s.length<=sizeLine)
  (k:∀H3,iR H H3 R rs b pre r'->D.nx [some<|.ref a,some<|.ref R,some<|.str w,some<|.str s,x4,x5,x6,x7,x8] H3):
  bg (aH K [] [] (E:=E)) (.set (.ix (.v 1)<|.neg<|.c<|.int 1) (.blt .int [(.cmp .Eq (.v 2)<|.c<|.str "cut")])<|.bin .Add (.ix (.ix (.v 1)<|.neg<|.c<|.int 1)<|.blt .int [(.cmp .Eq (.v 2)<|.c<|.str "cut")])<|.v 3) D
   [some<|.ref a,some<|.ref R,some<|.str w,some<|.str s,x4,x5,x6,x7,x8] H2:=by
 have lb:ay K H2 b (jt r):=ay.of S.last;have ei:(if (false ^^ decide (V.str w=V.str "cut"))=true then 1 else 0:Int)=(i:Int):=by rw[zaO,i_];exact hw
 refine⟨_,rfl,.inl ⟨_,_,_,_,rfl,rfl,ay.of S.lst,tZ _ _,_,rfl,?_⟩⟩;show mK K (aH K [] [] (E:=E)).sd (.ref b) (.int (if (false ^^ decide (V.str w=V.str "cut"))=true then 1 else 0)) H2 _
 rw[ei];refine .inl ⟨b,_,_,_,rfl,rfl,lb,g4 ho,_,rfl,hs,_,rfl,.inl ⟨_,_,_,_,rfl,rfl,ay.of S.lst,tZ _ _,_,rfl,?_⟩⟩;show yM (.ref b) (.int (if (false ^^ decide (V.str w=V.str "cut"))=true then 1 else 0)) (.str<|o++s) H2 _
 rw[ei];refine⟨b,jt r,(i:Int),i,rfl,rfl,S.last,?_,?_⟩
 ·unfold jL;rw[if_pos (by lia),if_pos (by show(i:Int) < ((3:Nat):Int);lia)]
  simp
 ·rw[hr];exact k _ S.set
theorem Yn{rows:List Row}{r:Row}(h:rows[i]?=some r):cm (rows.take<|i+1)=cm (rows.take i)++dO r:=by
 unfold cm;rw[zbj,h]
 simp
theorem Jw{K:Frag}{R b:Addr}{rs:List V}{pre:List Row}{r:Row}{a:Addr}{w s:Str}{x4 x5 x6 x7 x8:Option V}(S:iR H H2 R rs b pre r)(p:Pt)(hp:(p=.put s/\w="put")\/(p=.cut s/\w="cut"))
  (hs:s.length<=100000) (h1:r.1.length<=100000) (h2:r.2.1.length<=100000) (hn:rs.length<=100000)
  (k:∀H3 qY b',iR H H3 R qY b' (aW (pre,r) p).1 (aW (pre,r) p).2->qY.length<=rs.length+1->D.nx [some<|.ref a,some<|.ref R,some<|.str w,some<|.str s,x4,x5,x6,x7,x8] H3):
  aA (aH K [] [] (E:=E)) [.ite (.cmp .NotEq (.v 3) (.c (.str ""))) [.ite (.cmp .Gt (.ix (.ix (.v 1) (.neg (.c (.int 1)))) (.c (.int 2))) (.c (.int 0))) [.drop (.dn .append (.v 1) [(.lst [(.c (.str "")),(.c (.str "")),(.c (.int 0))])])] [],
    .set (.ix (.v 1) (.neg (.c (.int 1)))) (.blt .int [(.cmp .Eq (.v 2) (.c (.str "cut")))]) (.bin .Add (.ix (.ix (.v 1) (.neg (.c (.int 1)))) (.blt .int [(.cmp .Eq (.v 2) (.c (.str "cut")))])) (.v 3))] []] D
   [some<|.ref a,some<|.ref R,some<|.str w,some<|.str s,x4,x5,x6,x7,x8] H2:=by
 refine⟨_,rfl,_,rfl,?_⟩;rw[zbg,i_];refine cx (fun h=>?_)<|fun h=>?_
 ·have ne:s≠"":=by simpa using h
  refine⟨_,rfl,.inl ⟨_,_,_,_,rfl,rfl,ay.of S.lst,tZ _ _,.inl ⟨_,_,_,_,rfl,rfl,ay.of S.last,rfl,trivial,_,rfl,?_⟩⟩⟩;have line:∀n:Nat,n<=100000->n+s.length<=sizeLine:=fun n hn=>bY (by lia)
  have e0:(Str.ofString "").length=0:=rfl;refine cx (fun h=>?_)<|fun h=>?_
  ·have hk:0<r.2.2:=of_decide_eq_true h;refine⟨_,rfl,.inl ⟨rfl,_,ay.of S.lst⟩,nU,fun t ht=>?_⟩;have wQ:R≠t:=aL S.lst ht;refine⟨_,(by rw[ax wQ];exact S.lst),cP (by rw[zqA,zbs];lia),?_⟩
   have S':=S.grow (r':=((Str.ofString "",Str.ofString "",0):Row)) ht;rcases hp with⟨rfl,rfl⟩|⟨rfl,rfl⟩
   ·have es:aW (pre,r) (.put s)=(pre++[r],((Str.ofString ""++s,Str.ofString "",0):Row)):=by show(if s="" then _ else if 0<r.2.2 then _ else _)=_;rw[if_neg ne,if_pos hk]
    rw[es] at k;exact wR S' 0 (by lia) rfl "" rfl rfl (line _ (by rw[e0];lia)) fun H3 S3=>k H3 _ t S3 (by simp)
   ·have es:aW (pre,r) (.cut s)=(pre++[r],((Str.ofString "",Str.ofString ""++s,0):Row)):=by show(if s="" then _ else if 0<r.2.2 then _ else _)=_;rw[if_neg ne,if_pos hk]
    rw[es] at k;exact wR S' 1 (by lia) rfl "" rfl rfl (line _ (by rw[e0];lia)) fun H3 S3=>k H3 _ t S3 (by simp)
  ·have hk:¬0<r.2.2:=fun z=>h (zqT z);rcases hp with⟨rfl,rfl⟩|⟨rfl,rfl⟩
   ·have es:aW (pre,r) (.put s)=(pre,(r.1++s,r.2.1,r.2.2)):=by show(if s="" then _ else if 0<r.2.2 then _ else _)=_;rw[if_neg ne,if_neg hk]
    rw[es] at k;exact wR S 0 (by lia) rfl r.1 rfl rfl (line _ h1) fun H3 S3=>k H3 _ b S3 (by lia)
   ·have es:aW (pre,r) (.cut s)=(pre,(r.1,r.2.1++s,r.2.2)):=by show(if s="" then _ else if 0<r.2.2 then _ else _)=_;rw[if_neg ne,if_neg hk]
    rw[es] at k;exact wR S 1 (by lia) rfl r.2.1 rfl rfl (line _ h2) fun H3 S3=>k H3 _ b S3 (by lia)
 ·have e:s="":=by simpa using h
  have es:aW (pre,r) p=(pre,r):=by
   rcases hp with⟨rfl,rfl⟩|⟨rfl,rfl⟩
   ·show(if s="" then _ else _)=_;rw[if_pos e]
   ·show(if s="" then _ else _)=_;rw[if_pos e]
  rw[es] at k;exact k H2 rs b S (by lia)
theorem ju(x y:Str):(x++y).length=x.length+y.length:=by rw[len_list,app_list,zqA,<-len_list,<-len_list]
theorem Yo(pre:List Row)(r:Row)(p:Pt)(n:Nat)(h1:r.1.length<=n)(h2:r.2.1.length<=n):(aW (pre,r) p).2.1.length<=n+eT p/\(aW (pre,r) p).2.2.1.length<=n+eT p:=by
 have e0:(Str.ofString "").length=0:=rfl;cases p with
 |keep m=>exact⟨by show r.1.length<=n+0;lia,by show r.2.1.length<=n+0;lia⟩
 |put s=>
  show(if s="" then (pre,r) else if 0<r.2.2 then (pre++[r],((Str.ofString ""++s,Str.ofString "",0):Row)) else (pre,(r.1++s,r.2.1,r.2.2))).2.1.length<=n+s.length/\
   (if s="" then (pre,r) else if 0<r.2.2 then (pre++[r],((Str.ofString ""++s,Str.ofString "",0):Row)) else (pre,(r.1++s,r.2.1,r.2.2))).2.2.1.length<=n+s.length
  split
  ·exact⟨by show r.1.length<=_;lia,by show r.2.1.length<=_;lia⟩
  ·split
   ·exact⟨by show(Str.ofString ""++s).length<=_;rw[ju,e0];lia,by show(Str.ofString "").length<=_;rw[e0];lia⟩
   ·exact⟨by show(r.1++s).length<=_;rw[ju];lia,by show r.2.1.length<=_;lia⟩
 |cut s=>
  show(if s="" then (pre,r) else if 0<r.2.2 then (pre++[r],((Str.ofString "",Str.ofString ""++s,0):Row)) else (pre,(r.1,r.2.1++s,r.2.2))).2.1.length<=n+s.length/\
   (if s="" then (pre,r) else if 0<r.2.2 then (pre++[r],((Str.ofString "",Str.ofString ""++s,0):Row)) else (pre,(r.1,r.2.1++s,r.2.2))).2.2.1.length<=n+s.length
  split
  ·exact⟨by show r.1.length<=_;lia,by show r.2.1.length<=_;lia⟩
  ·split
   ·exact⟨by show(Str.ofString "").length<=_;rw[e0];lia,by show(Str.ofString ""++s).length<=_;rw[ju,e0];lia⟩
   ·exact⟨by show r.1.length<=_;lia,by show(r.2.1++s).length<=_;rw[ju];lia⟩
theorem Jx{op:CmpOp}{x:V}(h:cy Γ.K op x v H Q):ag Γ (.c v) σ H fun y H2=>cy Γ.K op x y H2 Q:=h
theorem Jy{K:Frag}{x y:V}(hs:jK x y=true)(q:Q (.bl<|true ^^ decide (x=y)) H):cy K .NotEq x y H Q:=by
 show k7 true x y H Q;unfold k7;rw[hs];exact q
theorem Yp{K:Frag}{H1:Hp}{l t1 t2 t3:Addr}{r:Row}{Q1:VK}(hl:H1 l=some (.lst [.ref t1,.ref t2,.ref t3]))(h1:H1 t1=some (.tup [.str "put",.str r.1]))(h2:H1 t2=some (.tup [.str "cut",.str r.2.1]))(h3:H1 t3=some (.tup [.str "keep",.int r.2.2]))
  (hσ:σ[8]?=some (some<|.ref l)) (k:∀p ys,H1 p=none->bL H1 ys (dO r)->ys.length<=3->Q1 (.ref p) (upd H1 p<|.lst ys)):
  ag (aH K [] [] (E:=E)) (.comp none [] .list [.v 8] (some<|.and [(.cmp .NotEq (.ix (.v 0)<|.c<|.int 1)<|.c<|.str ""),(.cmp .NotEq (.ix (.v 0)<|.c<|.int 1)<|.c<|.int 0)])<|.v 0) σ H1 Q1:=by
 have gP:ay K H1 l [.ref t1,.ref t2,.ref t3]:=ay.of hl
 let o7:Nat->List Pt:=fun i=>match i with| 0=>[]| 1=>txt .put r.1| 2=>txt .put r.1++txt .cut r.2.1|_=>dO r
 refine⟨_,hσ,l,rfl,⟨_,gP⟩,fun i m ys H2=>m=3 - i/\i<=3/\H2=H1/\bL H1 ys (o7 i)/\ys.length<=i,⟨_,rfl,zqZ _,rfl,.nil,zqR _⟩,?_⟩;rintro i m ys H2 ⟨rfl,hi,rfl,gE,t6⟩;have small:ys.length<sizeLine:=cP (by lia)
 have go:∀(t:Addr) (p:Pt) (j:Nat),H2 t=some (.tup [.str p.word,p.val])->i=j->j<3->(o7 (j+1)=o7 j++[p]/\p.val≠ .str ""/\p.val≠ .int 0\/o7 (j+1)=o7 j/\(p.val=.str ""\/p.val=.int 0))->
   (∃s,p.val=.str s)\/(∃n,p.val=.int n)->
   kY (sU (aH K [] [] (E:=E)).calm<|some<|.and [(.cmp .NotEq (.ix (.v 0)<|.c<|.int 1)<|.c<|.str ""),(.cmp .NotEq (.ix (.v 0)<|.c<|.int 1)<|.c<|.int 0)]) ([V.ref t].map some++cf σ []) H2 fun b H5=>
    if b=true then ag (aH K [] [] (E:=E)).calm (.v 0) ([V.ref t].map some++cf σ []) H5 fun y H6=>ys.length<sizeLine/\∃m',m'<3 - i/\m'=3 - (i+1)/\i+1<=3/\H6=H2/\bL H2 (ys++[y]) (o7<|i+1)/\(ys++[y]).length<=i+1
    else ∃m',m'<3 - i/\m'=3 - (i+1)/\i+1<=3/\H5=H2/\bL H2 ys (o7<|i+1)/\ys.length<=i+1:=by
  intro t p j ht ej hj hc hv;subst ej;have Yq:jK p.val (.str "")=true:=by rcases hv with⟨s,e⟩|⟨n,e⟩ <;>rw[e] <;>rfl
  have Yr:jK p.val (.int 0)=true:=by rcases hv with⟨s,e⟩|⟨n,e⟩ <;>rw[e] <;>rfl
  refine⟨_,rfl,.inr<|.inl ⟨_,_,_,_,rfl,rfl,aO.of ht,rfl,Jx<|Jy Yq ⟨_,rfl,?_⟩⟩⟩;by_cases q1:p.val=.str ""
  ·rw[zqT q1];rcases hc with⟨_,z,_⟩|⟨e,_⟩
   ·exact absurd q1 z
   ·exact⟨3 - (i+1),by lia,rfl,by lia,rfl,by rw[e];exact gE,by lia⟩
  ·rw[zqF q1];refine⟨_,rfl,.inr<|.inl ⟨_,_,_,_,rfl,rfl,aO.of ht,rfl,Jx<|Jy Yr ⟨_,rfl,?_⟩⟩⟩;by_cases q2:p.val=.int 0
   ·rw[zqT q2];rcases hc with⟨_,_,z⟩|⟨e,_⟩
    ·exact absurd q2 z
    ·exact⟨3 - (i+1),by lia,rfl,by lia,rfl,by rw[e];exact gE,by lia⟩
   ·rw[zqF q2];rcases hc with⟨e,_,_⟩|⟨_,z⟩
    ·refine⟨_,rfl,small,3 - (i+1),by lia,rfl,by lia,rfl,?_,by simp;lia⟩
     rw[e];exact bL.snoc gE ⟨t,rfl,ht⟩
    ·rcases z with z|z
     ·exact absurd z q1
     ·exact absurd z q2
 have tx:∀(mk:Str->Pt) (x:Str) (l:List Pt),(mk x).val=.str x->(l++txt mk x=l++[mk x]/\(mk x).val≠ .str ""/\(mk x).val≠ .int 0\/l++txt mk x=l/\((mk x).val=.str ""\/(mk x).val=.int 0)):=by
  intro mk x l hv;unfold txt;by_cases e:x=""
  ·rw[if_pos e];exact .inr ⟨by simp,.inl (by rw[hv,e])⟩
  ·rw[if_neg e];exact .inl ⟨rfl,by rw[hv];exact fun z=>e (by injection z),by rw[hv];exact fun z=>by cases z⟩
 by_cases aG:i<3
 ·refine .inr ⟨⟨_,[V.ref t1,V.ref t2,V.ref t3][i],gP,by simp[aG]⟩,?_⟩
  rintro x H3 ⟨rfl,hx⟩;have ou:=hx _ gP;have:i=0\/i=1\/i=2:=by lia
  rcases this with rfl|rfl|rfl
  ·have ex:x=.ref t1:=by simpa using ou.symm
   subst ex;exact go t1 (.put r.1) 0 h1 rfl (by lia) (tx .put r.1 [] rfl)<|.inl ⟨_,rfl⟩
  ·have ex:x=.ref t2:=by simpa using ou.symm
   subst ex;exact go t2 (.cut r.2.1) 1 h2 rfl (by lia) (tx .cut r.2.1 _ rfl)<|.inl ⟨_,rfl⟩
  ·have ex:x=.ref t3:=by simpa using ou.symm
   subst ex;refine go t3 (.keep r.2.2) 2 h3 rfl (by lia) ?_<|.inr ⟨_,rfl⟩
   by_cases e:r.2.2=0
   ·refine .inr ⟨?_,.inr (by show V.int r.2.2=_;rw[e])⟩
    show dO r=txt .put r.1++txt .cut r.2.1;unfold dO;rw[if_pos e,zaj]
   ·refine .inl ⟨?_,?_,?_⟩
    ·show dO r=txt .put r.1++txt .cut r.2.1++[.keep r.2.2];unfold dO;rw[if_neg e]
    ·intro z;have z':V.int r.2.2=V.str "":=z;cases z'
    ·intro z;have z':V.int r.2.2=V.int 0:=z
     injection z' with z'
     exact e z'
 ·have dq:i=3:=by lia
  subst dq;refine .inl ⟨⟨_,gP,by simp⟩,fun p hp=>?_⟩
  exact k p ys hp gE t6
theorem Ys{K:Frag}(vs:List V)(H:Hp)(Q:VK)(E:XK)(h:Jv vs H Q E):aA (aH K [] [] (E:=E)) Ge {nx:=fun _ H'=>Q .aD H',rt:=Q} (start z8 vs) H:=by
 obtain⟨a,xs,ps,rfl,ha,cz,hl,ht,k⟩:=h;have hlen:=Paired.length cz;refine⟨nU,fun b0 AZ=>⟨de,fun R hR=>?_⟩⟩;have Jz:b0≠R:=fun z=>by rw[<-z,au] at hR;cases hR
 have fR:H R=none:=(sameNew AZ).free hR;have S0:iR H (upd (upd H b0<|.lst [.str "",.str "",.int 0]) R<|.lst [.ref b0]) R [] b0 [] ((Str.ofString "",Str.ofString "",0):Row):=
  {same:=(sameNew AZ).trans (sameNew hR),lst:=au,fr:=fR,rows:=.nil,last:=(by rw[ax Jz,au];rfl),fb:=AZ,bj:=(fun v hv=>by cases hv),ne:=Jz}
 refine⟨_,rfl,a,rfl,⟨_,ay.of (S0.same _ _ ha)⟩,iB (K:=K) (a:=a) (xs:=xs) (fun i σ H2=>∃u v rs b pre r,σ=[some (.ref a),some (.ref R),u,v,none,none,none,none,none]/\iR H H2 R rs b pre r/\
   (ps.take i).foldl aW ([],((Str.ofString "",Str.ofString "",0):Row))=(pre,r)/\rs.length<=i/\r.1.length<=aV (ps.take i)/\r.2.1.length<=aV (ps.take i))
  ⟨none,none,[],b0,[],_,rfl,S0,rfl,zqR _,zqZ _,zqZ _⟩ (fun i σ H2 _ ⟨_,_,_,_,_,_,_,S,_⟩=>ay.of (S.same _ _ ha)) ?_ ?_⟩
 ·rintro i x σ H2 hi ⟨u,v,rs,b,pre,r,rfl,S,ef,l1,l2,l3⟩;obtain⟨pt,jv,o6⟩:=cz.get hi;obtain⟨t,rfl,hb⟩:=o6.mono (dc S.same);have cX:i<ps.length:=(zam.mp jv).1;have A9:(ps.take<|i+1).foldl aW ([],((Str.ofString "",Str.ofString "",0):Row))=aW (pre,r) pt:=by rw[Yd jv,ef]
  have et:=Yc jv;have tb:=Jo ps i;have tb1:=Jo ps (i+1);have sl:=Yo pre r pt _ l2 l3;refine⟨t,_,rfl,.inl<|aO.of hb,rfl,_,_,rfl,_,_,rfl,rfl,?_⟩;refine⟨_,rfl,_,rfl,?_⟩;cases pt with
  |keep n=>
   refine⟨_,rfl,.inl ⟨_,_,_,_,rfl,rfl,ay.of S.lst,tZ _ _,.inl ⟨_,_,_,_,rfl,rfl,ay.of S.last,rfl,_,rfl,_,rfl,.inl ⟨_,_,_,_,rfl,rfl,ay.of S.lst,tZ _ _,b,jt r,2,2,rfl,rfl,S.last,rfl,?_⟩⟩⟩⟩;refine⟨_,_,rs,b,pre,(r.1,r.2.1,r.2.2+n),rfl,S.set (r':=(r.1,r.2.1,r.2.2+n)),A9,by lia,?_,?_⟩
   ·show r.1.length<=_;lia
   ·show r.2.1.length<=_;lia
  |put s=>
   refine Jw S (.put s) (.inl ⟨rfl,rfl⟩) ?_ (by lia) (by lia) (by lia) fun H3 qY b' S' Yt=>⟨_,_,qY,b',_,_,rfl,S',A9,by lia,by lia,by lia⟩
   have:eT (.put s)=s.length:=rfl;lia
  |cut s=>
   refine Jw S (.cut s) (.inr ⟨rfl,rfl⟩) ?_ (by lia) (by lia) (by lia) fun H3 qY b' S' Yt=>⟨_,_,qY,b',_,_,rfl,S',A9,by lia,by lia,by lia⟩
   have:eT (.cut s)=s.length:=rfl;lia
 ·rintro σ Hm ⟨u,v,rs,b,pre,r,rfl,S,ef,l1,l2,l3⟩;have e:ps.take xs.length=ps:=zbh (by lia)
  rw[e] at ef;have Yu:qX ps=pre++[r]:=by
   show(ps.foldl aW ([],((Str.ofString "",Str.ofString "",0):Row))).1++[(ps.foldl aW ([],((Str.ofString "",Str.ofString "",0):Row))).2]=_;rw[ef]
  have JA:lO Hm (rs++[.ref b]) (qX ps):=by rw[Yu];exact Paired.snoc S.rows ⟨b,rfl,S.last⟩
  have A_:=Paired.length JA;refine⟨zqZ _,fun f0 Ba=>?_⟩;refine⟨_,rfl,R,rfl,⟨_,ay.of (sameNew Ba _ _ S.lst)⟩,iB (K:=K) (a:=R) (xs:=rs++[.ref b]) (fun i σ H2=>∃f ys p5 p6 p7 p8,σ=[some (.ref a),some (.ref R),u,v,some (.ref f),p5,p6,p7,p8]/\av Hm H2/\H f=none/\H2 f=some (.lst ys)/\bL H2 ys (cm ((qX ps).take i))/\ys.length<=3*i)
   ⟨f0,[],none,none,none,none,rfl,sameNew Ba,S.same.free Ba,au,.nil,zqR _⟩ (fun i σ H2 _ ⟨_,_,_,_,_,_,_,s2,_⟩=>ay.of (s2 _ _ S.lst)) ?_ ?_⟩
  ·rintro i x σ H2 hi ⟨f,ys,p5,p6,p7,p8,rfl,s2,ff,Bb,gE,t6⟩;obtain⟨row,Yv,w,rfl,hw⟩:=JA.get hi;have Yw:=s2 _ _ hw;have cX:i< (rs++[V.ref b]).length:=(zam.mp hi).1;have hrs:rs.length<=100000:=by lia
   have JB:i<=100000:=by simp only[zqA,zbs] at cX;lia
   refine⟨w,_,rfl,.inr<|ay.of Yw,rfl,_,_,rfl,_,_,rfl,_,_,rfl,rfl,?_⟩;refine⟨_,rfl,bS,fun t1 lP=>⟨_,rfl,bS,fun t2 t9=>⟨_,rfl,bS,fun t3 t_=>⟨nU,fun l gP=>?_⟩⟩⟩⟩;have c1:t1≠t2:=fun z=>by rw[<-z,au] at t9;cases t9
   have JC:t1≠t3:=fun z=>by rw[<-z,ax c1,au] at t_;cases t_
   have JD:t2≠t3:=fun z=>by rw[<-z,au] at t_;cases t_
   have Yx:t1≠l:=fun z=>by rw[<-z,ax JC,ax c1,au] at gP;cases gP
   have Yy:t2≠l:=fun z=>by rw[<-z,ax JD,au] at gP;cases gP
   have Yz:t3≠l:=fun z=>by rw[<-z,au] at gP;cases gP
   have s3:=((sameNew (o:=.tup [.str "put",.str row.1]) lP).trans<|sameNew (o:=.tup [.str "cut",.str row.2.1]) t9).trans ((sameNew (o:=.tup [.str "keep",.int row.2.2]) t_).trans<|sameNew (o:=.lst [.ref t1,.ref t2,.ref t3]) gP);refine⟨_,rfl,Yp (r:=row) (l:=l) (t1:=t1) (t2:=t2) (t3:=t3) au (by rw[ax Yx,ax JC,ax c1,au]) (by rw[ax Yy,ax JD,au]) (by rw[ax Yz,au]) rfl fun p zs hp JE hzl=>?_⟩
   generalize sM:upd (upd (upd (upd H2 t1<|.tup [.str "put",.str row.1]) t2<|.tup [.str "cut",.str row.2.1]) t3<|.tup [.str "keep",.int row.2.2]) l (.lst [.ref t1,.ref t2,.ref t3])=H3 at s3 hp JE;have JF:=s3 _ _ Bb;have YA:upd H3 p (.lst zs) f=some (.lst ys):=by rw[ax<|aL JF hp];exact JF
   refine .inl ⟨f,p,ys,zs,rfl,rfl,YA,au,bY (by lia),fun q hq=>?_⟩
   have s5:av Hm (upd (upd H3 p<|.lst zs) q<|.lst<|ys++zs):=s2.trans (s3.trans<|(sameNew hp).trans<|sameNew hq);have t5:gz H3 (upd (upd H3 p<|.lst zs) q<|.lst<|ys++zs):=dc ((sameNew hp).trans<|sameNew hq);refine⟨q,ys++zs,_,_,_,_,rfl,s5,S.same.free<|(s2.trans<|s3.trans<|sameNew hp).free hq,au,?_,by rw[zqA];lia⟩
   rw[Yn Yv];have app:∀{vs:List V}{as:List Pt}{ws:List V}{bs:List Pt}{G:Hp},bL G vs as->bL G ws bs->bL G (vs++ws) (as++bs):=fun {vs as ws bs G} h1 h2=>by
    induction h1 with
    |nil=>exact h2
    |cons a _ ih=>exact .cons a ih
   exact app ((gE.mono<|dc s3).mono t5)<|JE.mono t5
  ·rintro σ H2 ⟨f,ys,p5,p6,p7,p8,rfl,s2,ff,Bb,gE,t6⟩;have e2:(qX ps).take (rs++[V.ref b]).length=qX ps:=zbh (by lia)
   rw[e2] at gE;exact⟨_,rfl,k f H2 ys (S.same.trans s2) ff Bb gE⟩
theorem wU(a b:List Row):cm (a++b)=cm a++cm b:=by simp[cm]
theorem ua(r:Row):cm [r]=dO r:=by simp[cm]
theorem Bc{r:Row}(h:0<r.2.2):dO r=txt .put r.1++txt .cut r.2.1++[.keep r.2.2]:=by
 unfold dO;rw[if_neg (by lia)]
theorem JG{r:Row}(h:r.2.2=0):dO r=txt .put r.1++txt .cut r.2.1:=by
 unfold dO;rw[if_pos h,zaj]
def JH:Pt->Bool|.keep _=>true|_=>false
theorem YB{ch:List Pt}{n:Int}(h:∀p,ch.getLast?=some p->JH p=false):js ch n=ch++[.keep n]:=by
 unfold js
 split
 ·rename_i m e
  have:=h _ e;cases this
 ·rfl
theorem YC(ch:List Pt)(m n:Int):js (ch++[.keep m]) n=ch++[.keep<|n+m]:=by
 unfold js;rw[zbY]
 simp
theorem txt_nil(mk:Str->Pt):txt mk ""=[]:=if_pos rfl
theorem jw{mk:Str->Pt}{x:Str}(h:x≠""):txt mk x=[mk x]:=if_neg h
theorem YD{pre:List Row}{r:Row}(h:pre≠ []->r.1≠""\/r.2.1≠""):∀p,(cm pre++txt .put r.1++txt .cut r.2.1).getLast?=some p->JH p=false:=by
 intro p hp;by_cases h2:r.2.1=""
 ·rw[h2,txt_nil,zaj] at hp;by_cases h1:r.1=""
  ·rw[h1,txt_nil,zaj] at hp;by_cases kT:pre=[]
   ·rw[kT] at hp
    simp[cm] at hp
   ·rcases h kT with z|z
    ·exact absurd h1 z
    ·exact absurd h2 z
  ·rw[jw h1,zbY] at hp
   simp at hp;subst hp;rfl
 ·rw[jw h2,zbY] at hp
  simp at hp;subst hp;rfl
def Rel(s:NS)(t:List Row×Row):Prop:=
 (∀x∈t.1,0<x.2.2)/\(t.1≠ []->t.2.1≠""\/t.2.2.1≠"")/\0<=t.2.2.2/\
  ((t.2.2.2=0/\s.1=cm t.1/\cat s.2.1=t.2.1/\cat s.2.2=t.2.2.1)\/(0<t.2.2.2/\s.1=cm (t.1++[t.2])/\cat s.2.1=""/\cat s.2.2=""))
theorem qZ(a:List Str)(s:Str):cat (a++[s])=cat a++s:=by rw[X9,X_]
theorem YE{s:NS}{t:List Row×Row}{p:Pt}(R:Rel s t)(hp:gC p):Rel (gB s p) (aW t p):=by
 obtain⟨ch,pu,cu⟩:=s;obtain⟨pre,r⟩:=t;obtain⟨r1,r2,r3,r4⟩:=R
 simp only at r1 r2 r3 r4
 cases p with
 |keep n=>
  have Yj:0<=n:=hp;by_cases hn:0<n
  ·have e1:gB (ch,pu,cu) (.keep n)=(js (fZ ch pu cu) n,[],[]):=if_pos hn;rw[e1];refine⟨r1,r2,by show 0<=r.2.2+n;lia,.inr ⟨by show 0<r.2.2+n;lia,?_,rfl,rfl⟩⟩
   show js (fZ ch pu cu) n=cm (pre++[(r.1,r.2.1,r.2.2+n)]);rw[wU,ua,Bc (r:=(r.1,r.2.1,r.2.2+n)) (by show 0<r.2.2+n;lia)]
   rcases r4 with⟨k0,e2,e3,e4⟩|⟨k0,e2,e3,e4⟩
   ·have ea:fZ ch pu cu=cm pre++txt .put r.1++txt .cut r.2.1:=by unfold fZ;rw[e2,e3,e4]
    rw[ea,YB<|YD r2];show _=cm pre++(txt .put r.1++txt .cut r.2.1++[.keep<|r.2.2+n]);rw[k0,Int.zero_add];simp
   ·have ea:fZ ch pu cu=cm pre++(txt .put r.1++txt .cut r.2.1)++[.keep r.2.2]:=by
     unfold fZ;rw[e2,e3,e4,txt_nil,txt_nil,zaj,zaj,wU,ua,Bc k0];simp
    rw[ea,YC];show _=cm pre++(txt .put r.1++txt .cut r.2.1++[.keep<|r.2.2+n]);rw[Int.add_comm n];simp
  ·have e0:n=0:=by lia
   have e1:gB (ch,pu,cu) (.keep n)=(ch,pu,cu):=if_neg hn;have e2:aW (pre,r) (.keep n)=(pre,r):=by show(pre,(r.1,r.2.1,r.2.2+n))=_;rw[e0,Int.add_zero]
   rw[e1,e2];exact⟨r1,r2,r3,r4⟩
 |put x=>
  show Rel (ch,pu++[x],cu) (aW (pre,r)<|.put x);by_cases hx:x=""
  ·have e2:aW (pre,r) (.put x)=(pre,r):=if_pos hx;rw[e2];refine⟨r1,r2,r3,?_⟩;have e:cat (pu++[x])=cat pu:=by rw[qZ,hx];exact Jm _
   show _\/_
   simp only[e]
   exact r4
  ·by_cases hk:0<r.2.2
   ·have e2:aW (pre,r) (.put x)=(pre++[r],((Str.ofString ""++x,Str.ofString "",0):Row)):=by show(if x="" then _ else if 0<r.2.2 then _ else _)=_;rw[if_neg hx,if_pos hk]
    rw[e2];rcases r4 with⟨k0,_⟩|⟨_,e5,e3,e4⟩
    ·lia
    ·refine⟨fun y hy=>?_,fun _=>.inl (by rw[qW];exact hx),zaI _,.inl ⟨rfl,e5,?_,e4⟩⟩
     ·rcases zag.mp hy with z|z
      ·exact r1 y z
      ·rw[zaf.mp z];exact hk
     ·show cat (pu++[x])=_;rw[qZ,e3]
   ·have e2:aW (pre,r) (.put x)=(pre,(r.1++x,r.2.1,r.2.2)):=by show(if x="" then _ else if 0<r.2.2 then _ else _)=_;rw[if_neg hx,if_neg hk]
    rw[e2];rcases r4 with⟨k0,e5,e3,e4⟩|⟨k0,_⟩
    ·refine⟨r1,fun _=>.inl ?_,r3,.inl ⟨k0,e5,?_,e4⟩⟩
     ·intro z;have:=congrArg Str.length z;rw[ju] at this;have l0:(Str.ofString "").length=0:=rfl;rw[l0] at this;have nk:x.length=0:=by lia
      exact hx<|j8 (by rw[len_list] at nk;rw[zaU.mp nk];rfl)
     ·show cat (pu++[x])=_;rw[qZ,e3]
    ·lia
 |cut x=>
  show Rel (ch,pu,cu++[x]) (aW (pre,r)<|.cut x);by_cases hx:x=""
  ·have e2:aW (pre,r) (.cut x)=(pre,r):=if_pos hx;rw[e2];refine⟨r1,r2,r3,?_⟩;have e:cat (cu++[x])=cat cu:=by rw[qZ,hx];exact Jm _
   show _\/_
   simp only[e]
   exact r4
  ·by_cases hk:0<r.2.2
   ·have e2:aW (pre,r) (.cut x)=(pre++[r],((Str.ofString "",Str.ofString ""++x,0):Row)):=by show(if x="" then _ else if 0<r.2.2 then _ else _)=_;rw[if_neg hx,if_pos hk]
    rw[e2];rcases r4 with⟨k0,_⟩|⟨_,e5,e3,e4⟩
    ·lia
    ·refine⟨fun y hy=>?_,fun _=>.inr (by rw[qW];exact hx),zaI _,.inl ⟨rfl,e5,e3,?_⟩⟩
     ·rcases zag.mp hy with z|z
      ·exact r1 y z
      ·rw[zaf.mp z];exact hk
     ·show cat (cu++[x])=_;rw[qZ,e4]
   ·have e2:aW (pre,r) (.cut x)=(pre,(r.1,r.2.1++x,r.2.2)):=by show(if x="" then _ else if 0<r.2.2 then _ else _)=_;rw[if_neg hx,if_neg hk]
    rw[e2];rcases r4 with⟨k0,e5,e3,e4⟩|⟨k0,_⟩
    ·refine⟨r1,fun _=>.inr ?_,r3,.inl ⟨k0,e5,e3,?_⟩⟩
     ·intro z;have:=congrArg Str.length z;rw[ju] at this;have l0:(Str.ofString "").length=0:=rfl;rw[l0] at this;have nk:x.length=0:=by lia
      exact hx<|j8 (by rw[len_list] at nk;rw[zaU.mp nk];rfl)
     ·show cat (cu++[x])=_;rw[qZ,e4]
    ·lia
theorem JI:∀(ps:List Pt) (s:NS) (t:List Row×Row),Rel s t->(∀p∈ps,gC p)->Rel (ps.foldl gB s) (ps.foldl aW t)
 |[],s,t,R,_=>R
 |p::r,s,t,R,h=>JI r _ _ (YE R<|h p zas) fun q hq=>h q (zao _ hq)
theorem YF(ps:List Pt)(h:∀p∈ps,gC p):Rel (ps.foldl gB ([],[],[])) (ps.foldl aW ([],((Str.ofString "",Str.ofString "",0):Row))):=
 JI ps _ _ ⟨(fun x hx=>by cases hx),fun z=>absurd rfl z,zaI _,.inl ⟨rfl,rfl,rfl,rfl⟩⟩ h
theorem YG(ps:List Pt)(h:∀p∈ps,gC p):Jn ps=j9 ps:=by
 obtain⟨r1,r2,r3,r4⟩:=YF ps h;show fZ _ _ _=cm (_++[_]);generalize ps.foldl gB ([],[],[])=s at r4⊢;generalize ps.foldl aW ([],((Str.ofString "",Str.ofString "",0):Row))=t at r1 r2 r3 r4⊢;unfold fZ;rcases r4 with⟨k0,e5,e3,e4⟩|⟨k0,e5,e3,e4⟩
 ·rw[e5,e3,e4,wU,ua,JG k0];simp
 ·rw[e5,e3,e4,txt_nil,txt_nil];simp
def sg(x:Str):Prop:= ∀c∈x.cps.toList,SG.cps.contains c=true
theorem wV{x:Str}(a:sg x)(b:sg y):sg (x++y):=fun c hc=>by
 rw[app_list] at hc;rcases zag.mp hc with z|z
 ·exact a c z
 ·exact b c z
theorem nq:sg (Str.ofString ""):=fun c hc=>by cases hc
def jx(r:Row):Nat:=r.1.length+r.2.1.length
structure RI (n:Nat) (t:List Row×Row):Prop where
 pos:∀x∈t.1,0<x.2.2
 nn:0<=t.2.2.2
 s1:∀x∈t.1++[t.2],sg x.1/\sg x.2.1
 tl:∀x∈ (t.1++[t.2]).tail,x.1≠""\/x.2.1≠""
 aV:((t.1++[t.2]).map jx).sum=n
theorem JJ{x:Str}(h:x≠""):x++y≠"":=fun z=>by
 have:=congrArg Str.length z;rw[ju] at this;have l0:(Str.ofString "").length=0:=rfl;rw[l0] at this;have nk:x.length=0:=by lia
 exact h<|j8 (by rw[len_list] at nk;rw[zaU.mp nk];rfl)
theorem JK{α:Type}(l:List α)(a:α):(l++[a]).tail=if l=[] then [] else l.tail++[a]:=by
 cases l with
 |nil=>rfl
 |cons b r=>simp
theorem Be{m:Nat}{pre:List Row}{r r':Row}(I:RI n (pre,r))(h0:0<=r'.2.2)(h1:sg r'.1/\sg r'.2.1)(h2:(r.1≠""->r'.1≠"")/\(r.2.1≠""->r'.2.1≠""))(h3:jx r'=jx r+m):RI (n+m) (pre,r'):=by
 refine⟨I.pos,h0,fun x hx=>?_,fun x hx=>?_,?_⟩
 ·rcases zag.mp hx with z|z
  ·exact I.s1 x (zaS _ z)
  ·rw[zaf.mp z];exact h1
 ·have t1:=I.tl
  simp only at t1 hx
  rw[JK] at hx t1;by_cases hp:pre=[]
  ·rw[if_pos hp] at hx;cases hx
  ·rw[if_neg hp] at hx t1;rcases zag.mp hx with z|z
   ·exact t1 x (zaS _ z)
   ·rw[zaf.mp z];rcases t1 r (by simp) with q|q
    ·exact .inl (h2.1 q)
    ·exact .inr (h2.2 q)
 ·have:=I.aV
  simp only[zat,List.sum_append,zal,zaM,List.sum_cons,List.sum_nil] at this⊢
  lia
theorem JL{m:Nat}{pre:List Row}{r r':Row}(I:RI n (pre,r))(hk:0<r.2.2)(h0:0<=r'.2.2)(h1:sg r'.1/\sg r'.2.1)(h2:r'.1≠""\/r'.2.1≠"")(h3:jx r'=m):RI (n+m) (pre++[r],r'):=by
 refine⟨fun x hx=>?_,h0,fun x hx=>?_,fun x hx=>?_,?_⟩
 ·rcases zag.mp hx with z|z
  ·exact I.pos x z
  ·rw[zaf.mp z];exact hk
 ·rcases zag.mp hx with z|z
  ·exact I.s1 x z
  ·rw[zaf.mp z];exact h1
 ·have t1:=I.tl
  simp only at t1 hx
  rw[JK,if_neg (by simp)] at hx
  rcases zag.mp hx with z|z
  ·exact t1 x z
  ·rw[zaf.mp z];exact h2
 ·have:=I.aV
  simp only[zat,List.sum_append,zal,zaM,List.sum_cons,List.sum_nil] at this⊢
  lia
theorem YH{t:List Row×Row}{p:Pt}(I:RI n t)(hp:gC p):RI (n+eT p) (aW t p):=by
 obtain⟨pre,r⟩:=t;have hs:=I.s1 r (by simp)
 have JM:0<=r.2.2:=I.nn;have e0:(Str.ofString "").length=0:=rfl;cases p with
 |keep m=>exact Be I (by show 0<=r.2.2+m;have:0<=m:=hp;lia) hs ⟨fun z=>z,fun z=>z⟩ rfl
 |put x=>
  have gx:sg x:=hp.1.2;by_cases hx:x=""
  ·have e2:aW (pre,r) (.put x)=(pre,r):=if_pos hx;have e3:eT (.put x)=0:=by show x.length=0;rw[hx];rfl
   rw[e2,e3];exact I
  ·by_cases hk:0<r.2.2
   ·have e2:aW (pre,r) (.put x)=(pre++[r],((Str.ofString ""++x,Str.ofString "",0):Row)):=by show(if x="" then _ else if 0<r.2.2 then _ else _)=_;rw[if_neg hx,if_pos hk]
    rw[e2];refine JL I hk (zaI _) ⟨wV nq gx,nq⟩ (.inl (by rw[qW];exact hx)) ?_
    show(Str.ofString ""++x).length+(Str.ofString "").length=x.length;rw[ju,e0];lia
   ·have e2:aW (pre,r) (.put x)=(pre,(r.1++x,r.2.1,r.2.2)):=by show(if x="" then _ else if 0<r.2.2 then _ else _)=_;rw[if_neg hx,if_neg hk]
    rw[e2];refine Be I JM ⟨wV hs.1 gx,hs.2⟩ ⟨JJ,fun z=>z⟩ ?_;show(r.1++x).length+r.2.1.length=r.1.length+r.2.1.length+x.length;rw[ju];lia
 |cut x=>
  have gx:sg x:=hp.1.2;by_cases hx:x=""
  ·have e2:aW (pre,r) (.cut x)=(pre,r):=if_pos hx;have e3:eT (.cut x)=0:=by show x.length=0;rw[hx];rfl
   rw[e2,e3];exact I
  ·by_cases hk:0<r.2.2
   ·have e2:aW (pre,r) (.cut x)=(pre++[r],((Str.ofString "",Str.ofString ""++x,0):Row)):=by show(if x="" then _ else if 0<r.2.2 then _ else _)=_;rw[if_neg hx,if_pos hk]
    rw[e2];refine JL I hk (zaI _) ⟨nq,wV nq gx⟩ (.inr (by rw[qW];exact hx)) ?_
    show(Str.ofString "").length+(Str.ofString ""++x).length=x.length;rw[ju,e0];lia
   ·have e2:aW (pre,r) (.cut x)=(pre,(r.1,r.2.1++x,r.2.2)):=by show(if x="" then _ else if 0<r.2.2 then _ else _)=_;rw[if_neg hx,if_neg hk]
    rw[e2];refine Be I JM ⟨hs.1,wV hs.2 gx⟩ ⟨fun z=>z,JJ⟩ ?_;show r.1.length+(r.2.1++x).length=r.1.length+r.2.1.length+x.length;rw[ju];lia
theorem Bf:∀(ps:List Pt) (n:Nat) (t:List Row×Row),RI n t->(∀p∈ps,gC p)->RI (n+aV ps) (ps.foldl aW t)
 |[],n,t,I,_=>I
 |p::r,n,t,I,h=>by
  have:=Bf r _ _ (YH I<|h p zas) fun q hq=>h q (zao _ hq);have e:n+eT p+aV r=n+aV (p::r):=by show _=n+(eT p+aV r);lia
  rw[e] at this;exact this
theorem JN{r:Row}{a:Str}{rest:List Pt}(ha:a=""\/(a="keep"/\(r.1≠""\/r.2.1≠"")))(hk:0<r.2.2)(h:chainOk "keep" rest=true):chainOk a (dO r++rest)=true:=by
 rw[Bc hk];by_cases h1:r.1="" <;>by_cases h2:r.2.1=""
 ·rw[h1,h2,txt_nil,txt_nil];rcases ha with rfl|⟨_,z|z⟩
  ·exact h
  ·exact absurd h1 z
  ·exact absurd h2 z
 ·rw[h1,txt_nil,jw h2];rcases ha with rfl|⟨rfl,_⟩ <;>exact h
 ·rw[h2,txt_nil,jw h1];rcases ha with rfl|⟨rfl,_⟩ <;>exact h
 ·rw[jw h1,jw h2];rcases ha with rfl|⟨rfl,_⟩ <;>exact h
theorem chain_last{r:Row}{a:Str}(ha:a=""\/(a="keep"/\(r.1≠""\/r.2.1≠"")))(hk:0<=r.2.2):chainOk a (dO r)=true:=by
 by_cases h0:0<r.2.2
 ·have:=JN (rest:=[]) ha h0 rfl;rw[zaj] at this;exact this
 ·rw[JG (by lia)]
  by_cases h1:r.1="" <;>by_cases h2:r.2.1=""
  ·rw[h1,h2,txt_nil,txt_nil];rfl
  ·rw[h1,txt_nil,jw h2];rcases ha with rfl|⟨rfl,_⟩ <;>rfl
  ·rw[h2,txt_nil,jw h1];rcases ha with rfl|⟨rfl,_⟩ <;>rfl
  ·rw[jw h1,jw h2];rcases ha with rfl|⟨rfl,_⟩ <;>rfl
theorem JO:∀(pre:List Row) (r:Row) (a:Str),(∀x∈pre,0<x.2.2)->0<=r.2.2->(a=""\/(a="keep"/\∀x,(pre++[r]).head?=some x->x.1≠""\/x.2.1≠""))->(∀x∈ (pre++[r]).tail,x.1≠""\/x.2.1≠"")->
  chainOk a (cm<|pre++[r])=true
 |[],r,a,_,hk,ha,_=>by
  rw[List.nil_append,ua];exact chain_last (ha.imp id fun⟨x,y⟩=>⟨x,y r rfl⟩) hk
 |q::pre,r,a,hp,hk,ha,ht=>by
  have e:cm (q::pre++[r])=dO q++cm (pre++[r]):=by simp[cm]
  rw[e];refine JN (ha.imp id fun⟨x,y⟩=>⟨x,y q rfl⟩) (hp q zas) ?_;refine JO pre r "keep" (fun x hx=>hp x<|zao _ hx) hk (.inr ⟨rfl,fun x hx=>ht x ?_⟩) fun x hx=>ht x (List.mem_of_mem_tail hx);show x∈pre++[r];exact List.mem_of_mem_head? hx
theorem YI{r:Row}{p:Pt}(hs:sg r.1/\sg r.2.1)(hl:jx r<=1000000)(hk:0<=r.2.2)(h:p∈dO r):gA p:=by
 unfold dO txt at h;unfold jx at hl;rcases zag.mp h with h|h
 ·rcases zag.mp h with h|h
  ·split at h
   ·cases h
   ·rename_i ne
    rw[zaf.mp h];exact⟨⟨by lia,hs.1⟩,ne⟩
  ·split at h
   ·cases h
   ·rename_i ne
    rw[zaf.mp h];exact⟨⟨by lia,hs.2⟩,ne⟩
 ·split at h
  ·cases h
  ·rw[zaf.mp h];show 1<=r.2.2;lia
theorem YJ(r:Row):aV (dO r)=jx r:=by
 have t1:∀(mk:Str->Pt) (x:Str),(∀y,eT (mk y)=y.length)->aV (txt mk x)=x.length:=by
  intro mk x h;unfold txt;by_cases e:x=""
  ·rw[if_pos e,e];rfl
  ·rw[if_neg e];show eT (mk x)+0=_;rw[h,zbv]
 have ta:∀a b:List Pt,aV (a++b)=aV a+aV b:=fun a b=>by simp[aV]
 unfold dO jx;rw[ta,ta,t1 .put _ fun _=>rfl,t1 .cut _ fun _=>rfl]
 split
 ·rfl
 ·rfl
theorem Bg:∀rows:List Row,aV (cm rows)=(rows.map jx).sum
 |[]=>rfl
 |r::rows=>by
  have e:cm (r::rows)=dO r++cm rows:=by simp[cm]
  have ta:∀a b:List Pt,aV (a++b)=aV a+aV b:=fun a b=>by simp[aV]
  rw[e,ta,YJ,Bg rows];rfl
theorem YK{l:List Row}{x:Row}(h:x∈l):jx x<= (l.map jx).sum:=by
 induction l with
 |nil=>cases h
 |cons a l ih=>
  rw[zal,List.sum_cons];rcases zab.mp h with rfl|h
  ·lia
  ·have:=ih h;lia
theorem YL(ps:List Pt)(h:∀p∈ps,gC p)(ht:aV ps<=100000):chainOk "" (j9 ps)=true/\(∀p∈j9 ps,gA p)/\aV (j9 ps)<=100000:=by
 have I:=Bf ps 0 ([],((Str.ofString "",Str.ofString "",0):Row)) ⟨(fun x hx=>by cases hx),zaI _,(fun x hx=>by rw[zaf.mp hx];exact⟨nq,nq⟩),(fun x hx=>by cases hx),rfl⟩ h
 rw[zbx] at I;have e:j9 ps=cm ((ps.foldl aW ([],((Str.ofString "",Str.ofString "",0):Row))).1++[(ps.foldl aW ([],((Str.ofString "",Str.ofString "",0):Row))).2]):=rfl;rw[e];generalize ps.foldl aW ([],((Str.ofString "",Str.ofString "",0):Row))=t at I;refine⟨JO t.1 t.2 "" I.pos I.nn (.inl rfl) I.tl,fun p hp=>?_,by rw[Bg,I.aV];exact ht⟩
 unfold cm at hp;rw[List.mem_flatten] at hp;obtain⟨l,hl,hp⟩:=hp;obtain⟨x,hx,rfl⟩:=zax.mp hl;have hle:=YK hx;rw[I.aV] at hle;refine YI (I.s1 x hx) (by lia) ?_ hp
 rcases zag.mp hx with z|z
 ·have:=I.pos x z;lia
 ·rw[zaf.mp z];exact I.nn
theorem YM(ps:List Pt):(Jn ps).length<=3*ps.length+2:=by
 have go:∀(l:List Pt) (s:NS),(l.foldl gB s).1.length<=s.1.length+3*l.length:=by
  intro l
  induction l with
  |nil=>intro s;simp
  |cons p l ih=>
   intro s;have h1:=ih (gB s p);have h2:(gB s p).1.length<=s.1.length+3:=by
    obtain⟨ch,pu,cu⟩:=s;cases p with
    |keep n=>
     by_cases hn:0<n
     ·have e1:gB (ch,pu,cu) (.keep n)=(js (fZ ch pu cu) n,[],[]):=if_pos hn;rw[e1];have:=Jq ch pu cu;have:=Ye (fZ ch pu cu) n;show(js (fZ ch pu cu) n).length<=ch.length+3;lia
     ·have e1:gB (ch,pu,cu) (.keep n)=(ch,pu,cu):=if_neg hn;rw[e1];show ch.length<=ch.length+3;lia
    |put x=>show ch.length<=ch.length+3;lia
    |cut x=>show ch.length<=ch.length+3;lia
   rw[List.foldl_cons,zaA];lia
 have h1:=go ps ([],[],[]);have h2:=Jq (ps.foldl gB ([],[],[])).1 (ps.foldl gB ([],[],[])).2.1 (ps.foldl gB ([],[],[])).2.2;show(fZ _ _ _).length<=_
 simp only[List.length_nil] at h1
 lia
def YN:Pt->PyData|.keep n=>.int n|.put s=>.str s|.cut s=>.str s
def toD(p:Pt):PyData:=.tuple [.str p.word,YN p]
def o8:Pt->Prop|.keep _=>True|.put s=>sg s|.cut s=>sg s
theorem JP{x:Str}(h:sg x):PyData.strOk x=true:=by
 have small:∀c,SG.cps.contains c=true->c<0x110000:=by
  have all:SG.cps.toList.all (fun c=>decide<|c<0x110000)=true:=by decide+kernel
  intro c hc;have hm:c∈SG.cps.toList:=by simpa using hc
  exact of_decide_eq_true<|zaY.mp all c hm
 unfold PyData.strOk;rw[Array.all_eq_true'];intro c hc;exact zqT<|small c<|h c (by simpa using hc)
theorem toD_ok{p:Pt}(h:o8 p):(toD p).canLay0=true/\(toD p).depth=1:=by
 cases p with
 |keep n=>exact⟨(by show(PyData.strOk (Str.ofString "keep") && (true && true))=true;decide+kernel),rfl⟩
 |put s=>
  refine⟨?_,rfl⟩;show(PyData.strOk (Str.ofString "put") && (PyData.strOk s && true))=true;rw[JP h];decide+kernel
 |cut s=>
  refine⟨?_,rfl⟩;show(PyData.strOk (Str.ofString "cut") && (PyData.strOk s && true))=true;rw[JP h];decide+kernel
theorem JQ:∀(ps:List Pt),(∀p∈ps,o8 p)->PyData.canLayAll0 (ps.map toD)=true/\PyData.depthAll (ps.map toD)<=1
 |[],_=>⟨rfl,zqZ _⟩
 |p::r,h=>by
  obtain⟨a,b⟩:=toD_ok (h p zas);obtain⟨c,d⟩:=JQ r fun q hq=>h q (zao _ hq);refine⟨?_,?_⟩
  ·show((toD p).canLay0 && PyData.canLayAll0 (r.map toD))=true;rw[a,c];rfl
  ·show max (toD p).depth (PyData.depthAll<|r.map toD)<=1;rw[b];lia
theorem Bh{ps:List Pt}(h:∀p∈ps,o8 p):SeqAt.shaped (.list<|ps.map toD)=true:=by
 obtain⟨c,d⟩:=JQ ps h;unfold SeqAt.shaped;have e:(PyData.list<|ps.map toD).canLay0=true:=c;have e2:(PyData.list<|ps.map toD).depth<=64:=by show PyData.depthAll (ps.map toD)+1<=64;lia
 rw[e,zqT e2];rfl
theorem Bi{H:Hp}:∀{vs:List V}{ps:List Pt},bL H vs ps->IsL H (ps.map toD) vs
 |_,_,.nil=>rfl
 |_,_,.cons (a:=v) (b:=p) ⟨a,e,h⟩ r=>by
  refine⟨v,_,rfl,?_,Bi r⟩;refine⟨a,_,e,h,.str p.word,[p.val],rfl,rfl,p.val,[],rfl,?_,rfl⟩;cases p<;>rfl
theorem YO{K:Frag}{a b:Addr}{ys:List V}{ps:List Pt}(ha:H a=some (.lst xs))(hb:H b=some (.lst ys))(hx:bL H xs ps)(hy:bL H ys ps)(ho:∀p∈ps,o8 p)(q:Q (.bl false) H):
  cy K .NotEq (.ref a) (.ref b) H Q:=by
 refine⟨.list<|ps.map toD,.list<|ps.map toD,⟨a,xs,rfl,ha,Bi hx⟩,⟨b,ys,rfl,hb,Bi hy⟩,Bh ho,Bh ho,?_⟩;rw[SeqAt.eqv_refl _<|SeqAt.canLay_of_shaped<|Bh ho];exact q
def Pt.Bj:Pt->Pt|.keep n=>.keep n|.put s=>.cut s|.cut s=>.put s
def JR(ps:List Pt):List Pt:=ps.map Pt.Bj
theorem YQ(ps:List Pt)(h:∀p∈ps,gC p):RI (aV ps) (ps.foldl aW ([],((Str.ofString "",Str.ofString "",0):Row))):=by
 have I:=Bf ps 0 ([],((Str.ofString "",Str.ofString "",0):Row)) ⟨(fun x hx=>by cases hx),zaI _,(fun x hx=>by rw[zaf.mp hx];exact⟨nq,nq⟩),(fun x hx=>by cases hx),rfl⟩ h
 rwa [zbx] at I
inductive Run:List Nat->List Pt->List Nat->Prop
 |nil:Run [] [] []
 |keep {a l r:List Nat}{n:Int}{ps:List Pt}:n=a.length->Run l ps r->Run (a++l) (.keep n::ps) (a++r)
 |put {s:Str}{l r:List Nat}{ps:List Pt}:Run l ps r->Run l (.put s::ps) (s.cps.toList++r)
 |cut {s:Str}{l r:List Nat}{ps:List Pt}:Run l ps r->Run (s.cps.toList++l) (.cut s::ps) r
theorem Run.Bj{l r:List Nat}{ps:List Pt}(h:Run l ps r):Run r (JR ps) l:=by
 induction h with
 |nil=>exact .nil
 |keep e _ ih=>exact .keep e ih
 |put _ ih=>exact .cut ih
 |cut _ ih=>exact .put ih
theorem Run.app{l l' r r':List Nat}{ps qs:List Pt}(h:Run l ps r)(h':Run l' qs r'):Run (l++l') (ps++qs) (r++r'):=by
 induction h with
 |nil=>exact h'
 |keep e _ ih=>rw[zbf,zbf];exact .keep e ih
 |put _ ih=>rw[zbf];exact .put ih
 |cut _ ih=>rw[zbf];exact .cut ih
def o9(r:Row)(l q:List Nat):Prop:= ∃k:List Nat,r.2.2=k.length/\l=r.2.1.cps.toList++k/\q=r.1.cps.toList++k
inductive lQ:List Row->List Nat->List Nat->Prop
 |nil:lQ [] [] []
 |snoc {rs:List Row}{r:Row}{l q l' q':List Nat}:lQ rs l q->o9 r l' q'->lQ (rs++[r]) (l++l') (q++q')
theorem JS{s:Str}:Run [] (txt .put s) s.cps.toList:=by
 by_cases h:s=""
 ·rw[h,txt_nil];exact .nil
 ·rw[jw h];have:=Run.put (s:=s) Run.nil
  rwa [zaj] at this
theorem YR{s:Str}:Run s.cps.toList (txt .cut s) []:=by
 have:=(JS (s:=s)).Bj;have e:JR (txt .put s)=txt .cut s:=by
  unfold txt;split<;>rfl
 rwa [e] at this
theorem o9.run{r:Row}{l q:List Nat}(h:o9 r l q):Run l (dO r) q:=by
 obtain⟨k,hk,rfl,rfl⟩:=h;have h3:Run k (if r.2.2=0 then [] else [.keep r.2.2]) k:=by
  split
  ·rename_i h
   have:k=[]:=zaU.mp (by lia)
   rw[this];exact .nil
  ·have:=Run.keep (a:=k) hk Run.nil
   rwa [zaj] at this
 have:=((JS (s:=r.1)).app<|YR (s:=r.2.1)).app h3
 simpa[dO] using this
theorem lQ.run{rs:List Row}{l q:List Nat}(h:lQ rs l q):Run l (cm rs) q:=by
 induction h with
 |nil=>exact .nil
 |snoc _ h2 ih=>rw[wU,ua];exact ih.app h2.run
def One:Pt->List Nat->List Nat->Prop
 |.keep n,l,q=>l=q/\n=l.length
 |.put s,l,q=>l=[]/\q=s.cps.toList
 |.cut s,l,q=>l=s.cps.toList/\q=[]
theorem JT{p:Pt}{l q:List Nat}{ps:List Pt}(h:Run l (p::ps) q):∃l1 l2 q1 q2,l=l1++l2/\q=q1++q2/\Run l2 ps q2/\
  One p l1 q1:=by
 cases h with
 |keep e h=>exact⟨_,_,_,_,rfl,rfl,h,rfl,e⟩
 |put h=>exact⟨[],_,_,_,rfl,rfl,h,rfl,rfl⟩
 |cut h=>exact⟨_,_,[],_,rfl,rfl,h,rfl,rfl⟩
theorem YS{pre:List Row}{r:Row}{p:Pt}{l0 q0 l1 q1 l2 q2:List Nat}(h0:lQ pre l0 q0)(h1:o9 r l1 q1)
  (hp:One p l2 q2):
  ∃o_ pb jy jU,lQ (aW (pre,r) p).1 o_ pb/\o9 (aW (pre,r) p).2 jy jU/\l0++l1++l2=o_++jy/\q0++q1++q2=pb++jU:=by
 cases p with
 |keep n=>
  obtain⟨rfl,rfl⟩:=hp;obtain⟨k,hk,rfl,rfl⟩:=h1;refine⟨l0,q0,_,_,h0,⟨k++l2,?_,rfl,rfl⟩,by simp[aW],by simp[aW]⟩
  show r.2.2+(l2.length:Int)=_;rw[hk,zqA];simp
 |put s=>
  obtain⟨rfl,rfl⟩:=hp;by_cases hs:s=""
  ·have e:aW (pre,r) (.put s)=(pre,r):=by simp only[aW,if_pos hs]
   rw[e];refine⟨l0,q0,l1,q1,h0,h1,by simp,?_⟩
   rw[hs];show q0++q1++(Str.ofString "").cps.toList=_;rw[ofString_empty];simp
  ·by_cases hk:0<r.2.2
   ·have e:aW (pre,r) (.put s)=(pre++[r],((Str.ofString ""++s,"",0):Row)):=by simp only[aW,if_neg hs,if_pos hk]
    rw[e];refine⟨_,_,[],s.cps.toList,h0.snoc h1,⟨[],rfl,rfl,?_⟩,by simp,by simp⟩
    show s.cps.toList=(Str.ofString ""++s).cps.toList++[];rw[qW];simp
   ·have e:aW (pre,r) (.put s)=(pre,(r.1++s,r.2.1,r.2.2)):=by simp only[aW,if_neg hs,if_neg hk]
    rw[e];obtain⟨k,lg,rfl,rfl⟩:=h1;have:k=[]:=zaU.mp (by lia)
    subst this;refine⟨l0,q0,r.2.1.cps.toList,r.1.cps.toList++s.cps.toList,h0,⟨[],lg,by simp,by simp[app_list]⟩,by simp,by simp⟩
 |cut s=>
  obtain⟨rfl,rfl⟩:=hp;by_cases hs:s=""
  ·have e:aW (pre,r) (.cut s)=(pre,r):=by simp only[aW,if_pos hs]
   rw[e];refine⟨l0,q0,l1,q1,h0,h1,?_,by simp⟩
   rw[hs];show l0++l1++(Str.ofString "").cps.toList=_;rw[ofString_empty];simp
  ·by_cases hk:0<r.2.2
   ·have e:aW (pre,r) (.cut s)=(pre++[r],(("",Str.ofString ""++s,0):Row)):=by simp only[aW,if_neg hs,if_pos hk]
    rw[e];refine⟨_,_,s.cps.toList,[],h0.snoc h1,⟨[],rfl,?_,rfl⟩,by simp,by simp⟩
    show s.cps.toList=(Str.ofString ""++s).cps.toList++[];rw[qW];simp
   ·have e:aW (pre,r) (.cut s)=(pre,(r.1,r.2.1++s,r.2.2)):=by simp only[aW,if_neg hs,if_neg hk]
    rw[e];obtain⟨k,lg,rfl,rfl⟩:=h1;have:k=[]:=zaU.mp (by lia)
    subst this;refine⟨l0,q0,r.2.1.cps.toList++s.cps.toList,r.1.cps.toList,h0,⟨[],lg,by simp[app_list],by simp⟩,by simp,by simp⟩
theorem JU:∀(ps:List Pt) (pre:List Row) (r:Row) (l0 q0 l1 q1 l2 q2:List Nat),lQ pre l0 q0->o9 r l1 q1->Run l2 ps q2->
  ∃o_ pb jy jU,lQ (ps.foldl aW (pre,r)).1 o_ pb/\o9 (ps.foldl aW (pre,r)).2 jy jU/\l0++l1++l2=o_++jy/\q0++q1++q2=pb++jU
 |[],pre,r,l0,q0,l1,q1,l2,q2,h0,h1,h2=>by
  cases h2;exact⟨l0,q0,l1,q1,h0,h1,by simp,by simp⟩
 |p::ps,pre,r,l0,q0,l1,q1,l2,q2,h0,h1,h2=>by
  obtain⟨a,b,c,d,rfl,rfl,h3,h4⟩:=JT h2;obtain⟨o_,pb,jy,jU,g0,g1,e1,e2⟩:=YS h0 h1 h4;obtain⟨YT,YU,YV,YW,f0,f1,e3,e4⟩:=JU ps _ _ o_ pb jy jU b d g0 g1 h3;refine⟨YT,YU,YV,YW,f0,f1,?_,?_⟩
  ·rw[<-e3,<-e1];simp
  ·rw[<-e4,<-e2];simp
theorem YX{ps:List Pt}{l q:List Nat}(h:Run l ps q):Run l (j9 ps) q:=by
 obtain⟨l0,q0,l1,q1,h0,h1,e1,e2⟩:=JU ps [] ("","",0) [] [] [] [] l q .nil ⟨[],rfl,rfl,rfl⟩ h;have:=(h0.snoc h1).run;rw[<-e1,<-e2] at this;exact this
def Bk:Sp:=fun vs H Q E=>∃c,vs=[.int c]/\∀n,0<=n->n<=400->Q (.int n) H
theorem YY{K:Frag}(vs:List V)(H:Hp)(Q:VK)(E:XK)(h:Bk vs H Q E):aA (aH K [] [] (E:=E)) Gb {nx:=fun _ H'=>Q .aD H',rt:=Q} (start Ga vs) H:=by
 obtain⟨c,rfl,q⟩:=h;refine⟨_,rfl,by show(0:Int) <8;decide,_,rfl,?_⟩
 refine cx (fun _=>?_)<|fun _=>?_
 ·exact⟨_,rfl,⟨by decide,by decide⟩,by show(0:Int) <401;decide,q _ (zaq _ (by decide)) (by have:=zap (c / 8) (show(0:Int) <401 by decide);lia)⟩
 ·exact⟨_,rfl,⟨by decide,by decide⟩,by show(0:Int) <25;decide,q _ (zaq _ (by decide)) (by have:=zap (c / 8) (show(0:Int) <25 by decide);lia)⟩
theorem JV{x:Str}{a b c:List Nat}(h:x.cps.toList=a++(b++c))(n:Int)(hn:n=b.length):sQ x (some (a.length:Int)) (some<|(a.length:Int)+n)=⟨b.toArray⟩:=by
 have e1:(a.length:Int)+n=((a.length+b.length:Nat):Int):=by rw[hn];simp
 unfold sQ mG;rw[e1,HT.vi,HT.vi,h];have l1:(a++(b++c)).length=a.length+(b.length+c.length):=by simp
 rw[l1];have m1:min a.length (a.length+(b.length+c.length))=a.length:=by lia
 have m2:min (a.length+b.length) (a.length+(b.length+c.length))=a.length+b.length:=by lia
 rw[m1,m2,List.drop_left,show a.length+b.length - a.length=b.length by lia,List.take_left]
theorem YZ(j:Int)(h0:0<=j)(h1:j<6):∃n:Int,dC [V.int 1,V.int 2,V.int 0,V.int 3,V.int 5,V.int 40] j=some (.int n)/\0<=n/\n<=40:=by
 obtain rfl|rfl|rfl|rfl|rfl|rfl:j=0\/j=1\/j=2\/j=3\/j=4\/j=5:=by lia
 all_goals exact⟨_,rfl,by decide,by decide⟩
theorem Bl(a b:List Pt):aV (a++b)=aV a+aV b:=by simp[aV]
abbrev Y0:List (Str×Sp):=[("_law_mixed",dN),("_law_text",wM)]
theorem Y1(ps:List Pt)(h:∀p∈ps,gC p):aV (j9 ps)=aV ps:=by
 have I:=YQ ps h;have e:j9 ps=cm ((ps.foldl aW ([],((Str.ofString "",Str.ofString "",0):Row))).1++[(ps.foldl aW ([],((Str.ofString "",Str.ofString "",0):Row))).2]):=rfl;rw[e,Bg,I.aV]
theorem jz{k:Str}{r:List (Str×V)}:((k,v)::r).lookup k=some v:=by simp[List.lookup]
theorem dA{k j:Str}{r:List (Str×V)}(h:¬k=j):((j,v)::r).lookup k=r.lookup k:=by
 have:(k==j)=false:=by simpa using h
 simp[List.lookup,this]
theorem JW{k:Str}{w:V}{r:List (Str×V)}:bz k v ((k,w)::r)=(k,v)::r:=by simp[bz]
theorem gV{k j:Str}{w:V}{r:List (Str×V)}(h:¬j=k):bz k v ((j,w)::r)=(j,w)::bz k v r:=by simp[bz,h]
def jA:Nat->Nat->List (Nat×Nat)->Prop
 |_,_,[]=>True
 |a,b,x::r=>a<=x.1/\b<=x.2/\jA (x.1+1) (x.2+1) r
theorem jA.low:∀{a b a' b':Nat}{ks:List (Nat×Nat)},jA a b ks->a'<=a->b'<=b->jA a' b' ks
 |_,_,_,_,[],_,_,_=>trivial
 |_,_,_,_,_::_,h,h1,h2=>⟨zar h1 h.1,zar h2 h.2.1,h.2.2⟩
def eU:Nat->List (Nat×Nat)->Nat->Nat
 |acc,[],_=>acc
 |acc,x::r,p=>if x.1<p then eU (x.2+1) r p else acc
def mR(g:Nat):List (Nat×Nat)->Nat->Nat
 |[],_=>g
 |x::r,p=>if p<=x.1 then x.2 else mR g r p
theorem JX:∀{acc:Nat}{ks:List (Nat×Nat)}{g p:Nat},acc<=g->(∀x∈ks,x.2<g)->eU acc ks p<=g
 |_,[],_,_,h,_=>h
 |acc,x::r,g,p,h,hg=>by
  simp only[eU]
  split
  ·exact JX (hg x zas) fun y hy=>hg y (zao _ hy)
  ·exact h
theorem JY:∀{ks:List (Nat×Nat)}{g p:Nat},(∀x∈ks,x.2<g)->mR g ks p<=g
 |[],_,_,_=>zqR _
 |x::r,g,p,h=>by
  simp only[mR]
  split
  ·have:=h x zas;lia
  ·exact JY fun y hy=>h y (zao _ hy)
def ib(o n:Nat):Nat->List (Nat×Nat)
 | 0=>[]
 |k+1=>(o,n)::ib (o+1) (n+1) k
def dh:List (Nat×Nat×Nat)->List (Nat×Nat)
 |[]=>[]
 |x::r=>ib x.1 x.2.1 x.2.2++dh r
def eV:Nat->Nat->List (Nat×Nat×Nat)->Prop
 |_,_,[]=>True
 |a,b,x::r=>a<=x.1/\b<=x.2.1/\1<=x.2.2/\eV (x.1+x.2.2) (x.2.1+x.2.2) r
theorem JZ:∀(k o n:Nat) {r:List (Nat×Nat)},jA (o+k) (n+k) r->jA o n (ib o n k++r)
 | 0,o,n,r,h=>h
 |k+1,o,n,r,h=>⟨zqR _,zqR _,JZ k (o+1) (n+1) (by rw[zbZ o 1 k,zbZ n 1 k];exact h)⟩
theorem wW:∀{rs:List (Nat×Nat×Nat)}{a b:Nat},eV a b rs->jA a b (dh rs)
 |[],_,_,_=>trivial
 |x::r,a,b,h=>(JZ x.2.2 x.1 x.2.1<|wW h.2.2.2).low h.1 h.2.1
theorem J0:∀{acc p:Nat}{ks:List (Nat×Nat)}{a b:Nat},jA a b ks->p<=a->eU acc ks p=acc
 |_,_,[],_,_,_,_=>rfl
 |acc,p,x::r,a,b,h,hp=>by
  simp only[eU]
  rw[if_neg (by have:=h.1;lia)]
theorem J3:∀(k o n acc p:Nat) (r:List (Nat×Nat)) {b:Nat},jA (o+k) b r->o<p->p<=o+k->eU acc (ib o n k++r) p=n+(p - o)
 | 0,o,n,acc,p,r,_,_,h1,h2=>by lia
 |k+1,o,n,acc,p,r,b,h,h1,h2=>by
  show(if o<p then eU (n+1) (ib (o+1) (n+1) k++r) p else acc)=_
  rw[if_pos h1];have h':jA (o+1+k) b r:=by rw[zbZ o 1 k];exact h
  by_cases q:o+1<p
  ·rw[J3 k (o+1) (n+1) (n+1) p r h' q (by lia)];lia
  ·obtain rfl:p=o+1:=by lia
   cases k with
   |zero=>
    show eU (n+1) r (o+1)=_;rw[J0 h<|zqR _];lia
   |succ k=>
    show(if o+1<o+1 then _ else n+1)=_
    rw[if_neg (by lia)];lia
theorem J4:∀(k o n acc p:Nat) (r:List (Nat×Nat)),o+(k+1) <p->eU acc (ib o n (k+1)++r) p=eU (n+(k+1)) r p
 | 0,o,n,acc,p,r,h=>by
  show(if o<p then eU (n+1) r p else acc)=_
  rw[if_pos (by lia)]
 |k+1,o,n,acc,p,r,h=>by
  show(if o<p then eU (n+1) (ib (o+1) (n+1) (k+1)++r) p else acc)=_
  rw[if_pos (by lia),J4 k (o+1) (n+1) (n+1) p r (by lia),show n+1+(k+1)=n+(k+1+1) by lia]
theorem J5:∀(k o n g p:Nat) (r:List (Nat×Nat)),mR g (ib o n (k+1)++r) p=if p<o+(k+1) then (if p<o then n else n+(p - o)) else mR g r p
 | 0,o,n,g,p,r=>by
  show(if p<=o then n else mR g r p)=_
  by_cases h:p<=o
  ·rw[if_pos h,if_pos (by lia)]
   split<;>lia
  ·rw[if_neg h,if_neg (by lia)]
 |k+1,o,n,g,p,r=>by
  show(if p<=o then n else mR g (ib (o+1) (n+1) (k+1)++r) p)=_
  rw[J5 k (o+1) (n+1) g p r];by_cases h:p<=o
  ·rw[if_pos h,if_pos (by lia)]
   split<;>lia
  ·rw[if_neg h];by_cases h2:p<o+(k+1+1)
   ·rw[if_pos (by lia),if_pos h2,if_neg (by lia),if_neg (by lia)];lia
   ·rw[if_neg (by lia),if_neg h2]
def bM(q:Nat->Bool)(rs:List (Nat×Nat×Nat)):Nat:=(rs.filter fun x=>q x.1).length
def lR(acc:Nat)(rs:List (Nat×Nat×Nat))(p:Nat):Nat:=match bM (fun o=>decide<|o<p) rs with
 | 0=>acc
 |c+1=>match rs[c]? with
  |some x=>x.2.1+min x.2.2 (p - x.1)
  |none=>acc
theorem Bm(q:Nat->Bool)(x:Nat×Nat×Nat)(r:List (Nat×Nat×Nat)):bM q (x::r)=(if q x.1 then 1 else 0)+bM q r:=by
 unfold bM;by_cases h:q x.1=true
 ·rw[zaQ (by exact h),if_pos h,zaA];lia
 ·rw[zaR (by exact h),if_neg h];lia
theorem ub{q:Nat->Bool}:∀{rs:List (Nat×Nat×Nat)}{a b:Nat},eV a b rs->(∀o,a<=o->q o=false)->bM q rs=0
 |[],_,_,_,_=>rfl
 |x::r,a,b,h,hq=>by
  rw[Bm,hq x.1 h.1,ub h.2.2.2 fun o ho=>hq o (by have:=h.1;lia)]
  rfl
theorem Bn(q:Nat->Bool)(rs:List (Nat×Nat×Nat)):bM q rs<=rs.length:=zaE _ _
theorem J6:∀{rs:List (Nat×Nat×Nat)}{acc a p:Nat},eV a acc rs->lR acc rs p=eU acc (dh rs) p
 |[],_,_,_,_=>rfl
 |x::r,acc,a,p,h=>by
  obtain⟨o,n,k⟩:=x;have h4:eV (o+k) (n+k) r:=h.2.2.2;have hk:1<=k:=h.2.2.1;show lR acc ((o,n,k)::r) p=eU acc (ib o n k++dh r) p;by_cases h1:o<p
  ·have e1:bM (fun o=>decide<|o<p) ((o,n,k)::r)=bM (fun o=>decide<|o<p) r+1:=by
    rw[Bm,if_pos (by simpa using h1)];lia
   by_cases h2:p<=o+k
   ·have e2:bM (fun o=>decide<|o<p) r=0:=ub h4 fun o' ho=>by simp;lia
    rw[J3 k o n acc p (dh r) (wW h4) h1 h2];unfold lR;rw[e1,e2];show n+min k (p - o)=_;lia
   ·obtain⟨k',rfl⟩:∃k',k=k'+1:=⟨k - 1,by lia⟩
    rw[J4 k' o n acc p (dh r) (by lia),<-J6 (acc:=n+(k'+1)) h4]
    unfold lR;rw[e1];show(match ((o,n,k'+1)::r)[bM (fun o=>decide<|o<p) r]? with|some x=>x.2.1+min x.2.2 (p - x.1)|none=>acc)=_
    cases e3:bM (fun o=>decide<|o<p) r with
    |zero=>
     show n+min (k'+1) (p - o)=n+(k'+1);lia
    |succ c=>
     have hc:=Bn (fun o=>decide<|o<p) r;have g:r[c]?=some (r[c]'(by lia)):=zay _
     rw[List.getElem?_cons_succ];show(match r[c]? with|some x=>_|none=>_)=(match r[c]? with|some x=>_|none=>_)
     rw[g]
  ·have e1:bM (fun o=>decide<|o<p) ((o,n,k)::r)=0:=ub (a:=o) (b:=n) ⟨zqR _,zqR _,hk,h4⟩ fun o' ho=>by simp;lia
   have i:=wW (rs:=(o,n,k)::r) h;unfold lR;rw[e1];show acc=eU acc (dh ((o,n,k)::r)) p;have i2:jA o n (dh ((o,n,k)::r)):=wW (rs:=(o,n,k)::r) ⟨zqR _,zqR _,hk,h4⟩;rw[J0 i2 (by lia)]
def jC(g:Nat)(rs:List (Nat×Nat×Nat))(c:Nat):Nat:=match rs[c]? with
 |some x=>x.2.1
 |none=>g
def lS(g:Nat)(rs:List (Nat×Nat×Nat))(p:Nat):Nat:=match bM (fun o=>decide<|o<=p) rs with
 | 0=>jC g rs 0
 |c+1=>match rs[c]? with
  |some x=>if p<x.1+x.2.2 then x.2.1+(p - x.1) else jC g rs (c+1)
  |none=>g
theorem J7:∀{rs:List (Nat×Nat×Nat)}{g a b p:Nat},eV a b rs->lS g rs p=mR g (dh rs) p
 |[],_,_,_,_,_=>rfl
 |x::r,g,a,b,p,h=>by
  obtain⟨o,n,k⟩:=x;have h4:eV (o+k) (n+k) r:=h.2.2.2;have hk:1<=k:=h.2.2.1;obtain⟨k',rfl⟩:∃k',k=k'+1:=⟨k - 1,by lia⟩
  show lS g ((o,n,k'+1)::r) p=mR g (ib o n (k'+1)++dh r) p;rw[J5];by_cases h1:o<=p
  ·have e1:bM (fun o=>decide<|o<=p) ((o,n,k'+1)::r)=bM (fun o=>decide<|o<=p) r+1:=by
    rw[Bm,if_pos (by simpa using h1)];lia
   by_cases h2:p<o+(k'+1)
   ·have e2:bM (fun o=>decide<|o<=p) r=0:=ub h4 fun o' ho=>by simp;lia
    rw[if_pos h2,if_neg (by lia)]
    unfold lS;rw[e1,e2];show(if p<o+(k'+1) then n+(p - o) else _)=_
    rw[if_pos h2]
   ·rw[if_neg h2,<-J7 (g:=g) h4];unfold lS;rw[e1];show(match ((o,n,k'+1)::r)[bM (fun o=>decide<|o<=p) r]? with|some x=>if p<x.1+x.2.2 then x.2.1+(p - x.1) else jC g ((o,n,k'+1)::r) (bM (fun o=>decide<|o<=p) r+1)|none=>g)=_
    cases e3:bM (fun o=>decide<|o<=p) r with
    |zero=>
     show(if p<o+(k'+1) then _ else jC g ((o,n,k'+1)::r) 1)=jC g r 0
     rw[if_neg h2];rfl
    |succ c=>rfl
  ·have e1:bM (fun o=>decide<|o<=p) ((o,n,k'+1)::r)=0:=ub (a:=o) (b:=n) ⟨zqR _,zqR _,hk,h4⟩ fun o' ho=>by simp;lia
   rw[if_pos (by lia),if_pos (by lia)]
   unfold lS;rw[e1]
   rfl
def dP(xs:List Int)(most:Int):Nat:=(xs.filter fun x=>decide (x<=most)).length
def wX(xs:List Int):Prop:=xs.Pairwise (· <= ·)
theorem J8(xs:List Int)(most:Int):dP xs most<=xs.length:=zaE _ _
theorem J9(a b:List Int)(most:Int):dP (a++b) most=dP a most+dP b most:=by simp[dP]
theorem Y2{xs:List Int}{most:Int}(h:∀x∈xs,x<=most):dP xs most=xs.length:=by
 unfold dP;rw[List.filter_eq_self.mpr fun x hx=>by simpa using h x hx]
theorem Y3{xs:List Int}{most:Int}(h:∀x∈xs,most<x):dP xs most=0:=by
 unfold dP;rw[zaU,List.filter_eq_nil_iff];intro x hx;have:=h x hx
 simp;lia
theorem Y4{xs:List Int}{most x:Int}{m:Nat}(h:wX xs)(g:xs[m]?=some x)(hx:x<=most):m+1<=dP xs most:=by
 have hm:=(zam.mp g).1;have e:xs=xs.take (m+1)++xs.drop (m+1):=(zby _ _).symm;have a:∀y∈xs.take (m+1),y<=most:=by
  intro y hy;obtain⟨j,hj,rfl⟩:=zbH hy;rw[zau] at hj;rw[List.getElem_take];have e2:xs[m]=x:=(zam.mp g).2;by_cases q:j=m
  ·subst q;lia
  ·have:=zbI.mp h j m (by lia) hm (by lia)
   lia
 have:dP xs most=dP (xs.take<|m+1) most+dP (xs.drop<|m+1) most:=by rw[<-J9,<-e]
 rw[this,Y2 a,zau];lia
theorem J_{xs:List Int}{most x:Int}{m:Nat}(h:wX xs)(g:xs[m]?=some x)(hx:¬x<=most):dP xs most<=m:=by
 have hm:=(zam.mp g).1;have e:xs=xs.take m++xs.drop m:=(zby _ _).symm;have a:∀y∈xs.drop m,most<y:=by
  intro y hy;obtain⟨j,hj,rfl⟩:=zbH hy;rw[zaT] at hj;rw[List.getElem_drop];have e2:xs[m]=x:=(zam.mp g).2;by_cases q:j=0
  ·subst q;simp;lia
  ·have:=zbI.mp h m (m+j) hm (by lia) (by lia)
   lia
 have:dP xs most=dP (xs.take m) most+dP (xs.drop m) most:=by rw[<-J9,<-e]
 have l:=J8 (xs.take m) most;rw[this,Y3 a];rw[zau] at l;lia
end L2.B
variable {ov:Int}{ps:List L2.B.Pt}{vs:List L2.V}{ea:PySem.Addr}
namespace L2.B
open PySem PySem.Spec PyProof.Rows
def bB:List Pt->Nat->Nat->List (Nat×Nat×Nat)
 |[],_,_=>[]
 |.keep k::r,o,n=>(o,n,k.toNat)::bB r (o+k.toNat) (n+k.toNat)
 |.put s::r,o,n=>bB r o (n+s.length)
 |.cut s::r,o,n=>bB r (o+s.length) n
def bq:List Pt->Nat
 |[]=>0
 |.keep k::r=>k.toNat+bq r
 |.put _::r=>bq r
 |.cut s::r=>s.length+bq r
def br:List Pt->Nat
 |[]=>0
 |.keep k::r=>k.toNat+br r
 |.put s::r=>s.length+br r
 |.cut _::r=>br r
theorem eV.low{rs:List (Nat×Nat×Nat)}{a b a' b':Nat}(i:eV a b rs)(h1:a'<=a)(h2:b'<=b):eV a' b' rs:=by
 cases rs with
 |nil=>trivial
 |cons x r=>exact⟨zar h1 i.1,zar h2 i.2.1,i.2.2⟩
theorem uc:∀(ps:List Pt) (o n:Nat),(∀p∈ps,gA p)->eV o n (bB ps o n)
 |[],_,_,_=>trivial
 |.keep k::r,o,n,h=>⟨zqR _,zqR _,by have:(1:Int)<=k:=h _ zas;show 1<=k.toNat;lia,uc r _ _ fun p hp=>h p (zao _ hp)⟩
 |.put s::r,o,n,h=>(uc r o (n+s.length) fun p hp=>h p (zao _ hp)).low (zqR _) (Nat.le_add_right _ _)
 |.cut s::r,o,n,h=>(uc r (o+s.length) n fun p hp=>h p (zao _ hp)).low (Nat.le_add_right _ _) (zqR _)
theorem wY:∀(a b:List Pt) (o n:Nat),bB (a++b) o n=bB a o n++bB b (o+bq a) (n+br a)
 |[],b,o,n=>by simp[bB,bq,br]
 |.keep k::r,b,o,n=>by
  have ih:=wY r b (o+k.toNat) (n+k.toNat)
  simp only[List.cons_append,bB,bq,br,ih,Nat.add_assoc]
 |.put s::r,b,o,n=>by
  have ih:=wY r b o (n+s.length)
  simp only[List.cons_append,bB,bq,br,ih,Nat.add_assoc]
 |.cut s::r,b,o,n=>by
  have ih:=wY r b (o+s.length) n
  simp only[List.cons_append,bB,bq,br,ih,Nat.add_assoc]
theorem Y5(a b:List Pt):bq (a++b)=bq a+bq b:=by
 induction a with
 |nil=>simp[bq]
 |cons p r ih=>cases p<;>simp[bq,ih] <;>lia
theorem Y6(a b:List Pt):br (a++b)=br a+br b:=by
 induction a with
 |nil=>simp[br]
 |cons p r ih=>cases p<;>simp[br,ih] <;>lia
theorem q8:∀(ps:List Pt) (o n:Nat),(bB ps o n).length<=ps.length
 |[],_,_=>zqR _
 |.keep k::r,o,n=>by simp only[bB,zaA];have:=q8 r (o+k.toNat) (n+k.toNat);lia
 |.put s::r,o,n=>by simp only[bB,zaA];have:=q8 r o (n+s.length);lia
 |.cut s::r,o,n=>by simp only[bB,zaA];have:=q8 r (o+s.length) n;lia
def t3(lo ln ll:Addr):List (Str×V):=[("olds",.ref lo),("news",.ref ln),("lengths",.ref ll)]
def t5(lo ln ll:Addr)(ov gv:Int):List (Str×V):=[("olds",.ref lo),("news",.ref ln),("lengths",.ref ll),("over",.int ov),("gives",.int gv)]
theorem Y7{lo:Addr}:bz "lengths" (.ref ll) (bz "news" (.ref ln)<|bz "olds" (.ref lo) [])=t3 lo ln ll:=by
 have e1:bz "olds" (V.ref lo) []=[(("olds":Str),V.ref lo)]:=rfl;have e2:bz "news" (V.ref ln) []=[(("news":Str),V.ref ln)]:=rfl;unfold t3;rw[e1,gV (by decide+kernel),e2,gV (by decide+kernel),gV (by decide+kernel)]
 rfl
theorem Y8{lo:Addr}{gv:Int}:bz "gives" (.int gv) (bz "over" (.int ov)<|t3 lo ln ll)=t5 lo ln ll ov gv:=by
 have e1:bz "over" (V.int ov) []=[(("over":Str),V.int ov)]:=rfl;unfold t3 t5;rw[gV (by decide+kernel),gV (by decide+kernel),gV (by decide+kernel),gV (by decide+kernel),gV (by decide+kernel),e1,gV (by decide+kernel),gV (by decide+kernel)]
 rfl
theorem Y9{lo:Addr}:(t3 lo ln ll).lookup ("olds":Str)=some (V.ref lo):=jz
theorem Y_{lo:Addr}:(t3 lo ln ll).lookup ("news":Str)=some (V.ref ln):=(dA (by decide+kernel)).trans jz
theorem Za{lo:Addr}:(t3 lo ln ll).lookup ("lengths":Str)=some (V.ref ll):=(dA (by decide+kernel)).trans ((dA (by decide+kernel)).trans jz)
theorem ud{lo:Addr}{gv:Int}:(t5 lo ln ll ov gv).lookup ("olds":Str)=some (V.ref lo):=jz
theorem wZ{lo:Addr}{gv:Int}:(t5 lo ln ll ov gv).lookup ("news":Str)=some (V.ref ln):=(dA (by decide+kernel)).trans jz
theorem Ka{lo:Addr}{gv:Int}:(t5 lo ln ll ov gv).lookup ("lengths":Str)=some (V.ref ll):=(dA (by decide+kernel)).trans ((dA (by decide+kernel)).trans jz)
theorem Bo{lo:Addr}{gv:Int}:(t5 lo ln ll ov gv).lookup ("over":Str)=some (V.int ov):=(dA (by decide+kernel)).trans ((dA (by decide+kernel)).trans<|(dA (by decide+kernel)).trans jz)
theorem Kb{lo:Addr}{gv:Int}:(t5 lo ln ll ov gv).lookup ("gives":Str)=some (V.int gv):=(dA (by decide+kernel)).trans ((dA (by decide+kernel)).trans<|(dA (by decide+kernel)).trans<|(dA (by decide+kernel)).trans jz)
theorem w4{lo:Addr}{gv:Int}{m:Str}(h1:¬m="olds")(h2:¬m="news")(h3:¬m="lengths")(h4:¬m="over")(h5:¬m="gives"):(t5 lo ln ll ov gv).lookup m=none:=
 (dA h1).trans ((dA h2).trans<|(dA h3).trans<|(dA h4).trans<|(dA h5).trans rfl)
abbrev oI(rs:List (Nat×Nat×Nat)):List V:=(rs.map fun x=>((x.1:Nat):Int)).map V.int
abbrev nI(rs:List (Nat×Nat×Nat)):List V:=(rs.map fun x=>((x.2.1:Nat):Int)).map V.int
abbrev kI(rs:List (Nat×Nat×Nat)):List V:=(rs.map fun x=>((x.2.2:Nat):Int)).map V.int
structure pe (C:Addr) (H:Hp) (p dx lo ln ll:Addr) (rs:List (Nat×Nat×Nat)) (ov gv:Nat):Prop where
 ob:H p=some (.ins C dx<|t5 lo ln ll ov gv)
 ol:H lo=some (.lst<|oI rs)
 nw:H ln=some (.lst<|nI rs)
 le:H ll=some (.lst<|kI rs)
abbrev Zb:List (Str×Sp):=[("need_change",Jk)]
def pf(C:Addr):Sp:=fun vs H Q E=>∃(p dx a:Addr) (xs:List V) (ps:List Pt),vs=[.ref p,.ref a]/\H p=some (.ins C dx [])/\H a=some (.lst xs)/\bL H xs ps/\(∀q∈ps,gA q)/\chainOk "" ps=true/\ps.length<=1000/\
 ∀(lo ln ll:Addr) (H':Hp),pe C H' p dx lo ln ll (bB ps 0 0) (bq ps) (br ps)->(∀b o,H b=some o->b≠p->H' b=some o)->Q .aD H'
theorem Zc{K:Frag}(T:lI K C)(vs:List V)(H:Hp)(Q:VK)(E:XK)(h:pf C vs H Q E):aA (aH K Zb [] (E:=E)) Au {nx:=fun _ H'=>Q .aD H',rt:=Q} (start As vs) H:=by
 obtain⟨p,dx,a,xs,ps,rfl,hp,ha,cz,az,dR,hl,k⟩:=h;have lx:=Paired.length cz;refine⟨_,rfl,a,xs,ps,rfl,ha,cz,az,dR,fun H1 s1=>?_⟩;have ue:=s1 _ _ hp;refine⟨zqZ _,fun lo f1=>?_⟩;have j_:p≠lo:=aL ue f1;refine⟨_,rfl,p,C,dx,[],rfl,(by rw[ax j_];exact ue),T.cl,T.oY,(by show 0<1000;decide),?_⟩
 refine⟨zqZ _,fun ln f2=>?_⟩;have iS:p≠ln:=fun z=>by rw[<-z,au] at f2;cases f2
 have uf:lo≠ln:=fun z=>by rw[<-z,ax j_.symm,au] at f2;cases f2
 refine⟨_,rfl,p,C,dx,_,rfl,(by rw[ax iS,au]),T.cl,T.qS,(by show 1<1000;decide),?_⟩
 refine⟨zqZ _,fun ll f3=>?_⟩;have ph:p≠ll:=fun z=>by rw[<-z,au] at f3;cases f3
 have w5:ln≠ll:=fun z=>by rw[<-z,ax iS.symm,au] at f3;cases f3
 have w6:lo≠ll:=fun z=>by rw[<-z,ax j_.symm,ax uf,ax j_.symm,au] at f3;cases f3
 refine⟨_,rfl,p,C,dx,_,rfl,(by rw[ax ph,au]),T.cl,T.wo,(by show 2<1000;decide),?_⟩
 have fb:H1 ln=none:=by
  rw[ax iS.symm,ax uf.symm] at f2;exact f2
 have ff:H1 ll=none:=by
  rw[ax ph.symm,ax w5.symm,ax ph.symm,ax w6.symm] at f3;exact f3
 generalize ug:upd (upd (upd (upd (upd (upd H1 lo<|.lst []) p<|.ins C dx<|bz "olds" (.ref lo) []) ln<|.lst []) p<|.ins C dx<|bz "news" (.ref ln)<|bz "olds" (.ref lo) []) ll<|.lst []) p (.ins C dx<|bz "lengths" (.ref ll)<|bz "news" (.ref ln)<|bz "olds" (.ref lo) [])=H2;have Zd:H2 p=some (.ins C dx<|t3 lo ln ll):=by
  rw[<-ug,au];exact congrArg (fun l=>some<|HO.ins C dx l) Y7
 have Ze:H2 lo=some (.lst []):=by rw[<-ug,ax j_.symm,ax w6,ax j_.symm,ax uf,ax j_.symm,au]
 have Zf:H2 ln=some (.lst []):=by rw[<-ug,ax iS.symm,ax w5,ax iS.symm,au]
 have Zg:H2 ll=some (.lst []):=by rw[<-ug,ax ph.symm,au]
 have b2:∀b o,H1 b=some o->b≠p->H2 b=some o:=fun b o e bM=>by
  rw[<-ug,ax bM,ax<|aL e ff,ax bM,ax<|aL e fb,ax bM,ax<|aL e f1];exact e
 have Kc:p≠a:=i5 hp ha (by intro z;cases z)
 have gF:=s1 _ _ ha;have pj:=b2 _ _ gF Kc.symm;have fr:∀{H3:Hp},(∀b o,H2 b=some o->b≠p->b≠lo->b≠ln->b≠ll->H3 b=some o)->∀b o,H1 b=some o->b≠p->H3 b=some o:=fun {H3} h b o e bM=>h b o (b2 b o e bM) bM (aL e f1) (aL e fb) (aL e ff);have Zh:∀{H3:Hp},(∀b o,H1 b=some o->b≠p->H3 b=some o)->gz H H3:=fun {H3} h b zs e=>h b _ (s1 _ _ e) (fun z=>by rw[z,hp] at e;cases e)
 refine⟨_,rfl,a,rfl,⟨_,ay.of pj⟩,iB (K:=K) (a:=a) (xs:=xs) (fun i σ H3=>∃(u u':Option V),σ=[some (.ref p),some (.ref a),some (.int ((bq (ps.take i):Nat):Int)),some (.int ((br (ps.take i):Nat):Int)),u,u']/\(∀b o,H2 b=some o->b≠p->b≠lo->b≠ln->b≠ll->H3 b=some o)/\
   H3 p=some (.ins C dx (t3 lo ln ll))/\H3 lo=some (.lst (oI (bB (ps.take i) 0 0)))/\H3 ln=some (.lst (nI (bB (ps.take i) 0 0)))/\H3 ll=some (.lst (kI (bB (ps.take i) 0 0))))
  ⟨none,none,rfl,fun b o e _ _ _ _=>e,Zd,Ze,Zf,Zg⟩ (fun i σ H3 _ ⟨_,_,_,b3,_⟩=>ay.of (fr b3 _ _ gF Kc.symm)) ?_ ?_⟩
 ·rintro i y σ H3 hi ⟨u,u',rfl,b3,gG,pk,q9,q_⟩;obtain⟨pt,jv,o6⟩:=cz.get hi;obtain⟨c,rfl,Zi⟩:=o6.mono (Zh<|fr b3);have qu:=az pt (zav jv);have cX:i<ps.length:=(zam.mp jv).1;have et:ps.take (i+1)=ps.take i++[pt]:=by rw[zbj,jv];rfl
  have er:bB (ps.take<|i+1) 0 0=bB (ps.take i) 0 0++bB [pt] (bq<|ps.take i) (br<|ps.take i):=by
   rw[et,wY,zbx,zbx]
  have eo:bq (ps.take<|i+1)=bq (ps.take i)+bq [pt]:=by rw[et,Y5]
  have eg:br (ps.take<|i+1)=br (ps.take i)+br [pt]:=by rw[et,Y6]
  have rl:=q8 (ps.take i) 0 0;rw[zau] at rl;refine⟨c,_,rfl,.inl<|aO.of Zi,rfl,_,_,rfl,_,_,rfl,rfl,?_⟩;cases pt with
  |put s=>
   refine⟨_,rfl,_,rfl,_,rfl,_,rfl,bY qu.1.1,?_⟩;refine⟨some<|.str "put",some<|.str s,?_,b3,gG,?_,?_,?_⟩
   ·rw[eo,eg];show[_,_,_,some<|V.int<|(br (ps.take i):Int)+(s.length:Int),_,_]=_;rw[show bq [Pt.put s]=0 from rfl,show br [Pt.put s]=s.length from rfl,zbv,zaZ]
    rfl
   ·rw[er,show bB [Pt.put s] (bq<|ps.take i) (br<|ps.take i)=[] from rfl,zaj];exact pk
   ·rw[er,show bB [Pt.put s] (bq<|ps.take i) (br<|ps.take i)=[] from rfl,zaj];exact q9
   ·rw[er,show bB [Pt.put s] (bq<|ps.take i) (br<|ps.take i)=[] from rfl,zaj];exact q_
  |cut s=>
   refine⟨_,rfl,_,rfl,_,rfl,_,rfl,_,rfl,_,rfl,bY qu.1.1,?_⟩;refine⟨some<|.str "cut",some<|.str s,?_,b3,gG,?_,?_,?_⟩
   ·rw[eo,eg];show[_,_,some<|V.int<|(bq (ps.take i):Int)+(s.length:Int),_,_,_]=_;rw[show bq [Pt.cut s]=s.length from rfl,show br [Pt.cut s]=0 from rfl,zbv,zaZ]
    rfl
   ·rw[er,show bB [Pt.cut s] (bq<|ps.take i) (br<|ps.take i)=[] from rfl,zaj];exact pk
   ·rw[er,show bB [Pt.cut s] (bq<|ps.take i) (br<|ps.take i)=[] from rfl,zaj];exact q9
   ·rw[er,show bB [Pt.cut s] (bq<|ps.take i) (br<|ps.take i)=[] from rfl,zaj];exact q_
  |keep n=>
   have hn:(1:Int)<=n:=qu;obtain⟨m,rfl⟩:=zaC (show(0:Int)<=n by lia)
   refine⟨_,rfl,_,rfl,_,rfl,_,rfl,?_⟩;refine⟨_,rfl,p,C,dx,_,_,rfl,gG,T.cl,T.oY,Y9,.inl ⟨rfl,_,ay.of pk⟩,_,rfl,_,pk,cP (by simp;lia),?_⟩
   have Kd:upd H3 lo (.lst<|oI (bB (ps.take i) 0 0)++[V.int (bq (ps.take i):Int)]) p=some (.ins C dx<|t3 lo ln ll):=by rw[ax j_];exact gG
   have Ke:upd H3 lo (.lst<|oI (bB (ps.take i) 0 0)++[V.int (bq (ps.take i):Int)]) ln=some (.lst<|nI<|bB (ps.take i) 0 0):=by rw[ax uf.symm];exact q9
   refine⟨_,rfl,p,C,dx,_,_,rfl,Kd,T.cl,T.qS,Y_,.inl ⟨rfl,_,ay.of Ke⟩,_,rfl,_,Ke,cP (by simp;lia),?_⟩
   have Kf:upd (upd H3 lo<|.lst<|oI (bB (ps.take i) 0 0)++[V.int (bq (ps.take i):Int)]) ln (.lst<|nI (bB (ps.take i) 0 0)++[V.int (br (ps.take i):Int)]) p=some (.ins C dx<|t3 lo ln ll):=by rw[ax iS];exact Kd
   have Kg:upd (upd H3 lo<|.lst<|oI (bB (ps.take i) 0 0)++[V.int (bq (ps.take i):Int)]) ln (.lst<|nI (bB (ps.take i) 0 0)++[V.int (br (ps.take i):Int)]) ll=some (.lst<|kI<|bB (ps.take i) 0 0):=by rw[ax w5.symm,ax w6.symm];exact q_
   refine⟨_,rfl,p,C,dx,_,_,rfl,Kf,T.cl,T.wo,Za,.inl ⟨rfl,_,ay.of Kg⟩,_,rfl,_,Kg,cP (by simp;lia),?_⟩
   refine⟨_,rfl,_,rfl,?_⟩;refine⟨_,rfl,_,rfl,?_⟩;have ek:bB [Pt.keep (m:Int)] (bq<|ps.take i) (br<|ps.take i)=[(bq<|ps.take i,br<|ps.take i,m)]:=rfl;refine⟨some<|.str "keep",some<|.int m,?_,fun b o e n1 n2 n3 n4=>?_,?_,?_,?_,?_⟩
   ·rw[eo,eg];show[_,_,some<|V.int<|(bq (ps.take i):Int)+(m:Int),some<|V.int<|(br (ps.take i):Int)+(m:Int),_,_]=_;rw[show bq [Pt.keep (m:Int)]=m from rfl,show br [Pt.keep (m:Int)]=m from rfl,zaZ,zaZ]
    rfl
   ·rw[ax n4,ax n3,ax n2];exact b3 b o e n1 n2 n3 n4
   ·rw[ax ph];exact Kf
   ·rw[ax w6,ax uf,au,er,ek];simp[oI]
   ·rw[ax w5,au,er,ek];simp[nI]
   ·rw[au,er,ek];simp[kI];rfl
 ·rintro σ H3 ⟨u,u',rfl,b3,gG,pk,q9,q_⟩;rw[lx,zaG] at pk q9 q_⊢;refine⟨_,rfl,_,rfl,p,C,dx,_,rfl,gG,T.cl,T.wq,(by show 3<1000;decide),?_⟩
  refine⟨_,rfl,_,rfl,p,C,dx,_,rfl,au,T.cl,T.Aw,(by show 4<1000;decide),?_⟩
  refine k lo ln ll _ ⟨?_,?_,?_,?_⟩ fun b o e bM=>?_
  ·rw[au];exact congrArg (fun l=>some<|HO.ins C dx l) Y8
  ·rw[ax j_.symm,ax j_.symm];exact pk
  ·rw[ax iS.symm,ax iS.symm];exact q9
  ·rw[ax ph.symm,ax ph.symm];exact q_
  ·rw[ax bM,ax bM];exact fr b3 b o (s1 _ _ e) bM
theorem bC{K:Frag}{sd:Addr->List (Key×V)->Prop}{a:Addr}{i:Int}(h:H a=some (.lst xs))(e:dC xs i=some v)(q:Q v H):mK K sd (.ref a) (.int i) H Q:=
 .inl ⟨_,_,_,_,rfl,rfl,ay.of h,e,q⟩
def Kh:Sp:=fun vs H Q E=>∃(a:Addr) (xs:List Int) (most:Int),vs=[.ref a,.int most]/\H a=some (.lst<|xs.map V.int)/\wX xs/\Q (.int<|dP xs most) H
theorem Zj{K:Frag}(vs:List V)(H:Hp)(Q:VK)(E:XK)(h:Kh vs H Q E):aA (aH K [] [] (E:=E)) GG {nx:=fun _ H'=>Q .aD H',rt:=Q} (start GF vs) H:=by
 obtain⟨a,xs,most,rfl,ha,hr,q⟩:=h;have hc:=J8 xs most;refine⟨_,rfl,.inl ⟨_,ay.of ha,?_⟩⟩;rw[zaa];refine⟨fun m σ H'=>∃(lo hi:Nat) (w:Option V),m=hi - lo/\σ=[some (.ref a),some (.int most),some (.int lo),some (.int hi),w]/\lo<=dP xs most/\dP xs most<=hi/\hi<=xs.length/\H'=H,
  ⟨_,0,xs.length,none,rfl,rfl,zqZ _,hc,zqR _,rfl⟩,?_⟩
 rintro m σ H' ⟨lo,hi,w,rfl,rfl,h1,h2,h3,rfl⟩;refine⟨_,rfl,_,rfl,trivial,_,rfl,?_⟩;refine cx (fun h=>?_)<|fun h=>?_
 ·have aG:(lo:Int) < (hi:Int):=of_decide_eq_true h;refine⟨_,fun σ' H'' q=>q,?_⟩;refine⟨_,rfl,_,rfl,⟨by decide,by decide⟩,?_⟩
  have hk:(lo+hi) / 2<xs.length:=by lia
  generalize hkk:(lo+hi) / 2=k at hk;have hm:((lo:Int)+(hi:Int)) / 2=(k:Int):=by lia
  show aA _ _ _ [some<|V.ref a,some<|V.int most,some<|V.int lo,some<|V.int hi,some<|V.int<|((lo:Int)+(hi:Int)) / 2] _;rw[hm];have gk:xs[k]?=some xs[k]:=zay hk;have ik:dC (xs.map V.int) (k:Int)=some (.int xs[k]):=g4 (by rw[zai,gk];rfl)
  refine⟨_,rfl,_,rfl,bC ha ik ⟨_,rfl,trivial,_,rfl,?_⟩⟩;refine cx (fun g=>?_)<|fun g=>?_
  ·have hle:xs[k]<=most:=of_decide_eq_true g;exact⟨_,rfl,hi - (k+1),by lia,k+1,hi,some<|V.int k,rfl,rfl,Y4 hr gk hle,h2,h3,rfl⟩
  ·have hle:¬xs[k]<=most:=fun z=>g (zqT z);exact⟨_,rfl,k - lo,by lia,lo,k,some<|V.int k,rfl,rfl,h1,J_ hr gk hle,by lia,rfl⟩
 ·have hle:¬(lo:Int) < (hi:Int):=fun z=>h (zqT z);have e:dP xs most=lo:=by lia
  rw[e] at q;exact⟨_,rfl,q⟩
theorem Bp(rs:List (Nat×Nat×Nat))(most:Int)(q:Nat->Bool)(h:∀o:Nat,decide ((o:Int)<=most)=q o):dP (rs.map fun x=>((x.1:Nat):Int)) most=bM q rs:=by
 unfold dP bM;rw[List.filter_map,zaa]
 congr 1
 exact List.filter_congr fun x _=>h x.1
theorem Ki:∀{rs:List (Nat×Nat×Nat)}{a b:Nat},eV a b rs->∀y∈rs.map (fun x=>((x.1:Nat):Int)),(a:Int)<=y
 |[],_,_,_,y,hy=>by cases hy
 |x::r,a,b,h,y,hy=>by
  rcases zab.mp hy with rfl|z
  ·have:=h.1;show(a:Int)<= (x.1:Int);lia
  ·have:=Ki h.2.2.2 y z;have:=h.1;lia
theorem w9:∀{rs:List (Nat×Nat×Nat)}{a b:Nat},eV a b rs->wX (rs.map fun x=>((x.1:Nat):Int))
 |[],_,_,_=>List.Pairwise.nil
 |x::r,a,b,h=>List.Pairwise.cons (fun y hy=>by have:=Ki h.2.2.2 y hy;show(x.1:Int)<=y;lia) (w9 h.2.2.2)
theorem Kj{rs:List (Nat×Nat×Nat)}{most:Int}{q:Nat->Bool}{c:Nat}{x:Nat×Nat×Nat}(hi:eV 0 0 rs)(hq:∀o:Nat,decide ((o:Int)<=most)=q o)(e:bM q rs=c+1)(g:rs[c]?=some x):(x.1:Int)<=most:=by
 apply Decidable.byContradiction
 intro h;have:=J_ (w9 hi) (show(rs.map fun x=>((x.1:Nat):Int))[c]?=some (x.1:Int) by rw[zai,g];rfl) h
 rw[Bp rs most q hq,e] at this;lia
theorem Zk{acc p:Nat}{rs:List (Nat×Nat×Nat)}(h:bM (fun o=>decide<|o<p) rs=0):lR acc rs p=acc:=by unfold lR;rw[h]
theorem Zl{acc p c:Nat}{rs:List (Nat×Nat×Nat)}{x:Nat×Nat×Nat}(h:bM (fun o=>decide<|o<p) rs=c+1)(g:rs[c]?=some x):lR acc rs p=x.2.1+min x.2.2 (p - x.1):=by
 unfold lR;rw[h];show(match rs[c]? with|some x=>x.2.1+min x.2.2 (p - x.1)|none=>acc)=_
 rw[g]
theorem Zm{g p:Nat}{rs:List (Nat×Nat×Nat)}(h:bM (fun o=>decide<|o<=p) rs=0):lS g rs p=jC g rs 0:=by unfold lS;rw[h]
theorem Zn{g p c:Nat}{rs:List (Nat×Nat×Nat)}{x:Nat×Nat×Nat}(h:bM (fun o=>decide<|o<=p) rs=c+1)(e:rs[c]?=some x):lS g rs p=if p<x.1+x.2.2 then x.2.1+(p - x.1) else jC g rs (c+1):=by
 unfold lS;rw[h];show(match rs[c]? with|some x=>if p<x.1+x.2.2 then x.2.1+(p - x.1) else jC g rs (c+1)|none=>g)=_
 rw[e]
theorem Bq{rs:List (Nat×Nat×Nat)}{c:Nat}{i:Int}{x:Nat×Nat×Nat}(g:rs[c]?=some x)(h:i=c):dC (oI rs) i=some (.int (x.1:Nat)):=by
 rw[h];exact g4 (by simp[oI,g])
theorem Br{rs:List (Nat×Nat×Nat)}{c:Nat}{i:Int}{x:Nat×Nat×Nat}(g:rs[c]?=some x)(h:i=c):dC (nI rs) i=some (.int (x.2.1:Nat)):=by
 rw[h];exact g4 (by simp[nI,g])
theorem Kk{rs:List (Nat×Nat×Nat)}{c:Nat}{i:Int}{x:Nat×Nat×Nat}(g:rs[c]?=some x)(h:i=c):dC (kI rs) i=some (.int (x.2.2:Nat)):=by
 rw[h];exact g4 (by simp[kI,g])
abbrev Bt:List (Str×Sp):=[("many_upto",Kh)]
def Kl(C:Addr):Sp:=fun vs H Q E=>∃(p dx lo ln ll:Addr) (rs:List (Nat×Nat×Nat)) (ov gv pl:Nat),vs=[.ref p,.int pl]/\pe C H p dx lo ln ll rs ov gv/\eV 0 0 rs/\Q (.int (eU 0 (dh rs) pl:Nat)) H
theorem Zo{K:Frag}(T:lI K C)(vs:List V)(H:Hp)(Q:VK)(E:XK)(h:Kl C vs H Q E):aA (aH K Bt [] (E:=E)) GJ {nx:=fun _ H'=>Q .aD H',rt:=Q} (start wm vs) H:=by
 obtain⟨p,dx,lo,ln,ll,rs,ov,gv,pl,rfl,S,hi,q⟩:=h;refine⟨_,rfl,p,C,dx,_,_,rfl,S.ob,T.cl,T.oY,ud,_,rfl,trivial,lo,_,_,rfl,S.ol,w9 hi,?_⟩;have hq:∀o:Nat,decide ((o:Int)<= (pl:Int) - 1)=(fun o=>decide<|o<pl) o:=fun o=>by simp only[decide_eq_decide];lia
 rw[Bp rs _ _ hq];rw[<-J6 hi] at q;have hb:=Bn (fun o=>decide<|o<pl) rs;cases e:bM (fun o=>decide<|o<pl) rs with
 |zero=>
  rw[Zk e] at q;exact⟨trivial,_,rfl,trivial,_,rfl,q⟩
 |succ c=>
  rw[e] at hb;have gc:rs[c]?=some (rs[c]'(by lia)):=zay _
  generalize hx:rs[c]'(by lia)=x at gc
  have Zp:=Kj hi hq e gc;rw[Zl e gc] at q;have hc:((c+1:Nat):Int) - 1=(c:Int):=by lia
  refine⟨trivial,_,rfl,trivial,_,rfl,iF ?_ (by simp)⟩
  refine⟨_,rfl,p,C,dx,_,_,rfl,S.ob,T.cl,T.qS,wZ,_,rfl,bC S.nw (Br gc hc) ?_⟩;refine⟨_,rfl,p,C,dx,_,_,rfl,S.ob,T.cl,T.wo,Ka,_,rfl,bC S.le (Kk gc hc) ?_⟩;refine⟨_,rfl,_,rfl,p,C,dx,_,_,rfl,S.ob,T.cl,T.oY,ud,_,rfl,bC S.ol (Bq gc hc) ?_⟩;refine⟨trivial,?_⟩;show Q (V.int<|(x.2.1:Int)+(if (pl:Int) - (x.1:Int) < (x.2.2:Int) then (pl:Int) - (x.1:Int) else (x.2.2:Int))) H
  have ee:((x.2.1:Int)+(if (pl:Int) - (x.1:Int) < (x.2.2:Int) then (pl:Int) - (x.1:Int) else (x.2.2:Int)))=((x.2.1+min x.2.2 (pl - x.1):Nat):Int):=by
   split<;>lia
  rw[ee];exact q
def Km(C:Addr):Sp:=fun vs H Q E=>∃(p dx lo ln ll:Addr) (rs:List (Nat×Nat×Nat)) (ov gv pl:Nat),vs=[.ref p,.int pl]/\pe C H p dx lo ln ll rs ov gv/\eV 0 0 rs/\rs.length<=1000000/\Q (.int (mR gv (dh rs) pl:Nat)) H
theorem Zq{K:Frag}(T:lI K C)(vs:List V)(H:Hp)(Q:VK)(E:XK)(h:Km C vs H Q E):aA (aH K Bt [] (E:=E)) GN {nx:=fun _ H'=>Q .aD H',rt:=Q} (start wm vs) H:=by
 obtain⟨p,dx,lo,ln,ll,rs,ov,gv,pl,rfl,S,hi,hl,q⟩:=h;refine⟨_,rfl,p,C,dx,_,_,rfl,S.ob,T.cl,T.oY,ud,_,rfl,lo,_,_,rfl,S.ol,w9 hi,?_⟩;have hq:∀o:Nat,decide ((o:Int)<= (pl:Int))=(fun o=>decide<|o<=pl) o:=fun o=>by simp only[decide_eq_decide];lia
 rw[Bp rs _ _ hq];rw[<-J7 hi] at q;have hb:=Bn (fun o=>decide<|o<=pl) rs;have nx:∀c:Nat,Q (.int (jC gv rs c:Nat)) H->ag (aH K Bt [] (E:=E)) (.jR (.cmp .Lt (.bin .Add (.v 2)<|.c<|.int 1)<|.blt .len [(.fld (.v 0) "news")]) (.ix (.fld (.v 0) "news")<|.bin .Add (.v 2)<|.c<|.int 1)<|.fld (.v 0) "gives") [some<|.ref p,some<|.int pl,some<|.int<|(c:Int) - 1] H Q:=by
  intro c q;have hc:(c:Int) - 1+1=(c:Int):=by lia
  refine⟨_,rfl,_,rfl,p,C,dx,_,_,rfl,S.ob,T.cl,T.qS,wZ,.inl ⟨_,ay.of S.nw,trivial,_,rfl,?_⟩⟩;refine cx (fun g=>?_)<|fun g=>?_
  ·have g:=of_decide_eq_true g;rw[zaa,zaa] at g;have gc:rs[c]?=some (rs[c]'(by lia)):=zay _
   refine⟨_,rfl,p,C,dx,_,_,rfl,S.ob,T.cl,T.qS,wZ,_,rfl,bC S.nw (Br gc hc) ?_⟩;unfold jC at q;rw[gc] at q;exact q
  ·have g:¬(c:Int) - 1+1< ((nI rs).length:Int):=fun z=>g (zqT z);rw[zaa,zaa] at g;have gc:rs[c]?=none:=List.getElem?_eq_none (by lia)
   unfold jC at q;rw[gc] at q;exact⟨_,rfl,p,C,dx,_,_,rfl,S.ob,T.cl,T.Aw,Kb,q⟩
 cases e:bM (fun o=>decide<|o<=pl) rs with
 |zero=>
  rw[Zm e] at q;exact⟨trivial,_,rfl,trivial,_,rfl,nx 0 q⟩
 |succ c=>
  rw[e] at hb;have gc:rs[c]?=some (rs[c]'(by lia)):=zay _
  generalize hx:rs[c]'(by lia)=x at gc
  have Zp:=Kj hi hq e gc;rw[Zn e gc] at q;have hc:((c+1:Nat):Int) - 1=(c:Int):=by lia
  refine⟨trivial,_,rfl,trivial,_,rfl,iT ?_ (by simp)⟩
  refine⟨_,rfl,_,rfl,p,C,dx,_,_,rfl,S.ob,T.cl,T.oY,ud,_,rfl,bC S.ol (Bq gc hc) ?_⟩;refine⟨_,rfl,p,C,dx,_,_,rfl,S.ob,T.cl,T.wo,Ka,_,rfl,bC S.le (Kk gc hc) ?_⟩;refine⟨trivial,_,rfl,?_⟩;refine cx (fun g=>?_)<|fun g=>?_
  ·have g:=of_decide_eq_true g;rw[if_pos (by lia)] at q
   refine⟨_,rfl,p,C,dx,_,_,rfl,S.ob,T.cl,T.qS,wZ,_,rfl,bC S.nw (Br gc hc) ?_⟩;refine⟨_,rfl,_,rfl,p,C,dx,_,_,rfl,S.ob,T.cl,T.oY,ud,_,rfl,bC S.ol (Bq gc hc) ?_⟩;refine⟨trivial,?_⟩;show Q (V.int<|(x.2.1:Int)+(pl:Int) - (x.1:Int)) H;rw[show(x.2.1:Int)+(pl:Int) - (x.1:Int)=((x.2.1+(pl - x.1):Nat):Int) by lia]
   exact q
  ·have g:¬(pl:Int) < (x.1:Int)+(x.2.2:Int):=fun z=>g (zqT z);rw[if_neg (by lia)] at q
   exact nx (c+1) q
def mv(s:Str)(ps:List Pt)(p:Nat):Nat:=if s="left" then eU 0 (dh<|bB ps 0 0) p else mR (br ps) (dh<|bB ps 0 0) p
def uh(s:Str)(rs:List (Nat×Nat×Nat))(gv p:Nat):Nat:=if s="left" then eU 0 (dh rs) p else mR gv (dh rs) p
def pq(C:Addr):Sp:=fun vs H Q E=>∃(p dx lo ln ll:Addr) (rs:List (Nat×Nat×Nat)) (ov gv pl:Nat) (s:Str),vs=[.ref p,.int pl,.str s]/\pe C H p dx lo ln ll rs ov gv/\eV 0 0 rs/\rs.length<=1000000/\Q (.int (uh s rs gv pl:Nat)) H
theorem Zr{K:Frag}(T:lI K C)(vs:List V)(H:Hp)(Q:VK)(E:XK)(h:pq C vs H Q E):aA (aH K [] [] [] [("to_left",C,Kl C),("to_right",C,Km C)] (E:=E)) GP {nx:=fun _ H'=>Q .aD H',rt:=Q} (start GO vs) H:=by
 obtain⟨p,dx,lo,ln,ll,rs,ov,gv,pl,s,rfl,S,hi,hl,q⟩:=h;unfold uh at q;refine⟨_,rfl,_,rfl,?_⟩;rw[XU];by_cases e:s="left"
 ·rw[if_pos e] at q;refine iT ?_ (by simpa using e)
  exact⟨_,rfl,p,dx,_,rfl,S.ob,w4 (by decide+kernel) (by decide+kernel) (by decide+kernel) (by decide+kernel) (by decide+kernel),_,rfl,p,dx,lo,ln,ll,rs,ov,gv,pl,rfl,S,hi,q⟩
 ·rw[if_neg e] at q;refine iF ?_ (by simpa using e)
  exact⟨_,rfl,p,dx,_,rfl,S.ob,w4 (by decide+kernel) (by decide+kernel) (by decide+kernel) (by decide+kernel) (by decide+kernel),_,rfl,p,dx,lo,ln,ll,rs,ov,gv,pl,rfl,S,hi,hl,q⟩
def Kn(K:Frag)(p:Addr)(xs:List V):Prop:= ∀H,aO K H p xs
abbrev SD:List V:=[.str "left",.str "right"]
def Bu:Sp:=fun vs H Q E=>∃s:Str,vs=[.str s]/\(s="left"\/s="right")/\Q .aD H
def Bv:Sp:=fun vs H Q E=>∃i lo hi,vs=[.int i,.int lo,.int hi]/\lo<=i/\i<=hi/\Q (.bl true) H
abbrev Zs:List (Str×Sp):=[("is_between",Bv),("need_side",Bu)]
def ui:Sp:=fun vs H Q E=>∃(a:Addr) (xs:List V) (ps:List Pt) (pl:Nat) (s:Str),vs=[.ref a,.int pl,.str s]/\H a=some (.lst xs)/\bL H xs ps/\(∀q∈ps,gA q)/\chainOk "" ps=true/\ps.length<=1000/\pl<=bq ps/\(s="left"\/s="right")/\
 ∀H',av H H'->Q (.int (mv s ps pl:Nat)) H'
theorem Zt{K:Frag}{et:List (Str×Addr)}(T:lI K C)(vs:List V)(H:Hp)(Q:VK)(E:XK)(h:ui vs H Q E):aA (aH K Zs [] [] [("lead",C,pq C)] [("Track",C,pf C)] (et:=et) (E:=E)) GR {nx:=fun _ H'=>Q .aD H',rt:=Q} (start GQ vs) H:=by
 obtain⟨a,xs,ps,pl,s,rfl,ha,cz,az,dR,hl,hp,hs,q⟩:=h;refine⟨_,rfl,fun x dx hx hd d6=>?_⟩;have s1:av H (upd (upd H dx<|.own x) x<|.ins C dx []):=fun b o e=>by rw[ax<|aL e hx,ax<|aL e hd];exact e
 refine⟨x,dx,a,xs,ps,rfl,au,s1 _ _ ha,cz.mono<|dc s1,az,dR,hl,fun lo ln ll H' S b1=>⟨rfl,?_⟩⟩;have s2:av H H':=fun b o e=>b1 b o (s1 b o e) (aL e hx);refine⟨_,rfl,_,rfl,x,C,dx,_,_,rfl,S.ob,T.cl,T.wq,Bo,_,_,_,rfl,by lia,by lia,?_⟩
 refine⟨_,rfl,s,rfl,hs,?_⟩;refine⟨_,rfl,x,dx,_,rfl,S.ob,w4 (by decide+kernel) (by decide+kernel) (by decide+kernel) (by decide+kernel) (by decide+kernel),_,rfl,_,rfl,?_⟩
 have rl:=q8 ps 0 0;exact⟨x,dx,lo,ln,ll,_,_,_,pl,s,rfl,S,uc ps 0 0 az,by lia,q H' s2⟩
theorem Zu{T:Ty}{P Q:Bool->Prop}(h:bG T v H P)(i:∀b,P b->Q b):bG T v H Q:=by
 cases v with
 |ref a=>
  unfold bG at h⊢
  simp only at h⊢
  split at h
  all_goals first|exact i _ h|exact h.elim
 |aD=>exact i _ h
 |bl b=>exact i _ h
 |int _=>exact i _ h
 |str _=>exact i _ h
 |_=>exact False.elim h
theorem Zv{T:Ty}{P:Bool->Prop}(h:bG T v H P)(s:av H H'):bG T v H' P:=by
 cases v with
 |ref a=>
  unfold bG at h⊢
  simp only at h⊢
  cases e:H a with
  |none=>rw[e] at h;exact h.elim
  |some o=>rw[e] at h;rw[s _ _ e];exact h
 |aD=>exact h
 |bl b=>exact h
 |int _=>exact h
 |str _=>exact h
 |_=>exact False.elim h
def f6(T:Ty)(v:V)(H:Hp):Prop:=bG T v H fun b=>b=false
theorem f6.same{T:Ty}(h:f6 T v H)(s:av H H'):f6 T v H':=Zv h s
theorem f6.go{T:Ty}{Q:Bool->Prop}(h:f6 T v H)(q:Q false):bG T v H Q:=Zu h fun b e=>by rw[e];exact q
def Zw(x:Str):Bool:=x.cps.toList.all fun c=>SG.cps.contains c
theorem Ko{α:Type}(p:α->Bool):∀l:List α,l.all p=false->(l.takeWhile p).length<l.length
 |[],h=>by cases h
 |c::l,h=>by
  rw[List.takeWhile_cons];cases hc:p c with
  |false=>simp
  |true=>
   rw[zbe,hc,Bool.true_and] at h;have:=Ko p l h
   simp;lia
theorem Zx(x y:Str)(h:(x.cps.toList.all fun c=>y.cps.contains c)=false):Txt.lstripChars x y≠"":=by
 have lt:=Ko _ _ h;have e0:stripLo y.cps.contains true x=(x.cps.toList.takeWhile y.cps.contains).length:=by
  unfold stripLo;rw[if_pos rfl]
 have e1:∀n,stripHi y.cps.contains false x n=x.length:=fun n=>rfl;intro z;have z2:=congrArg Str.length z;have l0:(Str.ofString "").length=0:=rfl;rw[l0] at z2;unfold Txt.lstripChars Txt.stripBy stripSame stripped at z2;rw[e0,e1] at z2;have hx:x.cps.size=x.cps.toList.length:=by simp
 split at z2
 ·have:x.cps.size=0:=z2;lia
 ·have z3:(x.cps.extract (x.cps.toList.takeWhile y.cps.contains).length x.cps.size).size=0:=z2;rw[Array.size_extract,Nat.min_self] at z3;have z4:x.cps.size - (List.takeWhile (fun c=>y.cps.contains c) x.cps.toList).length=0:=z3;lia
def rf(v:V)(H:Hp):Prop:=(∃x,v=.str x/\x.length<=1000000/\Zw x=false)\/f6 .str v H
theorem rf.same(h:rf v H)(s:av H H'):rf v H':=by
 rcases h with h|h
 ·exact .inl h
 ·exact .inr (h.same s)
def gH(v:V)(H:Hp):Prop:=(∃b,v=.bl b)\/f6 .int v H
theorem gH.same(h:gH v H)(s:av H H'):gH v H':=by
 rcases h with h|h
 ·exact .inl h
 ·exact .inr (h.same s)
def gX:Sp:=fun vs H Q E=>∃v,vs=[v]/\((∃i,v=.int i/\Q (.bl true) H)\/(gH v H/\Q (.bl false) H))
theorem Zy{K:Frag}:bE (gX) (fun E=>aH K [] [] (E:=E)) FZ iL:=by
 intro vs H Q E h;obtain⟨v,rfl,⟨i,rfl,q⟩|⟨⟨b,rfl⟩|hn,q⟩⟩:=h
 ·exact⟨_,rfl,rfl,_,rfl,fM ⟨_,rfl,rfl,q⟩⟩
 ·exact⟨_,rfl,rfl,_,rfl,fM ⟨_,rfl,rfl,q⟩⟩
 ·exact⟨_,rfl,rfl,hn.go ⟨_,rfl,kW q⟩⟩
def Kp:Sp:=fun vs H Q E=>∃v,vs=[v]/\((∃x,v=.str x/\good x/\Q (.bl true) H)\/(rf v H/\Q (.bl false) H))
theorem Zz{K:Frag}:bE (Kp) (fun E=>aH K [] gS (E:=E)) zZ iL:=by
 intro vs H Q E h;obtain⟨v,rfl,⟨x,rfl,hx,q⟩|⟨⟨x,rfl,hl,hx⟩|hn,q⟩⟩:=h
 ·exact X1 _ _ _ _ ⟨x,rfl,hx,q⟩
 ·refine⟨_,rfl,rfl,_,rfl,fM ⟨_,rfl,rfl,bY hl,?_⟩⟩;show Q (.bl<|false ^^ decide (V.str (Txt.lstripChars x SG)=V.str "")) H;rw[zqF<|fun z=>Zx x SG hx (by injection z)]
  exact q
 ·exact⟨_,rfl,rfl,hn.go ⟨_,rfl,kW q⟩⟩
def Bw(K:Frag):Sp:=fun vs H Q E=>∃v p xs,vs=[v,.ref p]/\aO K H p xs/\xs.all gN=true/\((∃w,v=.str w/\Q (.bl<|fz (.str w) xs) H)\/(f6 .str v H/\Q (.bl false) H))
theorem ZA{K:Frag}:bE (Bw K) (fun E=>aH K [] [] (E:=E)) zY zX:=by
 intro vs H Q E h;obtain⟨v,p,xs,rfl,hp,hf,⟨w,rfl,q⟩|⟨hn,q⟩⟩:=h
 ·exact X4 _ _ _ _ ⟨w,p,xs,rfl,hp,hf,q⟩
 ·exact⟨_,rfl,rfl,hn.go ⟨_,rfl,kW q⟩⟩
def nr(v:V)(H:Hp):Prop:=f6 .tuple v H\/∃a xs,v=.ref a/\H a=some (.tup xs)/\xs.length<=1000000/\(xs.length≠2\/∃w t,xs=[w,t]/\
 (f6 .str w H\/(∃s,w=.str s/\s≠"keep"/\s≠"cut"/\s≠"put")\/(w=.str "keep"/\(gH t H\/∃n,t=.int n/\n<1))\/((w=.str "cut"\/w=.str "put")/\(rf t H\/t=.str ""))))
theorem nr.same(h:nr v H)(s:av H H'):nr v H':=by
 rcases h with h|⟨a,xs,rfl,ha,hl,h⟩
 ·exact .inl (h.same s)
 ·refine .inr ⟨a,xs,rfl,s _ _ ha,hl,?_⟩;rcases h with h|⟨w,t,rfl,h⟩
  ·exact .inl h
  ·refine .inr ⟨w,t,rfl,?_⟩;rcases h with h|h|⟨h,h2⟩|⟨h,h2⟩
   ·exact .inl (h.same s)
   ·exact .inr (.inl h)
   ·refine .inr (.inr<|.inl ⟨h,?_⟩);rcases h2 with h2|h2
    ·exact .inl (h2.same s)
    ·exact .inr h2
   ·refine .inr (.inr<|.inr ⟨h,?_⟩);rcases h2 with h2|h2
    ·exact .inl (h2.same s)
    ·exact .inr h2
abbrev w_(K:Frag):List (Str×Sp):=[("is_word",Bw K),("is_whole",gX),("is_text",Kp)]
def Bx:Sp:=fun vs H Q E=>∃v,vs=[v]/\((∃p,lN H v p/\gA p/\∀H',av H H'->Q (.bl true) H')\/(nr v H/\∀H',av H H'->Q (.bl false) H'))
theorem Kq(s t:Str):fz (.str s) [.str t]=(t==s):=by
 unfold fz;show(gh (.str t) (.str s)||false)=_;rw[zbp];rfl
theorem ZC{K:Frag}:bE (Bx) (fun E=>aH K (w_ K) [] (E:=E)) we iL:=by
 intro vs H Q E h;have two:∀(a:Addr) (w t:V) (Q1:VK) (H1:Hp) (σ:St),σ[0]?=some (some<|.ref a)->H1 a=some (.tup [w,t])->
   (∀(tt:Addr) H2,av H1 H2->∀b:Bool,(b=true->w=.str "cut"\/w=.str "put")->(b=false->w≠ .str "cut"/\w≠ .str "put")->Q1 (.bl b) H2)->(f6 .str w H1\/∃s,w=.str s)->
   ag (aH K (w_ K) [] (E:=E)) (.call 0 [(.ix (.v 0)<|.c<|.int 0),(.tup [(.c<|.str "cut"),(.c<|.str "put")])]) σ H1 Q1:=by
  intro a w t Q1 H1 σ h0 ha q hw;refine⟨_,h0,.inr<|.inl ⟨_,_,_,_,rfl,rfl,aO.of ha,rfl,bS,fun t ht=>?_⟩⟩;have s2:=sameNew (o:=.tup [V.str "cut",V.str "put"]) ht;refine⟨w,t,_,rfl,aO.of au,rfl,?_⟩;rcases hw with hw|⟨s,rfl⟩
  ·refine .inr ⟨hw.same s2,q t _ s2 false (fun z=>by cases z) fun _=>⟨?_,?_⟩⟩
   ·rintro rfl;cases (show true=false from hw)
   ·rintro rfl;cases (show true=false from hw)
  ·refine .inl ⟨s,rfl,q t _ s2 _ (fun z=>?_) fun z=>?_⟩
   ·have z':((Str.ofString "cut"==s)||((Str.ofString "put"==s)||false))=true:=z
    simp only[zbp,Bool.or_eq_true,beq_iff_eq] at z'
    rcases z' with z'|z'<;>subst z'
    ·exact .inl rfl
    ·exact .inr rfl
   ·have z':((Str.ofString "cut"==s)||((Str.ofString "put"==s)||false))=false:=z
    simp only[zbp,Bool.or_eq_false_iff,beq_eq_false_iff_ne] at z'
    exact⟨fun y=>z'.1 (by injection y with y;exact y.symm),fun y=>z'.2 (by injection y with y;exact y.symm)⟩
 obtain⟨v,rfl,⟨p,⟨a,rfl,ha⟩,hp,q⟩|⟨hn|⟨a,xs,rfl,ha,hl,hb⟩,q⟩⟩:=h
 ·refine⟨_,rfl,rfl,wK ha ⟨_,rfl,.inr ⟨_,aO.of ha,_,rfl,?_⟩⟩⟩;refine⟨_,rfl,.inr<|.inl ⟨_,_,_,_,rfl,rfl,aO.of ha,rfl,de,fun t1 lP=>?_⟩⟩;have s1:=sameNew (o:=.tup [V.str "keep"]) lP;refine⟨.str p.word,t1,[.str "keep"],rfl,aO.of au,rfl,.inl ⟨p.word,rfl,?_⟩⟩;have gF:=s1 _ _ ha;generalize upd H t1 (.tup [V.str "keep"])=H1 at s1 gF;have fin:∀(s:Str),good s->s≠""->H1 a=some (.tup [.str p.word,.str s])->p.word="put"\/p.word="cut"->aA (aH K (w_ K) [] (E:=E)) (we.drop 2) (Dn Q) (start iL [.ref a]) H1:=by
   intro s gs ns hs hw;refine two a (.str p.word) (.str s) _ H1 _ rfl hs (fun tt H2 s2 b lJ pz=>?_)<|.inr ⟨_,rfl⟩;have eb:b=true:=by
    cases b with
    |true=>rfl
    |false=>
     obtain⟨z1,z2⟩:=pz rfl;rcases hw with z|z
     ·exact absurd (congrArg V.str z) z2
     ·exact absurd (congrArg V.str z) z1
   subst eb;have bW:=s2 _ _ hs;refine⟨_,rfl,fM ⟨_,rfl,.inr<|.inl ⟨_,_,_,_,rfl,rfl,aO.of bW,rfl,.str s,rfl,.inl ⟨s,rfl,gs,_,rfl,?_⟩⟩⟩⟩;refine fM ⟨_,rfl,.inr<|.inl ⟨_,_,_,_,rfl,rfl,aO.of bW,rfl,?_⟩⟩;show Q (.bl<|true ^^ decide (V.str s=V.str "")) _;rw[zqF<|fun z=>ns (by injection z)]
   exact q _<|s1.trans s2
  cases p with
  |keep n=>
   rw[show fz (.str (Pt.keep n).word) [.str "keep"]=true by show fz (.str "keep") [.str "keep"]=true;decide]
   refine⟨_,rfl,.inr<|.inl ⟨_,_,_,_,rfl,rfl,aO.of gF,rfl,.int n,rfl,.inl ⟨n,rfl,_,rfl,?_⟩⟩⟩;refine fM ⟨_,rfl,.inr<|.inl ⟨_,_,_,_,rfl,rfl,aO.of gF,rfl,trivial,?_⟩⟩;show Q (.bl<|decide<|1<=n) H1;rw[zqT (show(1:Int)<=n from hp)]
   exact q _ s1
  |put s=>
   rw[show fz (.str (Pt.put s).word) [.str "keep"]=false by show fz (.str "put") [.str "keep"]=false;decide]
   exact fin s hp.1 hp.2 gF<|.inl rfl
  |cut s=>
   rw[show fz (.str (Pt.cut s).word) [.str "keep"]=false by show fz (.str "cut") [.str "keep"]=false;decide]
   exact fin s hp.1 hp.2 gF<|.inr rfl
 ·exact⟨_,rfl,rfl,hn.go<|q _<|av.refl _⟩
 ·refine⟨_,rfl,rfl,wK ha ⟨_,rfl,.inr ⟨_,aO.of ha,_,rfl,?_⟩⟩⟩;show if (true ^^ decide (V.int (xs.length:Int)=V.int 2))=true then _ else _
  rcases hb with hb|⟨w,t,rfl,hb⟩
  ·rw[zqF<|fun z=>hb (by injection z with z;lia)]
   exact q _<|av.refl _
  ·refine⟨_,rfl,.inr<|.inl ⟨_,_,_,_,rfl,rfl,aO.of ha,rfl,de,fun t1 lP=>?_⟩⟩;have s1:=sameNew (o:=.tup [V.str "keep"]) lP;refine⟨w,t1,[.str "keep"],rfl,aO.of au,rfl,?_⟩;have gF:=s1 _ _ ha;generalize upd H t1 (.tup [V.str "keep"])=H1 at s1 gF;have no:(f6 .str w H1\/∃s,w=.str s)->w≠ .str "cut"->w≠ .str "put"->aA (aH K (w_ K) [] (E:=E)) (we.drop 2) (Dn Q) (start iL [.ref a]) H1:=by
    intro hw n1 n2;refine two a w t _ H1 _ rfl gF (fun tt H2 s2 b lJ pz=>?_) hw;have eb:b=false:=by
     cases b with
     |false=>rfl
     |true=>rcases lJ rfl with z|z;exact absurd z n1;exact absurd z n2
    subst eb;exact⟨_,rfl,kW<|q _<|s1.trans s2⟩
   rcases hb with hb|⟨s,rfl,n0,n1,n2⟩|⟨rfl,hb⟩|⟨hw,hb⟩
   ·refine .inr ⟨hb.same s1,no (.inl<|hb.same s1) ?_ ?_⟩
    ·rintro rfl;cases (show true=false from hb)
    ·rintro rfl;cases (show true=false from hb)
   ·refine .inl ⟨s,rfl,?_⟩;rw[Kq,beq_eq_false_iff_ne.mpr<|Ne.symm n0];exact no (.inr ⟨s,rfl⟩) (fun z=>n1 (by injection z))<|fun z=>n2 (by injection z)
   ·refine .inl ⟨_,rfl,?_⟩;rw[show fz (.str "keep") [.str "keep"]=true by decide]
    refine⟨_,rfl,.inr<|.inl ⟨_,_,_,_,rfl,rfl,aO.of gF,rfl,t,rfl,?_⟩⟩;rcases hb with hb|⟨n,rfl,hn⟩
    ·exact .inr ⟨hb.same s1,_,rfl,kW<|q _ s1⟩
    ·refine .inl ⟨n,rfl,_,rfl,fM ⟨_,rfl,.inr<|.inl ⟨_,_,_,_,rfl,rfl,aO.of gF,rfl,trivial,?_⟩⟩⟩;show Q (.bl<|decide<|1<=n) H1;rw[zqF (by lia)]
     exact q _ s1
   ·have ZD:∃s,w=.str s/\(Str.ofString "keep"==s)=false:=by
     rcases hw with rfl|rfl
     ·exact⟨_,rfl,by decide⟩
     ·exact⟨_,rfl,by decide⟩
    obtain⟨s,rfl,hk⟩:=ZD;refine .inl ⟨s,rfl,?_⟩;rw[Kq,hk];refine two a (.str s) t _ H1 _ rfl gF (fun tt H2 s2 b lJ pz=>?_)<|.inr ⟨s,rfl⟩;have eb:b=true:=by
     cases b with
     |true=>rfl
     |false=>
      obtain⟨z1,z2⟩:=pz rfl;rcases hw with z|z
      ·exact absurd z z1
      ·exact absurd z z2
    subst eb;have pj:=s2 _ _ gF;refine⟨_,rfl,fM ⟨_,rfl,.inr<|.inl ⟨_,_,_,_,rfl,rfl,aO.of pj,rfl,t,rfl,?_⟩⟩⟩;rcases hb with hb|rfl
    ·exact .inr ⟨hb.same<|s1.trans s2,_,rfl,kW<|q _<|s1.trans s2⟩
    ·refine .inl ⟨_,rfl,⟨by decide,fun c hc=>by cases hc⟩,_,rfl,fM ⟨_,rfl,.inr<|.inl ⟨_,_,_,_,rfl,rfl,aO.of pj,rfl,?_⟩⟩⟩
     exact q _<|s1.trans s2
theorem ZE{E:XK}(h:AV vs H Q E):Bx vs H Q E:=by
 obtain⟨v,p,rfl,hp,ho,q⟩:=h;exact⟨_,rfl,.inl ⟨p,hp,ho,q⟩⟩
def xa(H:Hp)(xs:List V):Prop:= ∃pre x post ps,xs=pre++x::post/\bL H pre ps/\(∀p∈ps,gA p)/\chainOk "" ps=true/\
 (nr x H\/∃p,lN H x p/\gA p/\nj p.word (ia "" ps ps.length)=false)
def jD(v:V)(H:Hp):Prop:=f6 .list v H\/∃a xs,v=.ref a/\H a=some (.lst xs)/\xa H xs
theorem xa.same(h:xa H xs)(s:av H H'):xa H' xs:=by
 obtain⟨pre,x,post,ps,e,h1,h2,h3,h4⟩:=h;refine⟨pre,x,post,ps,e,h1.mono<|dc s,h2,h3,?_⟩;rcases h4 with h4|⟨p,a,b,c⟩
 ·exact .inl (h4.same s)
 ·exact .inr ⟨p,a.mono<|dc s,b,c⟩
theorem jD.same(h:jD v H)(s:av H H'):jD v H':=by
 rcases h with h|⟨a,xs,e,h1,h2⟩
 ·exact .inl (f6.same h s)
 ·exact .inr ⟨a,xs,e,s _ _ h1,h2.same s⟩
abbrev ZF:List (Str×Sp):=[("is_part",Bx),("may_follow",AR)]
def Kr(C:Addr):Sp:=fun vs H Q E=>∃v,vs=[v]/\jD v H/\∀H',av H H'->E (.ref C) none H'
theorem ZG{K:Frag}:bE (Kr C) (fun E=>aH K ZF [] (et:=[("BadChange",C)]) (E:=E)) z6 z5:=by
 intro vs H Q E h;obtain⟨v,rfl,hn|⟨a,xs,rfl,ha,pre,x,post,ps,rfl,cz,az,dR,ZH⟩,q⟩:=h
 ·exact⟨_,rfl,rfl,hn.go ⟨de,q _<|av.refl _⟩⟩
 ·have hlen:=Paired.length cz;refine⟨_,rfl,rfl,qT ha ⟨_,rfl,a,rfl,⟨_,ay.of ha⟩,iB (K:=K) (a:=a) (xs:=pre++x::post) (fun i σ H2=>i<=pre.length/\∃v,σ=[some (.ref a),some (.str (ia "" ps i)),v]/\av H H2) ⟨zqZ _,none,rfl,av.refl _⟩
   (fun i σ H2 _ ⟨_,_,_,s2⟩=>ay.of (s2 _ _ ha)) ?_ ?_⟩⟩
  ·rintro i y σ H2 hi ⟨hle,v,rfl,s2⟩;by_cases aG:i<pre.length
   ·have cX:pre[i]?=some y:=by rw[zbQ aG] at hi;exact hi
    obtain⟨p,hp,o6⟩:=cz.get cX;obtain⟨b,rfl,hb⟩:=o6.mono (dc s2);refine⟨_,rfl,_,rfl,.inl ⟨p,⟨b,rfl,hb⟩,az p<|zav hp,fun H3 s3=>?_⟩⟩;refine⟨_,rfl,.inr<|.inl ⟨_,_,_,_,rfl,rfl,aO.of<|s3 _ _ hb,rfl,_,rfl,p.word,_,rfl,?_⟩⟩;have e:=AW ps "" i p dR hp;show(fun c H1=>if (!c)=true then _ else _) (nj p.word<|ia "" ps i) H3
    rw[e];refine⟨_,rfl,.inr<|.inl ⟨_,_,_,_,rfl,rfl,aO.of<|s3 _ _ hb,rfl,aG,some<|.ref b,?_,s2.trans s3⟩⟩;show[some<|V.ref a,some<|V.str p.word,some<|V.ref b]=_;have e2:ia "" ps (i+1)=p.word:=by simp only[ia,hp]
    rw[e2]
   ·have dq:i=pre.length:=by lia
    subst dq;have ey:y=x:=by
     rw[zbo<|zqR _,Nat.sub_self] at hi
     simpa using hi.symm
    subst ey;rcases ZH with hb|⟨p,⟨b,rfl,hb⟩,ho,hf⟩
    ·exact⟨_,rfl,_,rfl,.inr ⟨hb.same s2,fun H3 s3=>⟨de,q _<|s2.trans s3⟩⟩⟩
    ·refine⟨_,rfl,_,rfl,.inl ⟨p,⟨b,rfl,s2 _ _ hb⟩,ho,fun H3 s3=>?_⟩⟩;refine⟨_,rfl,.inr<|.inl ⟨_,_,_,_,rfl,rfl,aO.of<|s3 _ _<|s2 _ _ hb,rfl,_,rfl,p.word,_,rfl,?_⟩⟩;show(fun c H1=>if (!c)=true then _ else _) (nj p.word<|ia "" ps pre.length) H3
     rw[hlen,hf];exact⟨de,q _<|s2.trans s3⟩
  ·rintro σ H2 ⟨hle,_⟩
   simp at hle
   lia
def ka(a b:Sp):Sp:=fun vs H Q E=>a vs H Q E\/b vs H Q E
end L2.B
namespace L2
open PySem PySem.Spec PyProof.Rows
section
variable {Γ:aJ}{D:Ends}{σ:St}{H:Hp}{r:List RS}{Q:VK}{QA:List V->Hp->Prop}{QT:Bool->Hp->Prop}
theorem ah(h:σ[i]?=some (some v))(q:Q v H):ag Γ (.v i) σ H Q:=⟨_,h,q⟩
theorem ar(q:Q v H):ag Γ (.c v) σ H Q:=q
theorem Ks(q:Q (Γ.gv j) H):ag Γ (.g j) σ H Q:=q
theorem aS{op:Operator}{b:RE}(h:ag Γ a σ H fun x H1=>ag Γ b σ H1 fun y H2=>iD Γ.K op x y H2 Q):ag Γ (.bin op a b) σ H Q:=h
theorem iU{op:CmpOp}{b:RE}(h:ag Γ a σ H fun x H1=>ag Γ b σ H1 fun y H2=>cy Γ.K op x y H2 Q):ag Γ (.cmp op a b) σ H Q:=h
theorem bR{b:RE}(h:ag Γ a σ H fun x H1=>ag Γ b σ H1 fun y H2=>mK Γ.K Γ.sd x y H2 Q):ag Γ (.ix a b) σ H Q:=h
theorem ZI{as:List RE}(h:aM Γ as σ H fun vs H1=>Γ.fs j (vs++[]) H1 Q Γ.E):ag Γ (.call j as) σ H Q:=h
theorem bN{as:List RE}(sp:Sp)(hs:Γ.fs j=sp)(h:aM Γ as σ H fun vs H1=>sp vs H1 Q Γ.E):ag Γ (.call j as) σ H Q:=by
 subst hs;refine ZI ?_;have e:(fun(vs:List V) (H1:Hp)=>Γ.fs j (vs++[]) H1 Q Γ.E)=fun vs H1=>Γ.fs j vs H1 Q Γ.E:=by
  funext vs H1;rw[zaj]
 rw[e];exact h
theorem Kt{b:mH}{as:List RE}(h:aM Γ as σ H fun vs H1=>g_ Γ.K b vs H1 Q):ag Γ (.blt b as) σ H Q:=h
theorem dX{as:List RE}(h:aM Γ as σ H fun xs H1=>xs.length<=sizeLine/\∀p,H1 p=none->Q (.ref p) (upd H1 p<|.tup xs)):ag Γ (.tup as) σ H Q:=h
theorem cL{as:List RE}(h:aM Γ as σ H fun xs H1=>xs.length<=sizeLine/\∀p,H1 p=none->Q (.ref p) (upd H1 p<|.lst xs)):ag Γ (.lst as) σ H Q:=h
theorem ZJ{c:RE}(h:ag Γ a σ H fun x H1=>ag Γ c σ H1 fun y H2=>jQ Γ.K [x,y] H2 Q):ag Γ (.cY a c) σ H Q:=h
theorem Ku{c:RE}(h:ag Γ a σ H fun x H1=>ag Γ c σ H1 fun y H2=>jQ Γ.K [x,y] H2 fun z H3=>jT Γ.K z H3 fun b=>QT b H3):aU Γ (.cY a c) σ H QT:=h
theorem aC(q:QA [] H):aM Γ [] σ H QA:=q
theorem ao{as:List RE}(h:ag Γ a σ H fun x H1=>aM Γ as σ H1 fun xs H2=>QA (x::xs) H2):aM Γ (a::as) σ H QA:=h
theorem bD(h:ag Γ e σ H fun x H1=>aA Γ r D (σ.set i<|some x) H1):aA Γ (.asg i e::r) D σ H:=h
theorem f9(h:ag Γ e σ H fun _ H1=>aA Γ r D σ H1):aA Γ (.drop e::r) D σ H:=h
theorem cE(h:ag Γ e σ H D.rt):aA Γ (.ret e::r) D σ H:=h
end
end L2
namespace L2.B
open PySem PySem.Spec PyProof.Rows
structure jE (K:Frag) (cs:List Addr) (bF:Addr) (D:Addr) (j:Nat):Prop where
 cls:qw K D
 ZK:∀i c,cs[i]?=some c->kitOne K (.ref D) (.ref c)=some (decide<|i=j)
 bF:kitOne K (.ref D) (.ref bF)=some true
 val:kitOne K (.ref D) (.type "ValueError")=some true
def iV:List Str:=["text","change","fit","place","side","mark","node","cursor","deed","letter","gone","hand","note"]
abbrev gW(c0 c1 c2 c3 c4 c5 c6 c7 c8 c9 rg rj rm bF:Addr):List (Str×V):=
 [("BadText",.ref c0),("BadChange",.ref c1),("BadFit",.ref c2),("NoPlace",.ref c3),("BadSide",.ref c4),("NoMark",.ref c5),("NoNode",.ref c6),("NoCursor",.ref c7),("BadDeed",.ref c8),("BadLetter",.ref c9),("NoLetter",.ref rg),("NoHand",.ref rj),("NoNote",.ref rm),("InkError",.ref bF)]
def xb(K:Frag)(cs:List Addr)(bF:Addr):Sp:=fun vs H Q E=>∃ea D j,vs=[.ref ea]/\ExcAt H ea D/\jE K cs bF D j/\j<13/\∀H',av H H'->Q (.str<|iV.getD j "") H'
theorem _root_.L2.ExcAt.same{D:Addr}(h:ExcAt H ea D)(s:av H H'):ExcAt H' ea D:=ExcAt.keeps h fun b o u e=>s b _ e
def jF(H:Hp)(v:V)(p:Str×Bool):Prop:= ∃t,v=.ref t/\H t=some (.tup [.str p.1,.bl p.2])
theorem jF.mono{p:Str×Bool}(h:jF H v p)(s:av H H'):jF H' v p:=by
 obtain⟨t,e,h⟩:=h;exact⟨t,e,s _ _ h⟩
theorem pA.mono{H H':Hp}(s:av H H'):∀{vs:List V}{ps:List (Str×Bool)},Paired (jF H) vs ps->Paired (jF H') vs ps
 |_,_,.nil=>.nil
 |_,_,.cons h r=>.cons (h.mono s) (pA.mono s r)
theorem pA.get{H:Hp}:∀{vs:List V}{ps:List (Str×Bool)}{i:Nat}{v:V},Paired (jF H) vs ps->vs[i]?=some v->∃p,ps[i]?=some p/\jF H v p
 |_,_,i,v,.nil,e=>by simp at e
 |_,_,0,v,.cons h r,e=>by simp at e;subst e;exact⟨_,rfl,h⟩
 |_,_,i+1,v,.cons h r,e=>by
  obtain⟨p,a,b⟩:=pA.get (i:=i) r (by simpa using e)
  exact⟨p,by simpa using a,b⟩
theorem Paired.app{α β:Type}{R:α->β->Prop}:∀{xs jG:List α}{ys pB:List β},Paired R xs ys->Paired R jG pB->Paired R (xs++jG) (ys++pB)
 |_,_,_,_,.nil,s=>s
 |_,_,_,_,.cons r t,s=>.cons r (Paired.app t s)
section
variable {Γ:aJ}{cs:List Addr}{bF ea D:Addr}{j:Nat}
theorem By(hk:jE Γ.K cs bF D j)(hg:∀i c,cs[i]?=some c->Γ.gv i=.ref c):∀(ws:List (Str×Nat)) (σ:St) (H:Hp) (Q:List V->Hp->Prop),(∀p∈ws,p.2<cs.length)->σ[0]?=some (some<|.ref ea)->ExcAt H ea D->
  (∀vs H',av H H'->Paired (jF H') vs (ws.map fun p=>(p.1,decide<|p.2=j))->Q vs H')->aM Γ (ws.map fun p=>.tup [(.c<|.str p.1),(.cY (.v 0)<|.g p.2)]) σ H Q
 |[],σ,H,Q,_,_,_,q=>q [] H (av.refl _) .nil
 |(w,i)::ws,σ,H,Q,hl,h0,he,q=>by
  have hi:i<cs.length:=hl (w,i) (.head _);have hc:cs[i]?=some cs[i]:=by simp[hi]
  have key:∀k:VK,jQ Γ.K [.ref ea,.ref cs[i]] H k->jQ Γ.K [.ref ea,Γ.gv i] H k:=by
   intro k;rw[hg i _ hc];exact id
  refine ao<|dX<|ao<|ar<|ao<|ZJ<|ah h0<|Ks<|key _ ⟨D,_,he,hk.cls,.inl ⟨_,rfl⟩,hk.ZK i _ hc,aC ⟨bS,fun t ht=>?_⟩⟩;have s1:=sameNew (o:=.tup [.str w,.bl<|decide<|i=j]) ht;refine By hk hg ws σ _ _ (fun p hp=>hl p<|.tail _ hp) h0 (he.same s1) fun vs H' s2 hp=>?_;exact q (.ref t::vs) H' (s1.trans s2)<|.cons ⟨t,rfl,s2 _ _ au⟩ hp
theorem xf(hk:jE Γ.K cs bF D j)(hg:∀i c,cs[i]?=some c->Γ.gv i=.ref c)(ws:List (Str×Nat)){l:Addr}{ps:List (Str×Bool)}{r:List RS}{E:Ends}(hl:∀p∈ws,p.2<cs.length)(he:ExcAt H ea D)(h1:H l=some (.lst xs))
  (hp:Paired (jF H) xs ps) (hn:xs.length+ws.length<=1000) (q:∀l' jG H',av H H'->H' l'=some (.lst jG)->Paired (jF H') jG (ps++ws.map fun p=>(p.1,decide<|p.2=j))->aA Γ r E [some<|.ref ea,some<|.ref l',none] H'):
  aA Γ (.asg 1 (.bin .Add (.v 1)<|.lst<|ws.map fun p=>.tup [(.c<|.str p.1),(.cY (.v 0)<|.g p.2)])::r) E [some<|.ref ea,some<|.ref l,none] H:=by
 refine⟨_,rfl,By hk hg ws _ H _ hl rfl he fun vs H1 s1 hv=>⟨?_,fun d hd=>?_⟩⟩
 ·have:=Paired.length hv;rw[zaa] at this;exact bY (by lia)
 ·have e1:upd H1 d (.lst vs) l=some (.lst xs):=by rw[ax<|aL (s1 _ _ h1) hd];exact s1 _ _ h1
  have xg:=Paired.length hv;rw[zaa] at xg;refine .inl ⟨l,d,xs,vs,rfl,rfl,e1,au,bY (by lia),fun e dY=>?_⟩
  have s2:=(sameNew (o:=.lst vs) hd).trans (sameNew (o:=.lst (xs++vs)) dY);exact q e (xs++vs) _ (s1.trans s2) au<|Paired.app (pA.mono (s1.trans s2) hp)<|pA.mono s2 hv
end
theorem ZL(j:Nat)(hj:j<13):(((iV.zipIdx).map fun p=>(p.1,decide<|p.2=j)).filter (·.2)).map (·.1)=[iV.getD j ""]/\(iV.getD j "").length<=10:=by
 match j,hj with
 | 0,_| 1,_| 2,_| 3,_| 4,_| 5,_| 6,_| 7,_| 8,_| 9,_| 10,_| 11,_| 12,_=>exact⟨rfl,by decide+kernel⟩
theorem ZM{as:List RE}(h:aM Γ as σ H fun xs H1=>xs.length<=sizeLine/\∀p,H1 p=none->Q (.ref p) (upd H1 p<|.lst xs)):ag Γ (.lst as) σ H Q:=h
theorem join_one(sep x:Str):Txt.join sep [x]=x:=j8 rfl
theorem ZN{α β:Type}(p:α->Bool)(f:α->β)(l:List α)(i:Nat)(v:α)(h:l[i]?=some v):((l.take<|i+1).filter p).map f=((l.take i).filter p).map f++(if p v then [f v] else []):=by
 rw[X8 p l i v h,zat];cases p v<;>rfl
theorem ZO{g:Nat}{D:Addr}{b:Bool}{Q:Bool->Hp->Prop}(h0:σ[i]?=some (some<|.ref ea))(he:ExcAt H ea D)(hc:qw Γ.K D)(hg:Γ.gv g=.ref C)(hk:kitOne Γ.K (.ref D) (.ref C)=some b)(q:Q b H):aU Γ (.cY (.v i)<|.g g) σ H Q:=by
 have key:∀k:VK,jQ Γ.K [.ref ea,.ref C] H k->jQ Γ.K [.ref ea,Γ.gv g] H k:=by
  intro k;rw[hg];exact id
 exact Ku<|ah h0<|Ks<|key _ ⟨D,b,he,hc,.inl ⟨_,rfl⟩,hk,q⟩
theorem ZP{D:Addr}{n:String}{b:Bool}{Q:Bool->Hp->Prop}(h0:σ[i]?=some (some<|.ref ea))(he:ExcAt H ea D)(hc:qw Γ.K D)(hk:kitOne Γ.K (.ref D) (.type n)=some b)(q:Q b H):aU Γ (.cY (.v i)<|.c<|.ty n) σ H Q:=
 Ku (ah h0<|ar ⟨D,b,he,hc,.inr ⟨_,rfl⟩,hk,q⟩)
theorem ZQ{cs:List Addr}{bF D:Addr}(hl:cs.length=13)(hg:∀i c,cs[i]?=some c->Γ.gv i=.ref c)(hi:Γ.gv 13=.ref bF)(he:ExcAt H ea D)(hk:jE Γ.K cs bF D j)(hj:j<13)(q:∀H',av H H'->Q (.str<|iV.getD j "") H'):
  aA Γ eh (Dn Q) [some<|.ref ea,none,none] H:=by
 refine Ut<|ZM<|By hk hg [("text",0),("change",1),("fit",2)] _ H _ (by rw[hl];decide) rfl he fun vs H1 s1 hv=>⟨?_,fun d hd=>?_⟩
 ·have:=Paired.length hv;exact bY (by rw[this];simp)
 have s2:=s1.trans (sameNew (o:=.lst vs) hd);have wJ:=pA.mono (sameNew (o:=.lst vs) hd) hv;have xg:=Paired.length hv;refine xf hk hg [("place",3),("side",4),("mark",5)] (by rw[hl];decide) (he.same s2) au wJ (by rw[xg];simp) fun l3 xs3 H3 s3 h3 Bz=>?_
 have Kv:=Paired.length Bz;refine xf hk hg [("node",6),("cursor",7)] (by rw[hl];decide) ((he.same s2).same s3) h3 Bz (by rw[Kv];simp) fun l4 xs4 H4 s4 h4 BA=>?_
 have Kw:=Paired.length BA;refine xf hk hg [("deed",8),("letter",9)] (by rw[hl];decide) (((he.same s2).same s3).same s4) h4 BA (by rw[Kw];simp) fun l5 xs5 H5 s5 h5 pE=>?_
 have Kx:=Paired.length pE;refine xf hk hg [("gone",10),("hand",11),("note",12)] (by rw[hl];decide) ((((he.same s2).same s3).same s4).same s5) h5 pE (by rw[Kx];simp) fun l6 jH H6 s6 h6 Ky=>?_
 have rn:Paired (jF H6) jH ((iV.zipIdx).map fun p=>(p.1,decide<|p.2=j)):=Ky;obtain⟨pick,aeD⟩:=ZL j hj;have ZR:((iV.zipIdx).map fun p=>(p.1,decide<|p.2=j)).length=13:=by rw[zaa];rfl
 generalize ((iV.zipIdx).map fun p=>(p.1,decide<|p.2=j))=aq at rn pick ZR;have xh:=Paired.length rn;have ZS:=((((he.same s2).same s3).same s4).same s5).same s6;have ZT:=(((s2.trans s3).trans s4).trans s5).trans s6;clear Ky pE BA Bz wJ hv xg Kv Kw Kx;refine Uu ⟨_,rfl,l6,rfl,⟨_,ay.of h6⟩,fun i m ys H7=>m=jH.length - i/\i<=jH.length/\H7=H6/\ys=(((aq.take i).filter (·.2)).map (·.1)).map V.str,⟨_,rfl,zqZ _,rfl,rfl⟩,?_⟩;rintro i m ys H7 ⟨rfl,cX,rfl,rfl⟩;by_cases aG:i<jH.length
 ·refine .inr ⟨⟨jH,jH[i],ay.of h6,by simp[aG]⟩,?_⟩
  rintro x H8 ⟨rfl,hx⟩;obtain⟨⟨w,b⟩,hp,t,rfl,ht⟩:=pA.get rn (hx jH<|ay.of h6);have tf:=ZN (·.2) (·.1) aq i _ hp;refine⟨t,_,rfl,aO.of ht,rfl,_,rfl,?_⟩;show if b=true then _ else _
  cases b with
  |true=>
   refine fM ⟨_,rfl,?_,jH.length - (i+1),by lia,rfl,aG,rfl,?_⟩
   ·rw[zaa,zaa];have:=zaE (·.2) (aq.take i);have:=List.length_take_le i aq;exact cP (by lia)
   ·rw[tf];simp
  |false=>
   refine kW ⟨jH.length - (i+1),by lia,rfl,aG,rfl,?_⟩
   rw[tf];simp
 ·have dq:i=jH.length:=by lia
  subst dq;refine .inl ⟨⟨jH,ay.of h6,zqR _⟩,fun p hp=>?_⟩;rw[xh,show aq.take aq.length=aq from zaG ..,pick]
  have s7:=sameNew (o:=.lst (List.map V.str [iV.getD j ""])) hp;have Kz:=ZS.same s7;refine Uv<|ZO rfl Kz hk.cls hi hk.bF<|ZP rfl Kz hk.cls hk.val ?_;refine⟨rfl,_,rfl,[iV.getD j ""],ay.of au,?_,?_⟩
  ·unfold JoinOk;show(!decide (0+(iV.getD j "").length+(Str.ofString "/").length>sizeLine))=true;rw[zqF];rfl;have:(Str.ofString "/").length=1:=rfl;have:(1000:Nat)<=sizeLine:=by decide
   lia
  ·rw[join_one];exact q _<|ZT.trans s7
theorem ZU{K:Frag}{c0 c1 c2 c3 c4 c5 c6 c7 c8 c9 rg rj rm bF:Addr}(vs:List V)(H:Hp)(Q:VK)(h:xb K [c0,c1,c2,c3,c4,c5,c6,c7,c8,c9,rg,rj,rm] bF vs H Q E0):
  aA (aH K []<|gW c0 c1 c2 c3 c4 c5 c6 c7 c8 c9 rg rj rm bF) eh (Dn Q) (start jl vs) H:=by
 obtain⟨ea,D,j,rfl,he,hk,hj,q⟩:=h;refine ZQ (Γ:=aH K [] (gW c0 c1 c2 c3 c4 c5 c6 c7 c8 c9 rg rj rm bF)) (cs:=[c0,c1,c2,c3,c4,c5,c6,c7,c8,c9,rg,rj,rm]) rfl (fun i c hi=>?_) rfl he hk hj q;have cX:i<13:=(zam.mp hi).1
 match i,cX with
 | 0,_| 1,_| 2,_| 3,_| 4,_| 5,_| 6,_| 7,_| 8,_| 9,_| 10,_| 11,_| 12,_=>exact congrArg V.ref (zak hi)
theorem ZV{a:Addr}{xs:List (Key×V)}{T:Ty}{k:Bool->Prop}(h:H a=some (.dK xs))(q:k (T==.dict)):bG T (.ref a) H k:=by
 show(match H a with|some (.lst _)=>k (T==.list)|some (.a_ _<|.lst _)=>k (T==.list)|some (.tup _)=>k (T==.tuple)|some (.dK _)=>k (T==.dict)|some (.dT _)=>k (T==.dict)|_=>False)
 rw[h];exact q
theorem Run.good{l r:List Nat}(h:Run l ps r)(hl:∀c∈l,SG.cps.contains c=true)(hp:∀p∈ps,o8 p):∀c∈r,SG.cps.contains c=true:=by
 induction h with
 |nil=>exact hl
 |keep e _ ih=>
  intro c hc;rcases zag.mp hc with z|z
  ·exact hl c (zag.mpr<|.inl z)
  ·exact ih (fun d hd=>hl d<|zag.mpr<|.inr hd) (fun p h=>hp p<|.tail _ h) c z
 |put _ ih=>
  intro c hc;rcases zag.mp hc with z|z
  ·exact(hp _ (.head _):sg _) c z
  ·exact ih hl (fun p h=>hp p<|.tail _ h) c z
 |cut _ ih=>exact ih (fun d hd=>hl d<|zag.mpr<|.inr hd) (fun p h=>hp p<|.tail _ h)
theorem Run.len{l r:List Nat}(h:Run l ps r):r.length<=l.length+aV ps:=by
 induction h with
 |nil=>simp
 | @keep a l r n ps e _ ih=>
  have:aV (.keep n::ps)=0+aV ps:=by simp[aV,eT]
  simp only[zqA];lia
 | @put s l r ps _ ih=>
  have:aV (.put s::ps)=s.length+aV ps:=by simp[aV,eT]
  have e:=len_list s
  simp only[zqA];lia
 | @cut s l r ps _ ih=>
  have:aV (.cut s::ps)=s.length+aV ps:=by simp[aV,eT]
  simp only[zqA];lia
def BB:Sp:=fun vs H Q E=>∃x a xs ps r,vs=[.str x,.ref a]/\good x/\H a=some (.lst xs)/\bL H xs ps/\(∀p∈ps,Jj p)/\Run x.cps.toList ps r/\r.length<=1000000/\Q (.str ⟨r.toArray⟩) H
theorem ZW{K:Frag}:bE (BB) (fun E=>aH K [] [] (E:=E)) Gh z9:=by
 intro vs H Q E h;obtain⟨x,a,xs,ps,r,rfl,hx,ha,cz,az,hr,A_,q⟩:=h;have hlen:=Paired.length cz;refine⟨_,rfl,a,rfl,⟨_,ay.of ha⟩,iB (K:=K) (a:=a) (xs:=xs) (fun i σ H2=>∃l1 l2 q1 q2 w v,σ=[some (.str x),some (.ref a),some (.str ⟨q1.toArray⟩),some (.int ((l1.length:Nat):Int)),w,v]/\H2=H/\
   x.cps.toList=l1++l2/\r=q1++q2/\Run l2 (ps.drop i) q2)
  ⟨[],x.cps.toList,[],r,none,none,rfl,rfl,rfl,rfl,hr⟩ (fun i σ H2 _ ⟨_,_,_,_,_,_,_,e,_⟩=>e ▸ ay.of ha) ?_ ?_⟩
 ·rintro i y σ H2 hi ⟨l1,l2,q1,q2,w,v,rfl,rfl,e1,e2,ic⟩;obtain⟨pt,jv,b,rfl,hb⟩:=cz.get hi;have cX:i<ps.length:=(zam.mp jv).1;have ed:ps.drop i=pt::ps.drop (i+1):=by
   rw[zbT cX]
   congr 1
   exact zak<|(zay cX).symm.trans jv
  rw[ed] at ic;obtain⟨la,lb,qa,qb,rfl,rfl,BC,one⟩:=JT ic;have ZX:=az pt (zav jv);have KA:q1.length+qa.length<=1000000:=by rw[e2] at A_;simp at A_;lia
  refine⟨b,_,rfl,.inl<|aO.of hb,rfl,_,_,rfl,_,_,rfl,rfl,?_⟩;cases pt with
  |put s=>
   obtain⟨rfl,rfl⟩:=one;refine⟨_,rfl,_,rfl,_,rfl,_,rfl,bY (by rw[len_list,len_list];exact KA),?_⟩
   refine⟨l1,lb,q1++s.cps.toList,qb,some<|.str "put",some<|.str s,?_,rfl,e1,by rw[e2];simp,BC⟩
   show[_,_,some<|V.str<|⟨q1.toArray⟩++s,_,_,_]=_;rw[show(⟨q1.toArray⟩++s:Str)=⟨(q1++s.cps.toList).toArray⟩ from j8 (by rw[app_list])]
   rfl
  |cut s=>
   obtain⟨rfl,rfl⟩:=one;refine⟨_,rfl,_,rfl,_,rfl,_,rfl,_,rfl,_,rfl,bY ZX,?_⟩;refine⟨l1++s.cps.toList,lb,q1,qb,some<|.str "cut",some<|.str s,?_,rfl,by rw[e1];simp,e2,BC⟩
   show[_,_,_,some<|V.int<|(l1.length:Int)+(s.length:Int),_,_]=_;rw[zqA,<-len_list,zaZ]
   rfl
  |keep n=>
   obtain⟨rfl,hn⟩:=one;refine⟨_,rfl,_,rfl,_,rfl,_,rfl,?_⟩;refine⟨_,rfl,_,rfl,_,rfl,_,rfl,_,rfl,_,rfl,_,rfl,bY hx.1,?_⟩;rw[JV e1 n hn];refine⟨bY (by rw[len_list,len_list];exact KA),?_⟩
   refine⟨_,rfl,_,rfl,?_⟩;refine⟨l1++la,lb,q1++la,qb,some<|.str "keep",some<|.int n,?_,rfl,by rw[e1];simp,by rw[e2];simp,BC⟩
   show[_,_,some<|V.str<|⟨q1.toArray⟩++ ⟨la.toArray⟩,some<|V.int<|(l1.length:Int)+n,_,_]=_;rw[show(⟨q1.toArray⟩++ ⟨la.toArray⟩:Str)=⟨(q1++la).toArray⟩ from j8 (by rw[app_list]),zqA,hn,zaZ]
   rfl
 ·rintro σ H2 ⟨l1,l2,q1,q2,w,v,rfl,rfl,e1,e2,ic⟩;rw[hlen,List.drop_length] at ic;cases ic;rw[zaj] at e2;subst e2;exact⟨_,rfl,q⟩
end L2.B
namespace L2
open PySem PySem.Spec PyProof.Rows
theorem kb{α:Type _}{p:α->Prop}:∀x∈ ([]:List α),p x:=fun _ h=>nomatch h
theorem kc{α:Type _}{p:α->Prop}{a:α}{l:List α}(h:p a)(t:∀x∈l,p x):∀x∈a::l,p x:=List.forall_mem_cons.2 ⟨h,t⟩
section
variable {P:Program}{w:World}{K:Frag}{mg:Str->Option Value}{base:Heap}{k:Nat}
theorem cw.or{CX:bK}{f:Addr}{fd:FuncData}{ps:List Str}{a b:Sp}(A:cw P w K mg base CX k f fd ps a)(C:cw P w K mg base CX k f fd ps b):cw P w K mg base CX k f fd ps (B.ka a b):=
 ⟨fun vs H Q E h=>h.elim (A.len vs H Q E)<|C.len vs H Q E,fun A' outer s H args us vs Q E hr e0 hb hv hs=>hs.elim (A.run A' outer s H args us vs Q E hr e0 hb hv)<|C.run A' outer s H args us vs Q E hr e0 hb hv⟩
theorem cw.weak{CX:bK}{f:Addr}{fd:FuncData}{ps:List Str}{a b:Sp}(A:cw P w K mg base CX k f fd ps b)(h:∀vs H Q E,a vs H Q E->b vs H Q E):cw P w K mg base CX k f fd ps a:=
 ⟨fun vs H Q E q=>A.len vs H Q E<|h _ _ _ _ q,fun A' outer s H args us vs Q E hr e0 hb hv hs=>A.run A' outer s H args us vs Q E hr e0 hb hv<|h _ _ _ _ hs⟩
theorem fW.weak{x:Str}{a b:Sp}(T:fW P w K mg base k x b)(h:∀vs H Q E,a vs H Q E->b vs H Q E):fW P w K mg base k x a:=by
 obtain⟨f,fd,ps,F,r⟩:=T;exact⟨f,fd,ps,F.weak h,r⟩
theorem fX.weak{x:Str}{a b:Sp}(T:fX P w K mg base k (x,C,b))(h:∀vs H Q E,a vs H Q E->b vs H Q E):fX P w K mg base k (x,C,a):=by
 obtain⟨c,f,fd,ps,m,F,r⟩:=T;exact⟨c,f,fd,ps,m,F.weak h,r⟩
theorem fY.weak{x:Str}{a b:Sp}(T:fY P w K mg base k (x,C,b))(h:∀vs H Q E,a vs H Q E->b vs H Q E):fY P w K mg base k (x,C,a):=by
 obtain⟨i,f,fd,ps,m,m2,F,r⟩:=T;exact⟨i,f,fd,ps,m,m2,F.weak h,r⟩
open PySem.W in
theorem ZY{x:Str}(X:K.In base)(G:base.Ns mainGlobals mg)(e:nsIn K mainGlobals x=some (some<|.ref C))(q:excIn K C [.type "ValueError",.type "Exception",.type "BaseException",.type "object"] "ValueError.__new__"=true):wc mg base (x,C):=by
 refine⟨_,_,_,_,⟨mg_of X G e,?_⟩,PySem.F.excBase_ValueError⟩;unfold excIn at q
 split at q
 ·rename_i dd cd sl ho
  split at q
  ·rename_i C' bm k0 k1 k2 k3 n k5 hm hs
   simp only[zad,beq_iff_eq,zaJ] at q
   obtain⟨⟨⟨⟨⟨rfl,rfl⟩,KC⟩,ht⟩,az⟩,vR⟩:=q;obtain⟨nm,bs,mro,ns,qn,hd,sn,sub,ab,col,del⟩:=cd
   dsimp only at hm KC az vR
   subst hm KC;obtain⟨sl⟩:=sl;have bW:sl=_:=hs;subst bW;exact⟨bm,ns,nm,qn,bs,hd,sn,sub,ab,col,dd,k0,k1,k2,k3,k5,_,X _ _ ho,.of_isNs<|isNs_of_in X az,nsMap_none_of_in X az vR,tail_of_in X ht⟩
  ·cases q
 ·cases q
end
end L2
namespace L2.B
end L2.B
namespace L2.B
open PySem PySem.Spec PyProof.Rows
end L2.B
namespace L2
open PySem PySem.Spec PyProof.Rows
section
variable {Γ:aJ}{D:Ends}{σ:St}{H:Hp}{r:List RS}{Q:VK}{QA:List V->Hp->Prop}{QT:Bool->Hp->Prop}
theorem iW{m:Str}(C:Addr)(sp:Sp)(hm:Γ.ms j=(C,sp))(h:ag Γ o σ H fun x H1=>∃a dx fs,x=.ref a/\H1 a=some (.ins C dx fs)/\fs.lookup m=none/\sp [x] H1 Q Γ.E):ag Γ (.bc j m o []) σ H Q:=by
 show mj (Γ.ms j).1 m (Γ.ms j).2 [] Γ.E (ag Γ o) (aM Γ []) σ H Q;rw[hm];exact h
theorem eK{m:Str}(C:Addr)(sp:Sp)(hm:Γ.ms j=(C,sp))(h:ag Γ o σ H fun x H1=>∃p dx fs,x=.ref p/\H1 p=some (.ins C dx fs)/\fs.lookup m=none/\ag Γ a σ H1 fun y H2=>sp [x,y] H2 Q Γ.E):ag Γ (.bc j m o [a]) σ H Q:=by
 show mj (Γ.ms j).1 m (Γ.ms j).2 [] Γ.E (ag Γ o) (aM Γ [a]) σ H Q;rw[hm];exact h
theorem xi(C:Addr)(sp:Sp)(hm:Γ.kt j=(C,sp))(h:ag Γ a σ H fun y H1=>∀x dx,H1 x=none->H1 dx=none->dx≠x->sp [.ref x,y] (upd (upd H1 dx<|.own x) x<|.ins C dx []) (fun v H2=>v=.aD/\Q (.ref x) H2) Γ.E):ag Γ (.make j [a]) σ H Q:=by
 show yD (Γ.kt j).1 (Γ.kt j).2 [] Γ.E (aM Γ [a]) σ H Q;rw[hm];exact h
theorem aY{c:RE}{t e:List RS}(h:aU Γ c σ H fun b H1=>if b=true then aA Γ t {D with nx:=aA Γ r D} σ H1 else aA Γ e {D with nx:=aA Γ r D} σ H1):aA Γ (.ite c t e::r) D σ H:=h
theorem bo{op:CmpOp}{b:RE}(h:ag Γ a σ H fun x H1=>ag Γ b σ H1 fun y H2=>cy Γ.K op x y H2 fun z H3=>∃k,z=.bl k/\QT k H3):aU Γ (.cmp op a b) σ H QT:=h
theorem f_{f:Str}(h:ag Γ o σ H fun x H1=>∃a C dx fs v,x=.ref a/\H1 a=some (.ins C dx fs)/\fh Γ.K C/\fi Γ.K C f/\fs.lookup f=some v/\Q v H1):ag Γ (.fld o f) σ H Q:=h
theorem xj{m:g6}(h:ag Γ o σ H fun x H1=>r_ Γ.K (vL m) x H1/\ag Γ a σ H1 fun y H2=>zo Γ.K m x [y] H2 Q):ag Γ (.dn m o [a]) σ H Q:=h
theorem ZZ{K:Frag}{x:Str}(q:Q (.bl<|x==y) H):cy K .Eq (.str x) (.str y) H Q:=by
 show Q (.bl<|false ^^ decide (V.str x=V.str y)) H;rw[zaO,i_];exact q
end
end L2
namespace L2.B
open PySem PySem.Spec PyProof.Rows
def ie(v:V)(lo hi:Int)(H:Hp):Prop:=gH v H\/∃i,v=.int i/\(i<lo\/hi<i)
def fA:Sp:=fun vs H Q E=>∃(v:V) (lo hi:Int),vs=[v,.int lo,.int hi]/\((∃i,v=.int i/\lo<=i/\i<=hi/\Q (.bl true) H)\/(ie v lo hi H/\Q (.bl false) H))
theorem Z0{K:Frag}:bE (fA) (fun E=>aH K [("is_whole",gX)] [] (E:=E)) Gj Gi:=by
 intro vs H Q E h;have chain:∀(i lo hi:Int) (b:Bool) (H:Hp),decide (lo<=i/\i<=hi)=b->Q (.bl b) H->ag (aH K [("is_whole",gX)] [] (E:=E)) (.je .LtE .LtE (.v 1) (.v 0)<|.v 2) [some<|.int i,some<|.int lo,some<|.int hi] H Q:=by
  intro i lo hi b H hb q;refine⟨_,rfl,_,rfl,trivial,_,rfl,?_⟩;refine cx (fun h1=>?_)<|fun h1=>?_
  ·refine⟨_,rfl,trivial,?_⟩;have nv:lo<=i:=of_decide_eq_true h1;have e:decide (i<=hi)=b:=by rw[<-hb];simp[nv]
   show Q (.bl<|decide<|i<=hi) H;rw[e];exact q
  ·have nv:¬lo<=i:=fun z=>h1 (zqT z);have e:b=false:=by rw[<-hb];simp[nv]
   have e2:decide (lo<=i)=false:=zqF nv;rw[e] at q
   first
    |exact q
    | (show Q (.bl<|decide<|lo<=i) H;rw[e2];exact q)
 obtain⟨v,lo,hi,rfl,⟨i,rfl,h1,h2,q⟩|⟨hn|⟨i,rfl,hb⟩,q⟩⟩:=h
 ·exact⟨_,rfl,_,rfl,.inl ⟨i,rfl,_,rfl,fM<|chain i lo hi true H (by simp[h1,h2]) q⟩⟩
 ·exact⟨_,rfl,_,rfl,.inr ⟨hn,_,rfl,kW q⟩⟩
 ·exact⟨_,rfl,_,rfl,.inl ⟨i,rfl,_,rfl,fM<|chain i lo hi false H (by rw[zqF];rintro⟨a,b⟩;lia) q⟩⟩
theorem Z1{E:XK}(h:Bv vs H Q E):fA vs H Q E:=by
 obtain⟨i,lo,hi,rfl,h1,h2,q⟩:=h;exact⟨_,lo,hi,rfl,.inl ⟨i,rfl,h1,h2,q⟩⟩
def Z2(v:V)(H:Hp):Prop:=f6 .str v H\/∃s,v=.str s/\s≠"left"/\s≠"right"
def KD(C:Addr):Sp:=fun vs H Q E=>∃v:V,vs=[v]/\((∃s:Str,v=.str s/\(s="left"\/s="right")/\Q .aD H)\/(Z2 v H/\E (.ref C) none H))
theorem Z3{K:Frag}{p:Addr}(P:Kn K p SD):bE (KD C) (fun E=>aH K [("is_word",Bw K)] [("SIDES",.ref p)] (et:=[("BadSide",C)]) (E:=E)) GI GH:=by
 intro vs H Q E h;obtain⟨v,rfl,⟨s,rfl,hs,q⟩|⟨hn|⟨s,rfl,h1,h2⟩,q⟩⟩:=h
 ·refine⟨_,rfl,.str s,p,SD,rfl,P H,rfl,.inl ⟨s,rfl,?_⟩⟩;have e:fz (.str s) SD=true:=by rcases hs with rfl|rfl<;>decide
  rw[e];exact q
 ·exact⟨_,rfl,v,p,SD,rfl,P H,rfl,.inr ⟨hn,de,q⟩⟩
 ·refine⟨_,rfl,.str s,p,SD,rfl,P H,rfl,.inl ⟨s,rfl,?_⟩⟩;have e:fz (.str s) SD=false:=by
   have e1:((Str.ofString "left"==s)||((Str.ofString "right"==s)||false))=false:=by
    rw[beq_eq_false_iff_ne.mpr<|Ne.symm h1,beq_eq_false_iff_ne.mpr<|Ne.symm h2];rfl
   exact e1
  rw[e];exact⟨de,q⟩
theorem Z4{E:XK}(h:Bu vs H Q E):KD C vs H Q E:=by
 obtain⟨s,rfl,hs,q⟩:=h;exact⟨_,rfl,.inl ⟨s,rfl,hs,q⟩⟩
def BD(CC:Addr):Sp:=fun vs H Q E=>∃(p:Addr) (v:V),vs=[.ref p,v]/\jD v H/\∀H',av H H'->E (.ref CC) none H'
theorem Z5{K:Frag}{CC:Addr}:bE (BD CC) (fun E=>aH K [("need_change",Kr CC)] [] (E:=E)) Au As:=by
 intro vs H Q E h;obtain⟨p,v,rfl,hn,q⟩:=h;exact⟨_,rfl,v,rfl,hn,q⟩
def BE(v:V)(H:Hp)(ps:List Pt):Prop:= ∃a xs,v=.ref a/\H a=some (.lst xs)/\bL H xs ps/\(∀q∈ps,gA q)/\chainOk "" ps=true/\ps.length<=1000
end L2.B
namespace L2.B
open PySem PySem.StrLaws
end L2.B
namespace L2.B
open PySem PySem.Spec PyProof.Rows
end L2.B
namespace L2
open PySem PySem.Spec PyProof.Rows
section
variable {Γ:aJ}{D:Ends}{σ:St}{H:Hp}{r:List RS}{Q:VK}{QA:List V->Hp->Prop}{QT:Bool->Hp->Prop}
theorem cQ{K:Frag}{b:Bool}{QB:Bool->Prop}(h:QB b):jT K (.bl b) H QB:=h
theorem cG(h:aU Γ a σ H fun b H1=>QT (!b) H1):aU Γ (.not a) σ H QT:=h
theorem dB{as:List RE}(sp:Sp)(hs:Γ.fs j=sp)(h:aM Γ as σ H fun vs H1=>sp vs H1 (fun x H2=>jT Γ.K x H2 fun b=>QT b H2) Γ.E):aU Γ (.call j as) σ H QT:=by
 subst hs;show aM Γ as σ H fun vs H1=>Γ.fs j (vs++[]) H1 (fun x H2=>jT Γ.K x H2 fun b=>QT b H2) Γ.E;have e:(fun(vs:List V) (H1:Hp)=>Γ.fs j (vs++[]) H1 (fun x H2=>jT Γ.K x H2 fun b=>QT b H2) Γ.E)=fun vs H1=>Γ.fs j vs H1 (fun x H2=>jT Γ.K x H2 fun b=>QT b H2) Γ.E:=by
  funext vs H1;rw[zaj]
 rw[e];exact h
theorem gb{b:RE}(h:aU Γ a σ H fun c H1=>if c=true then QT true H1 else aU Γ b σ H1 QT):aU Γ (.or [a,b]) σ H QT:=h
theorem KG{b:RE}(h:aU Γ a σ H fun c H1=>if c=true then aU Γ b σ H1 QT else QT false H1):aU Γ (.and [a,b]) σ H QT:=h
end
end L2
namespace L2.B
open PySem PySem.Spec PyProof.Rows
section
variable {Γ:aJ}{σ:St}{H:Hp}{Q:VK}{QT:Bool->Hp->Prop}{K:Frag}
theorem xk{T:Ty}(h:ag Γ a σ H fun x H1=>bG T x H1 fun b=>QT b H1):aU Γ (.eF T a) σ H QT:=by
 show eP Γ.K (dS (mJ T)<|cU (ag Γ a)<|cU (tC<|.ty T.nm) fj) σ H QT;have e:∀(q:VK),(fun(x:V) (H1:Hp)=>bG T x H1 fun b=>q (.bl b) H1)=fun x H1=>mJ T [x,.ty T.nm] H1 q:=by
  intro q;funext x H1;simp[mJ]
 show ag Γ a σ H fun x H1=>mJ T [x,.ty T.nm] H1 fun v H2=>jT Γ.K v H2 fun b=>QT b H2;rw[<-e];exact h
theorem ig{sd:Addr->List (Key×V)->Prop}{a:Addr}{i:Int}(h:H a=some (.tup xs))(e:dC xs i=some v)(q:Q v H):mK K sd (.ref a) (.int i) H Q:=
 .inr (.inl ⟨_,_,_,_,rfl,rfl,aO.of h,e,q⟩)
theorem cp{x y:Int}(q:Q (.bl<|decide<|x=y) H):cy K .Eq (.int x) (.int y) H Q:=by
 show Q (.bl<|false ^^ decide (V.int x=V.int y)) H;rw[zaO,show decide (V.int x=V.int y)=decide (x=y) from decide_eq_decide.mpr ⟨fun z=>by injection z,fun z=>by rw[z]⟩];exact q
theorem BF{x y:Int}(q:Q (.bl<|!decide (x=y)) H):cy K .NotEq (.int x) (.int y) H Q:=by
 show Q (.bl<|true ^^ decide (V.int x=V.int y)) H;rw[zbg,show decide (V.int x=V.int y)=decide (x=y) from decide_eq_decide.mpr ⟨fun z=>by injection z,fun z=>by rw[z]⟩];exact q
theorem ij{i j:Int}(h:Q (.int<|i+j) H):iD K .Add (.int i) (.int j) H Q:=h
theorem xl(h:∀p,H p=none->Q (.ref p) (upd H p<|.dK [])):ag Γ .jf σ H Q:=h
end
end L2.B
namespace L2.N
open PySem PySem.Spec PyProof.Rows L2.B
end L2.N
namespace L2.N
open PySem PySem.Spec L2.B
theorem cR{r:List RS}(h:aA Γ r D σ H):aA Γ [] {D with nx:=aA Γ r D} σ H:=h
end L2.N
namespace L2.B
open PySem PySem.Spec PyProof.Rows
theorem Z6{K:Frag}{QQ:List V->Hp->Addr->Prop}{te:TE}{fv:List (Str×Nat)}{a:Addr}(ha:H a=some (.lst xs))(hl:xs.length<=1000000)(P:Nat->List V->Hp->Prop)(p0:P 0 [] H)
  (step:∀i x ys H2,xs[i]?=some x->av H H2->P i ys H2->∀Q':VK,(∀y H3,av H2 H3->P (i+1) (ys++[y]) H3->Q' y H3)->te (some x::cf σ fv) H2 Q')
  (fin:∀ys H2 p,av H H2->P xs.length ys H2->H2 p=none->QQ ys H2 p):∃W:Nat->Nat->List V->Hp->Prop,(∃m,W 0 m [] H)/\∀i m ys H2,W i m ys H2->
   ((eO K a).stop i H2/\∀p,H2 p=none->QQ ys H2 p)\/
   ((eO K a).go i H2/\∀x H3,(eO K a).gL i H2 x H3->jd K none x H3 fun zs=>kY none (zs.map some++cf σ fv) H3 fun b H5=>
    if b=true then te (zs.map some++cf σ fv) H5 fun y H6=>ys.length<sizeLine/\∃m',m'<m/\W (i+1) m' (ys++[y]) H6 else ∃m',m'<m/\W (i+1) m' ys H5):=by
 refine⟨fun i m ys H2=>m=xs.length - i/\i<=xs.length/\ys.length=i/\av H H2/\P i ys H2,⟨_,rfl,zqZ _,rfl,av.refl _,p0⟩,?_⟩;rintro i m ys H2 ⟨rfl,hi,hy,s,p⟩;by_cases aG:i<xs.length
 ·refine .inr ⟨⟨xs,xs[i],ay.of<|s _ _ ha,by simp[aG]⟩,?_⟩
  rintro x H3 ⟨rfl,hx⟩;have ou:=hx xs (ay.of<|s _ _ ha);exact step i x ys _ ou s p _ fun y H4 s4 p4=>⟨cP (by lia),xs.length - (i+1),by lia,rfl,aG,by simp[hy],s.trans s4,p4⟩
 ·have dq:i=xs.length:=by lia
  subst dq;exact .inl ⟨⟨xs,ay.of<|s _ _ ha,zqR _⟩,fun q hq=>fin ys _ q s p hq⟩
end L2.B
namespace L2.N
open PySem PySem.Spec L2.B
section
variable {Γ:aJ}{D:Ends}{σ:St}{H:Hp}{r:List RS}{Q:VK}
theorem pF{x:RE}(A B:VK)(Z7:∀v H1,A v H1↔B v H1)(ha:ag Γ x σ H A):ag Γ x σ H B:=by
 have:A=B:=funext fun x=>funext fun H1=>propext (Z7 x H1);rw[<-this];exact ha
theorem BG{fv:List (Str×Nat)}{x elt:RE}(h:ag Γ x σ H fun v H1=>∃a,v=.ref a/\(∃xs,ay Γ.K H1 a xs)/\∃W:Nat->Nat->List V->Hp->Prop,(∃m,W 0 m [] H1)/\∀i m ys H2,W i m ys H2->
   ((eO Γ.K a).stop i H2/\∀p,H2 p=none->Q (.ref p) (upd H2 p<|.lst ys))\/
   ((eO Γ.K a).go i H2/\∀x H3,(eO Γ.K a).gL i H2 x H3->jd Γ.K none x H3 fun zs=>kY none (zs.map some++cf σ fv) H3 fun b H5=>
    if b=true then ag Γ.calm elt (zs.map some++cf σ fv) H5 fun y H6=>ys.length<sizeLine/\∃m',m'<m/\W (i+1) m' (ys++[y]) H6 else ∃m',m'<m/\W (i+1) m' ys H5)):ag Γ (.comp none fv .list [x] none elt) σ H Q:=pF (x:=x) _ _ (fun _ _=>Iff.rfl) h
theorem Z8{m:Str}{b:RE}(C:Addr)(sp:Sp)(hm:Γ.ms j=(C,sp))(h:ag Γ o σ H fun x H1=>∃p dx fs,x=.ref p/\H1 p=some (.ins C dx fs)/\fs.lookup m=none/\ag Γ a σ H1 fun y H2=>ag Γ b σ H2 fun z H3=>sp [x,y,z] H3 Q Γ.E):ag Γ (.bc j m o [a,b]) σ H Q:=by
 show mj (Γ.ms j).1 m (Γ.ms j).2 [] Γ.E (ag Γ o) (aM Γ [a,b]) σ H Q;rw[hm];exact h
theorem ny{x:RE}(h:ag Γ x σ H fun v H1=>sf Γ.K v H1 fun n=>Q (.int n) H1):ag Γ (.blt .len [x]) σ H Q:=h
end
section
variable {Γ:aJ}{D:Ends}{σ:St}{H:Hp}{r:List RS}{Q:VK}{QT:Bool->Hp->Prop}
theorem uj{f:Str}(h:ag Γ e σ H fun v H1=>ag Γ o σ H1 fun x H2=>∃a C dx fs,x=.ref a/\H2 a=some (.ins C dx fs)/\fh Γ.K C/\fi Γ.K C f/\fs.length<1000/\aA Γ r D σ (upd H2 a<|.ins C dx<|bz f v fs)):aA Γ (.g7 o f e::r) D σ H:=h
end
theorem rq{r body:List RS}{x:RE}(h:ag Γ x σ H fun v H1=>∃a,v=.ref a/\(∃xs,ay Γ.K H1 a xs)/\∃W:Nat->Nat->St->Hp->Prop,(∃m,W 0 m σ H1)/\∀j m σ H,W j m σ H->
  ((eO Γ.K a).stop j H/\({D with nx:=aA Γ r D}:Ends).nx σ H)\/((eO Γ.K a).go j H/\∃N:St->Hp->Prop,(∀σ' H',N σ' H'->∃m',m'<m/\W (j+1) m' σ' H')/\∀x H',(eO Γ.K a).gL j H x H'->dv i x σ H' fun σ2 H2=>aA Γ body {({D with nx:=aA Γ r D}:Ends) with nx:=N,ct:=N,bk:=({D with nx:=aA Γ r D}:Ends).nx} σ2 H2)):
  aA Γ (.gQ i .list [x] body::r) D σ H:=pF (x:=x) _ _ (fun _ _=>Iff.rfl) h
section
variable {Γ:aJ}{D:Ends}{σ:St}{H:Hp}{r:List RS}{Q:VK}{QT:Bool->Hp->Prop}
theorem nA{i:RE}(h:ag Γ e σ H fun v H1=>ag Γ o σ H1 fun x H2=>ag Γ i σ H2 fun y H3=>∃a H4,x=.ref a/\g5 H3 a y v H4/\aA Γ r D σ H4):aA Γ (.dput o i e::r) D σ H:=h
theorem gf{b:RE}(h:ag Γ a σ H fun x H1=>ag Γ b σ H1 fun y H2=>∃d v,x=.ref d/\cC H2 d y (some v)/\Q v H2):ag Γ (.dU a b) σ H Q:=h
theorem BH{b:RE}(h:ag Γ a σ H fun y H1=>ag Γ b σ H1 fun x H2=>∃d o,x=.ref d/\cC H2 d y o/\∃k,V.bl (!o.isSome)=.bl k/\QT k H2):aU Γ (.qy a b) σ H QT:=h
end
abbrev Sd:=Nat×Str
abbrev Ent:=Nat×List Sd
def gI(H:Hp)(v:V)(q:Sd):Prop:= ∃t,v=.ref t/\H t=some (.tup [.int (q.1:Nat),.str q.2])
def il(M:List Addr)(H:Hp)(kv:Key×V)(e:Ent):Prop:= ∃l xs,kv=(.inl (e.1:Nat),.ref l)/\H l=some (.lst xs)/\Paired (gI H) xs e.2/\l∉M
def s3(n g:Nat)(d:Addr):List (Str×V):=[("signs",.int (n:Nat)),("given",.int (g:Nat)),("stands",.ref d)]
theorem BI{g:Nat}{d:Addr}:(s3 n g d).lookup ("signs":Str)=some (V.int (n:Nat)):=jz
theorem Z9{g:Nat}{d:Addr}:(s3 n g d).lookup ("given":Str)=some (V.int (g:Nat)):=(dA (by decide+kernel)).trans jz
theorem lT{g:Nat}{d:Addr}:(s3 n g d).lookup ("stands":Str)=some (V.ref d):=(dA (by decide+kernel)).trans ((dA (by decide+kernel)).trans jz)
theorem Z_{g:Nat}{d:Addr}{m:Str}(h1:¬m="signs")(h2:¬m="given")(h3:¬m="stands"):(s3 n g d).lookup m=none:=(dA h1).trans ((dA h2).trans<|(dA h3).trans rfl)
theorem aaa{d:Addr}:bz "stands" (.ref d) (bz "given" (.int 0)<|bz "signs" (.int (n:Nat)) [])=s3 n 0 d:=by
 have e1:bz "signs" (V.int (n:Nat)) []=[(("signs":Str),V.int (n:Nat))]:=rfl;have e2:bz "given" (V.int 0) []=[(("given":Str),V.int 0)]:=rfl;unfold s3;rw[e1,gV (by decide+kernel),e2,gV (by decide+kernel),gV (by decide+kernel)];rfl
theorem aab{g:Nat}{d:Addr}:bz "given" (.int (j:Nat)) (s3 n g d)=s3 n j d:=by
 unfold s3;rw[gV (by decide+kernel),JW]
theorem aac{g:Nat}{d:Addr}:bz "signs" (.int (j:Nat)) (s3 n g d)=s3 j g d:=by
 unfold s3;rw[JW]
def pG(p d:Addr)(H H':Hp):Prop:= ∀b o,H b=some o->b≠p->b≠d->H' b=some o
theorem gI.mono(t:gz H H'){q:Sd}(h:gI H v q):gI H' v q:=by
 obtain⟨a,e,h⟩:=h;exact⟨a,e,t _ _ h⟩
structure bp (M:List Addr) (C:Addr) (H:Hp) (p dx d:Addr) (n g:Nat) (kvs:List (Key×V)) (es:List Ent):Prop where
 ob:H p=some (.ins C dx<|s3 n g d)
 st:H d=some (.dK kvs)
 kv:Paired (il M H) kvs es
 up:(es.map (·.1)).Pairwise (· < ·)
 lt:∀e∈es,e.1<g
 pl:∀e∈es,∀q∈e.2,q.1<=n/\(q.2="left"\/q.2="right")
 al:∀m∈M,∃o,H m=some o
theorem nC{M:List Addr}{a:Addr}{x:HO}(h:∀m∈M,∃o,H m=some o):∀m∈M,∃o,upd H a x m=some o:=fun m hm=>by
 by_cases e:m=a
 ·exact⟨x,by rw[e];exact au⟩
 ·obtain⟨o,z⟩:=h m hm;exact⟨o,by rw[ax e];exact z⟩
section
variable {K:Frag}{M:List Addr}{C:Addr}{H H':Hp}{p dx d:Addr}{n g:Nat}{kvs:List (Key×V)}{es:List Ent}
theorem BJ(b:pG p d H H')(hp:∀xs,H p≠some (.lst xs))(hd:∀xs,H d≠some (.lst xs))(sN:∀xs,H p≠some (.tup xs))(kz:∀xs,H d≠some (.tup xs)){kvs:List (Key×V)}{es:List Ent}(h:Paired (il M H) kvs es):Paired (il M H') kvs es:=
 Paired.b9 h fun kv e ⟨l,xs,e1,e2,e3,e4⟩=>⟨l,xs,e1,b _ _ e2 (fun z=>hp xs<|z ▸ e2)<|fun z=>hd xs<|z ▸ e2,Paired.b9 e3 fun v q ⟨t,a1,a2⟩=>⟨t,a1,b _ _ a2 (fun z=>sN _<|z ▸ a2)<|fun z=>kz _<|z ▸ a2⟩,e4⟩
theorem bp.ent(S:bp M C H p dx d n g kvs es)(b:pG p d H H'):Paired (il M H') kvs es:=
 BJ b (fun xs z=>by rw[S.ob] at z;cases z) (fun xs z=>by rw[S.st] at z;cases z) (fun xs z=>by rw[S.ob] at z;cases z) (fun xs z=>by rw[S.st] at z;cases z) S.kv
theorem bp.ne(S:bp M C H p dx d n g kvs es):p≠d:=fun z=>by have a:=S.ob;rw[z,S.st] at a;cases a
theorem bp.same(S:bp M C H p dx d n g kvs es)(s:av H H'):bp M C H' p dx d n g kvs es:=⟨s _ _ S.ob,s _ _ S.st,S.ent fun b o e _ _=>s b o e,S.up,S.lt,S.pl,fun m hm=>let ⟨o,e⟩:=S.al m hm;⟨o,s _ _ e⟩⟩
theorem bp.nm(S:bp M C H p dx d n g kvs es):(kvs.map fun p=>kV p.1)=(es.map fun e=>((e.1:Nat):Int)).map V.int:=by
 have:∀{kvs:List (Key×V)}{es:List Ent},Paired (il M H) kvs es->(kvs.map fun p=>kV p.1)=(es.map fun e=>((e.1:Nat):Int)).map V.int:=by
  intro kvs es h
  induction h with
  |nil=>rfl
  |cons a r ih=>
   obtain⟨l,xs,e1,_⟩:=a;rw[zal,zal,zal,ih,e1];rfl
 exact this S.kv
theorem aad:∀{l:List Nat},l.Pairwise (· < ·)->l.Nodup:=fun h=>h.imp fun a=>zae a
theorem uk:∀{kvs:List (Key×V)}{es:List Ent},Paired (il M H) kvs es->(es.map (·.1)).Pairwise (· < ·)->∀{i:Nat}{e:Ent},es[i]?=some e->∃l xs,kvs[i]?=some (.inl (e.1:Nat),.ref l)/\cW kvs (.inl (e.1:Nat))=some (.ref l)/\H l=some (.lst xs)/\Paired (gI H) xs e.2
 |[],[],_,_,i,e,h=>by simp at h
 |_::kvs,_::es,.cons a r,hu,0,e,h=>by
  cases h;obtain⟨l,xs,e1,e2,e3,_⟩:=a;exact⟨l,xs,by rw[e1];rfl,by rw[e1];exact mz rfl,e2,e3⟩
 |kv::kvs,e0::es,.cons a r,hu,i+1,e,h=>by
  rw[zal,zbU] at hu;have h':es[i]?=some e:=h;obtain⟨l,xs,e1,e2,e3,e4⟩:=uk r hu.2 h';obtain⟨l0,xs0,a1,_⟩:=a;refine⟨l,xs,by simpa using e1,?_,e3,e4⟩
  have ne:¬kv.1=.inl ((e.1:Nat):Int):=by
   rw[a1];intro z;have z':((e0.1:Nat):Int)=((e.1:Nat):Int):=Sum.inl.inj z;have:=hu.1 e.1 (zba<|zav h');omega
  rw[jb ne];exact e2
theorem BK:∀{kvs:List (Key×V)}{es:List Ent},Paired (il M H) kvs es->∀{i:Int},(∀e∈es,((e.1:Nat):Int)≠i)->cW kvs (.inl i)=none
 |[],[],_,_,_=>rfl
 |kv::kvs,e0::es,.cons a r,i,h=>by
  obtain⟨l0,xs0,a1,_⟩:=a;have ne:¬kv.1=.inl i:=by
   rw[a1];exact fun z=>h e0 (.head _)<|Sum.inl.inj z
  rw[jb ne];exact BK r fun e he=>h e (.tail _ he)
def BL(C:Addr):Sp:=fun vs H Q E=>∃(p dx:Addr) (n:Nat),vs=[.ref p,.int (n:Nat)]/\H p=some (.ins C dx [])/\∀d H',H d=none->bp [] C H' p dx d n 0 [] []->(∀b o,H b=some o->b≠p->H' b=some o)->Q .aD H'
theorem aaf{CP:Addr}(T:jm K C):bE (BL C) (fun E=>aH K [("is_whole",gX)] [] (et:=[("NoPlace",CP)]) (E:=E)) Al Ak:=by
 intro vs H Q E h;obtain⟨p,dx,n,rfl,hp,k⟩:=h;refine aY<|gb<|cG<|dB gX rfl<|ao<|ah rfl<|aC ⟨_,rfl,.inl ⟨_,rfl,cQ<|iF (bo<|ah rfl<|ar ⟨trivial,_,rfl,iF (cR ?_)<|zqF (by show ¬(n:Int) <0;omega)⟩) rfl⟩⟩
 refine uj<|ah rfl<|ah rfl ⟨p,C,dx,[],rfl,hp,T.cl,T.tO,(by show 0<1000;decide),?_⟩
 refine uj<|ar<|ah rfl ⟨p,C,dx,_,rfl,au,T.cl,T.Ar,(by show 1<1000;decide),?_⟩
 refine uj<|xl fun d fd=>?_;have ip:p≠d:=fun z=>by rw[<-z,au] at fd;cases fd
 refine ah rfl ⟨p,C,dx,_,rfl,(by rw[ax ip];exact au),T.cl,T.j5,(by show 2<1000;decide),?_⟩
 have KH:H d=none:=by rw[ax ip.symm,ax ip.symm] at fd;exact fd
 refine k d _ KH ⟨?_,by rw[ax ip.symm];exact au,.nil,List.Pairwise.nil,(fun e he=>by cases he),(fun e he=>by cases he),(fun e he=>by cases he)⟩ fun b o e nb=>?_
 ·rw[au];exact congrArg (fun l=>some<|HO.ins C dx l) aaa
 ·rw[ax nb,ax<|aL e KH,ax nb,ax nb];exact e
def iX(C:Addr):Sp:=fun vs H Q E=>∃(M:List Addr) (p dx d:Addr) (n g:Nat) (kvs:List (Key×V)) (es:List Ent),vs=[.ref p]/\bp M C H p dx d n g kvs es/\Q (.int (n:Nat)) H
theorem aag(T:jm K C):bE (iX C) (fun E=>aH K [] [] (E:=E)) GB wk:=by
 intro vs H Q E h;obtain⟨M,p,dx,d,n,g,kvs,es,rfl,S,q⟩:=h;exact cE<|f_<|ah rfl ⟨p,C,dx,_,_,rfl,S.ob,T.cl,T.tO,BI,q⟩
def rz(C:Addr):Sp:=fun vs H Q E=>∃(M:List Addr) (p dx d l:Addr) (n g:Nat) (kvs:List (Key×V)) (es:List Ent) (xs:List V) (sd:List Sd),vs=[.ref p,.ref l]/\bp M C H p dx d n g kvs es/\H l=some (.lst xs)/\Paired (gI H) xs sd/\l∉M/\es.length<=1000/\(∀q∈sd,q.1<=n/\(q.2="left"\/q.2="right"))/\
 ∀H',bp M C H' p dx d n (g+1) (kvs++[(.inl (g:Nat),.ref l)]) (es++[(g,sd)])->pG p d H H'->Q (.int (g:Nat)) H'
theorem aah(T:jm K C):bE (rz C) (fun E=>aH K [] [] (E:=E)) Gz Gy:=by
 intro vs H Q E h;obtain⟨M,p,dx,d,l,n,g,kvs,es,xs,sd,rfl,S,hl,hs,nM,ll,hp,k⟩:=h;have lk:=Paired.length S.kv;have ip:=S.ne;refine bD<|f_<|ah rfl ⟨p,C,dx,_,_,rfl,S.ob,T.cl,T.Ar,Z9,?_⟩;have hn:cW kvs (.inl ((g:Nat):Int))=none:=BK S.kv fun e he z=>by have:=S.lt e he;omega
 refine nA<|ah rfl<|f_<|ah rfl ⟨p,C,dx,_,_,rfl,S.ob,T.cl,T.j5,lT,ah rfl ⟨d,_,rfl,g5.k (k:=.inl ((g:Nat):Int)) S.st<|cP (by omega),?_⟩⟩
 rw[sk _ hn];have ob1:upd H d (.dK<|kvs++[(.inl ((g:Nat):Int),V.ref l)]) p=some (.ins C dx<|s3 n g d):=by rw[ax ip];exact S.ob
 refine uj<|aS<|ah rfl<|ar<|ij<|ah rfl ⟨p,C,dx,_,rfl,ob1,T.cl,T.Ar,(by show 3<1000;decide),?_⟩
 have bu:pG p d H (upd (upd H d<|.dK<|kvs++[(.inl ((g:Nat):Int),V.ref l)]) p<|.ins C dx<|bz "given" (.int<|(g:Int)+1)<|s3 n g d):=fun b o e n1 n2=>by rw[ax n1,ax n2];exact e
 refine cE<|ah rfl<|k _ ⟨?_,by rw[ax ip.symm];exact au,?_,?_,?_,?_,nC<|nC S.al⟩ bu
 ·rw[au,show(g:Int)+1=((g+1:Nat):Int) by omega,aab]
 ·have nl:l≠p:=fun z=>by rw[z,S.ob] at hl;cases hl
  have nl':l≠d:=fun z=>by rw[z,S.st] at hl;cases hl
  refine Paired.snoc (S.ent bu) ⟨l,xs,rfl,bu _ _ hl nl nl',Paired.b9 hs fun v q ⟨t,a1,a2⟩=>⟨t,a1,bu _ _ a2 (fun z=>by rw[z,S.ob] at a2;cases a2) (fun z=>by rw[z,S.st] at a2;cases a2)⟩,nM⟩
 ·rw[zat,List.pairwise_append];refine⟨S.up,List.pairwise_singleton ..,fun a ha b hb=>?_⟩;obtain⟨e,he,rfl⟩:=zax.mp ha;rw[zaf.mp hb];exact S.lt e he
 ·intro e he;rcases zag.mp he with he|he
  ·exact zaN (S.lt e he)
  ·rw[zaf.mp he];exact zaK _
 ·intro e he;rcases zag.mp he with he|he
  ·exact S.pl e he
  ·rw[zaf.mp he];exact hp
def um(C:Addr):Sp:=fun vs H Q E=>∃(M:List Addr) (p dx d:Addr) (n g i:Nat) (kvs:List (Key×V)) (es:List Ent) (e:Ent),vs=[.ref p,.int (e.1:Nat)]/\bp M C H p dx d n g kvs es/\es[i]?=some e/\∀l xs,H l=some (.lst xs)->Paired (gI H) xs e.2->Q (.ref l) H
theorem aak{CM:Addr}(T:jm K C):bE (um C) (fun E=>aH K [("is_whole",gX)] [] (et:=[("NoMark",CM)]) (E:=E)) An qR:=by
 intro vs H Q E h;obtain⟨M,p,dx,d,n,g,i,kvs,es,e,rfl,S,he,k⟩:=h;obtain⟨l,xs,v1,v2,v3,v4⟩:=uk S.kv S.up he;have hg:cC H d (.int ((e.1:Nat):Int)) (some<|.ref l):=by
  have:=cC.k (k:=.inl ((e.1:Nat):Int)) S.st;rw[v2] at this;exact this
 refine aY<|gb<|cG<|dB gX rfl<|ao<|ah rfl<|aC ⟨_,rfl,.inl ⟨_,rfl,cQ<|iF ?_ rfl⟩⟩;refine BH<|ah rfl<|f_<|ah rfl ⟨p,C,dx,_,_,rfl,S.ob,T.cl,T.j5,lT,d,_,rfl,hg,false,rfl,iF (cR ?_) rfl⟩;exact cE<|gf<|f_<|ah rfl ⟨p,C,dx,_,_,rfl,S.ob,T.cl,T.j5,lT,ah rfl ⟨d,_,rfl,hg,k l xs v3 v4⟩⟩
def kd(C:Addr):Sp:=fun vs H Q E=>∃(M:List Addr) (p dx d:Addr) (n g:Nat) (kvs:List (Key×V)) (es:List Ent),vs=[.ref p]/\bp M C H p dx d n g kvs es/\es.length<64/\∀l,H l=none->Q (.ref l) (upd H l<|.lst<|(es.map fun e=>((e.1:Nat):Int)).map V.int)
theorem aal{es:List Ent}(h:(es.map (·.1)).Pairwise (· < ·)):(es.map fun e=>((e.1:Nat):Int)).Pairwise (· <= ·):=by
 rw[List.pairwise_map] at h⊢;exact h.imp fun a=>by omega
theorem BM{a b:List Int}(p:a.Perm b)(ha:a.Pairwise (· <= ·))(hb:b.Pairwise (· <= ·)):a=b:=p.eq_of_pairwise (fun x y _ _ h1 h2=>Int.le_antisymm h1 h2) ha hb
theorem aam(T:jm K C):bE (kd C) (fun E=>aH K [] [] (E:=E)) GA wk:=by
 intro vs H Q E h;obtain⟨M,p,dx,d,n,g,kvs,es,rfl,S,dG,q⟩:=h;refine cE (show aM (aH K [] [] (E:=E)) [(.fld (.v 0) "stands")] _ H (fun vs H1=>qQ K vs H1 Q) from ao (f_<|ah rfl ⟨p,C,dx,_,_,rfl,S.ob,T.cl,T.j5,lT,aC ⟨d,kvs,_,rfl,S.st,S.nm,by rw[zaa];exact dG,fun l ms fl pm pw=>?_⟩⟩))
 rw[BM pm pw<|aal S.up];exact q l fl
end
section
variable {Γ:aJ}{D:Ends}{σ:St}{H:Hp}{r:List RS}{Q:VK}
theorem rA{i:Int}(h:Q (.int<|-i) H):ag Γ (.neg<|.c<|.int i) σ H Q:=h
end
theorem aan{p:Pt}(h:gA p):o8 p:=by
 cases p with
 |keep n=>trivial
 |put s=>exact h.1.2
 |cut s=>exact h.1.2
section
variable {Γ:aJ}{D:Ends}{σ:St}{H:Hp}{r:List RS}{Q:VK}
theorem aao{lo hi:RE}(h:ag Γ a σ H fun x H1=>ag Γ lo σ H1 fun i H2=>∃i':Int,i=.int i'/\ag Γ hi σ H2 fun j H3=>∃j':Int,j=.int j'/\qB Γ.K x (some i') (some j') H3 Q):ag Γ (.sl a (some lo)<|some hi) σ H Q:=h
theorem aap{body:List RS}{x:RE}(h:ag Γ x σ H fun v H1=>∃n:Int,[v]=[.int n]/\ -(2 ^ 62)<=n/\n<2 ^ 62/\∃W:Nat->Nat->St->Hp->Prop,(∃m,W 0 m σ H1)/\∀j m σ H,W j m σ H->
  ((fI 0 n.toNat).stop j H/\({D with nx:=aA Γ r D}:Ends).nx σ H)\/((fI 0 n.toNat).go j H/\∃N:St->Hp->Prop,(∀σ' H',N σ' H'->∃m',m'<m/\W (j+1) m' σ' H')/\∀x H',(fI 0 n.toNat).gL j H x H'->dv i x σ H' fun σ2 H2=>aA Γ body {({D with nx:=aA Γ r D}:Ends) with nx:=N,ct:=N,bk:=({D with nx:=aA Γ r D}:Ends).nx} σ2 H2)):
  aA Γ (.gQ i .fG [x] body::r) D σ H:=pF (x:=x) _ _ (fun _ _=>Iff.rfl) h
end
theorem pH{K:Frag}{i j:Int}(h:Q (.int<|i - j) H):iD K .Sub (.int i) (.int j) H Q:=⟨trivial,h⟩
end L2.N
namespace L2.B
open PySem PySem.Spec PyProof.Rows
end L2.B
namespace L2.B
open PySem PySem.Spec PyProof.Rows
theorem aaq{K:Frag}:bE (iQ) (fun E=>aH K [] [] (E:=E)) Gk Aa:=by
 intro vs H Q E h;obtain⟨i,rfl,q⟩:=h;exact⟨_,rfl,rfl,_,rfl,fM ⟨_,rfl,rfl,q⟩⟩
end L2.B
namespace L2
open PySem PySem.Spec PyProof.Rows
theorem uo{r:List RS}{is:List Nat}(h:ag Γ e σ H fun x H1=>mQ Γ.K is.length (lB is) x σ H1 (aA Γ r D)):aA Γ (.mI is e::r) D σ H:=h
theorem KI{K:Frag}{t:Addr}{w:V}{Q:St->Hp->Prop}(ht:H t=some (.tup [v,w]))(q:Q ((σ.set i<|some v).set j<|some w) H):mQ K [i,j].length (lB [i,j]) (.ref t) σ H Q:=
 ⟨t,_,rfl,.inl<|aO.of ht,rfl,_,_,rfl,_,_,rfl,rfl,q⟩
end L2
namespace L2.N
open PySem PySem.Spec L2.B
section
variable {K:Frag}{H:Hp}{Q:VK}{Γ:aJ}{σ:St}{D:Ends}
theorem BN{b:RE}{r:List RE}(h:ag Γ a σ H fun x H1=>∃c,x=.bl c/\if c=true then ag Γ (.and (b::r)) σ H1 Q else Q (.bl false) H1):ag Γ (.and (a::b::r)) σ H Q:=h
theorem KJ(h:ag Γ a σ H Q):ag Γ (.and [a]) σ H Q:=h
theorem KL{b:RE}(h:ag Γ a σ H fun x H1=>∃c,x=.bl c/\if c=true then Q (.bl true) H1 else ag Γ b σ H1 Q):ag Γ (.or [a,b]) σ H Q:=h
theorem KN{op b_:CmpOp}{b d:RE}(h:ag Γ a σ H fun x H1=>ag Γ b σ H1 fun y H2=>cy Γ.K op x y H2 fun z H3=>∃k,z=.bl k/\(if k=true then ag Γ d σ H3 fun w H4=>cy Γ.K b_ y w H4 Q else Q (.bl false) H3)):ag Γ (.je op b_ a b d) σ H Q:=h
theorem KO{op b_:CmpOp}{b d:RE}{QT:Bool->Hp->Prop}(h:ag Γ (.je op b_ a b d) σ H fun z H3=>∃k,z=.bl k/\QT k H3):aU Γ (.je op b_ a b d) σ H QT:=h
end
section
variable {K:Frag}
def lU:Sp:=fun vs H Q E=>∃b:Bool,vs=[.bl b]/\Q (.bl true) H
theorem aar:bE (lU) (fun E=>aH K [] [] (E:=E)) Ad iL:=by
 intro vs H Q E h;obtain⟨b,rfl,q⟩:=h;refine cE<|KL<|iU<|ah rfl<|ar ?_;show ∃c,V.bl (decide<|V.bl b=V.bl true)=.bl c/\_;refine⟨_,rfl,?_⟩;cases b with
 |true=>exact iT q (by simp)
 |false=>
  refine iF (iU<|ah rfl<|ar ?_) (by simp)
  show Q (.bl<|decide<|V.bl false=V.bl false) H;rw[zqT rfl];exact q
end
theorem BO{K:Frag}{k:Nat}{t:Addr}{u w:V}{Q:St->Hp->Prop}(ht:H t=some (.tup [u,v,w]))(q:Q (((σ.set i<|some u).set j<|some v).set k<|some w) H):mQ K [i,j,k].length (lB [i,j,k]) (.ref t) σ H Q:=
 ⟨t,_,rfl,.inl<|aO.of ht,rfl,_,_,rfl,_,_,rfl,_,_,rfl,rfl,q⟩
section
variable {K:Frag}
end
section
variable {K:Frag}
end
section
variable {K:Frag}
end
theorem rB{α β:Type}{R:α->β->Prop}:∀{xs:List α}{ys:List β}{i:Nat}{x:α},Paired R xs ys->xs[i]?=some x->∃y,ys[i]?=some y/\R x y
 |[],[],i,x,.nil,h=>by simp at h
 |x::xs,y::ys,0,w,.cons a r,h=>by cases h;exact⟨y,rfl,a⟩
 |x::xs,y::ys,i+1,w,.cons a r,h=>rB (xs:=xs) (ys:=ys) (i:=i) r (by simpa using h)
theorem pI{α:Type}{l:List α}{i:Nat}{x:α}(h:l[i]?=some x):l.take (i+1)=l.take i++[x]:=by
 have aG:i<l.length:=(zam.mp h).1;rw[List.take_succ_eq_append_getElem aG,(zam.mp h).2]
section
variable {K:Frag}
end
theorem KP:∀(k o n:Nat) (x:Nat×Nat),x∈ib o n k->x.2<n+k
 | 0,_,_,_,h=>by cases h
 |k+1,o,n,x,h=>by
  rcases zab.mp h with h|h
  ·rw[h];show n<n+(k+1);omega
  ·have:=KP k (o+1) (n+1) x h;omega
theorem xn:∀(ps:List Pt) (o n:Nat) (x:Nat×Nat),x∈dh (bB ps o n)->x.2<n+br ps
 |[],_,_,_,h=>by cases h
 |.keep k::r,o,n,x,h=>by
  have h':x∈ib o n k.toNat++dh (bB r (o+k.toNat)<|n+k.toNat):=h;show x.2<n+(k.toNat+br r);rcases zag.mp h' with h|h
  ·have:=KP _ _ _ _ h;omega
  ·have:=xn r _ _ x h;omega
 |.put s::r,o,n,x,h=>by
  have:=xn r o (n+s.length) x h;show x.2<n+(s.length+br r);omega
 |.cut s::r,o,n,x,h=>xn r (o+s.length) n x h
theorem aas(s:Str)(ps:List Pt)(p:Nat):mv s ps p<=br ps:=by
 have h:∀x∈dh (bB ps 0 0),x.2<br ps:=fun x hx=>by have:=xn ps 0 0 x hx;omega
 unfold mv
 split
 ·exact JX (zqZ _) h
 ·exact JY h
def mvQ(ps:List Pt)(q:Sd):Sd:=(mv q.2 ps q.1,q.2)
def uq(ps:List Pt)(e:Ent):Ent:=(e.1,e.2.map<|mvQ ps)
theorem BP{α β:Type}{R R':α->β->Prop}(m:∀a b,R a b->R' a b):∀{xs:List α}{ys:List β},Paired R xs ys->∀(i:Nat) {x:α}{y:β},R' x y->Paired R' (xs.set i x) (ys.set i y)
 |_,_,.nil,_,_,_,_=>.nil
 |_,_,.cons a r,0,_,_,h=>.cons h (Paired.b9 r m)
 |_,_,.cons a r,i+1,_,_,h=>.cons (m _ _ a) (BP m r i h)
theorem pw_inj{l:List Nat}(h:l.Pairwise (· < ·)){a:Nat}(hi:l[i]?=some a)(hj:l[j]?=some a):i=j:=by
 obtain⟨h1,e1⟩:=zam.mp hi;obtain⟨h2,e2⟩:=zam.mp hj;exact(List.getElem_inj<|aad h).mp<|e1.trans e2.symm
section
variable {K:Frag}{M:List Addr}{C:Addr}{H H':Hp}{p dx d:Addr}{n g:Nat}{kvs:List (Key×V)}{es:List Ent}
theorem KQ:∀{kvs:List (Key×V)}{es:List Ent},Paired (il M H) kvs es->∀{i:Nat}{kv:Key×V},kvs[i]?=some kv->∃e,es[i]?=some e/\kv.1=.inl ((e.1:Nat):Int)
 |[],[],_,i,kv,h=>by simp at h
 |_::_,e0::_,.cons a r,0,kv,h=>by
  cases h;obtain⟨l,xs,e1,_⟩:=a;exact⟨e0,rfl,by rw[e1]⟩
 |_::kvs,_::es,.cons a r,i+1,kv,h=>KQ (i:=i) (kv:=kv) r h
theorem aau(hv:Paired (il M H) kvs es)(up:(es.map (·.1)).Pairwise (· < ·)){e:Ent}(he:es[i]?=some e)(v:V):putK kvs (.inl ((e.1:Nat):Int)) v=kvs.set i (.inl ((e.1:Nat):Int),v):=by
 obtain⟨l,xs,v1,v2,_⟩:=uk hv up he;unfold putK;rw[sj,v2,if_pos (show(some<|V.ref l).isSome=true from rfl)]
 refine zbM fun j=>?_;rw[zai,zbN];cases hj:kvs[j]? with
 |none=>
  by_cases e1:i=j
  ·subst e1;rw[v1] at hj;cases hj
  ·rw[if_neg e1];rfl
 |some kv=>
  obtain⟨e',dY,hk⟩:=KQ (i:=j) (kv:=kv) hv hj;by_cases e1:i=j
  ·subst e1;rw[he] at dY;cases dY;have:=(zam.mp hj).1;rw[if_pos rfl,if_pos this];show some (if kv.1=_ then (kv.1,v) else kv)=_
   rw[if_pos hk,hk]
  ·rw[if_neg e1];show some (if kv.1=_ then (kv.1,v) else kv)=some kv
   rw[if_neg];rw[hk];intro z;have z':((e'.1:Nat):Int)=((e.1:Nat):Int):=Sum.inl.inj z;have z2:e'.1=e.1:=by omega
   exact e1<|pw_inj up (by rw[zai,he];rfl) (by rw[zai,dY];show some e'.1=some e.1;rw[z2])
theorem aav{Ct x ez lo l:Addr}{rs:List (Nat×Nat×Nat)}{ov gv:Nat}{sd:List Sd}{it:RE}(hm:Γ.calm.ms 0=(Ct,pq Ct))(hx:σ[2]?=some (some<|.ref x))(T:pe Ct H x ez lo ln ll rs ov gv)(hi:eV 0 0 rs)(hl:rs.length<=1000000)
  (hit:∀Q1:VK,Q1 (.ref l) H->ag Γ it σ H Q1) (ha:H l=some (.lst xs)) (hs:Paired (gI H) xs sd) (h3:sd.length<=1000)
  (q:∀w ys H',av H H'->H w=none->H' w=some (.lst ys)->Paired (gI H') ys (sd.map fun q=>(uh q.2 rs gv q.1,q.2))->Q (.ref w) H'):
  ag Γ (.comp (some 2) [("track",2)] .list [it] none<|.tup [(.bc 0 "lead" (.v 2) [.v 0,.v 1]),.v 1]) σ H Q:=by
 have lx:=Paired.length hs;have fv:cf σ [("track",2)]=[some<|.ref x]:=by
  show[(σ[2]?).join]=_;rw[hx];rfl
 refine hit _ ⟨l,rfl,⟨_,ay.of ha⟩,fun i m ys H2=>m=xs.length - i/\i<=xs.length/\ys.length=i/\av H H2/\Paired (gI H2) ys ((sd.take i).map fun q=>(uh q.2 rs gv q.1,q.2)),⟨_,rfl,zqZ _,rfl,av.refl _,.nil⟩,?_⟩;rintro i m ys H2 ⟨rfl,cX,t6,s2,gE⟩;by_cases aG:i<xs.length
 ·refine .inr ⟨⟨xs,xs[i],ay.of<|s2 _ _ ha,by simp[aG]⟩,?_⟩
  rintro y H3 ⟨rfl,hy⟩;obtain⟨e,he,t,rfl,ht⟩:=rB hs (hy xs<|ay.of<|s2 _ _ ha);refine⟨t,_,rfl,aO.of<|s2 _ _ ht,rfl,?_⟩;rw[fv]
  suffices hh:ag Γ.calm (.tup [(.bc 0 "lead" (.v 2) [.v 0,.v 1]),.v 1]) [some<|.int (e.1:Nat),some<|.str e.2,some<|.ref x] H3 (fun y H6=>ys.length<sizeLine/\∃m',m'<xs.length - i/\m'=xs.length - (i+1)/\i+1<=xs.length/\(ys++[y]).length=i+1/\av H H6/\Paired (gI H6) (ys++[y]) ((sd.take<|i+1).map fun q=>(uh q.2 rs gv q.1,q.2))) from hh
  refine dX<|ao<|Z8 Ct (pq Ct) hm<|ah rfl ⟨x,ez,_,rfl,s2 _ _ T.ob,w4 (by decide+kernel) (by decide+kernel) (by decide+kernel) (by decide+kernel) (by decide+kernel),ah rfl<|ah rfl ⟨x,ez,lo,ln,ll,rs,ov,gv,e.1,e.2,rfl,⟨s2 _ _ T.ob,s2 _ _ T.ol,s2 _ _ T.nw,s2 _ _ T.le⟩,hi,hl,?_⟩⟩
  refine ao<|ah rfl<|aC ⟨bS,fun w fw=>⟨cP (by omega),xs.length - (i+1),by omega,rfl,aG,by simp[t6],s2.trans<|sameNew fw,?_⟩⟩
  rw[zbj,he,zat];exact Paired.snoc (Paired.b9 gE fun a b z=>gI.mono (dc<|sameNew fw) z) ⟨w,rfl,au⟩
 ·have dq:i=xs.length:=by omega
  subst dq;refine .inl ⟨⟨xs,ay.of<|s2 _ _ ha,zqR _⟩,fun w hw=>?_⟩;rw[lx,zaG] at gE;have z:=sameNew (o:=.lst ys) hw;exact q w ys _ (s2.trans z) (s2.free hw) au<|Paired.b9 gE fun a b z'=>gI.mono (dc z) z'
def BQ(C:Addr):Sp:=fun vs H Q E=>∃(M:List Addr) (p dx d:Addr) (n g:Nat) (kvs:List (Key×V)) (es:List Ent) (v:V) (ps:List Pt),vs=[.ref p,v]/\bp M C H p dx d n g kvs es/\BE v H ps/\bq ps=n/\es.length<=1000/\(∀e∈es,e.2.length<=1000)/\
 ∀cA H',bp M C H' p dx d (br ps) g cA (es.map<|uq ps)->pG p d H H'->Q .aD H'
theorem aaw{Ct CF:Addr}(T:jm K C)(U:lI K Ct):bE (BQ C) (fun E=>aH K [] [] [] [("lead",Ct,pq Ct)] [("Track",Ct,pf Ct)] (et:=[("BadFit",CF)]) (E:=E)) Ap Ao:=by
 intro vs H Q E h;obtain⟨M,p,dx,d,n,g,kvs,es,_,ps,rfl,S,⟨a,xs,rfl,ha,cz,az,dR,hl⟩,ur,l1,l2,k⟩:=h;have lk:=Paired.length S.kv;have ip:=S.ne;refine bD<|xi Ct (pf Ct) rfl<|ah rfl fun x ez hx hd d6=>?_;have s1:av H (upd (upd H ez<|.own x) x<|.ins Ct ez []):=fun b o e=>by rw[ax<|aL e hx,ax<|aL e hd];exact e
 refine⟨x,ez,a,xs,ps,rfl,au,s1 _ _ ha,cz.mono<|dc s1,az,dR,hl,fun lo ln ll H1 TR b1=>⟨rfl,?_⟩⟩;have s2:av H H1:=fun b o e=>b1 b o (s1 b o e) (aL e hx);have S1:=S.same s2;have npx:p≠x:=aL S.ob hx;have ndx:d≠x:=aL S.st hx;refine aY<|bo<|f_<|ah rfl ⟨x,Ct,ez,_,_,rfl,TR.ob,U.cl,U.wq,Bo,f_<|ah rfl ⟨p,C,dx,_,_,rfl,S1.ob,T.cl,T.tO,BI,BF ⟨_,rfl,iF (cR ?_) ?_⟩⟩⟩
 rotate_left
 ·rw[ur];simp
 refine rq (show aM (aH K [] [] [] [("lead",Ct,pq Ct)] [("Track",Ct,pf Ct)] (et:=[("BadFit",CF)]) (E:=E)) [(.fld (.v 0) "stands")] _ H1 (fun vs H2=>tN K vs H2 _) from ao (f_<|ah rfl ⟨p,C,dx,_,_,rfl,S1.ob,T.cl,T.j5,lT,aC ⟨d,kvs,rfl,S1.st,fun L fL=>?_⟩⟩))
 have sL:=sameNew (o:=.lst (kvs.map fun p=>kV p.1)) fL;rw[S1.nm] at sL⊢;have hL:upd H1 L (.lst<|(es.map fun e=>((e.1:Nat):Int)).map V.int) L=some (.lst<|(es.map fun e=>((e.1:Nat):Int)).map V.int):=au;generalize upd H1 L (.lst<|(es.map fun e=>((e.1:Nat):Int)).map V.int)=H2 at sL hL⊢;have S2:=S1.same sL;have ndL:d≠L:=aL S1.st fL;have uu:pe Ct H2 x ez lo ln ll (bB ps 0 0) (bq ps) (br ps):=⟨sL _ _ TR.ob,sL _ _ TR.ol,sL _ _ TR.nw,sL _ _ TR.le⟩;have rl:=q8 ps 0 0;refine⟨L,rfl,⟨_,ay.of hL⟩,iB (K:=K) (a:=L) (xs:=(es.map fun e=>((e.1:Nat):Int)).map V.int) (fun i σ H3=>∃(u:Option V) (cA:List (Key×V)) (bU:List Ent),σ=[some (.ref p),some (.ref a),some (.ref x),u]/\(∀b o,H2 b=some o->b≠d->H3 b=some o)/\H3 d=some (.dK cA)/\
  Paired (il M H3) cA bU/\bU.map (·.1)=es.map (·.1)/\∀j,bU[j]?=if j<i then (es[j]?).map (uq ps) else es[j]?)
  ⟨none,kvs,es,rfl,fun b o e _=>e,S2.st,S2.kv,rfl,fun j=>by rw[if_neg (Nat.not_lt_zero _)]⟩ (fun i σ H3 _ ⟨_,_,_,_,b3,_⟩=>ay.of (b3 _ _ hL ndL.symm)) ?_ ?_⟩
 ·rintro i y σ H3 hi ⟨u,cA,bU,rfl,b3,iY,uv,rC,xo⟩;rw[zai,zai] at hi;cases rD:es[i]? with
  |none=>rw[rD] at hi;cases hi
  |some e=>
   rw[rD] at hi;cases hi;have cX:i<es.length:=(zam.mp rD).1;have dY:bU[i]?=some e:=by rw[xo,if_neg<|zaD _];exact rD
   have KR:(bU.map (·.1)).Pairwise (· < ·):=by rw[rC];exact S.up
   obtain⟨l,zs,v1,v2,v3,v4⟩:=uk uv KR dY;have hg:cC H3 d (.int ((e.1:Nat):Int)) (some<|.ref l):=by
    have:=cC.k (k:=.inl ((e.1:Nat):Int)) iY;rw[v2] at this;exact this
   have gG:H3 p=some (.ins C dx<|s3 n g d):=b3 _ _ S2.ob ip;have TR3:pe Ct H3 x ez lo ln ll (bB ps 0 0) (bq ps) (br ps):=by
    have ne:∀{b:Addr}{o:HO},H2 b=some o->(∀kv,o≠ .dK kv)->H3 b=some o:=fun {b o} e n=>b3 _ _ e fun z=>by rw[z,S2.st] at e;cases e;exact n _ rfl
    exact⟨ne uu.ob (fun _ z=>by cases z),ne uu.ol (fun _ z=>by cases z),ne uu.nw (fun _ z=>by cases z),ne uu.le (fun _ z=>by cases z)⟩
   have lk':cA.length=es.length:=by
    have e1:=Paired.length uv;have e2:=congrArg List.length rC;rw[zaa,zaa] at e2;omega
   show aA _ [.dput (.fld (.v 0) "stands") (.v 3)<|.comp (some 2) [("track",2)] .list [(.dU (.fld (.v 0) "stands")<|.v 3)] none<|.tup [(.bc 0 "lead" (.v 2) [.v 0,.v 1]),.v 1]] _ [some<|.ref p,some<|.ref a,some<|.ref x,some<|.int ((e.1:Nat):Int)] H3;refine nA<|aav rfl rfl TR3 (uc ps 0 0 az) (by omega) (fun Q1 q1=>gf<|f_<|ah rfl ⟨p,C,dx,_,_,rfl,gG,T.cl,T.j5,lT,ah rfl ⟨d,_,rfl,hg,q1⟩⟩) v3 v4 (l2 e<|zav rD) fun w ys H4 s4 fw hw gE=>?_
   refine f_<|ah rfl ⟨p,C,dx,_,_,rfl,s4 _ _ gG,T.cl,T.j5,lT,ah rfl ⟨d,_,rfl,g5.k (k:=.inl ((e.1:Nat):Int)) (s4 _ _ iY)<|cP (by omega),?_⟩⟩
   have KS:Paired (il M H4) cA bU:=BJ (p:=p) (d:=d) (fun b o e _ _=>s4 b o e) (fun xs z=>by rw[gG] at z;cases z) (fun xs z=>by rw[iY] at z;cases z) (fun xs z=>by rw[gG] at z;cases z) (fun xs z=>by rw[iY] at z;cases z) uv
   rw[aau KS KR dY];have qF:=s4 _ _ iY;have bd:∀b o,H4 b=some o->b≠d->upd H4 d (.dK<|cA.set i (.inl ((e.1:Nat):Int),.ref w)) b=some o:=fun b o eb nb=>by rw[ax nb];exact eb
   have AX:∀m∈M,∃o,H3 m=some o:=fun m hm=>by
    by_cases em:m=d
    ·exact⟨_,em ▸ iY⟩
    ·obtain⟨o,z⟩:=S2.al m hm;exact⟨o,b3 _ _ z em⟩
   have nwM:w∉M:=fun hm=>by
    obtain⟨o,z⟩:=AX w hm;rw[fw] at z;cases z
   have nwd:w≠d:=fun z=>by rw[z,iY] at fw;cases fw
   have tp:∀{b:Addr}{zs:List V},H4 b=some (.tup zs)->upd H4 d (.dK<|cA.set i (.inl ((e.1:Nat):Int),.ref w)) b=some (.tup zs):=fun {b zs} eb=>bd _ _ eb fun z=>by rw[z,qF] at eb;cases eb
   refine⟨_,_,bU.set i<|uq ps e,rfl,fun b o eb nb=>bd _ _ (s4 _ _<|b3 b o eb nb) nb,au,?_,?_,fun j=>?_⟩
   ·refine BP (fun kv e' ⟨l',jG,a1,a2,a3,a4⟩=>⟨l',jG,a1,bd _ _ a2 (fun z=>by rw[z,qF] at a2;cases a2),Paired.b9 a3 fun v q ⟨t,c1,c2⟩=>⟨t,c1,tp c2⟩,a4⟩) KS i ⟨w,ys,rfl,bd _ _ hw nwd,?_,nwM⟩
    exact Paired.b9 gE fun v q ⟨t,c1,c2⟩=>⟨t,c1,tp c2⟩
   ·rw[List.map_set,<-rC];refine zbM fun j=>?_;rw[zbN];by_cases ej:i=j
    ·subst ej;have:i< (bU.map (·.1)).length:=by rw[rC,zaa];exact cX
     rw[if_pos rfl,if_pos this,zai,dY];rfl
    ·rw[if_neg ej]
   ·rw[zbN];by_cases ej:i=j
    ·subst ej;have:i<bU.length:=(zam.mp dY).1;rw[if_pos rfl,if_pos this,if_pos<|zaK _,rD];rfl
    ·rw[if_neg ej,xo];by_cases h1:j<i
     ·rw[if_pos h1,if_pos (by omega)]
     ·rw[if_neg h1,if_neg (by omega)]
 ·rintro σ H3 ⟨u,cA,bU,rfl,b3,iY,uv,rC,xo⟩;have ee:bU=es.map (uq ps):=by
   refine zbM fun j=>?_;rw[xo,zai,zaa,zaa];by_cases h1:j<es.length
   ·rw[if_pos h1]
   ·rw[if_neg h1,List.getElem?_eq_none (by omega)];rfl
  subst ee;have gG:H3 p=some (.ins C dx<|s3 n g d):=b3 _ _ S2.ob ip;have x3:H3 x=some (.ins Ct ez<|t5 lo ln ll (bq ps)<|br ps):=b3 _ _ uu.ob ndx.symm;refine uj<|f_<|ah rfl ⟨x,Ct,ez,_,_,rfl,x3,U.cl,U.Aw,Kb,ah rfl ⟨p,C,dx,_,rfl,gG,T.cl,T.tO,(by show 3<1000;decide),?_⟩⟩
  have bu:pG p d H3 (upd H3 p<|.ins C dx<|bz "signs" (.int ((br ps:Nat):Int))<|s3 n g d):=fun b o e n1 n2=>by rw[ax n1];exact e
  refine k cA _ ⟨?_,by rw[ax ip.symm];exact iY,?_,?_,?_,?_,nC fun m hm=>by
    by_cases em:m=d
    ·exact⟨_,em ▸ iY⟩
    ·obtain⟨o,z⟩:=S2.al m hm;exact⟨o,b3 _ _ z em⟩⟩ fun b o e n1 n2=>?_
  ·rw[au,aac]
  ·exact BJ bu (fun xs z=>by rw[gG] at z;cases z) (fun xs z=>by rw[iY] at z;cases z) (fun xs z=>by rw[gG] at z;cases z) (fun xs z=>by rw[iY] at z;cases z) uv
  ·rw[rC];exact S.up
  ·intro e he;obtain⟨e',dY,rfl⟩:=zax.mp he;exact S.lt e' dY
  ·intro e he q hq;obtain⟨e',dY,rfl⟩:=zax.mp he;obtain⟨q',om,rfl⟩:=zax.mp hq;exact⟨aas _ _ _,(S.pl e' dY q' om).2⟩
  ·rw[ax n1];exact b3 _ _ (sL _ _<|s2 _ _ e) n2
end
section
variable {K:Frag}{M:List Addr}{C:Addr}{H H':Hp}{p dx d:Addr}{n g:Nat}{kvs:List (Key×V)}{es:List Ent}
def BR(C CC CF:Addr):Sp:=fun vs H Q E=>∃(M:List Addr) (p dx d:Addr) (n g:Nat) (kvs:List (Key×V)) (es:List Ent) (v:V),vs=[.ref p,v]/\bp M C H p dx d n g kvs es/\
 ((jD v H/\∀H',av H H'->E (.ref CC) none H')\/∃ps,BE v H ps/\bq ps≠n/\∀H',av H H'->E (.ref CF) none H')
theorem aaC{Ct CC CF:Addr}(T:jm K C)(U:lI K Ct):bE (BR C CC CF) (fun E=>aH K [] [] [] [("lead",Ct,pq Ct)] [("Track",Ct,ka (pf Ct)<|BD CC)] (et:=[("BadFit",CF)]) (E:=E)) Ap Ao:=by
 intro vs H Q E h;obtain⟨M,p,dx,d,n,g,kvs,es,v,rfl,S,h⟩:=h;refine bD<|xi Ct (ka (pf Ct)<|BD CC) rfl<|ah rfl fun x ez hx hd d6=>?_;have s1:av H (upd (upd H ez<|.own x) x<|.ins Ct ez []):=fun b o e=>by rw[ax<|aL e hx,ax<|aL e hd];exact e
 rcases h with⟨hn,q⟩|⟨ps,⟨a,xs,rfl,ha,cz,az,dR,hl⟩,ur,q⟩
 ·exact .inr ⟨x,v,rfl,hn.same s1,fun H' s2=>q H'<|s1.trans s2⟩
 refine .inl ⟨x,ez,a,xs,ps,rfl,au,s1 _ _ ha,cz.mono<|dc s1,az,dR,hl,fun lo ln ll H1 TR b1=>⟨rfl,?_⟩⟩;have s2:av H H1:=fun b o e=>b1 b o (s1 b o e) (aL e hx);have S1:=S.same s2;refine aY<|bo<|f_<|ah rfl ⟨x,Ct,ez,_,_,rfl,TR.ob,U.cl,U.wq,Bo,f_<|ah rfl ⟨p,C,dx,_,_,rfl,S1.ob,T.cl,T.tO,BI,BF ⟨_,rfl,iT ?_ ?_⟩⟩⟩
 ·exact⟨de,q _ s2⟩
 ·rw[zqF];rfl;intro z;exact ur (by omega)
end
def nE(P:V->Hp->Prop)(Γ:aJ)(σ:St)(e:RE):Prop:= ∀(H:Hp) (Q:VK),(∀v H',av H H'->P v H'->Q v H')->ag Γ e σ H Q
section
variable {Γ:aJ}{σ:St}{P:V->Hp->Prop}
theorem BS(st:∀v H H',P v H->av H H'->P v H'):∀(es:List RE),(∀e∈es,nE P Γ σ e)->∀(H:Hp) (Q:List V->Hp->Prop),(∀vs H',av H H'->vs.length=es.length->(∀v∈vs,P v H')->Q vs H')->aM Γ es σ H Q
 |[],_,H,Q,q=>aC (q [] H (av.refl _) rfl (fun v hv=>by cases hv))
 |e::es,h,H,Q,q=>ao (h e (.head _) H _ fun v H1 s1 o=>BS st es (fun e' dY=>h e' (.tail _ dY)) H1 _ fun vs H2 s2 ln os=>q (v::vs) H2 (s1.trans s2) (by rw[zaA,ln,zaA]) (fun w hw=>by
   rcases zab.mp hw with rfl|hw
   ·exact st _ _ _ o s2
   ·exact os w hw))
theorem gJ(h:∀H,P v H):nE P Γ σ (.c v):=fun H Q q=>ar (q v H (av.refl _)<|h H)
theorem BU(h:∀a H,H a=some (.lst [v])->P (.ref a) H):nE P Γ σ (.lst [.c v]):=fun H Q q=>cL (ao<|ar<|aC ⟨de,fun a ha=>q _ _ (sameNew ha)<|h _ _ au⟩)
theorem KU(h:∀a H,H a=some (.tup [v])->P (.ref a) H):nE P Γ σ (.tup [.c v]):=fun H Q q=>dX (ao<|ar<|aC ⟨de,fun a ha=>q _ _ (sameNew ha)<|h _ _ au⟩)
theorem KW(h:∀a H,H a=some (.dK [])->P (.ref a) H):nE P Γ σ .jf:=fun H Q q=>xl fun a ha=>q _ _ (sameNew ha) (h _ _ au)
end
section
variable {Γ:aJ}{σ:St}
theorem aaD{a x:Addr}(ha:H a=some (.lst [.ref x]))(h:nr (.ref x) H):jD (.ref a) H:=.inr ⟨a,_,rfl,ha,[],.ref x,[],[],rfl,.nil,(fun _ h=>by cases h),rfl,.inl h⟩
theorem KY{w t:V}(h:∀b H,H b=some (.tup [w,t])->nr (.ref b) H):nE jD Γ σ (.lst [.tup [.c w,.c t]]):=fun H Q q=>by
 refine cL<|ao<|dX<|ao<|ar<|ao<|ar<|aC ⟨bS,fun b hb=>aC ⟨de,fun a ha=>?_⟩⟩;have s1:=sameNew (o:=.tup [w,t]) hb;have s2:=sameNew (o:=.lst [V.ref b]) ha;exact q _ _ (s1.trans s2)<|aaD au<|h b _<|s2 _ _ au
theorem iS{b:Addr}{w t:V}(hb:H b=some (.tup [w,t]))(h:f6 .str w H\/(∃s,w=.str s/\s≠"keep"/\s≠"cut"/\s≠"put")\/(w=.str "keep"/\(gH t H\/∃n,t=.int n/\n<1))\/((w=.str "cut"\/w=.str "put")/\(rf t H\/t=.str ""))):nr (.ref b) H:=
 .inr ⟨b,_,rfl,hb,(by show 2<=1000000;decide),.inr ⟨w,t,rfl,h⟩⟩
end
end L2.N
namespace L2.B
open PySem PySem.Spec PyProof.Rows
def KZ:Sp:=fun vs H Q E=>∃(c:Int) (x:Str) (m:Int),vs=[.int c,.str x,.int m]/\good x/\x.length<=10000/\0<=m/\m<=100/\
 ∀b H' ys ps q,av H H'->H b=none->H' b=some (.lst ys)->bL H' ys ps->(∀p∈ps,gC p)->ps.length<=101->aV ps<=40*m.toNat->Run x.cps.toList ps q->Q (.ref b) H'
theorem aaE{K:Frag}(vs:List V)(H:Hp)(Q:VK)(E:XK)(h:KZ vs H Q E):aA (aH K Y0 [] (E:=E)) Gd {nx:=fun _ H'=>Q .aD H',rt:=Q} (start z7 vs) H:=by
 obtain⟨c,x,m,rfl,hx,xh,K0,K1,k⟩:=h;refine⟨zqZ _,fun b hb=>?_⟩;refine⟨_,rfl,m,rfl,by lia,by lia,DO (lo:=0) (n:=m.toNat) (fun i σ H2=>∃u v w z ys ps l1 l2 q,σ=[some (.int c),some (.str x),some (.int m),some (.ref b),some (.int ((l1.length:Nat):Int)),u,v,w,z]/\av H H2/\H2 b=some (.lst ys)/\bL H2 ys ps/\ps.length=i/\(∀p∈ps,gC p)/\
   aV ps<=40*i/\x.cps.toList=l1++l2/\Run l1 ps q)
  ⟨none,none,none,none,[],[],[],x.cps.toList,[],rfl,sameNew hb,au,.nil,rfl,(fun p hp=>by cases hp),zqR _,rfl,.nil⟩ ?_ ?_⟩
 ·rintro i σ H2 hi ⟨u,v,w,z,ys,ps,l1,l2,q,rfl,s2,uw,cz,hl,az,ht,ex,ic⟩;have hlen:=Paired.length cz;have hxx:x.length=l1.length+l2.length:=by rw[len_list,ex];simp
  refine⟨_,rfl,_,rfl,c,_,rfl,?_⟩;generalize mixed c (50+(0+(i:Int)))=nm;refine⟨C9,fun t1 lP=>?_⟩;have j0:0<=nm / 4 % 6:=zaq _ (by decide)
  have j1:nm / 4 % 6<6:=zap _ (by decide)
  obtain⟨n5,e5,n50,n51⟩:=YZ (nm / 4 % 6) j0 j1;refine⟨_,rfl,⟨by decide,by decide⟩,(by show(0:Int) <6;decide),.inl ⟨_,_,_,_,rfl,rfl,ay.of au,e5,?_⟩⟩
  have s3:av H (upd H2 t1<|.lst [.int 1,.int 2,.int 0,.int 3,.int 5,.int 40]):=s2.trans (sameNew lP);have pJ:upd H2 t1 (.lst [.int 1,.int 2,.int 0,.int 3,.int 5,.int 40]) b=some (.lst ys):=by rw[ax<|aL uw lP];exact uw
  have xp:=cz.mono (dc<|sameNew (o:=.lst [.int 1,.int 2,.int 0,.int 3,.int 5,.int 40]) lP);generalize upd H2 t1 (.lst [.int 1,.int 2,.int 0,.int 3,.int 5,.int 40])=H3 at s3 pJ xp;refine⟨_,rfl,_,rfl,bY (by lia),_,rfl,trivial,?_⟩
  obtain⟨lf,xq⟩:∃lf,lf=(if (x.length:Int) - (l1.length:Int) <n5 then (x.length:Int) - (l1.length:Int) else n5):=⟨_,rfl⟩
  have lf0:0<=lf/\lf<=40/\lf<= (l2.length:Int):=by
   rw[xq];split<;>lia
  show aA _ _ _ [some<|V.int c,some<|V.str x,some<|V.int m,some<|V.ref b,some<|V.int ((l1.length:Nat):Int),some<|V.int<|0+(i:Int),some<|V.int nm,some<|V.int n5,some<|V.int (if (x.length:Int) - (l1.length:Int) <n5 then (x.length:Int) - (l1.length:Int) else n5)] H3
  rw[<-xq];obtain⟨la,lb,e2,BV⟩:∃la lb,l2=la++lb/\lf=(la.length:Int):=⟨l2.take lf.toNat,l2.drop lf.toNat,(zby _ _).symm,by rw[zau];lia⟩
  have app:∀(p:Pt) (H4:Hp),av H H4->H4 b=some (.lst ys)->bL H4 ys ps->∀t,H4 t=none->
    upd H4 t (.tup [.str p.word,p.val]) b=some (.lst ys)/\ys.length<sizeLine/\
     av H (upd (upd H4 t<|.tup [.str p.word,p.val]) b<|.lst<|ys++[.ref t])/\bL (upd (upd H4 t<|.tup [.str p.word,p.val]) b<|.lst<|ys++[.ref t]) (ys++[.ref t]) (ps++[p]):=by
   intro p H4 s4 BW aaI t ht;have xr:b≠t:=aL BW ht;refine⟨(by rw[ax xr];exact BW),cP (by lia),Ji s4 hb<|sameBut (sameNew ht) bQ.upd,?_⟩
   refine bL.snoc (aaI.mono<|(sameBut (sameNew ht) bQ.upd).eA BW) ⟨t,rfl,?_⟩;rw[ax xr.symm,au]
  have K2:∀p,gC p->∀q∈ps++[p],gC q:=by
   intro p hp q hq;rcases zag.mp hq with z|z
   ·exact az q z
   ·rw[zaf.mp z];exact hp
  have sgl:∀c∈la,SG.cps.contains c=true:=fun c hc=>hx.2 c (by rw[ex,e2];simp[hc])
  refine⟨_,rfl,(by show(0:Int) <4;decide),_,rfl,?_⟩
  refine cx (fun h=>?_)<|fun h=>?_
  ·have h3:nm % 4=3:=by
    have:=of_decide_eq_true (show decide (V.int (nm % 4)=V.int 3)=true from by rw[<-zaO (decide _)];exact h)
    injection this
   refine⟨_,rfl,.inl ⟨rfl,_,ay.of pJ⟩,_,rfl,_,rfl,nm,n5,rfl,n50,by lia,fun y H5 gy ly s5=>⟨bS,fun t nF=>?_⟩⟩
   obtain⟨a1,a2,a3,a4⟩:=app (.put y) H5 (s3.trans s5) (s5 _ _ pJ) (xp.mono<|dc s5) t nF;refine⟨ys,a1,a2,?_⟩;refine⟨_,rfl,(by show(0:Int) <4;decide),trivial,_,rfl,iF ?_<|zqF (by lia)⟩
   have hr:=ic.app (Run.put (s:=y) Run.nil);rw[zaj,zaj] at hr;refine⟨_,_,_,_,ys++[V.ref t],ps++[Pt.put y],l1,l2,_,rfl,a3,au,a4,by simp[hl],K2 _ ⟨gy,by lia⟩,?_,ex,hr⟩
   rw[Bl];show aV ps+(y.length+0)<=_;lia
  ·have h3:nm % 4≠3:=fun z=>h (by show(false ^^ decide (V.int (nm % 4)=V.int 3))=true;rw[z];rfl)
   have h4:nm % 4<3:=by have:=zap nm (show(0:Int) <4 by decide);lia
   have fin:∀(p:Pt) (H5:Hp) (pB:List V) (q':List Nat),av H H5->H5 b=some (.lst pB)->bL H5 pB (ps++[p])->gC p->eT p<=40->Run (l1++la) (ps++[p]) q'->
     ∃u v w z ys ps jy l2 q,[some<|V.int c,some<|V.str x,some<|V.int m,some<|V.ref b,some<|V.int<|(l1.length:Int)+lf,some<|V.int<|0+(i:Int),some<|V.int nm,some<|V.int n5,some<|V.int lf]=
      [some<|.int c,some<|.str x,some<|.int m,some<|.ref b,some<|.int ((jy.length:Nat):Int),u,v,w,z]/\av H H5/\H5 b=some (.lst ys)/\bL H5 ys ps/\ps.length=i+1/\(∀p∈ps,gC p)/\
      aV ps<=40* (i+1)/\x.cps.toList=jy++l2/\Run jy ps q:=by
    intro p H5 pB q' s5 h5 hp5 rp tp hr;refine⟨some<|.int<|0+(i:Int),some<|.int nm,some<|.int n5,some<|.int lf,pB,ps++[p],l1++la,lb,q',?_,s5,h5,hp5,by simp[hl],K2 p rp,?_,by rw[ex,e2];simp,hr⟩
    ·rw[zqA,BV,zaZ]
    ·rw[Bl];have:aV [p]=eT p:=by simp[aV]
     lia
   refine⟨_,rfl,(by show(0:Int) <4;decide),_,rfl,?_⟩
   refine cx (fun h5=>?_)<|fun h5=>?_
   ·refine⟨_,rfl,.inl ⟨rfl,_,ay.of pJ⟩,_,rfl,_,rfl,_,rfl,_,rfl,_,rfl,_,rfl,bY (by lia),?_⟩
    rw[JV (by rw[ex,e2]) lf BV]
    refine⟨bS,fun t nF=>?_⟩;obtain⟨a1,a2,a3,a4⟩:=app (.cut ⟨la.toArray⟩) H3 s3 pJ xp t nF;refine⟨ys,a1,a2,?_⟩;refine⟨_,rfl,(by show(0:Int) <4;decide),trivial,_,rfl,iT ?_<|zqT h4⟩
    refine⟨_,rfl,_,rfl,?_⟩;have hr:=ic.app (Run.cut (s:=⟨la.toArray⟩) Run.nil);rw[zaj] at hr;have ll:(⟨la.toArray⟩:Str).length=la.length:=by rw[len_list]
    exact fin (.cut ⟨la.toArray⟩) _ _ _ a3 au a4 ⟨⟨by rw[ll];lia,sgl⟩,by rw[ll];lia⟩ (by show(⟨la.toArray⟩:Str).length<=40;rw[ll];lia) hr
   ·refine⟨_,rfl,.inl ⟨rfl,_,ay.of pJ⟩,_,rfl,bS,fun t nF=>?_⟩;obtain⟨a1,a2,a3,a4⟩:=app (.keep lf) H3 s3 pJ xp t nF;refine⟨ys,a1,a2,?_⟩;refine⟨_,rfl,(by show(0:Int) <4;decide),trivial,_,rfl,iT ?_<|zqT h4⟩
    refine⟨_,rfl,_,rfl,?_⟩;have hr:=ic.app (Run.keep (a:=la) BV Run.nil);rw[zaj] at hr;exact fin (.keep lf) _ _ _ a3 au a4 lf0.1 (by show 0<=40;decide) hr
 ·rintro σ H2 ⟨u,v,w,z,ys,ps,l1,l2,q,rfl,s2,uw,cz,hl,az,ht,ex,ic⟩;have hlen:=Paired.length cz;have hxx:x.length=l1.length+l2.length:=by rw[len_list,ex];simp
  refine⟨_,rfl,_,rfl,bY (by lia),_,rfl,trivial,bS,fun t nF=>⟨de,fun d hd=>?_⟩⟩
  have xr:b≠t:=aL uw nF;have lJ:upd H2 t (.tup [.str "keep",.int<|(x.length:Int) - (l1.length:Int)]) b=some (.lst ys):=by rw[ax xr];exact uw
  have tu:b≠d:=aL lJ hd;have K3:t≠d:=fun z=>by rw[<-z,au] at hd;cases hd
  have s4:av H2 (upd (upd H2 t<|.tup [.str "keep",.int<|(x.length:Int) - (l1.length:Int)]) d<|.lst [.ref t]):=(sameNew nF).trans (sameNew hd);refine .inl ⟨b,d,ys,[.ref t],rfl,rfl,(by rw[ax tu];exact lJ),au,bY (by simp;lia),fun e he=>?_⟩
  have s5:=s4.trans (sameNew (o:=.lst (ys++[.ref t])) he);have he2:H2 e=none:=s4.free he;have hr:=ic.app (Run.keep (a:=l2) (n:=(x.length:Int) - (l1.length:Int)) (by lia) Run.nil)
  rw[zaj,<-ex] at hr;have hte:t≠e:=fun z=>by rw[<-z,ax K3,au] at he;cases he
  refine k e _ (ys++[.ref t]) (ps++[.keep<|(x.length:Int) - (l1.length:Int)]) _ (s2.trans s5) (s2.free he2) au (bL.snoc (cz.mono<|dc s5) ⟨t,rfl,?_⟩) ?_ (by simp;lia) ?_ hr
  ·rw[ax hte,ax K3,au];rfl
  ·intro p hp;rcases zag.mp hp with z|z
   ·exact az p z
   ·rw[zaf.mp z];show(0:Int)<=_;lia
  ·rw[Bl];show aV ps+(0+0)<=40*m.toNat;lia
abbrev aaN:List (Str×Sp):=[("_law_neat",Jv),("_law_parts",KZ)]
def BX:Sp:=fun vs H Q E=>∃(c:Int) (x:Str) (m:Int),vs=[.int c,.str x,.int m]/\good x/\x.length<=10000/\0<=m/\m<=100/\
 ∀b H' ys ps q,av H H'->H b=none->H' b=some (.lst ys)->bL H' ys ps->(∀p∈ps,gA p)->chainOk "" ps=true->ps.length<=305->aV ps<=40*m.toNat->Run x.cps.toList ps q->Q (.ref b) H'
theorem aaO{K:Frag}(vs:List V)(H:Hp)(Q:VK)(E:XK)(h:BX vs H Q E):aA (aH K aaN [] (E:=E)) Gg {nx:=fun _ H'=>Q .aD H',rt:=Q} (start Gf vs) H:=by
 obtain⟨c,x,m,rfl,hx,xh,K0,K1,k⟩:=h;refine⟨_,rfl,_,rfl,_,rfl,c,x,m,rfl,hx,xh,K0,K1,fun b H1 ys ps q s1 fb h1 hp hr hl ht ic=>?_⟩;refine⟨b,ys,ps,rfl,h1,hp,by lia,by lia,fun d H2 zs s2 fd h2 hz=>?_⟩
 obtain⟨g1,g2,_⟩:=YL ps hr (by lia)
 have kR:=YM ps;rw[YG ps hr] at kR;exact k d H2 zs (j9 ps) q (s1.trans s2) (s1.free fd) h2 hz g2 g1 (by lia) (by rw[Y1 ps hr];exact ht)<|YX ic
end L2.B
namespace L2.N
open PySem PySem.Spec PyProof.Rows L2.B
end L2.N
namespace L2.B
open PySem PySem.Spec PyProof.Rows
end L2.B
namespace L2.N
open PySem PySem.Spec PyProof.Rows L2.B
end L2.N
namespace L2.N
open PySem PySem.Spec L2.B
section
variable {K:Frag}
end
section
variable {K:Frag}
end
section
variable {Γ:aJ}{σ:St}{n:Nat}{H0:Hp}
theorem aaP{lo:RE}(h:ag Γ a σ H fun x H1=>ag Γ lo σ H1 fun j H3=>∃j':Int,j=.int j'/\qB Γ.K x (some j') none H3 Q):ag Γ (.sl a (some lo) none) σ H Q:=h
end
section
variable {K:Frag}{CP C CE CD:Addr}
end
theorem aaQ{l r:List Nat}(h:Run l ps r):bq ps=l.length:=by
 induction h with
 |nil=>rfl
 | @keep a l r k ps e _ ih=>show k.toNat+bq ps=_;rw[ih,zqA];omega
 |put _ ih=>exact ih
 | @cut s l r ps _ ih=>show s.length+bq ps=_;rw[ih,zqA,len_list]
section
variable {K:Frag}{M:List Addr}{C:Addr}{H H':Hp}{p dx d rw n:Nat}{rs:List Sd}
end
section
variable {Γ:aJ}{D:Ends}{σ:St}{H:Hp}{r:List RS}{Q:VK}
theorem aaR{l:Addr}{ys:List V}(e:σ[i]?=some (some<|.ref l))(hl:H l=some (.lst ys))(h:aA Γ r D σ (upd H l<|.lst [])):aA Γ (.drop (.dn .clear (.v i) [])::r) D σ H:=
 ⟨_,e,.inl ⟨rfl,_,ay.of hl⟩,ys,hl,h⟩
theorem xu(h:ag Γ e σ H fun v H1=>aA Γ r D (σ.set i<|some v) H1):aA Γ (.jS i e::r) D σ H:=h
theorem aaS{hi:RE}(h:ag Γ a σ H fun x H1=>ag Γ hi σ H1 fun j H3=>∃j':Int,j=.int j'/\qB Γ.K x none (some j') H3 Q):ag Γ (.sl a none<|some hi) σ H Q:=h
end
section
variable {M:List Addr}{C:Addr}{H H':Hp}{p dx d rw n:Nat}{rs:List Sd}
theorem aaT{l r:List Nat}(h:Run l ps r):br ps=r.length:=by
 induction h with
 |nil=>rfl
 | @keep a l r k ps e _ ih=>show k.toNat+br ps=_;rw[ih,zqA];omega
 | @put s l r ps _ ih=>show s.length+br ps=_;rw[ih,zqA,len_list]
 |cut _ ih=>exact ih
end
end L2.N
namespace L2.N
open PySem PySem.Spec
end L2.N
namespace L2.N
open PySem PySem.Spec L2.B
section
variable {K:Frag}
theorem K4{T:Ty}{z:Str}{k:Bool->Prop}(q:k (T==.str)):bG T (.str z) H k:=q
end
section
variable {K:Frag}{C CN:Addr}
theorem aaU{QQ:List V->Hp->Addr->Prop}{te:TE}{tc:TT}{fv:List (Str×Nat)}{lo:Int}(f:Nat->Bool)(hl:n<=1000000)
  (cnd:∀(i:Nat) (k:Bool->Hp->Prop),i<n->k (f i) H->tc (some (.int<|lo+i)::cf σ fv) H k) (elt:∀(x:V) (k:VK),k x H->te (some x::cf σ fv) H k)
  (fin:∀p,H p=none->QQ (((List.range n).filter f).map fun i=>V.int (lo+(i:Nat))) H p):∃W:Nat->Nat->List V->Hp->Prop,(∃m,W 0 m [] H)/\∀i m ys H2,W i m ys H2->
   ((fI lo n).stop i H2/\∀p,H2 p=none->QQ ys H2 p)\/
   ((fI lo n).go i H2/\∀x H3,(fI lo n).gL i H2 x H3->jd K none x H3 fun zs=>kY (some tc) (zs.map some++cf σ fv) H3 fun b H5=>
    if b=true then te (zs.map some++cf σ fv) H5 fun y H6=>ys.length<sizeLine/\∃m',m'<m/\W (i+1) m' (ys++[y]) H6 else ∃m',m'<m/\W (i+1) m' ys H5):=by
 refine⟨fun i m ys H2=>m=n - i/\i<=n/\ys=((List.range i).filter f).map (fun i=>V.int<|lo+(i:Nat))/\H2=H,⟨_,rfl,zqZ _,rfl,rfl⟩,?_⟩;rintro i m ys H2 ⟨rfl,hi,rfl,rfl⟩;by_cases aG:i<n
 ·refine .inr ⟨aG,?_⟩;rintro x H3 ⟨rfl,rfl⟩;have et:((List.range<|i+1).filter f)=(List.range i).filter f++[i].filter f:=by rw[List.range_succ,zbw]
  refine cnd i _ aG ?_;cases hf:f i with
  |true=>
   refine iT ?_ rfl;refine elt _ _ ⟨cP ?_,n - (i+1),by lia,rfl,aG,?_,rfl⟩
   ·have:=zaE f (List.range i);rw[zbu] at this;rw[zaa];lia
   ·rw[et];simp[hf]
  |false=>
   refine iF ⟨n - (i+1),by lia,rfl,aG,?_,rfl⟩ rfl
   rw[et];simp[hf]
 ·have dq:i=n:=by lia
  subst dq;exact .inl ⟨zqR _,fun q hq=>fin q hq⟩
end
end L2.N
namespace L2.bA
open PySem PySem.Spec L2.B L2.N
abbrev Row:=Nat×Nat×Nat×Bool
def fD(g:Bool):Str:=if g then "left" else "right"
def fE(g:Bool):Str:=if g then "right" else "left"
theorem K5(g:Bool):fD g="left"\/fD g="right":=by cases g;exact .inr rfl;exact .inl rfl
theorem K6(g:Bool):fE g="left"\/fE g="right":=by cases g;exact .inl rfl;exact .inr rfl
abbrev eR(R:List Row):List Ent:=R.map fun r=>(r.1,[(r.2.1,fD r.2.2.2),(r.2.2.1,fE r.2.2.2)])
theorem aaW(R:List Row):(eR R).map (·.1)=R.map (·.1):=by rw[zaB];rfl
theorem K7{R:List Row}{r:Row}(h:R[i]?=some r):(eR R)[i]?=some (r.1,[(r.2.1,fD r.2.2.2),(r.2.2.1,fE r.2.2.2)]):=by rw[zai,h];rfl
def lo(r:Row):Nat:=min r.2.1 r.2.2.1
def hi(r:Row):Nat:=r.2.2.1
section
variable {K:Frag}{M:List Addr}{C:Addr}{H H':Hp}{p dx d:Addr}{n g:Nat}{kvs:List (Key×V)}{es:List Ent}
theorem bZ{m:Str}{g:Nat}{d:Addr}(h:(¬m="signs"/\ ¬m="given")/\ ¬m="stands":=by decide+kernel):(s3 n g d).lookup m=none:=Z_ h.1.1 h.1.2 h.2
theorem K8(k:Nat):∀{kvs:List (Key×V)}{es:List Ent},Paired (il M H) kvs es->Paired (il M H) (fN kvs<|.inl (k:Nat)) (es.filter fun x=>decide (x.1≠k))
 |[],[],_=>.nil
 |kv::kvs,e::es,.cons a r=>by
  have ih:=K8 k r;obtain⟨l,xs,e1,e2⟩:=id a;unfold fN at ih⊢;by_cases hk:e.1=k
  ·rw[zaR (by rw[e1];simp[hk]),zaR (by simp[hk])];exact ih
  ·rw[zaQ (by rw[e1];simp;lia),zaQ (by simp[hk])];exact .cons a ih
theorem K9(h:ag Γ o σ H fun x H1=>∃d,x=.ref d/\vy H1 d/\ag Γ a σ H1 fun y H2=>GY d [y] H2 Q):ag Γ (.xm wy o [a]) σ H Q:=h
def BY(C:Addr):Sp:=fun vs H Q E=>∃(M:List Addr) (p dx d:Addr) (n g i:Nat) (kvs:List (Key×V)) (es:List Ent) (e:Ent),vs=[.ref p,.int (e.1:Nat)]/\bp M C H p dx d n g kvs es/\es[i]?=some e/\
 ∀cA H',bp M C H' p dx d n g cA (es.filter fun x=>decide (x.1≠e.1))->bQ d H H'->Q .aD H'
theorem aaX(T:jm K C):bE (BY C) (fun E=>aH K [] [] [] [("stand",C,um C)] (E:=E)) AI qR:=by
 intro vs H Q E h;obtain⟨M,p,dx,d,n,g,i,kvs,es,e,rfl,S,he,k⟩:=h;obtain⟨l,xs,v1,v2,v3,v4⟩:=uk S.kv S.up he;refine f9<|eK C (um C) rfl<|ah rfl ⟨p,dx,_,rfl,S.ob,bZ,ah rfl ⟨M,p,dx,d,n,g,i,kvs,es,e,rfl,S,he,fun _ _ _ _=>?_⟩⟩;refine f9<|K9<|f_<|ah rfl ⟨p,C,dx,_,_,rfl,S.ob,T.cl,T.j5,lT,d,rfl,.inl ⟨kvs,.inl S.st⟩,ah rfl ⟨kvs,.inl ((e.1:Nat):Int),_,S.st,rfl,v2,?_⟩⟩;have b1:bQ d H (upd H d<|.dK<|fN kvs<|.inl ((e.1:Nat):Int)):=bQ.upd;have ip:=S.ne;refine k _ _ ⟨b1 _ _ S.ob ip,au,?_,?_,fun x hx=>S.lt x (zaV.mp hx).1,fun x hx=>S.pl x (zaV.mp hx).1,nC S.al⟩ b1
 ·exact K8 _ (S.ent fun b o e _ n2=>b1 _ _ e n2)
 ·have:=S.up;rw[List.pairwise_map] at this⊢;exact this.filter _
theorem xv{a b:Nat}(h:Q (.int ((min a b:Nat):Int)) H):g_ K .min [.int (a:Nat),.int (b:Nat)] H Q:=by
 show Q (.int (if (b:Int) < (a:Int) then (b:Int) else (a:Int))) H
 rw[show(if (b:Int) < (a:Int) then (b:Int) else (a:Int))=((min a b:Nat):Int) by split<;>lia]
 exact h
theorem sd2{q r:Sd}(h:Paired (gI H) xs [q,r]):∃t u,xs=[.ref t,.ref u]/\H t=some (.tup [.int (q.1:Nat),.str q.2])/\H u=some (.tup [.int (r.1:Nat),.str r.2]):=by
 cases h with
 |cons a h=>
  cases h with
  |cons b h=>
   cases h;obtain⟨t,rfl,ht⟩:=a;obtain⟨u,rfl,hu⟩:=b;exact⟨t,u,rfl,ht,hu⟩
def ke(C:Addr):Sp:=fun vs H Q E=>∃(M:List Addr) (p dx d:Addr) (n g i:Nat) (kvs:List (Key×V)) (R:List Row) (r:Row),vs=[.ref p,.int (r.1:Nat)]/\bp M C H p dx d n g kvs (eR R)/\R[i]?=some r/\∀t,H t=none->Q (.ref t) (upd H t<|.tup [.int (lo r:Nat),.int (hi r:Nat)])
theorem aaZ:bE (ke C) (fun E=>aH K [] [] [] [("stand",C,um C)] (E:=E)) AM AL:=by
 intro vs H Q E h;obtain⟨M,p,dx,d,n,g,i,kvs,R,r,rfl,S,hr,k⟩:=h;refine bD<|eK C (um C) rfl<|ah rfl ⟨p,dx,_,rfl,S.ob,bZ,ah rfl ⟨M,p,dx,d,n,g,i,kvs,eR R,_,rfl,S,K7 hr,fun l xs hl hs=>?_⟩⟩;obtain⟨t,u,rfl,ht,hu⟩:=sd2 hs;refine bD<|bR<|bR<|ah rfl<|ar<|bC hl rfl<|ar<|ig hu rfl ?_;refine cE<|dX<|ao<|Kt<|ao<|bR<|bR<|ah rfl<|ar<|bC hl rfl<|ar<|ig ht rfl<|ao<|ah rfl<|aC<|xv<|ao<|ah rfl<|aC ⟨bS,fun t ft=>k t ft⟩
theorem xx{c b:RE}(h:aU Γ c σ H fun t H1=>if t=true then ag Γ a σ H1 Q else ag Γ b σ H1 Q):ag Γ (.jR c a b) σ H Q:=h
def lU:Sp:=fun vs H Q E=>∃v,vs=[v]/\((∃b,v=.bl b/\Q (.bl true) H)\/((∀b,v≠ .bl b)/\Q (.bl false) H))
def ux(C:Addr):Sp:=fun vs H Q E=>∃(M:List Addr) (p dx d:Addr) (n g b e:Nat) (w:Bool) (kvs:List (Key×V)) (R:List Row),vs=[.ref p,.int (b:Nat),.int (e:Nat),.bl w]/\bp M C H p dx d n g kvs (eR R)/\R.length<=1000/\b<=e/\e<=n/\
 ∀cA H',bp M C H' p dx d n (g+1) cA (eR<|R++[(g,b,e,w)])->pG p d H H'->Q (.int (g:Nat)) H'
theorem aa0{CP CS:Addr}:bE (ux C) (fun E=>aH K [("is_between",fA),("is_truth",lU)] [] [] [("size",C,iX C),("keep",C,rz C)] (et:=[("NoPlace",CP),("BadSide",CS)]) (E:=E)) AK AJ:=by
 intro vs H Q E h;obtain⟨M,p,dx,d,n,g,b,e,w,kvs,R,rfl,S,ll,i7,xy,k⟩:=h;have sz:∀{σ:St}{Q1:VK},σ[0]?=some (some<|.ref p)->Q1 (.int (n:Nat)) H->ag (aH K [("is_between",fA),("is_truth",lU)] [] [] [("size",C,iX C),("keep",C,rz C)] (et:=[("NoPlace",CP),("BadSide",CS)]) (E:=E)) (.bc 0 "size" (.v 0) []) σ H Q1:=fun e0 q=>
  iW C (iX C) rfl (ah e0 ⟨p,dx,_,rfl,S.ob,bZ,M,p,dx,d,n,g,kvs,_,rfl,S,q⟩)
 refine aY<|gb<|cG<|dB fA rfl<|ao<|ah rfl<|ao<|ar<|ao<|sz rfl<|aC ⟨_,_,_,rfl,.inl ⟨_,rfl,by lia,by lia,cQ<|iF ?_ rfl⟩⟩
 refine cG<|dB fA rfl<|ao<|ah rfl<|ao<|ah rfl<|ao<|sz rfl<|aC ⟨_,_,_,rfl,.inl ⟨_,rfl,by lia,by lia,cQ<|iF (cR ?_) rfl⟩⟩
 refine aY<|cG<|dB lU rfl<|ao<|ah rfl<|aC ⟨_,rfl,.inl ⟨w,rfl,cQ<|iF (cR ?_) rfl⟩⟩;have sB:∀{Γ:aJ}{σ:St}{H1:Hp}{Q1:VK},σ[3]?=some (some<|.bl w)->Q1 (.str<|fD w) H1->ag Γ (.jR (.v 3) (.c<|.str "left")<|.c<|.str "right") σ H1 Q1:=fun h0 q=>by
  cases w
  ·exact xx ⟨_,h0,cQ<|iF (ar q) (by decide)⟩
  ·exact xx ⟨_,h0,cQ<|iT (ar q) rfl⟩
 have sE:∀{Γ:aJ}{σ:St}{H1:Hp}{Q1:VK},σ[3]?=some (some<|.bl w)->Q1 (.str<|fE w) H1->ag Γ (.jR (.v 3) (.c<|.str "right")<|.c<|.str "left") σ H1 Q1:=fun h0 q=>by
  cases w
  ·exact xx ⟨_,h0,cQ<|iF (ar q) (by decide)⟩
  ·exact xx ⟨_,h0,cQ<|iT (ar q) rfl⟩
 refine cE<|eK C (rz C) rfl<|ah rfl ⟨p,dx,_,rfl,S.ob,bZ,cL<|ao<|dX<|ao<|ah rfl<|ao<|sB rfl<|aC ⟨bS,fun t ft=>?_⟩⟩;have s1:=sameNew (o:=.tup [V.int (b:Nat),V.str<|fD w]) ft;have ht:upd H t (.tup [V.int (b:Nat),V.str<|fD w]) t=some (.tup [V.int (b:Nat),V.str<|fD w]):=au;generalize upd H t (.tup [V.int (b:Nat),V.str<|fD w])=H1 at s1 ht⊢;refine ao<|dX<|ao<|ah rfl<|ao<|sE rfl<|aC ⟨bS,fun u fu=>?_⟩;have s2:=sameNew (o:=.tup [V.int (e:Nat),V.str<|fE w]) fu;have hu:upd H1 u (.tup [V.int (e:Nat),V.str<|fE w]) u=some (.tup [V.int (e:Nat),V.str<|fE w]):=au;generalize upd H1 u (.tup [V.int (e:Nat),V.str<|fE w])=H2 at s2 hu⊢;refine aC ⟨bS,fun l fl=>?_⟩;have s3:=sameNew (o:=.lst [V.ref t,V.ref u]) fl;have eW:=s1.trans s2;refine⟨M,p,dx,d,l,n,g,kvs,eR R,[.ref t,.ref u],[(b,fD w),(e,fE w)],rfl,S.same<|eW.trans s3,au,.cons ⟨t,rfl,s3 _ _<|s2 _ _ ht⟩<|.cons ⟨u,rfl,s3 _ _ hu⟩ .nil,(fun hm=>by obtain⟨o,z⟩:=(S.same eW).al l hm;rw[fl] at z;cases z),by rw[zaa];exact ll,fun q hq=>?_,fun H' S' b'=>k _ H' (by rw[eR,zat];exact S') fun b o e n1 n2=>b' _ _ (s3 _ _<|eW _ _ e) n1 n2⟩
 rcases zab.mp hq with rfl|hq
 ·exact⟨by show b<=n;lia,K5 w⟩
 ·rw[zaf.mp hq];exact⟨xy,K6 w⟩
end
section
variable {K:Frag}{M:List Addr}{C:Addr}{H H':Hp}{p dx d:Addr}{n g:Nat}{kvs:List (Key×V)}{es:List Ent}
theorem aa1:bE (L2.bA.lU) (fun E=>aH K [] [] (E:=E)) Ad iL:=by
 intro vs H Q E h;obtain⟨v,rfl,h⟩:=h;rcases h with⟨b,rfl,q⟩|⟨hv,q⟩
 ·exact L2.N.aar _ _ _ _ ⟨b,rfl,q⟩
 ·refine cE (KL<|iU<|ah rfl<|ar ?_);show ∃c,V.bl (decide<|v=V.bl true)=.bl c/\_;refine⟨_,rfl,iF (iU<|ah rfl<|ar ?_)<|zqF<|hv true⟩;show Q (V.bl<|decide<|v=V.bl false) H;rw[zqF<|hv false];exact q
def fF(pl:Nat)(r:Row):Bool:=decide (lo r<=pl) && decide (pl<hi r)
def cq(R:List Row)(pl:Nat):List V:=(R.filter<|fF pl).map fun r=>V.int ((r.1:Nat):Int)
abbrev mA(C:Addr):List (Str×Addr×Sp):=[("size",C,iX C),("numbers",C,kd C),("told",C,ke C)]
def nG(C:Addr):Sp:=fun vs H Q E=>∃(M:List Addr) (p dx d:Addr) (n g pl:Nat) (kvs:List (Key×V)) (R:List Row),vs=[.ref p,.int (pl:Nat)]/\bp M C H p dx d n g kvs (eR R)/\R.length<64/\pl<n/\
 ∀l H',av H H'->H l=none->H' l=some (.lst<|cq R pl)->Q (.ref l) H'
theorem BZ{fv:List (Str×Nat)}{x elt c:RE}(h:ag Γ x σ H fun v H1=>∃a,v=.ref a/\(∃xs,ay Γ.K H1 a xs)/\∃W:Nat->Nat->List V->Hp->Prop,(∃m,W 0 m [] H1)/\∀i m ys H2,W i m ys H2->
   ((eO Γ.K a).stop i H2/\∀p,H2 p=none->Q (.ref p) (upd H2 p<|.lst ys))\/
   ((eO Γ.K a).go i H2/\∀x H3,(eO Γ.K a).gL i H2 x H3->jd Γ.K none x H3 fun zs=>kY (some (aU Γ.calm c)) (zs.map some++cf σ fv) H3 fun b H5=>
    if b=true then ag Γ.calm elt (zs.map some++cf σ fv) H5 fun y H6=>ys.length<sizeLine/\∃m',m'<m/\W (i+1) m' (ys++[y]) H6 else ∃m',m'<m/\W (i+1) m' ys H5)):ag Γ (.comp none fv .list [x] (some c) elt) σ H Q:=pF (x:=x) _ _ (fun _ _=>Iff.rfl) h
theorem aa2{CP:Addr}:bE (nG C) (fun E=>aH K [("is_between",fA)] [] [] (mA C) (et:=[("NoPlace",CP)]) (E:=E)) AO AN:=by
 intro vs H Q E h;obtain⟨M,p,dx,d,n,g,pl,kvs,R,rfl,S,dG,gg,k⟩:=h;refine aY<|cG<|dB fA rfl<|ao<|ah rfl<|ao<|ar<|ao<|aS<|iW C (iX C) rfl<|ah rfl ⟨p,dx,_,rfl,S.ob,bZ,M,p,dx,d,n,g,kvs,_,rfl,S,ar<|pH<|aC ⟨_,_,_,rfl,.inl ⟨_,rfl,by lia,by lia,cQ<|iF (cR ?_) rfl⟩⟩⟩
 refine cE<|BZ<|iW C (kd C) rfl<|ah rfl ⟨p,dx,_,rfl,S.ob,bZ,M,p,dx,d,n,g,kvs,_,rfl,S,by rw[zaa];exact dG,fun l fl=>?_⟩
 have s1:=sameNew (o:=.lst (((eR R).map fun e=>((e.1:Nat):Int)).map V.int)) fl;have ck:upd H l (.lst<|((eR R).map fun e=>((e.1:Nat):Int)).map V.int) l=some (.lst<|R.map fun r=>V.int ((r.1:Nat):Int)):=by rw[au,zaB,zaB];rfl
 generalize upd H l (.lst<|((eR R).map fun e=>((e.1:Nat):Int)).map V.int)=H1 at s1 ck⊢;refine⟨l,rfl,⟨_,ay.of ck⟩,fun i m ys H2=>m=R.length - i/\i<=R.length/\av H1 H2/\ys=cq (R.take i) pl,⟨_,rfl,zqZ _,av.refl _,rfl⟩,?_⟩;rintro i m ys H2 ⟨rfl,hi,s2,rfl⟩;have eW:=s1.trans s2;by_cases aG:i<R.length
 ·refine .inr ⟨⟨_,V.int ((R[i].1:Nat):Int),ay.of<|s2 _ _ ck,by simp[aG]⟩,?_⟩
  rintro y H3 ⟨rfl,hx⟩;have hy:=hx _ (ay.of<|s2 _ _ ck);have hr:R[i]?=some R[i]:=by simp[aG]
  rw[zai,hr] at hy;cases hy;generalize R[i]=r at hr;have et:cq (R.take<|i+1) pl=cq (R.take i) pl++cq [r] pl:=by unfold cq;rw[pI hr,zbw,zat]
  have hle:(cq (R.take i) pl).length<=R.length:=by
   have h2:=zaE (fF pl) (R.take i);rw[zau] at h2;unfold cq;rw[zaa];lia
  have tl:∀{Γ:aJ}{H4:Hp}{Q1:VK},Γ.ms 2=(C,ke C)->av H H4->(∀t,H4 t=none->Q1 (.ref t) (upd H4 t<|.tup [.int (lo r:Nat),.int (L2.bA.hi r:Nat)]))->ag Γ (.bc 2 "told" (.v 2) [.v 0]) [some<|.int ((r.1:Nat):Int),some<|.int (pl:Nat),some<|.ref p] H4 Q1:=fun hm s q=>
   eK C (ke C) hm (ah rfl ⟨p,dx,_,rfl,(S.same s).ob,bZ,ah rfl ⟨M,p,dx,d,n,g,i,kvs,R,r,rfl,S.same s,hr,q⟩⟩)
  have no:∀{H5:Hp},av H1 H5->fF pl r=false->∃m',m'<R.length - i/\m'=R.length - (i+1)/\i+1<=R.length/\av H1 H5/\cq (R.take i) pl=cq (R.take<|i+1) pl:=fun s h=>⟨_,by lia,rfl,aG,s,by rw[et,show cq [r] pl=[] by unfold cq;rw[zaR (by rw[h];decide)];rfl,zaj]⟩
  refine KO<|KN<|bR<|tl rfl eW fun t ft=>ar (ig au rfl<|ah rfl ⟨trivial,_,rfl,cx (fun h1=>?_)<|fun h1=>?_⟩)
  ·have s3:=s2.trans (sameNew (o:=.tup [.int (lo r:Nat),.int (L2.bA.hi r:Nat)]) ft);refine bR<|tl rfl (s1.trans s3) fun u fu=>ar (ig au rfl ⟨trivial,_,rfl,cx (fun h2=>?_)<|fun h2=>?_⟩)
   ·refine ah rfl ⟨cP (by lia),_,by lia,rfl,aG,s3.trans<|sameNew fu,?_⟩
    have nv:((lo r:Nat):Int)<= (pl:Int):=of_decide_eq_true h1;have B0:(pl:Int) < ((L2.bA.hi r:Nat):Int):=of_decide_eq_true h2;rw[et,show cq [r] pl=[V.int ((r.1:Nat):Int)] by unfold cq;rw[zaQ (by unfold fF;rw[zqT (by lia),zqT (by lia)];rfl)];rfl]
   ·have B0:¬(pl:Int) < ((L2.bA.hi r:Nat):Int):=fun z=>h2 (zqT z);exact no (s3.trans<|sameNew fu) (by unfold fF;rw[zqF (show ¬pl<L2.bA.hi r by lia),zbt])
  ·have nv:¬((lo r:Nat):Int)<= (pl:Int):=fun z=>h1 (zqT z);exact⟨_,rfl,iF (no (s2.trans<|sameNew ft) (by unfold fF;rw[zqF (show ¬lo r<=pl by lia),zbm])) rfl⟩
 ·have dq:i=R.length:=by lia
  subst dq;refine .inl ⟨⟨_,ay.of<|s2 _ _ ck,by rw[zaa];lia⟩,fun a fa=>?_⟩
  rw[zaG];exact k a _ (eW.trans<|sameNew fa) (eW.free fa) au
end
section
variable {K:Frag}{M:List Addr}{C:Addr}{H H':Hp}{p dx d:Addr}{n g:Nat}{kvs:List (Key×V)}{es:List Ent}{Γ:aJ}{σ:St}{Q:VK}
def nH(H:Hp)(v:V)(t:Nat×Nat):Prop:= ∃a,v=.ref a/\H a=some (.tup [.int (t.1:Nat),.int (t.2:Nat)])
theorem nH.mono(s:av H H'){t:Nat×Nat}(h:nH H v t):nH H' v t:=by
 obtain⟨a,e,h⟩:=h;exact⟨a,e,s _ _ h⟩
theorem xB(s:av H H'){ts:List (Nat×Nat)}(h:Paired (nH H) vs ts):Paired (nH H') vs ts:=Paired.b9 h fun _ _ z=>z.mono s
theorem rB{α β:Type}{R:α->β->Prop}:∀{xs:List α}{ys:List β},Paired R xs ys->∀{i:Nat}{x:α},xs[i]?=some x->∃y,ys[i]?=some y/\R x y
 |[],[],_,i,x,h=>by simp at h
 |_::_,_::_,.cons a r,0,x,h=>by cases h;exact⟨_,rfl,a⟩
 |_::_,_::_,.cons a r,i+1,x,h=>rB r (i:=i) h
theorem K_{a b:Addr}{ys:List V}(ha:H a=some (.lst xs))(hb:H b=some (.lst ys))(hl:xs.length+ys.length<=1000000)(q:∀c,H c=none->Q (.ref c) (upd H c<|.lst<|xs++ys)):iD K .Add (.ref a) (.ref b) H Q:=
 .inl ⟨a,b,xs,ys,rfl,rfl,ha,hb,bY hl,q⟩
theorem La{x:RE}(j:Int)(f:Nat×Nat->Nat)(hf:∀t:Nat×Nat,dC [V.int (t.1:Nat),V.int (t.2:Nat)] j=some (V.int (f t:Nat))){a:Addr}{zs:List V}{us:List (Nat×Nat)}(ha:H a=some (.lst zs))(hp:Paired (nH H) zs us)(hl:us.length<=1000)(hx:∀Q:VK,Q (.ref a) H->ag Γ x σ H Q)
  (q:∀l,H l=none->Q (.ref l) (upd H l<|.lst<|(us.map fun t=>((f t:Nat):Int)).map V.int)):ag Γ (.comp none [] .list [x] none<|.ix (.v 0)<|.c<|.int j) σ H Q:=by
 have lz:=Paired.length hp;refine BG<|hx _ ⟨a,rfl,⟨_,ay.of ha⟩,fun i m ys H2=>m=us.length - i/\i<=us.length/\ys=((us.take i).map fun t=>((f t:Nat):Int)).map V.int/\H2=H,⟨_,rfl,zqZ _,rfl,rfl⟩,?_⟩;rintro i m ys H2 ⟨rfl,hi,rfl,rfl⟩;by_cases aG:i<us.length
 ·refine .inr ⟨⟨zs,zs[i],ay.of ha,by simp[lz,aG]⟩,?_⟩
  rintro y H3 ⟨rfl,hx⟩;obtain⟨t,ht,b,rfl,hb⟩:=rB hp (hx zs<|ay.of ha);refine bR<|ah rfl<|ar<|ig hb (hf t) ⟨cP ?_,us.length - (i+1),by lia,rfl,aG,?_,rfl⟩
  ·rw[zaa,zaa,zau];lia
  ·rw[pI ht,zat,zat];rfl
 ·have dq:i=us.length:=by lia
  subst dq;refine .inl ⟨⟨zs,ay.of ha,by lia⟩,fun l hl=>?_⟩
  rw[zaG];exact q l hl
def tw(r:Row):Nat×Nat:=(lo r,L2.bA.hi r)
def lV(t:Nat×Nat):Bool:=decide (t.1<t.2)
def full(R:List Row):List (Nat×Nat):=(R.map tw).filter lV
def bd(R:List Row):List Int:=(full R).map (fun t=>((t.1:Nat):Int))++(full R).map fun t=>((t.2:Nat):Int)
theorem aa3(h:ag Γ a σ H fun x H1=>wI Γ.K [x] H1 Q):ag Γ (.xt AH [a]) σ H Q:=h
def uz(C:Addr):Sp:=fun vs H Q E=>∃(M:List Addr) (p dx d:Addr) (n g:Nat) (kvs:List (Key×V)) (R:List Row),vs=[.ref p]/\bp M C H p dx d n g kvs (eR R)/\R.length<32/\
 ∀l H' (ms:List Int),av H H'->H l=none->H' l=some (.lst<|ms.map V.int)->ms.Nodup->(∀k,k∈ms↔k∈bd R)->ms.Pairwise (· <= ·)->Q (.ref l) H'
abbrev mB(C:Addr):List (Str×Addr×Sp):=[("numbers",C,kd C),("told",C,ke C)]
theorem aa4:bE (uz C) (fun E=>aH K [] [] [] (mB C) (E:=E)) Ij Ii:=by
 intro vs H Q E h;obtain⟨M,p,dx,d,n,g,kvs,R,rfl,S,nJ,k⟩:=h;refine xu<|BG<|iW C (kd C) rfl<|ah rfl ⟨p,dx,_,rfl,S.ob,bZ,M,p,dx,d,n,g,kvs,_,rfl,S,by rw[zaa];lia,fun l fl=>?_⟩
 have s1:=sameNew (o:=.lst (((eR R).map fun e=>((e.1:Nat):Int)).map V.int)) fl;have ck:upd H l (.lst<|((eR R).map fun e=>((e.1:Nat):Int)).map V.int) l=some (.lst<|R.map fun r=>V.int ((r.1:Nat):Int)):=by rw[au,zaB,zaB];rfl
 generalize upd H l (.lst<|((eR R).map fun e=>((e.1:Nat):Int)).map V.int)=H1 at s1 ck⊢;refine⟨l,rfl,⟨_,ay.of ck⟩,fun i m ys H2=>m=R.length - i/\i<=R.length/\av H1 H2/\Paired (nH H2) ys ((R.take i).map tw),⟨_,rfl,zqZ _,av.refl _,.nil⟩,?_⟩;rintro i m ys H2 ⟨rfl,hi,s2,hp⟩;have eW:=s1.trans s2;by_cases aG:i<R.length
 ·refine .inr ⟨⟨_,V.int ((R[i].1:Nat):Int),ay.of<|s2 _ _ ck,by simp[aG]⟩,?_⟩
  rintro y H3 ⟨rfl,hx⟩;have hy:=hx _ (ay.of<|s2 _ _ ck);have hr:R[i]?=some R[i]:=by simp[aG]
  rw[zai,hr] at hy;cases hy;generalize R[i]=r at hr;refine eK C (ke C) rfl<|ah rfl ⟨p,dx,_,rfl,(S.same eW).ob,bZ,ah rfl ⟨M,p,dx,d,n,g,i,kvs,R,r,rfl,S.same eW,hr,fun t ft=>?_⟩⟩;have s3:=sameNew (o:=.tup [.int (lo r:Nat),.int (L2.bA.hi r:Nat)]) ft;have hle:=Paired.length hp;rw[zaa,zau] at hle;refine⟨cP (by lia),_,by lia,rfl,aG,s2.trans s3,?_⟩
  rw[pI hr,zat];exact Paired.snoc (xB s3 hp) ⟨t,rfl,au⟩
 have dq:i=R.length:=by lia
 subst dq;refine .inl ⟨⟨_,ay.of<|s2 _ _ ck,by rw[zaa];lia⟩,fun a fa=>?_⟩
 rw[zaG] at hp;have s3:=sameNew (o:=.lst ys) fa;have ha:upd H2 a (.lst ys) a=some (.lst ys):=au;have xD:=xB s3 hp;have Lb:=eW.trans s3;generalize upd H2 a (.lst ys)=H3 at s3 ha xD Lb⊢;have ly:=Paired.length hp;rw[zaa] at ly;refine xu<|BZ<|ah rfl ⟨a,rfl,⟨_,ay.of ha⟩,fun i m zs H4=>m=R.length - i/\i<=R.length/\H4=H3/\Paired (nH H3) zs (((R.take i).map tw).filter lV),⟨_,rfl,zqZ _,rfl,.nil⟩,?_⟩;rintro i m zs H4 ⟨rfl,hi,rfl,hz⟩;by_cases aG:i<R.length
 ·refine .inr ⟨⟨ys,ys[i],ay.of ha,by simp[ly,aG]⟩,?_⟩
  rintro y H5 ⟨rfl,hx⟩;obtain⟨t,ht,b,rfl,hb⟩:=rB xD (hx ys<|ay.of ha);have et:((R.take<|i+1).map tw).filter lV=((R.take i).map tw).filter lV++[t].filter lV:=by rw[List.map_take,List.map_take,pI ht,zbw]
  have lz:zs.length<=R.length:=by
   have h1:=Paired.length hz;have h2:=zaE lV ((R.take i).map tw);rw[zaa,zau] at h2;lia
  refine bo<|bR<|ah rfl<|ar<|ig hb rfl<|bR<|ah rfl<|ar<|ig hb rfl ⟨trivial,_,rfl,cx (fun h=>?_)<|fun h=>?_⟩
  ·have h:((t.1:Nat):Int) < ((t.2:Nat):Int):=of_decide_eq_true h;refine ah rfl ⟨cP (by lia),_,by lia,rfl,aG,rfl,?_⟩
   rw[et,zaQ (show lV t=true from zqT (by lia)),List.filter_nil]
   exact Paired.snoc hz ⟨b,rfl,hb⟩
  ·have h:¬((t.1:Nat):Int) < ((t.2:Nat):Int):=fun z=>h (zqT z);refine⟨_,by lia,rfl,aG,rfl,?_⟩
   rw[et,zaR (by unfold lV;rw[zqF (by lia)];decide),List.filter_nil,zaj];exact hz
 have dq:i=R.length:=by lia
 subst dq;refine .inl ⟨⟨_,ay.of ha,by lia⟩,fun f ff=>?_⟩
 rw[zaG] at hz;have s4:=sameNew (o:=.lst zs) ff;have hf:upd H4 f (.lst zs) f=some (.lst zs):=au;have B1:=xB s4 hz;have pK:=Lb.trans s4;generalize upd H4 f (.lst zs)=H5 at s4 hf B1 pK⊢;have B2:(full R).length<=R.length:=by
  have h2:=zaE lV (R.map tw);rw[zaa] at h2;exact h2
 refine cE (aa3 (aS (La 0 (·.1) (fun _=>rfl) hf B1 (by have:=B2;unfold full at this;lia) (fun _ q=>ah rfl q) fun u fu=>?_)))
 have s5:=sameNew (o:=.lst (((full R).map fun t=>((t.1:Nat):Int)).map V.int)) fu;have hu:upd H5 u (.lst<|((full R).map fun t=>((t.1:Nat):Int)).map V.int) u=some (.lst<|((full R).map fun t=>((t.1:Nat):Int)).map V.int):=au;have Lc:=pK.trans s5;have Ld:=s5 _ _ hf;have Le:=xB s5 B1;show ag _ _ _ (upd H5 u<|.lst<|((full R).map fun t=>((t.1:Nat):Int)).map V.int) _;generalize upd H5 u (.lst<|((full R).map fun t=>((t.1:Nat):Int)).map V.int)=H6 at hu Lc Ld Le⊢;refine La 1 (·.2) (fun _=>rfl) Ld Le (by have:=B2;unfold full at this;lia) (fun _ q=>ah rfl q) fun v fv=>?_
 have s6:=sameNew (o:=.lst (((full R).map fun t=>((t.2:Nat):Int)).map V.int)) fv;refine K_ (s6 _ _ hu) au (by simp only[zaa];have:=B2;unfold full at this;unfold full;lia) fun w fw=>?_
 have Lf:=Lc.trans s6;have s7:=sameNew (o:=.lst (((full R).map fun t=>((t.1:Nat):Int)).map V.int++((full R).map fun t=>((t.2:Nat):Int)).map V.int)) fw;refine⟨w,bd R,rfl,by rw[au,bd,zat];rfl,by rw[bd,zqA,zaa,zaa];lia,fun l2 ms f2 nd me sr=>?_⟩
 exact k l2 _ ms ((Lf.trans s7).trans<|sameNew f2) ((Lf.trans s7).free f2) au nd me sr
end
theorem rE(ns:List Int):SeqAt.shaped (.list<|ns.map PyData.int)=true:=by
 have h:∀l:List Int,PyData.canLayAll0 (l.map PyData.int)=true/\PyData.depthAll (l.map PyData.int)<=1:=by
  intro l
  induction l with
  |nil=>exact⟨rfl,zqZ _⟩
  |cons k l ih=>
   refine⟨?_,?_⟩
   ·show((PyData.int k).canLay0 && PyData.canLayAll0 (l.map PyData.int))=true;rw[ih.1];rfl
   ·show max (PyData.int k).depth (PyData.depthAll<|l.map PyData.int)<=1;have:(PyData.int k).depth=0:=rfl;rw[this];lia
 obtain⟨c,d⟩:=h ns;unfold SeqAt.shaped;have e:(PyData.list<|ns.map PyData.int).canLay0=true:=c;have e2:(PyData.list<|ns.map PyData.int).depth<=64:=by show PyData.depthAll (ns.map PyData.int)+1<=64;lia
 rw[e,zqT e2];rfl
theorem oZ{H:Hp}:∀ns:List Int,IsL H (ns.map PyData.int) (ns.map V.int)
 |[]=>rfl
 |k::r=>⟨_,_,rfl,rfl,oZ r⟩
section
variable {K:Frag}{H:Hp}{Q:VK}{a b:Addr}{ns:List Int}
theorem pL(ha:H a=some (.lst<|ns.map V.int))(hb:H b=some (.lst<|ns.map V.int))(q:Q (.bl false) H):cy K .NotEq (.ref a) (.ref b) H Q:=by
 refine⟨.list<|ns.map PyData.int,.list<|ns.map PyData.int,⟨a,_,rfl,ha,oZ ns⟩,⟨b,_,rfl,hb,oZ ns⟩,rE ns,rE ns,?_⟩;rw[SeqAt.eqv_refl _<|SeqAt.canLay_of_shaped<|rE ns];exact q
theorem Lg(ha:H a=some (.lst<|ns.map V.int))(hb:H b=some (.lst<|ns.map V.int))(q:Q (.bl true) H):cy K .Eq (.ref a) (.ref b) H Q:=by
 refine⟨.list<|ns.map PyData.int,.list<|ns.map PyData.int,⟨a,_,rfl,ha,oZ ns⟩,⟨b,_,rfl,hb,oZ ns⟩,rE ns,rE ns,?_⟩;rw[SeqAt.eqv_refl _<|SeqAt.canLay_of_shaped<|rE ns];exact q
end
def uA(H:Hp)(v:V)(q:Nat×Nat×Bool):Prop:= ∃t,v=.ref t/\H t=some (.tup [.int (q.1:Nat),.int (q.2.1:Nat),.bl q.2.2])
theorem uA.mono(t:gz H H'){q:Nat×Nat×Bool}(h:uA H v q):uA H' v q:=by
 obtain⟨a,e,h⟩:=h;exact⟨a,e,t _ _ h⟩
def cH(H:Hp)(kv:Key×V)(r:Row):Prop:= ∃v,kv=(.inl ((r.1:Nat):Int),v)/\uA H v r.2
theorem cH.mono(t:gz H H'){kv:Key×V}{r:Row}(h:cH H kv r):cH H' kv r:=by
 obtain⟨v,e,h⟩:=h;exact⟨v,e,h.mono t⟩
structure bO (M:List Addr) (C:Addr) (H:Hp) (p dx d rw n g:Nat) (R:List Row):Prop where
 sh:∃kvs,bp M C H p dx d n g kvs (eR R)
 hr:∃kvs,H rw=some (.dK kvs)/\Paired (cH H) kvs R
 ne:rw≠d
section
variable {K:Frag}{M:List Addr}{C:Addr}{H H':Hp}{p dx d rw n g:Nat}{R:List Row}{kvs:List (Key×V)}
theorem bO.same(A:bO M C H p dx d rw n g R)(s:av H H'):bO M C H' p dx d rw n g R:=by
 obtain⟨⟨kvs,S⟩,⟨cA,h1,h2⟩,ne⟩:=A;exact⟨⟨kvs,S.same s⟩,⟨cA,s _ _ h1,Paired.b9 h2 fun _ _ z=>cH.mono (dc s) z⟩,ne⟩
theorem bO.up(A:bO M C H p dx d rw n g R):(R.map (·.1)).Pairwise (· < ·):=by
 obtain⟨⟨kvs,S⟩,_⟩:=A;have:=S.up;rwa [aaW] at this
theorem bO.le(A:bO M C H p dx d rw n g R){r:Row}(h:r∈R):r.2.1<=n/\r.2.2.1<=n:=by
 obtain⟨⟨kvs,S⟩,_⟩:=A;exact⟨(S.pl _ (zba h) _<|.head _).1,(S.pl _ (zba h) _<|.tail _<|.head _).1⟩
theorem bO.lt(A:bO M C H p dx d rw n g R){r:Row}(h:r∈R):r.1<g:=by
 obtain⟨⟨kvs,S⟩,_⟩:=A;exact S.lt _<|zba h
theorem pM:∀{kvs:List (Key×V)}{R:List Row},Paired (cH H) kvs R->(R.map (·.1)).Pairwise (· < ·)->∀{i:Nat}{r:Row},R[i]?=some r->∃v,kvs[i]?=some (.inl ((r.1:Nat):Int),v)/\cW kvs (.inl ((r.1:Nat):Int))=some v/\uA H v r.2
 |[],[],_,_,i,r,h=>by simp at h
 |_::kvs,_::R,.cons a t,hu,0,r,h=>by
  cases h;obtain⟨v,e1,e2⟩:=a;exact⟨v,by rw[e1];rfl,by rw[e1];exact mz rfl,e2⟩
 |kv::kvs,r0::R,.cons a t,hu,i+1,r,h=>by
  rw[zal,zbU] at hu;have h':R[i]?=some r:=h;obtain⟨v,e1,e2,e3⟩:=pM t hu.2 h';obtain⟨v0,a1,_⟩:=a;refine⟨v,by simpa using e1,?_,e3⟩
  have ne:¬kv.1=.inl ((r.1:Nat):Int):=by
   rw[a1];intro z;have z':((r0.1:Nat):Int)=((r.1:Nat):Int):=Sum.inl.inj z;have:=hu.1 r.1 (zba<|zav h');lia
  rw[jb ne];exact e2
theorem B3:∀{kvs:List (Key×V)}{R:List Row},Paired (cH H) kvs R->∀{i:Int},(∀r∈R,((r.1:Nat):Int)≠i)->cW kvs (.inl i)=none
 |[],[],_,_,_=>rfl
 |kv::kvs,r0::R,.cons a t,i,h=>by
  obtain⟨v0,a1,_⟩:=a;have ne:¬kv.1=.inl i:=by
   rw[a1];exact fun z=>h r0 (.head _)<|Sum.inl.inj z
  rw[jb ne];exact B3 t fun r hr=>h r (.tail _ hr)
theorem B4:∀{kvs:List (Key×V)}{R:List Row},Paired (cH H) kvs R->(kvs.map fun p=>kV p.1)=(R.map fun r=>((r.1:Nat):Int)).map V.int
 |[],[],_=>rfl
 |kv::kvs,r0::R,.cons a t=>by
  obtain⟨v0,a1,_⟩:=a;rw[zal,zal,zal,B4 t,a1];rfl
theorem aa5(h:(R.map (·.1)).Pairwise (· < ·)):(R.map fun r=>((r.1:Nat):Int)).Pairwise (· <= ·):=by
 rw[List.pairwise_map] at h⊢;exact h.imp fun a=>by lia
theorem pN{QT:Bool->Hp->Prop}{b:RE}{r:List RE}(h:aU Γ a σ H fun c H1=>if c=true then QT true H1 else aU Γ (.or (b::r)) σ H1 QT):aU Γ (.or (a::b::r)) σ H QT:=h
theorem B5{QT:Bool->Hp->Prop}(h:aU Γ a σ H QT):aU Γ (.or [a]) σ H QT:=h
theorem Lh{QT:Bool->Hp->Prop}(h:ag Γ a σ H fun x H1=>∃(p:Addr) (bs:List Bool),x=.ref p/\ay Γ.K H1 p (bs.map V.bl)/\QT (bs.all id) H1):aU Γ (.xt qO [a]) σ H QT:=by
 refine pF (x:=a) _ _ (fun x H1=>⟨?_,?_⟩) h
 ·rintro⟨p,bs,rfl,h1,h2⟩;exact⟨p,bs,rfl,h1,h2⟩
 ·rintro⟨p,bs,e,h1,h2⟩;exact⟨p,bs,by simpa using e,h1,h2⟩
theorem aa6(h:ag Γ a σ H fun x H1=>∃(p:Addr) (bs:List Bool),x=.ref p/\ay Γ.K H1 p (bs.map V.bl)/\Q (.bl<|bs.all id) H1):ag Γ (.xt qO [a]) σ H Q:=by
 refine pF (x:=a) _ _ (fun x H1=>⟨?_,?_⟩) h
 ·rintro⟨p,bs,rfl,h1,h2⟩;exact⟨p,bs,rfl,h1,h2⟩
 ·rintro⟨p,bs,e,h1,h2⟩;exact⟨p,bs,by simpa using e,h1,h2⟩
theorem B6{k:Nat}{l:Addr}{ns:List Int}(hw:Γ.calm.fs k=iQ)(hj:σ[j]?=some (some<|.ref l))(hl:H l=some (.lst<|ns.map V.int))(hn:ns.length<=1000)(q:∀p H' (bs:List Bool),av H H'->H' p=some (.lst<|bs.map V.bl)->bs.all id=true->Q (.ref p) H'):
  ag Γ (.comp none [] .list [.v j] none<|.call k [.v 0]) σ H Q:=by
 refine BG<|ah hj ⟨l,rfl,⟨_,ay.of hl⟩,?_⟩;refine Z6 hl (by rw[zaa];lia) (fun i ys H2=>H2=H/\ys=(List.replicate i true).map V.bl) ⟨rfl,rfl⟩ ?_ ?_
 ·rintro i y ys H5 hy s5 ⟨rfl,rfl⟩ Q' kk;obtain⟨z,_,rfl⟩:=zax.mp (zav hy);refine bN iQ hw<|ao<|ah rfl<|aC ⟨_,rfl,kk _ _ (av.refl _) ⟨rfl,?_⟩⟩;rw[List.replicate_succ',zat];rfl
 rintro ys H5 a5 s5 ⟨rfl,rfl⟩ f5;exact q a5 _ _ (sameNew f5) au (by simp)
theorem uB(h:ag Γ a σ H fun x H1=>qQ Γ.K [x] H1 Q):ag Γ (.xt j4 [a]) σ H Q:=h
theorem B7{b:RE}(h:ag Γ a σ H fun x H1=>ag Γ b σ H1 fun y H2=>g_ Γ.K .max [x,y] H2 Q):ag Γ (.blt .max [a,b]) σ H Q:=h
abbrev kI(R:List Row):List Int:=R.map fun r=>((r.1:Nat):Int)
theorem aa7(R:List Row):((eR R).map fun e=>((e.1:Nat):Int))=kI R:=by rw[zaB];rfl
theorem bO.sorted(A:bO M C H p dx d rw n g R)(hl:R.length<64)(q:∀l,H l=none->Q (.ref l) (upd H l<|.lst<|(kI R).map V.int)):qQ K [.ref rw] H Q:=by
 obtain⟨kvs,hr,hp⟩:=A.hr;refine⟨rw,kvs,kI R,rfl,hr,B4 hp,by rw[zaa];exact hl,fun l ms fl pm pw=>?_⟩
 rw[BM pm pw<|aa5 A.up];exact q l fl
theorem bO.row(A:bO M C H p dx d rw n g R){r:Row}(h:R[i]?=some r):∃t,cC H rw (.int ((r.1:Nat):Int)) (some<|.ref t)/\H t=some (.tup [.int (r.2.1:Nat),.int (r.2.2.1:Nat),.bl r.2.2.2]):=by
 obtain⟨kvs,hr,hp⟩:=A.hr;obtain⟨v,e1,e2,t,rfl,ht⟩:=pM hp A.up h;refine⟨t,?_,ht⟩;have:=cC.k (k:=.inl ((r.1:Nat):Int)) hr;rw[e2] at this;exact this
def nK:Sp:=fun vs H Q E=>∃(rw t:Addr) (r:Row),vs=[.ref rw,.int ((r.1:Nat):Int)]/\cC H rw (.int ((r.1:Nat):Int)) (some<|.ref t)/\H t=some (.tup [.int (r.2.1:Nat),.int (r.2.2.1:Nat),.bl r.2.2.2])/\∀u,H u=none->Q (.ref u) (upd H u<|.tup [.int (lo r:Nat),.int (L2.bA.hi r:Nat)])
theorem aa8:bE (nK) (fun E=>aH K [] [] (E:=E)) IF IE:=by
 intro vs H Q E h;obtain⟨rw,t,r,rfl,hg,ht,q⟩:=h;refine uo<|gf<|ah rfl<|ah rfl ⟨rw,_,rfl,hg,BO ht ?_⟩;exact cE<|dX<|ao<|Kt<|ao<|ah rfl<|ao<|ah rfl<|aC<|xv<|ao<|ah rfl<|aC ⟨bS,fun u fu=>q u fu⟩
end
section
variable {K:Frag}{M:List Addr}{C:Addr}{H H':Hp}{p dx d rw n g:Nat}{R:List Row}{kvs:List (Key×V)}
abbrev atK(R:List Row)(pl:Nat):List Int:=(R.filter<|fF pl).map fun r=>((r.1:Nat):Int)
theorem B8(R:List Row)(pl:Nat):cq R pl=(atK R pl).map V.int:=by unfold cq;rw[zaB];rfl
def B9(C:Addr):Sp:=fun vs H Q E=>∃(M:List Addr) (p dx d rw n g pl:Nat) (R:List Row),vs=[.ref p,.ref rw,.int (pl:Nat)]/\bO M C H p dx d rw n g R/\R.length<64/\pl<n/\∀H',av H H'->Q (.bl true) H'
abbrev B_(K:Frag)(C:Addr)(E:XK):aJ:=aH K [("_law_due",nK),("_law_whole",iQ)] [] [] [("at",C,nG C)] (E:=E)
theorem aa9:bE (B9 C) (fun E=>B_ K C E) II IH:=by
 intro vs H Q E h;obtain⟨M,p,dx,d,rw,n,g,pl,R,rfl,A,dG,gg,q⟩:=h;refine xu<|BZ<|uB<|ah rfl<|A.sorted dG fun l fl=>?_;have s1:=sameNew (o:=.lst ((kI R).map V.int)) fl;have ck:upd H l (.lst<|(kI R).map V.int) l=some (.lst<|R.map fun r=>V.int ((r.1:Nat):Int)):=by rw[au,zaB];rfl
 generalize upd H l (.lst<|(kI R).map V.int)=H1 at s1 ck⊢;refine⟨l,rfl,⟨_,ay.of ck⟩,fun i m ys H2=>m=R.length - i/\i<=R.length/\av H1 H2/\ys=cq (R.take i) pl,⟨_,rfl,zqZ _,av.refl _,rfl⟩,?_⟩;rintro i m ys H2 ⟨rfl,hi,s2,rfl⟩;have eW:=s1.trans s2;by_cases aG:i<R.length
 ·refine .inr ⟨⟨_,V.int ((R[i].1:Nat):Int),ay.of<|s2 _ _ ck,by simp[aG]⟩,?_⟩
  rintro y H3 ⟨rfl,hx⟩;have hy:=hx _ (ay.of<|s2 _ _ ck);have hr:R[i]?=some R[i]:=by simp[aG]
  rw[zai,hr] at hy;cases hy;generalize R[i]=r at hr;have et:cq (R.take<|i+1) pl=cq (R.take i) pl++cq [r] pl:=by unfold cq;rw[pI hr,zbw,zat]
  have hle:(cq (R.take i) pl).length<=R.length:=by
   have h2:=zaE (fF pl) (R.take i);rw[zau] at h2;unfold cq;rw[zaa];lia
  have tl:∀{Γ:aJ}{H4:Hp}{Q1:VK},Γ.fs 0=nK->av H H4->(∀t,H4 t=none->Q1 (.ref t) (upd H4 t<|.tup [.int (lo r:Nat),.int (L2.bA.hi r:Nat)]))->ag Γ (.call 0 [.v 2,.v 0]) [some<|.int ((r.1:Nat):Int),some<|.int (pl:Nat),some<|.ref rw] H4 Q1:=fun hm s q=>by
   obtain⟨t,hg,ht⟩:=(A.same s).row hr;exact bN nK hm<|ao<|ah rfl<|ao<|ah rfl<|aC ⟨rw,t,r,rfl,hg,ht,q⟩
  have no:∀{H5:Hp},av H1 H5->fF pl r=false->∃m',m'<R.length - i/\m'=R.length - (i+1)/\i+1<=R.length/\av H1 H5/\cq (R.take i) pl=cq (R.take<|i+1) pl:=fun s h=>⟨_,by lia,rfl,aG,s,by rw[et,show cq [r] pl=[] by unfold cq;rw[zaR (by rw[h];decide)];rfl,zaj]⟩
  refine KO<|KN<|bR<|tl rfl eW fun t ft=>ar (ig au rfl<|ah rfl ⟨trivial,_,rfl,cx (fun h1=>?_)<|fun h1=>?_⟩)
  ·have s3:=s2.trans (sameNew (o:=.tup [.int (lo r:Nat),.int (L2.bA.hi r:Nat)]) ft);refine bR<|tl rfl (s1.trans s3) fun u fu=>ar (ig au rfl ⟨trivial,_,rfl,cx (fun h2=>?_)<|fun h2=>?_⟩)
   ·refine ah rfl ⟨cP (by lia),_,by lia,rfl,aG,s3.trans<|sameNew fu,?_⟩
    have nv:((lo r:Nat):Int)<= (pl:Int):=of_decide_eq_true h1;have B0:(pl:Int) < ((L2.bA.hi r:Nat):Int):=of_decide_eq_true h2;rw[et,show cq [r] pl=[V.int ((r.1:Nat):Int)] by unfold cq;rw[zaQ (by unfold fF;rw[zqT (by lia),zqT (by lia)];rfl)];rfl]
   ·have B0:¬(pl:Int) < ((L2.bA.hi r:Nat):Int):=fun z=>h2 (zqT z);exact no (s3.trans<|sameNew fu) (by unfold fF;rw[zqF (show ¬pl<L2.bA.hi r by lia),zbt])
  ·have nv:¬((lo r:Nat):Int)<= (pl:Int):=fun z=>h1 (zqT z);exact⟨_,rfl,iF (no (s2.trans<|sameNew ft) (by unfold fF;rw[zqF (show ¬lo r<=pl by lia),zbm])) rfl⟩
 have dq:i=R.length:=by lia
 subst dq;refine .inl ⟨⟨_,ay.of<|s2 _ _ ck,by rw[zaa];lia⟩,fun du fd=>?_⟩
 rw[zaG,B8];have ln:(atK R pl).length<=64:=by
  have h2:=zaE (fF pl) R;rw[zaa];lia
 have s3:=sameNew (o:=.lst ((atK R pl).map V.int)) fd;have Ca:upd H2 du (.lst<|(atK R pl).map V.int) du=some (.lst<|(atK R pl).map V.int):=au;have xG:=eW.trans s3;generalize upd H2 du (.lst<|(atK R pl).map V.int)=H4 at s3 Ca xG⊢;have at':∀{σ:St}{H5:Hp}{Q1:VK},av H H5->σ[0]?=some (some<|.ref p)->σ[2]?=some (some<|.int (pl:Nat))->(∀f H6,av H5 H6->H5 f=none->H6 f=some (.lst<|(atK R pl).map V.int)->Q1 (.ref f) H6)->ag (B_ K C E) (.bc 0 "at" (.v 0) [.v 2]) σ H5 Q1:=fun s e0 e2 k=>by
  obtain⟨⟨Cb,S5⟩,_⟩:=A.same s;exact eK C (nG C) rfl<|ah e0 ⟨p,dx,_,rfl,S5.ob,bZ,ah e2 ⟨M,p,dx,d,n,g,pl,Cb,R,rfl,S5,dG,gg,fun f H6 s6 ff hf=>k f H6 s6 ff (by rw[hf,B8])⟩⟩
 refine bD<|at' xG rfl rfl fun f H6 s6 ff hf=>?_;have aa_:=s6 _ _ Ca;refine aY<|pN<|cG<|xk<|ah rfl<|qT hf<|iF ?_ rfl;refine pN<|bo<|ah rfl<|ah rfl<|pL hf aa_ ⟨_,rfl,iF ?_ rfl⟩;refine B5<|cG<|Lh<|B6 rfl rfl hf (by lia) fun a H7 bs s7 ha hb=>⟨a,bs,rfl,ay.of ha,?_⟩
 rw[hb];refine iF (cR ?_) rfl;have Li:=s7 _ _ hf;refine f9<|xj<|ah rfl ⟨.inl ⟨rfl,_,ay.of Li⟩,rA ⟨_,Li,cP (by rw[zaa];lia),?_⟩⟩
 have sA:av H4 (upd H7 f<|.lst<|(atK R pl).map V.int++[.int<|-1]):=fun c o ec=>by
  rw[ax<|aL ec ff];exact s7 _ _<|s6 _ _ ec
 show aA (B_ K C E) _ _ _ (upd H7 f<|.lst<|(atK R pl).map V.int++[.int<|-1]);generalize upd H7 f (.lst<|(atK R pl).map V.int++[.int<|-1])=H8 at sA⊢;refine cE<|iU<|at' (xG.trans sA) rfl rfl fun f2 H9 s9 ff2 tQ=>ah rfl (Lg tQ (s9 _ _<|sA _ _ Ca) ?_);exact q _<|(xG.trans sA).trans s9
end
theorem Lj{R:List Row}{z:Int}:z∈bd R↔ ∃r∈R,lo r<L2.bA.hi r/\(z=((lo r:Nat):Int)\/z=((L2.bA.hi r:Nat):Int)):=by
 unfold bd full
 simp only[zag,zax,zaV]
 constructor
 ·rintro(⟨t,⟨⟨r,hr,rfl⟩,h⟩,rfl⟩|⟨t,⟨⟨r,hr,rfl⟩,h⟩,rfl⟩)
  ·exact⟨r,hr,of_decide_eq_true h,.inl rfl⟩
  ·exact⟨r,hr,of_decide_eq_true h,.inr rfl⟩
 ·rintro⟨r,hr,h,e|e⟩
  ·exact .inl ⟨_,⟨⟨r,hr,rfl⟩,zqT h⟩,e.symm⟩
  ·exact .inr ⟨_,⟨⟨r,hr,rfl⟩,zqT h⟩,e.symm⟩
theorem Lk{ps:List (Key×V)}{ks:List Int}(h:ps.map (·.1)=ks.map Sum.inl)(nd:ks.Nodup)(k:Int)(v:V):∃xH:List Int,(putK ps (.inl k) v).map (·.1)=xH.map Sum.inl/\xH.Nodup/\(∀z,z∈xH↔z=k\/z∈ks)/\xH.length<=ks.length+1:=by
 unfold putK;by_cases ha:(ps.any fun kv=>decide (kv.1=.inl k))=true
 ·rw[if_pos ha];have hk:k∈ks:=by
   obtain⟨kv,h1,h2⟩:=List.any_eq_true.mp ha;have:(Sum.inl k:Key)∈ks.map Sum.inl:=by rw[<-h,<-of_decide_eq_true h2];exact zba h1
   obtain⟨z,hz,e⟩:=zax.mp this;cases e;exact hz
  refine⟨ks,?_,nd,fun z=>⟨.inr,fun y=>y.elim (fun e=>e ▸ hk) id⟩,by lia⟩
  rw[zaB,<-h]
  apply List.map_congr_left
  intro kv _;show(if kv.1=_ then (kv.1,v) else kv).1=kv.1
  split<;>rfl
 ·rw[if_neg ha];have hk:k∉ks:=fun y=>ha (by
   have:(Sum.inl k:Key)∈ps.map (·.1):=by rw[h];exact zba y
   obtain⟨kv,h1,h2⟩:=zax.mp this;exact List.any_eq_true.mpr ⟨kv,h1,zqT h2⟩)
  refine⟨ks++[k],by rw[zat,zat,h];rfl,List.nodup_append.mpr ⟨nd,by simp,fun a ha b hb=>?_⟩,fun z=>?_,by simp⟩
  ·rw[zaf.mp hb];exact fun e=>hk (e ▸ ha)
  ·rw[zag,zaf];exact Or.comm
section
variable {K:Frag}{M:List Addr}{C:Addr}{H H':Hp}{p dx d rw n g:Nat}{R:List Row}{kvs:List (Key×V)}
def Cc(C:Addr):Sp:=fun vs H Q E=>∃(M:List Addr) (p dx d rw n g:Nat) (R:List Row),vs=[.ref p,.ref rw]/\bO M C H p dx d rw n g R/\R.length<32/\∀H',av H H'->Q (.bl true) H'
abbrev rF(K:Frag)(C:Addr)(E:XK):aJ:=aH K [("_law_due",nK),("_law_whole",iQ)] [] [] [("bounds",C,uz C)] (E:=E)
theorem abb:bE (Cc C) (fun E=>rF K C E) IP IM:=by
 intro vs H Q E h;obtain⟨M,p,dx,d,rw,n,g,R,rfl,A,nJ,q⟩:=h;obtain⟨kvs,xI,hp⟩:=A.hr;have hu:=A.up;have lk:=Paired.length hp;refine bD<|xl fun pd uC=>?_;have s1:=sameNew (o:=.dK []) uC;have Ll:upd H pd (.dK []) pd=some (.dK []):=au;generalize upd H pd (.dK [])=H1 at s1 Ll⊢;have xJ:pd≠rw:=fun z=>by rw[z,xI] at uC;cases uC
 have Lm:=s1 _ _ xI;refine⟨.ref rw,rfl,rw,kvs,rfl,Lm,fun od=>⟨fun j m σ2 H2=>m=R.length - j/\j<=R.length/\(∃u3 u4 u5 u6:Option V,σ2=[some (.ref p),some (.ref rw),some (.ref pd),u3,u4,u5,u6])/\H2 rw=some (.a_ od (.dK kvs))/\(∀c o,H1 c=some o->c≠rw->c≠pd->H2 c=some o)/\∃ps,∃ks:List Int,H2 pd=some (.dK ps)/\ps.map (·.1)=ks.map Sum.inl/\ks.Nodup/\(∀z,z∈ks↔z∈bd (R.take j))/\ks.length<=2*j,
  ⟨_,rfl,zqZ _,⟨_,_,_,_,rfl⟩,au,fun c o e n1 _=>by rw[ax n1];exact e,[],[],by rw[ax xJ];exact Ll,rfl,List.nodup_nil,fun z=>Iff.rfl,zqZ _⟩,?_⟩⟩
 rintro j m σ2 H2 ⟨rfl,hj,⟨u3,u4,u5,u6,rfl⟩,hd2,k2,ps,ks,cz,xO,nd,me,lks⟩;by_cases aG:j<R.length
 ·refine .inr ⟨⟨hd2,by lia⟩,_,fun _ _ h=>h,?_⟩
  rintro x H3 ⟨rfl,kv,Ln,rfl⟩;have hr:R[j]?=some R[j]:=by simp[aG]
  generalize R[j]=r at hr;obtain⟨v,e1,e2,t,rfl,ht⟩:=pM hp hu hr;rw[e1] at Ln;cases Ln;have tm:t≠rw:=fun z=>by rw[z,xI] at ht;cases ht
  have t9:=k2 _ _ (s1 _ _ ht) tm (fun z=>by rw[z,uC] at ht;cases ht)
  have hg:cC H3 rw (.int ((r.1:Nat):Int)) (some<|.ref t):=.inl ⟨kvs,.inl ((r.1:Nat):Int),.inr ⟨od,hd2⟩,rfl,e2.symm⟩;have lps:ps.length=ks.length:=by have:=congrArg List.length xO;simpa using this
  have bt:∀z,z∈bd (R.take<|j+1)↔z∈bd (R.take j)\/(lo r<L2.bA.hi r/\(z=((lo r:Nat):Int)\/z=((L2.bA.hi r:Nat):Int))):=fun z=>by
   rw[Lj,Lj,pI hr]
   constructor
   ·rintro⟨y,hy,h⟩;rcases zag.mp hy with hy|hy
    ·exact .inl ⟨y,hy,h⟩
    ·rw[zaf.mp hy] at h;exact .inr h
   ·rintro(⟨y,hy,h⟩|h)
    ·exact⟨y,zaS _ hy,h⟩
    ·exact⟨r,zaz _<|.head _,h⟩
  refine uo<|bN nK rfl<|ao<|ah rfl<|ao<|ah rfl<|aC ⟨rw,t,r,rfl,hg,t9,fun u fu=>KI au ?_⟩;have s3:=sameNew (o:=.tup [V.int (lo r:Nat),V.int (L2.bA.hi r:Nat)]) fu;show aA (rF K C E) _ _ [some<|.ref p,some<|.ref rw,some<|.ref pd,some<|.int ((r.1:Nat):Int),some<|.int (lo r:Nat),some<|.int (L2.bA.hi r:Nat),u6] (upd H3 u<|.tup [V.int (lo r:Nat),V.int (L2.bA.hi r:Nat)]);generalize upd H3 u (.tup [V.int (lo r:Nat),V.int (L2.bA.hi r:Nat)])=H4 at s3⊢;refine aY<|bo<|ah rfl<|ah rfl ⟨trivial,_,rfl,cx (fun h=>?_)<|fun h=>?_⟩
  ·have h:((lo r:Nat):Int) < ((L2.bA.hi r:Nat):Int):=of_decide_eq_true h;refine nA<|ar<|ah rfl<|ah rfl ⟨pd,_,rfl,g5.k (k:=.inl ((lo r:Nat):Int)) (s3 _ _ cz)<|cP (by lia),?_⟩
   obtain⟨k1,a1,a2,a3,a4⟩:=Lk xO nd ((lo r:Nat):Int) (V.bl true);have l1:(putK ps (.inl ((lo r:Nat):Int))<|V.bl true).length=k1.length:=by have:=congrArg List.length a1;simpa using this
   refine nA<|ar<|ah rfl<|ah rfl ⟨pd,_,rfl,g5.k (k:=.inl ((L2.bA.hi r:Nat):Int)) au<|cP (by lia),?_⟩
   obtain⟨k2',b1,b2,b3,b4⟩:=Lk a1 a2 ((L2.bA.hi r:Nat):Int) (V.bl true);refine⟨_,by lia,rfl,aG,⟨_,_,_,_,rfl⟩,?_,fun c o e n1 n2=>?_,_,k2',au,b1,b2,fun z=>?_,by lia⟩
   ·rw[ax xJ.symm,ax xJ.symm];exact s3 _ _ hd2
   ·rw[ax n2,ax n2];exact s3 _ _ (k2 c o e n1 n2)
   ·rw[b3,a3,me,bt]
    constructor
    ·rintro(e|e|e)
     ·exact .inr ⟨by lia,.inr e⟩
     ·exact .inr ⟨by lia,.inl e⟩
     ·exact .inl e
    ·rintro(e|⟨_,e|e⟩)
     ·exact .inr (.inr e)
     ·exact .inr (.inl e)
     ·exact .inl e
  ·have h:¬((lo r:Nat):Int) < ((L2.bA.hi r:Nat):Int):=fun z=>h (zqT z);refine⟨_,by lia,rfl,aG,⟨_,_,_,_,rfl⟩,s3 _ _ hd2,fun c o e n1 n2=>s3 _ _<|k2 c o e n1 n2,ps,ks,s3 _ _ cz,xO,nd,fun z=>?_,by lia⟩
   rw[me,bt];exact⟨.inl,fun y=>y.elim id fun y=>absurd y.1 (by lia)⟩
 have hje:j=R.length:=by lia
 subst hje;refine .inl ⟨⟨hd2,by lia⟩,rw,od,kvs,kvs,Lm,hd2,?_⟩
 rw[zaG] at me;have sH:av H (upd H2 rw (.dK kvs)):=fun c o e=>by
  by_cases hc:c=rw
  ·rw[hc] at e⊢;rw[xI] at e;cases e;exact au
  ·rw[ax hc];exact k2 _ _ (s1 _ _ e) hc (fun z=>by rw[z,uC] at e;cases e)
 have Lo:upd H2 rw (.dK kvs) pd=some (.dK ps):=by rw[ax xJ];exact cz
 show aA (rF K C E) _ _ _ (upd H2 rw (.dK kvs));generalize upd H2 rw (.dK kvs)=H5 at sH Lo⊢;have kk:(ps.map fun q=>kV q.1)=ks.map V.int:=by
  have:=congrArg (List.map kV) xO;rw[zaB,zaB] at this;exact this
 have bn:∀{σ:St}{H6:Hp}{Q1:VK},av H5 H6->σ[0]?=some (some<|.ref p)->(∀f H7 (ms:List Int),av H6 H7->H6 f=none->H7 f=some (.lst<|ms.map V.int)->ms.Nodup->(∀k,k∈ms↔k∈bd R)->ms.Pairwise (· <= ·)->Q1 (.ref f) H7)->ag (rF K C E) (.bc 0 "bounds" (.v 0) []) σ H6 Q1:=fun s e0 k=>by
  obtain⟨⟨abe,S6⟩,_⟩:=A.same (sH.trans s);exact iW C (uz C) rfl<|ah e0 ⟨p,dx,_,rfl,S6.ob,bZ,M,p,dx,d,n,g,abe,R,rfl,S6,nJ,k⟩
 have so:∀{σ:St}{H6:Hp}{Q1:VK}{ms:List Int},av H5 H6->σ[2]?=some (some<|.ref pd)->ms.Nodup->(∀k,k∈ms↔k∈bd R)->ms.Pairwise (· <= ·)->(∀l H7,av H6 H7->H7 l=some (.lst<|ms.map V.int)->Q1 (.ref l) H7)->ag (rF K C E) (.xt j4 [.v 2]) σ H6 Q1:=fun s e2 n1 m1 p1 k=>by
  refine uB<|ah e2 ⟨pd,ps,ks,rfl,s _ _ Lo,kk,by lia,fun l ms' fl pm pw=>?_⟩
  have:ms'=_:=BM (pm.trans<|(List.perm_ext_iff_of_nodup nd n1).mpr fun z=>(me z).trans (m1 z).symm) pw p1;rw[this];exact k l _ (sameNew fl) au
 refine bD<|bn (av.refl _) rfl fun f H6 ms s6 ff hf n1 m1 p1=>?_;have Cd:ms.length<=64:=by
  have:=((List.perm_ext_iff_of_nodup nd n1).mpr fun z=>(me z).trans (m1 z).symm).length_eq;lia
 refine aY<|pN<|cG<|xk<|ah rfl<|qT hf<|iF ?_ rfl;refine pN<|bo<|ah rfl<|so s6 rfl n1 m1 p1 fun l H7 s7 hl=>pL (s7 _ _ hf) hl ⟨_,rfl,iF ?_ rfl⟩;refine B5<|cG<|Lh<|B6 rfl rfl (s7 _ _ hf) (by lia) fun a H8 bs s8 ha hb=>⟨a,bs,rfl,ay.of ha,?_⟩
 rw[hb];refine iF (cR ?_) rfl;have Lp:=s8 _ _ (s7 _ _ hf);refine f9<|xj<|ah rfl ⟨.inl ⟨rfl,_,ay.of Lp⟩,rA ⟨_,Lp,cP (by rw[zaa];lia),?_⟩⟩
 have sA:av H5 (upd H8 f<|.lst<|ms.map V.int++[.int<|-1]):=fun c o ec=>by
  rw[ax<|aL ec ff];exact s8 _ _<|s7 _ _<|s6 _ _ ec
 show aA (rF K C E) _ _ _ (upd H8 f<|.lst<|ms.map V.int++[.int<|-1]);generalize upd H8 f (.lst<|ms.map V.int++[.int<|-1])=H9 at sA⊢;refine cE<|iU<|bn sA rfl fun f2 HA ms2 sB ff2 tQ n2 m2 p2=>so (sA.trans sB) rfl n2 m2 p2 fun l2 HB sC kR=>Lg (sC _ _ tQ) kR ?_;exact q _<|((sH.trans sA).trans sB).trans sC
end
section
variable {K:Frag}{H:Hp}{Q:VK}{i j:Int}
theorem dt(h:0<j)(q:Q (.int<|i % j) H):iD K .Mod (.int i) (.int j) H Q:=⟨h,q⟩
theorem iq(h:yv i j)(q:Q (.int<|i / j) H):iD K .FloorDiv (.int i) (.int j) H Q:=⟨h,q⟩
theorem abg(h:rW i j)(q:Q (.int<|i*j) H):iD K .Mult (.int i) (.int j) H Q:=⟨h,q⟩
theorem abh(h:yw i j)(q:Q (.int<|i ^ j.toNat) H):iD K .Pow (.int i) (.int j) H Q:=⟨h,q⟩
theorem Ce(q:Q (.int (if j>i then j else i)) H):g_ K .max [.int i,.int j] H Q:=q
end
section
variable {K:Frag}{M:List Addr}{C:Addr}{H H':Hp}{p dx d rw n g:Nat}{R:List Row}{kvs:List (Key×V)}
theorem Lq{a b:Addr}{x y:Int}(ha:H a=some (.tup [.int x,.int y]))(hb:H b=some (.tup [.int x,.int y]))(q:Q (.bl false) H):cy K .NotEq (.ref a) (.ref b) H Q:=by
 have sh:SeqAt.shaped (.tuple [.int x,.int y])=true:=rfl;have hh:∀c:Addr,H c=some (.tup [.int x,.int y])->IsL H [.int x,.int y] [V.int x,V.int y]:=fun c _=>⟨_,_,rfl,rfl,⟨_,_,rfl,rfl,rfl⟩⟩;refine⟨.tuple [.int x,.int y],.tuple [.int x,.int y],⟨a,_,rfl,ha,hh a ha⟩,⟨b,_,rfl,hb,hh b hb⟩,sh,sh,?_⟩;rw[SeqAt.eqv_refl _<|SeqAt.canLay_of_shaped sh];exact q
theorem Lr{lo hi:Option Int}(h:v∈cc xs lo hi):v∈xs:=List.mem_of_mem_drop (List.mem_of_mem_take h)
def Cf(C:Addr):Sp:=fun vs H Q E=>∃(M:List Addr) (p dx d rw n g:Nat) (R:List Row) (c:Int),vs=[.ref p,.ref rw,.int c]/\bO M C H p dx d rw n g R/\R.length<64/\∀H',av H H'->Q (.bl true) H'
abbrev Ls(K:Frag)(C:Addr)(E:XK):aJ:=aH K [("_law_mixed",dN),("_law_due",nK),("_law_whole",iQ)] [] [] [("told",C,ke C)] (E:=E)
theorem abi:bE (Cf C) (fun E=>Ls K C E) IX IW:=by
 intro vs H Q E h;obtain⟨M,p,dx,d,rw,n,g,R,c,rfl,A,dG,q⟩:=h;refine bD<|uB<|ah rfl<|A.sorted dG fun l fl=>?_;have s1:=sameNew (o:=.lst ((kI R).map V.int)) fl;have ck:upd H l (.lst<|(kI R).map V.int) l=some (.lst<|(kI R).map V.int):=au;generalize upd H l (.lst<|(kI R).map V.int)=H1 at s1 ck⊢;have lk:((kI R).map V.int).length=R.length:=by rw[zaa,zaa]
 refine bD<|aS<|bN dN rfl<|ao<|ah rfl<|ao<|ar<|aC ⟨_,_,rfl,?_⟩;refine B7<|ar<|ny<|ah rfl<|.inl ⟨_,ay.of ck,?_⟩;refine Ce ?_;generalize Cg:(if ((((kI R).map V.int).length:Nat):Int) >1 then ((((kI R).map V.int).length:Nat):Int) else 1)=mx
 have mx1:1<=mx:=by rw[<-Cg];split<;>lia
 refine dt (by lia) ?_
 generalize mixed c 17 % mx=f;refine rq<|aS<|aaP<|ah rfl<|ah rfl ⟨f,rfl,.inl ⟨_,ay.of ck,fun a fa=>?_⟩⟩;have s2:=sameNew (o:=.lst (cc ((kI R).map V.int) (some f) none)) fa;have ha:upd H1 a (.lst<|cc ((kI R).map V.int) (some f) none) a=some (.lst<|cc ((kI R).map V.int) (some f) none):=au;generalize upd H1 a (.lst<|cc ((kI R).map V.int) (some f) none)=H2 at s2 ha⊢;refine aaS<|ah rfl<|ah rfl ⟨f,rfl,.inl ⟨_,ay.of<|s2 _ _ ck,fun b fb=>?_⟩⟩;have s3:=sameNew (o:=.lst (cc ((kI R).map V.int) none<|some f)) fb;have hb:upd H2 b (.lst<|cc ((kI R).map V.int) none<|some f) b=some (.lst<|cc ((kI R).map V.int) none<|some f):=au;generalize upd H2 b (.lst<|cc ((kI R).map V.int) none<|some f)=H3 at s3 hb⊢;have cl:∀lo hi,(cc ((kI R).map V.int) lo hi).length<=64:=fun lo hi=>by
  have:(cc ((kI R).map V.int) lo hi).length<= ((kI R).map V.int).length:=by unfold cc;rw[zau,zaT];lia
  lia
 have ca:=cl (some f) none;have cb:=cl none (some f);refine .inl ⟨a,b,_,_,rfl,rfl,s3 _ _ ha,hb,bY (by lia),fun L fL=>?_⟩
 have hm:∀v∈cc ((kI R).map V.int) (some f) none++cc ((kI R).map V.int) none (some f),∃(i:Nat) (r:Row),R[i]?=some r/\v=.int ((r.1:Nat):Int):=fun v hv=>by
  have:v∈ (kI R).map V.int:=(zag.mp hv).elim Lr Lr;obtain⟨z,hz,rfl⟩:=zax.mp this;obtain⟨r,hr,rfl⟩:=zax.mp hz;obtain⟨i,hi⟩:=zbX hr;exact⟨i,r,hi,rfl⟩
 have s4:=sameNew (o:=.lst (cc ((kI R).map V.int) (some f) none++cc ((kI R).map V.int) none (some f))) fL;have hL:upd H3 L (.lst<|cc ((kI R).map V.int) (some f) none++cc ((kI R).map V.int) none (some f)) L=some (.lst<|cc ((kI R).map V.int) (some f) none++cc ((kI R).map V.int) none (some f)):=au;generalize cc ((kI R).map V.int) (some f) none++cc ((kI R).map V.int) none (some f)=xs at hm s4 hL⊢;have Ci:=((s1.trans s2).trans s3).trans s4;generalize upd H3 L (.lst xs)=H4 at s4 hL Ci⊢;refine⟨L,rfl,⟨_,ay.of hL⟩,iB (K:=K) (a:=L) (xs:=xs) (fun i σ H5=>∃u5 u6:Option V,σ=[some<|.ref p,some<|.ref rw,some<|.int c,some<|.ref l,some<|.int f,u5,u6]/\av H4 H5) ⟨none,none,rfl,av.refl _⟩ (fun i σ H5 _ ⟨_,_,_,s5⟩=>ay.of (s5 _ _ hL)) ?_ ?_⟩
 ·rintro i v σ H5 hv ⟨u5,u6,rfl,s5⟩;obtain⟨j,r,hj,rfl⟩:=hm v (zav hv);show aA (Ls K C E) _ _ [some<|.ref p,some<|.ref rw,some<|.int c,some<|.ref l,some<|.int f,some<|.int ((r.1:Nat):Int),u6] H5;have A5:=A.same (Ci.trans s5);obtain⟨⟨Cb,S5⟩,_⟩:=id A5;refine bD<|eK C (ke C) rfl<|ah rfl ⟨p,dx,_,rfl,S5.ob,bZ,ah rfl ⟨M,p,dx,d,n,g,j,Cb,R,r,rfl,S5,hj,fun t ft=>?_⟩⟩;have s6:=sameNew (o:=.tup [V.int (lo r:Nat),V.int (L2.bA.hi r:Nat)]) ft;have ht:upd H5 t (.tup [V.int (lo r:Nat),V.int (L2.bA.hi r:Nat)]) t=some (.tup [V.int (lo r:Nat),V.int (L2.bA.hi r:Nat)]):=au;generalize upd H5 t (.tup [V.int (lo r:Nat),V.int (L2.bA.hi r:Nat)])=H6 at s6 ht⊢;obtain⟨w,hg,hw⟩:=(A5.same s6).row hj;refine aY<|gb<|cG<|xk<|ah rfl<|wK ht<|iF ?_ rfl;refine bo<|ah rfl<|bN nK rfl<|ao<|ah rfl<|ao<|ah rfl<|aC ⟨rw,w,r,rfl,hg,hw,fun u fu=>?_⟩;have s7:=sameNew (o:=.tup [V.int (lo r:Nat),V.int (L2.bA.hi r:Nat)]) fu;refine Lq (s7 _ _ ht) au ⟨_,rfl,iF (cR ?_) rfl⟩;have rG:=s7 _ _ ht;generalize upd H6 u (.tup [V.int (lo r:Nat),V.int (L2.bA.hi r:Nat)])=H7 at s7 rG⊢;refine aY<|gb<|cG<|dB iQ rfl<|ao<|bR<|ah rfl<|ar<|ig rG rfl<|aC ⟨_,rfl,cQ<|iF ?_ rfl⟩;refine cG<|dB iQ rfl<|ao<|bR<|ah rfl<|ar<|ig rG rfl<|aC ⟨_,rfl,cQ<|iF (cR ?_) rfl⟩;exact⟨_,_,rfl,(s5.trans s6).trans s7⟩
 rintro σ H5 ⟨u5,u6,rfl,s5⟩;exact cE<|ar<|q _<|Ci.trans s5
def Cj(C:Addr):Sp:=fun vs H Q E=>∃(M:List Addr) (p dx d rw n g:Nat) (R:List Row) (c:Int),vs=[.ref p,.ref rw,.int (n:Nat),.int c]/\bO M C H p dx d rw n g R/\R.length<64/\∀H',av H H'->Q (.bl true) H'
abbrev Lu(K:Frag)(C:Addr)(E:XK):aJ:=aH K [("_law_mixed",dN),("_law_at",B9 C)] [] (E:=E)
theorem abk:bE (Cj C) (fun E=>Lu K C E) IU IT:=by
 intro vs H Q E h;obtain⟨M,p,dx,d,rw,n,g,R,c,rfl,A,dG,q⟩:=h;refine rq<|cL<|ao<|aS<|bN dN rfl<|ao<|ah rfl<|ao<|ar<|aC ⟨_,_,rfl,?_⟩;refine B7<|ar<|ah rfl<|Ce ?_;generalize Cg:(if (n:Int) >1 then (n:Int) else 1)=mx
 have mx1:1<=mx/\(0<n->mx=n):=by rw[<-Cg];split<;>lia
 refine dt (by lia) ?_
 have f0:=zaq (mixed c 11) (show mx≠0 by lia)
 have f1:=zap (mixed c 11) (show 0<mx by lia)
 generalize mixed c 11 % mx=f at f0 f1⊢;refine ao<|ar<|ao<|aS<|ah rfl<|ar<|pH<|aC ⟨nU,fun L fL=>?_⟩;have s1:=sameNew (o:=.lst [V.int f,V.int 0,V.int<|(n:Int) - 1]) fL;have hL:upd H L (.lst [V.int f,V.int 0,V.int<|(n:Int) - 1]) L=some (.lst [V.int f,V.int 0,V.int<|(n:Int) - 1]):=au;generalize upd H L (.lst [V.int f,V.int 0,V.int<|(n:Int) - 1])=H1 at s1 hL⊢;refine⟨L,rfl,⟨_,ay.of hL⟩,iB (K:=K) (a:=L) (xs:=[V.int f,V.int 0,V.int<|(n:Int) - 1]) (fun i σ H5=>∃u4:Option V,σ=[some<|.ref p,some<|.ref rw,some<|.int (n:Nat),some<|.int c,u4]/\av H1 H5) ⟨none,rfl,av.refl _⟩ (fun i σ H5 _ ⟨_,_,s5⟩=>ay.of (s5 _ _ hL)) ?_ ?_⟩
 ·rintro i v σ H5 hv ⟨u4,rfl,s5⟩;have yx:∃z:Int,v=.int z/\(0<n->0<=z/\z<n):=by
   have:=zav hv
   simp only[zab,zac,or_false] at this
   rcases this with e|e|e
   ·exact⟨_,e,by lia⟩
   ·exact⟨_,e,by lia⟩
   ·exact⟨_,e,by lia⟩
  obtain⟨z,rfl,hz⟩:=yx;show aA (Lu K C E) _ _ [some<|.ref p,some<|.ref rw,some<|.int (n:Nat),some<|.int c,some<|.int z] H5;refine aY<|KG<|bo<|ah rfl<|ar ⟨trivial,_,rfl,cx (fun h=>?_)<|fun h=>?_⟩
  ·have h:(0:Int) < (n:Int):=of_decide_eq_true h;obtain⟨z0,z1⟩:=hz (by lia)
   obtain⟨k,rfl⟩:=zaC z0;refine cG<|dB (B9 C) rfl<|ao<|ah rfl<|ao<|ah rfl<|ao<|ah rfl<|aC ⟨M,p,dx,d,rw,n,g,k,R,rfl,A.same<|s1.trans s5,dG,by lia,fun H6 s6=>cQ<|iF (cR ?_) rfl⟩
   exact⟨_,rfl,s5.trans s6⟩
  ·exact iF (cR ⟨_,rfl,s5⟩) rfl
 rintro σ H5 ⟨u4,rfl,s5⟩;exact cE<|ar<|q _<|s1.trans s5
end
section
variable {K:Frag}{M:List Addr}{C:Addr}{H H':Hp}{p dx d rw n g:Nat}{R:List Row}{kvs:List (Key×V)}
def Ck(C:Addr):Sp:=fun vs H Q E=>∃(M:List Addr) (p dx d rw n g:Nat) (R:List Row) (c w:Int),vs=[.ref p,.ref rw,.int (n:Nat),.int c,.int w]/\bO M C H p dx d rw n g R/\R.length<32/\∀H',av H H'->Q (.bl true) H'
abbrev Cm(K:Frag)(C:Addr)(E:XK):aJ:=aH K [("_law_whole",iQ),("_law_ends",Cf C),("_law_covers",Cj C),("_law_bounds",Cc C)] [] [] [("size",C,iX C),("numbers",C,kd C)] (E:=E)
theorem abl:bE (Ck C) (fun E=>Cm K C E) I_ IZ:=by
 intro vs H Q E h;obtain⟨M,p,dx,d,rw,n,g,R,c,w,rfl,A,nJ,q⟩:=h;have dG:R.length<64:=by lia
 obtain⟨⟨kvs,S⟩,_⟩:=id A;have sz:∀{σ:St}{Q1:VK},σ[0]?=some (some<|.ref p)->Q1 (.int (n:Nat)) H->ag (Cm K C E) (.bc 0 "size" (.v 0) []) σ H Q1:=fun e0 q=>
  iW C (iX C) rfl (ah e0 ⟨p,dx,_,rfl,S.ob,bZ,M,p,dx,d,n,g,kvs,_,rfl,S,q⟩)
 refine aY<|bo<|ah rfl<|ar<|cp ⟨_,rfl,cx (fun _=>?_)<|fun _=>cR ?_⟩
 ·refine cE (BN<|bN iQ rfl<|ao<|sz rfl<|aC ⟨_,rfl,_,rfl,iT (iU<|sz rfl<|ah rfl<|cp ?_) rfl⟩);rw[zqT rfl];exact q _ (av.refl _)
 refine aY<|bo<|ah rfl<|ar<|cp ⟨_,rfl,cx (fun _=>?_)<|fun _=>cR ?_⟩
 ·refine bD (iW C (kd C) rfl<|ah rfl ⟨p,dx,_,rfl,S.ob,bZ,M,p,dx,d,n,g,kvs,_,rfl,S,by rw[zaa];exact dG,fun l fl=>?_⟩)
  have s1:=sameNew (o:=.lst (((eR R).map fun e=>((e.1:Nat):Int)).map V.int)) fl;have ck:upd H l (.lst<|((eR R).map fun e=>((e.1:Nat):Int)).map V.int) l=some (.lst<|(kI R).map V.int):=by rw[au,aa7]
  generalize upd H l (.lst<|((eR R).map fun e=>((e.1:Nat):Int)).map V.int)=H1 at s1 ck⊢;refine aY<|gb<|cG<|xk<|ah rfl<|qT ck<|iF ?_ rfl;refine bo<|ah rfl<|uB<|ah rfl<|(A.same s1).sorted dG fun l2 f2=>?_;have s2:=sameNew (o:=.lst ((kI R).map V.int)) f2;refine pL (s2 _ _ ck) au ⟨_,rfl,iF (cR ?_) rfl⟩;have kR:=s2 _ _ ck;generalize upd H1 l2 (.lst<|(kI R).map V.int)=H2 at s2 kR⊢;refine f9<|xj<|ah rfl ⟨.inl ⟨rfl,_,ay.of kR⟩,rA ⟨_,kR,cP (by rw[zaa,zaa];lia),?_⟩⟩
  have sA:av H (upd H2 l<|.lst<|(kI R).map V.int++[.int<|-1]):=fun c o ec=>by
   rw[ax<|aL ec fl];exact s2 _ _<|s1 _ _ ec
  have lW:upd H2 l (.lst<|(kI R).map V.int++[.int<|-1]) l=some (.lst<|(kI R++[-1]).map V.int):=by rw[au,zat];rfl
  show aA (Cm K C E) _ _ _ (upd H2 l<|.lst<|(kI R).map V.int++[.int<|-1]);generalize upd H2 l (.lst<|(kI R).map V.int++[.int<|-1])=H3 at sA lW⊢;refine cE<|aa6<|B6 rfl rfl lW (by rw[zqA,zaa];show R.length+1<=1000;lia) fun a H7 bs s7 ha hb=>⟨a,bs,rfl,ay.of ha,?_⟩
  rw[hb];exact q _ (sA.trans s7)
 refine aY<|bo<|ah rfl<|ar<|cp ⟨_,rfl,cx (fun _=>?_)<|fun _=>cR ?_⟩
 ·exact cE (bN (Cf C) rfl<|ao<|ah rfl<|ao<|ah rfl<|ao<|ah rfl<|aC ⟨M,p,dx,d,rw,n,g,R,_,rfl,A,dG,q⟩)
 refine aY<|bo<|ah rfl<|ar<|cp ⟨_,rfl,cx (fun _=>?_)<|fun _=>cR ?_⟩
 ·exact cE (bN (Cj C) rfl<|ao<|ah rfl<|ao<|ah rfl<|ao<|ah rfl<|ao<|ah rfl<|aC ⟨M,p,dx,d,rw,n,g,R,_,rfl,A,dG,q⟩)
 exact cE<|bN (Cc C) rfl<|ao<|ah rfl<|ao<|ah rfl<|aC ⟨M,p,dx,d,rw,n,g,R,rfl,A,nJ,q⟩
end
abbrev oW(rw:Addr)(g:Nat)(x:Str):List (Key×V):=[(.inr "rows",.ref rw),(.inr "begun",.int (g:Nat)),(.inr "text",.str x)]
section
variable {K:Frag}{C CP CS CM:Addr}{H H':Hp}{M:List Addr}{p dx d rw n g:Nat}{R:List Row}{ow:Addr}{x:Str}
theorem Cn(h:H ow=some (.dK<|oW rw g x)):cC H ow (.str "rows") (some<|.ref rw):=by
 have:=cC.k (k:=.inr "rows") h;rw[mz rfl] at this;exact this
theorem uD(h:H ow=some (.dK<|oW rw g x)):cC H ow (.str "begun") (some<|.int (g:Nat)):=by
 have:=cC.k (k:=.inr "begun") h;rw[jb (show ¬(Sum.inr "rows":Key)=.inr "begun" by decide+kernel),mz rfl] at this;exact this
theorem xQ(h:H ow=some (.dK<|oW rw g x)):cC H ow (.str "text") (some<|.str x):=by
 have:=cC.k (k:=.inr "text") h;rw[jb (show ¬(Sum.inr "rows":Key)=.inr "text" by decide+kernel),jb (show ¬(Sum.inr "begun":Key)=.inr "text" by decide+kernel),mz rfl] at this;exact this
def pO(C:Addr):Sp:=fun vs H Q E=>∃(M:List Addr) (p dx d rw g:Nat) (R:List Row) (ow:Addr) (x:Str) (c:Int),vs=[.ref p,.ref ow,.int c]/\bO M C H p dx d rw x.length g R/\H ow=some (.dK<|oW rw g x)/\R.length<32/\x.length<=1000000/\∀H',av H H'->Q (.bl true) H'
abbrev Co(K:Frag)(C:Addr)(E:XK):aJ:=aH K [("_law_mixed",dN),("_law_asked",Ck C)] [] (E:=E)
theorem abm:bE (pO C) (fun E=>Co K C E) Jc Jb:=by
 intro vs H Q E h;obtain⟨M,p,dx,d,rw,g,R,ow,x,c,rfl,A,ho,nJ,hx,q⟩:=h;refine bD<|aS<|bN dN rfl<|ao<|ah rfl<|ao<|ar<|aC ⟨_,_,rfl,ar<|dt (by decide) ?_⟩
 have f0:=zaq (mixed c 15) (show(5:Int)≠0 by decide)
 have f1:=zap (mixed c 15) (show(0:Int) <5 by decide)
 generalize mixed c 15 % 5=f at f0 f1⊢;refine bD<|aS<|ar<|aS<|aS<|bN dN rfl<|ao<|ah rfl<|ao<|ar<|aC ⟨_,_,rfl,ar<|iq ⟨by decide,by decide⟩<|ar<|dt (by decide)<|ij ?_⟩
 have g0:=zaq (mixed c 15 / 5) (show(4:Int)≠0 by decide)
 have g1:=zap (mixed c 15 / 5) (show(0:Int) <4 by decide)
 generalize mixed c 15 / 5 % 4=st at g0 g1⊢;refine aap<|ar ⟨6,rfl,by decide,by decide,DO (lo:=0) (fun i σ H2=>∃u5:Option V,σ=[some<|.ref p,some<|.ref ow,some<|.int c,some<|.int f,some<|.int<|1+st,u5]/\av H H2) ⟨none,rfl,av.refl _⟩ ?_ ?_⟩
 ·rintro i σ H2 hi ⟨u5,rfl,s2⟩;show aA (Co K C E) _ _ [some<|.ref p,some<|.ref ow,some<|.int c,some<|.int f,some<|.int<|1+st,some<|.int<|0+(i:Int)] H2;have dg:=s2 _ _ ho;have hi6:i<6:=hi;refine aY<|cG<|dB (Ck C) rfl<|ao<|ah rfl<|ao<|gf<|ah rfl<|ar ⟨ow,_,rfl,Cn dg,ao<|ny<|gf<|ah rfl<|ar ⟨ow,_,rfl,xQ dg,bY hx,?_⟩⟩;show aM (Co K C E) [.v 2,(.bin .Mod (.bin .Add (.v 3)<|.bin .Mult (.v 5)<|.v 4)<|.c<|.int 5)] [some<|.ref p,some<|.ref ow,some<|.int c,some<|.int f,some<|.int<|1+st,some<|.int<|0+(i:Int)] H2 _;refine ao<|ah rfl<|ao<|aS<|aS<|ah rfl<|aS<|ah rfl<|ah rfl<|abg (i:=0+(i:Int)) (j:=1+st) (.inl ⟨by omega,by omega⟩) ?_
  refine ij<|ar<|dt (by decide) ?_
  exact aC ⟨M,p,dx,d,rw,x.length,g,R,_,_,rfl,A.same s2,nJ,fun H3 s3=>cQ<|iF (cR ⟨_,rfl,s2.trans s3⟩) rfl⟩
 ·rintro σ H2 ⟨u5,rfl,s2⟩;exact cE<|ar<|q _ s2
end
section
variable {K:Frag}{M:List Addr}{C CP CS CM:Addr}{H H':Hp}{p dx d:Addr}{n g:Nat}{kvs:List (Key×V)}{es:List Ent}
def rH(v:V)(H:Hp):Prop:=gH v H\/∃i,v=.int i/\i<0
theorem rH.same(h:rH v H)(s:av H H'):rH v H':=by
 rcases h with h|h
 ·exact .inl (h.same s)
 ·exact .inr h
def Cp(CP:Addr):Sp:=fun vs H Q E=>∃(p:Addr) (v:V),vs=[.ref p,v]/\rH v H/\E (.ref CP) none H
theorem abn:bE (Cp CP) (fun E=>aH K [("is_whole",gX)] [] (et:=[("NoPlace",CP)]) (E:=E)) Al Ak:=by
 intro vs H Q E h;obtain⟨p,v,rfl,hn|⟨i,rfl,hi⟩,q⟩:=h
 ·refine aY (gb<|cG<|dB gX rfl<|ao<|ah rfl<|aC ⟨_,rfl,.inr ⟨hn,cQ<|iT (iT ?_ rfl) rfl⟩⟩);exact⟨de,q⟩
 ·refine aY (gb<|cG<|dB gX rfl<|ao<|ah rfl<|aC ⟨_,rfl,.inl ⟨_,rfl,cQ<|iF (bo<|ah rfl<|ar ⟨trivial,_,rfl,iT ?_<|zqT hi⟩) rfl⟩⟩);exact⟨de,q⟩
def pP(v:V)(es:List Ent)(H:Hp):Prop:=gH v H\/∃i,v=.int i/\∀e∈es,((e.1:Nat):Int)≠i
theorem pP.same(h:pP v es H)(s:av H H'):pP v es H':=by
 rcases h with h|h
 ·exact .inl (h.same s)
 ·exact .inr h
def kf(C CM:Addr):Sp:=fun vs H Q E=>∃(M:List Addr) (p dx d:Addr) (n g:Nat) (kvs:List (Key×V)) (es:List Ent) (v:V),vs=[.ref p,v]/\bp M C H p dx d n g kvs es/\pP v es H/\E (.ref CM) none H
theorem abo(T:jm K C):bE (kf C CM) (fun E=>aH K [("is_whole",gX)] [] (et:=[("NoMark",CM)]) (E:=E)) An qR:=by
 intro vs H Q E h;obtain⟨M,p,dx,d,n,g,kvs,es,v,rfl,S,hn|⟨i,rfl,hi⟩,q⟩:=h
 ·refine aY (gb<|cG<|dB gX rfl<|ao<|ah rfl<|aC ⟨_,rfl,.inr ⟨hn,cQ<|iT (iT ?_ rfl) rfl⟩⟩);exact⟨de,q⟩
 ·have hg:cC H d (.int i) none:=by
   have:=cC.k (k:=.inl i) S.st;rw[BK S.kv hi] at this;exact this
  refine aY<|gb<|cG<|dB gX rfl<|ao<|ah rfl<|aC ⟨_,rfl,.inl ⟨_,rfl,cQ<|iF ?_ rfl⟩⟩;refine BH<|ah rfl<|f_<|ah rfl ⟨p,C,dx,_,_,rfl,S.ob,T.cl,T.j5,lT,d,_,rfl,hg,true,rfl,iT ?_ rfl⟩;exact⟨de,q⟩
abbrev mS(C CM:Addr):List (Str×Addr×Sp):=[("stand",C,kf C CM)]
theorem abp:bE (kf C CM) (fun E=>aH K [] [] [] (mS C CM) (E:=E)) AI qR:=by
 intro vs H Q E h;obtain⟨M,p,dx,d,n,g,kvs,es,v,rfl,S,hn,q⟩:=h;exact f9<|eK C (kf C CM) rfl<|ah rfl ⟨p,dx,_,rfl,S.ob,bZ,ah rfl ⟨M,p,dx,d,n,g,kvs,es,v,rfl,S,hn,q⟩⟩
theorem abq:bE (kf C CM) (fun E=>aH K [] [] [] (mS C CM) (E:=E)) AM AL:=by
 intro vs H Q E h;obtain⟨M,p,dx,d,n,g,kvs,es,v,rfl,S,hn,q⟩:=h;exact bD<|eK C (kf C CM) rfl<|ah rfl ⟨p,dx,_,rfl,S.ob,bZ,ah rfl ⟨M,p,dx,d,n,g,kvs,es,v,rfl,S,hn,q⟩⟩
def uE(v w:V)(n:Nat)(H:Hp):Prop:=ie v 0 n H\/(∃b:Nat,v=.int (b:Nat)/\b<=n/\ie w b n H)
def Cq(C CP CS:Addr):Sp:=fun vs H Q E=>∃(M:List Addr) (p dx d:Addr) (n g:Nat) (kvs:List (Key×V)) (es:List Ent) (v w u:V),vs=[.ref p,v,w,u]/\bp M C H p dx d n g kvs es/\
 ((uE v w n H/\E (.ref CP) none H)\/(∃b e:Nat,v=.int (b:Nat)/\w=.int (e:Nat)/\b<=e/\e<=n)/\(∀c,u≠ .bl c)/\E (.ref CS) none H)
theorem abr:bE (Cq C CP CS) (fun E=>aH K [("is_between",fA),("is_truth",L2.bA.lU)] [] [] [("size",C,iX C),("keep",C,rz C)] (et:=[("NoPlace",CP),("BadSide",CS)]) (E:=E)) AK AJ:=by
 intro vs H Q E h;obtain⟨M,p,dx,d,n,g,kvs,es,v,w,u,rfl,S,h⟩:=h;have sz:∀{σ:St}{Q1:VK},σ[0]?=some (some<|.ref p)->Q1 (.int (n:Nat)) H->ag (aH K [("is_between",fA),("is_truth",L2.bA.lU)] [] [] [("size",C,iX C),("keep",C,rz C)] (et:=[("NoPlace",CP),("BadSide",CS)]) (E:=E)) (.bc 0 "size" (.v 0) []) σ H Q1:=fun e0 q=>
  iW C (iX C) rfl (ah e0 ⟨p,dx,_,rfl,S.ob,bZ,M,p,dx,d,n,g,kvs,_,rfl,S,q⟩)
 rcases h with⟨hn|⟨b,rfl,hb,hn⟩,q⟩|⟨⟨b,e,rfl,rfl,i7,xy⟩,hu,q⟩
 ·refine aY (gb<|cG<|dB fA rfl<|ao<|ah rfl<|ao<|ar<|ao<|sz rfl<|aC ⟨_,_,_,rfl,.inr ⟨hn,cQ<|iT (iT ?_ rfl) rfl⟩⟩);exact⟨de,q⟩
 ·refine aY (gb<|cG<|dB fA rfl<|ao<|ah rfl<|ao<|ar<|ao<|sz rfl<|aC ⟨_,_,_,rfl,.inl ⟨_,rfl,by lia,by lia,cQ<|iF ?_ rfl⟩⟩)
  refine cG<|dB fA rfl<|ao<|ah rfl<|ao<|ah rfl<|ao<|sz rfl<|aC ⟨_,_,_,rfl,.inr ⟨hn,cQ<|iT ?_ rfl⟩⟩;exact⟨de,q⟩
 ·refine aY (gb<|cG<|dB fA rfl<|ao<|ah rfl<|ao<|ar<|ao<|sz rfl<|aC ⟨_,_,_,rfl,.inl ⟨_,rfl,by lia,by lia,cQ<|iF ?_ rfl⟩⟩)
  refine cG<|dB fA rfl<|ao<|ah rfl<|ao<|ah rfl<|ao<|sz rfl<|aC ⟨_,_,_,rfl,.inl ⟨_,rfl,by lia,by lia,cQ<|iF (cR ?_) rfl⟩⟩
  refine aY<|cG<|dB L2.bA.lU rfl<|ao<|ah rfl<|aC ⟨_,rfl,.inr ⟨hu,cQ<|iT ?_ rfl⟩⟩;exact⟨de,q⟩
def Cr(C CP:Addr):Sp:=fun vs H Q E=>∃(M:List Addr) (p dx d:Addr) (n g:Nat) (kvs:List (Key×V)) (es:List Ent) (v:V),vs=[.ref p,v]/\bp M C H p dx d n g kvs es/\ie v 0 ((n:Int) - 1) H/\E (.ref CP) none H
theorem abt:bE (Cr C CP) (fun E=>aH K [("is_between",fA)] [] [] (mA C) (et:=[("NoPlace",CP)]) (E:=E)) AO AN:=by
 intro vs H Q E h;obtain⟨M,p,dx,d,n,g,kvs,es,v,rfl,S,hn,q⟩:=h;refine aY<|cG<|dB fA rfl<|ao<|ah rfl<|ao<|ar<|ao<|aS<|iW C (iX C) rfl<|ah rfl ⟨p,dx,_,rfl,S.ob,bZ,M,p,dx,d,n,g,kvs,_,rfl,S,ar<|pH<|aC ⟨_,_,_,rfl,.inr ⟨hn,cQ<|iT ?_ rfl⟩⟩⟩;exact⟨de,q⟩
def Cs:Sp:=fun vs H Q E=>∃(c:Int) (n:Nat),vs=[.int c,.int (n:Nat)]/\∀(b e:Nat) t H',b<=e->e<=n->av H H'->H' t=some (.tup [.int (b:Nat),.int (e:Nat)])->Q (.ref t) H'
end
section
variable {K:Frag}{C:Addr}{H H':Hp}
theorem abu{a b:Nat}(h:Q (.int ((max a b:Nat):Int)) H):g_ K .max [.int (a:Nat),.int (b:Nat)] H Q:=by
 refine Ce ?_;rw[show(if (b:Int) >(a:Int) then (b:Int) else (a:Int))=((max a b:Nat):Int) by split<;>lia]
 exact h
theorem Lv{b:RE}(h:ag Γ a σ H fun x H1=>ag Γ b σ H1 fun y H2=>g_ Γ.K .min [x,y] H2 Q):ag Γ (.blt .min [a,b]) σ H Q:=h
theorem abv:bE (Cs) (fun E=>aH K [("_law_mixed",dN)] [] (E:=E)) Iz Iy:=by
 intro vs H Q E h;obtain⟨c,n,rfl,q⟩:=h;refine bD<|aS<|bN dN rfl<|ao<|ah rfl<|ao<|ar<|aC ⟨_,_,rfl,aS<|ah rfl<|ar<|ij<|dt (by lia) ?_⟩
 obtain⟨a,ea⟩:=zaC (zaq (mixed c 7) (show(n:Int)+1≠0 by lia))
 have la:=zap (mixed c 7) (show(0:Int) < (n:Int)+1 by lia)
 rw[ea] at la⊢;refine bD<|aS<|bN dN rfl<|ao<|ah rfl<|ao<|ar<|aC ⟨_,_,rfl,aS<|ah rfl<|ar<|ij<|dt (by lia) ?_⟩
 obtain⟨b,eb⟩:=zaC (zaq (mixed c 9) (show(n:Int)+1≠0 by lia))
 have lb:=zap (mixed c 9) (show(0:Int) < (n:Int)+1 by lia)
 rw[eb] at lb⊢;refine bD<|cL<|ao<|dX<|ao<|Lv<|ah rfl<|ah rfl<|xv<|ao<|B7<|ah rfl<|ah rfl<|abu<|aC ⟨bS,fun t1 f1=>?_⟩;have s1:=sameNew (o:=.tup [V.int ((min a b:Nat):Int),V.int ((max a b:Nat):Int)]) f1;have h1:upd H t1 (.tup [V.int ((min a b:Nat):Int),V.int ((max a b:Nat):Int)]) t1=some (.tup [V.int ((min a b:Nat):Int),V.int ((max a b:Nat):Int)]):=au;generalize upd H t1 (.tup [V.int ((min a b:Nat):Int),V.int ((max a b:Nat):Int)])=H1 at s1 h1⊢;refine ao<|dX<|ao<|ah rfl<|ao<|ah rfl<|aC ⟨bS,fun t2 f2=>?_⟩;have s2:=sameNew (o:=.tup [V.int ((a:Nat):Int),V.int ((a:Nat):Int)]) f2;have h2:upd H1 t2 (.tup [V.int ((a:Nat):Int),V.int ((a:Nat):Int)]) t2=some (.tup [V.int ((a:Nat):Int),V.int ((a:Nat):Int)]):=au;generalize upd H1 t2 (.tup [V.int ((a:Nat):Int),V.int ((a:Nat):Int)])=H2 at s2 h2⊢;refine ao<|dX<|ao<|ar<|ao<|ah rfl<|aC ⟨bS,fun t3 f3=>?_⟩;have s3:=sameNew (o:=.tup [V.int 0,V.int ((n:Nat):Int)]) f3;have h3:upd H2 t3 (.tup [V.int 0,V.int ((n:Nat):Int)]) t3=some (.tup [V.int ((0:Nat):Int),V.int ((n:Nat):Int)]):=au;generalize upd H2 t3 (.tup [V.int 0,V.int ((n:Nat):Int)])=H3 at s3 h3⊢;refine ao<|dX<|ao<|ah rfl<|ao<|Lv<|ah rfl<|aS<|aS<|ah rfl<|ar<|ij<|aS<|ah rfl<|ar<|dt (by decide)<|ij ?_
 rw[show((a:Nat):Int)+1+((b:Nat):Int) % 5=((a+1+b % 5:Nat):Int) by lia]
 refine xv<|aC ⟨bS,fun t4 f4=>?_⟩;have s4:=sameNew (o:=.tup [V.int ((a:Nat):Int),V.int ((min n (a+1+b % 5):Nat):Int)]) f4;have h4:upd H3 t4 (.tup [V.int ((a:Nat):Int),V.int ((min n (a+1+b % 5):Nat):Int)]) t4=some (.tup [V.int ((a:Nat):Int),V.int ((min n (a+1+b % 5):Nat):Int)]):=au;generalize upd H3 t4 (.tup [V.int ((a:Nat):Int),V.int ((min n (a+1+b % 5):Nat):Int)])=H4 at s4 h4⊢;refine aC ⟨MN,fun L fL=>?_⟩;have s5:=sameNew (o:=.lst [V.ref t1,V.ref t2,V.ref t3,V.ref t4]) fL;have h5:upd H4 L (.lst [V.ref t1,V.ref t2,V.ref t3,V.ref t4]) L=some (.lst [V.ref t1,V.ref t2,V.ref t3,V.ref t4]):=au;generalize upd H4 L (.lst [V.ref t1,V.ref t2,V.ref t3,V.ref t4])=H5 at s5 h5⊢;refine cE<|bR<|ah rfl<|bR<|cL<|ao<|ar<|ao<|ar<|ao<|ar<|ao<|ar<|ao<|ar<|ao<|ar<|aC ⟨C9,fun J fJ=>?_⟩;have s6:=sameNew (o:=.lst [V.int 0,V.int 0,V.int 1,V.int 2,V.int 3,V.int 3]) fJ;have h6:upd H5 J (.lst [V.int 0,V.int 0,V.int 1,V.int 2,V.int 3,V.int 3]) J=some (.lst [V.int 0,V.int 0,V.int 1,V.int 2,V.int 3,V.int 3]):=au;generalize upd H5 J (.lst [V.int 0,V.int 0,V.int 1,V.int 2,V.int 3,V.int 3])=H6 at s6 h6⊢;refine aS<|ah rfl<|ar<|dt (by decide) ?_
 have Cu:=(((s3.trans s4).trans s5).trans s6);have sA:=(s1.trans s2).trans Cu;have k0:=zaq c (show(6:Int)≠0 by decide)
 have k6:=zap c (show(0:Int) <6 by decide)
 have rJ:=s6 _ _ h5;have q1:=q (min a b) (max a b) t1 H6 (by lia) (by lia) sA (Cu _ _<|s2 _ _ h1)
 have q2:=q a a t2 H6 (by lia) (by lia) sA (Cu _ _ h2)
 have q3:=q 0 n t3 H6 (by lia) (by lia) sA (s6 _ _<|s5 _ _<|s4 _ _ h3)
 have q4:=q a (min n<|a+1+b % 5) t4 H6 (by lia) (by lia) sA (s6 _ _<|s5 _ _ h4)
 have cs:c % 6=0\/c % 6=1\/c % 6=2\/c % 6=3\/c % 6=4\/c % 6=5:=by lia
 rcases cs with e|e|e|e|e|e<;>rw[e]
 ·exact bC h6 rfl (bC rJ rfl q1)
 ·exact bC h6 rfl (bC rJ rfl q1)
 ·exact bC h6 rfl (bC rJ rfl q2)
 ·exact bC h6 rfl (bC rJ rfl q3)
 ·exact bC h6 rfl (bC rJ rfl q4)
 ·exact bC h6 rfl (bC rJ rfl q4)
end
section
variable {K:Frag}{C:Addr}{H H':Hp}
def eY(b:Int)(v:V)(H:Hp):Prop:=gH v H\/∃i,v=.int i/\(i<0\/b<=i)
theorem eY.same{b:Int}(v:V)(H H':Hp)(h:eY b v H)(s:av H H'):eY b v H':=by
 rcases h with h|h
 ·exact .inl (h.same s)
 ·exact .inr h
theorem eY.pl(h:eY ((n:Int)+1) v H):ie v 0 n H:=by
 rcases h with h|⟨i,e,h⟩
 ·exact .inl h
 ·exact .inr ⟨i,e,by lia⟩
theorem eY.num{g:Nat}{es:List Ent}(h:eY (g:Int) v H)(hl:∀e∈es,e.1<g):pP v es H:=by
 rcases h with h|⟨i,e,h⟩
 ·exact .inl h
 ·exact .inr ⟨i,e,fun e he z=>by have:=hl e he;lia⟩
theorem Lw:gH .aD H:=.inr rfl
theorem Lx{s:Str}:gH (.str s) H:=.inr (K4 rfl)
theorem Ly{a:Addr}(h:H a=some (.lst xs)):gH (.ref a) H:=.inr (qT h rfl)
theorem Lz{a:Addr}(h:H a=some (.tup xs)):gH (.ref a) H:=.inr (wK h rfl)
theorem LA{a:Addr}{xs:List (Key×V)}(h:H a=some (.dK xs)):gH (.ref a) H:=.inr (ZV h rfl)
theorem xR{P:V->Hp->Prop}{es:List RE}{ix:RE}(st:∀v H H',P v H->av H H'->P v H')(hm:∀e∈es,nE P Γ σ e)(hn:es.length<=100){i:Int}(h0:0<=i)(h1:i<es.length)(hi:∀(H1:Hp) (Q1:VK),Q1 (.int i) H1->ag Γ ix σ H1 Q1)(q:∀v H',av H H'->P v H'->Q v H'):ag Γ (.ix (.lst es) ix) σ H Q:=by
 refine bR<|cL<|BS st es hm H _ fun vs H1 s1 hl hv=>⟨bY (by lia),fun a fa=>hi _ _ ?_⟩
 obtain⟨k,rfl⟩:=zaC h0;have hk:k<vs.length:=by lia
 have s2:=sameNew (o:=.lst vs) fa;exact bC (au (a:=a)) (g4<|zay hk)<|q _ _ (s1.trans s2)<|st _ _ _ (hv _<|zaF hk) s2
def uF:Sp:=fun vs H Q E=>∃c b:Int,vs=[.int c,.int b]/\0<=b/\∀v H',av H H'->eY b v H'->Q v H'
theorem abw:bE (uF) (fun E=>aH K [("_law_mixed",dN)] [] (E:=E)) lL tV:=by
 intro vs H Q E h;obtain⟨c,b,rfl,hb,q⟩:=h;refine bD<|bN dN rfl<|ao<|ah rfl<|ao<|ar<|aC ⟨_,_,rfl,?_⟩;have m0:=(AU c 2).1;generalize mixed c 2=m at m0⊢;have m11:=zaq c (show(11:Int)≠0 by decide)
 have l11:=zap c (show(0:Int) <11 by decide)
 refine bD<|cL<|BS (P:=eY b) eY.same _ (fun e he=>?_) H _ fun vs H1 s1 hl hv=>⟨bY (by rw[hl];decide),fun a fa=>?_⟩
 ·simp only[zab,zac,or_false] at he
  rcases he with rfl|rfl|rfl|rfl|rfl|rfl|rfl|rfl|rfl|rfl|rfl
  ·exact fun H Q q=>rA (q _ H (av.refl _)<|.inr ⟨_,rfl,.inl (by decide)⟩)
  ·exact fun H Q q=>ah rfl (q _ H (av.refl _)<|.inr ⟨_,rfl,.inr<|zaI _⟩)
  ·exact gJ fun H=>.inl (.inl ⟨_,rfl⟩)
  ·exact gJ fun H=>.inl Lw
  ·exact gJ fun H=>.inl Lx
  ·exact BU fun a H h=>.inl (Ly h)
  ·exact KU fun a H h=>.inl (Lz h)
  ·exact KW fun a H h=>.inl (LA h)
  ·exact fun H Q q=>aS (ah rfl<|ah rfl<|ij<|q _ H (av.refl _)<|.inr ⟨_,rfl,.inr (by lia)⟩)
  ·exact gJ fun H=>.inl (.inl ⟨_,rfl⟩)
  ·exact fun H Q q=>aS (rA<|ah rfl<|pH<|q _ H (av.refl _)<|.inr ⟨_,rfl,.inl (by lia)⟩)
 have s2:=sameNew (o:=.lst vs) fa;refine cE<|bR<|ah rfl<|aS<|ah rfl<|ar<|dt (by decide) ?_
 obtain⟨k,hk⟩:=zaC m11;have nN:k<vs.length:=by rw[hl];show k<11;lia
 rw[hk];exact bC (au (a:=a)) (g4<|zay nN)<|q _ _ (s1.trans s2)<|eY.same _ _ _ (hv _<|zaF nN) s2
end
section
variable {K:Frag}{M:List Addr}{C:Addr}{H H':Hp}{p dx d rw n g:Nat}{R:List Row}{kvs:List (Key×V)}
theorem LB(k:Nat):∀{kvs:List (Key×V)}{R:List Row},Paired (cH H) kvs R->Paired (cH H) (fN kvs<|.inl (k:Nat)) (R.filter fun x=>decide (x.1≠k))
 |[],[],_=>.nil
 |kv::kvs,e::R,.cons a r=>by
  have ih:=LB k r;obtain⟨v,e1,_⟩:=id a;unfold fN at ih⊢;by_cases hk:e.1=k
  ·rw[zaR (by rw[e1];simp[hk]),zaR (by simp[hk])];exact ih
  ·rw[zaQ (by rw[e1];simp;lia),zaQ (by simp[hk])];exact .cons a ih
theorem LC:∀{kvs:List (Key×V)}{R:List Row},Paired (cH H) kvs R->∀{i:Nat}{kv:Key×V},kvs[i]?=some kv->∃r,R[i]?=some r/\kv.1=.inl ((r.1:Nat):Int)
 |[],[],_,i,kv,h=>by simp at h
 |_::_,r0::_,.cons a r,0,kv,h=>by
  cases h;obtain⟨v,e1,_⟩:=a;exact⟨r0,rfl,by rw[e1]⟩
 |_::kvs,_::R,.cons a r,i+1,kv,h=>LC (i:=i) (kv:=kv) r h
theorem aby(hv:Paired (cH H) kvs R)(up:(R.map (·.1)).Pairwise (· < ·)){r:Row}(he:R[i]?=some r)(v:V):putK kvs (.inl ((r.1:Nat):Int)) v=kvs.set i (.inl ((r.1:Nat):Int),v):=by
 obtain⟨v0,v1,v2,_⟩:=pM hv up he;unfold putK;rw[sj,v2,if_pos (show(some v0).isSome=true from rfl)]
 refine zbM fun j=>?_;rw[zai,zbN];cases hj:kvs[j]? with
 |none=>
  by_cases e1:i=j
  ·subst e1;rw[v1] at hj;cases hj
  ·rw[if_neg e1];rfl
 |some kv=>
  obtain⟨e',dY,hk⟩:=LC (i:=j) (kv:=kv) hv hj;by_cases e1:i=j
  ·subst e1;rw[he] at dY;cases dY;have:=(zam.mp hj).1;rw[if_pos rfl,if_pos this];show some (if kv.1=_ then (kv.1,v) else kv)=_
   rw[if_pos hk,hk]
  ·rw[if_neg e1];show some (if kv.1=_ then (kv.1,v) else kv)=some kv
   rw[if_neg];rw[hk];intro z;have z':((e'.1:Nat):Int)=((r.1:Nat):Int):=Sum.inl.inj z;have z2:e'.1=r.1:=by lia
   exact e1<|pw_inj up (by rw[zai,he];rfl) (by rw[zai,dY];show some e'.1=some r.1;rw[z2])
def pQ(ps:List Pt)(r:Row):Row:=(r.1,mv (fD r.2.2.2) ps r.2.1,mv (fE r.2.2.2) ps r.2.2.1,r.2.2.2)
def Ri(ps:List Pt)(R:List Row)(i:Nat):List Row:=(R.take i).map (pQ ps)++R.drop i
theorem abz(ps:List Pt)(R:List Row):Ri ps R 0=R:=rfl
theorem abA(ps:List Pt)(R:List Row):Ri ps R R.length=R.map (pQ ps):=by unfold Ri;rw[zaG,List.drop_length,zaj]
theorem LD(ps:List Pt)(R:List Row)(i:Nat):(Ri ps R i).map (·.1)=R.map (·.1):=by
 unfold Ri;rw[zat,zaB];show(R.take i).map (·.1)++_=_;rw[<-zat,zby]
theorem LF{R:List Row}{r:Row}(h:R[i]?=some r):(Ri ps R i)[i]?=some r:=by
 have hi:=(zam.mp h).1;unfold Ri;rw[zbo (by rw[zaa,zau];lia),zaa,zau,Nat.min_eq_left (by lia),Nat.sub_self,List.getElem?_drop,zbv];exact h
theorem abB{R:List Row}{r:Row}(h:R[i]?=some r):(Ri ps R i).set i (pQ ps r)=Ri ps R (i+1):=by
 obtain⟨hi,e⟩:=zam.mp h;unfold Ri;rw[List.set_append_right _ _ (by rw[zaa,zau];lia),zaa,zau,Nat.min_eq_left (by lia),Nat.sub_self,zbT hi,e,List.set_cons_zero,pI h,zat,zbf];rfl
theorem abC(ps:List Pt)(R:List Row):(eR R).map (uq ps)=eR (R.map<|pQ ps):=by
 rw[eR,eR,zaB,zaB]
 rfl
theorem abD(h:ag Γ a σ H fun x H1=>tN Γ.K [x] H1 Q):ag Γ (.xt wj [a]) σ H Q:=h
theorem LG(h:ag Γ a σ H fun x H1=>g_ Γ.K .int [x] H1 Q):ag Γ (.blt .int [a]) σ H Q:=h
def Cv:Sp:=fun vs H Q E=>∃(rw a:Addr) (kr:List (Key×V)) (R:List Row) (ys:List V) (ps:List Pt),vs=[.ref rw,.ref a]/\H rw=some (.dK kr)/\Paired (cH H) kr R/\(R.map (·.1)).Pairwise (· < ·)/\R.length<=1000/\H a=some (.lst ys)/\bL H ys ps/\(∀q∈ps,gA q)/\chainOk "" ps=true/\ps.length<=1000/\(∀r∈R,r.2.1<=bq ps/\r.2.2.1<=bq ps)/\
 ∀LH H',bQ rw H H'->H' rw=some (.dK LH)->Paired (cH H') LH (R.map<|pQ ps)->Q .aD H'
theorem abE:bE (Cv) (fun E=>aH K [("moved",ui)] [] (E:=E)) Jf Je:=by
 intro vs H Q E h;obtain⟨rw,a,kr,R,ys,ps,rfl,hr,hp,up,hl,ha,pv,ok,ch,lp,gg,k⟩:=h;have nar:a≠rw:=fun z=>by rw[z,hr] at ha;cases ha
 refine rq<|abD<|ah rfl ⟨rw,kr,rfl,hr,fun l fl=>?_⟩;rw[B4 hp];have s3:=sameNew (o:=.lst ((kI R).map V.int)) fl;have lW:upd H l (.lst<|(kI R).map V.int) l=some (.lst<|(kI R).map V.int):=au;show ∃a,V.ref l=.ref a/\_;generalize upd H l (.lst<|(kI R).map V.int)=H3 at s3 lW⊢;have uG:=s3 _ _ hr;have nlr:l≠rw:=fun z=>by rw[z,hr] at fl;cases fl
 refine⟨l,rfl,⟨_,ay.of lW⟩,iB (K:=K) (a:=l) (xs:=(kI R).map V.int) (fun i σ H4=>i<=R.length/\∃(u2 u3 u4 u5 u6:Option V) (ki:List (Key×V)),σ=[some (.ref rw),some (.ref a),u2,u3,u4,u5,u6]/\H4 rw=some (.dK ki)/\Paired (cH H4) ki (Ri ps R i)/\bQ rw H3 H4)
  ⟨zqZ _,none,none,none,none,none,kr,rfl,uG,by rw[abz];exact Paired.b9 hp fun _ _ z=>cH.mono (dc s3) z,fun b o e _=>e⟩ (fun i σ H4 _ ⟨_,_,_,_,_,_,_,_,_,_,b4⟩=>ay.of (b4 _ _ lW nlr)) ?_ ?_⟩
 ·rintro i v σ H4 hv ⟨_,u2,u3,u4,u5,u6,ki,rfl,iZ,nP,b4⟩;have hi:i<R.length:=by have:=(zam.mp hv).1;rwa [zaa,zaa] at this
  have kg:R[i]?=some R[i]:=by simp[hi]
  rw[zai,zai,kg] at hv;have LI:R[i]∈R:=zaF hi;generalize R[i]=rr at kg hv LI;cases hv;show aA (aH K [("moved",ui)] [] (E:=E)) _ _ [some<|.ref rw,some<|.ref a,some<|.int ((rr.1:Nat):Int),u3,u4,u5,u6] H4;have LJ:((Ri ps R i).map (·.1)).Pairwise (· < ·):=by rw[LD];exact up
  obtain⟨v,e1,e2,t,rfl,ht⟩:=pM nP LJ (LF kg);have hg4:cC H4 rw (.int ((rr.1:Nat):Int)) (some<|.ref t):=by
   have:=cC.k (k:=.inl ((rr.1:Nat):Int)) iZ;rw[e2] at this;exact this
  refine uo<|gf<|ah rfl<|ah rfl ⟨rw,_,rfl,hg4,BO ht ?_⟩;have t34:gz H3 H4:=fun y us e=>b4 _ _ e (fun z=>by rw[z,uG] at e;cases e)
  obtain⟨hpb,hpe⟩:=gg rr LI;refine bD<|bR<|cL<|ao<|dX<|ao<|ar<|ao<|ar<|aC ⟨bS,fun x1 f1=>?_⟩;have z1:=sameNew (o:=.tup [V.str "right",V.str "left"]) f1;have y1:upd H4 x1 (.tup [V.str "right",V.str "left"]) x1=some (.tup [V.str "right",V.str "left"]):=au;generalize upd H4 x1 (.tup [V.str "right",V.str "left"])=G1 at z1 y1⊢;refine ao<|dX<|ao<|ar<|ao<|ar<|aC ⟨bS,fun x2 f2=>?_⟩;have z2:=sameNew (o:=.tup [V.str "left",V.str "right"]) f2;have y2:upd G1 x2 (.tup [V.str "left",V.str "right"]) x2=some (.tup [V.str "left",V.str "right"]):=au;generalize upd G1 x2 (.tup [V.str "left",V.str "right"])=G2 at z2 y2⊢;refine aC ⟨bS,fun L fL=>?_⟩;have z3:=sameNew (o:=.lst [V.ref x1,V.ref x2]) fL;have y3:upd G2 L (.lst [V.ref x1,V.ref x2]) L=some (.lst [V.ref x1,V.ref x2]):=au;generalize upd G2 L (.lst [V.ref x1,V.ref x2])=G3 at z3 y3⊢;refine LG<|ah rfl ?_;have zz:=(z1.trans z2).trans z3;obtain⟨sx,ex,LK⟩:∃sx,dC [V.ref x1,V.ref x2] (if rr.2.2.2=true then 1 else 0)=some (V.ref sx)/\G3 sx=some (.tup [V.str<|fD rr.2.2.2,V.str<|fE rr.2.2.2]):=by
   cases rr.2.2.2
   ·exact⟨x1,rfl,z3 _ _<|z2 _ _ y1⟩
   ·exact⟨x2,rfl,z3 _ _ y2⟩
  refine bC y3 ex ?_;have b5:bQ rw H3 G3:=fun z o e nz=>zz _ _ (b4 _ _ e nz);have tA:gz H3 G3:=fun y us e=>b5 _ _ e (fun z=>by rw[z,uG] at e;cases e)
  have pR:=zz _ _ iZ;have LL:=b5 _ _ (s3 _ _ ha) nar;have LM:=(pv.mono<|dc s3).mono tA;refine nA<|dX<|ao<|bN ui rfl<|ao<|ah rfl<|ao<|ah rfl<|ao<|bR<|ah rfl<|ar<|ig LK rfl<|aC ⟨a,ys,ps,rr.2.1,fD rr.2.2.2,rfl,LL,LM,ok,ch,lp,hpb,K5 _,fun H5 s5=>?_⟩;refine ao<|bN ui rfl<|ao<|ah rfl<|ao<|ah rfl<|ao<|bR<|ah rfl<|ar<|ig (s5 _ _ LK) rfl<|aC ⟨a,ys,ps,rr.2.2.1,fE rr.2.2.2,rfl,s5 _ _ LL,LM.mono<|dc s5,ok,ch,lp,hpe,K6 _,fun H6 s6=>?_⟩;refine ao<|ah rfl<|aC ⟨nU,fun t2 ft=>?_⟩;have s7:=sameNew (o:=.tup [V.int ((mv (fD rr.2.2.2) ps rr.2.1:Nat):Int),V.int ((mv (fE rr.2.2.2) ps rr.2.2.1:Nat):Int),V.bl rr.2.2.2]) ft;have rG:upd H6 t2 (.tup [V.int ((mv (fD rr.2.2.2) ps rr.2.1:Nat):Int),V.int ((mv (fE rr.2.2.2) ps rr.2.2.1:Nat):Int),V.bl rr.2.2.2]) t2=some (.tup [V.int ((mv (fD rr.2.2.2) ps rr.2.1:Nat):Int),V.int ((mv (fE rr.2.2.2) ps rr.2.2.1:Nat):Int),V.bl rr.2.2.2]):=au;have sX:=((zz.trans s5).trans s6).trans s7;generalize upd H6 t2 (.tup [V.int ((mv (fD rr.2.2.2) ps rr.2.1:Nat):Int),V.int ((mv (fE rr.2.2.2) ps rr.2.2.1:Nat):Int),V.bl rr.2.2.2])=H7 at rG sX⊢;have LN:=sX _ _ iZ;have li:ki.length=R.length:=by
   have h1:=Paired.length nP;have h2:=congrArg List.length (LD ps R i);rw[zaa,zaa] at h2;lia
  refine ah rfl<|ah rfl ⟨rw,_,rfl,g5.k (k:=.inl ((rr.1:Nat):Int)) LN<|cP (by lia),?_⟩
  have LO:Paired (cH H7) ki (Ri ps R i):=Paired.b9 nP fun _ _ z=>cH.mono (dc sX) z;rw[aby LO LJ<|LF kg];have b8:bQ rw H7 (upd H7 rw (.dK<|ki.set i (.inl ((rr.1:Nat):Int),V.ref t2))):=bQ.upd;have LP:gz H7 (upd H7 rw (.dK<|ki.set i (.inl ((rr.1:Nat):Int),V.ref t2))):=fun y us e=>b8 _ _ e (fun z=>by rw[z,LN] at e;cases e)
  refine⟨hi,_,_,_,_,_,_,rfl,au,?_,fun z o e nz=>b8 _ _ (sX _ _<|b4 _ _ e nz) nz⟩;rw[<-abB (ps:=ps) kg];exact BP (fun _ _ z=>cH.mono LP z) LO i ⟨.ref t2,rfl,t2,rfl,LP _ _ rG⟩
 ·rintro σ H4 ⟨_,u2,u3,u4,u5,u6,ki,rfl,iZ,nP,b4⟩;rw[show((kI R).map V.int).length=R.length by rw[zaa,zaa],abA] at nP
  exact k ki H4 (fun z o e nz=>b4 _ _ (s3 _ _ e) nz) iZ nP
end
section
variable {K:Frag}{M:List Addr}{C CP CS CM CC CF:Addr}{H H':Hp}{p dx d:Addr}{n g:Nat}{kvs:List (Key×V)}{es:List Ent}
variable {cs:List Addr}{bF CE:Addr}
theorem nQ(hw:Γ.hs 0=xb Γ.K cs bF)(kE:jE Γ.K cs bF CE j)(hj:j<13)(xE:exmOne Γ.K (.ref CE) (.ref bF)=some true)(q:∀H',av H H'->D.rt (.str<|iV.getD j "") H'):
  zi Γ.K bF 3 4 (fun ea=>aA {Γ with E:=E0,hv:=some ea} [.ret<|.vK 0<|.v 3]) D (.ref CE) none H:=by
 refine⟨xE,fun ea ob vs σ' lj hl oy=>?_⟩;have s1:=sameNew (o:=.a_ ob k8) lj;have he:ExcAt (upd H ea<|.a_ ob k8) ea CE:=⟨ob,vs,au,oy⟩;refine cE ⟨_,(by rw[zbO (by lia)]),⟨ea,CE,rfl,he⟩,?_⟩
 show Γ.hs 0 [.ref ea] _ _ _;rw[hw];exact⟨ea,CE,j,rfl,he,kE,hj,fun H2 s2=>q _<|s1.trans s2⟩
theorem Cw{m:Str}{b c:RE}(C:Addr)(sp:Sp)(hm:Γ.ms j=(C,sp))(h:ag Γ o σ H fun x H1=>∃p dx fs,x=.ref p/\H1 p=some (.ins C dx fs)/\fs.lookup m=none/\ag Γ a σ H1 fun y H2=>ag Γ b σ H2 fun z H3=>ag Γ c σ H3 fun w H4=>sp [x,y,z,w] H4 Q Γ.E):ag Γ (.bc j m o [a,b,c]) σ H Q:=by
 show mj (Γ.ms j).1 m (Γ.ms j).2 [] Γ.E (ag Γ o) (aM Γ [a,b,c]) σ H Q;rw[hm];exact h
def Rf(n:Nat)(es:List Ent)(w:Int)(xs:List V)(H:Hp)(s:Str):Prop:=
 (w=0/\∃v,xs=[v]/\rH v H/\s="place")\/(w=1/\∃v u z,xs=[v,u,z]/\((uE v u n H/\s="place")\/(∃b e:Nat,v=.int (b:Nat)/\u=.int (e:Nat)/\b<=e/\e<=n)/\(∀c,z≠ .bl c)/\s="side"))\/
 ((w=2\/w=3)/\∃v,xs=[v]/\pP v es H/\s="mark")\/(w=4/\∃v,xs=[v]/\ie v 0 ((n:Int) - 1) H/\s="place")\/
 (w=5/\∃v,xs=[v]/\((jD v H/\s="change")\/((∃ps,BE v H ps/\bq ps≠n)/\s="fit")))
def Cy(C:Addr):Sp:=fun vs H Q E=>∃(M:List Addr) (p dx d tl:Addr) (n g:Nat) (kvs:List (Key×V)) (es:List Ent) (w:Int) (xs:List V) (s:Str),vs=[.ref p,.int w,.ref tl]/\bp M C H p dx d n g kvs es/\H tl=some (.lst xs)/\Rf n es w xs H s/\∀H',av H H'->Q (.str s) H'
abbrev mT(C CP CS CM CC CF:Addr):List (Str×Addr×Sp):=[("add",C,Cq C CP CS),("drop",C,kf C CM),("told",C,kf C CM),("at",C,Cr C CP),("changed",C,BR C CC CF)]
theorem abK(kC:jE K cs bF CC 1)(kF:jE K cs bF CF 2)(kP:jE K cs bF CP 3)(kS:jE K cs bF CS 4)(kM:jE K cs bF CM 5)(xC:exmOne K (.ref CC) (.ref bF)=some true)(xF:exmOne K (.ref CF) (.ref bF)=some true)(xP:exmOne K (.ref CP) (.ref bF)=some true)(xS:exmOne K (.ref CS) (.ref bF)=some true)(xM:exmOne K (.ref CM) (.ref bF)=some true)
  (vs:List V) (H:Hp) (Q:VK) (E:XK) (h:Cy C vs H Q E):
  aA (aH K [] [("InkError",.ref bF)] [] (mT C CP CS CM CC CF) [("Spans",C,Cp CP)] (ht:=[("_law_word",xb K cs bF)]) (E:=E)) IC (Dn Q) (start IB vs) H:=by
 obtain⟨M,p,dx,d,tl,n,g,kvs,es,w,xs,s,rfl,S,ht,h,q⟩:=h;refine⟨bF,rfl,?_⟩;rcases h with⟨rfl,v,rfl,hn,rfl⟩|⟨rfl,v,u,z,rfl,h⟩|⟨hw,v,rfl,hn,rfl⟩|⟨rfl,v,rfl,hn,rfl⟩|⟨rfl,v,rfl,h⟩
 ·refine aY (bo<|ah rfl<|ar<|cp ⟨_,rfl,iT ?_ rfl⟩);refine f9<|xi C (Cp CP) rfl<|bR<|ah rfl<|ar<|bC ht rfl fun x ez hx hd d6=>?_;have s1:av H (upd (upd H ez<|.own x) x<|.ins C ez []):=fun b o e=>by rw[ax<|aL e hx,ax<|aL e hd];exact e
  exact⟨x,v,rfl,hn.same s1,nQ rfl kP (by decide) xP fun H' s'=>q _ (s1.trans s')⟩
 ·refine aY (bo<|ah rfl<|ar<|cp ⟨_,rfl,iF ?_ rfl⟩);refine aY<|bo<|ah rfl<|ar<|cp ⟨_,rfl,iT ?_ rfl⟩;refine f9<|Cw C (Cq C CP CS) rfl<|ah rfl ⟨p,dx,_,rfl,S.ob,bZ,bR<|ah rfl<|ar<|bC ht rfl<|bR<|ah rfl<|ar<|bC ht rfl<|bR<|ah rfl<|ar<|bC ht rfl ⟨M,p,dx,d,n,g,kvs,es,v,u,z,rfl,S,?_⟩⟩;rcases h with⟨hn,rfl⟩|⟨hb,hz,rfl⟩
  ·exact .inl ⟨hn,nQ rfl kP (by decide) xP q⟩
  ·exact .inr ⟨hb,hz,nQ rfl kS (by decide) xS q⟩
 ·rcases hw with rfl|rfl
  ·refine aY (bo<|ah rfl<|ar<|cp ⟨_,rfl,iF ?_ rfl⟩);refine aY<|bo<|ah rfl<|ar<|cp ⟨_,rfl,iF ?_ rfl⟩;refine aY<|bo<|ah rfl<|ar<|cp ⟨_,rfl,iT ?_ rfl⟩;exact f9<|eK C (kf C CM) rfl<|ah rfl ⟨p,dx,_,rfl,S.ob,bZ,bR<|ah rfl<|ar<|bC ht rfl ⟨M,p,dx,d,n,g,kvs,es,v,rfl,S,hn,nQ rfl kM (by decide) xM q⟩⟩
  ·refine aY (bo<|ah rfl<|ar<|cp ⟨_,rfl,iF ?_ rfl⟩);refine aY<|bo<|ah rfl<|ar<|cp ⟨_,rfl,iF ?_ rfl⟩;refine aY<|bo<|ah rfl<|ar<|cp ⟨_,rfl,iF ?_ rfl⟩;refine aY<|bo<|ah rfl<|ar<|cp ⟨_,rfl,iT ?_ rfl⟩;exact f9<|eK C (kf C CM) rfl<|ah rfl ⟨p,dx,_,rfl,S.ob,bZ,bR<|ah rfl<|ar<|bC ht rfl ⟨M,p,dx,d,n,g,kvs,es,v,rfl,S,hn,nQ rfl kM (by decide) xM q⟩⟩
 ·refine aY (bo<|ah rfl<|ar<|cp ⟨_,rfl,iF ?_ rfl⟩);refine aY<|bo<|ah rfl<|ar<|cp ⟨_,rfl,iF ?_ rfl⟩;refine aY<|bo<|ah rfl<|ar<|cp ⟨_,rfl,iF ?_ rfl⟩;refine aY<|bo<|ah rfl<|ar<|cp ⟨_,rfl,iF ?_ rfl⟩;refine aY<|bo<|ah rfl<|ar<|cp ⟨_,rfl,iT ?_ rfl⟩;exact f9<|eK C (Cr C CP) rfl<|ah rfl ⟨p,dx,_,rfl,S.ob,bZ,bR<|ah rfl<|ar<|bC ht rfl ⟨M,p,dx,d,n,g,kvs,es,v,rfl,S,hn,nQ rfl kP (by decide) xP q⟩⟩
 ·refine aY (bo<|ah rfl<|ar<|cp ⟨_,rfl,iF ?_ rfl⟩);refine aY<|bo<|ah rfl<|ar<|cp ⟨_,rfl,iF ?_ rfl⟩;refine aY<|bo<|ah rfl<|ar<|cp ⟨_,rfl,iF ?_ rfl⟩;refine aY<|bo<|ah rfl<|ar<|cp ⟨_,rfl,iF ?_ rfl⟩;refine aY<|bo<|ah rfl<|ar<|cp ⟨_,rfl,iF ?_ rfl⟩;refine f9<|eK C (BR C CC CF) rfl<|ah rfl ⟨p,dx,_,rfl,S.ob,bZ,bR<|ah rfl<|ar<|bC ht rfl ⟨M,p,dx,d,n,g,kvs,es,v,rfl,S,?_⟩⟩;rcases h with⟨hn,rfl⟩|⟨⟨ps,hg,ur⟩,rfl⟩
  ·exact .inl ⟨hn,fun H' s'=>nQ rfl kC (by decide) xC fun H2 s2=>q _ (s'.trans s2)⟩
  ·exact .inr ⟨ps,hg,ur,fun H' s'=>nQ rfl kF (by decide) xF fun H2 s2=>q _ (s'.trans s2)⟩
end
section
variable {K:Frag}{C:Addr}{H H':Hp}{M:List Addr}{p dx d rw n g:Nat}{R:List Row}{ow:Addr}{x:Str}{kvs:List (Key×V)}{es:List Ent}{L:List Addr}
theorem bp.Cz(S:bp M C H p dx d n g kvs es)(b:∀b o,H b=some o->b∉L->H' b=some o)(kL:∀l∈L,∃kvs,H l=some (.dK kvs))(nd:d∉L)(al':∀m∈M,∃o,H' m=some o):bp M C H' p dx d n g kvs es:=by
 have nl:∀{z:Addr}{o:HO},H z=some o->(∀kvs,o≠ .dK kvs)->z∉L:=fun e h hz=>by
  obtain⟨k,ek⟩:=kL _ hz;rw[e] at ek;cases ek;exact h _ rfl
 exact⟨b _ _ S.ob (nl S.ob fun _ z=>by cases z),b _ _ S.st nd,Paired.b9 S.kv fun kv e ⟨l,xs,e1,e2,e3,e4⟩=>⟨l,xs,e1,b _ _ e2 (nl e2 fun _ z=>by cases z),Paired.b9 e3 fun v q ⟨t,a1,a2⟩=>⟨t,a1,b _ _ a2 (nl a2 fun _ z=>by cases z)⟩,e4⟩,S.up,S.lt,S.pl,al'⟩
theorem LQ{R:List Row}(h:Paired (cH H) kvs R)(b:∀b o,H b=some o->b∉L->H' b=some o)(kL:∀l∈L,∀xs,H l≠some (.tup xs)):Paired (cH H') kvs R:=
 Paired.b9 h fun kv r ⟨v,e,t,a1,a2⟩=>⟨v,e,t,a1,b _ _ a2 fun hz=>kL _ hz _ a2⟩
theorem bO.rK(A:bO M C H p dx d rw n g R){T:Addr}(hT:H T=some (.lst xs))(mT:T∈M)(b:bQ T H H')(lX:∃o,H' T=some o):bO M C H' p dx d rw n g R:=by
 obtain⟨⟨kvs,S⟩,⟨cA,h1,h2⟩,ne⟩:=A;have nl:∀{z:Addr}{o:HO},H z=some o->(∀xs,o≠ .lst xs)->z≠T:=fun e h hz=>by
  subst hz;rw[e] at hT;cases hT;exact h _ rfl
 refine⟨⟨kvs,b _ _ S.ob (nl S.ob fun _ z=>by cases z),b _ _ S.st (nl S.st fun _ z=>by cases z),Paired.b9 S.kv fun kv e ⟨l,xs,e1,e2,e3,e4⟩=>⟨l,xs,e1,b _ _ e2<|fun z=>e4<|z ▸ mT,Paired.b9 e3 fun v q ⟨t,a1,a2⟩=>⟨t,a1,b _ _ a2 (nl a2 fun _ z=>by cases z)⟩,e4⟩,S.up,S.lt,S.pl,fun m hm=>?_⟩,⟨cA,b _ _ h1 (nl h1 fun _ z=>by cases z),Paired.b9 h2 fun kv r ⟨v,e,t,a1,a2⟩=>⟨v,e,t,a1,b _ _ a2 (nl a2 fun _ z=>by cases z)⟩⟩,ne⟩
 by_cases e:m=T
 ·rw[e];exact lX
 ·obtain⟨o,z⟩:=S.al m hm;exact⟨o,b _ _ z e⟩
theorem bO.nod(A:bO M C H p dx d rw n g R)(ho:H ow=some (.dK<|oW rw g x)):ow≠p/\ow≠d/\ow≠rw/\rw≠p:=by
 obtain⟨⟨kvs,S⟩,⟨cA,h1,h2⟩,ne⟩:=A;refine⟨fun z=>?_,fun z=>?_,fun z=>?_,fun z=>?_⟩
 ·rw[z,S.ob] at ho;cases ho
 ·rw[z,S.st] at ho;cases ho;have k:=S.kv;generalize eR R=es at k;cases k with
  |cons a r=>obtain⟨l,xs,e1,_⟩:=a;cases e1
 ·rw[z,h1] at ho;cases ho;cases h2 with
  |cons a r=>obtain⟨v,e1,_⟩:=a;cases e1
 ·rw[z,S.ob] at h1;cases h1
def LR(p d rw ow:Addr)(H H':Hp):Prop:= ∀b o,H b=some o->b≠p->b≠d->b≠rw->b≠ow->H' b=some o
def dZ(T:Addr)(H:Hp)(v:V):Prop:= ∃(t a b:Addr) (ns:List Int),v=.ref t/\H t=some (.tup [.ref a,.ref b])/\a≠T/\b≠T/\H a=some (.lst<|ns.map V.int)/\H b=some (.lst<|ns.map V.int)
theorem dZ.but{T:Addr}(hT:H T=some (.lst xs))(b:bQ T H H')(h:dZ T H v):dZ T H' v:=by
 obtain⟨t,a,c,ns,rfl,h1,h2,h3,h4,h5⟩:=h;exact⟨t,a,c,ns,rfl,b _ _ h1 (fun z=>by rw[z,hT] at h1;cases h1),h2,h3,b _ _ h4 h2,b _ _ h5 h3⟩
theorem dZ.abN{T:Addr}(A:bO M C H p dx d rw n g R)(ho:H ow=some (.dK<|oW rw g x))(b:LR p d rw ow H H')(h:dZ T H v):dZ T H' v:=by
 obtain⟨⟨kvs,S⟩,⟨cA,k1,k2⟩,ne⟩:=A;obtain⟨t,a,c,ns,rfl,h1,h2,h3,h4,h5⟩:=h;have u:∀{z:Addr}{o:HO},H z=some o->(∀C dx fs,o≠ .ins C dx fs)->(∀kvs,o≠ .dK kvs)->H' z=some o:=fun e h1 h2=>b _ _ e (fun z=>by rw[z,S.ob] at e;cases e;exact h1 _ _ _ rfl) (fun z=>by rw[z,S.st] at e;cases e;exact h2 _ rfl) (fun z=>by rw[z,k1] at e;cases e;exact h2 _ rfl) (fun z=>by rw[z,ho] at e;cases e;exact h2 _ rfl)
 exact⟨t,a,c,ns,rfl,u h1 (fun _ _ _ z=>by cases z) (fun _ z=>by cases z),h2,h3,u h4 (fun _ _ _ z=>by cases z) (fun _ z=>by cases z),u h5 (fun _ _ _ z=>by cases z) (fun _ z=>by cases z)⟩
theorem dZ.same{T:Addr}(s:av H H')(h:dZ T H v):dZ T H' v:=by
 obtain⟨t,a,c,ns,rfl,h1,h2,h3,h4,h5⟩:=h;exact⟨t,a,c,ns,rfl,s _ _ h1,h2,h3,s _ _ h4,s _ _ h5⟩
def CA(C:Addr):Sp:=fun vs H Q E=>∃(M:List Addr) (p dx d rw n g:Nat) (R:List Row) (T:Addr) (hs:List V) (c:Int),vs=[.ref p,.int (n:Nat),.int c,.ref T]/\bO M C H p dx d rw n g R/\R.length<32/\H T=some (.lst hs)/\T∈M/\hs.length<=1000/\(∀v∈hs,dZ T H v)/\
 ∀bW H',H' T=some (.lst bW)->bW.length<=hs.length+2->(∀v∈bW,dZ T H' v)->bQ T H H'->Q .aD H'
abbrev CB(K:Frag)(C:Addr)(E:XK):aJ:=aH K [("_law_mixed",dN)] [] [] [("bounds",C,uz C),("numbers",C,kd C),("at",C,nG C)] (E:=E)
theorem LS(h:ag Γ a σ H fun x H1=>g_ Γ.K .list [x] H1 Q):ag Γ (.blt .list [a]) σ H Q:=h
def Ws(v:V)(H:Hp):Prop:= ∃(a:Addr) (ws:List Int),v=.ref a/\H a=some (.lst<|ws.map V.int)/\ws.length<=2
theorem abO:bE (CA C) (fun E=>CB K C E) tW AQ:=by
 intro vs H Q E h;obtain⟨M,p,dx,d,rw,n,g,R,T,hs,c,rfl,A,nJ,hT,mT,lh,hd,q⟩:=h;have dG:R.length<64:=by lia
 have m5:=zaq (mixed c 19) (show(8:Int)≠0 by decide)
 have l5:=zap (mixed c 19) (show(0:Int) <8 by decide)
 refine rq<|xR (P:=Ws) (fun v H H' ⟨a,ws,e,h,l⟩ s=>⟨a,ws,e,s _ _ h,l⟩) (fun e he=>?_) (by decide) m5 l5 (fun H1 Q1 q1=>aS<|bN dN rfl<|ao<|ah rfl<|ao<|ar<|aC ⟨_,_,rfl,ar<|dt (by decide) q1⟩) fun v H1 s1 ⟨a,ws,ev,ha,lw⟩=>?_
 ·simp only[zab,zac,or_false] at he
  rcases he with rfl|rfl|rfl|rfl|rfl|rfl|rfl|rfl
  ·exact fun H Q q=>cL (aC ⟨zqZ _,fun a fa=>q _ _ (sameNew fa) ⟨a,[],rfl,au,zqZ _⟩⟩)
  ·exact fun H Q q=>cL (ao<|ar<|aC ⟨de,fun a fa=>q _ _ (sameNew fa) ⟨a,[0],rfl,au,(by decide)⟩⟩)
  ·exact fun H Q q=>cL (ao<|ar<|aC ⟨de,fun a fa=>q _ _ (sameNew fa) ⟨a,[1],rfl,au,(by decide)⟩⟩)
  ·exact fun H Q q=>cL (ao<|ar<|aC ⟨de,fun a fa=>q _ _ (sameNew fa) ⟨a,[2],rfl,au,(by decide)⟩⟩)
  ·exact fun H Q q=>cL (ao<|ar<|ao<|ar<|aC ⟨bS,fun a fa=>q _ _ (sameNew fa) ⟨a,[0,1],rfl,au,(by decide)⟩⟩)
  ·exact fun H Q q=>cL (ao<|ar<|ao<|ar<|aC ⟨bS,fun a fa=>q _ _ (sameNew fa) ⟨a,[1,0],rfl,au,(by decide)⟩⟩)
  ·exact fun H Q q=>cL (ao<|ar<|ao<|ar<|aC ⟨bS,fun a fa=>q _ _ (sameNew fa) ⟨a,[1,2],rfl,au,(by decide)⟩⟩)
  ·exact fun H Q q=>cL (ao<|ar<|ao<|ar<|aC ⟨bS,fun a fa=>q _ _ (sameNew fa) ⟨a,[2,0],rfl,au,(by decide)⟩⟩)
 subst ev;have j7:=s1 _ _ hT;have naT:ws≠ []->a≠T:=fun hw z=>by
  rw[z,j7] at ha;cases ws with
  |nil=>exact hw rfl
  |cons w ws=>
   have e:hs=V.int w::ws.map V.int:=by cases ha;rfl
   obtain⟨t,_,_,_,e',_⟩:=hd (V.int w) (by rw[e];exact .head _)
   cases e'
 refine⟨a,rfl,⟨_,ay.of ha⟩,iB (K:=K) (a:=a) (xs:=ws.map V.int) (fun i σ H2=>∃(u4 u5:Option V) (bW:List V),σ=[some (.ref p),some (.int (n:Nat)),some (.int c),some (.ref T),u4,u5]/\H2 a=some (.lst (ws.map V.int))/\H2 T=some (.lst bW)/\bW.length<=hs.length+i/\(∀v∈bW,dZ T H2 v)/\bQ T H1 H2)
  ⟨none,none,hs,rfl,ha,j7,zqR _,fun v hv=>(hd v hv).same s1,fun b o e _=>e⟩ (fun i σ H2 _ ⟨_,_,_,_,h,_⟩=>ay.of h) ?_ ?_⟩
 ·rintro i v σ H2 hv ⟨u4,u5,bW,rfl,pj,kh,LU,hd2,b2⟩;have nw:ws≠ []:=fun z=>by rw[z] at hv;simp at hv
  have nT:=naT nw;have hiw:i<ws.length:=by have:=(zam.mp hv).1;rwa [zaa] at this
  obtain⟨w,_,rfl⟩:=zax.mp (zav hv);show aA (CB K C E) _ _ [some<|.ref p,some<|.int (n:Nat),some<|.int c,some<|.ref T,some<|.int w,u5] H2;have A2:=(A.same s1).rK j7 mT b2 ⟨_,kh⟩;obtain⟨⟨uH,S2⟩,_⟩:=id A2;have main:∀(l:Addr) (ns:List Int) (H3:Hp) (D:Ends),av H2 H3->H2 l=none->H3 l=some (.lst<|ns.map V.int)->(∀(u4 u5:Option V) (gM:List V) (H4:Hp),H4 a=some (.lst<|ws.map V.int)->H4 T=some (.lst gM)->gM.length<=hs.length+(i+1)->(∀v∈gM,dZ T H4 v)->bQ T H1 H4->D.nx [some<|.ref p,some<|.int (n:Nat),some<|.int c,some<|.ref T,u4,u5] H4)->
    aA (CB K C E) [.drop<|.dn .append (.v 3) [(.tup [.v 5,(.blt .list [.v 5])])]] D [some<|.ref p,some<|.int (n:Nat),some<|.int c,some<|.ref T,some<|.int w,some<|.ref l] H3:=by
   intro l ns H3 D s3 fl hl kk;have hT3:=s3 _ _ kh;refine f9<|xj<|ah rfl ⟨.inl ⟨rfl,_,ay.of hT3⟩,dX<|ao<|ah rfl<|ao ?_⟩;refine LS<|ah rfl ⟨_,.inl<|ay.of hl,fun l2 f2=>?_⟩;have t1:=sameNew (o:=.lst (ns.map V.int)) f2;refine aC ⟨bS,fun t ft=>?_⟩;have t2:=sameNew (o:=.tup [V.ref l,V.ref l2]) ft;have h1:=t2 _ _ (t1 _ _ hl);have h2:=t2 _ _ (au (H:=H3) (a:=l2) (o:=.lst (ns.map V.int)));have h3:upd (upd H3 l2<|.lst<|ns.map V.int) t (.tup [V.ref l,V.ref l2]) t=some (.tup [V.ref l,V.ref l2]):=au;have s4:=(s3.trans t1).trans t2;have LV:H2 l2=none:=s3.free f2;generalize upd (upd H3 l2<|.lst<|ns.map V.int) t (.tup [V.ref l,V.ref l2])=H4 at h1 h2 h3 s4⊢;have CG:=s4 _ _ kh;have CH:l≠T:=fun z=>by rw[z,kh] at fl;cases fl
   have abR:l2≠T:=fun z=>by rw[z,kh] at LV;cases LV
   refine⟨_,CG,cP (by lia),?_⟩
   have b5:bQ T H4 (upd H4 T<|.lst<|bW++[.ref t]):=bQ.upd;refine kk _ _ _ _ (b5 _ _ (s4 _ _ pj) nT) au (by rw[zqA];show bW.length+1<=_;lia) (fun v hv=>?_) fun b o e nb=>b5 _ _ (s4 _ _<|b2 _ _ e nb) nb
   rcases zag.mp hv with hv|hv
   ·exact dZ.but CG b5 ((hd2 v hv).same s4)
   ·rw[zaf.mp hv];exact dZ.but CG b5 ⟨t,l,l2,ns,rfl,h3,CH,abR,h1,h2⟩
  have fin:∀(u4 u5:Option V) (gM:List V) (H4:Hp),H4 a=some (.lst<|ws.map V.int)->H4 T=some (.lst gM)->gM.length<=hs.length+(i+1)->(∀v∈gM,dZ T H4 v)->bQ T H1 H4->∃(u4' u5':Option V) (bW:List V),[some<|V.ref p,some<|V.int (n:Nat),some<|V.int c,some<|V.ref T,u4,u5]=[some<|.ref p,some<|.int (n:Nat),some<|.int c,some<|.ref T,u4',u5']/\H4 a=some (.lst<|ws.map V.int)/\H4 T=some (.lst bW)/\bW.length<=hs.length+(i+1)/\(∀v∈bW,dZ T H4 v)/\bQ T H1 H4:=fun u4 u5 gM H4 k1 k2 k3 k4 k5=>⟨u4,u5,gM,rfl,k1,k2,k3,k4,k5⟩;refine aY<|bo<|ah rfl<|ar<|cp ⟨_,rfl,cx (fun _=>?_)<|fun _=>?_⟩
  ·refine bD (iW C (uz C) rfl<|ah rfl ⟨p,dx,_,rfl,S2.ob,bZ,M,p,dx,d,n,g,uH,R,rfl,S2,nJ,fun l H3 ns s3 fl hl _ _ _=>?_⟩);exact main l ns H3 _ s3 fl hl fin
  refine aY<|gb<|bo<|ah rfl<|ar<|cp ⟨_,rfl,cx (fun _=>iT ?_ rfl)<|fun _=>?_⟩
  ·skip
   refine bD<|iW C (kd C) rfl<|ah rfl ⟨p,dx,_,rfl,S2.ob,bZ,M,p,dx,d,n,g,uH,_,rfl,S2,by rw[zaa];exact dG,fun l fl=>?_⟩
   exact main l _ _ _ (sameNew fl) fl au fin
  refine bo<|ah rfl<|ar<|cp ⟨_,rfl,cx (fun _=>?_)<|fun h=>?_⟩
  ·skip
   refine bD<|iW C (kd C) rfl<|ah rfl ⟨p,dx,_,rfl,S2.ob,bZ,M,p,dx,d,n,g,uH,_,rfl,S2,by rw[zaa];exact dG,fun l fl=>?_⟩
   exact main l _ _ _ (sameNew fl) fl au fin
  have hn:(0:Int) < (n:Int):=by
   have:¬(n:Int)=0:=fun z=>h (zqT z);lia
  obtain⟨pl,LW⟩:=zaC (zaq (mixed c 21) (show(n:Int)≠0 by lia))
  have lpl:=zap (mixed c 21) hn;rw[LW] at lpl;refine bD<|eK C (nG C) rfl<|ah rfl ⟨p,dx,_,rfl,S2.ob,bZ,aS<|bN dN rfl<|ao<|ah rfl<|ao<|ar<|aC ⟨_,_,rfl,ah rfl<|dt hn ?_⟩⟩;rw[LW];refine⟨M,p,dx,d,n,g,pl,uH,R,rfl,S2,dG,by lia,fun l H3 s3 fl hl=>?_⟩
  exact main l (atK R pl) H3 _ s3 fl (by rw[hl,B8]) fin
 ·rintro σ H2 ⟨u4,u5,bW,rfl,pj,kh,LU,hd2,b2⟩;rw[zaa] at LU;exact q bW H2 kh (by lia) hd2 fun b o e nb=>b2 _ _ (s1 _ _ e) nb
end
def xT(P:V->Hp->Prop)(H0:Hp)(Γ:aJ)(σ:St)(e:RE):Prop:= ∀(H:Hp) (Q:VK),av H0 H->(∀v H',av H H'->P v H'->Q v H')->ag Γ e σ H Q
section
variable {Γ:aJ}{σ:St}{P:V->Hp->Prop}{H0 H H':Hp}
theorem xU(st:∀v H H',P v H->av H H'->P v H'):∀(es:List RE),(∀e∈es,xT P H0 Γ σ e)->∀(H:Hp) (Q:List V->Hp->Prop),av H0 H->(∀vs H',av H H'->vs.length=es.length->(∀v∈vs,P v H')->Q vs H')->aM Γ es σ H Q
 |[],_,H,Q,_,q=>aC (q [] H (av.refl _) rfl (fun v hv=>by cases hv))
 |e::es,h,H,Q,s0,q=>ao (h e (.head _) H _ s0 fun v H1 s1 o=>xU st es (fun e' dY=>h e' (.tail _ dY)) H1 _ (s0.trans s1) fun vs H2 s2 ln os=>q (v::vs) H2 (s1.trans s2) (by rw[zaA,ln,zaA]) (fun w hw=>by
   rcases zab.mp hw with rfl|hw
   ·exact st _ _ _ o s2
   ·exact os w hw))
theorem xV(st:∀v H H',P v H->av H H'->P v H'){k:Nat}{es:List RE}{r:List RS}{l:Addr}(s0:av H0 H)(hσ:σ[k]?=some (some<|.ref l))(hm:∀e∈es,xT P H0 Γ σ e)(hl:H l=some (.lst xs))(ho:∀v∈xs,P v H)(hn:xs.length+es.length<=1000)
  (q:∀l' jG H',av H H'->H' l'=some (.lst jG)->(∀v∈jG,P v H')->jG.length=xs.length+es.length->aA Γ r D (σ.set k<|some<|.ref l') H'):aA Γ (.asg k (.bin .Add (.v k)<|.lst es)::r) D σ H:=by
 refine bD<|aS<|ah hσ<|cL<|xU st es hm H _ s0 fun vs H1 s1 ln os=>⟨bY (by lia),fun m fm=>?_⟩
 have s2:=sameNew (o:=.lst vs) fm;refine K_ (s2 _ _<|s1 _ _ hl) au (by lia) fun c fc=>?_
 have s3:=sameNew (o:=.lst (xs++vs)) fc;refine q c _ _ ((s1.trans s2).trans s3) au (fun v hv=>?_) (by rw[zqA,ln])
 rcases zag.mp hv with hv|hv
 ·exact st _ _ _ (ho v hv) ((s1.trans s2).trans s3)
 ·exact st _ _ _ (os v hv) (s2.trans s3)
theorem ie.CI{a b:Int}(h:ie v a b H)(s:av H H'):ie v a b H':=by
 rcases h with h|h
 ·exact .inl (h.same s)
 ·exact .inr h
theorem uE.same{w:V}(h:uE v w n H)(s:av H H'):uE v w n H':=by
 rcases h with h|⟨b,e,hb,h⟩
 ·exact .inl (ie.CI h s)
 ·exact .inr ⟨b,e,hb,ie.CI h s⟩
theorem Rf.same{es:List Ent}{w:Int}{x:Str}(h:Rf n es w xs H x)(s:av H H'):Rf n es w xs H' x:=by
 rcases h with⟨e,v,ex,hn,e'⟩|⟨e,v,u,z,ex,h⟩|⟨e,v,ex,hn,e'⟩|⟨e,v,ex,hn,e'⟩|⟨e,v,ex,h⟩
 ·exact .inl ⟨e,v,ex,hn.same s,e'⟩
 ·refine .inr (.inl ⟨e,v,u,z,ex,?_⟩);rcases h with⟨h,e'⟩|h
  ·exact .inl ⟨h.same s,e'⟩
  ·exact .inr h
 ·exact .inr (.inr<|.inl ⟨e,v,ex,hn.same s,e'⟩)
 ·exact .inr (.inr<|.inr<|.inl ⟨e,v,ex,ie.CI hn s,e'⟩)
 ·refine .inr (.inr<|.inr<|.inr ⟨e,v,ex,?_⟩);rcases h with⟨h,e'⟩|⟨⟨ps,⟨a,ys,e1,h1,h2,h3⟩,ho⟩,e'⟩
  ·exact .inl ⟨h.same s,e'⟩
  ·exact .inr ⟨⟨ps,⟨a,ys,e1,s _ _ h1,h2.mono<|dc s,h3⟩,ho⟩,e'⟩
theorem Rf.len{es:List Ent}{w:Int}{x:Str}(h:Rf n es w xs H x):xs.length<=3:=by
 rcases h with⟨_,v,rfl,_⟩|⟨_,v,u,z,rfl,_⟩|⟨_,v,rfl,_⟩|⟨_,v,rfl,_⟩|⟨_,v,rfl,_⟩ <;>simp
def T3(n:Nat)(es:List Ent)(v:V)(H:Hp):Prop:= ∃t tl xs w s,v=.ref t/\H t=some (.tup [.int w,.ref tl,.str s])/\H tl=some (.lst xs)/\Rf n es w xs H s
theorem T3.same{es:List Ent}(v:V)(H H':Hp)(h:T3 n es v H)(s:av H H'):T3 n es v H':=by
 obtain⟨t,tl,xs,w,x,e,h1,h2,h3⟩:=h;exact⟨t,tl,xs,w,x,e,s _ _ h1,s _ _ h2,h3.same s⟩
theorem kj{es:List Ent}{w:Int}{x:Str}{as:List RE}(h:∀(H:Hp) (Q:List V->Hp->Prop),av H0 H->(∀xs H',av H H'->Rf n es w xs H' x->Q xs H')->aM Γ as σ H Q):xT (T3 n es) H0 Γ σ (.tup [(.c<|.int w),.lst as,(.c<|.str x)]):=fun H Q s0 q=>by
 refine dX<|ao<|ar<|ao<|cL<|h H _ s0 fun xs H1 s1 hr=>⟨bY (by have:=hr.len;lia),fun tl fl=>?_⟩
 have s2:=sameNew (o:=.lst xs) fl;have h2:upd H1 tl (.lst xs) tl=some (.lst xs):=au;generalize upd H1 tl (.lst xs)=H2 at s2 h2⊢;refine ao<|ar<|aC ⟨nU,fun t ft=>?_⟩;have s3:=sameNew (o:=.tup [V.int w,V.ref tl,V.str x]) ft;exact q _ _ ((s1.trans s2).trans s3) ⟨t,tl,xs,w,x,rfl,au,s3 _ _ h2,(hr.same s2).same s3⟩
end
section
variable {K:Frag}{C:Addr}{H H' H0:Hp}{M:List Addr}{p dx d rw n g:Nat}{R:List Row}{ow:Addr}{x:Str}{Γ:aJ}{σ:St}{P:V->Hp->Prop}{es:List Ent}
theorem abV{fv:List (Str×Nat)}{x elt c:RE}(h:ag Γ x σ H fun v H1=>∃j:Int,[v]=[.int j]/\ -(2 ^ 62)<=j/\j<2 ^ 62/\∃W:Nat->Nat->List V->Hp->Prop,(∃m,W 0 m [] H1)/\∀i m ys H2,W i m ys H2->
   ((fI 0 j.toNat).stop i H2/\∀p,H2 p=none->Q (.ref p) (upd H2 p<|.lst ys))\/
   ((fI 0 j.toNat).go i H2/\∀x H3,(fI 0 j.toNat).gL i H2 x H3->jd Γ.K none x H3 fun zs=>kY (some (aU Γ.calm c)) (zs.map some++cf σ fv) H3 fun b H5=>
    if b=true then ag Γ.calm elt (zs.map some++cf σ fv) H5 fun y H6=>ys.length<sizeLine/\∃m',m'<m/\W (i+1) m' (ys++[y]) H6 else ∃m',m'<m/\W (i+1) m' ys H5)):ag Γ (.comp none fv .fG [x] (some c) elt) σ H Q:=pF (x:=x) _ _ (fun _ _=>Iff.rfl) h
theorem abW(s:Str):(s==s)=true:=by simp
theorem eY.pl1(h:eY (n:Int) v H):ie v 0 ((n:Int) - 1) H:=by
 rcases h with h|⟨i,e,h⟩
 ·exact .inl h
 ·exact .inr ⟨i,e,by lia⟩
theorem abY{es:List RE}{ix:RE}(st:∀v H H',P v H->av H H'->P v H')(hm:∀e∈es,xT P H Γ σ e)(hn:es.length<=100){i:Int}(h0:0<=i)(h1:i<es.length)(hi:∀(H1:Hp) (Q1:VK),Q1 (.int i) H1->ag Γ ix σ H1 Q1)(q:∀v H',av H H'->P v H'->Q v H'):ag Γ (.ix (.lst es) ix) σ H Q:=by
 refine bR<|cL<|xU st es hm H _ (av.refl _) fun vs H1 s1 hl hv=>⟨bY (by lia),fun a fa=>hi _ _ ?_⟩
 obtain⟨k,rfl⟩:=zaC h0;have hk:k<vs.length:=by lia
 have s2:=sameNew (o:=.lst vs) fa;exact bC (au (a:=a)) (g4<|zay hk)<|q _ _ (s1.trans s2)<|st _ _ _ (hv _<|zaF hk) s2
theorem abZ(e:σ[j]?=some (some<|.int (n:Nat))):nE jD Γ σ (.lst [(.tup [(.c<|.str "keep"),.v j]),(.tup [(.c<|.str "keep"),(.c<|.int 1)])]):=fun H Q q=>by
 refine cL<|ao<|dX<|ao<|ar<|ao<|ah e<|aC ⟨bS,fun b hb=>?_⟩;refine ao<|dX<|ao<|ar<|ao<|ar<|aC ⟨bS,fun b' mE=>aC ⟨bS,fun a ha=>?_⟩⟩;have s1:=sameNew (o:=.tup [V.str "keep",V.int (n:Nat)]) hb;have s2:=sameNew (o:=.tup [V.str "keep",V.int 1]) mE;have s3:=sameNew (o:=.lst [V.ref b,V.ref b']) ha;have k1:=s3 _ _ (s2 _ _<|au (H:=H) (a:=b) (o:=.tup [V.str "keep",V.int (n:Nat)]));have k2:=s3 _ _ (au (a:=b') (o:=.tup [V.str "keep",V.int 1]));refine q _ _ ((s1.trans s2).trans s3)<|.inr ⟨a,_,rfl,au,?_⟩;by_cases hn:1<=n
 ·exact⟨[.ref b],.ref b',[],[.keep (n:Nat)],rfl,.cons ⟨b,rfl,k1⟩ .nil,fun z hz=>by rw[zaf.mp hz];show(1:Int)<= (n:Int);lia,rfl,.inr ⟨.keep 1,⟨b',rfl,k2⟩,(by show(1:Int)<=1;lia),rfl⟩⟩
 ·exact⟨[],.ref b,[.ref b'],[],rfl,.nil,(fun _ h=>by cases h),rfl,.inl<|iS k1<|.inr<|.inr<|.inl ⟨rfl,.inr ⟨_,rfl,by lia⟩⟩⟩
def CJ(C:Addr):Sp:=fun vs H Q E=>∃(M:List Addr) (p dx d rw g:Nat) (R:List Row) (ow:Addr) (x:Str) (c:Int),vs=[.ref p,.ref ow,.int c]/\bO M C H p dx d rw x.length g R/\H ow=some (.dK<|oW rw g x)/\g<=1000/\x.length<=1000000/\∀H',av H H'->Q (.bl true) H'
abbrev lY(K:Frag)(C:Addr)(E:XK):aJ:=aH K [("_law_odd",uF),("_law_told",Cy C)] [] (E:=E)
abbrev sR(p ow:Addr)(c:Int)(n:Nat)(o:V)(L:Addr)(u6 u7 u8:Option V):St:=[some<|.ref p,some<|.ref ow,some<|.int c,some<|.int (n:Nat),some o,some<|.ref L,u6,u7,u8,none,none,none]
theorem ab0:bE (CJ C) (fun E=>lY K C E) bX gT:=by
 intro vs H Q E h;obtain⟨M,p,dx,d,rw,g,R,ow,x,c,rfl,A,ho,hg,hx,q⟩:=h;refine bD<|ny<|gf<|ah rfl<|ar ⟨ow,_,rfl,xQ ho,bY hx,?_⟩;refine bD<|bN uF rfl<|ao<|aS<|ah rfl<|ar<|iq ⟨by decide,by decide⟩<|ao<|aS<|ah rfl<|ar<|ij<|aC ⟨_,_,rfl,by lia,fun o H1 s1 od=>?_⟩
 generalize hnx:x.length=n at A hx od⊢;have A1:=A.same s1;obtain⟨uI,pS,ue⟩:=A1.hr;have gi:=s1 _ _ ho;refine xu<|abV<|aS<|gf<|ah rfl<|ar ⟨ow,_,rfl,uD gi,ar<|ij ⟨_,rfl,by lia,by lia,?_⟩⟩
 have eg:((g:Int)+1).toNat=g+1:=by lia
 rw[eg];refine aaU (fun i=> !(cW uI<|.inl<|0+(i:Int)).isSome) (by lia) (fun i k hi hk=>?_) (fun v k hk=>ah rfl hk) fun L fL=>?_
 ·refine BH (ah rfl<|gf<|ah rfl<|ar ⟨ow,_,rfl,Cn gi,rw,_,rfl,cC.k (k:=.inl (0+(i:Int))) pS,_,rfl,hk⟩)
 have none_of:∀i:Int,cW uI (.inl i)=none->∀e∈eR R,((e.1:Nat):Int)≠i:=fun i hv e he z=>by
  obtain⟨r,hr,rfl⟩:=zax.mp he;obtain⟨j,hj⟩:=zbX hr;obtain⟨v,_,e2,_⟩:=pM ue A.up hj;have z':((r.1:Nat):Int)=i:=z;rw[<-z',e2] at hv;cases hv
 generalize xW:((List.range<|g+1).filter fun i:Nat=> !(cW uI<|.inl<|0+(i:Int)).isSome)=ls at fL⊢;have LX:∀i∈ls,∀e∈eR R,((e.1:Nat):Int)≠0+(i:Int):=fun i hi=>by
  rw[<-xW] at hi;have:=(zaV.mp hi).2;exact none_of _ (by cases h:cW uI (.inl<|0+(i:Int)) with|none=>rfl|some v=>rw[h] at this;cases this)
 have ab1:0<ls.length:=by
  have:g∈ls:=by
   rw[<-xW];refine zaV.mpr ⟨zbk.mpr<|zaK _,?_⟩;rw[Int.zero_add,B3 ue fun r hr z=>by have:=A.lt hr;lia];rfl
  exact List.length_pos_of_mem this
 have ab2:ls.length<=1001:=by rw[<-xW];have:=zaE (fun i:Nat=> !(cW uI<|.inl<|0+(i:Int)).isSome) (List.range<|g+1);rw[zbu] at this;lia
 have s2:=sameNew (o:=.lst (ls.map fun i=>V.int (0+(i:Nat)))) fL;have hL:upd H1 L (.lst<|ls.map fun i=>V.int (0+(i:Nat))) L=some (.lst<|ls.map fun i=>V.int (0+(i:Nat))):=au;have uJ:=s1.trans s2;have CK:=eY.same _ _ _ od s2;generalize upd H1 L (.lst<|ls.map fun i=>V.int (0+(i:Nat)))=H2 at s2 hL uJ CK⊢;have A2:=A.same uJ;obtain⟨⟨uH,S2⟩,_⟩:=id A2;have dg:=uJ _ _ ho;have q2:∀H',av H2 H'->Q (.bl true) H':=fun H' s'=>q _ (uJ.trans s');show aA (lY K C E) (bX.drop 3) (Dn Q) (sR p ow c n o L none none none) H2;have m2:=zaq (c / 10) (show(2:Int)≠0 by decide)
 have l2:=zap (c / 10) (show(0:Int) <2 by decide)
 refine bD<|abY (P:=fun v H=>pP v (eR R) H) (fun v H H' h s=>h.same s) (fun e he=>?_) (by decide) m2 l2 (fun H1 Q1 q1=>aS<|aS<|ah rfl<|ar<|iq ⟨by decide,by decide⟩<|ar<|dt (by decide) q1) fun nu H3 s3 LY=>?_
 ·simp only[zab,zac,or_false] at he
  rcases he with rfl|rfl
  ·intro H3 Q3 s3 q3;have ml:=zaq (c / 20) (show((ls.length:Nat):Int)≠0 by lia)
   have ll:=zap (c / 20) (show(0:Int) < ((ls.length:Nat):Int) by lia)
   refine bR<|ah rfl<|aS<|aS<|ah rfl<|ar<|iq ⟨by decide,by decide⟩<|ny<|ah rfl<|.inl ⟨_,ay.of<|s3 _ _ hL,?_⟩
   rw[zaa];refine dt (by lia) ?_
   obtain⟨k,hk⟩:=zaC ml;rw[hk];have nN:k<ls.length:=by lia
   refine bC (s3 _ _ hL) (g4 (v:=V.int (0+(ls[k]:Nat))) (by rw[zai,zay nN];rfl)) ?_
   exact q3 _ _ (av.refl _)<|.inr ⟨_,rfl,LX _<|zaF nN⟩
  ·intro H3 Q3 s3 q3;refine bN uF rfl<|ao<|aS<|ah rfl<|ar<|iq ⟨by decide,by decide⟩<|ao<|gf<|ah rfl<|ar ⟨ow,_,rfl,uD<|s3 _ _ dg,aC ⟨_,_,rfl,by lia,fun v H4 s4 hv=>?_⟩⟩
   exact q3 _ _ s4<|hv.num S2.lt
 have LZ:=eY.same _ _ _ CK s3;have A3:=A2.same s3
 replace q2:∀H',av H3 H'->Q (.bl true) H':=fun H' s'=>q2 _ (s3.trans s')
 clear hL dg S2 A2 CK uJ s2 gi A1 fL LX ab1 ab2 none_of xW s3;show aA (lY K C E) (bX.drop 4) (Dn Q) (sR p ow c n o L (some nu) none none) H3;have m5:=zaq (c / 10) (show(5:Int)≠0 by decide)
 have l5:=zap (c / 10) (show(0:Int) <5 by decide)
 refine bD<|xR (P:=jD) (fun v H H' h s=>h.same s) (fun e he=>?_) (by decide) m5 l5 (fun H1 Q1 q1=>aS<|aS<|ah rfl<|ar<|iq ⟨by decide,by decide⟩<|ar<|dt (by decide) q1) fun wr H4 s4 hwr=>?_
 ·simp only[zab,zac,or_false] at he
  rcases he with rfl|rfl|rfl|rfl|rfl
  ·exact gJ fun H=>.inl rfl
  ·exact gJ fun H=>.inl (K4 rfl)
  ·exact KY fun b H hb=>iS hb (.inr<|.inr<|.inl ⟨rfl,.inr ⟨_,rfl,by decide⟩⟩)
  ·exact abZ rfl
  ·exact KY fun b H hb=>iS hb (.inr<|.inr<|.inr ⟨.inr rfl,.inr rfl⟩)
 have L6:=eY.same _ _ _ LZ s4;have L7:=LY.same s4;have A4:=A3.same s4
 replace q2:∀H',av H4 H'->Q (.bl true) H':=fun H' s'=>q2 _ (s4.trans s')
 clear LZ LY A3 s4;show aA (lY K C E) (bX.drop 5) (Dn Q) (sR p ow c n o L (some nu) (some wr) none) H4;have m8:=zaq (c / 10) (show(8:Int)≠0 by decide)
 have l8:=zap (c / 10) (show(0:Int) <8 by decide)
 refine bD<|cL<|xU (P:=T3 n (eR R)) (H0:=H4) T3.same _ (fun e he=>?_) H4 _ (av.refl _) fun vs H5 s5 lv hv=>⟨bY (by rw[lv];decide),fun S fS=>?_⟩
 ·rw[zaf.mp he];refine kj fun H5 Q5 s5 q5=>ao (xR (P:=rH) (fun v H H' h s=>h.same s) (fun e he=>?_) (by decide) m8 l8 (fun H1 Q1 q1=>aS<|aS<|ah rfl<|ar<|iq ⟨by decide,by decide⟩<|ar<|dt (by decide) q1) fun v H6 s6 hv=>aC (q5 [v] H6 s6<|.inl ⟨rfl,v,rfl,hv,rfl⟩))
  simp only[zab,zac,or_false] at he
  rcases he with rfl|rfl|rfl|rfl|rfl|rfl|rfl|rfl
  ·exact fun H Q q=>rA (q _ H (av.refl _)<|.inr ⟨_,rfl,by decide⟩)
  ·exact gJ fun H=>.inl (.inl ⟨_,rfl⟩)
  ·exact gJ fun H=>.inl Lw
  ·exact gJ fun H=>.inl Lx
  ·exact BU fun a H h=>.inl (Ly h)
  ·exact KU fun a H h=>.inl (Lz h)
  ·exact KW fun a H h=>.inl (LA h)
  ·exact gJ fun H=>.inl (.inl ⟨_,rfl⟩)
 have t5:=sameNew (o:=.lst vs) fS;have CL:upd H5 S (.lst vs) S=some (.lst vs):=au;have pE:∀v∈vs,T3 n (eR R) v (upd H5 S<|.lst vs):=fun v h=>T3.same _ _ _ (hv v h) t5;have xX:=s5.trans t5;generalize upd H5 S (.lst vs)=H6 at CL pE xX⊢;clear hv t5 fS s5;show aA (lY K C E) (bX.drop 6) (Dn Q) (sR p ow c n o L (some nu) (some wr)<|some<|.ref S) H6;refine xV (H0:=H4) (P:=T3 n (eR R)) T3.same xX rfl (fun e he=>?_) CL pE (by rw[lv];decide) fun S7 vs7 H7 s7 L8 rn xY=>?_
 ·simp only[zab,zac,or_false] at he
  rcases he with rfl|rfl|rfl
  ·exact kj fun H5 Q5 s5 q5=>ao (ah rfl<|ao<|ah rfl<|ao<|ar<|aC<|q5 _ _ (av.refl _)<|.inr<|.inl ⟨rfl,_,_,_,rfl,.inl ⟨.inl (eY.same _ _ _ L6 s5).pl,rfl⟩⟩)
  ·exact kj fun H5 Q5 s5 q5=>ao (ar<|ao<|ah rfl<|ao<|ar<|aC<|q5 _ _ (av.refl _)<|.inr<|.inl ⟨rfl,_,_,_,rfl,.inl ⟨.inr ⟨0,rfl,zqZ _,(eY.same _ _ _ L6 s5).pl⟩,rfl⟩⟩)
  ·exact kj fun H5 Q5 s5 q5=>ao (ah rfl<|ao<|aS<|ah rfl<|ar<|pH<|ao<|ar<|aC<|q5 _ _ (av.refl _)<|.inr<|.inl ⟨rfl,_,_,_,rfl,.inl ⟨.inr ⟨n,rfl,zqR _,.inr ⟨_,rfl,.inl (by lia)⟩⟩,rfl⟩⟩)
 replace s7:=xX.trans s7
 rw[lv] at xY;clear pE CL lv xX;show aA (lY K C E) (bX.drop 7) (Dn Q) (sR p ow c n o L (some nu) (some wr)<|some<|.ref S7) H7;have m6:=zaq (c / 10) (show(6:Int)≠0 by decide)
 have l6:=zap (c / 10) (show(0:Int) <6 by decide)
 refine xV (H0:=H4) (P:=T3 n (eR R)) T3.same s7 rfl (fun e he=>?_) L8 rn (by rw[xY];decide) fun S8 vs8 H8 s8 L9 L_ xZ=>?_
 ·rw[zaf.mp he];refine kj fun H5 Q5 s5 q5=>ao (ar<|ao<|ah rfl<|ao<|xR (P:=fun v _=>∀b,v≠ .bl b) (fun v H H' h s=>h) (fun e he=>?_) (by decide) m6 l6 (fun H1 Q1 q1=>aS<|aS<|ah rfl<|ar<|iq ⟨by decide,by decide⟩<|ar<|dt (by decide) q1) fun v H6 s6 hv=>aC (q5 _ H6 s6<|.inr<|.inl ⟨rfl,_,_,_,rfl,.inr ⟨⟨0,n,rfl,rfl,zqZ _,zqR _⟩,hv,rfl⟩⟩))
  simp only[zab,zac,or_false] at he
  rcases he with rfl|rfl|rfl|rfl|rfl|rfl
  ·exact gJ fun H b z=>by cases z
  ·exact gJ fun H b z=>by cases z
  ·exact gJ fun H b z=>by cases z
  ·exact gJ fun H b z=>by cases z
  ·exact BU fun a H h b z=>by cases z
  ·exact gJ fun H b z=>by cases z
 replace s8:=s7.trans s8
 rw[xY] at xZ;clear rn L8 xY s7;show aA (lY K C E) (bX.drop 8) (Dn Q) (sR p ow c n o L (some nu) (some wr)<|some<|.ref S8) H8;refine xV (H0:=H4) (P:=T3 n (eR R)) T3.same s8 rfl (fun e he=>?_) L9 L_ (by rw[xZ];decide) fun S9 vs9 H9 s9 Ma Mb x9=>?_
 ·simp only[zab,zac,or_false] at he
  rcases he with rfl|rfl|rfl
  ·exact kj fun H5 Q5 s5 q5=>ao (ah rfl<|aC<|q5 _ _ (av.refl _)<|.inr<|.inr<|.inl ⟨.inl rfl,_,rfl,L7.same s5,rfl⟩)
  ·exact kj fun H5 Q5 s5 q5=>ao (ah rfl<|aC<|q5 _ _ (av.refl _)<|.inr<|.inr<|.inl ⟨.inr rfl,_,rfl,L7.same s5,rfl⟩)
  ·exact kj fun H5 Q5 s5 q5=>ao (bN uF rfl<|ao<|aS<|ah rfl<|ar<|iq ⟨by decide,by decide⟩<|ao<|ah rfl<|aC ⟨_,_,rfl,by lia,fun v H6 s6 hv=>aC<|q5 _ _ s6<|.inr<|.inr<|.inr<|.inl ⟨rfl,_,rfl,hv.pl1,rfl⟩⟩)
 replace s9:=s8.trans s9
 rw[xZ] at x9;clear L_ L9 xZ s8;show aA (lY K C E) (bX.drop 9) (Dn Q) (sR p ow c n o L (some nu) (some wr)<|some<|.ref S9) H9;refine xV (H0:=H4) (P:=T3 n (eR R)) T3.same s9 rfl (fun e he=>?_) Ma Mb (by rw[x9];decide) fun SA vsA HA sA hSA hvA Mc=>?_
 ·simp only[zab,zac,or_false] at he
  rcases he with rfl|rfl
  ·exact kj fun H5 Q5 s5 q5=>ao (ah rfl<|aC<|q5 _ _ (av.refl _)<|.inr<|.inr<|.inr<|.inr ⟨rfl,_,rfl,.inl ⟨hwr.same s5,rfl⟩⟩)
  ·refine kj fun H5 Q5 s5 q5=>ao (cL<|ao<|dX<|ao<|ar<|ao<|aS<|ah rfl<|ar<|ij<|aC ⟨bS,fun b fb=>aC ⟨de,fun a fa=>aC ?_⟩⟩);have t1:=sameNew (o:=.tup [V.str "keep",V.int<|(n:Int)+1]) fb;have t2:=sameNew (o:=.lst [V.ref b]) fa;exact q5 _ _ (t1.trans t2)<|.inr<|.inr<|.inr<|.inr ⟨rfl,_,rfl,.inr ⟨⟨[.keep<|(n:Int)+1],⟨a,_,rfl,au,.cons ⟨b,rfl,t2 _ _ au⟩ .nil,fun z hz=>by rw[zaf.mp hz];show(1:Int)<= (n:Int)+1;lia,rfl,(by show 1<=1000;decide)⟩,by show((n:Int)+1).toNat+0≠n;lia⟩,rfl⟩⟩
 replace sA:=s9.trans sA
 rw[x9] at Mc;clear Mb Ma x9 s9;show aA (lY K C E) (bX.drop 10) (Dn Q) (sR p ow c n o L (some nu) (some wr)<|some<|.ref SA) HA;have mA:=zaq c (show(10:Int)≠0 by decide)
 have lA:=zap c (show(0:Int) <10 by decide)
 refine uo<|bR<|ah rfl<|aS<|ah rfl<|ar<|dt (by decide) ?_
 obtain⟨k,hk⟩:=zaC mA;rw[hk];have nN:k<vsA.length:=by rw[Mc];show k<10;lia
 obtain⟨t,tl,xs,w,s,e1,h1,h2,h3⟩:=hvA _ (zaF nN);refine bC hSA (g4 (v:=.ref t) (by rw[zay nN,e1]))<|BO h1 ?_
 obtain⟨⟨ab7,SA'⟩,_⟩:=A4.same sA;exact cE<|iU<|bN (Cy C) rfl<|ao<|ah rfl<|ao<|ah rfl<|ao<|ah rfl<|aC ⟨M,p,dx,d,tl,n,g,ab7,_,w,xs,s,rfl,SA',h2,h3,fun H' s'=>ah rfl<|ZZ (by rw[abW];exact q2 _ (sA.trans s'))⟩
end
section
variable {K:Frag}{C:Addr}{H H':Hp}{M:List Addr}{p dx d rw n g:Nat}{R:List Row}{ow:Addr}{x:Str}{kvs:List (Key×V)}{es:List Ent}{L:List Addr}
theorem ab9{g':Nat}:putK (oW rw g x) (.inr "begun") (.int (g':Nat))=oW rw g' x:=by
 have n1:¬((Sum.inr "rows":Key)=.inr "begun"):=by decide+kernel
 have n2:¬((Sum.inr "text":Key)=.inr "begun"):=by decide+kernel
 unfold putK;rw[if_pos (by simp)]
 simp only[zal,zaM,if_neg n1,if_neg n2,if_pos]
theorem ab_:putK (oW rw g x) (.inr "text") (.str y)=oW rw g y:=by
 have n1:¬((Sum.inr "rows":Key)=.inr "text"):=by decide+kernel
 have n2:¬((Sum.inr "begun":Key)=.inr "text"):=by decide+kernel
 unfold putK;rw[if_pos (by simp)]
 simp only[zal,zaM,if_neg n1,if_neg n2,if_pos]
theorem bp.more(S:bp M C H p dx d n g kvs es){a:Addr}{o:HO}(f:H a=none):bp (a::M) C (upd H a o) p dx d n g kvs es:=by
 have s:=sameNew (o:=o) f;have S':=S.same s;refine⟨S'.ob,S'.st,Paired.b9 S.kv fun kv e ⟨l,xs,e1,e2,e3,e4⟩=>⟨l,xs,e1,s _ _ e2,Paired.b9 e3 fun v q z=>gI.mono (dc s) z,fun hm=>?_⟩,S.up,S.lt,S.pl,fun m hm=>?_⟩
 ·rcases zab.mp hm with h|h
  ·rw[h,f] at e2;cases e2
  ·exact e4 h
 ·rcases zab.mp hm with h|h
  ·exact⟨o,by rw[h];exact au⟩
  ·exact S'.al m h
theorem bp.less{a:Addr}(S:bp (a::M) C H p dx d n g kvs es):bp M C H p dx d n g kvs es:=
 ⟨S.ob,S.st,Paired.b9 S.kv fun kv e ⟨l,xs,e1,e2,e3,e4⟩=>⟨l,xs,e1,e2,e3,fun hm=>e4<|.tail _ hm⟩,S.up,S.lt,S.pl,fun m hm=>S.al m<|.tail _ hm⟩
theorem bO.less{a:Addr}(A:bO (a::M) C H p dx d rw n g R):bO M C H p dx d rw n g R:=by
 obtain⟨⟨kvs,S⟩,h,ne⟩:=A;exact⟨⟨kvs,bp.less S⟩,h,ne⟩
theorem Md(h:ag Γ a σ H fun x H1=>wu Γ.K [x] H1 Q):ag Γ (.xt wx [a]) σ H Q:=h
theorem isM(q:Q (.bl true) H):cy K .Is .aD .aD H Q:=⟨rfl,q⟩
theorem acb(q:Q (.bl false) H):cy K .IsNot .aD .aD H Q:=⟨rfl,q⟩
def CO(C:Addr):Sp:=fun vs H Q E=>∃(M:List Addr) (p dx d rw g:Nat) (R:List Row) (ow:Addr) (x:Str) (c:Int),vs=[.ref p,.ref ow,.int c]/\bO M C H p dx d rw x.length g R/\H ow=some (.dK<|oW rw g x)/\good x/\x.length<=9000/\R.length<64/\g<=1000/\
 ∀x' g' R' H',good x'->x'.length<=x.length+320->R'.length<=R.length+1->g'<=g+1->bO M C H' p dx d rw x'.length g' R'->H' ow=some (.dK<|oW rw g' x')->LR p d rw ow H H'->Q (.bl true) H'
abbrev CQ(K:Frag)(C:Addr)(E:XK):aJ:=aH K [("_law_stretch",Cs),("_law_whole",iQ),("_law_refused",CJ C),("_law_change",BX),("_law_mixed",dN),("_law_done",BB),("_law_moved",Cv)] [] [] [("add",C,ux C),("drop",C,BY C),("changed",C,BQ C)] (E:=E)
theorem acd:bE (CO C) (fun E=>CQ K C E) cO gU:=by
 intro vs H Q E h;obtain⟨M,p,dx,d,rw,g,R,ow,x,c,rfl,A,ho,gx,lx,hl,hg,k⟩:=h;obtain⟨n1,n2,n3,n4⟩:=A.nod ho;obtain⟨⟨kvs,S⟩,⟨kr,hr,hp⟩,ne⟩:=id A;have lk:=Paired.length hp;have up:=A.up;refine bD<|gf<|ah rfl<|ar ⟨ow,_,rfl,Cn ho,?_⟩;refine bD<|gf<|ah rfl<|ar ⟨ow,_,rfl,xQ ho,?_⟩;refine aY<|bo<|aS<|ah rfl<|ar<|dt (by decide)<|ar ⟨trivial,_,rfl,cx (fun _=>?_)<|fun _=>cR ?_⟩
 ·refine uo (bN Cs rfl<|ao<|aS<|ah rfl<|ar<|iq ⟨by decide,by decide⟩<|ao<|ny<|ah rfl ⟨bY (by lia),aC ⟨_,x.length,rfl,fun b e t0 H2 i7 xy eW ht0=>KI ht0 ?_⟩⟩)
  have A2:=A.same eW;have dg:=eW _ _ ho;have glt:=fun {r:Row} (h:r∈R)=>A.lt h;clear kvs S kr hr hp lk;obtain⟨⟨kvs,S⟩,⟨kr,hr,hp⟩,_⟩:=A2;have lk:=Paired.length hp;have ww:∀{σ:St}{H1:Hp}{Q1:VK},σ[2]?=some (some<|.int c)->Q1 (.bl<|decide<|c / 10 % 2=1) H1->ag (CQ K C E) (.cmp .Eq (.bin .Mod (.bin .FloorDiv (.v 2)<|.c<|.int 10)<|.c<|.int 2)<|.c<|.int 1) σ H1 Q1:=fun e2 q1=>iU (aS<|aS<|ah e2<|ar<|iq ⟨by decide,by decide⟩<|ar<|dt (by decide)<|ar<|cp q1)
  generalize decide (c / 10 % 2=1)=w at ww;refine bD<|Cw C (ux C) rfl<|ah rfl ⟨p,dx,_,rfl,S.ob,bZ,ah rfl<|ah rfl<|ww rfl ⟨M,p,dx,d,x.length,g,b,e,w,kvs,R,rfl,S,by lia,i7,xy,fun cA H3 S3 b3=>?_⟩⟩
  have uG:=b3 _ _ hr n4 ne;have ho3:=b3 _ _ dg n1 n2;have xD:Paired (cH H3) kr R:=Paired.b9 hp fun kv r ⟨v,e,t,a1,a2⟩=>⟨v,e,t,a1,b3 _ _ a2 (fun z=>by rw[z,S.ob] at a2;cases a2) (fun z=>by rw[z,S.st] at a2;cases a2)⟩
  have hn:cW kr (.inl ((g:Nat):Int))=none:=B3 hp fun r hr z=>by have:=glt hr;lia
  refine nA<|dX<|ao<|ah rfl<|ao<|ah rfl<|ao<|ww rfl<|aC ⟨nU,fun t ft=>?_⟩;have s4:=sameNew (o:=.tup [V.int (b:Nat),V.int (e:Nat),V.bl w]) ft;have ht:upd H3 t (.tup [V.int (b:Nat),V.int (e:Nat),V.bl w]) t=some (.tup [V.int (b:Nat),V.int (e:Nat),V.bl w]):=au;generalize upd H3 t (.tup [V.int (b:Nat),V.int (e:Nat),V.bl w])=H4 at s4 ht⊢;have iZ:=s4 _ _ uG;have pT:=s4 _ _ ho3;refine ah rfl<|gf<|ah rfl<|ar ⟨ow,_,rfl,uD pT,rw,_,rfl,g5.k (k:=.inl ((g:Nat):Int)) iZ<|cP (by lia),?_⟩
  rw[sk _ hn];have pU:upd H4 rw (.dK<|kr++[(.inl ((g:Nat):Int),V.ref t)]) ow=some (.dK<|oW rw g x):=by rw[ax n3];exact pT
  have pR:upd H4 rw (.dK<|kr++[(.inl ((g:Nat):Int),V.ref t)]) rw=some (.dK<|kr++[(.inl ((g:Nat):Int),V.ref t)]):=au;have b5:bQ rw H4 (upd H4 rw (.dK<|kr++[(.inl ((g:Nat):Int),V.ref t)])):=bQ.upd;have Me:=nC (a:=rw) (x:=.dK (kr++[(.inl ((g:Nat):Int),V.ref t)])) (S3.same s4).al;generalize upd H4 rw (.dK<|kr++[(.inl ((g:Nat):Int),V.ref t)])=H5 at pU pR b5 Me⊢;refine nA<|aS<|gf<|ah rfl<|ar ⟨ow,_,rfl,uD pU,ar<|ij<|ah rfl<|ar ⟨ow,_,rfl,g5.k (k:=.inr "begun") pU<|cP (by show 3<=1000000;decide),?_⟩⟩
  rw[show(g:Int)+1=((g+1:Nat):Int) by lia,ab9]
  have uK:upd H5 ow (.dK<|oW rw (g+1) x) ow=some (.dK<|oW rw (g+1) x):=au;have b6:bQ ow H5 (upd H5 ow<|.dK<|oW rw (g+1) x):=bQ.upd;have Mf:=nC (a:=ow) (x:=.dK (oW rw (g+1) x)) Me;generalize upd H5 ow (.dK<|oW rw (g+1) x)=H6 at uK b6 Mf⊢;have x_:∀b o,H4 b=some o->b∉ [rw,ow]->H6 b=some o:=fun b o e hb=>by
   simp only[zab,zac,or_false,not_or] at hb
   exact b6 _ _ (b5 _ _ e hb.1) hb.2
  have A6:bO M C H6 p dx d rw x.length (g+1) (R++[(g,b,e,w)]):=by
   refine⟨⟨cA,?_⟩,⟨_,b6 _ _ pR<|Ne.symm n3,?_⟩,ne⟩
   ·refine bp.Cz (S3.same s4) x_ (fun l hl=>?_) (fun hm=>?_) Mf
    ·simp only[zab,zac,or_false] at hl
     rcases hl with rfl|rfl
     ·exact⟨_,iZ⟩
     ·exact⟨_,pT⟩
    ·simp only[zab,zac,or_false] at hm
     rcases hm with h|h
     ·exact ne h.symm
     ·exact n2 h.symm
   ·have nt:∀l∈ [rw,ow],∀xs,H4 l≠some (.tup xs):=fun l hl xs z=>by
     simp only[zab,zac,or_false] at hl
     rcases hl with rfl|rfl
     ·rw[iZ] at z;cases z
     ·rw[pT] at z;cases z
    exact Paired.snoc (LQ (Paired.b9 xD fun _ _ z=>cH.mono (dc s4) z) x_ nt) ⟨.ref t,rfl,t,rfl,x_ _ _ ht fun hz=>nt _ hz _ ht⟩
  refine cE<|BN<|bN iQ rfl<|ao<|ah rfl<|aC ⟨_,rfl,_,rfl,iT (KJ<|iU<|ah rfl<|aS<|gf<|ah rfl<|ar ⟨ow,_,rfl,uD uK,ar<|pH<|cp ?_⟩) rfl⟩;rw[zqT (show((g:Nat):Int)=((g+1:Nat):Int) - 1 by lia)]
  exact k x (g+1) _ H6 gx (by lia) (by rw[zqA];exact zqR _) (zqR _) A6 uK fun b o e m1 m2 m3 m4=>x_ _ _ (s4 _ _<|b3 _ _ (eW _ _ e) m1 m2) (by simp[m3,m4])
 have rest:aA (CQ K C E) (cO.drop 4) (Dn Q) [some<|.ref p,some<|.ref ow,some<|.int c,some<|.ref rw,some<|.str x,none,none,none,none,none] H:=by
  refine aY<|bo<|aS<|ah rfl<|ar<|dt (by decide)<|ar<|cp ⟨_,rfl,cx (fun _=>?_)<|fun _=>cR ?_⟩
  ·exact cE (bN (CJ C) rfl<|ao<|ah rfl<|ao<|ah rfl<|ao<|aS<|ah rfl<|ar<|iq ⟨by decide,by decide⟩<|aC ⟨M,p,dx,d,rw,g,R,ow,x,_,rfl,A,ho,hg,by lia,fun H' s'=>k x g R H' gx (by lia) (by lia) (by lia) (A.same s') (s' _ _ ho) fun b o e _ _ _ _=>s' _ _ e⟩)
  have m9:=zaq (mixed c 3) (show(9:Int)≠0 by decide)
  have l9:=zap (mixed c 3) (show(0:Int) <9 by decide)
  refine bD<|bN BX rfl<|ao<|ah rfl<|ao<|ah rfl<|ao<|aS<|bN dN rfl<|ao<|ah rfl<|ao<|ar<|aC ⟨_,_,rfl,ar<|dt (by decide)<|aC ⟨_,x,_,rfl,gx,by lia,m9,by lia,fun b H1 ys ps r s1 fb hb pv ok ch lp tp run=>?_⟩⟩
  have Mg:∀p∈ps,o8 p:=fun p hp=>aan (ok p hp);have rl:=run.len;have tp':aV ps<=320:=by
   have:(mixed c 3 % 9).toNat<=8:=by lia
   lia
  have lxl:x.cps.toList.length=x.length:=by simp[Str.length]
  have ov:bq ps=x.length:=by rw[aaQ run,lxl]
  have gv:br ps=r.length:=aaT run;have gi:=s1 _ _ ho;refine nA<|bN BB rfl<|ao<|ah rfl<|ao<|ah rfl<|aC ⟨x,b,ys,ps,r,rfl,gx,hb,pv,fun p hp=>X7<|ok p hp,run,by lia,ah rfl<|ar ⟨ow,_,rfl,g5.k (k:=.inr "text") gi<|cP (by show 3<=1000000;decide),?_⟩⟩
  rw[ab_];have dg:upd H1 ow (.dK<|oW rw g ⟨r.toArray⟩) ow=some (.dK<|oW rw g ⟨r.toArray⟩):=au;have b2:bQ ow H1 (upd H1 ow<|.dK<|oW rw g ⟨r.toArray⟩):=bQ.upd;have uL:=nC (a:=ow) (x:=.dK (oW rw g ⟨r.toArray⟩)) (S.same s1).al;have rL:upd H1 ow (.dK<|oW rw g ⟨r.toArray⟩) rw=some (.dK kr):=by rw[ax<|Ne.symm n3];exact s1 _ _ hr
  generalize upd H1 ow (.dK<|oW rw g ⟨r.toArray⟩)=H2 at dg b2 uL rL⊢;have t2:gz H1 H2:=fun y us e=>b2 _ _ e (fun z=>by rw[z,gi] at e;cases e)
  have sy:Paired (cH H2) kr R:=Paired.b9 hp fun _ _ z=>cH.mono t2 (cH.mono (dc s1) z);have nbo:b≠ow:=fun z=>by rw[z,ho] at fb;cases fb
  have nbr:b≠rw:=fun z=>by rw[z,hr] at fb;cases fb
  have pz:=b2 _ _ hb nbo;have Mh:=pv.mono t2;refine f9<|bN Cv rfl<|ao<|ah rfl<|ao<|ah rfl<|aC ⟨rw,b,kr,R,ys,ps,rfl,rL,sy,up,by lia,pz,Mh,ok,ch,by lia,fun r hr=>by rw[ov];exact A.le hr,fun ki H4 b4 iZ nP=>?_⟩
  have pT:=b4 _ _ dg n3;have t24:gz H2 H4:=fun y us e=>b4 _ _ e (fun z=>by rw[z,rL] at e;cases e)
  have al4:∀m∈M,∃o,H4 m=some o:=fun m hm=>by
   by_cases e:m=rw
   ·exact⟨_,by rw[e];exact iZ⟩
   ·obtain⟨o,z⟩:=uL m hm;exact⟨o,b4 _ _ z e⟩
  have bb:∀z o,H z=some o->z∉ [rw,ow]->H4 z=some o:=fun z o e hz=>by
   simp only[zab,zac,or_false,not_or] at hz
   exact b4 _ _ (b2 _ _ (s1 _ _ e) hz.2) hz.1
  have S4:bp M C H4 p dx d x.length g kvs (eR R):=by
   refine bp.Cz S bb (fun l hl=>?_) (fun hm=>?_) al4
   ·simp only[zab,zac,or_false] at hl
    rcases hl with rfl|rfl
    ·exact⟨_,hr⟩
    ·exact⟨_,ho⟩
   ·simp only[zab,zac,or_false] at hm
    rcases hm with h|h
    ·exact ne h.symm
    ·exact n2 h.symm
  have Mi:=b4 _ _ pz nbr;refine bD<|LS<|ah rfl ⟨_,.inl<|ay.of Mi,fun l2 f2=>?_⟩;have s5:=sameNew (o:=.lst ys) f2;have CT:upd H4 l2 (.lst ys) l2=some (.lst ys):=au;have S5:=bp.more (o:=.lst ys) S4 f2;generalize upd H4 l2 (.lst ys)=H5 at s5 CT S5⊢;have Mj:=(Mh.mono t24).mono (dc s5);refine aY<|gb<|bo<|eK C (BQ C) rfl<|ah rfl ⟨p,dx,_,rfl,S5.ob,bZ,ah rfl ⟨l2::M,p,dx,d,x.length,g,kvs,_,.ref l2,ps,rfl,S5,⟨l2,ys,rfl,CT,Mj,ok,ch,by lia⟩,ov,by rw[zaa];lia,fun e he=>?_,fun cA H6 S6 b6=>ar<|acb ⟨_,rfl,iF ?_ rfl⟩⟩⟩
  ·obtain⟨r0,_,rfl⟩:=zax.mp he;show 2<=1000;decide
  have oF:∀{z:Addr}{o:HO},H5 z=some o->(∀C dx fs,o≠ .ins C dx fs)->(∀kvs,o≠ .dK kvs)->H6 z=some o:=fun e h1 h2=>b6 _ _ e (fun z=>by rw[z,S5.ob] at e;cases e;exact h1 _ _ _ rfl) (fun z=>by rw[z,S5.st] at e;cases e;exact h2 _ rfl)
  have CU:=oF CT (fun _ _ _ z=>by cases z) (fun _ z=>by cases z)
  have hb6:=oF (s5 _ _ Mi) (fun _ _ _ z=>by cases z) (fun _ z=>by cases z)
  have Ml:gz H5 H6:=fun y us e=>oF e (fun _ _ _ z=>by cases z) (fun _ z=>by cases z)
  have Mm:=Mj.mono Ml;refine bo<|ah rfl<|ah rfl<|L2.B.YO CU hb6 Mm Mm Mg ⟨_,rfl,iF (cR ?_) rfl⟩;have CV:(⟨r.toArray⟩:Str).length=r.length:=by simp[Str.length]
  have gr:good ⟨r.toArray⟩:=⟨by rw[CV];lia,fun c hc=>run.good (fun c hc=>gx.2 c hc) Mg c (by simpa using hc)⟩
  rw[abC,gv] at S6;have A6:bO (l2::M) C H6 p dx d rw (⟨r.toArray⟩:Str).length g (R.map<|pQ ps):=⟨⟨cA,by rw[CV];exact S6⟩,⟨ki,b6 _ _ (s5 _ _ iZ) n4 ne,Paired.b9 nP fun _ _ z=>cH.mono Ml (cH.mono (dc s5) z)⟩,ne⟩
  refine aaR rfl CU<|cE<|ar ?_;have b7:bQ l2 H6 (upd H6 l2<|.lst []):=bQ.upd;have A7:=(A6.rK CU (.head _) b7 ⟨_,au⟩).less;have nol:ow≠l2:=fun z=>by rw[<-z,pT] at f2;cases f2
  refine k ⟨r.toArray⟩ g (R.map<|pQ ps) _ gr (by rw[CV];lia) (by rw[zaa];lia) (by lia) A7 (b7 _ _ (b6 _ _ (s5 _ _ pT) n1 n2) nol) fun y o e m1 m2 m3 m4=>?_
  have e4:=bb _ _ e (by simp[m3,m4])
  exact b7 _ _ (b6 _ _ (s5 _ _ e4) m1 m2)<|aL e4 f2
 refine aY<|KG<|bo<|aS<|ah rfl<|ar<|dt (by decide)<|ar<|cp ⟨_,rfl,cx (fun _=>?_)<|fun _=>iF (cR rest) rfl⟩
 refine bo<|Md<|ah rfl ⟨rw,kr,rfl,hr,ar ⟨trivial,_,rfl,cx (fun h0=>?_)<|fun _=>cR rest⟩⟩;have h0:(0:Int) < ((kr.length:Nat):Int):=of_decide_eq_true h0;refine bD<|bR<|uB<|ah rfl<|A.sorted hl fun l fl=>?_;have s1:=sameNew (o:=.lst ((kI R).map V.int)) fl;have ck:upd H l (.lst<|(kI R).map V.int) l=some (.lst<|(kI R).map V.int):=au;generalize upd H l (.lst<|(kI R).map V.int)=H1 at s1 ck⊢;have pS:=s1 _ _ hr;refine aS<|aS<|ah rfl<|ar<|iq ⟨by decide,by decide⟩<|Md<|ah rfl ⟨rw,kr,rfl,pS,dt h0 ?_⟩
 have ml:=zaq (c / 10) (show((kr.length:Nat):Int)≠0 by lia)
 have ll:=zap (c / 10) h0;obtain⟨i,hi⟩:=zaC ml;rw[hi];have JB:i<R.length:=by lia
 have kg:R[i]?=some R[i]:=by simp[JB]
 generalize R[i]=r at kg;refine bC ck (g4 (v:=V.int ((r.1:Nat):Int)) (by rw[zai,zai,kg];rfl)) ?_
 obtain⟨v,e1,e2,_⟩:=pM hp up kg;refine f9<|K9<|ah rfl ⟨rw,rfl,.inl ⟨kr,.inl pS⟩,ah rfl ⟨kr,.inl ((r.1:Nat):Int),v,pS,rfl,e2,?_⟩⟩;have b2:bQ rw H1 (upd H1 rw (.dK<|fN kr<|.inl ((r.1:Nat):Int))):=bQ.upd;have rL:upd H1 rw (.dK<|fN kr<|.inl ((r.1:Nat):Int)) rw=some (.dK<|fN kr<|.inl ((r.1:Nat):Int)):=au;have uL:=nC (a:=rw) (x:=.dK (fN kr<|.inl ((r.1:Nat):Int))) (S.same s1).al;generalize upd H1 rw (.dK<|fN kr<|.inl ((r.1:Nat):Int))=H2 at b2 rL uL⊢;have bb:∀z o,H1 z=some o->z∉ [rw]->H2 z=some o:=fun z o e hz=>b2 _ _ e (by simpa using hz)
 have S2:bp M C H2 p dx d x.length g kvs (eR R):=bp.Cz (S.same s1) bb (fun l hl=>by rw[zaf.mp hl];exact⟨_,pS⟩) (fun hm=>ne (zaf.mp hm).symm) uL
 have sy:Paired (cH H2) (fN kr<|.inl ((r.1:Nat):Int)) (R.filter fun x=>decide (x.1≠r.1)):=LQ (L:=[rw]) (LB _<|Paired.b9 hp fun _ _ z=>cH.mono (dc s1) z) bb fun l hl xs z=>by rw[zaf.mp hl,pS] at z;cases z
 refine cE<|iU<|eK C (BY C) rfl<|ah rfl ⟨p,dx,_,rfl,S2.ob,bZ,ah rfl ⟨M,p,dx,d,x.length,g,i,kvs,_,_,rfl,S2,K7 kg,fun cA H3 S3 b3=>ar<|isM ?_⟩⟩;have er:(eR R).filter (fun x=>decide<|x.1≠r.1)=eR (R.filter fun x=>decide (x.1≠r.1)):=by rw[List.filter_map];rfl
 have S3':bp M C H3 p dx d x.length g cA (eR<|R.filter fun x=>decide (x.1≠r.1)):=by rw[<-er];exact S3
 have xq:=zaE (fun x:Row=>decide (x.1≠r.1)) R;refine k x g _ H3 gx (by lia) (Nat.le_succ_of_le xq) (by lia) ⟨⟨cA,S3'⟩,⟨_,b3 _ _ rL ne,Paired.b9 sy fun kv r ⟨v,e,t,a1,a2⟩=>⟨v,e,t,a1,b3 _ _ a2 (fun z=>by rw[z,S2.st] at a2;cases a2)⟩⟩,ne⟩ (b3 _ _ (b2 _ _ (s1 _ _ ho) n3) n2) fun y o e m1 m2 m3 m4=>b3 _ _ (b2 _ _ (s1 _ _ e) m3) m2
end
section
variable {K:Frag}{C:Addr}{H H' H0:Hp}{M:List Addr}{sc p dx d rw n g:Nat}{R:List Row}{ow T L:Addr}{x:Str}{ns:List Int}{ls hs:List V}{E:XK}{Q:VK}{i:Nat}
abbrev GL(K:Frag)(C:Addr)(E:XK):aJ:=aH K [("_law_text",wM),("_law_cell_at",tY K),("_law_size",Bk),("_law_mixed",dN),("_law_kept",CA C),("_law_deed",CO C),("_law_stands",pO C)] [] [] [("add",C,ux C),("told",C,ke C),("at",C,nG C)] [("Spans",C,BL C)] (E:=E)
theorem CW(he:∀Q1:VK,Q1 (.int (n:Nat)) H->ag (GL K C E) e σ H Q1)(q:∀p dx d H',av H H'->H p=none->H d=none->bp [] C H' p dx d n 0 [] []->Q (.ref p) H'):ag (GL K C E) (.make 0 [e]) σ H Q:=by
 refine xi C (BL C) rfl<|he _ fun p dx fp fx d6=>?_;refine⟨p,dx,n,rfl,au,fun d H1 fd S b=>⟨rfl,q p dx d H1 (fun z o e=>b _ _ (by rw[ax<|aL e fp,ax<|aL e fx];exact e)<|aL e fp) fp ?_ S⟩⟩
 have n1:d≠p:=fun z=>by rw[z,au] at fd;cases fd
 have n2:d≠dx:=fun z=>by rw[z,ax d6,au] at fd;cases fd
 rw[ax n1,ax n2] at fd;exact fd
theorem acq:iM [] (oW rw 0 x)=oW rw 0 x:=by
 have n:∀{a b:Str}{v:V}{r:List (Key×V)},¬a=b->cW r (.inr b)=none->cW (((Sum.inr a:Key),v)::r) (.inr b)=none:=fun h e=>(jb<|fun z=>h<|Sum.inr.inj z).trans e;show putK (putK (putK ([]:List (Key×V)) (Sum.inr "rows")<|.ref rw) (Sum.inr "begun")<|.int (0:Nat)) (Sum.inr "text") (.str x)=_;rw[sk (kvs:=[]) _ rfl];rw[sk (kvs:=[]++_) _<|n (by decide+kernel) rfl]
 rw[sk (kvs:=[]++_++_) _<|n (by decide+kernel)<|n (by decide+kernel) rfl]
 rfl
theorem acr{as:List RE}(h:∀p,H p=none->aM Γ as σ (upd H p<|.dK []) fun vs H2=>H2 p=some (.dK [])/\∃kvs:List (Key×V),vs=oU kvs/\kvs.length<=15/\Q (.ref p) (upd H2 p<|.dK<|iM [] kvs)):ag Γ (.xt nc as) σ H Q:=h
theorem Mn(e:σ[j]?=some (some<|.str x))(q:∀ow rw H',av H H'->H ow=none->H rw=none->H' ow=some (.dK<|oW rw 0 x)->H' rw=some (.dK [])->Q (.ref ow) H'):ag Γ (.xt nc [(.c<|.str "rows"),.jf,(.c<|.str "begun"),(.c<|.int 0),(.c<|.str "text"),.v j]) σ H Q:=by
 refine acr fun ow fo=>ao (ar<|ao<|xl fun rw fr=>ao (ar<|ao<|ar<|ao<|ar<|ao<|ah e<|aC ⟨?_,oW rw 0 x,rfl,(by show 3<=15;decide),?_⟩))
 ·have ya:ow≠rw:=fun z=>by rw[z,au] at fr;cases fr
  rw[ax ya];exact au
 rw[acq];have ya:ow≠rw:=fun z=>by rw[z,au] at fr;cases fr
 have Mo:H rw=none:=by rw[ax<|Ne.symm ya] at fr;exact fr
 refine q _ rw _ (fun z o e=>by rw[ax<|aL e fo,ax<|aL e Mo,ax<|aL e fo];exact e) fo Mo au ?_
 rw[ax<|Ne.symm ya];exact au
theorem bO.more(A:bO M C H p dx d rw n g R){a:Addr}{o:HO}(f:H a=none):bO (a::M) C (upd H a o) p dx d rw n g R:=by
 obtain⟨_,hr,ne⟩:=A.same (sameNew (o:=o) f);obtain⟨⟨kvs,S⟩,_⟩:=A;exact⟨⟨kvs,bp.more S f⟩,hr,ne⟩
structure Ob where
 p:Nat
 dx:Nat
 d:Nat
 rw:Nat
 ow:Nat
 g:Nat
 R:List Row
 x:Str
def Ob.as(o:Ob):List Addr:=[o.p,o.d,o.rw,o.ow]
structure OA (C T:Addr) (H:Hp) (i:Nat) (o:Ob):Prop where
 A:bO [T] C H o.p o.dx o.d o.rw o.x.length o.g o.R
 ho:H o.ow=some (.dK<|oW o.rw o.g o.x)
 gx:good o.x
 bd:o.x.length<=400+320*i/\o.R.length<=i/\o.g<=i
variable {o o':Ob}
theorem OA.same(A:OA C T H i o)(s:av H H'):OA C T H' i o:=⟨A.A.same s,s _ _ A.ho,A.gx,A.bd⟩
theorem OA.kind(A:OA C T H i o){z:Addr}(hz:z∈o.as):(∃C dx fs,H z=some (.ins C dx fs))\/∃kvs,H z=some (.dK kvs):=by
 obtain⟨⟨⟨kvs,S⟩,⟨cA,k1,_⟩,_⟩,ho,_⟩:=A
 simp only[Ob.as,zab,zac,or_false] at hz
 rcases hz with rfl|rfl|rfl|rfl
 ·exact .inl ⟨_,_,_,S.ob⟩
 ·exact .inr ⟨_,S.st⟩
 ·exact .inr ⟨_,k1⟩
 ·exact .inr ⟨_,ho⟩
theorem OA.nl(A:OA C T H i o){z:Addr}{ob:HO}(e:H z=some ob)(h1:∀C dx fs,ob≠ .ins C dx fs)(h2:∀kvs,ob≠ .dK kvs):z∉o.as:=fun hz=>by
 rcases A.kind hz with⟨_,_,_,k⟩|⟨_,k⟩ <;>rw[e] at k<;>cases k
 ·exact h1 _ _ _ rfl
 ·exact h2 _ rfl
theorem OA.nR(A:OA C T H i o){z:Addr}(e:H z=some (.lst xs)):z∉o.as:=A.nl e (fun _ _ _ z=>by cases z) (fun _ z=>by cases z)
theorem OA.CH(A:OA C T H i o){z:Addr}(e:H z=some (.tup xs)):z∉o.as:=A.nl e (fun _ _ _ z=>by cases z) (fun _ z=>by cases z)
theorem OA.apart(A':OA C T H i o')(A:OA C T H i o)(sp:∀a∈o.as,a∉o'.as)(b:∀z ob,H z=some ob->z∉o.as->H' z=some ob)(lX:∃ob,H' T=some ob):OA C T H' (i+1) o':=by
 have bd:=A'.bd;obtain⟨⟨⟨kvs,S⟩,⟨cA,k1,k2⟩,ne⟩,ho,gx,_⟩:=A';have ks:∀{z:Addr}{ob:HO},z∈o'.as->H z=some ob->H' z=some ob:=fun hz e=>b _ _ e fun h=>sp _ h hz;have kl:∀{z:Addr}{xs:List V},H z=some (.lst xs)->H' z=some (.lst xs):=fun e=>b _ _ e (A.nR e);have kt:∀{z:Addr}{xs:List V},H z=some (.tup xs)->H' z=some (.tup xs):=fun e=>b _ _ e (A.CH e);refine⟨⟨⟨kvs,ks (.head _) S.ob,ks (.tail _<|.head _) S.st,Paired.b9 S.kv fun kv e ⟨l,xs,e1,e2,e3,e4⟩=>⟨l,xs,e1,kl e2,Paired.b9 e3 fun v q ⟨t,a1,a2⟩=>⟨t,a1,kt a2⟩,e4⟩,S.up,S.lt,S.pl,fun m hm=>?_⟩,⟨cA,ks (.tail _<|.tail _<|.head _) k1,Paired.b9 k2 fun kv r ⟨v,e,t,a1,a2⟩=>⟨v,e,t,a1,kt a2⟩⟩,ne⟩,ks (.tail _<|.tail _<|.tail _<|.head _) ho,gx,by lia,by lia,by lia⟩
 rw[zaf.mp hm];exact lX
theorem OA.rK(A:OA C T H i o)(hT:H T=some (.lst hs))(b:bQ T H H')(lX:∃ob,H' T=some ob):OA C T H' i o:=
 ⟨A.A.rK hT (.head _) b lX,b _ _ A.ho (fun z=>by have:=A.ho;rw[z,hT] at this;cases this),A.gx,A.bd⟩
theorem Mp{r:List RS}{c j:Int}{B O:Addr}{Bs Os:List V}(A:OA C T H i o)(A':OA C T H i o')(sp:∀a∈o.as,a∉o'.as)(hT:H T=some (.lst hs))(lh:hs.length<=2*i)(hd:∀v∈hs,dZ T H v)(hi:i<24)(hB:H B=some (.lst Bs))(hO:H O=some (.lst Os))(nB:B≠T)(nO:O≠T)(jB:dC Bs j=some (.ref o.p))(jO:dC Os j=some (.ref o.ow))
  (e2:σ[2]?=some (some<|.ref B)) (e3:σ[3]?=some (some<|.ref O)) (e4:σ[4]?=some (some<|.ref T)) (e5:σ[5]?=some (some<|.int c)) (e6:σ[6]?=some (some<|.int j))
  (k:∀g R x bW H',OA C T H' (i+1) ⟨o.p,o.dx,o.d,o.rw,o.ow,g,R,x⟩->OA C T H' (i+1) o'->H' T=some (.lst bW)->bW.length<=2* (i+1)->(∀v∈bW,dZ T H' v)->(∀z ob,H z=some ob->z≠T->z∉o.as->H' z=some ob)->aA (GL K C E) r D σ H'):
  aA (GL K C E) (.drop (.call 4 [(.ix (.v 2)<|.v 6),(.blt .len [(.dU (.ix (.v 3)<|.v 6)<|.c<|.str "text")]),.v 5,.v 4]):: .ite (.not<|.call 5 [(.ix (.v 2)<|.v 6),(.ix (.v 3)<|.v 6),.v 5]) [.ret<|.c<|.bl false] []::r) D σ H:=by
 have bd:=A.bd;refine f9<|bN (CA C) rfl<|ao<|bR<|ah e2<|ah e6<|bC hB jB ?_;refine ao<|ny<|gf<|bR<|ah e3<|ah e6<|bC hO jO<|ar ⟨o.ow,_,rfl,xQ A.ho,bY (by lia),?_⟩
 refine ao<|ah e5<|ao<|ah e4<|aC ⟨[T],o.p,o.dx,o.d,o.rw,o.x.length,o.g,o.R,T,hs,c,rfl,A.A,by lia,hT,.head _,by lia,hd,fun hs1 H1 j7 lh1 hd1 b1=>?_⟩
 have A1:=A.rK hT b1 ⟨_,j7⟩;have A1':=A'.rK hT b1 ⟨_,j7⟩;have hB1:=b1 _ _ hB nB;have hO1:=b1 _ _ hO nO;refine aY<|cG<|dB (CO C) rfl<|ao<|bR<|ah e2<|ah e6<|bC hB1 jB ?_;refine ao<|bR<|ah e3<|ah e6<|bC hO1 jO ?_;refine ao<|ah e5<|aC ⟨[T],o.p,o.dx,o.d,o.rw,o.g,o.R,o.ow,o.x,c,rfl,A1.A,A1.ho,A.gx,by lia,by lia,by lia,fun x2 g2 R2 H2 gx2 lx2 lr2 lg2 A2 dg b2=>cQ<|iF (cR ?_) rfl⟩
 have CY:∀z ob,H1 z=some ob->z∉o.as->H2 z=some ob:=fun z ob e hz=>by
  simp only[Ob.as,zab,zac,or_false,not_or] at hz
  exact b2 _ _ e hz.1 hz.2.1 hz.2.2.1 hz.2.2.2
 have kh:=CY _ _ j7 (A1.nR j7);exact k g2 R2 x2 hs1 H2 ⟨A2,dg,gx2,by show x2.length<=_;lia,by show R2.length<=_;lia,by show g2<=_;lia⟩ (A1'.apart A1 sp CY ⟨_,kh⟩) kh (by lia) (fun v hv=>dZ.abN A1.A A1.ho b2<|hd1 v hv) fun z ob e nz hz=>CY _ _ (b1 _ _ e nz) hz
theorem yb{ec:RE}{c k:Int}{B O:Addr}{Bs Os:List V}(A:OA C T H i o)(hi:i<=24)(hB:H B=some (.lst Bs))(hO:H O=some (.lst Os))(jB:dC Bs k=some (.ref o.p))(jO:dC Os k=some (.ref o.ow))(e2:σ[2]?=some (some<|.ref B))(e3:σ[3]?=some (some<|.ref O))(hc:∀(Q1:VK),Q1 (.int c) H->ag (GL K C E) ec σ H Q1){E':XK}(q:∀H',av H H'->Q (.bl true) H'):
  aM (GL K C E) [(.ix (.v 2)<|.c<|.int k),(.ix (.v 3)<|.c<|.int k),ec] σ H fun vs H1=>pO C vs H1 Q E':=by
 have bd:=A.bd;refine ao<|bR<|ah e2<|ar<|bC hB jB<|ao<|bR<|ah e3<|ar<|bC hO jO ?_;exact ao<|hc _<|aC ⟨[T],o.p,o.dx,o.d,o.rw,o.g,o.R,o.ow,o.x,c,rfl,A.A,A.ho,by lia,by lia,q⟩
structure lZ (K:Frag) (C:Addr) (H0 H:Hp) (sc B O T L:Nat) (ls:List V) (ns:List Int) (i:Nat) (o o':Ob) (hs:List V):Prop where
 h0:ay K H0 sc (ns.map V.int)
 s0:av H0 H
 f0:∀a∈o.as,H0 a=none
 f1:∀a∈o'.as,H0 a=none
 fT:H0 T=none
 A:OA C T H i o
 A':OA C T H i o'
 sp:∀a∈o.as,a∉o'.as
 hT:H T=some (.lst hs)
 lh:hs.length<=2*i
 hd:∀v∈hs,dZ T H v
 hB:H B=some (.lst [.ref o.p,.ref o'.p])
 hO:H O=some (.lst [.ref o.ow,.ref o'.ow])
 hL:H L=some (.lst ls)
 nT:B≠T/\O≠T/\L≠T
variable {B O:Addr}
theorem lZ.same(A:lZ K C H0 H sc B O T L ls ns i o o' hs)(s:av H H'):lZ K C H0 H' sc B O T L ls ns i o o' hs:=
 ⟨A.h0,A.s0.trans s,A.f0,A.f1,A.fT,A.A.same s,A.A'.same s,A.sp,s _ _ A.hT,A.lh,fun v hv=>(A.hd v hv).same s,s _ _ A.hB,s _ _ A.hO,s _ _ A.hL,A.nT⟩
abbrev sL(sc:Addr)(x0:Str)(B O T:Addr)(u5 u6 u7 u8:Option V):St:=[some<|.ref sc,some<|.str x0,some<|.ref B,some<|.ref O,some<|.ref T,u5,u6,u7,u8]
def yc:List RS:=[.asg 6 (.blt .int [(.cmp .Eq (.bin .Mod (.call 3 [.v 5,(.c (.int 1))]) (.c (.int 6))) (.c (.int 1)))]),
  .drop (.call 4 [(.ix (.v 2)<|.v 6),(.blt .len [(.dU (.ix (.v 3)<|.v 6)<|.c<|.str "text")]),.v 5,.v 4]),
  .ite (.not<|.call 5 [(.ix (.v 2)<|.v 6),(.ix (.v 3)<|.v 6),.v 5]) [.ret<|.c<|.bl false] [],
  .ite (.or [(.not (.call 6 [(.ix (.v 2) (.c (.int 0))),(.ix (.v 3) (.c (.int 0))),.v 5])),(.not (.call 6 [(.ix (.v 2) (.c (.int 1))),(.ix (.v 3) (.c (.int 1))),.v 5]))]) [.ret (.c (.bl false))] []]
theorem acz{x0:Str}{u6 u7 u8:Option V}{c:Int}(A:lZ K C H0 H sc B O T L ls ns i o o' hs)(hi:i<24)
  (k:∀u6 o o' bW H',lZ K C H0 H' sc B O T L ls ns (i+1) o o' bW->D.nx (sL sc x0 B O T (some<|.int c) u6 u7 u8) H'):
  aA (GL K C E) yc D (sL sc x0 B O T (some<|.int c) u6 u7 u8) H:=by
 refine bD<|LG<|iU<|aS<|bN dN rfl<|ao<|ah rfl<|ao<|ar<|aC ⟨_,_,rfl,ar<|dt (by decide)<|ar<|cp ?_⟩
 have st:∀(u6:Option V) (o o':Ob) (bW:List V) (H':Hp),lZ K C H0 H' sc B O T L ls ns (i+1) o o' bW->aA (GL K C E) (yc.drop 3) D (sL sc x0 B O T (some<|.int c) u6 u7 u8) H':=by
  intro u6 o o' bW H' A';refine aY<|gb<|cG<|dB (pO C) rfl<|yb A'.A hi A'.hB A'.hO rfl rfl rfl rfl (fun Q1 q1=>ah rfl q1) fun H3 s3=>cQ (iF ?_ rfl);have A3:=A'.same s3;exact cG<|dB (pO C) rfl<|yb A3.A' hi A3.hB A3.hO rfl rfl rfl rfl (fun Q1 q1=>ah rfl q1) fun H4 s4=>cQ (iF (cR<|k _ _ _ _ _<|A3.same s4) rfl)
 obtain⟨n1,n2,n3⟩:=A.nT;generalize decide (mixed c 1 % 6=1)=w;cases w
 ·show aA (GL K C E) _ D (sL sc x0 B O T (some<|.int c) (some<|.int 0) u7 u8) H;refine Mp A.A A.A' A.sp A.hT A.lh A.hd hi A.hB A.hO n1 n2 rfl rfl rfl rfl rfl rfl rfl fun g R x bW H' O1 O2 lX CZ kz b'=>?_;exact st _ ⟨o.p,o.dx,o.d,o.rw,o.ow,g,R,x⟩ o' bW H' ⟨A.h0,fun z ob e=>b' _ _ (A.s0 _ _ e) (aL e A.fT) (fun hz=>by rw[A.f0 _ hz] at e;cases e),A.f0,A.f1,A.fT,O1,O2,A.sp,lX,CZ,kz,b' _ _ A.hB n1<|A.A.nR A.hB,b' _ _ A.hO n2<|A.A.nR A.hO,b' _ _ A.hL n3<|A.A.nR A.hL,A.nT⟩
 ·show aA (GL K C E) _ D (sL sc x0 B O T (some<|.int c) (some<|.int 1) u7 u8) H;have sp':∀a∈o'.as,a∉o.as:=fun a ha hb=>A.sp a hb ha;refine Mp A.A' A.A sp' A.hT A.lh A.hd hi A.hB A.hO n1 n2 rfl rfl rfl rfl rfl rfl rfl fun g R x bW H' O1 O2 lX CZ kz b'=>?_;exact st _ o ⟨o'.p,o'.dx,o'.d,o'.rw,o'.ow,g,R,x⟩ bW H' ⟨A.h0,fun z ob e=>b' _ _ (A.s0 _ _ e) (aL e A.fT) (fun hz=>by rw[A.f1 _ hz] at e;cases e),A.f0,A.f1,A.fT,O2,O1,A.sp,lX,CZ,kz,b' _ _ A.hB n1<|A.A'.nR A.hB,b' _ _ A.hO n2<|A.A'.nR A.hO,b' _ _ A.hL n3<|A.A'.nR A.hL,A.nT⟩
theorem acB(h0:σ[j]?=some (some<|.ref T))(hL:H T=some (.lst hs))(hh:∀v∈hs,dZ T H v)(k:∀r H',av H H'->H' r=some (.lst [])->Q (.ref r) H'):
  ag Γ (.comp (some 2) [] .list [.v j] (some<|.cmp .NotEq (.v 0)<|.v 1)<|.v 0) σ H Q:=by
 refine⟨_,h0,T,rfl,⟨_,ay.of hL⟩,fun i m ys H2=>m=hs.length - i/\i<=hs.length/\ys=[]/\H2=H,⟨_,rfl,zqZ _,rfl,rfl⟩,?_⟩;rintro i m ys H2 ⟨rfl,hi,rfl,rfl⟩;by_cases aG:i<hs.length
 ·refine .inr ⟨⟨hs,hs[i],ay.of hL,by simp[aG]⟩,?_⟩
  rintro y H3 ⟨rfl,hx⟩;obtain⟨t,a,b,ms,rfl,ht,na,nb,ha,hb⟩:=hh y (zav<|hx hs<|ay.of hL);refine⟨t,_,rfl,aO.of ht,rfl,?_⟩;refine bo<|ah rfl<|ah rfl<|pL ha hb ⟨_,rfl,?_⟩;exact⟨hs.length - (i+1),by lia,rfl,aG,rfl,rfl⟩
 ·have dq:i=hs.length:=by lia
  subst dq;exact .inl ⟨⟨hs,ay.of hL,zqR _⟩,fun q hq=>k q _ (sameNew hq) au⟩
theorem acC{x0:Str}{u5 u6 u7 u8:Option V}(A:lZ K C H0 H sc B O T L ls ns i o o' hs)(hi:i<=24)(q:∀H',Q (.bl true) H'):aA (GL K C E) (dz.drop 5) (Dn Q) (sL sc x0 B O T u5 u6 u7 u8) H:=by
 refine aY<|bo<|acB rfl A.hT A.hd fun r H1 s1 hr=>cL (aC ⟨zqZ _,fun e fe=>?_⟩);have s2:=sameNew (o:=.lst []) fe;refine pL (ns:=[]) (s2 _ _ hr) au ⟨_,rfl,iF (cR ?_) rfl⟩;have A2:=A.same (s1.trans s2);generalize upd H1 e (.lst [])=H2 at A2⊢;have tR:ay K H2 sc (ns.map V.int):=A2.s0.seq A.h0;refine bD<|aS<|aS<|ar<|ar<|abh ⟨by decide,by decide,by decide⟩<|bN dN rfl<|ao<|bN (tY K) rfl<|ao<|ah rfl<|ao<|ar<|aC ⟨sc,ns,_,rfl,tR,by decide,ao<|ar<|aC ⟨_,_,rfl,ij ?_⟩⟩
 have m0:=(AU (cell ns (0:Int).toNat) 17).1;obtain⟨f,ef,hf⟩:∃f:Nat,(10:Int) ^ (12:Int).toNat+mixed (cell ns (0:Int).toNat) 17=((f:Nat):Int)/\2<=f:=by
  have p10:(10:Int) ^ (12:Int).toNat=1000000000000:=by decide
  refine⟨((10:Int) ^ (12:Int).toNat+mixed (cell ns (0:Int).toNat) 17).toNat,?_,?_⟩ <;>rw[p10] <;>lia
 rw[ef];refine bD<|CW (n:=f) (fun Q1 q1=>ah rfl q1) fun p2 l7 d2 H3 s3 fp2 fd2 S3=>?_;refine aY<|pN<|bo<|Cw C (ux C) rfl<|ah rfl ⟨p2,l7,_,rfl,S3.ob,bZ,ar<|ah rfl<|ar ⟨[],p2,l7,d2,f,0,1,f,true,[],[],rfl,S3,zqZ _,by lia,zqR _,fun yd H4 S4 b4=>?_⟩⟩
 refine ar<|BF ⟨_,rfl,iF ?_ rfl⟩;have C0:bp [] C H4 p2 l7 d2 f 1 yd (eR [(0,1,f,true)]):=S4;have C1:lo (0,1,f,true)=1:=Nat.min_eq_left (by show 1<=f;lia)
 refine pN<|bo<|eK C (ke C) rfl<|ah rfl ⟨p2,l7,_,rfl,S4.ob,bZ,ar ⟨[],p2,l7,d2,f,1,0,yd,[(0,1,f,true)],(0,1,f,true),rfl,C0,rfl,fun t ft=>?_⟩⟩;rw[C1];have s5:=sameNew (o:=.tup [V.int ((1:Nat):Int),V.int ((L2.bA.hi (0,1,f,true):Nat):Int)]) ft;have Mq:upd H4 t (.tup [V.int ((1:Nat):Int),V.int ((L2.bA.hi (0,1,f,true):Nat):Int)]) t=some (.tup [V.int 1,V.int (f:Nat)]):=au;generalize upd H4 t (.tup [V.int ((1:Nat):Int),V.int ((L2.bA.hi (0,1,f,true):Nat):Int)])=H5 at s5 Mq⊢;refine dX<|ao<|ar<|ao<|ah rfl<|aC ⟨bS,fun t2 f2=>?_⟩;have s6:=sameNew (o:=.tup [V.int 1,V.int (f:Nat)]) f2;refine Lq (x:=1) (y:=(f:Nat)) (s6 _ _ Mq) au ⟨_,rfl,iF ?_ rfl⟩;have C2:=s5.trans s6;generalize upd H5 t2 (.tup [V.int 1,V.int (f:Nat)])=H6 at C2⊢;have S6:=C0.same C2;refine pN<|bo<|eK C (nG C) rfl<|ah rfl ⟨p2,l7,_,rfl,S6.ob,bZ,aS<|ah rfl<|ar<|pH ?_⟩;rw[show((f:Nat):Int) - 1=((f - 1:Nat):Int) by lia]
 refine⟨[],p2,l7,d2,f,1,f - 1,yd,[(0,1,f,true)],rfl,S6,(by show 1<64;decide),by lia,fun l H7 s7 fl hl=>?_⟩
 have e1:cq [(0,1,f,true)] (f - 1)=[V.int 0]:=by
  have:fF (f - 1) (0,1,f,true)=true:=by
   unfold fF;rw[C1,zqT (by lia),zqT (by show f - 1<f;lia)];rfl
  unfold cq;rw[zaQ this];rfl
 rw[e1] at hl;refine cL<|ao<|ar<|aC ⟨de,fun l2 f2=>?_⟩;have s8:=sameNew (o:=.lst [V.int 0]) f2;refine pL (ns:=[0]) (s8 _ _ hl) au ⟨_,rfl,iF ?_ rfl⟩;have C3:=(C2.trans s7).trans s8;generalize upd H7 l2 (.lst [V.int 0])=H8 at C3⊢;have S8:=C0.same C3;refine B5<|bo<|eK C (nG C) rfl<|ah rfl ⟨p2,l7,_,rfl,S8.ob,bZ,ar ⟨[],p2,l7,d2,f,1,0,yd,[(0,1,f,true)],rfl,S8,(by show 1<64;decide),by lia,fun l3 H9 s9 fl3 lW=>?_⟩⟩
 have e0:cq [(0,1,f,true)] 0=[]:=by
  have:¬fF 0 (0,1,f,true)=true:=by
   unfold fF;rw[C1];simp
  unfold cq;rw[zaR this];rfl
 rw[e0] at lW;refine cL<|aC ⟨zqZ _,fun l4 f4=>?_⟩;have sA:=sameNew (o:=.lst []) f4;refine pL (ns:=[]) (sA _ _ lW) au ⟨_,rfl,iF (cR ?_) rfl⟩;have sm:av H2 (upd H9 l4<|.lst []):=fun z o e=>sA _ _ (s9 _ _<|C3 _ _<|b4 _ _ (s3 _ _ e) (aL e fp2)<|aL e fd2);generalize upd H9 l4 (.lst [])=HA at sm⊢;have AA:=A2.same sm;refine cE<|BN<|bN (pO C) rfl<|yb AA.A hi AA.hB AA.hO rfl rfl rfl rfl (fun Q1 q1=>ar q1) fun HB sB=>⟨_,rfl,iT ?_ rfl⟩;have AB:=AA.same sB;exact KJ<|bN (pO C) rfl<|yb AB.A' hi AB.hB AB.hO rfl rfl rfl rfl (fun Q1 q1=>ar q1) fun HC _=>q HC
theorem acG(ns:List Int)(lo hi:Int):∃ms:List Int,cc (ns.map V.int) (some lo) (some hi)=ms.map V.int/\(0<=lo->lo<=hi->ms.length<= (hi - lo).toNat):=by
 refine⟨(ns.drop<|HT.aQ ns.length 0<|some lo).take<|HT.aQ ns.length ns.length (some hi) - HT.aQ ns.length 0 (some lo),?_,fun h0 h1=>?_⟩
 ·unfold cc;rw[zaa,<-List.map_drop,<-List.map_take]
 ·obtain⟨l,rfl⟩:=zaC h0;obtain⟨h,rfl⟩:=zaC (Int.le_trans h0 h1);rw[zau,zaT,HT.vi,HT.vi];lia
def ye(K:Frag):Sp:=fun vs H Q E=>∃(a:Addr) (ns:List Int),vs=[.ref a]/\ay K H a (ns.map V.int)/\∀H',Q (.bl true) H'
theorem acH(vs:List V)(H:Hp)(Q:VK)(E:XK)(hh:ye K vs H Q E):aA (GL K C E) dz (Dn Q) (start iP vs) H:=by
 obtain⟨sc,ns,rfl,ha,q⟩:=hh;refine bD<|bN wM rfl<|ao<|bN (tY K) rfl<|ao<|ah rfl<|ao<|ar<|aC ⟨sc,ns,_,rfl,ha,by decide,?_⟩
 refine ao<|bN Bk rfl<|ao<|bN (tY K) rfl<|ao<|ah rfl<|ao<|ar<|aC ⟨sc,ns,_,rfl,ha,by decide,aC ⟨_,rfl,fun n0 n1 n2=>aC ⟨_,_,rfl,n1,by lia,fun x H1 gx lx s1=>?_⟩⟩⟩
 have lx4:x.length<=400:=by lia
 refine bD<|cL<|ao<|CW (n:=x.length) (fun Q1 q1=>ny<|ah rfl ⟨bY (by lia),q1⟩) fun p dx d H2 s2 fp fd S2=>?_
 refine ao<|CW (n:=x.length) (fun Q1 q1=>ny<|ah rfl ⟨bY (by lia),q1⟩) fun p' Mr d' H3 s3 C4 jk S3=>aC ⟨bS,fun B fB=>?_⟩
 have s4:=sameNew (o:=.lst [V.ref p,V.ref p']) fB;have Ms:upd H3 B (.lst [V.ref p,V.ref p']) B=some (.lst [V.ref p,V.ref p']):=au;generalize upd H3 B (.lst [V.ref p,V.ref p'])=H4 at s4 Ms⊢;refine bD<|cL<|ao<|Mn rfl fun ow rw H5 s5 fo fr pU pR=>ao (Mn rfl fun uM d5 H6 s6 uN kZ uK hr6=>aC ⟨bS,fun O fO=>?_⟩);have s7:=sameNew (o:=.lst [V.ref ow,V.ref uM]) fO;have C5:upd H6 O (.lst [V.ref ow,V.ref uM]) O=some (.lst [V.ref ow,V.ref uM]):=au;generalize upd H6 O (.lst [V.ref ow,V.ref uM])=H7 at s7 C5⊢;have uO:av H2 H4:=s3.trans s4;have s25:av H2 H5:=uO.trans s5;have Mt:av H3 H5:=s4.trans s5;have rM:av H5 H7:=s6.trans s7;have A7:bO [] C H7 p dx d rw x.length 0 []:=⟨⟨[],(S2.same s25).same rM⟩,⟨[],rM _ _ pR,.nil⟩,fun z=>by have:=uO _ _ S2.st;rw[<-z,fr] at this;cases this⟩
 have A7':bO [] C H7 p' Mr d' d5 x.length 0 []:=⟨⟨[],(S3.same Mt).same rM⟩,⟨[],s7 _ _ hr6,.nil⟩,fun z=>by have:=Mt _ _ S3.st;rw[<-z,kZ] at this;cases this⟩
 refine bD<|cL<|aC ⟨zqZ _,fun T fT=>?_⟩;have s8:=sameNew (o:=.lst []) fT;have C6:upd H7 T (.lst []) T=some (.lst []):=au;have A8:=A7.more (o:=.lst []) fT;have Mu:=A7'.more (o:=.lst []) fT;generalize upd H7 T (.lst [])=H8 at s8 C6 A8 Mu⊢;have pK:av H H4:=(s1.trans s2).trans uO;have Mv:av H H7:=(pK.trans s5).trans rM;have Mw:av H H8:=Mv.trans s8;have ho8:=s8 _ _ (rM _ _ pU);have acM:=s8 _ _ (s7 _ _ uK);have Mx:=rM _ _ (s5 _ _ Ms);obtain⟨ms,ems,Cd⟩:=acG ns 2 26;have Cd:=Cd (by decide) (by decide)
 refine rq (body:=yc)<|aao<|ah rfl<|ar ⟨_,rfl,ar ⟨_,rfl,.inl ⟨_,Mw.seq ha,fun L fL=>?_⟩⟩⟩;have s9:=sameNew (o:=.lst (cc (ns.map V.int) (some 2)<|some 26)) fL;rw[ems] at s9⊢;have hL:upd H8 L (.lst<|ms.map V.int) L=some (.lst<|ms.map V.int):=au;generalize upd H8 L (.lst<|ms.map V.int)=H9 at s9 hL⊢;have A0:lZ K C H H9 sc B O T L (ms.map V.int) ns 0 ⟨p,dx,d,rw,ow,0,[],x⟩ ⟨p',Mr,d',d5,uM,0,[],x⟩ []:=by
  have a1:=uO _ _ S2.ob;have a2:=uO _ _ S2.st;have a3:=s4 _ _ S3.ob;have a4:=s4 _ _ S3.st;have f5:=pK.trans s5;refine⟨ha,Mw.trans s9,fun a h=>?_,fun a h=>?_,Mv.free fT,⟨A8.same s9,s9 _ _ ho8,gx,by show x.length<=_;lia,zqR _,zqR _⟩,⟨Mu.same s9,s9 _ _ acM,gx,by show x.length<=_;lia,zqR _,zqR _⟩,fun a h h'=>?_,s9 _ _ C6,zqR _,(fun v hv=>by cases hv),s9 _ _<|s8 _ _ Mx,s9 _ _<|s8 _ _ C5,hL,(aL Mx fT),(aL C5 fT),fun z=>by rw[z,C6] at fL;cases fL⟩
  ·simp only[Ob.as,zab,zac,or_false] at h
   rcases h with rfl|rfl|rfl|rfl
   ·exact s1.free fp
   ·exact s1.free fd
   ·exact pK.free fr
   ·exact pK.free fo
  ·simp only[Ob.as,zab,zac,or_false] at h
   rcases h with rfl|rfl|rfl|rfl
   ·exact(s1.trans s2).free C4
   ·exact(s1.trans s2).free jk
   ·exact f5.free kZ
   ·exact f5.free uN
  ·simp only[Ob.as,zab,zac,or_false] at h h'
   rcases h with rfl|rfl|rfl|rfl
   ·rcases h' with h|h|h|h
    ·exact aL S2.ob C4 h
    ·exact aL S2.ob jk h
    ·exact aL (s5 _ _ a1) kZ h
    ·exact aL (s5 _ _ a1) uN h
   ·rcases h' with h|h|h|h
    ·exact aL S2.st C4 h
    ·exact aL S2.st jk h
    ·exact aL (s5 _ _ a2) kZ h
    ·exact aL (s5 _ _ a2) uN h
   ·rcases h' with h|h|h|h
    ·exact aL a3 fr h.symm
    ·exact aL a4 fr h.symm
    ·exact aL pR kZ h
    ·exact aL pR uN h
   ·rcases h' with h|h|h|h
    ·exact aL a3 fo h.symm
    ·exact aL a4 fo h.symm
    ·exact aL pU kZ h
    ·exact aL pU uN h
 refine⟨L,rfl,⟨_,ay.of hL⟩,iB (K:=K) (a:=L) (xs:=ms.map V.int) (fun i σ H7=>i<=24/\∃(u5 u6:Option V) (o o':Ob) (hs:List V),σ=sL sc x B O T u5 u6 none none/\lZ K C H H7 sc B O T L (ms.map V.int) ns i o o' hs)
  ⟨zqZ _,none,none,_,_,[],rfl,A0⟩ (fun i σ H7 _ ⟨_,_,_,_,_,_,_,A⟩=>ay.of A.hL) ?_ ?_⟩
 ·rintro i v σ H7 hv ⟨_,u5,u6,o,o',hs,rfl,A⟩;have hi:i<ms.length:=by
   have:=(zam.mp hv).1;rw[zaa] at this;exact this
  have My:i<24:=by
   have:((26:Int) - 2).toNat=24:=by decide
   lia
  rw[zai,zay hi] at hv;cases hv;show aA (GL K C E) yc _ (sL sc x B O T (some<|.int ms[i]) u6 none none) H7;exact acz A My fun u6 o o' gM H8 A2=>⟨My,_,u6,o,o',gM,rfl,A2⟩
 ·rintro σ H7 ⟨h24,u5,u6,o,o',hs,rfl,A⟩;exact acC A h24 q
end
end L2.bA
namespace L2
open PySem PySem.Spec PyProof.Rows
open PySem.W (Frag nsIn findIn isFn keepIn codeIn fnOf mg_of mg_none_of)
def eZ(st:Stmt):List Str:=(gO st).args.map (·.arg)
structure Top (P:Program) (w:World) (K:Frag) (mg:Str->Option Value) (base:Heap):Prop where
 X:K.In base
 G:base.Ns mainGlobals mg
def bP(K:Frag)(x:Str)(st:Stmt):Prop:= ∃f fd,nsIn K mainGlobals x=some (some<|.ref f)/\my K x x st f fd
def e7(K:Frag)(C:Addr)(x q:Str)(st:Stmt):Prop:= ∃f fd,findIn K (.ref C) x=some (some<|.ref f)/\isFn K (.ref f)=true/\my K x q st f fd
structure yf (K:Frag) (x:Str) (C:Addr):Prop where
 g:nsIn K mainGlobals x=some (some<|.ref C)
 m:makesIn K C=true
 k:keepIn K (.ref C)=true
structure eL (K:Frag) (p:Str×V):Prop where
 ex:∃u,nsIn K mainGlobals p.1=some (some u)/\RelV p.2 u
structure pV (K:Frag) (p:Str×Addr):Prop where
 g:nsIn K mainGlobals p.1=some (some<|.ref p.2)
 x:PySem.W.excIn K p.2 [.type "ValueError",.type "Exception",.type "BaseException",.type "object"] "ValueError.__new__"=true
section
variable {P:Program}{w:World}{K:Frag}{mg:Str->Option Value}{base:Heap}{x q:Str}{st:Stmt}{f C:Addr}{fd:FuncData}{k:Nat}{sp:Sp}
theorem dfk{oc:Value}{od an:Option Addr}{fK:Array (Option Value)}{kV doc pm aT ct:Value}(a:nsIn K mainGlobals x=some (some<|.ref f))(l:K.lookup f=some ⟨oc,od,.func<|fnOf x x (gO st) (dm st) (dD st) .none kV doc pm an aT ct,fK⟩)
  (c:codeIn K aT x=true) (k:keepIn K (.ref f)=true):bP K x st:=⟨f,_,a,Ex l c k⟩
theorem dmk{oc:Value}{od an:Option Addr}{fK:Array (Option Value)}{kV doc pm aT ct:Value}(a:findIn K (.ref C) x=some (some<|.ref f))(i:isFn K (.ref f)=true)(l:K.lookup f=some ⟨oc,od,.func<|fnOf x q (gO st) (dm st) (dD st) .none kV doc pm an aT ct,fK⟩)
  (c:codeIn K aT q=true) (k:keepIn K (.ref f)=true):e7 K C x q st:=⟨f,_,a,i,Ex l c k⟩
theorem acR{t:Tok}(h:nsIn K mainGlobals x=some (some<|.str y t)):eL K (x,.str y):=⟨_,h,⟨_,rfl⟩⟩
theorem acS{y:Addr}(h:nsIn K mainGlobals x=some (some<|.ref y)):eL K (x,.ref y):=⟨_,h,rfl⟩
theorem acT(h:findIn K (.ref C) y=some none):fi K C y:=h
theorem Top.gv{p:Str×V}(Z:Top P w K mg base)(h:eL K p):tJ mg p:=by
 obtain⟨u,a,b⟩:=h.ex;exact⟨u,mg_of Z.X Z.G a,b⟩
theorem Top.no(Z:Top P w K mg base)(h:nsIn K mainGlobals x=some none):mg x=none:=mg_none_of Z.X Z.G h
theorem Top.exc{p:Str×Addr}(Z:Top P w K mg base)(h:pV K p):wc mg base p:=ZY Z.X Z.G h.g h.x
structure e8 (P:Program) (w:World) (K:Frag) (mg:Str->Option Value) (base:Heap) (k:Nat) (st:Stmt) (sp:Sp):Prop where
 ok:∀{x q:Str}{f:Addr}{fd:FuncData},my K x q st f fd->cw P w K mg base (d9 P w) k f fd (eZ st) sp
theorem e8.or{a b:Sp}(A:e8 P w K mg base k st a)(C:e8 P w K mg base k st b):e8 P w K mg base k st (B.ka a b):=⟨fun F=>(A.ok F).or<|C.ok F⟩
theorem Mz{N P:List Str}{sc:Scope}(a:sc.kind=.function:=by kernel_rfl)(b:sc.isCoroutine=false:=by kernel_rfl)(c:sc.isGenerator=false:=by kernel_rfl)(d:N.Nodup:=by decide+kernel)(e:N.take P.length=P:=by kernel_rfl)(f:∀x∈P,sc.names.lookup x=some .local\/sc.names.lookup x=some .cell:=by decide+kernel)(g:∀y∈sc.names,y.2≠ .free:=by decide+kernel):mm N P sc:=⟨a,b,c,d,e,f,g⟩
theorem dL{N N0 bl:List Str}{tab:List (Str×Sp)}{gt:List (Str×V)}{dk:List (Addr×List (Key×V))}{mt kt:List (Str×Addr×Sp)}{et:List (Str×Addr)}{ht:List (Str×Sp)}{body:List RS}(Z:Top P w K mg base)
  (oS:∀vs H Q E,sp vs H Q E->aA (aH K tab gt dk mt kt et ht E) body {nx:=fun _ H'=>Q .aD H',rt:=Q} (start N0 vs) H)
  (hm:∀{CX:bK}{Γ:aJ}{X:Cx},cJ CX (qN N (dD st) (tab.map (·.1)) (gt.map (·.1)) bl (mt.map (·.1)) (kt.map (·.1)) (et.map (·.1)) (ht.map (·.1))) Γ X->cT X (dm st) (aA Γ body)) (k:Nat)
  (len:∀vs H Q E,sp vs H Q E->vs.length=(eZ st).length:=by intro _ _ _ _ h;repeat (first| (obtain⟨rfl,_⟩:=h;kernel_rfl)| (obtain⟨_,h⟩:=h)))
  (zS:∀p∈tab,fW P w K mg base k p.1 p.2:=by repeat (first|exact kb|refine kc (fW.mono (by assumption) (by first|decide|lia)) ?_))
  (oQ:∀p∈gt,tJ mg p:=by repeat (first|exact kb|refine kc (Top.gv (by assumption) (by assumption)) ?_))
  (oR:∀y∈bl,mg y=none:=by repeat (first|exact kb|refine kc (Top.no (by assumption) (by assumption)) ?_))
  (zT:∀q∈dk,FY P w K q:=by repeat (first|exact kb|refine kc (by assumption) ?_))
  (zU:∀p∈mt,fX P w K mg base k p:=by repeat (first|exact kb|refine kc (fX.mono (by assumption) (by first|decide|lia)) ?_))
  (zV:∀p∈kt,fY P w K mg base k p:=by repeat (first|exact kb|refine kc (fY.mono (by assumption) (by first|decide|lia)) ?_))
  (het:∀p∈et,wc mg base p:=by repeat (first|exact kb|refine kc (Top.exc (by assumption) (by assumption)) ?_))
  (zW:∀p∈ht,mZ P w K mg base k p.1 p.2:=by repeat (first|exact kb|refine kc (mZ.mono (by assumption) (by first|decide|lia)) ?_))
  (S:mm N (eZ st) (dD st):=by exact Mz) (hN:N0.length=N.length:=by kernel_rfl):e8 P w K mg base (k+1) st sp:=
 ⟨fun F=>Ur F S tab gt bl mt kt et ht body hm zS oQ oR dk zT zU zV het zW len fun vs H Q E h=>by
  have r:=oS vs H Q E h;unfold start at r⊢;rw[hN] at r;exact r⟩
def Bd(x q:Str)(st:Stmt):Prop:= ∀(kV doc pm:Value) (an:Option Addr) (aT ct:Value) (us:List Value),us.length=(eZ st).length->bindArgs (fnOf x q (gO st) (dm st) (dD st) .none kV doc pm an aT ct) ⟨us,[]⟩=pure ((eZ st).zip us)
theorem acU(hp:(eZ st).length=1)(h:∀(kV doc pm:Value) (an:Option Addr) (aT ct a0:Value),bindArgs (fnOf x q (gO st) (dm st) (dD st) .none kV doc pm an aT ct) ⟨[a0],[]⟩=pure ((eZ st).zip [a0])):Bd x q st:=fun kV doc pm an aT ct us hl=>by
 have e:=hl.trans hp;rcases us with _|⟨a0,_|⟨_,_⟩⟩ <;>first|exact h kV doc pm an aT ct _|exact absurd e (by simp)
theorem acV(hp:(eZ st).length=2)(h:∀(kV doc pm:Value) (an:Option Addr) (aT ct a0 a1:Value),bindArgs (fnOf x q (gO st) (dm st) (dD st) .none kV doc pm an aT ct) ⟨[a0,a1],[]⟩=pure ((eZ st).zip [a0,a1])):Bd x q st:=fun kV doc pm an aT ct us hl=>by
 have e:=hl.trans hp;rcases us with _|⟨a0,_|⟨a1,_|⟨_,_⟩⟩⟩ <;>first|exact h kV doc pm an aT ct _ _|exact absurd e (by simp)
theorem acW(hp:(eZ st).length=3)(h:∀(kV doc pm:Value) (an:Option Addr) (aT ct a0 a1 a2:Value),bindArgs (fnOf x q (gO st) (dm st) (dD st) .none kV doc pm an aT ct) ⟨[a0,a1,a2],[]⟩=pure ((eZ st).zip [a0,a1,a2])):Bd x q st:=fun kV doc pm an aT ct us hl=>by
 have e:=hl.trans hp;rcases us with _|⟨a0,_|⟨a1,_|⟨a2,_|⟨_,_⟩⟩⟩⟩ <;>first|exact h kV doc pm an aT ct _ _ _|exact absurd e (by simp)
theorem acX(hp:(eZ st).length=4)(h:∀(kV doc pm:Value) (an:Option Addr) (aT ct a0 a1 a2 a3:Value),bindArgs (fnOf x q (gO st) (dm st) (dD st) .none kV doc pm an aT ct) ⟨[a0,a1,a2,a3],[]⟩=pure ((eZ st).zip [a0,a1,a2,a3])):Bd x q st:=fun kV doc pm an aT ct us hl=>by
 have e:=hl.trans hp;rcases us with _|⟨a0,_|⟨a1,_|⟨a2,_|⟨a3,_|⟨_,_⟩⟩⟩⟩⟩ <;>first|exact h kV doc pm an aT ct _ _ _ _|exact absurd e (by simp)
theorem acY(hp:(eZ st).length=5)(h:∀(kV doc pm:Value) (an:Option Addr) (aT ct a0 a1 a2 a3 a4:Value),bindArgs (fnOf x q (gO st) (dm st) (dD st) .none kV doc pm an aT ct) ⟨[a0,a1,a2,a3,a4],[]⟩=pure ((eZ st).zip [a0,a1,a2,a3,a4])):Bd x q st:=fun kV doc pm an aT ct us hl=>by
 have e:=hl.trans hp;rcases us with _|⟨a0,_|⟨a1,_|⟨a2,_|⟨a3,_|⟨a4,_|⟨_,_⟩⟩⟩⟩⟩⟩ <;>first|exact h kV doc pm an aT ct _ _ _ _ _|exact absurd e (by simp)
theorem yg(hb:Bd x q st:=by first|exact acU (by kernel_rfl) fun _ _ _ _ _ _ _=>rfl|exact acV (by kernel_rfl) fun _ _ _ _ _ _ _ _=>rfl|exact acW (by kernel_rfl) fun _ _ _ _ _ _ _ _ _=>rfl|exact acX (by kernel_rfl) fun _ _ _ _ _ _ _ _ _ _=>rfl|exact acY (by kernel_rfl) fun _ _ _ _ _ _ _ _ _ _ _=>rfl|exact aeZ (by kernel_rfl) fun _ _ _ _ _ _ _ _ _ _ _ _=>rfl|exact ae0 (by kernel_rfl) fun _ _ _ _ _ _ _ _ _ _ _ _ _=>rfl|exact ae1 (by kernel_rfl) fun _ _ _ _ _ _=>rfl):Bd x q st:=hb
theorem dT(Z:Top P w K mg base)(D:bP K x st)(R:e8 P w K mg base k st sp)(hb:Bd x x st:=by exact yg):fW P w K mg base k x sp:=by
 obtain⟨f,fd,a,F⟩:=D;exact⟨f,fd,_,R.ok F,mg_of Z.X Z.G a,F.kp,F.binds hb⟩
theorem dM(D:e7 K C x q st)(c:fh K C)(R:e8 P w K mg base k st sp)(hb:Bd x q st:=by exact yg):fX P w K mg base k (x,C,sp):=by
 obtain⟨f,fd,a,i,F⟩:=D;exact⟨c,f,fd,_,⟨a,i,F.kp⟩,R.ok F,F.binds hb⟩
theorem dI{cn:Str}(Z:Top P w K mg base)(D:e7 K C "__init__" q st)(M:yf K cn C)(R:e8 P w K mg base k st sp)(hb:Bd "__init__" q st:=by exact yg):fY P w K mg base (k+1) (cn,C,sp):=by
 obtain⟨f,fd,a,i,F⟩:=D;exact⟨k,f,fd,_,zqR _,⟨M.m,a,i,M.k⟩,R.ok F,mg_of Z.X Z.G M.g,F.binds hb⟩
theorem dH{N N0 bl:List Str}{gt:List (Str×V)}{body:List RS}(Z:Top P w K mg base)(D:bP K x st)
  (oS:∀vs H Q,sp vs H Q E0->aA (aH K [] gt) body {nx:=fun _ H'=>Q .aD H',rt:=Q} (start N0 vs) H)
  (hm:∀{CX:bK}{Γ:aJ}{X:Cx},cJ CX (qN N (dD st) [] (gt.map (·.1)) bl (md:=1)) Γ X->cT X (dm st) (aA Γ body)) (k:Nat)
  (len:∀vs H Q E,sp vs H Q E->vs.length=(eZ st).length:=by intro _ _ _ _ h;repeat (first| (obtain⟨rfl,_⟩:=h;kernel_rfl)| (obtain⟨_,h⟩:=h)))
  (oQ:∀p∈gt,tJ mg p:=by repeat (first|exact kb|refine kc (Top.gv (by assumption) (by assumption)) ?_))
  (oR:∀y∈bl,mg y=none:=by repeat (first|exact kb|refine kc (Top.no (by assumption) (by assumption)) ?_))
  (S:mm N (eZ st) (dD st):=by exact Mz) (hb:Bd x x st:=by exact yg) (hN:N0.length=N.length:=by kernel_rfl):mZ P w K mg base (k+1) x sp:=by
 obtain⟨f,fd,a,F⟩:=D;exact Us F S (mg_of Z.X Z.G a) (F.binds hb) gt bl body hm oQ oR len fun vs H Q h=>by
  have r:=oS vs H Q h;unfold start at r⊢;rw[hN] at r;exact r
theorem fW.l{a b:Sp}(T:fW P w K mg base k x (B.ka a b)):fW P w K mg base k x a:=T.weak fun _ _ _ _ h=>.inl h
theorem fW.r{a b:Sp}(T:fW P w K mg base k x (B.ka a b)):fW P w K mg base k x b:=T.weak fun _ _ _ _ h=>.inr h
theorem fX.l{a b:Sp}(T:fX P w K mg base k (x,C,B.ka a b)):fX P w K mg base k (x,C,a):=T.weak fun _ _ _ _ h=>.inl h
theorem fX.r{a b:Sp}(T:fX P w K mg base k (x,C,B.ka a b)):fX P w K mg base k (x,C,b):=T.weak fun _ _ _ _ h=>.inr h
theorem fY.l{a b:Sp}(T:fY P w K mg base k (x,C,B.ka a b)):fY P w K mg base k (x,C,a):=T.weak fun _ _ _ _ h=>.inl h
theorem fY.r{a b:Sp}(T:fY P w K mg base k (x,C,B.ka a b)):fY P w K mg base k (x,C,b):=T.weak fun _ _ _ _ h=>.inr h
theorem acZ{h:Heap}{fa:Addr}(X:K.In h)(G:h.Ns mainGlobals mg)(C7:mg x=some (.ref fa))(D:bP K x st)
  (R:∀base,Top P w K mg base->e8 P w K mg base k st sp) (hp:eZ st=[y]:=by kernel_rfl)
  (hb:∀(kV doc pm:Value) (an:Option Addr) (aT ct a0:Value),bindArgs (fnOf x x (gO st) (dm st) (dD st) .none kV doc pm an aT ct) ⟨[a0],[]⟩=pure [(y,a0)]:=by exact fun _ _ _ _ _ _ _=>rfl):
  ∃fd:FuncData,(∀(s:Shared) (v:Value),BindsTo s fd ⟨[v],[]⟩ [(y,v)])/\∀base:Heap,K.In base->base.Ns mainGlobals mg->cw P w K mg base si k fa fd [y] (fun vs H Q _=>sp vs H Q E0):=by
 obtain⟨f,fd,e,F⟩:=D;cases C7.symm.trans (mg_of X G e);have F':=F;obtain⟨oc,od,kV,doc,pm,an,aT,ct,fK,rfl,lk,gK⟩:=F'.ex;refine⟨_,fun s v=>.of_eq<|hb kV doc pm an aT ct v,fun base X2 G2=>?_⟩;have r:=(R base ⟨X2,G2⟩).ok F;rw[hp] at r;exact cw.top r
def MA(K:Frag)(cs:List Addr)(bF D:Addr)(j:Nat):Bool:=(cs.zipIdx.all fun c=>kitOne K (.ref D) (.ref c.1)==some (decide<|c.2=j)) && kitOne K (.ref D) (.ref bF)==some true && kitOne K (.ref D) (.type "ValueError")==some true
structure nS (K:Frag) (cs:List Addr) (bF D:Addr) (j:Nat):Prop where
 c:qw K D
 b:MA K cs bF D j=true
 x:exmOne K (.ref D) (.ref bF)=some true
theorem nS.uP{cs:List Addr}{bF D:Addr}(h:nS K cs bF D j):B.jE K cs bF D j:=by
 have b:=h.b
 simp only[MA,zad,beq_iff_eq,zaY] at b
 refine⟨h.c,fun i c e=>b.1.1 (c,i) ?_,b.1.2,b.2⟩;rw[List.mem_zipIdx_iff_getElem?];exact e
end
end L2
namespace L2.bA
open PySem PySem.Spec PyProof.Rows L2.B
theorem all_mk{P:Program}{w:World}{K:Frag}{h:Heap}{mg:Str->Option Value}{fa rN ir pW pX km ko iu kq ku pY pZ p9 p_ qc qd qe C8:Addr}(X:K.In h)(G:h.Ns mainGlobals mg)(C7:mg "law"=some (.ref fa))
  {ac0:Nat}{ac1 ac2:Tok}
  (ae2:eL K ("InkError",.ref pW))
  (ae3:eL K ("BadText",.ref pX))
  (ae4:eL K ("BadChange",.ref km))
  (ae5:eL K ("BadFit",.ref ko))
  (ae6:eL K ("NoPlace",.ref iu))
  (ae7:eL K ("BadSide",.ref kq))
  (ae8:eL K ("NoMark",.ref ku))
  (ae9:eL K ("NoNode",.ref pY))
  (ae_:eL K ("NoCursor",.ref pZ))
  (afa:eL K ("BadDeed",.ref p9))
  (afb:eL K ("BadLetter",.ref p_))
  (afc:eL K ("NoLetter",.ref qc))
  (afd:eL K ("NoHand",.ref qd))
  (afe:eL K ("NoNote",.ref qe))
  (ac3:yf K "Track" rN)
  (ac4:yf K "Spans" ir)
  (kx:lI K rN)
  (eM:jm K ir)
  (aff:pV K ("BadChange",km))
  (afg:pV K ("BadFit",ko))
  (afh:pV K ("NoPlace",iu))
  (afi:pV K ("BadSide",kq))
  (afj:pV K ("NoMark",ku))
  (MB:nS K [pX,km,ko,iu,kq,ku,pY,pZ,p9,p_,qc,qd,qe] pW km 1)
  (MC:nS K [pX,km,ko,iu,kq,ku,pY,pZ,p9,p_,qc,qd,qe] pW ko 2)
  (MD:nS K [pX,km,ko,iu,kq,ku,pY,pZ,p9,p_,qc,qd,qe] pW iu 3)
  (ME:nS K [pX,km,ko,iu,kq,ku,pY,pZ,p9,p_,qc,qd,qe] pW kq 4)
  (MF:nS K [pX,km,ko,iu,kq,ku,pY,pZ,p9,p_,qc,qd,qe] pW ku 5)
  (a0:bP K "is_whole" Ht)
  (a1:bP K "is_between" Hu)
  (a2:bP K "is_truth" Hv)
  (a3:bP K "is_word" Hw)
  (a4:bP K "is_text" Hx)
  (a5:bP K "is_part" Hy)
  (a6:bP K "may_follow" Hz)
  (a7:bP K "need_change" HD)
  (a8:bP K "many_upto" HF)
  (a9:bP K "need_side" HG)
  (a10:e7 K rN "__init__" "Track.__init__" HH)
  (a11:e7 K rN "to_left" "Track.to_left" HJ)
  (a12:e7 K rN "to_right" "Track.to_right" HK)
  (a13:e7 K rN "lead" "Track.lead" HL)
  (a14:bP K "moved" HM)
  (a15:e7 K ir "__init__" "Shelf.__init__" HN)
  (a16:e7 K ir "keep" "Shelf.keep" HQ)
  (a17:e7 K ir "stand" "Shelf.stand" HR)
  (a18:e7 K ir "drop" "Shelf.drop" HV)
  (a19:e7 K ir "numbers" "Shelf.numbers" HX)
  (a20:e7 K ir "size" "Shelf.size" HY)
  (a21:e7 K ir "changed" "Shelf.changed" HZ)
  (a22:e7 K ir "add" "Spans.add" Ia)
  (a23:e7 K ir "told" "Spans.told" Ic)
  (a24:e7 K ir "at" "Spans.at" Ig)
  (a25:e7 K ir "bounds" "Spans.bounds" Ik)
  (a26:bP K "_law_cell_at" Il)
  (a27:bP K "_law_whole" Im)
  (a28:bP K "_law_mixed" Io)
  (a29:bP K "_law_text" Ip)
  (a30:bP K "_law_size" Iq)
  (a31:bP K "_law_parts" Ir)
  (a32:bP K "_law_neat" Iu)
  (a33:bP K "_law_change" Iv)
  (a34:bP K "_law_done" Iw)
  (a35:bP K "_law_word" eJ)
  (a36:bP K "_law_stretch" IA)
  (a37:bP K "_law_odd" lM)
  (a38:bP K "_law_told" ID)
  (a39:bP K "_law_refused" c_)
  (a40:bP K "_law_due" IG)
  (a41:bP K "_law_at" IL)
  (a42:bP K "_law_bounds" IS)
  (a43:bP K "_law_covers" IV)
  (a44:bP K "_law_ends" IY)
  (a45:bP K "_law_asked" Ja)
  (a46:bP K "_law_stands" Jd)
  (a47:bP K "_law_moved" Jg)
  (a48:bP K "_law_kept" tX)
  (a49:bP K "_law_deed" da)
  (a50:bP K "law" dJ)
  (afk:eL K ("SIGNS",.str SG))
  (afl:eL K ("SIDES",.ref C8))
  (adN:K.lookup C8=some ⟨.type "tuple",none,.seq #[.str "left" ac1,.str "right" ac2] ac0,#[]⟩)
  (afm:nsIn K mainGlobals "ValueError"=some none)
  (afn:nsIn K mainGlobals "all"=some none)
  (afo:nsIn K mainGlobals "bool"=some none)
  (afp:nsIn K mainGlobals "int"=some none)
  (afq:nsIn K mainGlobals "isinstance"=some none)
  (afr:nsIn K mainGlobals "len"=some none)
  (afs:nsIn K mainGlobals "list"=some none)
  (aft:nsIn K mainGlobals "max"=some none)
  (afu:nsIn K mainGlobals "min"=some none)
  (afv:nsIn K mainGlobals "range"=some none)
  (afw:nsIn K mainGlobals "set"=some none)
  (afx:nsIn K mainGlobals "sorted"=some none)
  (afy:nsIn K mainGlobals "str"=some none)
  (afz:nsIn K mainGlobals "tuple"=some none)
  :∃fd:FuncData,(∀(s:Shared) (v:Value),BindsTo s fd ⟨[v],[]⟩ [("_law_script",v)])/\∀base:Heap,K.In base->base.Ns mainGlobals mg->cw P w K mg base si 10 fa fd ["_law_script"] (fun vs H Q _=>(ye K) vs H Q E0):=by
 have adO:Kn K C8 SD:=fun _=>.inr ⟨_,_,_,adN,rfl,rfl,bS,(.cons ⟨_,rfl⟩<|.cons ⟨_,rfl⟩ .nil)⟩;have adP:=MB.uP;have adQ:=MB.x;have adR:=MC.uP;have adS:=MC.x;have adT:=MD.uP;have adU:=MD.x;have adV:=ME.uP;have adW:=ME.x;have adX:=MF.uP;have adY:=MF.x;refine acZ X G C7 a50 fun base Z=>?_;have T0:=dT Z a0 (dL Z Zy @VZ 0);have T1:=dT Z a1 (dL Z Z0 @V0 1);have afA:=T1.weak (a:=Bv) fun _ _ _ _ h=>Z1 h;have T2:=dT Z a2 (dL Z aa1 @V1 0);have T3:=dT Z a3 (dL Z ZA @V2 0);have T4:=dT Z a4 (dL Z Zz @V3 0);have T5:=dT Z a5 (dL Z ZC @V4 1);have afB:=T5.weak (a:=AV) fun _ _ _ _ h=>ZE h;have T6:=dT Z a6 (dL Z XW @V5 0);have T7:=dT Z a7 (e8.or (dL Z (X6 (et:=[("BadChange",km)])) @HE 2)<|dL Z ZG @HE 2);have afC:=T7.l;have afD:=T7.r;have T8:=dT Z a8 (dL Z Zj @V6 0);have T9:=dT Z a9 (dL Z (Z3 adO) @V7 1);have afE:=T9.weak (a:=Bu) fun _ _ _ _ h=>Z4 h;have T10:=dI Z a10 ac3 (e8.or (dL Z (Zc kx) @HI 3)<|dL Z Z5 @HI 3);have afF:=T10.l;have T11:=dM a11 kx.cl (dL Z (Zo kx) @V8 1);have T12:=dM a12 kx.cl (dL Z (Zq kx) @V9 1);have T13:=dM a13 kx.cl (dL Z (Zr kx) @V_ 2);have T14:=dT Z a14 (dL Z (Zt (et:=[("NoPlace",iu)]) kx) @Wa 5);have MG:=dI Z a15 ac4 (e8.or (dL Z (N.aaf (CP:=iu) eM) @HP 1)<|dL Z abn @HP 1);have afK:=MG.r;have afL:=MG.l;have T16:=dM a16 eM.cl (dL Z (N.aah eM) @Wb 0);have MH:=dM a17 eM.cl (e8.or (dL Z (N.aak (CM:=ku) eM) @HS 1)<|dL Z (abo eM) @HS 1);have afN:=MH.l;have afO:=MH.r;have MI:=dM a18 eM.cl (e8.or (dL Z (aaX eM) @HW 2)<|dL Z abp @HW 2);have afP:=MI.r;have afQ:=MI.l;have T19:=dM a19 eM.cl (dL Z (N.aam eM) @Wc 0);have T20:=dM a20 eM.cl (dL Z (N.aag eM) @Wd 0);have MJ:=dM a21 eM.cl (e8.or (dL Z (N.aaw (CF:=ko) eM kx) @H_ 5)<|dL Z (N.aaC eM kx) @H_ 5);have afT:=MJ.r;have afU:=MJ.l;have MK:=dM a22 eM.cl (e8.or (dL Z (aa0 (CP:=iu) (CS:=kq)) @Ib 2)<|dL Z abr @Ib 2);have afV:=MK.r;have afW:=MK.l;have ML:=dM a23 eM.cl (e8.or (dL Z aaZ @Ie 2)<|dL Z abq @Ie 2);have afX:=ML.l;have afY:=ML.r;have MM:=dM a24 eM.cl (e8.or (dL Z (aa2 (CP:=iu)) @Ih 3)<|dL Z abt @Ih 3);have afZ:=MM.r;have af0:=MM.l;have T25:=dM a25 eM.cl (dL Z aa4 @Wl 3);have T26:=dT Z a26 (dL Z XX @Wm 0);have T27:=dT Z a27 (dL Z aaq @Wn 0);have T28:=dT Z a28 (dL Z XY @Wo 0);have T29:=dT Z a29 (dL Z Yi @Wq 1);have T30:=dT Z a30 (dL Z YY @Wr 0);have T31:=dT Z a31 (dL Z aaE @Wt 2);have T32:=dT Z a32 (dL Z Ys @Wu 0);have T33:=dT Z a33 (dL Z aaO @Wv 3);have T34:=dT Z a34 (dL Z ZW @Ww 0);have T35:=dH (sp:=xb K [pX,km,ko,iu,kq,ku,pY,pZ,p9,p_,qc,qd,qe] pW) Z a35 ZU @WG 0;have T36:=dT Z a36 (dL Z abv @WI 1);have T37:=dT Z a37 (dL Z abw @WM 1);have T38:=dT Z a38 (dL Z (abK adP adR adT adV adX adQ adS adU adW adY) @WR 6);have T39:=dT Z a39 (dL Z ab0 @W5 7);have T40:=dT Z a40 (dL Z aa8 @W6 0);have T41:=dT Z a41 (dL Z aa9 @W9 4);have T42:=dT Z a42 (dL Z abb @Xa 4);have T43:=dT Z a43 (dL Z abk @Xe 5);have T44:=dT Z a44 (dL Z abi @Xi 3);have T45:=dT Z a45 (dL Z abl @Xl 6);have T46:=dT Z a46 (dL Z abm @Xn 7);have T47:=dT Z a47 (dL Z abE @Xq 6);have T48:=dT Z a48 (dL Z abO @Xs 4);have T49:=dT Z a49 (dL Z acd @XF 8)
 exact dL Z acH @XT 9
theorem walk{l:PySem.W.OpenLaw}{q:Program}{loose:List Str}{XP:(Str->Option Value)->Heap->Prop}{YP:World->Heap->Prop}{d:DefRec}{K:Params->Frag}(hn:l.most=some 63)(se:d.params.defaults=[])
  (hY:∀(w:World) (h:Heap),YP w h->(K w.params).In h)
  (F:∀(w:World) (mg:Str->Option Value) (fa:Addr) (h:Heap),(K w.params).In h->h.Ns mainGlobals mg->mg d.name=some (.ref fa)->
   ∃fd:FuncData,(∀(s:Shared) (u:Value),BindsTo s fd ⟨[u],[]⟩ [("_law_script",u)])/\∀base:Heap,(K w.params).In base->base.Ns mainGlobals mg->cw l.prog w (K w.params) mg base si 10 fa fd ["_law_script"] ((fun K=>(fun vs H Q _=>(ye K) vs H Q E0)) (K w.params))):
  PySem.W.WalkO q loose XP YP l.row.toRowW d [] (fun f vs=>PySem.call f vs):=
 L2.PM (n:=63) (k:=10) (x:="_law_script") (CX:=fun _=>si) (sp:=fun w=>(fun K=>(fun vs H Q _=>(ye K) vs H Q E0)) (K w.params)) hn (by decide) se ⟨rfl,by decide,by decide,rfl⟩ hY F (fun _ _ a ns hl _ hS=>⟨a,ns,rfl,hS,fun _=>rfl⟩) fun _ _ _ _ _ z=>z
end L2.bA
namespace PySem.W.Fast
def tw11336218700364294450:=()
def tw15918524108553385802:=()
def tw13104393910323784865:=()
def tw7305317103626664150:=()
def tw5754652009818378228:=()
def tw2930993092613693523:=()
def tw2917446155701801308:=()
def tw4572140555218006958:=()
def tw8263651921932388412:=()
def tw10031268468507465275:=()
def tw6180558395821526259:=()
def tw15861716710059828244:=()
def tw15977898127037042966:=()
def tw914234953681291875:=()
def tw15040940089274690461:=()
def tw3743617496679134353:=()
def tw6036936930742418299:=()
def tw14523006217038374490:=()
def tw7733374811987041867:=()
def tw6285410811958331607:=()
def tw14465638287515396598:=()
def tw2994494051046946781:=()
def tw10060080696539325063:=()
def tw220677724873335303:=()
def tw8254121282953526463:=()
def tw12122701577923958980:=()
def tw11418665196613454206:=()
def tw1938931807265944970:=()
def tw17573920941641404789:=()
def tw4148749199073783231:=()
def tw4040323372145374776:=()
def tw15705884721152198944:=()
def tw6372490100485826013:=()
def tw14301035895101364617:=()
def tw10750438218273113918:=()
def tw5540968267993937770:=()
def tw14085692737879609145:=()
def tw18081321328438430862:=()
def tw690441824561772:=()
def tw9496578363654922793:=()
def tw2459936665431691884:=()
def tw12730947476484105837:=()
def tw14407677771874340029:=()
def tw6186733127679493773:=()
def tw2111782022651759282:=()
def tw6089170023796936507:=()
def tw7261633158662033098:=()
def tw11515583339978157584:=()
def tw15639019149691159424:=()
def tw2558689167983178611:=()
def tw2465195638083360427:=()
def tw3266786746357816824:=()
def tw7098338444791183803:=()
def tw6661083489817565861:=()
def tw13482551433437680665:=()
def tw7090939953945816016:=()
def tw257359064919426281:=()
def tw15230596486039664910:=()
def tw3816465033750565963:=()
def tw968901894550061118:=()
def tw7122031327583284492:=()
def tw17008390298137581097:=()
def tw16119278006844319039:=()
def tw11744479607268739968:=()
def tw13803347510144716817:=()
def tw11319162043542970137:=()
def tw14745161794960656432:=()
def tw2402348495471851330:=()
def tw2220446389474474585:=()
def tw12281359974779353152:=()
def tw4109058721657932152:=()
def tw11157252491067199785:=()
def tw2736949088294904494:=()
def tw8894479760110111021:=()
def tw10125667966760521784:=()
def tw1848496095693038897:=()
def tw6578765010150037343:=()
def tw14962574058825249511:=()
def tw15650395207655943931:=()
def tw7450782317588230078:=()
def tw3800033589701262956:=()
def tw9186031147774697052:=()
def tw1024350854048933786:=()
def tw3248786917020718312:=()
def tw11951103248770225991:=()
def tw11764535635959173859:=()
def tw5038237431546071611:=()
def tw2205634459603787583:=()
def tw9014990281697230979:=()
def tw17003845813057450380:=()
def tw9963472032524368042:=()
def tw5525612820272457819:=()
def tw907445028721802936:=()
def tw6878805328812731252:=()
def tw8543875472313850388:=()
def tw7381600011596660878:=()
def tw14419134536352808447:=()
def tw12315169916290458942:=()
def tw8814623175803254024:=()
def tw9000648640621397277:=()
def tw3479484568470735328:=()
def tw1361659311838315759:=()
def tw13970259385286702028:=()
def tw4874279813604066020:=()
def tw3822611916767453808:=()
def tw15022079162505689554:=()
def tw692456889474619664:=()
def tw2159191150490771282:=()
def tw8415940036247551066:=()
def tw13247881678726309494:=()
def tw14666508398718324102:=()
def tw395520745491211213:=()
def tw14781806175879135063:=()
def tw2457380536843497853:=()
def tw2293161940424785387:=()
def tw3967590399938170848:=()
def tw14190051012006124720:=()
def tw1916339216951780091:=()
def tw5434663169885676455:=()
def tw16959668047102247889:=()
def tw13337793801423623138:=()
def tw6067525532236094373:=()
def tw12653462767332231877:=()
def tw11425276358307273050:=()
def tw16373837355023735275:=()
def tw17877790086409818530:=()
def tw450271227610170142:=()
def tw18213081525060500173:=()
def tw2391309015897615104:=()
def tw3164881890557675018:=()
def tw11927116759161585374:=()
def tw17300634587324239604:=()
def tw12382243174344465528:=()
def tw9095824237443709844:=()
def tw4906608202388989557:=()
def tw1908051886250130563:=()
def tw11900785807963662958:=()
def tw4821890835711425645:=()
def tw18220509464967908747:=()
def tw4478182448623444728:=()
def tw13326751441381267468:=()
def tw8596822262395814028:=()
def tw793461858093510333:=()
def tw10378832305418768526:=()
def tw6441121148033133892:=()
def tw18004347171663178348:=()
def tw5599413624080562677:=()
def tw12758682436803480575:=()
def tw16756905169329858138:=()
def tw4526667775318777459:=()
def tw15717001359858339457:=()
def tw8994819481001863915:=()
def tw9257931600222622050:=()
def tw15614257041941103252:=()
def tw11378851997685113951:=()
def tw14523347272881273196:=()
def tw7982403468298124796:=()
def tw15050984270305348956:=()
def tw6316881745240369897:=()
def tw2778190713452983268:=()
def tw13090410022939527304:=()
def tw13285048852583269543:=()
def tw1298970650921017830:=()
def tw11067753298500404145:=()
def tw15230813907917540268:=()
def tw16250020218532758648:=()
def tw15302257421627254737:=()
def tw7286175933457187649:=()
def tw10513942285634871292:=()
def tw6948336183675428067:=()
def tw17645693580623757429:=()
def tw7860340917227117426:=()
def tw12915267107917811036:=()
def tw13644891894209295516:=()
def tw9214291263814833282:=()
def tw4943375628450413199:=()
def tw4442030480359737448:=()
def tw18076119989208135653:=()
def tw4870128719319273870:=()
def tw1585251487320190005:=()
def tw16389531103758455716:=()
def tw2016575207189505780:=()
def tw17165062698101296943:=()
def tw4624249177421902850:=()
def tw12800323847013403863:=()
def tw5797004335172254622:=()
def tw2118424022690501047:=()
def tw9167018875305164095:=()
def tw1866973878959988322:=()
def tw2747879604683502567:=()
def tw17727951621195451345:=()
def tw8804040163770104155:=()
def tw467564798814400925:=()
def tw16038540828514685753:=()
def tw13405386053441348646:=()
def tw4467857579369240781:=()
def tw2938929794669583604:=()
def tw17141696005903669524:=()
def tw9699950582256540427:=()
def tw15690125872445687732:=()
def tw9706866594181206416:=()
def tw3434098717726177724:=()
def tw17732521473561226187:=()
end PySem.W.Fast
open PySem PySem.W PyProof.Rows
set_option maxRecDepth 100000 in
set_option maxHeartbeats 0 in
theorem PySem.Challenge.cw_inkloom_k21_spans_told_holds : PySem.Challenge.rw_inkloom_k21_spans_told.Holds := by
 w_on;o_law;k_head;(case hw=>w_witness2)
 k_fill
 refine L2.bA.walk (l:=PySem.Challenge.rw_inkloom_k21_spans_told) rfl rfl (fun w h Y=>PySem.W.kIn_of Y) ?F
 case F=>
  intro w mg fa h KX G kU
  refine' L2.bA.all_mk KX G kU ..
  all_goals try first | refine' L2.dfk .. | refine' L2.acS .. | refine' L2.yf.mk .. | refine' L2.dmk .. | refine' L2.agp .. | refine' L2.acR .. | refine' L2.pV.mk .. | refine' L2.nS.mk (L2.qw.mk ..) .. | refine' L2.B.lI.mk (L2.fh.mk ..) .. | refine' L2.B.jm.mk (L2.fh.mk ..) ..
  all_goals try refine' L2.acT ..
  all_goals try first | k_is | k_exc | kernel_rfl
