import PyProof.Rows.All
import Wide.All
import OpenK.AllK
import Wide.FinOn
import Lean
import PyProof.EqAt
import PyProof.EqKinds
import PyProof.TupleCall
import PyProof.Rows.EqDataRows
import PyProof.DictList
import PyProof.FactsAll.dict_1
import PyProof.FactsAll.subtypes_4
import KE.KTryMore
import PyProof.WalksEnum
import PyProof.EnumMake
import PyProof.ListStr
import PyProof.TupleOfStr
import PyProof.Dict
import PyProof.ToksMono
import PyProof.StrCalls6
import PyProof.StrWalks
import PyProof.ConsumeWalk
import PyProof.CallStr
import PyProof.MeetsStr
import KE.KIntText
import PyProof.StrCalls2
import PyProof.StrOps2
import KE.KSortTup
import PyProof.WalksMore
import PyProof.TupleIter
import PyProof.SliceList
import PyProof.ListRange
import KE.KRevIter
import PyProof.ZipIter
import PyProof.StrLaws
import PyProof.ListNew
import PyProof.Rows.Range3
import PyProof.StrLawsIn
import PyProof.Rows.StrCut
import KE.KDictSum
import PySem.Challenge.RW_inkloom_k48_long_rows_of_nodes
set_option Elab.async false
set_option linter.all false
set_option maxRecDepth 100000
set_option compiler.extract_closed false
noncomputable section
theorem DQ:0≤PySem.sizeLine:=by decide
theorem eG:1≤PySem.sizeLine:=by decide
theorem d4:2≤PySem.sizeLine:=by decide
theorem yU:3≤PySem.sizeLine:=by decide
theorem Od:4≤PySem.sizeLine:=by decide
open PySem.W (Frag callWith_K cellsFrom_some emptyDict exmOne handedIn hasDictIn hideAll hideAll_get instObj kia_one kitOne kitx_dict kitx_list lookIn makesIn methodObj mroIn nsIn of_hideAll plainGet plainGet_of plainOver specialIn takerIn takesIn)
theorem zqT{p:Prop}[Decidable p](h:p):decide p=true:=decide_eq_true h
theorem zqF{p:Prop}[Decidable p](h: ¬p):decide p=false:=decide_eq_false h
theorem zqA{α:Type}{a b:List α}:(a++b).length=a.length+b.length:=List.length_append
theorem zqR(n:Nat):n≤n:=Nat.le_refl n
theorem zqZ(n:Nat):0≤n:=Nat.zero_le n
def zaa:=@List.mem_cons
def zab:=@List.append_nil
def zac:=@List.mem_singleton
def zad:=@List.length_map
def zae:=@List.size_toArray
def zaf:=@List.getElem?_map
def zag:=@Bool.and_eq_true
def zah:=@List.getElem?_eq_some_iff
def zai:=@List.mem_append
def zaj:=@List.append_assoc
def zak:=@List.length_cons
def zal:=@Option.some.inj
def zam:=@List.not_mem_nil
def zan:=@List.mem_of_getElem?
def zao:=@List.map_append
def zap:=@Nat.lt_of_lt_of_le
def zaq:=@Nat.ne_of_lt
def zar:=@List.map_cons
def zas:=@Bool.false_ne_true
def zat:=@Nat.le_trans
def zau:=@List.mem_append_right
def zav:=@List.getElem?_eq_getElem
def zaw:=@List.mem_append_left
def zax:=@List.mem_cons_self
def zay:=@List.mem_cons_of_mem
def zaz:=@Nat.lt_irrefl
def zaA:=@List.getElem?_append_left
def zaB:=@Int.toNat_natCast
def zaC:=@List.length_drop
def zaD:=@List.length_eq_zero_iff
def zaE:=@Nat.ne_of_gt
def zaF:=@List.length_take
def zaG:=@List.length_range
def zaH:=@List.length_reverse
def zaI:=@Bool.false_xor
def zaJ:=@List.reverse_cons
def zaK:=@List.mem_iff_getElem?
def zaL:=@List.length_singleton
def zaM:=@List.find?_cons
def zaN:=@Bool.true_xor
def zaO:=@List.nodup_cons
def zaP:=@Int.le_refl
def zaQ:=@List.getElem?_cons_succ
def zaR:=@List.sum_cons
def zaS:=@List.reverse_reverse
def zaT:=@Nat.le_succ
def zaU:=@List.length_nil
def zaV:=@List.take_of_length_le
def zaW:=@Bool.not_eq_true'
def zaX:=@List.map_map
def zaY:=@List.map_nil
def zaZ:=@List.replicate_succ
def zba:=@Option.map_eq_some_iff
def zbb:=@List.lookup_cons
def zbc:=@Bool.false_eq_true
def zbd:=@Nat.le_add_right
def zbe:=@List.getElem?_eq_none
def zbf:=@List.range_succ
def zbg:=@Nat.zero_add
def zbh:=@List.cons_append
def zbi:=@List.mem_filterMap
def zbj:=@Nat.lt_succ_self
def zbk:=@Bool.or_false
def zbl:=@List.all_cons
def zbm:=@Array.getElem?_eq_getElem
def zbn:=@List.cons.inj
def zbo:=@List.map_congr_left
def zbp:=@List.drop_eq_getElem_cons
def zbq:=@Nat.le_of_lt
def zbr:=@List.any_cons
def zbs:=@List.flatten_cons
def zbt:=@List.take_length
def zbu:=@List.take_add_one
def zbv:=@Nat.sub_self
def zbw:=@List.mem_of_mem_drop
def zbx:=@Int.natCast_add
def zby:=@List.reverse_append
def zbz:=@List.getElem?_range
def zbA:=@List.mem_range
def zbB:=@List.filterMap_cons
def zbC:=@List.getElem?_set_self
def zbD:=@List.getElem?_set_ne
def zbE:=@Array.length_toList
def zbF:=@Bool.false_and
def zbG:=@Bool.eq_iff_iff
def zbH:=@List.getElem?_append_right
def zbI:=@List.length_replicate
def zbJ:=@List.foldl_cons
def zbK:=@List.nil_append
def zbL:=@Option.map_some
def zbM:=@Nat.lt_succ_of_lt
def zbN:=@Bool.or_eq_true
def zbO:=@List.drop_zero
def zbP:=@List.filterMap_map
def zbQ:=@List.drop_length
def zbR:=@Int.eq_ofNat_of_zero_le
def zbS:=@Int.emod_nonneg
def zbT:=@Int.emod_lt_of_pos
def zbU:=@List.length_dropLast
def zbV:=@Array.toList_append
def zbW:=@List.eq_nil_of_length_eq_zero
def zbX:=@List.filter_append
def zbY:=@List.length_filter_le
def zbZ:=@List.take_append_drop
def zca:=@List.getLast?_append
def zcb:=@List.mem_of_mem_take
def zcc:=@List.dropLast_concat
def zcd:=@List.getElem?_zip_eq_some
namespace L2
open PySem PySem.Spec PyProof.Rows
abbrev Key:=Sum Int Str
def qD:Key->Value->Bool
 |.inl k,v=>Value.isInt k v
 |.inr x,v=>Value.isStrOf x v
def Oe(w:World):Key->Int
 |.inl k=>hashInt k
 |.inr x=>hashStr w x
theorem lM:∀{k:Key}{v:Value},qD k v=true->(∃i t,k=Sum.inl i/\v=Value.int i t)\/(∃x t,k=Sum.inr x/\v=Value.str x t)
 |.inl i,v,h=>by
  obtain⟨t,e⟩:=Value.isInt_shape (k:=i) (v:=v) h;exact .inl ⟨i,t,rfl,e⟩
 |.inr x,v,h=>by
  obtain⟨t,e⟩:=Value.isStrOf_shape (x:=x) (v:=v) h;exact .inr ⟨x,t,rfl,e⟩
theorem Of(i:Int)(t:Tok):qD (.inl i) (.int i t)=true:=by simp[qD,Value.isInt]
theorem Og(x:Str)(t:Tok):qD (.inr x) (.str x t)=true:=by simp[qD,Value.isStrOf]
theorem Oh(a b:Int):decide ((Sum.inl a:Key)=Sum.inl b)=(a==b):=by
 by_cases e:a=b
 ·subst e;simp
 ·have h:¬(Sum.inl a:Key)=Sum.inl b:=fun q=>e (Sum.inl.inj q);rw[zqF h];exact(beq_eq_false_iff_ne.mpr e).symm
theorem Oi(a b:Str):decide ((Sum.inr a:Key)=Sum.inr b)=decide (a=b):=by
 by_cases e:a=b
 ·subst e;simp
 ·have h:¬(Sum.inr a:Key)=Sum.inr b:=fun q=>e (Sum.inr.inj q);rw[zqF h,zqF e]
theorem Oj(a:Int)(b:Str):decide ((Sum.inl a:Key)=Sum.inr b)=false:=zqF (fun q=>nomatch q)
theorem Ol(a:Str)(b:Int):decide ((Sum.inr a:Key)=Sum.inl b)=false:=zqF (fun q=>nomatch q)
def dB(prog:Program)(w:World):PySem.KeyKind prog w Key where
 is:=qD
 hash:=Oe w
 inj:=fun v a b ha hb=>by
  rcases lM ha with⟨i,t,rfl,rfl⟩|⟨x,t,rfl,rfl⟩
  ·rcases lM hb with⟨j,u,rfl,e⟩|⟨y,u,rfl,e⟩
   ·injection e with e1 _;rw[e1]
   ·exact nomatch e
  ·rcases lM hb with⟨j,u,rfl,e⟩|⟨y,u,rfl,e⟩
   ·exact nomatch e
   ·injection e with e1 _;rw[e1]
 byValue:=fun k v h=>by
  rcases lM h with⟨i,t,rfl,rfl⟩|⟨x,t,rfl,rfl⟩ <;>rfl
 pyHash:=fun hv h=>by
  rcases lM hv with⟨i,t,rfl,rfl⟩|⟨x,t,rfl,rfl⟩
  ·exact wpAny_pyHash_int h
  ·exact wpAny_pyHash_str h
 eqBool:=fun hu hv h=>by
  rcases lM hu with⟨i,t,rfl,rfl⟩|⟨x,t,rfl,rfl⟩
  ·rcases lM hv with⟨j,u,rfl,rfl⟩|⟨y,u,rfl,rfl⟩
   ·rw[Oh] at h;exact wpAny_eqBool_int h
   ·rw[Oj] at h;exact SeqAt.EqAt.int_str i t y u _ _ _ _ h
  ·rcases lM hv with⟨j,u,rfl,rfl⟩|⟨y,u,rfl,rfl⟩
   ·rw[Ol] at h;exact SeqAt.EqAt.str_int x t j u _ _ _ _ h
   ·rw[Oi] at h;exact wpAny_eqBool_str h
 «strs»:=fun k x t v h=>by
  rcases lM h with⟨i,u,rfl,e⟩|⟨y,u,rfl,e⟩
  ·exact nomatch e
  ·injection e with e1 _
   subst e1;cases v<;>rfl
theorem DR(prog:Program)(w:World)(i:Int)(t:Tok):(dB prog w).is (.inl i) (.int i t)=true:=Of i t
theorem vf(prog:Program)(w:World)(x:Str)(t:Tok):(dB prog w).is (.inr x) (.str x t)=true:=Og x t
inductive V where
 |aC|bl (b:Bool)|int (i:Int)|str (x:Str)|fN (b:Array UInt8)|mT (b:UInt64)|ref (a:Addr)|ty (n:String)
 deriving DecidableEq
def RelV:V->Value->Prop
 |.aC,u=>u=Value.none
 |.bl b,u=>u=Value.bool b
 |.int i,u=>∃t,u=Value.int i t
 |.str x,u=>∃t,u=Value.str x t
 |.fN b,u=>∃t,u=Value.bytes b t
 |.mT b,u=>∃t,u=Value.float b t
 |.ref a,u=>u=Value.ref a
 |.ty n,u=>u=Value.type n
abbrev Vals:List V->List Value->Prop:=Paired RelV
theorem Vals.length{xs:List V}{us:List Value}(r:Vals xs us):xs.length=us.length:=Paired.length r
theorem Vals.get:∀{xs:List V}{us:List Value}{i:Nat}{x:V},Vals xs us->xs[i]?=some x->∃u,us[i]?=some u/\RelV x u
 |_,_,_,_,.nil,e=>by simp at e
 |_,_,0,_,.cons r _,e=>by simp at e;subst e;exact⟨_,rfl,r⟩
 |_,_,i+1,x,.cons _ t,e=>by
  obtain⟨u,h1,h2⟩:=Vals.get (i:=i) (x:=x) t (by simpa using e)
  exact⟨u,by simpa using h1,h2⟩
theorem Vals.set{x:V}{u:Value}(r:RelV x u):∀{xs:List V}{us:List Value} (i:Nat),Vals xs us->Vals (xs.set i x) (us.set i u)
 |_,_,_,.nil=>.nil
 |_,_,0,.cons _ t=>.cons r t
 |_,_,i+1,.cons q t=>.cons q (Vals.set r i t)
theorem Vals.append:∀{xs ys:List V}{us ws:List Value},Vals xs us->Vals ys ws->Vals (xs++ys) (us++ws)
 |_,_,_,_,.nil,s=>s
 |_,_,_,_,.cons r t,s=>.cons r (Vals.append t s)
theorem Vals.take:∀{xs:List V}{us:List Value} (n:Nat),Vals xs us->Vals (xs.take n) (us.take n)
 |_,_,0,_=>.nil
 |_,_,_+1,.nil=>.nil
 |_,_,n+1,.cons r t=>.cons r (Vals.take n t)
theorem Vals.drop:∀{xs:List V}{us:List Value} (n:Nat),Vals xs us->Vals (xs.drop n) (us.drop n)
 |_,_,0,r=>r
 |_,_,_+1,.nil=>.nil
 |_,_,n+1,.cons _ t=>Vals.drop n t
def gm:Option V->Option Value->Prop
 |some v,some u=>RelV v u
 |none,none=>True
 |_,_=>False
def KV{κ:Type}:List (κ×V)->List (κ×Value)->Prop:=Paired fun(p:κ×V) (q:κ×Value)=>p.1=q.1/\RelV p.2 q.2
def kV:Key->V
 |.inl i=>.int i
 |.inr x=>.str x
inductive HO where
 |lst (xs:List V)
 |tup (xs:List V)
 |dK (kvs:List (Key×V))|dT (kvs:List (List Key×V))
 |set (S:Int->Bool) (n:Nat)
 |ins (C dx:Addr) (fs:List (Str×V))
 |own (x:Addr)
 |xd (fs:List (Str×V))
 |met (f x:Addr)
 |gP (lo hi:Int)
 |bV (o:Obj) (u:HO)
 |km (ps:Array Value)
 |ext (φ:Heap->Prop)
abbrev Hp:=Addr->Option HO
def upd(H:Hp)(a:Addr)(o:HO):Hp:=fun b=>if b=a then some o else H b
theorem aw{H:Hp}{a:Addr}{o:HO}:upd H a o a=some o:=by unfold upd;rw[if_pos rfl]
theorem aF{H:Hp}{a b:Addr}{o:HO}(h:b≠a):upd H a o b=H b:=by unfold upd;rw[if_neg h]
theorem vg{H:Hp}{a:Addr}{o u:HO}:upd (upd H a o) a u=upd H a u:=by
 funext b;unfold upd;split<;>rfl
theorem bR{H:Hp}{a b:Addr}{o u:HO}(h:H a=some o)(h':H b=some u)(d:o≠u):a≠b:=by
 intro e;subst e;rw[h] at h';exact d (zal h')
theorem bf{H:Hp}{a b:Addr}{o:HO}(h:H a=some o)(h':H b=none):a≠b:=by
 intro e;subst e;rw[h] at h';cases h'
section
variable (P:Program) (w:World)
def cq(H:Hp)(h:Heap)(a:Addr):HO->Prop
 |.lst xs=>xs.length<=sizeLine/\∃(ao:List Value) (n:Nat),Vals xs ao/\h.get? a=some {cls:=.type "list",data:=.seq ao.toArray n}
 |.tup xs=>xs.length<=sizeLine/\∃ao:List Value,Vals xs ao/\IsTup h a ao.toArray
 |.dK kvs=>kvs.length<=sizeLine/\(a==sysModules)=false/\∃vs,KV kvs vs/\h.DictOf (dB P w) a vs
 |.dT kvs=>kvs.length<=sizeLine/\(a==sysModules)=false/\∃xs:List (List Key×Addr×Value),
   Paired (fun(p:List Key×V) (q:List Key×Addr×Value)=>p.1=q.1/\H q.2.1=some (.tup<|p.1.map kV)/\RelV p.2 q.2.2) kvs xs/\
   ∃o es ep,h.get? a=some o/\o.ExactDict/\o.data=.dict es ep/\es.toList=xs.map (entryOfKey<|tupleKind<|dB P w)/\(xs.map (·.1)).Nodup
 |.set S n=>h.SetOf (intKind P w) a S n
 |.ins C dx fs=>H dx=some (.own a)/\fs.length<=1000/\dx≠a/\h.get? a=some (instObj C dx)/\
   ∃mA,h.Ns1 dx mA/\(∀f,gm (fs.lookup f)<|mA f)/\PySem.Within mA (fs.map (·.1))
 |.own _=>∃o,h.get? a=some o
 |.xd fs=>∃mA,h.Ns1 a mA/\∀f,gm (fs.lookup f) (mA f)
 |.gP lo hi=>∃t u v,h.get? a=some {cls:=.type "range",data:=.fields #[.int lo t,.int hi u,.int 1 v]}
 |.bV o u=>h.get? a=some o/\cq H h a u
 |.km ps=>h.get? a=some {cls:=.none,data:=.fields ps}
 |.met f x=>h.get? a=some (methodObj (.ref f)<|.ref x)
 |.ext φ=>φ h/\(∃o,h.get? a=some o)/\∀h1 h2:Heap,φ h1->(∀o,h1.get? a=some o->h2.get? a=some o)->φ h2
def cf(H:Hp)(h:Heap):Prop:= ∀a o,H a=some o->cq P w H h a o
end
section
variable {P:Program}{w:World}{H H':Hp}{h h':Heap}{a:Addr}{o:HO}
theorem cq.lt(x:cq P w H h a o):a<h.objs.size:=by
 cases o with
 |lst xs=>obtain⟨_,_,_,_,e⟩:=x;exact Heap.lt_size e
 |tup xs=>obtain⟨_,_,_,p⟩:=x;exact p.lt
 |dK kvs=>obtain⟨_,_,_,_,o,_,_,e,_⟩:=x;exact Heap.lt_size e
 |dT kvs=>obtain⟨_,_,_,_,o,_,_,e,_⟩:=x;exact Heap.lt_size e
 |set S n=>obtain⟨o,_,_,_,e,_⟩:=x;exact Heap.lt_size e
 |ins C dx fs=>obtain⟨_,_,_,e,_⟩:=x;exact Heap.lt_size e
 |own y=>obtain⟨_,e⟩:=x;exact Heap.lt_size e
 |xd fs=>obtain⟨_,⟨_,_,_,e,_⟩,_⟩:=x;exact Heap.lt_size e
 |gP lo hi=>obtain⟨_,_,_,e⟩:=x;exact Heap.lt_size e
 |bV ob u=>obtain⟨e,_⟩:=x;exact Heap.lt_size e
 |km ps=>exact Heap.lt_size (show h.get? a=some _ from x)
 |met f y=>exact Heap.lt_size (show h.get? a=some _ from x)
 |ext φ=>obtain⟨_,⟨_,e⟩,_⟩:=x;exact Heap.lt_size e
theorem Paired.yV{α β:Type}{F G:α->β->Prop}:∀{l₁:List α}{l₂:List β},Paired F l₁ l₂->(∀a b,F a b->G a b)->Paired G l₁ l₂
 |_,_,.nil,_=>.nil
 |_,_,.cons r t,f=>.cons (f _ _ r) (Paired.yV t f)
theorem cq.lN(x:cq P w H h a o)(k:∀b u,(b=a\/H b=some (.own a))->h.get? b=some u->h'.get? b=some u)
  (ho:∀b,H b=some (.own a)->H' b=some (.own a)) (ht:∀b xs,H b=some (.tup xs)->H' b=some (.tup xs)):cq P w H' h' a o:=by
 induction o with
 |lst xs=>obtain⟨z,ao,n,r,e⟩:=x;exact⟨z,ao,n,r,k _ _ (.inl rfl) e⟩
 |tup xs=>obtain⟨z,ao,r,ob,e,c⟩:=x;exact⟨z,ao,r,ob,k _ _ (.inl rfl) e,c⟩
 |dK kvs=>obtain⟨z,y,vs,r,ob,es,ep,e,c⟩:=x;exact⟨z,y,vs,r,ob,es,ep,k _ _ (.inl rfl) e,c⟩
 |dT kvs=>
  obtain⟨z,y,xs,r,ob,es,ep,e,c⟩:=x;exact⟨z,y,xs,Paired.yV r fun p q z=>⟨z.1,ht _ _ z.2.1,z.2.2⟩,ob,es,ep,k _ _ (.inl rfl) e,c⟩
 |set S n=>obtain⟨ob,es,ep,t,e,c⟩:=x;exact⟨ob,es,ep,t,k _ _ (.inl rfl) e,c⟩
 |ins C dx fs=>
  obtain⟨d,z,ne,e,mA,⟨od,es,ep,e2,c⟩,r⟩:=x;exact⟨ho _ d,z,ne,k _ _ (.inl rfl) e,mA,⟨od,es,ep,k _ _ (.inr d) e2,c⟩,r⟩
 |own y=>obtain⟨ob,e⟩:=x;exact⟨ob,k _ _ (.inl rfl) e⟩
 |xd fs=>obtain⟨mA,⟨od,es,ep,e,c⟩,r⟩:=x;exact⟨mA,⟨od,es,ep,k _ _ (.inl rfl) e,c⟩,r⟩
 |gP lo hi=>obtain⟨t,u,v,e⟩:=x;exact⟨t,u,v,k _ _ (.inl rfl) e⟩
 |bV ob u ih=>obtain⟨e,q⟩:=x;exact⟨k _ _ (.inl rfl) e,ih q⟩
 |km ps=>
  have e:h.get? a=some {cls:=.none,data:=.fields ps}:=x;show h'.get? a=some {cls:=.none,data:=.fields ps};exact k a _ (.inl rfl) e
 |met f y=>
  have e:h.get? a=some (methodObj (.ref f)<|.ref y):=x;show h'.get? a=some (methodObj (.ref f)<|.ref y);exact k a _ (.inl rfl) e
 |ext φ=>obtain⟨p,⟨o,e⟩,st⟩:=x;exact⟨st _ _ p fun o q=>k _ _ (.inl rfl) q,⟨o,k _ _ (.inl rfl) e⟩,st⟩
theorem cf.lt(x:cf P w H h)(e:H a=some o):a<h.objs.size:=(x a o e).lt
theorem cf.fresh(x:cf P w H h)(e:h.objs.size<=a):H a=none:=by
 cases q:H a with
 |none=>rfl
 |some u=>exact absurd (zap (x.lt q) e) (zaz _)
theorem cf.kept(x:cf P w H h)(k:∀b u,h.get? b=some u->h'.get? b=some u):cf P w H h':=fun a o e=>
 (x a o e).lN (fun b u _ q=>k b u q) (fun _ q=>q) fun _ _ q=>q
theorem cf.laid(x:cf P w H h)(k:∀b u,h.get? b=some u->h'.get? b=some u)(hp:h.objs.size<=a)(new:cq P w (upd H a o) h' a o):cf P w (upd H a o) h':=fun b u e=>by
 have hn:=x.fresh hp;by_cases hb:b=a
 ·subst hb;rw[aw] at e;cases e;exact new
 ·rw[aF hb] at e;exact(x b u e).lN (fun c v _ q=>k c v q) (fun c q=>by rw[aF<|bf q hn];exact q) fun c xs q=>by rw[aF<|bf q hn];exact q
end
def Rd(H:Hp)(a:Addr)(u:HO):Prop:=H a=some u\/∃o,H a=some (.bV o u)
theorem Rd.ok{P:Program}{w:World}{H:Hp}{h:Heap}{a:Addr}{u:HO}(r:Rd H a u)(x:cf P w H h):cq P w H h a u:=by
 rcases r with r|⟨o,r⟩
 ·exact x a u r
 ·obtain⟨_,q⟩:=x a _ r;exact q
def sE:Option HO->Prop
 |some (.lst _)=>True
 |some (.dK _)=>True
 |some (.dT _)=>True
 |some (.set _ _)=>True
 |some (.ins _ _ _)=>True
 |some (.ext _)=>True
 |_=>False
section
variable {P:Program}{w:World}{H:Hp}{h h':Heap}{x e:Addr}{o':HO}
theorem cf.write(ok:cf P w H h)(mu:sE (H x))(he:e=x\/H e=some (.own x))(k:∀b u,b≠e->h.get? b=some u->h'.get? b=some u)(qE:∃u,h'.get? e=some u)
  (new:cq P w (upd H x o') h' x o'):cf P w (upd H x o') h':=fun b u q=>by
 have DS:∀c y,H c=some (.own y)->c≠x:=fun c y r z=>by subst z;rw[r] at mu;exact mu
 have Om:∀c xs,H c=some (.tup xs)->c≠x:=fun c xs r z=>by subst z;rw[r] at mu;exact mu
 by_cases hb:b=x
 ·subst hb;rw[aw] at q;cases q;exact new
 ·rw[aF hb] at q;by_cases oy:b=e
  ·have q':H b=some (.own x):=by
    rcases he with z|z
    ·exact absurd (oy.trans z) hb
    ·rw[oy];exact z
   rw[q] at q';cases q';obtain⟨v,hv⟩:=qE;exact⟨v,by rw[oy];exact hv⟩
  ·refine(ok b u q).lN (fun c v hc r=>k c v ?_ r) (fun c r=>by rw[aF<|DS c b r];exact r) fun c xs r=>by rw[aF<|Om c xs r];exact r
   rcases hc with rfl|hc
   ·exact oy
   ·rintro rfl;rcases he with z|z
    ·exact DS c b hc z
    ·rw[hc] at z;cases z;exact hb rfl
end
structure Un (fs ex:List Addr) (H H':Hp) (h h':Heap):Prop where
 keep:∀b o,h.get? b=some o->H b=none->b∉fs->b∉ex->h'.get? b=some o
 slot:∀b o,h.get? b=some o->H b=none->b∈fs->b∉ex->∃sl,h'.get? b=some {o with slots:=sl}
 free:∀b o,h.get? b=some o->H b=none->b∉ex->H' b=none
 there:∀b o,h.get? b=some o->b∉ex->∃o',h'.get? b=some o'
 bS:∀b xs,H b=some (.tup xs)->H' b=some (.tup xs)
 ie:∀b o u,H b=some (.bV o u)->H' b=some (.bV o u)
 iM:∀b ps,H b=some (.km ps)->∃more,H' b=some (.km<|ps++more)
section
variable {fs gp ex ex':List Addr}{H H1 H2:Hp}{h h1 h2 h':Heap}{a x e:Addr}{o:HO}
theorem Un.any(u:Un fs ex H H1 h h1){b:Addr}{ob:Obj}(q:h.get? b=some ob)(n:H b=none)(hx:b∉ex):∃sl,h1.get? b=some {ob with slots:=sl}:=by
 by_cases hb:b∈fs
 ·exact u.slot b ob q n hb hx
 ·exact⟨ob.slots,u.keep b ob q n hb hx⟩
theorem Un.kept(k:∀b u,h.get? b=some u->h'.get? b=some u):Un fs ex H H h h':=
 ⟨fun b ob q _ _ _=>k b ob q,fun b ob q _ _ _=>⟨ob.slots,k b ob q⟩,fun _ _ _ n _=>n,fun b ob q _=>⟨ob,k b ob q⟩,fun _ _ q=>q,fun _ _ _ q=>q,fun _ ps q=>⟨#[],by rw[q];simp⟩⟩
theorem Un.refl:Un fs ex H H h h:=Un.kept fun _ _ q=>q
theorem Un.laid(k:∀b u,h.get? b=some u->h'.get? b=some u)(hp:h.objs.size<=a)(hn:H a=none):Un fs ex H (upd H a o) h h' where
 keep:=fun b u q _ _ _=>k b u q
 slot:=fun b u q _ _ _=>⟨u.slots,k b u q⟩
 free:=fun b u q n _=>by rw[aF<|zaq<|zap (Heap.lt_size q) hp];exact n
 there:=fun b u q _=>⟨u,k b u q⟩
 bS:=fun b xs q=>by rw[aF<|bf q hn];exact q
 ie:=fun b u xs q=>by rw[aF<|bf q hn];exact q
 iM:=fun b ps q=>⟨#[],by rw[aF<|bf q hn,q];simp⟩
theorem Un.write(mu:sE (H x))(he:e=x\/H e=some (.own x))(k:∀b u,b≠e->h.get? b=some u->h'.get? b=some u)(qE:∃u,h'.get? e=some u):Un fs ex H (upd H x o) h h':=by
 have hx:∀b,H b=none->b≠x:=fun b n z=>by subst z;rw[n] at mu;exact mu
 have hb:∀b,H b=none->b≠e:=fun b n z=>by
  subst z;rcases he with r|r
  ·exact hx b n r
  ·rw[n] at r;cases r
 have hm:∀b u,H b=some u-> ¬sE (some u)->b≠x:=fun b u q nm z=>by subst z;rw[q] at mu;exact nm mu
 refine⟨fun b u q n _ _=>k b u (hb b n) q,fun b u q n _ _=>⟨u.slots,k b u (hb b n) q⟩,fun b u q n _=>by rw[aF (hx b n)];exact n,fun b u q _=>?_,
  fun b xs q=>by rw[aF (hm b _ q fun z=>z)];exact q,fun b u xs q=>by rw[aF (hm b _ q fun z=>z)];exact q,fun b ps q=>⟨#[],by rw[aF (hm b _ q fun z=>z),q];simp⟩⟩
 by_cases oy:b=e
 ·subst oy;exact qE
 ·exact⟨u,k b u oy q⟩
end
def oA(h:Heap)(H:Hp):List Addr:=(List.range h.objs.size).filter fun a=>(H a).isSome
def lO(h:Heap)(H:Hp):Heap:=hideAll h (oA h H)
theorem Oo(h:Heap)(H:Hp):(lO h H).objs.size=h.objs.size:=PySem.W.hideAll_size _ _
theorem Oq{h:Heap}{H:Hp}{b:Addr}{o:Obj}(e:h.get? b=some o)(n:H b=none):(lO h H).get? b=some o:=
 hideAll_get _ e fun hm=>by
  have q:(H b).isSome=true:=(List.mem_filter.mp hm).2;rw[n] at q;simp at q
theorem Ot{h:Heap}{H:Hp}{b:Addr}{o:Obj}(e:(lO h H).get? b=some o):h.get? b=some o/\H b=none:=by
 have e':h.get? b=some o:=of_hideAll (oA h H) e;refine⟨e',?_⟩;cases q:H b with
 |none=>rfl
 |some x=>
  have hm:b∈oA h H:=List.mem_filter.mpr ⟨zbA.mpr<|Heap.lt_size e',by simp[q]⟩
  have z:(lO h H).get? b=none:=PySem.W.hideAll_none (oA h H) hm;rw[z] at e;cases e
structure Mod (K:Frag) (mg:Str->Option Value) (base:Heap):Prop where
 sG:K.In base
 glob:base.Ns mainGlobals mg
 blt:∃mb,base.Ns builtinsNs mb/\∀x:Str,x≠"__name__"->mb x=bootBuiltins x
 nolimit:base.NoLimit
structure Cx where
 prog:Program
 w:World
 K:Frag
 mg:Str->Option Value
 base:Heap
 A:Around
 N:List Str
 s₀:Shared
 H₀:Hp
 env:Env
 outer:List Env
 stack:List Env
 ex:List Addr
 fn:Str->Bool
 calm:Bool
 pn:List (Addr×Obj)
 xe:Value->Shared->Prop
def cw(l:List Env):List Addr:=l.filterMap (·.frame)
abbrev Cx.fs(X:Cx):List Addr:=cw X.outer
def vh(sc:Scope)(x:Str):Prop:=sc.names.lookup x=some .local\/sc.names.lookup x=some .cell\/sc.names.lookup x=some .free
def Loc(sc:Scope)(x:Str):Prop:=sc.names.lookup x=some .local\/sc.names.lookup x=some .cell
def Look(env:Env)(h:Heap)(m:Str->Option Value)(x:Str)(u:Value):Prop:=
 (env.kindOf x=some .local/\m x=some u)\/((env.kindOf x=some .cell\/env.kindOf x=some .free)/\∃c,env.cells.lookup x=some c/\h.IsCell c (some u))
structure Cx.Ok (X:Cx):Prop where
 mod:Mod X.K X.mg X.base
 kind:X.env.scope.kind=.function
 glob:X.env.globals=mainGlobals
 blt:X.env.builtins=builtinsNs
 above:X.s₀.heap.objs.size<=X.env.locals
 inj:∀x y c,X.env.cells.lookup x=some c->X.env.cells.lookup y=some c->x=y
 has:∀x,(X.env.kindOf x=some .cell\/X.env.kindOf x=some .free)->∃c,X.env.cells.lookup x=some c
 yW:∀x c,X.fn x=true->X.env.cells.lookup x=some c->X.s₀.heap.objs.size<=c
 hd:X.calm=true->X.A.handled=none
 frames:X.A.frames=some X.stack
 sI:X.stack=X.outer\/(X.stack=X.env::X.outer/\X.env.frame=some X.env.locals)
 exf:∀b∈X.ex,b≠X.env.locals/\∀x c,X.env.cells.lookup x=some c->c≠b
 bs:∀b o,X.base.get? b=some o->X.s₀.heap.get? b=some o/\X.H₀ b=none
 qF:X.base.objs.size<=X.s₀.heap.objs.size
 yX:∀b o,X.base.get? b=some o->b∉X.ex
 yY:∀b∈X.ex,b∉X.fs
 ko:X.s₀.heap.FunFrames X.base X.outer
 sJ:∀b∈X.fs,X.H₀ b=none
structure Inv (X:Cx) (pins:List (Addr×Obj)) (σ:List (Option V)) (H:Hp) (s:Shared):Prop where
 ok:X.Ok
 os:s.os=X.s₀.os
 bare:AllBare s.gens
 base:Un X.fs X.ex X.H₀ H X.s₀.heap s.heap
 loc:∃m,s.heap.Ns X.env.locals m/\∀(i:Nat) (x:Str) (v:V),X.N[i]?=some x->σ[i]?=some (some v)->vh X.env.scope x->∃u,RelV v u/\Look X.env s.heap m x u
 cell:∀x c,X.env.cells.lookup x=some c->∃v,s.heap.IsCell c v
 free:H X.env.locals=none
 lP:∀x c,X.env.cells.lookup x=some c->H c=none
 pin:∀p∈X.pn++pins,s.heap.get? p.1=some p.2/\H p.1=none/\p.1≠X.env.locals/\p.1∉X.fs/\∀v,p.2.data≠ .cell v
 aD:cf X.prog X.w H s.heap
 len:σ.length=X.N.length
section
variable {X:Cx}{pins:List (Addr×Obj)}{σ:List (Option V)}{H H':Hp}{s:Shared}{h':Heap}
theorem Cx.Ok.Ou(ok:X.Ok){b:Addr}{o:Obj}(e:X.base.get? b=some o):b∉X.fs:=fun hb=>by
 have:=(ok.ko.mem hb).1;rw[e] at this;cases this
theorem Inv.bs(I:Inv X pins σ H s):∀b o,X.base.get? b=some o->s.heap.get? b=some o/\H b=none:=fun b o e=>
 ⟨I.base.keep b o (I.ok.bs b o e).1 (I.ok.bs b o e).2 (I.ok.Ou e)<|I.ok.yX b o e,I.base.free b o (I.ok.bs b o e).1 (I.ok.bs b o e).2<|I.ok.yX b o e⟩
theorem Inv.bk(I:Inv X pins σ H s):∀b o,X.base.get? b=some o->s.heap.get? b=some o:=fun b o e=>(I.bs b o e).1
theorem Inv.mod(I:Inv X pins σ H s):Mod X.K X.mg X.base:=I.ok.mod
theorem Inv.dg(I:Inv X pins σ H s):X.K.In s.heap:=I.ok.mod.sG.keeps I.bk
theorem Inv.lt(I:Inv X pins σ H s):X.env.locals<s.heap.objs.size:=let ⟨_,hn,_⟩:=I.loc;hn.lt
theorem Inv.sz(I:Inv X pins σ H s):X.s₀.heap.objs.size<=s.heap.objs.size:=zat I.ok.above (zbq I.lt)
theorem Inv.DT(I:Inv X pins σ H s){a:Addr}(h:s.heap.objs.size<=a):a∉X.fs:=fun hb=>by
 obtain⟨_,o,ho,_⟩:=I.ok.ko.mem hb;exact absurd (zap (Heap.lt_size ho)<|zat I.sz h)<|zaz _
theorem Inv.oB(I:Inv X pins σ H s):∀x c,X.env.cells.lookup x=some c->c≠X.env.locals:=fun x c e z=>by
 obtain⟨v,o,ho,hd⟩:=I.cell x c e;obtain⟨m,⟨o',es,ep,ff,oC,_⟩,_⟩:=I.loc;rw[z,ff] at ho;cases ho;rw[oC] at hd;cases hd
theorem Inv.ko(I:Inv X pins σ H s):s.heap.FunFrames X.base X.outer:=by
 have all:∀(l:List Env),(∀b∈cw l,b∈X.fs)->X.s₀.heap.FunFrames X.base l->s.heap.FunFrames X.base l:=by
  intro l
  induction l with
  |nil=>intro _ _;trivial
  |cons env r ih=>
   intro hs hl;obtain⟨hk,⟨L,o,hf,hn,ho,hd⟩,hr⟩:=hl;have hL:L∈X.fs:=hs L (by unfold cw;rw[zbB,hf];exact zax)
   obtain⟨sl,e⟩:=I.base.slot L o ho (I.ok.sJ L hL) hL fun z=>I.ok.yY L z hL;exact⟨hk,⟨L,_,hf,hn,e,hd⟩,ih (fun b hb=>hs b (by unfold cw;rw[zbB,hf];exact zay _ hb)) hr⟩
 exact all X.outer (fun _ hb=>hb) I.ok.ko
theorem Inv.stack(I:Inv X pins σ H s):s.heap.FunFrames X.base X.stack:=by
 rcases I.ok.sI with e|⟨e,hf⟩
 ·rw[e];exact I.ko
 ·rw[e];obtain⟨m,hn,_⟩:=I.loc;refine .cons (by rw[I.ok.kind];decide) hf hn ?_ I.ko
  exact Heap.get?_none_of_le<|zat I.ok.qF I.ok.above
theorem Inv.vi(I:Inv X pins σ H s):∀b∈cw X.stack,b∈X.env.locals::X.fs:=fun b hb=>by
 rcases I.ok.sI with e|⟨e,hf⟩
 ·rw[e] at hb;exact zay _ hb
 ·rw[e] at hb;unfold cw at hb;rw[zbB,hf] at hb;exact hb
theorem Inv.vj(I:Inv X pins σ H s):∀b∈cw X.stack,H b=none:=fun b hb=>by
 rcases zaa.mp (I.vi b hb) with e|hb
 ·rw[e];exact I.free
 ·obtain⟨_,o,ho,_⟩:=I.ok.ko.mem hb;exact I.base.free b o ho (I.ok.sJ b hb) fun z=>I.ok.yY b z hb
theorem Inv.step{g':Array GenState}{t':Nat}{d':Drawn}{ch:List Addr}(I:Inv X pins σ H s)
  (cN:∀b∈ch,(b∈X.ex\/X.s₀.heap.objs.size<=b)/\b≠X.env.locals/\(∀x c,X.env.cells.lookup x=some c->c≠b)/\∀p∈X.pn++pins,p.1≠b)
  (keep:∀b o,b≠X.env.locals->b∉X.fs->b∉ch->s.heap.get? b=some o->H b=none->h'.get? b=some o)
  (slot:∀b o,b≠X.env.locals->b∈X.fs->b∉ch->s.heap.get? b=some o->H b=none->∃sl,h'.get? b=some {o with slots:=sl}) (free:∀b o,b∉ch->s.heap.get? b=some o->H b=none->H' b=none)
  (there:∀b o,b∉ch->s.heap.get? b=some o->∃o',h'.get? b=some o')
  (bS:∀b xs,H b=some (.tup xs)->H' b=some (.tup xs)) (ie:∀b o u,H b=some (.bV o u)->H' b=some (.bV o u)) (iM:∀b ps,H b=some (.km ps)->∃more,H' b=some (.km<|ps++more))
  (ns:∀m,s.heap.Ns X.env.locals m->h'.Ns X.env.locals m) (aD:cf X.prog X.w H' h') (hg:AllBare g'):
  Inv X pins σ H' {s with heap:=h',gens:=g',drawn:=d',toks:=t'}:=by
 have DU:∀b o,X.s₀.heap.get? b=some o->b≠X.env.locals:=fun b o e=>zaq (zap (Heap.lt_size e) I.ok.above);have vk:∀b o,X.s₀.heap.get? b=some o->b∉X.ex->b∉ch:=fun b o e hx hb=>by
  rcases (cN b hb).1 with z|z
  ·exact hx z
  ·exact absurd (zap (Heap.lt_size e) z) (zaz _)
 have cellK:∀x c,X.env.cells.lookup x=some c->∀v,s.heap.IsCell c v->h'.IsCell c v:=fun x c e v ⟨o,ho,hd⟩=>by
  have sL:c∉ch:=fun z=>(cN c z).2.2.1 x c e rfl;by_cases hc:c∈X.fs
  ·obtain⟨sl,q⟩:=slot c o (I.oB x c e) hc sL ho (I.lP x c e);exact⟨_,q,hd⟩
  ·exact⟨o,keep c o (I.oB x c e) hc sL ho<|I.lP x c e,hd⟩
 refine⟨I.ok,I.os,hg,⟨fun b o e n hb hx=>?_,fun b o e n hb hx=>?_,fun b o e n hx=>?_,fun b o e hx=>?_,fun b xs e=>bS b xs<|I.base.bS b xs e,fun b o xs e=>ie b o xs<|I.base.ie b o xs e,fun b ps e=>?_⟩,?_,fun x c e=>?_,?_,fun x c e=>?_,fun p hp=>?_,aD,I.len⟩
 ·exact keep b o (DU b o e) hb (vk b o e hx) (I.base.keep b o e n hb hx) (I.base.free b o e n hx)
 ·obtain⟨sl,e1⟩:=I.base.slot b o e n hb hx;obtain⟨Ov,e2⟩:=slot b _ (DU b o e) hb (vk b o e hx) e1 (I.base.free b o e n hx);exact⟨Ov,e2⟩
 ·obtain⟨o',e1⟩:=I.base.there b o e hx;exact free b o' (vk b o e hx) e1<|I.base.free b o e n hx
 ·obtain⟨o',e1⟩:=I.base.there b o e hx;exact there b o' (vk b o e hx) e1
 ·obtain⟨m1,e1⟩:=I.base.iM b ps e;obtain⟨m2,e2⟩:=iM b _ e1;exact⟨m1++m2,by rw[e2,Array.append_assoc]⟩
 ·obtain⟨m,hn,hl⟩:=I.loc;refine⟨m,ns m hn,fun i x v e1 e2 e3=>?_⟩;obtain⟨u,r,l⟩:=hl i x v e1 e2 e3;refine⟨u,r,?_⟩;rcases l with l|⟨k,c,e,z⟩
  ·exact .inl l
  ·exact .inr ⟨k,c,e,cellK x c e _ z⟩
 ·obtain⟨v,z⟩:=I.cell x c e;exact⟨v,cellK x c e v z⟩
 ·obtain⟨m,⟨o,_,_,ho,_⟩,_⟩:=I.loc;exact free _ o (fun z=>(cN _ z).2.1 rfl) ho I.free
 ·obtain⟨v,o,ho,hd⟩:=I.cell x c e;exact free c o (fun z=>(cN c z).2.2.1 x c e rfl) ho<|I.lP x c e
 ·obtain⟨e,n,ne,nf,d⟩:=I.pin p hp;have sL:p.1∉ch:=fun z=>(cN p.1 z).2.2.2 p hp rfl;exact⟨keep p.1 p.2 ne nf sL e n,free p.1 p.2 sL e n,ne,nf,d⟩
theorem Inv.un{t':Nat}(I:Inv X pins σ H s)(u:Un X.fs [] H H' s.heap h')(aD:cf X.prog X.w H' h'):Inv X pins σ H' {s with heap:=h',toks:=t'}:=by
 obtain⟨m,⟨o,es,ep,ho,r⟩,_⟩:=id I.loc;obtain⟨sl,hL⟩:=u.any ho I.free (by simp)
 exact I.step (g':=s.gens) (d':=s.drawn) (ch:=[]) (fun _ z=>nomatch z) (fun b o _ hb _ e n=>u.keep b o e n hb (by simp)) (fun b o _ hb _ e n=>u.slot b o e n hb (by simp)) (fun b o _ e n=>u.free b o e n (by simp)) (fun b o _ e=>u.there b o e (by simp)) u.bS u.ie u.iM (fun m' hm=>by
  obtain⟨o',gr,yZ,ff,r'⟩:=hm;rw[ho] at ff;cases ff;exact⟨_,gr,yZ,hL,r'⟩) aD I.bare
theorem Inv.call{g':Array GenState}{t':Nat}{d':Drawn}{ch:List Addr}(I:Inv X pins σ H s)(u:Un (cw X.stack) ch H H' s.heap h')(aD:cf X.prog X.w H' h')(hg:AllBare g')
  (cN:∀b∈ch,(b∈X.ex\/X.s₀.heap.objs.size<=b)/\b≠X.env.locals/\(∀x c,X.env.cells.lookup x=some c->c≠b)/\∀p∈X.pn++pins,p.1≠b):
  Inv X pins σ H' {s with heap:=h',gens:=g',drawn:=d',toks:=t'}:=by
 obtain⟨m,⟨o,es,ep,ho,r⟩,_⟩:=id I.loc;obtain⟨sl,hL⟩:=u.any ho I.free fun z=>(cN _ z).2.1 rfl;exact I.step (ch:=ch) cN (fun b o hL hb hc e n=>u.keep b o e n (fun z=>(zaa.mp (I.vi b z)).elim hL hb) hc) (fun b o _ _ hc e n=>u.any e n hc) (fun b o hc e n=>u.free b o e n hc) (fun b o hc e=>u.there b o e hc) u.bS u.ie u.iM (fun m' hm=>by
  obtain⟨o',gr,yZ,ff,r'⟩:=hm;rw[ho] at ff;cases ff;exact⟨_,gr,yZ,hL,r'⟩) aD hg
theorem Inv.turned{t':Nat}{it:Addr}(I:Inv X pins σ H s)(k:∀b o,b≠it->s.heap.get? b=some o->h'.get? b=some o)(hn:H it=none)(hL:it≠X.env.locals)
  (h1:it∈X.ex\/X.s₀.heap.objs.size<=it) (h2:∀x c,X.env.cells.lookup x=some c->c≠it) (h3:∀p∈X.pn++pins,p.1≠it):Inv X pins σ H {s with heap:=h',toks:=t'}:=by
 have DV:∀b u,H b=some u->b≠it:=fun b u e z=>by rw[z,hn] at e;cases e
 refine I.step (g':=s.gens) (d':=s.drawn) (ch:=[it]) (fun b hb=>?_) (fun b o _ _ hc e _=>k b o (fun z=>hc (by simp[z])) e) (fun b o _ _ hc e _=>⟨o.slots,k b o (fun z=>hc (by simp[z])) e⟩) (fun _ _ _ _ n=>n)
  (fun b o hc e=>⟨o,k b o (fun z=>hc (by simp[z])) e⟩) (fun _ _ e=>e) (fun _ _ _ e=>e) (fun b ps e=>⟨#[],by rw[e];simp⟩) (fun m hm=>?_) (fun b u e=>?_) I.bare
 ·have e:b=it:=by simpa using hb
  subst e;exact⟨h1,hL,h2,h3⟩
 ·obtain⟨o,es,ep,ho,r⟩:=hm;exact⟨o,es,ep,k _ o (Ne.symm hL) ho,r⟩
 ·refine(I.aD b u e).lN (fun c v hc q=>k c v ?_ q) (fun _ q=>q) fun _ _ q=>q;rcases hc with z|z
  ·rw[z];exact DV b u e
  ·exact DV c _ z
theorem Inv.tok(I:Inv X pins σ H s)(t:Nat):Inv X pins σ H {s with toks:=t}:=I.un (h':=s.heap) (t':=t) Un.refl I.aD
theorem Inv.kept{t':Nat}(I:Inv X pins σ H s)(k:∀b u,s.heap.get? b=some u->h'.get? b=some u):Inv X pins σ H {s with heap:=h',toks:=t'}:=I.un (Un.kept k) (I.aD.kept k)
theorem Inv.laid{a:Addr}{o:HO}{t':Nat}(I:Inv X pins σ H s)(k:∀b u,s.heap.get? b=some u->h'.get? b=some u)(hp:s.heap.objs.size<=a)(new:cq X.prog X.w (upd H a o) h' a o):
  Inv X pins σ (upd H a o) {s with heap:=h',toks:=t'}:=I.un (Un.laid k hp<|I.aD.fresh hp) (I.aD.laid k hp new)
theorem Inv.write{x e:Addr}{o:HO}{t':Nat}(I:Inv X pins σ H s)(mu:sE (H x))(he:e=x\/H e=some (.own x))(k:∀b u,b≠e->s.heap.get? b=some u->h'.get? b=some u)(qE:∃u,h'.get? e=some u)
  (new:cq X.prog X.w (upd H x o) h' x o):Inv X pins σ (upd H x o) {s with heap:=h',toks:=t'}:=I.un (Un.write mu he k qE) (I.aD.write mu he k qE new)
theorem Inv.qG{y2:List (Addr×Obj)}(I:Inv X pins σ H s)(h:∀p∈y2,s.heap.get? p.1=some p.2/\H p.1=none/\p.1≠X.env.locals/\p.1∉X.fs/\∀v,p.2.data≠ .cell v):Inv X y2 σ H s:=
 ⟨I.ok,I.os,I.bare,I.base,I.loc,I.cell,I.free,I.lP,fun p hp=>(zai.mp hp).elim (fun z=>I.pin p<|zaw _ z)<|h p,I.aD,I.len⟩
theorem DW{N:List Str}(hN:N.Nodup){i j:Nat}{x:Str}(a:N[i]?=some x)(b:N[j]?=some x):i=j:=by
 obtain⟨h1,e1⟩:=zah.mp a;obtain⟨h2,e2⟩:=zah.mp b;exact(List.getElem_inj hN).mp<|e1.trans e2.symm
theorem DX{M:Model}{A:Around}{E:Value->Shared->Prop}{i:Nat}{x:Str}{v:V}{u:Value}{Q:Unit->Shared->Prop}(I:Inv X pins σ H s)(hN:X.N.Nodup)(hi:X.N[i]?=some x)(hx:Loc X.env.scope x)(r:RelV v u)
  (h:∀s',Inv X pins (σ.set i<|some v) H s'->(∃a,Heap.SameBut a s.heap s'.heap/\(a=X.env.locals\/X.env.cells.lookup x=some a))->Q () s') (hf:X.fn x=true\/X.env.scope.names.lookup x=some .local:=by first|exact .inl rfl|exact .inr rfl|assumption):wpAny M A (storeName X.env x u) Q E s:=by
 obtain⟨m,hn,hl⟩:=id I.loc;have Ow:(X.env.scope.kind==.class ||(X.env.scope.kind==.module && X.env.locals !=X.env.globals))=false:=by rw[I.ok.kind];rfl
 have DY:i<σ.length:=by rw[I.len];exact(zah.mp hi).1
 have oB:=I.oB;have tracked:∀{a:Addr}{h':Heap},(∃o,s.heap.get? a=some o/\H a=none)->Heap.SameBut a s.heap h'->cf X.prog X.w H h':=fun {a h'} ha hs b ob e=>by
  obtain⟨_,_,qH⟩:=ha;refine(I.aD b ob e).lN (fun c w' hc q=>(hs.2 c ?_).trans q) (fun _ q=>q) fun _ _ q=>q;rintro rfl;rcases hc with rfl|hc
  ·rw[qH] at e;cases e
  ·rw[qH] at hc;cases hc
 rcases hx with hk|hk
 ·refine wpAny_storeName_local hk hn (fun h' Ox hs=>?_) Ow;obtain⟨oL,_,_,Oy,_⟩:=id hn;refine h _ ⟨I.ok,I.os,I.bare,⟨fun b o e n hb hx=>?_,fun b o e n hb hx=>?_,I.base.free,fun b o e hx=>?_,I.base.bS,I.base.ie,I.base.iM⟩,⟨_,Ox,fun j y v' e1 e2 e3=>?_⟩,fun y c e=>?_,I.free,I.lP,fun p hp=>?_,tracked ⟨oL,Oy,I.free⟩ hs,by simpa using I.len⟩ ⟨_,hs,.inl rfl⟩
  ·exact(hs.2 b<|zaq<|zap (Heap.lt_size e) I.ok.above).trans (I.base.keep b o e n hb hx)
  ·obtain⟨sl,e1⟩:=I.base.slot b o e n hb hx;exact⟨sl,(hs.2 b<|zaq<|zap (Heap.lt_size e) I.ok.above).trans e1⟩
  ·obtain⟨o',e1⟩:=I.base.there b o e hx;exact⟨o',(hs.2 b<|zaq<|zap (Heap.lt_size e) I.ok.above).trans e1⟩
  ·by_cases hj:j=i
   ·subst hj;rw[hi] at e1;cases e1;rw[zbC DY] at e2;cases e2;exact⟨u,r,.inl ⟨hk,by simp⟩⟩
   ·rw[zbD<|Ne.symm hj] at e2;obtain⟨u',r',q⟩:=hl j y v' e1 e2 e3;refine⟨u',r',?_⟩;rcases q with⟨k,e⟩|⟨k,c,e,z⟩
    ·refine .inl ⟨k,?_⟩;have:y≠x:=fun e=>hj (DW hN e1<|e ▸ hi)
     simp[this,e]
    ·exact .inr ⟨k,c,e,z.sameBut hs<|oB y c e⟩
  ·obtain⟨w',z⟩:=I.cell y c e;exact⟨w',z.sameBut hs<|oB y c e⟩
  ·obtain⟨e,n,ne,nf,d⟩:=I.pin p hp;exact⟨(hs.2 p.1 ne).trans e,n,ne,nf,d⟩
 ·have y3:X.fn x=true:=by
   rcases hf with z|z
   ·exact z
   ·rw[z] at hk;cases hk
  obtain⟨c,hc⟩:=I.ok.has x (.inl hk);obtain⟨w',z⟩:=I.cell x c hc;refine wpAny_storeName_cell I.ok.kind hk hc z<|fun h' d5 hs=>?_;obtain⟨oc,DZ,Oz⟩:=id z;refine h {s with heap:=h'} ⟨I.ok,I.os,I.bare,⟨fun b o e n hb hx=>?_,fun b o e n hb hx=>?_,I.base.free,fun b o e hx=>?_,I.base.bS,I.base.ie,I.base.iM⟩,⟨m,hn.sameBut hs<|Ne.symm<|oB x c hc,fun j y v' e1 e2 e3=>?_⟩,fun y c' e=>?_,I.free,I.lP,fun p hp=>?_,tracked ⟨oc,DZ,I.lP x c hc⟩ hs,by simpa using I.len⟩ ⟨c,hs,.inr hc⟩
  ·exact(hs.2 b<|zaq<|zap (Heap.lt_size e)<|I.ok.yW x c y3 hc).trans (I.base.keep b o e n hb hx)
  ·obtain⟨sl,e1⟩:=I.base.slot b o e n hb hx;exact⟨sl,(hs.2 b<|zaq<|zap (Heap.lt_size e)<|I.ok.yW x c y3 hc).trans e1⟩
  ·obtain⟨o',e1⟩:=I.base.there b o e hx;exact⟨o',(hs.2 b<|zaq<|zap (Heap.lt_size e)<|I.ok.yW x c y3 hc).trans e1⟩
  ·by_cases hj:j=i
   ·subst hj;rw[hi] at e1;cases e1;rw[zbC DY] at e2;cases e2;exact⟨u,r,.inr ⟨.inl hk,c,hc,d5⟩⟩
   ·rw[zbD<|Ne.symm hj] at e2;obtain⟨u',r',q⟩:=hl j y v' e1 e2 e3;refine⟨u',r',?_⟩;rcases q with q|⟨k,c',e,z'⟩
    ·exact .inl q
    ·refine .inr ⟨k,c',e,z'.sameBut hs ?_⟩;rintro rfl;exact hj<|DW hN e1<|I.ok.inj _ _ _ e hc ▸ hi
  ·by_cases vm:c'=c
   ·subst vm;exact⟨_,d5⟩
   ·obtain⟨w2,z2⟩:=I.cell y c' e;exact⟨w2,z2.sameBut hs vm⟩
  ·obtain⟨e,n,ne,nf,d⟩:=I.pin p hp;refine⟨(hs.2 p.1 ?_).trans e,n,ne,nf,d⟩;intro q;rw[q,DZ] at e;have q':oc=p.2:=zal e;exact d w' (by rw[<-q'];exact Oz)
theorem D0{M:Model}{A:Around}{E:Value->Shared->Prop}{i:Nat}{x:Str}{v:V}{u:Value}{Q:Unit->Shared->Prop}(I:Inv X pins σ H s)(hN:X.N.Nodup)(hi:X.N[i]?=some x)(hx:Loc X.env.scope x)(r:RelV v u)
  (h:∀s',Inv X pins (σ.set i<|some v) H s'->Q () s') (hf:X.fn x=true\/X.env.scope.names.lookup x=some .local:=by first|exact .inl rfl|exact .inr rfl|assumption):wpAny M A (storeName X.env x u) Q E s:=
 DX I hN hi hx r (fun s' I' _=>h s' I') hf
theorem Inv.OA{s':Shared}{ch:List Addr}(I:Inv X pins σ H s)(ho:s'.os=s.os)(u:Un (cw X.stack) ch H H' s.heap s'.heap)(aD:cf X.prog X.w H' s'.heap)(hg:AllBare s'.gens)
  (cN:∀b∈ch,(b∈X.ex\/X.s₀.heap.objs.size<=b)/\b≠X.env.locals/\(∀x c,X.env.cells.lookup x=some c->c≠b)/\∀p∈X.pn++pins,p.1≠b):Inv X pins σ H' s':=by
 obtain⟨h',g',d',t',o'⟩:=s';have e:o'=s.os:=ho;subst e;exact I.call (g':=g') (t':=t') (d':=d') u aD hg cN
end
abbrev XK:=Value->Option Addr->Hp->Prop
abbrev St:=List (Option V)
abbrev VK:=V->Hp->Prop
abbrev TE:=St->Hp->VK->Prop
abbrev TT:=St->Hp->(Bool->Hp->Prop)->Prop
abbrev TA:=St->Hp->(List V->Hp->Prop)->Prop
structure Ends where
 nx:St->Hp->Prop
 rt:VK
 bk:St->Hp->Prop:=fun _ _=>False
 ct:St->Hp->Prop:=fun _ _=>False
abbrev TS:=Ends->St->Hp->Prop
def EP(X:Cx)(pins:List (Addr×Obj))(σ:St)(Q:VK)(u:Value)(s':Shared):Prop:= ∃v H',Inv X pins σ H' s'/\RelV v u/\Q v H'
def TP(X:Cx)(pins:List (Addr×Obj))(σ:St)(Q:Bool->Hp->Prop)(b:Bool)(s':Shared):Prop:= ∃H',Inv X pins σ H' s'/\Q b H'
def AP(X:Cx)(pins:List (Addr×Obj))(σ:St)(Q:List V->Hp->Prop)(us:List Value)(s':Shared):Prop:= ∃vs H',Inv X pins σ H' s'/\Vals vs us/\Q vs H'
def SP(X:Cx)(pins:List (Addr×Obj))(D:Ends)(f:Flow)(s':Shared):Prop:=
 match f with
 |.next=>∃σ' H',Inv X pins σ' H' s'/\D.nx σ' H'
 |.brk=>∃σ' H',Inv X pins σ' H' s'/\D.bk σ' H'
 |.cont=>∃σ' H',Inv X pins σ' H' s'/\D.ct σ' H'
 |.ret u=>∃v σ' H',Inv X pins σ' H' s'/\RelV v u/\D.rt v H'
def PE(X:Cx)(e:Expr)(t:TE):Prop:=
 ∀(pins:List (Addr×Obj)) (s:Shared) (σ:St) (H:Hp) (Q:VK),Inv X pins σ H s->t σ H Q->wpAny (model X.prog X.w) X.A (eval e X.env) (EP X pins σ Q) X.xe s
def PT(X:Cx)(e:Expr)(t:TT):Prop:=
 ∀(pins:List (Addr×Obj)) (s:Shared) (σ:St) (H:Hp) (Q:Bool->Hp->Prop),Inv X pins σ H s->t σ H Q->wpAny (model X.prog X.w) X.A (isTrue e X.env<|eval e X.env) (TP X pins σ Q) X.xe s
def PW(X:Cx)(e:Expr)(t:TT):Prop:=
 ∀(whole:Sem Value) (pins:List (Addr×Obj)) (s:Shared) (σ:St) (H:Hp) (Q:Bool->Hp->Prop),Inv X pins σ H s->t σ H Q->wpAny (model X.prog X.w) X.A (isTrue e X.env whole) (TP X pins σ Q) X.xe s
theorem PW.pt{X:Cx}{e:Expr}{t:TT}(h:PW X e t):PT X e t:=h _
def PA(X:Cx)(es:List Expr)(t:TA):Prop:=
 ∀(pos:Pos) (pins:List (Addr×Obj)) (s:Shared) (σ:St) (H:Hp) (Q:List V->Hp->Prop),Inv X pins σ H s->t σ H Q->wpAny (model X.prog X.w) X.A (spliced<|backTo pos<|starEach es X.env) (AP X pins σ Q) X.xe s
def PS(X:Cx)(st:Stmt)(t:TS):Prop:=
 ∀(pins:List (Addr×Obj)) (s:Shared) (σ:St) (H:Hp) (D:Ends),Inv X pins σ H s->t D σ H->wpAny (model X.prog X.w) X.A (exec st X.env) (SP X pins D) X.xe s
def eU(X:Cx)(st:List Stmt)(t:TS):Prop:=
 ∀(pins:List (Addr×Obj)) (s:Shared) (σ:St) (H:Hp) (D:Ends),Inv X pins σ H s->t D σ H->wpAny (model X.prog X.w) X.A (execs st X.env) (SP X pins D) X.xe s
theorem aG{α:Type}{t:Sem α}{Q Q':α->Shared->Prop}{M:Model}{A:Around}{E:Value->Shared->Prop}{s:Shared}(h:wpAny M A t Q E s)(hQ:∀a s,Q a s->Q' a s):wpAny M A t Q' E s:=wpAny_mono h hQ fun _ _ x=>x
section
variable {X:Cx}
def y4(i:Nat):TE:=fun σ H Q=>∃v,σ[i]?=some (some v)/\Q v H
def tC(v:V):TE:=fun _ H Q=>Q v H
theorem OB{i:Nat}{x:Str}{pos:Pos}(hN:X.N[i]?=some x)(hv:vh X.env.scope x)(hd:(x==("__debug__":Str))=false:=by decide)(kq:(x==("__classdict__":Str))=false:=by decide):PE X (.Name x pos) (y4 i):=by
 intro pins s σ H Q I h;obtain⟨v,e,h⟩:=h;obtain⟨m,hn,hl⟩:=I.loc;obtain⟨u,r,l⟩:=hl i x v hN e hv;have fin:EP X pins σ Q u s:=⟨v,H,I,r,h⟩;rcases l with⟨hk,hm⟩|⟨hk,c,hc,D1⟩
 ·exact wpAny_Name (wpAny_loadName_local I.ok.kind hk hn hm fin) hd
 ·rcases hk with hk|hk
  ·exact wpAny_Name (wpAny_loadName_cell I.ok.kind hk hc D1 fin) hd
  ·exact wpAny_Name (wpAny_loadName_free I.ok.kind hk hc D1 fin kq) hd
theorem OC{i j pos}:PE X (.Constant (.int i) j pos) (tC<|.int i):=fun _ _ _ H _ I h=>wpAny_Constant_int ⟨.int i,H,I.tok _,⟨_,rfl⟩,h⟩
theorem OD{b j pos}:PE X (.Constant (.bool b) j pos) (tC<|.bl b):=fun _ _ _ H _ I h=>Constant_bool ⟨.bl b,H,I,rfl,h⟩
theorem OE{j pos}:PE X (.Constant .none j pos) (tC .aC):=fun _ _ _ H _ I h=>Constant_none ⟨.aC,H,I,rfl,h⟩
theorem OF{x j pos}:PE X (.Constant (.str x) j pos) (tC<|.str x):=fun _ _ _ H _ I h=>Calls.Constant_str ⟨.str x,H,I.tok _,⟨_,rfl⟩,h⟩
def Gl(X:Cx)(x:Str):Prop:=X.env.kindOf x=some .globalImplicit
theorem y6{E:Value->Shared->Prop}{pins:List (Addr×Obj)}{s:Shared}{σ:St}{H:Hp}{x:Str}{u:Value}{pos:Pos}{Q:Value->Shared->Prop}(I:Inv X pins σ H s)(hg:Gl X x)(hm:X.mg x=some u)(h:Q u s)
  (hd:(x==("__debug__":Str))=false:=by decide):wpAny (model X.prog X.w) X.A (eval (.Name x pos) X.env) Q E s:=
 Calls.Name_function_global I.ok.kind hg (Calls.loadGlobal_global (by rw[I.ok.glob];exact I.mod.glob.keeps I.bk) hm h) hd
theorem iN{E:Value->Shared->Prop}{pins:List (Addr×Obj)}{s:Shared}{σ:St}{H:Hp}{x:Str}{u:Value}{pos:Pos}{Q:Value->Shared->Prop}(I:Inv X pins σ H s)(hg:Gl X x)(hm:X.mg x=none)(hv:bootBuiltins x=some u)(h:Q u s)
  (hn:x≠"__name__":=by decide) (hd:(x==("__debug__":Str))=false:=by decide):wpAny (model X.prog X.w) X.A (eval (.Name x pos) X.env) Q E s:=by
 obtain⟨mb,h1,h2⟩:=I.mod.blt;exact Calls.Name_function_global I.ok.kind hg (Calls.loadGlobal_builtin (by rw[I.ok.glob];exact I.mod.glob.keeps I.bk) hm (by rw[I.ok.blt];exact h1.keeps I.bk) ((h2 x hn).trans hv) h) hd
theorem D2{x:Str}{v:V}{u:Value}{pos:Pos}(hg:Gl X x)(hm:X.mg x=some u)(r:RelV v u)(hd:(x==("__debug__":Str))=false:=by decide):PE X (.Name x pos) (tC v):=
 fun _ _ _ H _ I h=>y6 I hg hm ⟨v,H,I,r,h⟩ hd
theorem OG{x:Str}{v:V}{u:Value}{pos:Pos}(hg:Gl X x)(hm:X.mg x=none)(hv:bootBuiltins x=some u)(r:RelV v u)(hn:x≠"__name__":=by decide)(hd:(x==("__debug__":Str))=false:=by decide):PE X (.Name x pos) (tC v):=
 fun _ _ _ H _ I h=>iN I hg hm hv ⟨v,H,I,r,h⟩ hn hd
variable {a b:Expr}{ta tb:TE}{pos:Pos}
def PC(X:Cx)(op:CmpOp)(a b:Expr)(t:TE):Prop:=
 ∀(pins:List (Addr×Obj)) (s:Shared) (σ:St) (H:Hp) (Q:VK),Inv X pins σ H s->t σ H Q->
  wpAny (model X.prog X.w) X.A (eval a X.env) (fun v s₁=>wpAny (model X.prog X.w) X.A (eval b X.env) (fun u s₂=>wpAny (model X.prog X.w) X.A (compareOp op v u) (EP X pins σ Q) X.xe s₂) X.xe s₁) X.xe s
def tB(t:TE):TT:=fun σ H Q=>t σ H fun x H1=>∃c,x=.bl c/\Q c H1
theorem OH{op:CmpOp}{t:TE}(h:PC X op a b t)(h1:behindInMarks op b=false:=by first|exact afe _ (by decide) (by decide)|rfl):PT X (.Compare a [op] [b] pos) (tB t):=by
 intro pins s σ H Q I hw;refine wpAny_isTrue_Compare1 (aG (h pins s σ H _ I hw) fun v s1 h1=>aG h1 fun u s2 h2=>aG h2 fun c s3 ⟨x,H1,I1,r1,q1⟩=>?_) h1;obtain⟨d,rfl,q⟩:=q1;cases r1;exact wpAny_truthy_bool ⟨H1,I1,q⟩
variable {tA vn:TT}{rest:List Expr}
def D3(t u:TT):TT:=fun σ H Q=>t σ H fun c H1=>if c=true then u σ H1 Q else Q false H1
def D4(t u:TT):TT:=fun σ H Q=>t σ H fun c H1=>if c=true then Q true H1 else u σ H1 Q
def D5(t:TT):TT:=fun σ H Q=>t σ H fun c H1=>Q (!c) H1
theorem pw_and1(ha:PT X a tA):PW X (.BoolOp .And [a] pos) tA:=by
 intro wh pins s σ H Q I h;refine isTrue_and<|aG (ha pins s σ H Q I h) fun c s1 e=>?_;cases c with
 |true=>exact isTrue_and_nil e
 |false=>exact e
theorem pw_or1(ha:PT X a tA):PW X (.BoolOp .Or [a] pos) tA:=by
 intro wh pins s σ H Q I h;refine isTrue_or<|aG (ha pins s σ H Q I h) fun c s1 e=>?_;cases c with
 |false=>exact isTrue_or_nil e
 |true=>exact e
theorem pw_and(ha:PT X a tA)(hb:PW X (.BoolOp .And (b::rest) pos) vn):PW X (.BoolOp .And (a::b::rest) pos) (D3 tA vn):=by
 intro wh pins s σ H Q I h;refine isTrue_and<|aG (ha pins s σ H _ I h) fun c s1 ⟨H1,I1,q1⟩=>?_;cases c with
 |true=>exact hb wh pins s1 σ H1 Q I1 q1
 |false=>exact⟨H1,I1,q1⟩
theorem pw_or(ha:PT X a tA)(hb:PW X (.BoolOp .Or (b::rest) pos) vn):PW X (.BoolOp .Or (a::b::rest) pos) (D4 tA vn):=by
 intro wh pins s σ H Q I h;refine isTrue_or<|aG (ha pins s σ H _ I h) fun c s1 ⟨H1,I1,q1⟩=>?_;cases c with
 |true=>exact⟨H1,I1,q1⟩
 |false=>exact hb wh pins s1 σ H1 Q I1 q1
theorem OI(ha:PT X a tA):PT X (.UnaryOp .Not a pos) (D5 tA):=by
 intro pins s σ H Q I h;exact isTrue_not<|ha pins s σ H (fun c H1=>Q (!c) H1) I h
def D6(ta tb:TE):TE:=fun σ H Q=>ta σ H fun x H1=>∃c,x=.bl c/\if c=true then tb σ H1 Q else Q (.bl false) H1
def OJ(ta tb:TE):TE:=fun σ H Q=>ta σ H fun x H1=>∃c,x=.bl c/\if c=true then Q (.bl true) H1 else tb σ H1 Q
theorem OK{op}{t:TE}(h:PE X a t):PE X (.BoolOp op [a] pos) t:=fun pins s σ H Q I hw=>BoolOp_one (h pins s σ H Q I hw)
theorem OL(ha:PE X a ta)(hb:PE X (.BoolOp .And (b::rest) pos) tb):PE X (.BoolOp .And (a::b::rest) pos) (D6 ta tb):=by
 intro pins s σ H Q I h;refine BoolOp_and<|aG (ha pins s σ H _ I h) fun v s1 ⟨x,H1,I1,r1,q1⟩=>?_;obtain⟨c,rfl,q1⟩:=q1;cases r1;refine wpAny_truthy_bool ?_;cases c with
 |true=>exact hb pins s1 σ H1 Q I1 q1
 |false=>exact⟨.bl false,H1,I1,rfl,q1⟩
def D7(t:TT)(ta tb:TE):TE:=fun σ H Q=>t σ H fun c H1=>if c=true then ta σ H1 Q else tb σ H1 Q
theorem OM{c:Expr}(hc:PT X c tA)(ha:PE X a ta)(hb:PE X b tb):PE X (.IfExp c a b pos) (D7 tA ta tb):=by
 intro pins s σ H Q I h;refine wpAny_IfExp<|aG (hc pins s σ H _ I h) fun d s1 ⟨H1,I1,q1⟩=>?_;cases d with
 |true=>exact ha pins s1 σ H1 Q I1 q1
 |false=>exact hb pins s1 σ H1 Q I1 q1
end
def au(K:Frag)(H:Hp)(a:Addr)(xs:List V):Prop:=
 Rd H a (.lst xs)\/
  ∃(o:Obj) (ao:Array Value) (n:Nat),K.lookup a=some o/\o.cls=.type "list"/\o.dict=none/\o.data=.seq ao n/\ao.size<=sizeLine/\Vals xs ao.toList
def aH(K:Frag)(H:Hp)(a:Addr)(xs:List V):Prop:=
 Rd H a (.tup xs)\/
  ∃(o:Obj) (ao:Array Value) (n:Nat),K.lookup a=some o/\o.cls=.type "tuple"/\o.data=.seq ao n/\ao.size<=sizeLine/\Vals xs ao.toList
def ON:Value->Option V
 |.none=>some .aC
 |.bool b=>some (.bl b)
 |.int i _=>some (.int i)
 |.str x _=>some (.str x)
 |.bytes b _=>some (.fN b)
 |.float b _=>some (.mT b)
 |.ref a=>some (.ref a)
 |.type n=>some (.ty n)
 |_=>none
theorem RelV.abs{x:V}{u:Value}(r:RelV x u):ON u=some x:=by
 cases x with
 |aC=>cases r;rfl
 |bl _=>cases r;rfl
 |int _=>obtain⟨t,rfl⟩:=r;rfl
 |str _=>obtain⟨t,rfl⟩:=r;rfl
 |fN _=>obtain⟨t,rfl⟩:=r;rfl
 |mT _=>obtain⟨t,rfl⟩:=r;rfl
 |ref _=>cases r;rfl
 |ty _=>cases r;rfl
theorem RelV.inj{x y:V}{u:Value}(r:RelV x u)(q:RelV y u):x=y:=zal (r.abs.symm.trans q.abs)
theorem Vals.inj:∀{xs ys:List V}{us:List Value},Vals xs us->Vals ys us->xs=ys
 |_,_,_,.nil,.nil=>rfl
 |_,_,_,.cons r t,.cons r' t'=>by rw[r.inj r',Vals.inj t t']
section
variable {X:Cx}{pins:List (Addr×Obj)}{σ:St}{H:Hp}{s:Shared}{a:Addr}{xs ys:List V}
theorem au.of{K:Frag}(h:H a=some (.lst xs)):au K H a xs:=.inl (.inl h)
theorem aH.of{K:Frag}(h:H a=some (.tup xs)):aH K H a xs:=.inl (.inl h)
theorem Inv.list(I:Inv X pins σ H s)(h:au X.K H a xs):∃ao:List Value,Vals xs ao/\PlainL s.heap a ao.toArray/\xs.length<=sizeLine:=by
 rcases h with h|⟨o,ao,n,hk,hc,hd,hs,hz,r⟩
 ·obtain⟨z,ao,n,r,e⟩:=h.ok I.aD;exact⟨ao,r,⟨_,n,e,rfl,rfl,rfl⟩,z⟩
 ·refine⟨ao.toList,r,⟨o,n,I.dg a o hk,hc,hd,by simpa using hs⟩,?_⟩
  have e:=r.length
  simp only[zbE] at e
  omega
theorem Inv.tuple(I:Inv X pins σ H s)(h:aH X.K H a xs):∃ao:List Value,Vals xs ao/\IsTup s.heap a ao.toArray/\xs.length<=sizeLine:=by
 rcases h with h|⟨o,ao,n,hk,hc,hs,hz,r⟩
 ·obtain⟨z,ao,r,p⟩:=h.ok I.aD;exact⟨ao,r,p,z⟩
 ·refine⟨ao.toList,r,⟨o,I.dg a o hk,hc,n,by simpa using hs⟩,?_⟩
  have e:=r.length
  simp only[zbE] at e
  omega
theorem Inv.y7(I:Inv X pins σ H s)(h:au X.K H a xs)(h':au X.K H a ys):xs=ys:=by
 obtain⟨ao,r,⟨o,n,e,_,_,d⟩,_⟩:=I.list h;obtain⟨ig,r',⟨o',n',e',_,_,d'⟩,_⟩:=I.list h';rw[e] at e';cases e';rw[d] at d'
 injection d' with d1 _
 have:ao=ig:=by simpa using congrArg Array.toList d1
 subst this;exact r.inj r'
end
section
variable {X:Cx}{st:Stmt}{rest:List Stmt}{t u:TS}{e:Expr}{te:TE}{pos:Pos}
def y8:TS:=fun D σ H=>D.nx σ H
def D8(t u:TS):TS:=fun D σ H=>t {D with nx:=u D} σ H
theorem OO:eU X [] y8:=fun _ _ σ H _ I h=>wpAny_execs_nil ⟨σ,H,I,h⟩
theorem OP(h1:PS X st t)(h2:eU X rest u):eU X (st::rest) (D8 t u):=by
 intro pins s σ H D I h;refine wpAny_execs_cons<|aG (h1 pins s σ H {D with nx:=u D} I h) fun f s1 q=>?_
 cases f with
 |next=>
  obtain⟨σ',H',I',q⟩:=q;exact h2 pins s1 σ' H' D I' q
 |ret v=>exact q
 |brk=>exact q
 |cont=>exact q
def OQ:TS:=fun D σ H=>D.bk σ H
def D9:TS:=fun D σ H=>D.ct σ H
theorem OR:PS X (.Continue pos) D9:=fun _ _ σ H _ I h=>wpAny_Continue ⟨σ,H,I,h⟩
theorem Inv.quiet{pins:List (Addr×Obj)}{σ:St}{H:Hp}{s:Shared}(I:Inv X pins σ H s):interactive X.env=false:=by simp[interactive,I.ok.kind]
def D_(te:TE):TS:=fun D σ H=>te σ H fun _ H1=>D.nx σ H1
theorem OS(he:PE X e te)(hs:swapsWith e none pos.line X.env=pure false:=by rfl):PS X (.Expr e pos) (D_ te):=by
 intro pins s σ H D I h;exact wpAny_Expr_any (aG (he pins s σ H _ I h) fun v s1 ⟨x,H1,I1,r1,q1⟩=>⟨σ,H1,I1,q1⟩) I.quiet hs
def Ea(te:TE):TS:=fun D σ H=>te σ H D.rt
theorem OT(he:PE X e te):PS X (.Return (some e) pos) (Ea te):=by
 intro pins s σ H D I h;exact wpAny_Return_some<|aG (he pins s σ H _ I h) fun v s1 ⟨x,H1,I1,r1,q1⟩=>⟨x,σ,H1,I1,r1,q1⟩
def OU:TS:=fun D _ H=>D.rt .aC H
def Eb(c:TT)(t u:TS):TS:=fun D σ H=>c σ H fun b H1=>if b=true then t D σ H1 else u D σ H1
theorem OV{c:Expr}{a b:List Stmt}{tc:TT}(hc:PT X c tc)(ha:eU X a t)(hb:eU X b u):PS X (.If c a b pos) (Eb tc t u):=by
 intro pins s σ H D I h;refine wpAny_If<|aG (hc pins s σ H _ I h) fun d s1 ⟨H1,I1,q1⟩=>?_;cases d with
 |true=>exact ha pins s1 σ H1 D I1 q1
 |false=>exact hb pins s1 σ H1 D I1 q1
def OW:TS:=fun _ _ _=>False
end
abbrev TG:=V->St->Hp->(St->Hp->Prop)->Prop
abbrev kr:=List V->St->Hp->(St->Hp->Prop)->Prop
def PG(X:Cx)(target:Expr)(t:TG):Prop:=
 ∀(pins:List (Addr×Obj)) (s:Shared) (σ:St) (H:Hp) (v:V) (u:Value) (Q:St->Hp->Prop),Inv X pins σ H s->RelV v u->t v σ H Q->
  wpAny (model X.prog X.w) X.A (assign target X.env u) (fun _ s'=>∃σ' H',Inv X pins σ' H' s'/\Q σ' H') X.xe s
def qI(X:Cx)(ts:List Expr)(t:kr):Prop:=
 ∀(pins:List (Addr×Obj)) (s:Shared) (σ:St) (H:Hp) (vs:List V) (us:List Value) (Q:St->Hp->Prop),Inv X pins σ H s->Vals vs us->t vs σ H Q->
  wpAny (model X.prog X.w) X.A (assignInOrder ((assignEach ts X.env).map (·.2)) us) (fun _ s'=>∃σ' H',Inv X pins σ' H' s'/\Q σ' H') X.xe s
abbrev y9:=V->V->V->Hp->(Hp->Prop)->Prop
def Ec(X:Cx)(t:y9):Prop:=
 ∀(pins:List (Addr×Obj)) (s:Shared) (σ:St) (H:Hp) (o i v:V) (ov iv u:Value) (Q:Hp->Prop),Inv X pins σ H s->RelV o ov->RelV i iv->RelV v u->t o i v H Q->
  wpAny (model X.prog X.w) X.A (setItem ov iv u) (fun _ s'=>∃H',Inv X pins σ H' s'/\Q H') X.xe s
section
variable {X:Cx}{pos:Pos}
def fg(i:Nat):TG:=fun v σ H Q=>Q (σ.set i<|some v) H
theorem vo{i:Nat}{x:Str}(hN:X.N.Nodup)(hi:X.N[i]?=some x)(hx:Loc X.env.scope x)(hf:X.fn x=true\/X.env.scope.names.lookup x=some .local:=by first|exact .inl rfl|exact .inr rfl|assumption):PG X (.Name x pos) (fg i):=by
 intro pins s σ H v u Q I r h;exact wpAny_assign_Name<|D0 I hN hi hx r (fun s' I'=>⟨_,H,I',h⟩) hf
def y_:kr:=fun vs σ H Q=>vs=[]/\Q σ H
def vp(t:TG)(u:kr):kr:=fun vs σ H Q=>∃v r,vs=v::r/\t v σ H fun σ' H'=>u r σ' H' Q
theorem Ee:qI X [] y_:=by
 intro pins s σ H vs us Q I r h;obtain⟨e,h⟩:=h;subst e;cases r;exact assignInOrder_nil ⟨σ,H,I,h⟩
theorem za{e:Expr}{es:List Expr}{t:TG}{u:kr}(h1:PG X e t)(h2:qI X es u)
  (hs:(assignEach (e::es) X.env).map (·.2)=assign e X.env::(assignEach es X.env).map (·.2):=by rfl):qI X (e::es) (vp t u):=by
 intro pins s σ H vs us Q I r h;obtain⟨v,vr,e1,h⟩:=h;subst e1;cases r with
 |cons r rr=>
  rw[hs];refine assignInOrder_cons<|aG (h1 pins s σ H _ _ _ I r h) fun _ s1 ⟨σ1,H1,I1,q1⟩=>?_;exact h2 pins s1 σ1 H1 _ _ Q I1 rr q1
def Ef(K:Frag)(n:Nat)(t:kr):TG:=fun v σ H Q=>∃a xs,v=.ref a/\aH K H a xs/\xs.length=n/\t xs σ H Q
theorem Eg{es:List Expr}{k:Nat}{t:kr}{n:Nat}(hc:X.calm=true)(h:qI X es t)
  (hn:(assignEach es X.env).length=n:=by rfl) (gQ:(assignEach es X.env).findIdx? (·.1)=none:=by rfl):PG X (.Tuple es k pos) (Ef X.K n t):=by
 intro pins s σ H v u Q I r hw;obtain⟨a,xs,e1,hq,hl,hw⟩:=hw;subst e1;cases r;obtain⟨ao,rv,ht,hz⟩:=I.tuple hq;refine assign_Tuple_tuple (I.ok.hd hc) ht (by simp[hn,<-hl,rv.length]) gQ fun h' hx=>?_
 have I1:Inv X pins σ H {s with heap:=h'}:=I.kept (t':=s.toks) fun b o e=>hx b o (zaq<|Heap.lt_size e) e
 exact h pins _ σ H xs _ Q I1 (by simpa using rv) hw
def Eh(to ti:TE)(t:y9):TG:=fun v σ H Q=>to σ H fun o H1=>ti σ H1 fun i H2=>t o i v H2 fun H3=>Q σ H3
theorem OX{o i:Expr}{to ti:TE}{t:y9}(ho:PE X o to)(hi:PE X i ti)(hs:Ec X t)
  (ha:∀v,assign (.Subscript o i pos) X.env v=(do
   let ov <-holding [v] (eval o X.env)
   let iv <-holding [v,ov] (eval i X.env)
   standAt pos
   holding [v,ov,iv] (setItem ov iv v)
   release [v,ov,iv] []):=by intro _;rfl):PG X (.Subscript o i pos) (Eh to ti t):=by
 intro pins s σ H v u Q I r h;rw[ha];refine wpAny_bind<|wpAny_holding<|aG (ho pins s σ H _ I h) fun ov s1 ⟨x,H1,I1,r1,q1⟩=>?_;refine wpAny_bind<|wpAny_holding<|aG (hi pins s1 σ H1 _ I1 q1) fun iv s2 ⟨y,H2,I2,r2,q2⟩=>?_;refine wpAny_bind<|wpAny_standAt<|wpAny_bind<|wpAny_holding<|aG (hs pins s2 σ H2 x y v ov iv u _ I2 r1 r2 r q2) fun _ s3 ⟨H3,I3,q3⟩=>?_;exact wpAny_release ⟨σ,H3,I3,q3⟩
def jC(te:TE)(g:TG):TS:=fun D σ H=>te σ H fun x H1=>g x σ H1 D.nx
theorem Ei{tg e:Expr}{te:TE}{g:TG}(he:PE X e te)(hg:PG X tg g)(hs:swapsWithSole [tg] e pos.line X.env=pure false:=by rfl)(hw:swappedStores [tg] e X.env=pure none:=by rfl)
  (h1:(assignEach [tg] X.env).map (·.2)=[assign tg X.env]:=by rfl):PS X (.Assign [tg] e pos) (jC te g):=by
 intro pins s σ H D I h;refine wpAny_Assign_stores (aG (he pins s σ H _ I h) fun v s1 ⟨x,H1,I1,r1,q1⟩=>?_) hs hw;rw[h1];exact aG (hg pins s1 σ H1 x v _ I1 r1 q1) fun _ s2 q=>q
theorem OY{i:Nat}{x:Str}{e:Expr}{te:TE}{pos':Pos}(hN:X.N.Nodup)(hi:X.N[i]?=some x)(hx:Loc X.env.scope x)(he:PE X e te)(hs:swapsWith e (some<|.Name x pos') pos.line X.env=pure false:=by rfl)(hf:X.fn x=true\/X.env.scope.names.lookup x=some .local:=by first|exact .inl rfl|exact .inr rfl|assumption):
  PS X (.Assign [.Name x pos'] e pos) (jC te<|fg i):=by
 intro pins s σ H D I h;refine wpAny_Assign_Name (aG (he pins s σ H _ I h) fun v s1 ⟨y,H1,I1,r1,q1⟩=>?_) hs;exact D0 I1 hN hi hx r1 (fun s2 I2=>⟨_,H1,I2,q1⟩) hf
end
section
variable {X:Cx}{pos:Pos}
def Ej(c:TT)(tb:TS):TS:=fun D σ H=>∃W:Nat->St->Hp->Prop,(∃m,W m σ H)/\∀m σ H,W m σ H->
 c σ H fun b H1=>if b=true then ∃N:St->Hp->Prop,(∀σ' H',N σ' H'->∃m',m'<m/\W m' σ' H')/\tb {D with nx:=N,ct:=N,bk:=D.nx} σ H1 else D.nx σ H1
theorem OZ{c:Expr}{body:List Stmt}{tc:TT}{tb:TS}(hp:PassesOwn (model X.prog X.w) X.A X.env X.xe)(hc:PT X c tc)(hb:eU X body tb):PS X (.While c body [] pos) (Ej tc tb):=by
 intro pins s σ H D I h;obtain⟨W,⟨m0,w0⟩,turn⟩:=h;refine wpAny_While<|codeAny_whileLoop (fun n s'=>∃σ' H',Inv X pins σ' H' s'/\W n σ' H') ?_ m0 ⟨σ,H,I,w0⟩;rintro n s1 ⟨σ1,H1,I1,w1⟩;refine wpAny_passesOwn hp<|aG (hc pins s1 σ1 H1 _ I1<|turn n σ1 H1 w1) fun b s2 ⟨H2,I2,q2⟩=>?_;cases b with
 |true=>
  obtain⟨N,hN,q2⟩:=q2;rw[if_pos rfl];refine wpAny_passesOwn hp<|aG (hb pins s2 σ1 H2 _ I2 q2) fun f s3 q3=>?_;cases f with
  |next=>
   obtain⟨σ3,H3,I3,n3⟩:=q3;obtain⟨m',hm,w3⟩:=hN σ3 H3 n3;exact⟨m',hm,σ3,H3,I3,w3⟩
  |cont=>
   obtain⟨σ3,H3,I3,n3⟩:=q3;obtain⟨m',hm,w3⟩:=hN σ3 H3 n3;exact⟨m',hm,σ3,H3,I3,w3⟩
  |brk=>exact q3
  |ret v=>exact q3
 |false=>
  rw[if_neg zas];exact wpAny_execs_nil ⟨σ1,H2,I2,q2⟩
end
structure It where
 go:Nat->Hp->Prop
 gR:Nat->Hp->V->Hp->Prop
 stop:Nat->Hp->Prop
def i8(X:Cx)(pins:List (Addr×Obj))(H:Hp)(b:Addr):Prop:=
 H b=none/\b≠X.env.locals/\b∉X.fs/\(b∈X.ex\/X.s₀.heap.objs.size<=b)/\(∀x c,X.env.cells.lookup x=some c->c≠b)/\∀p∈X.pn++pins,p.1≠b
theorem Inv.zb{X:Cx}{pins:List (Addr×Obj)}{σ:St}{H H':Hp}{s:Shared}{b:Addr}(I:Inv X pins σ H s)(hb:s.heap.objs.size<=b)(hn:H' b=none):i8 X pins H' b:=by
 refine⟨hn,zaE<|zap I.lt hb,I.DT hb,.inr<|zat I.sz hb,fun x c e z=>?_,fun p hp z=>?_⟩
 ·obtain⟨v,q⟩:=I.cell x c e;exact absurd (zap q.lt (by rw[z];exact hb))<|zaz _
 ·exact absurd (zap (Heap.lt_size (I.pin p hp).1) (by rw[z];exact hb)) (zaz _)
structure Turn (P:Program) (w:World) (K:Frag) (tg:Expr) (J:It) (fp:List Addr) (it:Addr) (tn:Nat->Heap->Prop):Prop where
 mem:it∈fp
 obj:∀i h,tn i h->∀b∈fp,∃o,h.get? b=some o/\∀v,o.data≠ .cell v
 keep:∀i h h',tn i h->(∀b∈fp,∀o,h.get? b=some o->h'.get? b=some o)->tn i h'
 item:∀(X:Cx),X.prog=P->X.w=w->X.K=K->X.calm=true->∀(i:Nat) (pins:List (Addr×Obj)) (s:Shared) (σ:St) (H:Hp) (E:Value->Shared->Prop),Inv X pins σ H s->(∀b∈fp,i8 X pins H b)->tn i s.heap->J.go i H->
  wpAny (model P w) X.A (pyNext (.ref it)) (fun r s1=>∃u,r=some u/\
   wpAny (model P w) X.A (letOwnedTupleGo tg (.ref it) u) (fun _ s2=>∃x H',Inv X pins σ H' s2/\RelV x u/\J.gR i H x H'/\tn (i+1) s2.heap/\∀b∈fp,H' b=none) E s1) E s
 done:∀(X:Cx),X.prog=P->X.w=w->X.K=K->X.calm=true->∀(i:Nat) (pins:List (Addr×Obj)) (s:Shared) (σ:St) (H:Hp) (E:Value->Shared->Prop),Inv X pins σ H s->(∀b∈fp,i8 X pins H b)->tn i s.heap->J.stop i H->
  wpAny (model P w) X.A (pyNext<|.ref it) (fun r s1=>r=none/\Inv X pins σ H s1) E s
 self:∀(A:Around) (i:Nat) (s:Shared) (Q:Value->Shared->Prop) (E:Value->Shared->Prop),tn i s.heap->Q (.ref it) s->wpAny (model P w) A (pyIter<|.ref it) Q E s
abbrev TI:=St->Hp->(It->Hp->Prop)->Prop
def Ek(X:Cx)(pins:List (Addr×Obj))(σ:St)(tg:Expr)(R:It->Hp->Prop)(oE:Value)(s2:Shared):Prop:=
 ∃(it:Addr) (fp:List Addr) (tn:Nat->Heap->Prop) (J:It) (H':Hp),oE=.ref it/\Inv X pins σ H' s2/\Turn X.prog X.w X.K tg J fp it tn/\tn 0 s2.heap/\(∀b∈fp,i8 X pins H' b)/\R J H'
def PI(X:Cx)(tg iter:Expr)(wi:TI):Prop:=
 ∀(pins:List (Addr×Obj)) (s:Shared) (σ:St) (H:Hp) (R:It->Hp->Prop),Inv X pins σ H s->wi σ H R->
  wpAny (model X.prog X.w) X.A (eval iter X.env) (fun v s1=>wpAny (model X.prog X.w) X.A (pyIter v) (Ek X pins σ tg R) X.xe s1) X.xe s
theorem El{M:Model}{A:Around}{E:Value->Shared->Prop}{s:Shared}{tg:Expr}{it:Addr}{u:Value}{o:Obj}{n:String}{vs:Array Value}{Q:Unit->Shared->Prop}(ho:s.heap.get? it=some o)(hc:o.cls=.type n)(hd:o.data=.fields vs)
    (hn:["enumerate","zip","dict_itemiterator","dict_reverseitemiterator","odict_iterator","itertools.zip_longest","itertools.pairwise"].contains n=false) (hQ:Q () s):wpAny M A (letOwnedTupleGo tg (.ref it) u) Q E s:=by
  unfold letOwnedTupleGo;cases tg<;>first
    |exact wpAny_pure hQ
    | (cases u<;>first
        |exact wpAny_pure hQ
        | (refine wpAny_bind (wpAny_load ho ?_)
           rw[hc,hd];show wpAny M A (if (["enumerate","zip","dict_itemiterator","dict_reverseitemiterator","odict_iterator","itertools.zip_longest","itertools.pairwise"].contains n && vs[0]?==some (rawInt _))=true then _ else _) Q E s
           rw[if_neg (by intro h;rw[hn,zbF] at h;cases h)]
           exact wpAny_pure hQ))
def fO(K:Frag)(a:Addr):It:=
 ⟨fun i H=>∃xs x,au K H a xs/\xs[i]?=some x,fun i H x H'=>H'=H/\∀xs,au K H a xs->xs[i]?=some x,fun i H=>∃xs,au K H a xs/\xs.length<=i⟩
def O0(K:Frag)(a:Addr):It:=
 ⟨fun i H=>∃xs x,aH K H a xs/\xs[i]?=some x,fun i H x H'=>H'=H/\∀xs,aH K H a xs->xs[i]?=some x,fun i H=>∃xs,aH K H a xs/\xs.length<=i⟩
def gu(lo:Int)(n:Nat):It:=⟨fun i _=>i<n,fun i H x H'=>H'=H/\x=.int (lo+i),fun i _=>n<=i⟩
theorem O1{P:Program}{w:World}{K:Frag}{tg:Expr}(a it:Addr):Turn P w K tg (fO K a) [it] it (fun i h=>h.IsListIter it a i) where
 mem:=by simp
 obj:=fun i h st b hb=>by
  have e:b=it:=by simpa using hb
  subst e;obtain⟨o,e,c,d⟩:=st;exact⟨o,e,fun v z=>by rw[d] at z;cases z⟩
 keep:=fun i h h' st k=>st.at fun o e=>k it (by simp) o e
 item:=by
  intro X hP hw hK hc i pins s σ H E I hf st hg;subst hP hw hK;obtain⟨xs,x,hq,hx⟩:=hg;obtain⟨ao,rv,p,hz⟩:=I.list hq;obtain⟨u,hu,ru⟩:=rv.get hx;obtain⟨f0,f1,f2,f3,f4,f5⟩:=hf it (by simp)
  refine wpAny_pyNext_list_item st p.isList (x:=u) (by simpa using hu) fun h' dC sb=>?_
  have I1:Inv X pins σ H {s with heap:=h'}:=I.turned (t':=s.toks) (fun b o hb e=>(sb.2 b hb).trans e) f0 f1 f3 f4 f5
  obtain⟨o,e,c,d⟩:=id dC;exact⟨u,rfl,El (s:={s with heap:=h'}) e c d (by decide) ⟨x,H,I1,ru,⟨rfl,fun ys hy=>by rw[I.y7 hy hq];exact hx⟩,dC,fun b hb=>(hf b hb).1⟩⟩
 done:=by
  intro X hP hw hK hc i pins s σ H E I hf st hg;subst hP hw hK;obtain⟨xs,hq,hx⟩:=hg;obtain⟨ao,rv,p,hz⟩:=I.list hq;obtain⟨f0,f1,f2,f3,f4,f5⟩:=hf it (by simp)
  have hl:=rv.length;exact wpAny_pyNext_list_end (I.ok.hd hc) st p.isList (by simp;omega) fun h' eb=>⟨rfl,I.turned (t':=s.toks) (fun b o hb e=>eb b o hb e) f0 f1 f3 f4 f5⟩
 self:=fun _ _ _ _ _ st h=>wpAny_pyIter_listiter st h
theorem O2{P:Program}{w:World}{K:Frag}{tg:Expr}(it:Addr)(lo:Int)(n:Nat):Turn P w K tg (gu lo n) [it] it (fun i h=>IsRangeIter h it (lo+(i:Nat)*1) ((n:Int) - (i:Nat)) 1) where
 mem:=by simp
 obj:=fun i h st b hb=>by
  have e:b=it:=by simpa using hb
  subst e;exact⟨_,st,fun v z=>by
   have z':Data.fields _=Data.cell v:=z;cases z'⟩
 keep:=fun i h h' st k=>k it (by simp) _ st
 item:=by
  intro X hP hw hK hc i pins s σ H E I hf st hg;subst hP hw hK;obtain⟨f0,f1,f2,f3,f4,f5⟩:=hf it (by simp)
  have W:=Walks.range (prog:=X.prog) (w:=X.w) (I.ok.hd hc) it lo 1 n;refine W.item i s _ _ hg st fun v h' tk hv dC kk=>?_;obtain⟨t,rfl⟩:=hv;have I1:Inv X pins σ H {s with heap:=h',toks:=tk}:=I.turned (fun b o hb e=>kk b o (by simpa using hb) e) f0 f1 f3 f4 f5
  refine⟨_,rfl,El (s:={s with heap:=h',toks:=tk}) (n:="range_iterator") dC rfl rfl (by decide) ⟨.int<|lo+i,H,I1,⟨t,?_⟩,⟨rfl,rfl⟩,dC,fun b hb=>(hf b hb).1⟩⟩
  rw[Int.mul_one]
 done:=by
  intro X hP hw hK hc i pins s σ H E I hf st hg;subst hP hw hK;obtain⟨f0,f1,f2,f3,f4,f5⟩:=hf it (by simp)
  exact wpAny_pyNext_range_end (I.ok.hd hc) st (by have:n<=i:=hg;omega) fun h' eb=>⟨rfl,I.turned (t':=s.toks) (fun b o hb e=>eb b o hb e) f0 f1 f3 f4 f5⟩
 self:=fun _ _ _ _ _ st h=>wpAny_pyIter_rangeiter st h
section
variable {X:Cx}{tg:Expr}
def zc(K:Frag)(tl:TE):TI:=fun σ H R=>tl σ H fun x H1=>∃a,x=.ref a/\(∃xs,au K H1 a xs)/\R (fO K a) H1
def O3(K:Frag)(tl:TE):TI:=fun σ H R=>tl σ H fun x H1=>∃a,x=.ref a/\(∃xs,aH K H1 a xs)/\R (O0 K a) H1
theorem O4{l:Expr}{tl:TE}(hl:PE X l tl):PI X tg l (zc X.K tl):=by
 intro pins s σ H R I h;refine aG (hl pins s σ H _ I h) fun v s1 ⟨x,H1,I1,r1,q1⟩=>?_;obtain⟨a,e,⟨xs,hq⟩,q⟩:=q1;subst e;cases r1;obtain⟨ao,rv,p,hz⟩:=I1.list hq;refine wpAny_pyIter_list p.isList ?_;refine⟨s1.heap.objs.size,[s1.heap.objs.size],_,_,H1,rfl,I1.kept (t':=s1.toks) fun b o e=>Heap.get?_push_of_some _ e,O1 a _,⟨_,Heap.get?_push_size _ rfl,rfl,rfl⟩,fun b hb=>?_,q⟩;have e:b=s1.heap.objs.size:=by simpa using hb
 subst e;exact I1.zb (zqR _)<|I1.aD.fresh<|zqR _
theorem O5{pins:List (Addr×Obj)}{σ:St}{H:Hp}{s:Shared}{R:It->Hp->Prop}{E:Value->Shared->Prop}{lo hi:Int}{t u v:Tok}{tk:Nat}(I:Inv X pins σ H s)(h1: -(2 ^ 62)<=lo)(h2:lo<2 ^ 62)(h3: -(2 ^ 62)<=hi)(h4:hi<2 ^ 62)
  (q:R (gu lo (hi - lo).toNat) H):wpAny (model X.prog X.w) X.A (pyIter<|.ref s.heap.objs.size) (Ek X pins σ tg R) E {s with heap:=s.heap.push {cls:=.type "range",data:=.fields #[.int lo t,.int hi u,.int 1 v]},toks:=tk}:=by
 refine wpAny_pyIter_range (IsRange.new ..) (small_one h1 h2 h3 h4) ?_;have I1:Inv X pins σ H {s with heap:=s.heap.push {cls:=.type "range",data:=.fields #[.int lo t,.int hi u,.int 1 v]},toks:=tk}:=I.kept fun b o e=>Heap.get?_push_of_some _ e
 refine⟨(s.heap.push {cls:=.type "range",data:=.fields #[.int lo t,.int hi u,.int 1 v]}).objs.size,[(s.heap.push {cls:=.type "range",data:=.fields #[.int lo t,.int hi u,.int 1 v]}).objs.size],_,_,H,rfl,
  I1.kept (t':=tk) fun b o e=>Heap.get?_push_of_some _ e,O2 _ lo (hi - lo).toNat,?_,fun b hb=>?_,q⟩
 ·have e1:lo+((0:Nat):Int)*1=lo:=by simp
  have e2:(((hi - lo).toNat:Nat):Int) - ((0:Nat):Int)=Builtin.Range.rangeSize lo hi 1:=by rw[rangeSize_one];split<;>omega
  show IsRangeIter _ _ (lo+((0:Nat):Int)*1) ((((hi - lo).toNat:Nat):Int) - ((0:Nat):Int)) 1;rw[e1,e2];exact Heap.get?_push_size _ rfl
 ·have e:b=(s.heap.push {cls:=.type "range",data:=.fields #[.int lo t,.int hi u,.int 1 v]}).objs.size:=by simpa using hb
  subst e;exact I1.zb (zqR _)<|I1.aD.fresh<|zqR _
def Em(ta:TA):TI:=fun σ H R=>ta σ H fun vs H1=>∃j:Int,vs=[.int j]/\ -(2 ^ 62)<=j/\j<2 ^ 62/\R (gu 0 j.toNat) H1
def O6(ta:TA):TI:=fun σ H R=>ta σ H fun vs H1=>∃i j:Int,vs=[.int i,.int j]/\(-(2 ^ 62)<=i/\i<2 ^ 62/\ -(2 ^ 62)<=j/\j<2 ^ 62)/\R (gu i (j - i).toNat) H1
theorem O7{a:Expr}{ta:TA}{p pos:Pos}(hg:Gl X "range")(hm:X.mg "range"=none)(ha:PA X [a] ta)(hs:starEach [a] X.env=[(false,eval a X.env)]:=by rfl):PI X tg (.Call (.Name "range" p) [a] [] pos) (Em ta):=by
 intro pins s σ H R I h;refine Call_<|iN I hg hm boot_range<|PyProof.Rows.callWith_type1 (aG (ha pos pins s σ H _ I h) fun us s1 ⟨vs,H1,I1,r1,q1⟩=>?_) hs rfl;obtain⟨j,e,q1,q2,q⟩:=q1;subst e;cases r1 with
 |cons r rr=>
  cases rr;obtain⟨t,rfl⟩:=r;exact call_range_1<|O5 I1 (by omega) (by omega) q1 q2 (by simpa using q)
def vq(wi:TI)(g:TG)(tb:TS):TS:=fun D σ H=>wi σ H fun J H1=>∃W:Nat->Nat->St->Hp->Prop,(∃m,W 0 m σ H1)/\∀i m σ H,W i m σ H->
 (J.stop i H/\D.nx σ H)\/(J.go i H/\∃N:St->Hp->Prop,(∀σ' H',N σ' H'->∃m',m'<m/\W (i+1) m' σ' H')/\∀x H',J.gR i H x H'->g x σ H' fun σ2 H2=>tb {D with nx:=N,ct:=N,bk:=D.nx} σ2 H2)
def qJ(fp:List Addr)(h:Heap):List (Addr×Obj):=fp.filterMap fun b=>(h.get? b).map fun o=>(b,o)
theorem vt{fp:List Addr}{h:Heap}{b:Addr}{o:Obj}(hb:b∈fp)(e:h.get? b=some o):(b,o)∈qJ fp h:=zbi.mpr ⟨b,hb,by rw[e];rfl⟩
theorem O8{fp:List Addr}{h:Heap}{p:Addr×Obj}(hp:p∈qJ fp h):p.1∈fp/\h.get? p.1=some p.2:=by
 obtain⟨b,hb,e⟩:=zbi.mp hp;cases q:h.get? b with
 |none=>rw[q] at e;cases e
 |some o=>
  rw[q] at e;have e':(b,o)=p:=zal e;subst e';exact⟨hb,q⟩
theorem Inv.pinned{pins:List (Addr×Obj)}{σ:St}{H:Hp}{s:Shared}{fp:List Addr}(I:Inv X pins σ H s)(hf:∀b∈fp,i8 X pins H b)(ho:∀b∈fp,∃o,s.heap.get? b=some o/\∀v,o.data≠ .cell v):Inv X (pins++qJ fp s.heap) σ H s:=
 I.qG fun p hp=>(zai.mp hp).elim (fun z=>I.pin p<|zau _ z) fun z=>by
  obtain⟨hb,e⟩:=O8 z;obtain⟨f0,f1,f2,_⟩:=hf p.1 hb;obtain⟨o,e',d⟩:=ho p.1 hb;rw[e] at e';cases e';exact⟨e,f0,f1,f2,d⟩
theorem Inv.zd{pins pl:List (Addr×Obj)}{σ:St}{H:Hp}{s:Shared}(I:Inv X (pins++pl) σ H s):Inv X pins σ H s:=I.qG fun p hp=>I.pin p (zau _<|zaw _ hp)
theorem En{iter:Expr}{body:List Stmt}{wi:TI}{g:TG}{tb:TS}{pos:Pos}(hp:PassesOwn (model X.prog X.w) X.A X.env X.xe)(hc:X.calm=true)(hi:PI X tg iter wi)(hg:PG X tg g)(hb:eU X body tb)
  (hs:∀x,foldedSetIterable iter X.env x=pure x:=by intro _;rfl):PS X (.For tg iter body [] pos) (vq wi g tb):=by
 intro pins s σ H D I h;refine wpAny_For (aG (hi pins s σ H _ I h) fun v s1 h1=>aG h1 fun oE s2 h2=>?_) hs;obtain⟨it,fp,tn,J,H2,e,I2,T,sM,f2,W,⟨m0,w0⟩,turn⟩:=h2;subst e;have oF:∀{H':Hp},(∀b∈fp,H' b=none)->∀b∈fp,i8 X pins H' b:=fun hn b hb=>⟨hn b hb,(f2 b hb).2⟩;refine codeAny_forLoop_any (fun n s'=>∃i σ' H',Inv X pins σ' H' s'/\tn i s'.heap/\(∀b∈fp,H' b=none)/\W i n σ' H') ?_ m0 ⟨0,σ,H2,I2,sM,fun b hb=>(f2 b hb).1,w0⟩;rintro n s3 ⟨i,σ3,H3,I3,Eo,Ep,w3⟩;rcases turn i n σ3 H3 w3 with⟨stop,qn⟩|⟨go,N,hN,step⟩
 ·refine wpAny_passesOwn hp (aG (T.done X rfl rfl rfl hc i pins s3 σ3 H3 X.xe I3 (oF Ep) Eo stop) fun r s4 ⟨hr,I4⟩=>?_);subst hr;exact wpAny_execs_nil ⟨σ3,H3,I4,qn⟩
 ·refine wpAny_passesOwn hp (aG (T.item X rfl rfl rfl hc i pins s3 σ3 H3 X.xe I3 (oF Ep) Eo go) fun r s4 ⟨u,hr,h4⟩=>?_);subst hr;refine wpAny_passesOwn hp<|aG h4 fun _ s5 ⟨x,H5,I5,r5,y5,oG,ze⟩=>?_;have zf:=I5.pinned (oF ze) (T.obj _ _ oG);refine wpAny_passesOwn hp<|aG (hg _ s5 σ3 H5 x u _ zf r5<|step x H5 y5) fun _ s6 ⟨σ6,H6,I6,q6⟩=>?_;refine wpAny_passesOwn hp<|aG (hb _ s6 σ6 H6 _ I6 q6) fun f s7 q7=>?_;have again:∀{σ7:St}{H7:Hp},Inv X (pins++qJ fp s5.heap) σ7 H7 s7->N σ7 H7->∃m,m<n/\∃i σ' H',Inv X pins σ' H' s7/\tn i s7.heap/\(∀b∈fp,H' b=none)/\W i m σ' H':=fun {σ7 H7} I7 n7=>by
   obtain⟨m',hm,w7⟩:=hN σ7 H7 n7;refine⟨m',hm,i+1,σ7,H7,I7.zd,T.keep _ _ _ oG fun b hb o e=>(I7.pin (b,o)<|zau _<|zau _<|vt hb e).1,fun b hb=>?_,w7⟩;obtain⟨o,e,d⟩:=T.obj _ _ oG b hb;exact(I7.pin (b,o)<|zau _<|zau _<|vt hb e).2.1
  cases f with
  |next=>obtain⟨σ7,H7,I7,n7⟩:=q7;exact again I7 n7
  |cont=>obtain⟨σ7,H7,I7,n7⟩:=q7;exact again I7 n7
  |brk=>obtain⟨σ7,H7,I7,q7⟩:=q7;exact⟨σ7,H7,I7.zd,q7⟩
  |ret v=>obtain⟨x7,σ7,H7,I7,r7,q7⟩:=q7;exact⟨x7,σ7,H7,I7.zd,r7,q7⟩
end
theorem mU{K:Frag}{a:Addr}{xs:List V}{g:TG}{tb:TS}{D:Ends}{σ:St}{H:Hp}(Pv:Nat->St->Hp->Prop)(h0:Pv 0 σ H)(hl:∀i σ H,i<=xs.length->Pv i σ H->au K H a xs)
  (hs:∀i x σ H,xs[i]?=some x->Pv i σ H->g x σ H fun σ2 H2=>tb {D with nx:=Pv (i+1),ct:=Pv (i+1),bk:=D.nx} σ2 H2) (hd:∀σ H,Pv xs.length σ H->D.nx σ H):
  ∃W:Nat->Nat->St->Hp->Prop,(∃m,W 0 m σ H)/\∀i m σ H,W i m σ H->
   ((fO K a).stop i H/\D.nx σ H)\/((fO K a).go i H/\∃N:St->Hp->Prop,(∀σ' H',N σ' H'->∃m',m'<m/\W (i+1) m' σ' H')/\∀x H',(fO K a).gR i H x H'->g x σ H' fun σ2 H2=>tb {D with nx:=N,ct:=N,bk:=D.nx} σ2 H2):=by
 refine⟨fun i m σ H=>m=xs.length - i/\i<=xs.length/\Pv i σ H,⟨xs.length,by simp,zqZ _,h0⟩,?_⟩
 rintro i m σ H ⟨rfl,hi,p⟩;have q:=hl i σ H hi p;by_cases aX:i<xs.length
 ·refine .inr ⟨⟨xs,xs[i],q,by simp[aX]⟩,Pv<|i+1,fun σ' H' p'=>⟨xs.length - (i+1),by omega,rfl,aX,p'⟩,fun x H' y=>?_⟩
  obtain⟨e,y⟩:=y;subst e;exact hs i x σ _ (y xs q) p
 ·have e:i=xs.length:=by omega
  subst e;exact .inl ⟨⟨xs,q,zqR _⟩,hd σ H p⟩
theorem Er{lo:Int}{n:Nat}{g:TG}{tb:TS}{D:Ends}{σ:St}{H:Hp}(Pv:Nat->St->Hp->Prop)(h0:Pv 0 σ H)
  (hs:∀i σ H,i<n->Pv i σ H->g (.int<|lo+i) σ H fun σ2 H2=>tb {D with nx:=Pv (i+1),ct:=Pv (i+1),bk:=D.nx} σ2 H2) (hd:∀σ H,Pv n σ H->D.nx σ H):
  ∃W:Nat->Nat->St->Hp->Prop,(∃m,W 0 m σ H)/\∀i m σ H,W i m σ H->
   ((gu lo n).stop i H/\D.nx σ H)\/((gu lo n).go i H/\∃N:St->Hp->Prop,(∀σ' H',N σ' H'->∃m',m'<m/\W (i+1) m' σ' H')/\∀x H',(gu lo n).gR i H x H'->g x σ H' fun σ2 H2=>tb {D with nx:=N,ct:=N,bk:=D.nx} σ2 H2):=by
 refine⟨fun i m σ H=>m=n - i/\i<=n/\Pv i σ H,⟨n,by simp,zqZ _,h0⟩,?_⟩
 rintro i m σ H ⟨rfl,hi,p⟩;by_cases aX:i<n
 ·refine .inr ⟨aX,Pv<|i+1,fun σ' H' p'=>⟨n - (i+1),by omega,rfl,aX,p'⟩,fun x H' y=>?_⟩
  obtain⟨e,y⟩:=y;subst e y;exact hs i σ _ aX p
 ·have e:i=n:=by omega
  subst e;exact .inl ⟨zqR _,hd σ H p⟩
abbrev R2:=V->V->Hp->VK->Prop
def bh(X:Cx)(f:Value->Value->Sem Value)(r:R2):Prop:=
 ∀(pins:List (Addr×Obj)) (s:Shared) (σ:St) (H:Hp) (x y:V) (v u:Value) (Q:VK),Inv X pins σ H s->RelV x v->RelV y u->r x y H Q->
  wpAny (model X.prog X.w) X.A (f v u) (EP X pins σ Q) X.xe s
def vv(X:Cx)(f:Value->Sem Value)(r:V->Hp->VK->Prop):Prop:=
 ∀(pins:List (Addr×Obj)) (s:Shared) (σ:St) (H:Hp) (x:V) (v:Value) (Q:VK),Inv X pins σ H s->RelV x v->r x H Q->
  wpAny (model X.prog X.w) X.A (f v) (EP X pins σ Q) X.xe s
def dD(X:Cx)(f:Value)(r:List V->Hp->VK->Prop):Prop:=
 ∀(pins:List (Addr×Obj)) (s:Shared) (σ:St) (H:Hp) (xs:List V) (us:List Value) (Q:VK),Inv X pins σ H s->Vals xs us->r xs H Q->
  wpAny (model X.prog X.w) X.A (call f us) (EP X pins σ Q) X.xe s
def O9(X:Cx)(r:V->Hp->(Bool->Hp->Prop)->Prop):Prop:=
 ∀(pins:List (Addr×Obj)) (s:Shared) (σ:St) (H:Hp) (x:V) (v:Value) (Q:Bool->Hp->Prop),Inv X pins σ H s->RelV x v->r x H Q->
  wpAny (model X.prog X.w) X.A (truthy v) (TP X pins σ Q) X.xe s
def eV(r:R2)(ta tb:TE):TE:=fun σ H Q=>ta σ H fun x H1=>tb σ H1 fun y H2=>r x y H2 Q
def Es(r:V->Hp->VK->Prop)(ta:TE):TE:=fun σ H Q=>ta σ H fun x H1=>r x H1 Q
def rI(C:Int->Int->Prop)(g:Int->Int->V):R2:=fun x y H Q=>∃i j,x=.int i/\y=.int j/\C i j/\Q (g i j) H
def lQ(g:Int->Int->V):R2:=fun x y H Q=>∃i j,x=.int i/\y=.int j/\Q (g i j) H
def rU(g:Int->V):V->Hp->VK->Prop:=fun x H Q=>∃i,x=.int i/\Q (g i) H
section
variable {X:Cx}{a b c:Expr}{ta tb tc:TE}{pos:Pos}
theorem zg(ha:PE X a ta)(hb:PE X b tb){pins:List (Addr×Obj)}{s:Shared}{σ:St}{H:Hp}{R:V->V->Hp->Prop}(I:Inv X pins σ H s)
  (h:ta σ H fun x H1=>tb σ H1 fun y H2=>R x y H2) {Q:Value->Shared->Prop}{f:Value->Value->Sem Value}
  (hf:∀v u s2 x y H2,Inv X pins σ H2 s2->RelV x v->RelV y u->R x y H2->wpAny (model X.prog X.w) X.A (f v u) Q X.xe s2):
  wpAny (model X.prog X.w) X.A (eval a X.env) (fun v s₁=>wpAny (model X.prog X.w) X.A (eval b X.env) (fun u s₂=>wpAny (model X.prog X.w) X.A (f v u) Q X.xe s₂) X.xe s₁) X.xe s:=by
 refine aG (ha pins s σ H _ I h) fun v s1 ⟨x,H1,I1,r1,q1⟩=>?_;refine aG (hb pins s1 σ H1 _ I1 q1) fun u s2 ⟨y,H2,I2,r2,q2⟩=>?_;exact hf v u s2 x y H2 I2 r1 r2 q2
theorem Et{op:Operator}{r:R2}(ho:bh X (binaryOp op) r)(ha:PE X a ta)(hb:PE X b tb):PE X (.BinOp a op b pos) (eV r ta tb):=by
 intro pins s σ H Q I h;exact wpAny_BinOp<|zg ha hb I h fun v u s2 x y H2 I2 rx ry q=>ho pins s2 σ H2 x y v u Q I2 rx ry q
theorem O_{op:UnaryOp}{r:V->Hp->VK->Prop}(ho:vv X (unaryOp op) r)(ha:PE X a ta):PE X (.UnaryOp op a pos) (Es r ta):=by
 intro pins s σ H Q I h;exact UnaryOp_<|aG (ha pins s σ H _ I h) fun v s1 ⟨x,H1,I1,r1,q1⟩=>ho pins s1 σ H1 x v Q I1 r1 q1
theorem vw{f:Value->Value->Sem Value}{C:Int->Int->Prop}{g:Int->Int->Int}
  (rule:∀(i j:Int) (t u:Tok) (s:Shared) (Q:Value->Shared->Prop) (E:Value->Shared->Prop),C i j->Q (.int (g i j) s.toks) {s with toks:=s.toks+1}->wpAny (model X.prog X.w) X.A (f (.int i t)<|.int j u) Q E s):
  bh X f (rI C fun i j=>.int (g i j)):=by
 intro pins s σ H x y v u Q I rx ry h;obtain⟨i,j,rfl,rfl,hc,q⟩:=h;obtain⟨t,rfl⟩:=rx;obtain⟨t',rfl⟩:=ry;exact rule i j t t' s _ _ hc ⟨.int<|g i j,H,I.tok _,⟨_,rfl⟩,q⟩
theorem Eu{f:Value->Value->Sem Value}{g:Int->Int->Int}
  (rule:∀(i j:Int) (t u:Tok) (s:Shared) (Q:Value->Shared->Prop) (E:Value->Shared->Prop),Q (.int (g i j) s.toks) {s with toks:=s.toks+1}->wpAny (model X.prog X.w) X.A (f (.int i t)<|.int j u) Q E s):
  bh X f (lQ fun i j=>.int (g i j)):=by
 intro pins s σ H x y v u Q I rx ry h;obtain⟨i,j,rfl,rfl,q⟩:=h;obtain⟨t,rfl⟩:=rx;obtain⟨t',rfl⟩:=ry;exact rule i j t t' s _ _ ⟨.int<|g i j,H,I.tok _,⟨_,rfl⟩,q⟩
theorem vx{f:Value->Value->Sem Value}{g:Int->Int->Bool}
  (rule:∀(i j:Int) (t u:Tok) (s:Shared) (Q:Value->Shared->Prop) (E:Value->Shared->Prop),Q (.bool<|g i j) s->wpAny (model X.prog X.w) X.A (f (.int i t)<|.int j u) Q E s):
  bh X f (lQ fun i j=>.bl (g i j)):=by
 intro pins s σ H x y v u Q I rx ry h;obtain⟨i,j,rfl,rfl,q⟩:=h;obtain⟨t,rfl⟩:=rx;obtain⟨t',rfl⟩:=ry;exact rule i j t t' s _ _ ⟨.bl<|g i j,H,I,rfl,q⟩
def Ew(i j:Int):Prop:=0<j/\j<1073741824
def Ex(i j:Int):Prop:=0<=j/\j<=1000000/\i.natAbs<2 ^ 64
def vy(i j:Int):Prop:=(-(2 ^ 64) <i/\i<2 ^ 64)\/(-(2 ^ 64) <j/\j<2 ^ 64)
theorem vy.ok{i j:Int}(h:vy i j):IntMulOk i j:=by
 rcases h with⟨h1,h2⟩|⟨h1,h2⟩
 ·exact .of_left (intBits_le_64 h1 h2)
 ·exact .of_right (intBits_le_64 h1 h2)
theorem Pa:bh X (binaryOp .Add) (lQ fun i j=>.int (i+j)):=Eu fun _ _ _ _ _ _ _ q=>add_int q
theorem Pb:bh X (binaryOp .Sub) (lQ fun i j=>.int (i - j)):=Eu fun _ _ _ _ _ _ _ q=>sub_int q
theorem Pc:bh X (binaryOp .Mult) (rI vy fun i j=>.int (i*j)):=vw fun _ _ _ _ _ _ _ hc q=>mul_int q hc.ok
theorem Pd:bh X (binaryOp .FloorDiv) (rI Ew fun i j=>.int (i / j)):=vw fun i j _ _ _ _ _ hc q=>by
 have h1:(0:Int) <j:=hc.1;have h2:j<1073741824:=hc.2;exact floordiv_int (by omega) (by rw[Int.fdiv_eq_ediv_of_nonneg i (by omega)];exact q)<|.inl<|PyProof.noPylong_small (by omega)
theorem Pe:bh X (binaryOp .Mod) (rI (fun _ j=>0<j) fun i j=>.int (i % j)):=vw fun i j _ _ _ _ _ hc q=>by
 have h1:(0:Int) <j:=hc;exact mod_int' (by omega) (by rw[Int.fmod_eq_emod_of_nonneg i (by omega)];exact q)
theorem Pf:bh X (binaryOp .Pow) (rI Ex fun i j=>.int (i ^ j.toNat)):=vw fun _ _ _ _ _ _ _ hc q=>pow_int_small hc.1 hc.2.1 hc.2.2 q
theorem Pg{f:Value->Sem Value}{g:Int->Int}
  (rule:∀(i:Int) (t:Tok) (s:Shared) (Q:Value->Shared->Prop) (E:Value->Shared->Prop),Q (.int (g i) s.toks) {s with toks:=s.toks+1}->wpAny (model X.prog X.w) X.A (f<|.int i t) Q E s):
  vv X f (rU fun i=>.int (g i)):=by
 intro pins s σ H x v Q I rx h;obtain⟨i,rfl,q⟩:=h;obtain⟨t,rfl⟩:=rx;exact rule i t s _ _ ⟨.int<|g i,H,I.tok _,⟨_,rfl⟩,q⟩
theorem Ph:vv X (unaryOp .USub) (rU fun i=>.int (-i)):=Pg fun _ _ _ _ _ q=>neg_int q
end
def oH:V->V->Bool
 |.aC,.aC=>true|.aC,.int _=>true|.int _,.aC=>true|.aC,.bl _=>true|.bl _,.aC=>true|.aC,.str _=>true|.str _,.aC=>true
 |.int _,.int _=>true|.bl _,.bl _=>true|.str _,.str _=>true|.fN _,.fN _=>true
 |.int _,.str _=>true|.str _,.int _=>true|.bl _,.str _=>true|.str _,.bl _=>true
 |_,_=>false
def Pj:R2:=fun x y H Q=>oH x y=true/\Q (.bl<|decide<|x=y) H
def Pk:R2:=fun x y H Q=>oH x y=true/\Q (.bl<|!decide (x=y)) H
theorem Ey{i j:Int}:decide (V.int i=V.int j)=(i==j):=by
 rw[zbG]
 simp
theorem Ez{i j:Bool}:decide (V.bl i=V.bl j)=(i==j):=by
 rw[zbG]
 simp
theorem ij{i j:Str}:decide (V.str i=V.str j)=(i==j):=by
 rw[zbG]
 simp
theorem EA{i j:Array UInt8}:decide (V.fN i=V.fN j)=(i.toList==j.toList):=by
 rw[zbG];cases i;cases j
 simp
section
variable {X:Cx}{a b c:Expr}{ta tb tc:TE}{pos:Pos}
theorem bW{pins:List (Addr×Obj)}{σ:St}{H:Hp}{s:Shared}{Q:VK}{k k':Bool}(I:Inv X pins σ H s)(q:Q (.bl k) H)(e:k=k'):EP X pins σ Q (.bool k') s:=by
 subst e;exact⟨.bl k,H,I,rfl,q⟩
theorem Pl:bh X (compareOp .Eq) Pj:=by
 intro pins s σ H x y v u Q I rx ry h;obtain⟨hs,q⟩:=h;cases x with
 |aC=>
  cases rx;cases y with
  |aC=>cases ry;exact PySem.EqNone.eq_none_none (bW I q (by simp))
  |bl j=>cases ry;exact PySem.EqNone.eq_none_bool (bW I q (by simp))
  |int j=>obtain⟨t',rfl⟩:=ry;exact PySem.EqNone.eq_none_int (bW I q (by simp))
  |str j=>obtain⟨t',rfl⟩:=ry;exact PySem.EqNone.eq_none_str (bW I q (by simp))
  |_=>exact absurd (show false=true from hs) zas
 |bl i=>
  cases rx;cases y with
  |aC=>cases ry;exact PySem.EqNone.eq_bool_none (bW I q (by simp))
  |bl j=>cases ry;exact eq_bool (bW I q Ez)
  |str j=>obtain⟨t',rfl⟩:=ry;exact PySem.EqMixed.eq_bool_str (bW I q (by simp))
  |_=>exact absurd (show false=true from hs) zas
 |int i=>
  obtain⟨t,rfl⟩:=rx;cases y with
  |aC=>cases ry;exact PySem.EqNone.eq_int_none (bW I q (by simp))
  |int j=>obtain⟨t',rfl⟩:=ry;exact eq_int (bW I q Ey)
  |str j=>obtain⟨t',rfl⟩:=ry;exact PySem.EqMixed.eq_int_str (bW I q (by simp))
  |_=>exact absurd (show false=true from hs) zas
 |str i=>
  obtain⟨t,rfl⟩:=rx;cases y with
  |aC=>cases ry;exact PySem.EqNone.eq_str_none (bW I q (by simp))
  |bl j=>cases ry;exact PySem.EqMixed.eq_str_bool (bW I q (by simp))
  |int j=>obtain⟨t',rfl⟩:=ry;exact PySem.EqMixed.eq_str_int (bW I q (by simp))
  |str j=>obtain⟨t',rfl⟩:=ry;exact eq_str (bW I q ij)
  |_=>exact absurd (show false=true from hs) zas
 |fN i=>
  obtain⟨t,rfl⟩:=rx;cases y with
  |fN j=>obtain⟨t',rfl⟩:=ry;exact PySem.W.eq_bytes (bW I q EA)
  |_=>exact absurd (show false=true from hs) zas
 |_=>cases y<;>exact absurd (show false=true from hs) zas
theorem Pm:bh X (compareOp .NotEq) Pk:=by
 intro pins s σ H x y v u Q I rx ry h;obtain⟨hs,q⟩:=h;cases x with
 |aC=>
  cases rx;cases y with
  |aC=>cases ry;exact PySem.EqNone.ne_none_none (bW I q (by simp))
  |bl j=>cases ry;exact PySem.EqNone.ne_none_bool (bW I q (by simp))
  |int j=>obtain⟨t',rfl⟩:=ry;exact PySem.EqNone.ne_none_int (bW I q (by simp))
  |str j=>obtain⟨t',rfl⟩:=ry;exact PySem.EqNone.ne_none_str (bW I q (by simp))
  |_=>exact absurd (show false=true from hs) zas
 |bl i=>
  cases rx;cases y with
  |aC=>cases ry;exact PySem.EqNone.ne_bool_none (bW I q (by simp))
  |bl j=>cases ry;exact ne_bool (bW I q<|congrArg not Ez)
  |str j=>obtain⟨t',rfl⟩:=ry;exact PySem.EqMixed.ne_bool_str (bW I q (by simp))
  |_=>exact absurd (show false=true from hs) zas
 |int i=>
  obtain⟨t,rfl⟩:=rx;cases y with
  |aC=>cases ry;exact PySem.EqNone.ne_int_none (bW I q (by simp))
  |int j=>obtain⟨t',rfl⟩:=ry;exact ne_int (bW I q<|congrArg not Ey)
  |str j=>obtain⟨t',rfl⟩:=ry;exact PySem.EqMixed.ne_int_str (bW I q (by simp))
  |_=>exact absurd (show false=true from hs) zas
 |str i=>
  obtain⟨t,rfl⟩:=rx;cases y with
  |aC=>cases ry;exact PySem.EqNone.ne_str_none (bW I q (by simp))
  |bl j=>cases ry;exact PySem.EqMixed.ne_str_bool (bW I q (by simp))
  |int j=>obtain⟨t',rfl⟩:=ry;exact PySem.EqMixed.ne_str_int (bW I q (by simp))
  |str j=>obtain⟨t',rfl⟩:=ry;exact ne_str (bW I q<|congrArg not ij)
  |_=>exact absurd (show false=true from hs) zas
 |fN i=>
  obtain⟨t,rfl⟩:=rx;cases y with
  |fN j=>obtain⟨t',rfl⟩:=ry;exact PySem.W.ne_bytes (bW I q<|congrArg not EA)
  |_=>exact absurd (show false=true from hs) zas
 |_=>cases y<;>exact absurd (show false=true from hs) zas
theorem Pn:bh X (compareOp .Lt) (lQ fun i j=>.bl (decide<|i<j)):=vx fun _ _ _ _ _ _ _ q=>lt_int q
theorem Po:bh X (compareOp .LtE) (lQ fun i j=>.bl (decide<|i<=j)):=vx fun _ _ _ _ _ _ _ q=>le_int q
theorem Pp:bh X (compareOp .Gt) (lQ fun i j=>.bl (decide<|j<i)):=vx fun _ _ _ _ _ _ _ q=>gt_int q
theorem Pq:bh X (compareOp .GtE) (lQ fun i j=>.bl (decide<|j<=i)):=vx fun _ _ _ _ _ _ _ q=>ge_int q
theorem Pr:bh X (compareOp .In) (fun x y H Q=>∃i j,x=.str i/\y=.str j/\Q (.bl<|!(Builtin.Str.occurrences j i 0 j.length 1).isEmpty) H):=by
 intro pins s σ H x y v u Q I rx ry h;obtain⟨i,j,rfl,rfl,q⟩:=h;obtain⟨t,rfl⟩:=rx;obtain⟨t',rfl⟩:=ry;exact in_str<|bW I q rfl
theorem Pu:bh X (compareOp .Is) (fun x y H Q=>y=.aC/\Q (.bl<|decide<|x=.aC) H):=by
 intro pins s σ H x y v u Q I rx ry h;obtain⟨rfl,q⟩:=h;cases ry;refine is_none_gen<|bW I q ?_;cases x<;>first
  |(cases rx;rfl)
  |(obtain⟨t,rfl⟩:=rx;rfl)
theorem Pw:bh X (compareOp .IsNot) (fun x y H Q=>y=.aC/\Q (.bl<|!decide (x=.aC)) H):=by
 intro pins s σ H x y v u Q I rx ry h;obtain⟨rfl,q⟩:=h;cases ry;refine isnot_none_gen<|bW I q ?_;cases x<;>first
  |(cases rx;rfl)
  |(obtain⟨t,rfl⟩:=rx;rfl)
theorem Px:bh X (compareOp .NotIn) (fun x y H Q=>∃i j,x=.str i/\y=.str j/\Q (.bl<|!(!(Builtin.Str.occurrences j i 0 j.length 1).isEmpty)) H):=by
 intro pins s σ H x y v u Q I rx ry h;obtain⟨i,j,rfl,rfl,q⟩:=h;obtain⟨t,rfl⟩:=rx;obtain⟨t',rfl⟩:=ry;exact notIn_str<|bW I q rfl
theorem bh.or{f:Value->Value->Sem Value}{r r':R2}(h:bh X f r)(h':bh X f r'):bh X f (fun x y H Q=>r x y H Q\/r' x y H Q):=by
 intro pins s σ H x y v u Q I rx ry q;rcases q with q|q
 ·exact h pins s σ H x y v u Q I rx ry q
 ·exact h' pins s σ H x y v u Q I rx ry q
theorem Py{op:CmpOp}{r:R2}(ho:bh X (compareOp op) r)(ha:PE X a ta)(hb:PE X b tb)(hm:behindInMarks op b=false):PE X (.Compare a [op] [b] pos) (eV r ta tb):=by
 intro pins s σ H Q I h;exact wpAny_Compare1 (zg ha hb I h fun v u s2 x y H2 I2 rx ry q=>ho pins s2 σ H2 x y v u Q I2 rx ry q) hm
def qK(t:TE):TT:=fun σ H Q=>t σ H fun x H'=>∃k,x=.bl k/\Q k H'
theorem Pz{op:CmpOp}{r:R2}(ho:bh X (compareOp op) r)(ha:PE X a ta)(hb:PE X b tb)(hm:behindInMarks op b=false):PT X (.Compare a [op] [b] pos) (qK<|eV r ta tb):=by
 intro pins s σ H Q I h;refine wpAny_isTrue_Compare1 (aG (ha pins s σ H _ I h) fun v s1 ⟨x,H1,I1,r1,q1⟩=>aG (hb pins s1 σ H1 _ I1 q1) fun u s2 ⟨y,H2,I2,r2,q2⟩=>
  aG (ho pins s2 σ H2 x y v u _ I2 r1 r2 q2) fun c s3 ⟨z,H3,I3,r3,k,e,q3⟩=>?_) hm
 subst e;cases r3;exact wpAny_truthy_bool ⟨H3,I3,q3⟩
def vz(r r':R2)(ta tb tc:TE):TE:=fun σ H Q=>ta σ H fun x H1=>tb σ H1 fun y H2=>r x y H2 fun z H3=>∃k,z=.bl k/\
 (if k=true then tc σ H3 fun w' H4=>r' y w' H4 Q else Q (.bl false) H3)
theorem PB{op fP:CmpOp}{r r':R2}(ho:bh X (compareOp op) r)(ff:bh X (compareOp fP) r')(ha:PE X a ta)(hb:PE X b tb)(hc:PE X c tc)
  (hm:lastMarks [op,fP] [b,c]=false:=by with_unfolding_all rfl):PE X (.Compare a [op,fP] [b,c] pos) (vz r r' ta tb tc):=by
 intro pins s σ H Q I h;refine Compare_chain (aG (ha pins s σ H _ I h) fun v s1 ⟨x,H1,I1,r1,q1⟩=>chain_link (aG (hb pins s1 σ H1 _ I1 q1) fun u s2 ⟨y,H2,I2,r2,q2⟩=>
  aG (ho pins s2 σ H2 x y v u _ I2 r1 r2 q2) fun d s3 ⟨z,H3,I3,r3,k,e,q3⟩=>?_)) hm
 subst e;cases r3;refine wpAny_truthy_bool ?_;cases k with
 |false=>exact ite_ff ⟨.bl false,H3,I3,rfl,q3⟩
 |true=>exact ite_tt (chain_last<|aG (hc pins s3 σ H3 _ I3 q3) fun w' s4 ⟨z',H4,I4,r4,q4⟩=>ff pins s4 σ H4 y z' u w' Q I4 r2 r4 q4)
def EB(K:Frag)(x:V)(H:Hp)(k:Bool):Prop:=
 match x with
 |.aC=>k=false
 |.bl b=>k=b
 |.int i=>k=(i !=0)
 |.str y=>y.length<=sizeLine/\k=((y.length:Int) !=0)
 |.fN y=>y.size<=sizeLine/\k=((y.size:Int) !=0)
 |.ref p=>(∃xs,au K H p xs/\k= !xs.isEmpty)\/(∃xs,aH K H p xs/\k= !xs.isEmpty)\/∃kvs,H p=some (.dK kvs)/\k= !kvs.isEmpty
 |_=>False
theorem PD{κ:Type}{kvs:List (κ×V)}{vs:List (κ×Value)}(r:KV kvs vs):(!vs.isEmpty)= !kvs.isEmpty:=by
 cases r<;>rfl
theorem EC{xs:List V}{ao:List Value}(r:Vals xs ao):(!ao.toArray.isEmpty)= !xs.isEmpty:=by
 cases r<;>simp
theorem oI:(sizeLine:Nat) <2 ^ 63:=by rw[sizeLine_eq];decide
theorem ED:O9 X (fun x H Q=>∃k,EB X.K x H k/\Q k H):=by
 intro pins s σ H x v Q I rx h;obtain⟨k,e,q⟩:=h;have hl:=oI;have hs:sizeLine=16777216:=sizeLine_eq;cases x with
 |aC=>
  cases rx;have e':k=false:=e;subst e';exact truthy_none ⟨H,I,q⟩
 |bl b=>
  cases rx;have e':k=b:=e;subst e';exact wpAny_truthy_bool ⟨H,I,q⟩
 |int i=>
  obtain⟨t,rfl⟩:=rx;have e':k=(i !=0):=e;subst e';exact PySem.P.truthy_int ⟨H,I,q⟩
 |str y=>
  obtain⟨t,rfl⟩:=rx;obtain⟨hy,e'⟩:y.length<=sizeLine/\k=((y.length:Int) !=0):=e;subst e';exact PySem.P.truthy_str (by omega) ⟨H,I.tok _,q⟩
 |fN y=>
  obtain⟨t,rfl⟩:=rx;obtain⟨hy,e'⟩:y.size<=sizeLine/\k=((y.size:Int) !=0):=e;subst e';exact PySem.W.truthy_bytes (by omega) ⟨H,I.tok _,q⟩
 |ref p=>
  cases rx;have e':(∃xs,au X.K H p xs/\k= !xs.isEmpty)\/(∃xs,aH X.K H p xs/\k= !xs.isEmpty)\/∃kvs,H p=some (.dK kvs)/\k= !kvs.isEmpty:=e;rcases e' with⟨xs,hx,e'⟩|⟨xs,hx,e'⟩|⟨kvs,hx,e'⟩
  ·subst e';obtain⟨ao,r,pl,hz⟩:=I.list hx;have hlen:=r.length;exact wpAny_truthy_list pl.isList (by simp only[zae];omega) ⟨H,I.tok _,by rw[EC r];exact q⟩
  ·subst e';obtain⟨ao,r,pl,hz⟩:=I.tuple hx;have hlen:=r.length;exact truthy_tuple pl (by simp only[zae];omega) ⟨H,I.tok _,by rw[EC r];exact q⟩
  ·subst e';obtain⟨hz,hS,vs,r,m⟩:kvs.length<=sizeLine/\(p==sysModules)=false/\∃vs,KV kvs vs/\s.heap.DictOf (dB X.prog X.w) p vs:=I.aD p _ hx;have hlen:kvs.length=vs.length:=Paired.length r;exact wpAny_truthy_dict hS m (by omega) ⟨H,I.tok _,by rw[PD r];exact q⟩
 |_=>exact(show False from e).elim
theorem PF:bh X (binaryOp .Add) (fun x y H Q=>∃i j,x=.str i/\y=.str j/\i.length+j.length<=sizeLine/\Q (.str<|i++j) H):=by
 intro pins s σ H x y v u Q I rx ry h;obtain⟨i,j,rfl,rfl,hz,q⟩:=h;obtain⟨t,rfl⟩:=rx;obtain⟨t',rfl⟩:=ry;exact add_str (fun t' tk=>⟨.str<|i++j,H,I.tok _,⟨_,rfl⟩,q⟩) hz
theorem vals1{x:V}{us:List Value}(r:Vals [x] us):∃u,us=[u]/\RelV x u:=by
 cases r with
 |cons r1 r2=>cases r2;exact⟨_,rfl,r1⟩
theorem vals2{x y:V}{us:List Value}(r:Vals [x,y] us):∃u w',us=[u,w']/\RelV x u/\RelV y w':=by
 cases r with
 |cons r1 r2=>
  cases r2 with
  |cons r3 r4=>cases r4;exact⟨_,_,rfl,r1,r3⟩
theorem PH(hc:X.calm=true):dD X (.builtin "min") (fun xs H Q=>∃i j,xs=[.int i,.int j]/\Q (.int (if j<i then j else i)) H):=by
 intro pins s σ H xs us Q I r h;obtain⟨i,j,rfl,q⟩:=h;obtain⟨u,w',rfl,⟨t,rfl⟩,⟨t',rfl⟩⟩:=vals2 r;refine min_two_ints (I.ok.hd hc) fun h' tk k=>⟨_,H,I.kept k,?_,q⟩;by_cases hj:j<i
 ·rw[if_pos hj,if_pos hj];exact⟨_,rfl⟩
 ·rw[if_neg hj,if_neg hj];exact⟨_,rfl⟩
theorem PJ:dD X (.type "int") (fun xs H Q=>(∃i,xs=[.int i]/\Q (.int i) H)\/∃k,xs=[.bl k]/\Q (.int (if k then 1 else 0)) H):=by
 intro pins s σ H xs us Q I r h;rcases h with⟨i,rfl,q⟩|⟨k,rfl,q⟩
 ·obtain⟨u,rfl,t,rfl⟩:=vals1 r;exact call_int_int ⟨.int i,H,I,⟨_,rfl⟩,q⟩
 ·obtain⟨u,rfl,r1⟩:=vals1 r;cases r1;exact call_int_bool ⟨.int (if k then 1 else 0),H,I.tok _,⟨_,rfl⟩,q⟩
def EE(K:Frag)(x:V)(H:Hp)(n:Nat):Prop:=
 match x with
 |.str y=>y.length<=sizeLine/\n=y.length
 |.fN y=>y.size<=sizeLine/\n=y.size
 |.ref p=>(∃xs,au K H p xs/\n=xs.length)\/∃xs,aH K H p xs/\n=xs.length
 |_=>False
theorem PK:dD X (.builtin "len") (fun xs H Q=>∃x n,xs=[x]/\EE X.K x H n/\Q (.int n) H):=by
 intro pins s σ H xs us Q I r h;obtain⟨x,n,rfl,e,q⟩:=h;obtain⟨u,rfl,rx⟩:=vals1 r;have hl:=oI;have hs:sizeLine=16777216:=sizeLine_eq;cases x with
 |str y=>
  obtain⟨t,rfl⟩:=rx;obtain⟨hy,e'⟩:y.length<=sizeLine/\n=y.length:=e;subst e';exact len_str (by omega) ⟨.int _,H,I.tok _,⟨_,rfl⟩,q⟩
 |fN y=>
  obtain⟨t,rfl⟩:=rx;obtain⟨hy,e'⟩:y.size<=sizeLine/\n=y.size:=e;subst e';exact PySem.W.len_bytes (by omega) ⟨.int _,H,I.tok _,⟨_,rfl⟩,q⟩
 |ref p=>
  cases rx;have e':(∃xs,au X.K H p xs/\n=xs.length)\/∃xs,aH X.K H p xs/\n=xs.length:=e;rcases e' with⟨xs,hx,e'⟩|⟨xs,hx,e'⟩
  ·subst e';obtain⟨ao,r',pl,hz⟩:=I.list hx;have hlen:=r'.length;exact Calls.call_len_list pl.isList (by simp only[zae];omega) ⟨.int xs.length,H,I.tok _,⟨_,by simp only[zae];rw[hlen]⟩,q⟩
  ·subst e';obtain⟨ao,r',pl,hz⟩:=I.tuple hx;have hlen:=r'.length;exact len_tuple pl (by simp only[zae];omega) ⟨.int xs.length,H,I.tok _,⟨_,by simp only[zae];rw[hlen]⟩,q⟩
 |_=>exact(show False from e).elim
end
structure oJ (h:Heap) (x dx C:Addr) (mA:Str->Option Value):Prop where
 obj:h.get? x=some (instObj C dx)
 ns:h.Ns1 dx mA
 ne:dx≠x
theorem PL{h:Heap}{dx:Addr}{mA:Str->Option Value}(n:h.Ns1 dx mA):∃od,h.get? dx=some od/\∀name,lookIn name od=some (mA name):=by
 obtain⟨o,es,ep,ho,hd,hk,_,hm⟩:=n;refine⟨o,ho,fun name=>?_⟩;have e:=hm name;unfold nsFind findBy at e;rw[<-Array.find?_toList] at e;unfold lookIn;rw[hd]
 dsimp only
 split
 ·rename_i y q
  rw[q] at e;exact congrArg some e
 ·rename_i q
  rw[q] at e;have a:es.toList.any (·.refKey)=false:=by
   rw[List.any_eq_false];intro y hy;obtain⟨z,t,PM⟩:=hk y (Array.mem_toList_iff.mp hy)
   simp[DictEntry.refKey,PM]
  have a':¬es.toList.any (·.refKey)=true:=by rw[a];exact zas
  rw[if_neg a'];exact congrArg some e
theorem oJ.look{h:Heap}{x dx C:Addr}{mA:Str->Option Value}(I:oJ h x dx C mA):∃od,PySem.W.InstAt h x (instObj C dx) C (some od)/\∀name,lookIn name od=some (mA name):=
 let ⟨od,ho,hl⟩:=PL I.ns
 ⟨od,⟨I.obj,rfl,rfl,ho⟩,hl⟩
section
variable {prog:Program}{w:World}{A:Around}{E:Value->Shared->Prop}{s:Shared}{K:Frag}{x dx C f:Addr}{mA:Str->Option Value}{name:Str}{v:Value}
theorem get_map{expr:Bool}{Q:Value->Shared->Prop}(X:K.In s.heap)(I:oJ s.heap x dx C mA)(hg:plainGet K C name=true)(hh:hasDictIn K C=true)
  (ha:PySem.W.findIn K (.ref C) name=some none) (hv:mA name=some v) (PN:handedIn v=true) (h:Q v {s with toks:=s.toks+1}):
  wpAny (model prog w) A (getAttr (.ref x) name expr) Q E s:=by
 obtain⟨od,J,hl⟩:=I.look;exact PySem.W.get_value X J (plainGet_of hg).1 (PySem.W.findObj_own hh ha rfl (by rw[hl,hv])) PN h
theorem PQ{pl:Sem Bool}{Q:Value×List Value->Shared->Prop}(X:K.In s.heap)(I:oJ s.heap x dx C mA)(hg:plainGet K C name=true)
  (hf:PySem.W.findIn K (.ref C) name=some (some<|.ref f)) (ht:PySem.W.isFn K (.ref f)=true) (hv:mA name=none) (h:Q (.ref f,[.ref x]) s):
  wpAny (model prog w) A (getMethod (.ref x) name pl) Q E s:=by
 obtain⟨od,J,hl⟩:=I.look;exact PySem.W.method_fn X J (plainGet_of hg).1 (plainGet_of hg).2 hf (beq_iff_eq.mp ht) (by show(lookIn name od).map (·.isSome)=some false;rw[hl,hv];rfl) h
theorem PR{ns:List Str}{Q:Unit->Shared->Prop}(X:K.In s.heap)(I:oJ s.heap x dx C mA)
  (hs:PySem.W.findIn K (.ref C) "__setattr__"=some (some<|.builtin "object.__setattr__")) (hp:plainOver K C=true) (ht:takerIn K C name=some none) (hh:hasDictIn K C=true)
  (hw:PySem.Within mA ns) (hsz:ns.length<=sizeLine)
  (h:∀h',oJ h' x dx C (fun y=>if y=name then some v else mA y)->Heap.SameBut dx s.heap h'->Q () {s with heap:=h',toks:=s.toks+2}):
  wpAny (model prog w) A (setAttr (.ref x) name v) Q E s:=by
 obtain⟨od,J,hl⟩:=I.look;refine PySem.W.set_plain X J hs<|PySem.W.osa_open (s:={s with toks:=s.toks+1}) (r:=none) X J hp ht fun b=>?_
 obtain⟨cd,hc,oC⟩:=PySem.W.any_some hh;have hx:s.heap.get? x=some ⟨.ref C,some dx,.plain,#[]⟩:=I.obj;refine wpAny_bind<|wpAny_pure<|wpAny_bind<|wpAny_bind<|wpAny_loadPart hx<|wpAny_bind<|PySem.W.Looks.here (s:={s with toks:=s.toks+1}) (PySem.W.looks_clsIn X hc) ?_
 rw[oC];refine wpAny_pure (a:=some dx)<|wpAny_bind<|wpAny_pure<|wpAny_bind ?_;refine wpAny_nsSet1 (s:={s with toks:=s.toks+1}) I.ns fun h' i9 oK=>?_
 obtain⟨oD,esD,epD,PU,PV,PX⟩:=i9.count (PySem.Within.cons name v hw);refine wpAny_bind<|wpAny_lookBehind PU (by rw[PV];exact pastItsLine_dict (zat PX (by rw[zak];omega))) ?_
 exact wpAny_pure<|h _ ⟨(oK.2 _<|Ne.symm I.ne).trans I.obj,i9,I.ne⟩ oK
theorem PY{R:Result->Shared->Prop}{vs:List Value}{kw:List (Str×Value)}(X:K.In s.heap)(hm:makesIn K C=true)
  (hi:PySem.W.findIn K (.ref C) "__init__"=some (some<|.ref f)) (hf:PySem.W.typeIn K (.ref f)=some (.type "function"))
  (h:codeAny (model prog w) (A.under (.builtin "type.__call__" ⟨.ref C::vs,kw⟩)) (.call (.ref f) ⟨.ref (s.heap.objs.size+1)::vs,kw⟩) (PySem.W.InitBack (s.heap.objs.size+1) R)
   {s with heap:=(s.heap.push emptyDict).push (instObj C s.heap.objs.size)}):
  codeAny (model prog w) A (.call (.ref C) ⟨vs,kw⟩) R s:=by
 obtain⟨hh,g,d,t,os⟩:=s;exact PySem.W.make_core (PySem.W.makes_of X hm) (PySem.W.looks_findIn X hi) (fun self=>PySem.W.bind_fn X self hf) (.inl rfl) h
end
def bN(f:Str)(v:V):List (Str×V)->List (Str×V)
 |[]=>[(f,v)]
 |(g,x)::r=>if g=f then (g,v)::r else (g,x)::bN f v r
theorem EF(f g:Str)(v:V):∀fs:List (Str×V),(bN f v fs).lookup g=if g=f then some v else fs.lookup g
 |[]=>by
  show List.lookup g [(f,v)]=_;by_cases h:g=f
  ·have hb:(g==f)=true:=beq_iff_eq.mpr h
   simp only[List.lookup,hb,if_pos h]
  ·have hb:(g==f)=false:=beq_eq_false_iff_ne.mpr h
   simp only[List.lookup,hb,if_neg h]
 |(k,x)::r=>by
  have ih:=EF f g v r;rw[show bN f v ((k,x)::r)=(if k=f then (k,v)::r else (k,x)::bN f v r) from rfl]
  by_cases hk:k=f
  ·rw[if_pos hk];by_cases h:g=k
   ·have hb:(g==k)=true:=beq_iff_eq.mpr h
    simp only[List.lookup,hb,if_pos<|h.trans hk]
   ·have hb:(g==k)=false:=beq_eq_false_iff_ne.mpr h
    simp only[List.lookup,hb,if_neg (fun e:g=f=>h (e.trans hk.symm))]
  ·rw[if_neg hk];by_cases h:g=k
   ·have hb:(g==k)=true:=beq_iff_eq.mpr h
    simp only[List.lookup,hb,if_neg (fun e:g=f=>hk (h.symm.trans e))]
   ·have hb:(g==k)=false:=beq_eq_false_iff_ne.mpr h
    simp only[List.lookup,hb]
    exact ih
theorem zh(f:Str)(v:V):∀fs:List (Str×V),f∈ (bN f v fs).map (·.1)/\∀g,g∈fs.map (·.1)->g∈ (bN f v fs).map (·.1)
 |[]=>⟨by simp[bN],fun g h=>by simp at h⟩
 |(k,x)::r=>by
  obtain⟨i1,i2⟩:=zh f v r;rw[show bN f v ((k,x)::r)=(if k=f then (k,v)::r else (k,x)::bN f v r) from rfl]
  by_cases hk:k=f
  ·rw[if_pos hk];subst hk;exact⟨by simp,fun g h=>by simpa using h⟩
  ·rw[if_neg hk];refine⟨?_,fun g h=>?_⟩
   ·rw[zar];exact zay _ i1
   ·rw[zar] at h⊢;rcases zaa.mp h with e|e
    ·exact zaa.mpr (.inl e)
    ·exact zay _ (i2 g e)
theorem EG(f:Str)(v:V):∀fs:List (Str×V),(bN f v fs).length<=fs.length+1
 |[]=>by simp[bN]
 |(k,x)::r=>by
  have ih:=EG f v r;rw[show bN f v ((k,x)::r)=(if k=f then (k,v)::r else (k,x)::bN f v r) from rfl]
  by_cases hk:k=f
  ·rw[if_pos hk,zak,zak];omega
  ·rw[if_neg hk,zak,zak];omega
theorem gm.some_of{v:V}{o:Option Value}(r:gm (some v) o):∃u,o=some u/\RelV v u:=by
 cases o with
 |none=>exact(show False from r).elim
 |some u=>exact⟨u,rfl,r⟩
theorem gm.none_of{o:Option Value}(r:gm none o):o=none:=by
 cases o with
 |none=>rfl
 |some u=>exact(show False from r).elim
theorem PZ{v:V}{u:Value}(r:RelV v u):handedIn u=true:=by
 cases v with
 |aC=>cases (show u=Value.none from r);rfl
 |bl b=>cases (show u=Value.bool b from r);rfl
 |int i=>obtain⟨t,e⟩:=(show ∃t,u=Value.int i t from r);cases e;rfl
 |str x=>obtain⟨t,e⟩:=(show ∃t,u=Value.str x t from r);cases e;rfl
 |fN b=>obtain⟨t,e⟩:=(show ∃t,u=Value.bytes b t from r);cases e;rfl
 |mT b=>obtain⟨t,e⟩:=(show ∃t,u=Value.float b t from r);cases e;rfl
 |ref a=>cases (show u=Value.ref a from r);rfl
 |ty n=>cases (show u=Value.type n from r);rfl
section
variable {P:Program}{w:World}{H H':Hp}{h h':Heap}{a C dx:Addr}{fs gp:List (Str×V)}
theorem vA(aD:cf P w H h)(e:H a=some (.ins C dx fs)):∃mA,oJ h a dx C mA/\(∀f,gm (fs.lookup f)<|mA f)/\PySem.Within mA (fs.map (·.1))/\fs.length<=1000/\H dx=some (.own a):=by
 obtain⟨d,z,ne,ob,mA,n,r,q⟩:=(show cq P w H h a (.ins C dx fs) from aD a _ e)
 exact⟨mA,⟨ob,n,ne⟩,r,q,z,d⟩
end
structure fh (K:Frag) (C:Addr):Prop where
 pg:plainGet K C Str.empty=true
 hd:hasDictIn K C=true
 po:plainOver K C=true
 sa:PySem.W.findIn K (.ref C) "__setattr__"=some (some<|.builtin "object.__setattr__")
theorem fh.get{K:Frag}{C:Addr}(c:fh K C)(f:Str):plainGet K C f=true:=c.pg
def eW(K:Frag)(C:Addr)(f:Str):Prop:=PySem.W.findIn K (.ref C) f=some none
theorem eW.P0{K:Frag}{C:Addr}{f:Str}(n:eW K C f):takerIn K C f=some none:=by
 unfold takerIn;rw[show PySem.W.findIn K (.ref C) f=some none from n]
 rfl
structure Meth (K:Frag) (C:Addr) (m:Str) (f:Addr):Prop where
 at_:PySem.W.findIn K (.ref C) m=some (some<|.ref f)
 fn:PySem.W.isFn K (.ref f)=true
 kp:PySem.W.keepIn K (.ref f)=true
section
variable {X:Cx}{pins:List (Addr×Obj)}{σ:St}{H:Hp}{s:Shared}{a C dx:Addr}{fs:List (Str×V)}{f:Str}{v:V}{A:Around}{E:Value->Shared->Prop}
theorem P1{b:Bool}{Q:Value->Shared->Prop}(I:Inv X pins σ H s)(e:H a=some (.ins C dx fs))(c:fh X.K C)(n:eW X.K C f)(l:fs.lookup f=some v)
  (h:∀u s',Inv X pins σ H s'->RelV v u->Q u s'):wpAny (model X.prog X.w) A (getAttr (.ref a) f b) Q E s:=by
 obtain⟨mA,O,r,_,_,_⟩:=vA I.aD e;obtain⟨u,hu,ru⟩:=gm.some_of (v:=v) (o:=mA f) (by rw[<-l];exact r f)
 exact get_map I.dg O (c.get f) c.hd n hu (PZ ru)<|h u _ (I.tok _) ru
theorem EH{m:Str}{g:Addr}{pl:Sem Bool}{Q:Value×List Value->Shared->Prop}(I:Inv X pins σ H s)(e:H a=some (.ins C dx fs))(c:fh X.K C)(k:Meth X.K C m g)(l:fs.lookup m=none)
  (h:Q (.ref g,[.ref a]) s):wpAny (model X.prog X.w) A (getMethod (.ref a) m pl) Q E s:=by
 obtain⟨mA,O,r,_,_,_⟩:=vA I.aD e;have hn:mA m=none:=gm.none_of (by rw[<-l];exact r m)
 exact PQ I.dg O (c.get m) k.at_ k.fn hn h
theorem P2{y:V}{u:Value}{Q:Unit->Shared->Prop}(I:Inv X pins σ H s)(e:H a=some (.ins C dx fs))(c:fh X.K C)(n:eW X.K C f)(hl:fs.length<1000)(ry:RelV y u)
  (h:∀s',Inv X pins σ (upd H a<|.ins C dx<|bN f y fs) s'->Q () s'):wpAny (model X.prog X.w) A (setAttr (.ref a) f u) Q E s:=by
 obtain⟨mA,O,r,wi,_,ho⟩:=vA I.aD e;have hz:(fs.map (·.1)).length<=sizeLine:=by rw[zad,sizeLine_eq];omega
 refine PR I.dg O c.sa c.po n.P0 c.hd wi hz fun h' O' sb=>h _ ?_;have hd:∃o,h'.get? dx=some o:=let ⟨o,_,_,e',_⟩:=O'.ns;⟨o,e'⟩;refine I.write (x:=a) (e:=dx) (by rw[e];exact True.intro) (.inr ho) (fun b q hb z=>(sb.2 b hb).trans z) hd ?_
 refine⟨by rw[aF O.ne];exact ho,?_,O.ne,O'.obj,_,O'.ns,fun g=>?_,fun g hg=>?_⟩
 ·have:=EG f y fs;omega
 ·show gm ((bN f y fs).lookup g) (if g=f then some u else mA g)
  rw[EF];by_cases q:g=f
  ·rw[if_pos q,if_pos q];exact ry
  ·rw[if_neg q,if_neg q];exact r g
 ·by_cases q:g=f
  ·rw[q];exact(zh f y fs).1
  ·refine(zh f y fs).2 g (wi g fun z=>hg ?_);show(if g=f then some u else mA g)=none
   rw[if_neg q];exact z
theorem Inv.made(I:Inv X pins σ H s):Inv X pins σ (upd (upd H s.heap.objs.size<|.own<|s.heap.objs.size+1) (s.heap.objs.size+1)<|.ins C s.heap.objs.size [])
  {s with heap:=(s.heap.push emptyDict).push (instObj C s.heap.objs.size)}:=by
 have e1:(s.heap.push emptyDict).get? s.heap.objs.size=some emptyDict:=Heap.get?_push_size s.heap rfl;have e2:((s.heap.push emptyDict).push<|instObj C s.heap.objs.size).get? (s.heap.objs.size+1)=some (instObj C s.heap.objs.size):=by
  have:=Heap.get?_push_size (s.heap.push emptyDict) (o:=instObj C s.heap.objs.size) rfl
  rwa [Heap.size_push] at this
 have e3:(s.heap.push emptyDict).Ns s.heap.objs.size (fun _=>none):=⟨emptyDict,#[],_,e1,rfl,(fun e he=>absurd he (by simp)),fun _=>rfl⟩
 have I1:=I.laid (a:=s.heap.objs.size) (o:=.own (s.heap.objs.size+1)) (h':=s.heap.push emptyDict) (t':=s.toks) (fun b u q=>Heap.get?_push_of_some _ q) (zqR _) ⟨_,e1⟩;refine I1.laid (a:=s.heap.objs.size+1) (o:=.ins C s.heap.objs.size []) (t':=s.toks) (fun b u q=>Heap.get?_push_of_some _ q) (Nat.le_of_eq<|Heap.size_push _ _) ?_;have ne:s.heap.objs.size≠s.heap.objs.size+1:=zaq (zbj _);refine⟨by rw[aF ne,aw],zqZ _,ne,e2,fun _=>none,(Heap.Ns1.of_empty e3).at fun o q=>Heap.get?_push_of_some _ q,fun _=>True.intro,fun y hy=>absurd rfl hy⟩
theorem P4{prog:Program}{w:World}{env:Env}{e:Expr}{f:Str}{pos:Pos}{s:Shared}{Q:Value->Shared->Prop}(hb:attributeBase e f env (eval e env)=eval e env)
  (h:wpAny (model prog w) A (eval e env) (fun o s₁=>wpAny (model prog w) A (getAttr o f true) Q E s₁) E s):wpAny (model prog w) A (eval (.Attribute e f pos) env) Q E s:=
 Attribute_any_ h (by rw[arm_eval_Attribute,hb])
end
def vB(K:Frag)(ta:TE)(f:Str):TE:=fun σ H Q=>ta σ H fun x H1=>∃a C dx fs v,x=.ref a/\H1 a=some (.ins C dx fs)/\fh K C/\eW K C f/\fs.lookup f=some v/\Q v H1
def vC(K:Frag)(ta tv:TE)(f:Str):TS:=fun D σ H=>tv σ H fun y H1=>ta σ H1 fun x H2=>∃a C dx fs,x=.ref a/\H2 a=some (.ins C dx fs)/\fh K C/\eW K C f/\fs.length<1000/\
 D.nx σ (upd H2 a<|.ins C dx<|bN f y fs)
section
variable {X:Cx}{o e value:Expr}{f:Str}{pos pos' zj:Pos}{ta tv:TE}
theorem P5(he:PE X e ta)(hb:attributeBase e f X.env (eval e X.env)=eval e X.env):PE X (.Attribute e f pos) (vB X.K ta f):=by
 intro pins s σ H Q I h;refine P4 hb<|aG (he pins s σ H _ I h) fun u s1 ⟨x,H1,I1,rx,a,C,dx,fs,v,ex,ea,c,n,l,q⟩=>?_;subst ex;obtain rfl:u=Value.ref a:=rx;exact P1 I1 ea c n l fun u' s2 I2 ru=>⟨v,H1,I2,ru,q⟩
theorem EI(ha:PE X o ta)(hv:PE X value tv)(hs:swapsWith value (some<|.Attribute o f pos') pos.line X.env=pure false):PS X (.Assign [.Attribute o f pos'] value pos) (vC X.K ta tv f):=by
 intro pins s σ H D I h;refine plainObj_wpAny_Assign_Attribute (aG (hv pins s σ H _ I h) fun u s1 ⟨y,H1,I1,ry,q⟩=>aG (ha pins s1 σ H1 _ I1 q) fun ov s2 ⟨x,H2,I2,rx,a,C,dx,fs,ex,ea,c,n,l,q2⟩=>?_) hs;subst ex;obtain rfl:ov=Value.ref a:=rx;exact P2 I2 ea c n l ry fun s3 I3=>⟨σ,_,I3,q2⟩
end
section
variable {X:Cx}{pins:List (Addr×Obj)}{σ:St}{H:Hp}{s:Shared}{A:Around}{E:Value->Shared->Prop}{Q:Value->Shared->Prop}{c:Value}{b:Bool}
inductive i_ (K:Frag) (H:Hp):V->Value->Prop where
 |aC:i_ K H .aC (.type "NoneType")
 |bl (x:Bool):i_ K H (.bl x) (.type "bool")
 |int (i:Int):i_ K H (.int i) (.type "int")
 |str (x:Str):i_ K H (.str x) (.type "str")
 |mT (x:UInt64):i_ K H (.mT x) (.type "float")
 |lst {a:Addr}{xs:List V} (e:H a=some (.lst xs)):i_ K H (.ref a) (.type "list")
 |bV {a:Addr}{o:Obj}{xs:List V} (e:H a=some (.bV o<|.lst xs)):i_ K H (.ref a) (.type "list")
 |tup {a:Addr}{xs:List V} (e:H a=some (.tup xs)):i_ K H (.ref a) (.type "tuple")
 |dK {a:Addr}{kvs:List (Key×V)} (e:H a=some (.dK kvs)):i_ K H (.ref a) (.type "dict")
 |dT {a:Addr}{kvs:List (List Key×V)} (e:H a=some (.dT kvs)):i_ K H (.ref a) (.type "dict")
 |ins {a C dx:Addr}{fs:List (Str×V)} (e:H a=some (.ins C dx fs)) (cl:fh K C) (ha:PySem.W.findIn K (.ref C) "__class__"=some (some<|.builtin "object.__class__"))
   (hn:specialIn K (.builtin "object.__class__") "__get__"=some (some<|.builtin "getset_descriptor.__get__")) (zk:takesIn K (.builtin "object.__class__")=some true)
   (hm:mroIn K C (.type "object")=some true):i_ K H (.ref a) (.ref C)
theorem lR{x:V}{u t:Value}(I:Inv X pins σ H s)(rx:RelV x u)(ty:i_ X.K H x t)(e:kitOne X.K t c=some b)(h:∀tk,Q (.bool b) {s with toks:=tk}):
  wpAny (model X.prog X.w) A (call (.builtin "isinstance") [u,c]) Q E s:=by
 cases ty with
 |aC=>cases (show u=Value.none from rx);exact kia_one PySem.W.kitx_none I.dg True.intro e (fun z=>nomatch z) h
 |bl y=>cases (show u=Value.bool y from rx);exact kia_one PySem.W.kitx_bool I.dg True.intro e (fun z=>nomatch z) h
 |int i=>obtain⟨t,q⟩:=(show ∃t,u=Value.int i t from rx);cases q;exact kia_one PySem.W.kitx_int I.dg True.intro e (fun z=>nomatch z) h
 |str y=>obtain⟨t,q⟩:=(show ∃t,u=Value.str y t from rx);cases q;exact kia_one PySem.W.kitx_str I.dg True.intro e (fun z=>nomatch z) h
 |mT y=>obtain⟨t,q⟩:=(show ∃t,u=Value.float y t from rx);cases q;exact kia_one PySem.W.kitx_float I.dg True.intro e (fun z=>nomatch z) h
 | @lst a xs ea=>
  cases (show u=Value.ref a from rx)
  obtain⟨_,_,n,_,h1⟩:=(show cq X.prog X.w H s.heap a (.lst xs) from I.aD a _ ea)
  exact kia_one kitx_list I.dg ⟨_,h1,rfl⟩ e (fun z=>nomatch z) h
 | @bV a ob xs ea=>
  cases (show u=Value.ref a from rx)
  obtain⟨_,_,_,n,_,h1⟩:=(show cq X.prog X.w H s.heap a (.bV ob<|.lst xs) from I.aD a _ ea)
  exact kia_one kitx_list I.dg ⟨_,h1,rfl⟩ e (fun z=>nomatch z) h
 | @tup a xs ea=>
  cases (show u=Value.ref a from rx)
  obtain⟨_,_,_,p⟩:=(show cq X.prog X.w H s.heap a (.tup xs) from I.aD a _ ea)
  obtain⟨o,h1,h2,_⟩:=p;exact kia_one PySem.W.kitx_tuple I.dg ⟨o,h1,h2⟩ e (fun z=>nomatch z) h
 | @dK a kvs ea=>
  cases (show u=Value.ref a from rx)
  obtain⟨_,_,vs,_,p⟩:=(show cq X.prog X.w H s.heap a (.dK kvs) from I.aD a _ ea)
  obtain⟨o,es,ep,h1,h2,_⟩:=p;exact kia_one kitx_dict I.dg ⟨o,h1,h2.1⟩ e (fun z=>nomatch z) h
 | @dT a kvs ea=>
  cases (show u=Value.ref a from rx)
  obtain⟨_,_,xs,_,o,es,ep,h1,h2,_⟩:=(show cq X.prog X.w H s.heap a (.dT kvs) from I.aD a _ ea)
  exact kia_one kitx_dict I.dg ⟨o,h1,h2.1⟩ e (fun z=>nomatch z) h
 | @ins a C dx fs ea cl ha hn zk hm=>
  cases (show u=Value.ref a from rx)
  obtain⟨mA,O,_⟩:=vA I.aD ea;obtain⟨od,J,_⟩:=O.look;exact kia_one (PySem.W.kitx_own (cl.get _) cl.hd ha hn zk hm) I.dg J e (fun z=>nomatch z) h
end
structure dh (k:Nat) (A:Around):Prop where
 hd:A.handled=none
 dp:A.depth+3*k+5<recursionLimit
 un:A.units+16*k+200<cLine
theorem dh.mono{j k:Nat}{A:Around}(r:dh k A)(h:j<=k):dh j A:=⟨r.hd,by have:=r.dp;omega,by have:=r.un;omega⟩
theorem dh.deeper{k:Nat}{A:Around}(r:dh (k+1) A)(env:Env):dh k (A.deeper env):=
 ⟨r.hd,by have:=r.dp;show A.depth+1+3*k+5<_;omega,by have:=r.un;show A.units+3+16*k+200<_;omega⟩
theorem P6{A:Around}{C:Addr}{us:List Value}{kw:List (Str×Value)}:(A.under<|.builtin "type.__call__" ⟨.ref C::us,kw⟩).depth=A.depth+1:=by
 first|rfl|simp[Around.under,Code.weight,Code.isCreation,Code.isGuard,Code.isCaller,Code.frames,Code.isFrame,guardIds]
theorem P7{A:Around}{C:Addr}{us:List Value}{kw:List (Str×Value)}:(A.under<|.builtin "type.__call__" ⟨.ref C::us,kw⟩).units=A.units+1:=by
 first|rfl|simp[Around.under,Code.cUnits,Code.frames,Code.isFrame]
theorem dh.make{k:Nat}{A:Around}(r:dh (k+1) A)(C:Addr)(us:List Value)(kw:List (Str×Value)):dh k (A.under<|.builtin "type.__call__" ⟨.ref C::us,kw⟩):=
 ⟨r.hd,by have:=r.dp;rw[P6];omega,by have:=r.un;rw[P7];omega⟩
theorem dh.depth{k:Nat}{A:Around}(r:dh k A):A.depth<recursionLimit:=by have:=r.dp;omega
theorem dh.units{k:Nat}{A:Around}(r:dh k A):A.units+64<cLine:=by have:=r.un;omega
def ja:TA:=fun _ H Q=>Q [] H
def dP(ta:TE)(tr:TA):TA:=fun σ H Q=>ta σ H fun x H1=>tr σ H1 fun xs H2=>Q (x::xs) H2
section
variable {X:Cx}{e:Expr}{es:List Expr}{te:TE}{t:TA}{pos:Pos}
theorem vD:PA X [] ja:=fun _ _ _ _ H Q I h=>Calls.spliced_nil ⟨[],H,I,.nil,h⟩
theorem qL(ha:PE X e te)(hr:PA X es t)(hs:starEach (e::es) X.env=(false,eval e X.env)::starEach es X.env:=by rfl):PA X (e::es) (dP te t):=by
 intro pos pins s σ H Q I h;rw[hs];show wpAny _ _ (spliced ((false,eval e X.env)::backTo pos (starEach es X.env))) _ _ s;refine Calls.spliced_cons<|aG (ha pins s σ H _ I h) fun u s1 ⟨x,H1,I1,r1,q1⟩=>?_;exact aG (hr pos pins s1 σ H1 _ I1 q1) fun us s2 ⟨xs,H2,I2,r2,q2⟩=>⟨x::xs,H2,I2,.cons r1 r2,q2⟩
def EK(t:TA):TE:=fun σ H Q=>t σ H fun xs H1=>xs.length<=sizeLine/\∀p,H1 p=none->Q (.ref p) (upd H1 p<|.tup xs)
def EL(t:TA):TE:=fun σ H Q=>t σ H fun xs H1=>xs.length<=sizeLine/\∀p,H1 p=none->Q (.ref p) (upd H1 p<|.lst xs)
theorem P8{x1}(h:PA X es t):PE X (.Tuple es x1 pos) (EK t):=by
 intro pins s σ H Q I hq;refine wpAny_Tuple_spliced<|aG (h pos pins s σ H _ I hq) fun us s1 ⟨xs,H1,I1,r,z,q⟩=>⟨by rw[<-r.length];exact z,?_⟩
 have hf:H1 s1.heap.objs.size=none:=I1.aD.fresh (zqR _);refine⟨.ref s1.heap.objs.size,upd H1 s1.heap.objs.size<|.tup xs,I1.laid (t':=s1.toks) (fun b u e=>Heap.get?_push_of_some _ e) (zqR _) ?_,rfl,q _ hf⟩;exact⟨z,us,r,⟨_,Heap.get?_push_size _ rfl,rfl,_,rfl⟩⟩
theorem P9(h:PA X es t):PE X (.List es pos) (EL t):=by
 intro pins s σ H Q I hq;refine wpAny_List_spliced<|aG (h pos pins s σ H _ I hq) fun us s1 ⟨xs,H1,I1,r,z,q⟩=>⟨by rw[<-r.length];exact z,?_⟩
 have hf:H1 s1.heap.objs.size=none:=I1.aD.fresh (zqR _);refine⟨.ref s1.heap.objs.size,upd H1 s1.heap.objs.size<|.lst xs,I1.laid (t':=s1.toks) (fun b u e=>Heap.get?_push_of_some _ e) (zqR _) ?_,rfl,q _ hf⟩;exact⟨z,us,0,r,Heap.get?_push_size _ rfl⟩
end
abbrev Sp:=List V->Hp->VK->XK->Prop
abbrev bZ:=List Env->Hp->Shared->XK->Value->Shared->Prop
structure mV (P:Program) (w:World) (K:Frag) (mg:Str->Option Value) (base:Heap) (A:Around) (outer:List Env) (s:Shared) (H:Hp):Prop where
 frames:A.frames=some outer
 mod:Mod K mg base
 bs:∀b o,base.get? b=some o->s.heap.get? b=some o/\H b=none
 qF:base.objs.size<=s.heap.objs.size
 ko:s.heap.FunFrames base outer
 sJ:∀b∈cw outer,H b=none
 aD:cf P w H s.heap
 bare:AllBare s.gens
def CE(outer:List Env)(P:Program)(w:World)(H:Hp)(s:Shared)(Q:VK)(u:Value)(s':Shared):Prop:=
 ∃v H',s'.os=s.os/\AllBare s'.gens/\Un (cw outer) [] H H' s.heap s'.heap/\cf P w H' s'.heap/\RelV v u/\Q v H'
def CR(CX:bZ)(outer:List Env)(P:Program)(w:World)(H:Hp)(s:Shared)(Q:VK)(E:XK)(r:Result)(s':Shared):Prop:=
 match r with
 |.ok (.ret u)=>CE outer P w H s Q u s'
 |.ok _=>False
 |.error e=>CX outer H s E e s'
structure cE (P:Program) (w:World) (K:Frag) (mg:Str->Option Value) (base:Heap) (CX:bZ) (k:Nat) (f:Addr) (fd:FuncData) (ps:List Str) (sp:Sp):Prop where
 len:∀vs H Q E,sp vs H Q E->vs.length=ps.length
 run:∀(A:Around) (outer:List Env) (s:Shared) (H:Hp) (args:Args) (us:List Value) (vs:List V) (Q:VK) (E:XK),dh k A->mV P w K mg base A outer s H->BindsTo s fd args (ps.zip us)->Vals vs us->sp vs H Q E->
  codeAny (model P w) A (.call (.ref f) args) (CR CX outer P w H s Q E) s
theorem cE.mono{P:Program}{w:World}{K:Frag}{mg:Str->Option Value}{base:Heap}{CX:bZ}{j k:Nat}{f:Addr}{fd:FuncData}{ps:List Str}{sp:Sp}(F:cE P w K mg base CX j f fd ps sp)(h:j<=k):
  cE P w K mg base CX k f fd ps sp:=⟨F.len,fun A outer s H args us vs Q E hr=>F.run A outer s H args us vs Q E<|hr.mono h⟩
theorem mV.make{P:Program}{w:World}{K:Frag}{mg:Str->Option Value}{base:Heap}{A:Around}{outer:List Env}{s:Shared}{H:Hp}(e:mV P w K mg base A outer s H)(C:Addr)(us:List Value)(kw:List (Str×Value)):
  mV P w K mg base (A.under<|.builtin "type.__call__" ⟨.ref C::us,kw⟩) outer s H:=⟨by first|exact e.frames|(simpa[Around.under,Code.envs,Code.isFrame,pushEnvs] using e.frames),e.mod,e.bs,e.qF,e.ko,e.sJ,e.aD,e.bare⟩
section
variable {X:Cx}{pins:List (Addr×Obj)}{σ:St}{H:Hp}{s s':Shared}
theorem Inv.EM(I:Inv X pins σ H s):mV X.prog X.w X.K X.mg X.base X.A X.stack s H:=
 ⟨I.ok.frames,I.ok.mod,I.bs,zat I.ok.qF I.sz,I.stack,I.vj,I.aD,I.bare⟩
theorem Inv.after{Q:VK}{u:Value}(I:Inv X pins σ H s)(h:CE X.stack X.prog X.w H s Q u s'):EP X pins σ Q u s':=by
 obtain⟨v,H',os,bare,un,aD,r,q⟩:=h;obtain⟨hh,g,d,t,vE⟩:=s';obtain rfl:vE=s.os:=os;exact⟨v,H',I.call (h':=hh) (g':=g) (d':=d) (t':=t) (ch:=[]) un aD bare<|fun b z=>absurd z (by simp),r,q⟩
end
def zl(sp:Sp)(fQ:List V)(E:XK)(t:TA):TE:=fun σ H Q=>t σ H fun vs H1=>sp (vs++fQ) H1 Q E
def oM(C:Addr)(m:Str)(sp:Sp)(fQ:List V)(E:XK)(ta:TE)(t:TA):TE:=fun σ H Q=>ta σ H fun x H1=>∃a dx fs,x=.ref a/\H1 a=some (.ins C dx fs)/\fs.lookup m=none/\
 t σ H1 fun vs H2=>sp (x::(vs++fQ)) H2 Q E
def zm(C:Addr)(sp:Sp)(fQ:List V)(E:XK)(t:TA):TE:=fun σ H Q=>t σ H fun vs H1=>∀x dx,H1 x=none->H1 dx=none->dx≠x->
 sp (.ref x::(vs++fQ)) (upd (upd H1 dx<|.own x) x<|.ins C dx []) (fun v H2=>v=.aC/\Q (.ref x) H2) E
def Binds(K:Frag)(fd:FuncData)(ps:List Str)(ds:List Value):Prop:=
 ∀(s:Shared) (us:List Value),K.In s.heap->(us++ds).length=ps.length->BindsTo s fd ⟨us,[]⟩ (ps.zip<|us++ds)
theorem Binds.all{K:Frag}{fd:FuncData}{ps:List Str}(h:∀us:List Value,us.length=ps.length->bindArgs fd ⟨us,[]⟩=pure (ps.zip us)):Binds K fd ps []:=fun s us _ hl=>by
 rw[zab] at hl⊢;exact .of_eq<|h us hl
def Passes(CX:bZ)(X:Cx)(E:XK):Prop:= ∀(pins:List (Addr×Obj)) (σ:St) (H:Hp) (s:Shared) (e:Value) (s':Shared),Inv X pins σ H s->CX X.stack H s E e s'->X.xe e s'
section
variable {X:Cx}{CX:bZ}{k:Nat}{f C:Addr}{fd:FuncData}{ps:List Str}{sp:Sp}{fQ:List V}{ds:List Value}{E:XK}{x m:Str}{p pos apos:Pos}{e o:Expr}{es:List Expr}{ta:TE}{t:TA}
theorem zo{pins:List (Addr×Obj)}{σ:St}{H:Hp}{s:Shared}{Q:VK}{us:List Value}{vs:List V}(F:cE X.prog X.w X.K X.mg X.base CX k f fd ps sp)(hr:dh k X.A)(hb:Binds X.K fd ps ds)(hd:Vals fQ ds)(hx:Passes CX X E)
  (I:Inv X pins σ H s) (r:Vals vs us) (h:sp (vs++fQ) H Q E):wpAny (model X.prog X.w) X.A (call (.ref f) us) (EP X pins σ Q) X.xe s:=by
 have r2:Vals (vs++fQ) (us++ds):=r.append hd;have hl:(us++ds).length=ps.length:=by rw[<-r2.length];exact F.len _ _ _ _ h
 refine wpAny_call<|codeAny_mono (F.run X.A X.stack s H ⟨us,[]⟩ (us++ds) (vs++fQ) Q E hr I.EM (hb s us I.dg hl) r2 h) fun r s' hq=>?_;cases r with
 |error e=>exact hx pins σ H s e s' I hq
 |ok fl=>
  cases fl with
  |ret u=>exact I.after hq
  |next=>exact False.elim hq
  |brk=>exact False.elim hq
  |cont=>exact False.elim hq
theorem P_(F:cE X.prog X.w X.K X.mg X.base CX k f fd ps sp)(hr:dh k X.A)(hg:Gl X x)(hm:X.mg x=some (.ref f))(hk:PySem.W.keepIn X.K (.ref f)=true)(hb:Binds X.K fd ps ds)(hd:Vals fQ ds)(hx:Passes CX X E)
  (ha:PA X (e::es) t) (oN:(x==("__debug__":Str))=false:=by decide) (he:starEach (e::es) X.env=(false,eval e X.env)::starEach es X.env:=by rfl) (jb:(backTo pos<|starEach es X.env).any (·.1)=false:=by rfl):
  PE X (.Call (.Name x p) (e::es) [] pos) (zl sp fQ E t):=by
 intro pins s σ H Q I h;refine wpAny_Call_Name_kw<|y6 I hg hm ?_ oN;refine callWith_K (h₀:=X.base) I.ok.mod.sG hk (aG (ha pos pins s σ H _ I h) fun us s1 ⟨vs,H1,I1,r,q⟩=>⟨I1.dg,?_⟩) he jb;exact zo F hr hb hd hx I1 r q
structure Mk (K:Frag) (C f:Addr):Prop where
 makes:makesIn K C=true
 init:PySem.W.findIn K (.ref C) "__init__"=some (some<|.ref f)
 fn:PySem.W.isFn K (.ref f)=true
 kp:PySem.W.keepIn K (.ref C)=true
theorem Qa{pins:List (Addr×Obj)}{σ:St}{H:Hp}{s:Shared}{Q:VK}{us:List Value}{vs:List V}(M:Mk X.K C f)(F:cE X.prog X.w X.K X.mg X.base CX k f fd ps sp)(hr:dh (k+1) X.A)(hb:Binds X.K fd ps ds)(hd:Vals fQ ds)
  (hx:Passes CX X E) (I:Inv X pins σ H s) (r:Vals vs us)
  (h:∀x dx,H x=none->H dx=none->dx≠x->sp (.ref x::(vs++fQ)) (upd (upd H dx<|.own x) x<|.ins C dx []) (fun v H2=>v=.aC/\Q (.ref x) H2) E):
  wpAny (model X.prog X.w) X.A (call (.ref C) us) (EP X pins σ Q) X.xe s:=by
 have hq:=h (s.heap.objs.size+1) s.heap.objs.size (I.aD.fresh<|zaT _) (I.aD.fresh<|zqR _) (zaq<|zbj _);have I2:=Inv.made (C:=C) I;have r2:Vals (V.ref (s.heap.objs.size+1)::(vs++fQ)) (Value.ref (s.heap.objs.size+1)::(us++ds)):=.cons rfl (r.append hd);have hl:(Value.ref (s.heap.objs.size+1)::us++ds).length=ps.length:=by
  have e:=r2.length;rw[F.len _ _ _ _ hq] at e;exact e.symm
 refine wpAny_call (PY (f:=f) I.dg M.makes M.init (beq_iff_eq.mp M.fn) (codeAny_mono (F.run _ X.stack _ _ ⟨Value.ref (s.heap.objs.size+1)::us,[]⟩ (Value.ref (s.heap.objs.size+1)::(us++ds)) _ _ E (hr.make C us [])
  (I2.EM.make C us []) (hb _ (Value.ref (s.heap.objs.size+1)::us) I2.dg hl) r2 hq) fun r s' jD=>?_))
 cases r with
 |error e=>exact hx pins σ _ _ e s' I2 jD
 |ok fl=>
  cases fl with
  |ret u=>
   obtain⟨v,H',I3,rv,ev,q3⟩:=I2.after jD;subst ev;exact⟨rv,⟨V.ref<|s.heap.objs.size+1,H',I3,rfl,q3⟩⟩
  |next=>exact False.elim jD
  |brk=>exact False.elim jD
  |cont=>exact False.elim jD
theorem Qc(M:Mk X.K C f)(F:cE X.prog X.w X.K X.mg X.base CX k f fd ps sp)(hr:dh (k+1) X.A)(hg:Gl X x)(hm:X.mg x=some (.ref C))(hb:Binds X.K fd ps ds)(hd:Vals fQ ds)(hx:Passes CX X E)
  (ha:PA X (e::es) t) (oN:(x==("__debug__":Str))=false:=by decide) (he:starEach (e::es) X.env=(false,eval e X.env)::starEach es X.env:=by rfl) (jb:(backTo pos<|starEach es X.env).any (·.1)=false:=by rfl):
  PE X (.Call (.Name x p) (e::es) [] pos) (zm C sp fQ E t):=by
 intro pins s σ H Q I h;refine wpAny_Call_Name_kw<|y6 I hg hm ?_ oN;refine callWith_K (h₀:=X.base) I.ok.mod.sG M.kp (aG (ha pos pins s σ H _ I h) fun us s1 ⟨vs,H1,I1,r,q⟩=>⟨I1.dg,?_⟩) he jb;exact Qa M F hr hb hd hx I1 r q
end
structure sN (N P:List Str) (sc:Scope):Prop where
 kind:sc.kind=.function
 co:sc.isCoroutine=false
 gen:sc.isGenerator=false
 nd:N.Nodup
 pre:N.take P.length=P
 par:∀x∈P,sc.names.lookup x=some .local\/sc.names.lookup x=some .cell
 Qd:∀y∈sc.names,y.2≠ .free
theorem EN{kindOf:Str->Option NameKind}{x:Str}:∀{binds:List (Str×Value)}{m:Str->Option Value},(∀v,(x,v)∉binds)->bindL kindOf binds m x=m x
 |[],_,_=>rfl
 |(n,v)::r,m,h=>by
  unfold bindL;rw[EN fun w hw=>h w (zay _ hw)]
  split
  ·have:x≠n:=by rintro rfl;exact h v zax
   simp[this]
  ·rfl
theorem EO{kindOf:Str->Option NameKind}{x:Str}:∀{binds:List (Str×Value)}{m:Str->Option Value},(∀v,(x,v)∉binds)->bindC kindOf binds m x=m x
 |[],_,_=>rfl
 |(n,v)::r,m,h=>by
  unfold bindC;rw[EO fun w hw=>h w (zay _ hw)]
  split
  ·rfl
  ·have:x≠n:=by rintro rfl;exact h v zax
   simp[this]
theorem ER{kindOf:Str->Option NameKind}{x:Str}{v:Value}:∀{P:List Str}{vs:List Value}{i:Nat}{m:Str->Option Value},P.Nodup->P[i]?=some x->vs[i]?=some v->kindOf x=some .local->
  bindL kindOf (P.zip vs) m x=some v
 |[],_,_,_,_,h,_,_=>by simp at h
 |_::_,[],_,_,_,_,h,_=>by simp at h
 |p::P,w::vs,0,m,nd,h1,h2,hk=>by
  simp at h1 h2;subst h1;subst h2
  show bindL kindOf ((p,w)::P.zip vs) m p=_;unfold bindL;rw[EN fun v hv=>(zaO.mp nd).1 (List.of_mem_zip hv).1,if_pos hk]
  simp
 |p::P,w::vs,i+1,m,nd,h1,h2,hk=>by
  show bindL kindOf ((p,w)::P.zip vs) m x=_;unfold bindL;exact ER (i:=i) (zaO.mp nd).2 (by simpa using h1) (by simpa using h2) hk
theorem ES{kindOf:Str->Option NameKind}{x:Str}{v:Value}:∀{P:List Str}{vs:List Value}{i:Nat}{m:Str->Option Value},P.Nodup->P[i]?=some x->vs[i]?=some v->kindOf x≠some .local->
  bindC kindOf (P.zip vs) m x=some v
 |[],_,_,_,_,h,_,_=>by simp at h
 |_::_,[],_,_,_,_,h,_=>by simp at h
 |p::P,w::vs,0,m,nd,h1,h2,hk=>by
  simp at h1 h2;subst h1;subst h2
  show bindC kindOf ((p,w)::P.zip vs) m p=_;unfold bindC;rw[EO fun v hv=>(zaO.mp nd).1 (List.of_mem_zip hv).1,if_neg hk]
  simp
 |p::P,w::vs,i+1,m,nd,h1,h2,hk=>by
  show bindC kindOf ((p,w)::P.zip vs) m x=_;unfold bindC;exact ES (i:=i) (zaO.mp nd).2 (by simpa using h1) (by simpa using h2) hk
def start(N:List Str)(vs:List V):St:=vs.map some++List.replicate (N.length - vs.length) none
def oO(CX:bZ)(P:Program)(w:World)(K:Frag)(mg:Str->Option Value)(base:Heap)(N:List Str)(qual:Str)(scope:Scope)(f:Addr)(cd:Value)(A:Around)(outer:List Env)(s:Shared)(H:Hp)(E:XK):Cx where
 prog:=P
 w:=w
 K:=K
 mg:=mg
 base:=base
 A:=A.deeper (envOfC qual scope s.heap.objs.size f cd)
 N:=N
 s₀:=s
 H₀:=H
 env:=envOfC qual scope s.heap.objs.size f cd
 outer:=outer
 stack:=envOfC qual scope s.heap.objs.size f cd::outer
 ex:=[]
 calm:=true
 fn:=fun _=>true
 pn:=[]
 xe:=fun e s'=>wpAny (model P w) (A.deeper<|envOfC qual scope s.heap.objs.size f cd) (leaving (envOfC qual scope s.heap.objs.size f cd) e) (fun _ lS=>CX outer H s E e lS) (fun e' lS=>CX outer H s E e' lS) s'
theorem ET{sc:Scope}{n:Nat}{x:Str}(h:sc.names.lookup x=some .cell):∃c,(cellsFrom n sc.names []).lookup x=some c:=by
 have q:=cellsFrom_some sc.names n [] (.inl h);exact Option.isSome_iff_exists.mp q
theorem Qe{CX:bZ}{P:Program}{w:World}{K:Frag}{mg:Str->Option Value}{base:Heap}{N ps:List Str}{qual:Str}{scope:Scope}{f:Addr}{cd:Value}{A:Around}{outer:List Env}{s s1:Shared}{H:Hp}{E:XK}{us:List Value}{vs:List V}
  (S:sN N ps scope) (hd:A.handled=none) (e0:mV P w K mg base A outer s H) (hl:vs.length=ps.length) (r:Vals vs us)
  (x:InCallC s s.heap.objs.size (bindL (envOfC qual scope s.heap.objs.size f cd).kindOf (ps.zip us) fun _=>none) (cellsFrom (s.heap.objs.size+1) scope.names []) (bindC (envOfC qual scope s.heap.objs.size f cd).kindOf (ps.zip us) fun _=>none) s1):
  Inv (oO CX P w K mg base N qual scope f cd A outer s H E) [] (start N vs) H s1:=by
 have jb:ps.length<=N.length:=by have:=congrArg List.length S.pre;rw[zaF] at this;omega
 obtain⟨h1,tk,rfl,hk⟩:=x.done;have sO:∀b:Addr,b∉ (oO CX P w K mg base N qual scope f cd A outer s H E).ex:=fun b z=>absurd (show b∈ ([]:List Addr) from z) (by simp)
 refine⟨⟨e0.mod,S.kind,rfl,rfl,zqR _,fun y z c h1 h2=>?_,fun y hy=>?_,fun y c _ h=>?_,fun _=>hd,Around.frames_deeper e0.frames,.inr ⟨rfl,rfl⟩,fun b z=>absurd z (sO b),e0.bs,e0.qF,fun b _ _=>sO b,fun b z=>absurd z (sO b),e0.ko,e0.sJ⟩,
  rfl,e0.bare,Un.kept hk,⟨_,x.toInCall.ns,fun i y v h1 h2 h3=>?_⟩,fun y c h=>⟨_,x.cell y c h⟩,e0.aD.fresh (zqR _),fun y c h=>?_,fun p hp=>absurd (show p∈ ([]:List (Addr×Obj)) from hp) (by simp),e0.aD.kept hk,?_⟩
 ·exact name_of_addr x.apart (PySem.mem_of_lookup h1) (PySem.mem_of_lookup h2)
 ·have hy:scope.names.lookup y=some .cell\/scope.names.lookup y=some .free:=hy;rcases hy with hy|hy
  ·exact ET hy
  ·exact absurd rfl (S.Qd _<|PySem.mem_of_lookup hy)
 ·exact zbq (x.above y c<|PySem.mem_of_lookup h)
 ·have hi:i<vs.length:=by
   unfold start at h2;by_cases hi:i<vs.length
   ·exact hi
   ·rw[zbH (by simpa using hi)] at h2
    rw[List.getElem?_replicate] at h2
    split at h2<;>cases h2
  have ha:vs[i]?=some v:=by
   unfold start at h2;rw[zaA (by simpa using hi),zaf] at h2
   cases e:vs[i]? with
   |none=>rw[e] at h2;cases h2
   |some a=>rw[e] at h2;cases h2;rfl
  obtain⟨u,hu,rv⟩:=r.get ha;have hp:ps[i]?=some y:=by
   rw[<-S.pre,List.getElem?_take_of_lt (by omega)];exact h1
  have EU:ps.Nodup:=by rw[<-S.pre];exact S.nd.sublist (List.take_sublist _ _)
  refine⟨u,rv,?_⟩;rcases S.par y (zan hp) with k|k
  ·exact .inl ⟨k,ER EU hp hu k⟩
  ·obtain⟨c,e⟩:=ET (n:=s.heap.objs.size+1) k;refine .inr ⟨.inl k,c,e,?_⟩;have q:=x.cell y c e;rw[ES EU hp hu (by show scope.names.lookup y≠_;rw[k];decide)] at q
   exact q
 ·exact e0.aD.fresh (zbq<|x.above y c<|PySem.mem_of_lookup h)
 ·unfold start;show _=N.length;rw[zqA,zad,zbI];omega
theorem Qf{CX:bZ}{P:Program}{w:World}{K:Frag}{mg:Str->Option Value}{base:Heap}{k:Nat}{f:Addr}{name qual:Str}{params:Arguments}{body:List Stmt}{scope:Scope}{dV kV doc pm bz ct oc:Value}{an od:Option Addr}
  {iO:Array (Option Value)}{N ps:List Str}{sp:Sp} (lk:K.lookup f=some ⟨oc,od,.func<|PySem.W.fnOf name qual params body scope dV kV doc pm an bz ct,iO⟩) (kq:PySem.W.codeIn K bz qual=true) (S:sN N ps scope)
  (len:∀vs H Q E,sp vs H Q E->vs.length=ps.length)
  (Qg:∀(A:Around) (outer:List Env) (s:Shared) (H:Hp) (vs:List V) (Q:VK) (E:XK),dh k (A.deeper (envOfC qual scope s.heap.objs.size f bz))->sp vs H Q E->
   ∃t,eU (oO CX P w K mg base N qual scope f bz A outer s H E) body t/\t {nx:=fun _ H'=>Q .aC H',rt:=Q} (start N vs) H):
  cE P w K mg base CX (k+1) f (PySem.W.fnOf name qual params body scope dV kV doc pm an bz ct) ps sp:=by
 refine⟨len,fun A outer s H args us vs Q E hr e0 hb r mW=>?_⟩;have hl:=len _ _ _ _ mW;have KX:K.In s.heap:=e0.mod.sG.keeps fun b o e=>(e0.bs b o e).1;have lim:s.heap.NoLimit:=e0.mod.nolimit.keeps fun b o e=>(e0.bs b o e).1;have Qh:∀y∈ps.zip us,scope.names.lookup y.1=some .local\/(scope.names.lookup y.1=some .cell/\((cellsFrom (s.heap.objs.size+1) scope.names []).lookup y.1).isSome=true):=fun⟨n,v⟩ hy=>by
  rcases S.par n (List.of_mem_zip hy).1 with q|q
  ·exact .inl q
  ·exact .inr ⟨q,cellsFrom_some _ _ _<|.inl q⟩
 refine codeAny_call_function hr.depth (KX _ _ lk) rfl S.co S.gen rfl (PySem.W.codeRec_of KX kq)<|hb _ _ _ _ ?_;refine wpAny_newFunctionEnv_cells S.kind Qh fun env he s1 x=>?_;subst he;refine⟨lim.keeps x.toInCall.keep,codeAny_func ?_⟩;obtain⟨t,ht,hq⟩:=Qg A outer s H vs Q E (hr.deeper _) mW;have I:Inv (oO CX P w K mg base N qual scope f bz A outer s H E) [] (start N vs) H s1:=Qe S hr.hd e0 hl r x;refine wpAny_mono (ht [] s1 (start N vs) H _ I hq) (fun fl s' hs=>?_) fun e s' hs=>hs;have fin:∀{σ':St}{H':Hp}{v:V}{u:Value},Inv (oO CX P w K mg base N qual scope f bz A outer s H E) [] σ' H' s'->RelV v u->Q v H'->CE outer P w H s Q u s':=
  fun {σ' H' v u} J rv q=>⟨v,H',J.os,J.bare,J.base,J.aD,rv,q⟩
 cases fl with
 |ret u=>
  obtain⟨v,σ',H',J,rv,q⟩:=hs;exact fin J rv q
 |next=>
  obtain⟨σ',H',J,q⟩:=hs;exact fin (v:=V.aC) (u:=Value.none) J rfl q
 |brk=>
  obtain⟨_,_,_,q⟩:=hs;exact False.elim q
 |cont=>
  obtain⟨_,_,_,q⟩:=hs;exact False.elim q
section
variable {X:Cx}{x:Str}{p pos:Pos}{e:Expr}{es:List Expr}{t:TA}{id T:String}{r:List V->Hp->VK->Prop}
def dQ(r:List V->Hp->VK->Prop)(t:TA):TE:=fun σ H Q=>t σ H fun vs H1=>r vs H1 Q
theorem EV(hc:dD X (.builtin id) r)(hg:Gl X x)(hm:X.mg x=none)(hv:bootBuiltins x=some (.builtin id))(ha:PA X (e::es) t)(hn:x≠"__name__":=by decide)(oN:(x==("__debug__":Str))=false:=by decide)
  (he:starEach (e::es) X.env=(false,eval e X.env)::starEach es X.env:=by rfl) (jb:(backTo pos<|starEach es X.env).any (·.1)=false:=by rfl):PE X (.Call (.Name x p) (e::es) [] pos) (dQ r t):=by
 intro pins s σ H Q I h;refine wpAny_Call_Name_kw<|iN I hg hm hv ?_ hn oN;exact PyProof.Rows.callWith_builtin1 (aG (ha pos pins s σ H _ I h) fun us s1 ⟨vs,H1,I1,r1,q1⟩=>hc pins s1 σ H1 vs us Q I1 r1 q1) he jb
theorem Qi(hc:dD X (.type T) r)(hg:Gl X x)(hm:X.mg x=none)(hv:bootBuiltins x=some (.type T))(ha:PA X (e::es) t)(hn:x≠"__name__":=by decide)(oN:(x==("__debug__":Str))=false:=by decide)
  (he:starEach (e::es) X.env=(false,eval e X.env)::starEach es X.env:=by rfl) (jb:(backTo pos<|starEach es X.env).any (·.1)=false:=by rfl):PE X (.Call (.Name x p) (e::es) [] pos) (dQ r t):=by
 intro pins s σ H Q I h;refine wpAny_Call_Name_kw<|iN I hg hm hv ?_ hn oN;exact PyProof.Rows.callWith_type1 (aG (ha pos pins s σ H _ I h) fun us s1 ⟨vs,H1,I1,r1,q1⟩=>hc pins s1 σ H1 vs us Q I1 r1 q1) he jb
end
end L2
namespace HT
open PySem PyProof.Rows
section
variable {prog:Program}{w:World}{A:Around}{E:Value->Shared->Prop}{s:Shared}
theorem Qj{t b:Addr}{vs ws:List Value}{Q:Value->Shared->Prop}(ht:IsTup s.heap t vs.toArray)(hb:IsTup s.heap b ws.toArray)(hv:vs≠ [])
  (h1:ws=[]->Q (.ref t) s) (h2:ws≠ []->Q (.ref s.heap.objs.size) {s with heap:=s.heap.push {cls:=.type "tuple",data:=.seq (vs++ws).toArray}})
  (hsz:vs.length+ws.length<=sizeLine):wpAny (model prog w) A (binaryOp .Add (.ref t)<|.ref b) Q E s:=by
 obtain⟨⟨cls,dd,data,sl⟩,ho,hc,n,hd⟩:=id ht;obtain⟨⟨afh,EW,data2,zp⟩,ik,cj,n2,hd2⟩:=id hb
 simp only at hc hd cj hd2
 subst hc hd cj hd2;have e:vs.toArray++ws.toArray=(vs++ws).toArray:=by simp
 by_cases hw:ws=[]
 ·exact concat_meets ⟨_,ho,rfl⟩ ⟨_,ik,rfl⟩ noFill_tuple_add seq_tuple_add PySem.F.slot_tuple_add PySem.F.entry_tuple_add (PySem.F.args_tuple_add_2 _ _)
   (tuple_addW1 t b vs.toArray ws.toArray n n2 dd EW sl zp (by simpa using hv) (by simp[hw])) ⟨ho,ik,h1 hw⟩
 ·refine concat_meets ⟨_,ho,rfl⟩ ⟨_,ik,rfl⟩ noFill_tuple_add seq_tuple_add PySem.F.slot_tuple_add PySem.F.entry_tuple_add (PySem.F.args_tuple_add_2 _ _)
   (tuple_addW2 t b vs.toArray ws.toArray n n2 dd EW sl zp (by simpa using hv) (by simpa using hw) (by rw[zae,zae];exact hsz)) ⟨ho,ik,?_⟩
  rw[e];exact h2 hw
def cZ(n d:Nat):Option Int->Nat
 |none=>d
 |some v=>if v<0 then (v+(n:Int)).toNat else min v.toNat n
theorem zq(n d:Nat):cZ n d none=d:=rfl
theorem qM(n d k:Nat):cZ n d (some (k:Int))=min k n:=by
 show(if (k:Int) <0 then ((k:Int)+(n:Int)).toNat else min (k:Int).toNat n)=min k n
 rw[if_neg (by omega),zaB]
theorem EX(n d:Nat)(hd:d<=n)(o:Option Int):cZ n d o<=n:=by
 cases o with
 |none=>exact hd
 |some v=>
  show(if v<0 then (v+(n:Int)).toNat else min v.toNat n)<=n
  by_cases hv:v<0
  ·rw[if_pos hv];omega
  ·rw[if_neg hv];exact Nat.min_le_right _ _
end
end HT
namespace L2
open PySem PySem.Spec PyProof.Rows
abbrev TO:=St->Hp->(Option Int->Hp->Prop)->Prop
def PO(X:Cx)(e:Option Expr)(t:TO):Prop:=
 ∀(pins:List (Addr×Obj)) (s:Shared) (σ:St) (H:Hp) (Q:Option Int->Hp->Prop),Inv X pins σ H s->t σ H Q->
  wpAny (model X.prog X.w) X.A (evalPart e X.env) (fun u s'=>∃o H',Inv X pins σ H' s'/\IsPart u o/\Q o H') X.xe s
def zr:TO:=fun _ H Q=>Q none H
def qN(t:TE):TO:=fun σ H Q=>t σ H fun x H1=>∃i,x=.int i/\Q (some i) H1
theorem intsAre_of{ns:List Int}:∀{us:List Value},Vals (ns.map V.int) us->IntsAre us ns:=by
 induction ns with
 |nil=>intro us r;rw[zaY] at r;cases r;exact .nil
 |cons n ns ih=>
  intro us r;rw[zar] at r;cases r with
  |cons r1 r2=>
   obtain⟨t,e⟩:=r1;subst e;exact .cons n t<|ih r2
section
variable {X:Cx}{e:Expr}{te:TE}{lo hi:Option Expr}{tl th:TO}{pos p2:Pos}
theorem EY:PO X none zr:=by
 intro pins s σ H Q I h;rw[evalPart_none];exact wpAny_pure ⟨none,H,I,.none,h⟩
theorem zt(h:PE X e te):PO X (some e) (qN te):=by
 intro pins s σ H Q I hw;rw[evalPart_some];refine aG (h pins s σ H _ I hw) fun u s1 ⟨x,H1,I1,r1,q1⟩=>?_;obtain⟨i,rfl,q⟩:=q1;obtain⟨t,rfl⟩:=r1;exact⟨some i,H1,I1,.int i t,q⟩
def zu(X:Cx)(r:V->Option Int->Option Int->Hp->VK->Prop):Prop:=
 ∀(pins:List (Addr×Obj)) (s:Shared) (σ:St) (H:Hp) (x:V) (v vl vu:Value) (lo hi:Option Int) (sl:Addr) (Q:VK),Inv X pins σ H s->RelV x v->s.heap.IsSliceOf sl vl vu .none->IsPart vl lo->IsPart vu hi->r x lo hi H Q->
  ∃T id,typeLookup (.type T) "__getitem__"=pure (some<|.builtin id)/\s.TypeIs v T/\wpAny (model X.prog X.w) X.A (getItem v<|.ref sl) (EP X pins σ Q) X.xe s
def zv(r:V->Option Int->Option Int->Hp->VK->Prop)(te:TE)(tl th:TO):TE:=fun σ H Q=>te σ H fun x H1=>tl σ H1 fun l H2=>th σ H2 fun u H3=>r x l u H3 Q
theorem Qk{r:V->Option Int->Option Int->Hp->VK->Prop}(hr:zu X r)(he:PE X e te)(hl:PO X lo tl)(hu:PO X hi th):PE X (.Subscript e (.Slice lo hi none p2) pos) (zv r te tl th):=by
 intro pins s σ H Q I h;refine Subscript_<|aG (he pins s σ H _ I h) fun v s1 ⟨x,H1,I1,r1,q1⟩=>?_;refine wpAny_Slice<|aG (hl pins s1 σ H1 _ I1 q1) fun vl s2 ⟨l,H2,I2,pl,q2⟩=>aG (hu pins s2 σ H2 _ I2 q2) fun vu s3 ⟨u,H3,I3,pu,q3⟩=>?_;rw[evalPart_none];refine wpAny_pure ?_;have I4:Inv X pins σ H3 {s3 with heap:=s3.heap.push {cls:=.type "slice",data:=.fields #[vl,vu,.none]}}:=I3.kept (t':=s3.toks) fun b ob q=>Heap.get?_push_of_some _ q
 obtain⟨T,id,hT,ht,hg⟩:=hr pins {s3 with heap:=s3.heap.push {cls:=.type "slice",data:=.fields #[vl,vu,.none]}} σ H3 x v vl vu l u s3.heap.objs.size Q I4 r1 (Heap.IsSliceOf.new ..) pl pu q3
 show wpAny (model X.prog X.w) X.A (subscriptTail e (.Slice lo hi none p2) v<|.ref s3.heap.objs.size) (EP X pins σ Q) X.xe {s3 with heap:=s3.heap.push {cls:=.type "slice",data:=.fields #[vl,vu,.none]}}
 exact tail_any (ops:=[.ref s3.heap.objs.size,v]) ht hT hg (by with_unfolding_all rfl)
def d6(xs:List V)(lo hi:Option Int):List V:=(xs.drop<|HT.cZ xs.length 0 lo).take (HT.cZ xs.length xs.length hi - HT.cZ xs.length 0 lo)
theorem EZ(xs:List V)(lo hi:Option Int):(d6 xs lo hi).length<=xs.length:=by
 unfold d6;rw[zaF,zaC];omega
def E1(K:Frag):R2:=fun x y H Q=>∃a b xs ys,x=.ref a/\y=.ref b/\aH K H a xs/\aH K H b ys/\xs≠ []/\xs.length+ys.length<=sizeLine/\
 (ys=[]->Q (.ref a) H)/\(ys≠ []->∀p,H p=none->Q (.ref p) (upd H p<|.tup<|xs++ys))
theorem Vals.zw{xs:List V}{us:List Value}(r:Vals xs us):us=[]↔xs=[]:=by
 cases r with
 |nil=>simp
 |cons _ _=>simp
theorem Ql:bh X (binaryOp .Add) (E1 X.K):=by
 intro pins s σ H x y v u Q I rx ry h;obtain⟨a,b,xs,ys,rfl,rfl,ha,hb,hx,hz,q1,q2⟩:=h;cases rx;cases ry;obtain⟨ao,r1,p1,_⟩:=I.tuple ha;obtain⟨eI,r2,p2,_⟩:=I.tuple hb;refine HT.Qj p1 p2 (fun z=>hx<|r1.zw.mp z) (fun z=>⟨.ref a,H,I,rfl,q1<|r2.zw.mp z⟩) (fun z=>?_) (by rw[<-r1.length,<-r2.length];exact hz)
 refine⟨.ref s.heap.objs.size,_,I.laid (t':=s.toks) (o:=.tup (xs++ys)) (fun b ob q=>Heap.get?_push_of_some _ q) (zqR _) ?_,rfl,q2 (fun w=>z<|r2.zw.mpr w) _<|I.aD.fresh<|zqR _⟩;exact⟨by rw[zqA];exact hz,_,r1.append r2,IsTup.new _ _⟩
end
def ip(n:Nat)(i:Int):Option Nat:=if 0<=i then (if i<n then some i.toNat else none) else if -(n:Int)<=i then some (i+n).toNat else none
def fi{α:Type}(xs:List α)(i:Int):Option α:=(ip xs.length i).bind fun j=>xs[j]?
theorem E2{n:Nat}{i:Int}{j:Nat}(h:ip n i=some j):seqIndex? i n=some j/\j<n/\ -(n:Int)<=i/\i<n:=by
 unfold ip at h;by_cases h0:0<=i
 ·rw[if_pos h0] at h;by_cases h1:i<n
  ·rw[if_pos h1] at h;have e:i.toNat=j:=zal h;exact⟨by rw[seqIndex_of h0 h1,e],by omega,by omega,h1⟩
  ·rw[if_neg h1] at h;cases h
 ·rw[if_neg h0] at h;by_cases h1: -(n:Int)<=i
  ·rw[if_pos h1] at h;have e:(i+n).toNat=j:=zal h;exact⟨by rw[seqIndex_neg (by omega) h1,e],by omega,h1,by omega⟩
  ·rw[if_neg h1] at h;cases h
theorem zx{α:Type}{xs:List α}{i:Int}{v:α}(h:fi xs i=some v):∃j,seqIndex? i xs.length=some j/\xs[j]?=some v/\j<xs.length/\ -(xs.length:Int)<=i/\i<xs.length:=by
 unfold fi at h;cases e:ip xs.length i with
 |none=>rw[e] at h;cases h
 |some j=>
  rw[e] at h;obtain⟨h1,h2,h3,h4⟩:=E2 e;exact⟨j,h1,h,h2,h3,h4⟩
theorem dq{α:Type}{xs:List α}{j:Nat}{v:α}(h:xs[j]?=some v):fi xs (j:Int)=some v:=by
 have hj:j<xs.length:=(zah.mp h).1;have e:ip xs.length (j:Int)=some j:=by
  unfold ip;rw[if_pos (by omega),if_pos (by omega)];simp
 unfold fi;rw[e];exact h
theorem zy{α:Type}(xs:List α)(v:α):fi (xs++[v]) (-1)=some v:=by
 have hl:(xs++[v]).length=xs.length+1:=by simp
 have e:ip (xs++[v]).length (-1)=some xs.length:=by
  unfold ip;rw[hl,if_neg (by decide),if_pos (by omega)]
  congr 1
  omega
 unfold fi;rw[e];show(xs++[v])[xs.length]?=some v
 simp
def E3(b:Expr):Prop:= ∀o i,subscripted b false o i=operate [o,i] (getItem o i)
def ku(X:Cx)(r:R2):Prop:=
 ∀(value slice:Expr) (pins:List (Addr×Obj)) (s:Shared) (σ:St) (H:Hp) (x y:V) (v u:Value) (Q:VK),Inv X pins σ H s->RelV x v->RelV y u->r x y H Q->
  subscripted slice false v u=operate [v,u] (getItem v u)->wpAny (model X.prog X.w) X.A (subscriptTail value slice v u) (EP X pins σ Q) X.xe s
def qO(X:Cx)(id:String)(r:V->List V->Hp->VK->Prop):Prop:=
 ∀(pins:List (Addr×Obj)) (s:Shared) (σ:St) (H:Hp) (x:V) (xs:List V) (v:Value) (us:List Value) (Q:VK),Inv X pins σ H s->RelV x v->Vals xs us->r x xs H Q->
  wpAny (model X.prog X.w) X.A (call (.builtin id) (v::us)) (EP X pins σ Q) X.xe s
section
variable {X:Cx}{a b:Expr}{ta tb:TE}{pos:Pos}
theorem ku.or{r r':R2}(h:ku X r)(h':ku X r'):ku X (fun x y H Q=>r x y H Q\/r' x y H Q):=by
 intro value slice pins s σ H x y v u Q I rx ry q hs;rcases q with q|q
 ·exact h value slice pins s σ H x y v u Q I rx ry q hs
 ·exact h' value slice pins s σ H x y v u Q I rx ry q hs
theorem Qm{r:R2}(hr:ku X r)(ha:PE X a ta)(hb:PE X b tb)(hs:E3 b):PE X (.Subscript a b pos) (eV r ta tb):=by
 intro pins s σ H Q I h;exact Subscript_<|zg ha hb I h fun v u s2 x y H2 I2 rx ry q=>hr a b pins s2 σ H2 x y v u Q I2 rx ry q (hs _ _)
def E4(K:Frag):R2:=fun x y H Q=>∃p xs i v,x=.ref p/\y=.int i/\au K H p xs/\fi xs i=some v/\Q v H
def E5(K:Frag):R2:=fun x y H Q=>∃p xs i v,x=.ref p/\y=.int i/\aH K H p xs/\fi xs i=some v/\Q v H
def E6:R2:=fun x y H Q=>∃z i c,x=.str z/\y=.int i/\z.length<=sizeLine/\fi z.cps.toList i=some c/\Q (.str ⟨#[c]⟩) H
theorem Qn:ku X (E4 X.K):=by
 intro value slice pins s σ H x y v u Q I rx ry h hs;obtain⟨p,xs,i,z,rfl,rfl,hq,he,q⟩:=h;cases rx;obtain⟨t,rfl⟩:=ry;obtain⟨ao,r,pl,hz⟩:=I.list hq;obtain⟨j,h1,h2,h3,h4,h5⟩:=zx he;obtain⟨w,ew,iP⟩:=r.get h2;have hl:=r.length;have hn:=oI;have fin:EP X pins σ Q w s:=⟨z,H,I,iP,q⟩;by_cases h0:0<=i
 ·have hj:i.toNat=j:=by
   rw[seqIndex_of h0 h5] at h1;exact zal h1
  exact item_listR pl.isList h0 (by omega) (by rw[hj];simpa using ew) fin hs
 ·have hj:(i+(ao.toArray.size:Int)).toNat=j:=by
   rw[seqIndex_neg (by omega) h4] at h1
   rw[zae,<-hl];exact zal h1
  exact subscriptTail_builtinR (x:=w) pl.isList.typeIs slot_list_getitem.lookup
   (wpAny_getItem_list_neg (Q:=fun r s'=>r=w/\EP X pins σ Q r s') pl.isList (by omega) (by rw[zae] <;>omega) (by omega) (by rw[hj];simpa using ew) ⟨rfl,fin⟩) hs
theorem Qo:ku X (E5 X.K):=by
 intro value slice pins s σ H x y v u Q I rx ry h hs;obtain⟨p,xs,i,z,rfl,rfl,hq,he,q⟩:=h;cases rx;obtain⟨t,rfl⟩:=ry;obtain⟨ao,r,pl,hz⟩:=I.tuple hq;obtain⟨j,h1,h2,h3,h4,h5⟩:=zx he;obtain⟨w,ew,iP⟩:=r.get h2;have hl:=r.length;have hn:=oI;have fin:EP X pins σ Q w s:=⟨z,H,I,iP,q⟩;exact subscriptTail_builtinR (x:=w) pl.typeIs slot_tuple_getitem.lookup
  (getItem_tuple (j:=j) (Q:=fun r s'=>r=w/\EP X pins σ Q r s') pl (by omega) (by omega) (by rw[zae,<-hl];exact h1) (by simpa using ew) ⟨rfl,fin⟩) hs
theorem Qp:ku X E6:=by
 intro value slice pins s σ H x y v u Q I rx ry h hs;obtain⟨z,i,c,rfl,rfl,hz,he,q⟩:=h;obtain⟨t,rfl⟩:=rx;obtain⟨t',rfl⟩:=ry;obtain⟨j,h1,h2,h3,h4,h5⟩:=zx he;have hl:z.cps.toList.length=z.length:=by simp[Str.length]
 rw[hl] at h1 h4 h5;have hn:=oI;exact tail_any (typeIs_str s z t) slot_str_getitem.lookup (getItem_str (c:=c) (by
  have e1:decide (i< -(2 ^ 63:Int))=false:=zqF (by omega)
  have e2:decide (i≥2 ^ 63)=false:=zqF (by omega)
  rw[e1,e2,zbk]) (by rw[h1];simpa using h2) ⟨.str ⟨#[c]⟩,H,I.tok _,⟨_,rfl⟩,q⟩) hs
theorem Qq(ao:List Value)(n j:Nat)(u:Value):Obj.mapSeq (·.setIfInBounds j u) {cls:=.type "list",data:=.seq ao.toArray n}={cls:=.type "list",data:=.seq (ao.set j u).toArray n}:=by
 simp[Obj.mapSeq]
theorem Inv.lst{pins:List (Addr×Obj)}{σ:St}{H:Hp}{s:Shared}{p:Addr}{xs:List V}(I:Inv X pins σ H s)(h:H p=some (.lst xs)):
  ∃(ao:List Value) (n:Nat),Vals xs ao/\s.heap.get? p=some {cls:=.type "list",data:=.seq ao.toArray n}/\xs.length<=sizeLine:=by
 obtain⟨z,ao,n,r,e⟩:=I.aD p _ h;exact⟨ao,n,r,e,z⟩
theorem Inv.Qr{pins:List (Addr×Obj)}{σ:St}{H:Hp}{s:Shared}{p:Addr}{xs ys:List V}{ao ig:List Value}{n n':Nat}{f:Obj->Obj}(I:Inv X pins σ H s)(h:H p=some (.lst xs))
  (ho:s.heap.get? p=some {cls:=.type "list",data:=.seq ao.toArray n}) (hf:f {cls:=.type "list",data:=.seq ao.toArray n}={cls:=.type "list",data:=.seq ig.toArray n'}) (r:Vals ys ig) (hz:ys.length<=sizeLine) (t:Nat):
  Inv X pins σ (upd H p<|.lst ys) {s with heap:=s.heap.update p f,toks:=t}:=by
 have e:(s.heap.update p f).get? p=some {cls:=.type "list",data:=.seq ig.toArray n'}:=by
  rw[Heap.get?_update_self f ho (by rw[hf] <;>rfl),hf]
 refine I.write (x:=p) (e:=p) (by rw[h];trivial) (.inl rfl) (fun b u hb q=>(Heap.get?_update_other _ _<|Ne.symm hb).trans q) ⟨_,e⟩ ?_
 exact⟨hz,ig,n',r,e⟩
def zA:V->V->V->Hp->(Hp->Prop)->Prop:=fun o i v H Q=>∃p xs k j,o=.ref p/\i=.int k/\H p=some (.lst xs)/\ip xs.length k=some j/\Q (upd H p<|.lst<|xs.set j v)
theorem set_list:Ec X zA:=by
 intro pins s σ H o i v ov iv u Q I ro ri rv h;obtain⟨p,xs,k,j,rfl,rfl,hp,hj,q⟩:=h;cases ro;obtain⟨t,rfl⟩:=ri;obtain⟨ao,n,r,ho,hz⟩:=I.lst hp;obtain⟨h1,h2,h3,h4⟩:=E2 hj;have hl:=r.length;have hn:=oI;have I':Inv X pins σ (upd H p<|.lst<|xs.set j v) {s with heap:=s.heap.update p (Obj.mapSeq (·.setIfInBounds j u))}:=
  I.Qr hp ho (Qq ao n j u) (r.set rv j) (by rw[List.length_set];exact hz) s.toks
 by_cases h0:0<=k
 ·have hk:k.toNat=j:=by
   rw[seqIndex_of h0 h4] at h1;exact zal h1
  exact PySem.W.ki_setAt ho h0 (by omega) (by rw[zae,<-hl];exact h4) (by rw[hk];exact⟨_,I',q⟩)
 ·have hk:(k+(ao.toArray.size:Int)).toNat=j:=by
   rw[seqIndex_neg (by omega) h3] at h1
   rw[zae,<-hl];exact zal h1
  exact PySem.W.ki_setBack ho (by omega) (by rw[zae,<-hl];exact h3) (by omega) (by rw[hk];exact⟨_,I',q⟩)
theorem zB(lo hi:Option Int)(n:Nat):(sliceBounds lo hi none n).1=((HT.cZ n 0 lo:Nat):Int)/\(sliceBounds lo hi none n).2.1=((HT.cZ n n hi:Nat):Int)/\(sliceBounds lo hi none n).2.2=1:=by
 refine⟨?_,?_,rfl⟩
 ·cases lo with
  |none=>simp[sliceBounds,HT.cZ]
  |some i=>
   simp only[sliceBounds,HT.cZ,Option.getD_none,show(1:Int) >0 by decide,if_true]
   by_cases h:i<0
   ·simp only[h,if_true] <;>omega
   ·simp only[h,if_false] <;>omega
 ·cases hi with
  |none=>simp[sliceBounds,HT.cZ]
  |some i=>
   simp only[sliceBounds,HT.cZ,Option.getD_none,show(1:Int) >0 by decide,if_true]
   by_cases h:i<0
   ·simp only[h,if_true] <;>omega
   ·simp only[h,if_false] <;>omega
theorem Qs(ao:List Value)(lo hi:Option Int):slicePick ao.toArray lo hi none=((ao.drop<|HT.cZ ao.length 0 lo).take<|HT.cZ ao.length ao.length hi - HT.cZ ao.length 0 lo).toArray:=by
 obtain⟨h1,h2,h3⟩:=zB lo hi ao.toArray.size;unfold slicePick;rw[h1,h2,h3]
 simp only[sliceRange_one,pick_run,zae] <;>rfl
def Qt(K:Frag):V->Option Int->Option Int->Hp->VK->Prop:=fun x lo hi H Q=>∃a xs,x=.ref a/\au K H a xs/\∀p,H p=none->Q (.ref p) (upd H p<|.lst<|d6 xs lo hi)
theorem Qu:zu X (Qt X.K):=by
 intro pins s σ H x v vl vu lo hi sl Q I rx hs pl pu h;obtain⟨a,xs,rfl,hx,q⟩:=h;cases rx;obtain⟨ao,r,ht,hz⟩:=I.list hx;have hlen:=r.length;refine⟨"list",_,slot_list_getitem.lookup,ht.isList.typeIs,?_⟩;refine wpAny_getItem_list_slice ht.isList hs pl pu .none (by simp) ?_ (by rw[zae] <;>omega)
 rw[Qs,<-hlen];refine⟨.ref s.heap.objs.size,_,I.laid (t':=s.toks) (o:=.lst (d6 xs lo hi)) (fun b ob q=>Heap.get?_push_of_some _ q) (zqR _) ?_,rfl,q _<|I.aD.fresh<|zqR _⟩;exact⟨zat (EZ xs lo hi) hz,_,0,(r.drop<|HT.cZ xs.length 0 lo).take<|HT.cZ xs.length xs.length hi - HT.cZ xs.length 0 lo,Heap.get?_push_size _ rfl⟩
def iq:V->Bool
 |.aC=>true
 |.bl _=>true
 |.int _=>true
 |.str _=>true
 |_=>false
def gT:V->V->Bool
 |.aC,.aC=>true
 |.bl a,.bl b=>a==b
 |.bl a,.int b=>(if a then 1 else 0)==b
 |.int a,.bl b=>a==(if b then 1 else 0)
 |.int a,.int b=>a==b
 |.str a,.str b=>a==b
 |_,_=>false
theorem Qw{A:Around}{s:Shared}{y x:V}{u v:Value}(ry:RelV y u)(rx:RelV x v)(fy:iq y=true)(fx:iq x=true):SeqAt.EqAt A s u v (gT y x):=by
 cases y with
 |aC=>
  cases ry;cases x with
  |aC=>cases rx;exact SeqAt.EqAt.same _
  |bl b=>cases rx;exact SeqAt.EqAt.none_bool b
  |int b=>obtain⟨t,rfl⟩:=rx;exact SeqAt.EqAt.none_int b t
  |str b=>obtain⟨t,rfl⟩:=rx;exact SeqAt.EqAt.none_str b t
  |_=>exact absurd (show false=true from fx) zas
 |bl a=>
  cases ry;cases x with
  |aC=>cases rx;exact SeqAt.EqAt.bool_none a
  |bl b=>cases rx;exact SeqAt.EqAt.bool_bool a b
  |int b=>obtain⟨t,rfl⟩:=rx;exact SeqAt.EqAt.bool_int a b t
  |str b=>obtain⟨t,rfl⟩:=rx;exact SeqAt.EqAt.bool_str a b t
  |_=>exact absurd (show false=true from fx) zas
 |int a=>
  obtain⟨t',rfl⟩:=ry;cases x with
  |aC=>cases rx;exact SeqAt.EqAt.int_none a t'
  |bl b=>cases rx;exact SeqAt.EqAt.int_bool a t' b
  |int b=>obtain⟨t,rfl⟩:=rx;exact SeqAt.EqAt.int_int a t' b t
  |str b=>obtain⟨t,rfl⟩:=rx;exact SeqAt.EqAt.int_str a t' b t
  |_=>exact absurd (show false=true from fx) zas
 |str a=>
  obtain⟨t',rfl⟩:=ry;cases x with
  |aC=>cases rx;exact SeqAt.EqAt.str_none a t'
  |bl b=>cases rx;exact SeqAt.EqAt.str_bool a t' b
  |int b=>obtain⟨t,rfl⟩:=rx;exact SeqAt.EqAt.str_int a t' b t
  |str b=>obtain⟨t,rfl⟩:=rx;exact SeqAt.EqAt.str_str a t' b t
  |_=>exact absurd (show false=true from fx) zas
 |_=>exact absurd (show false=true from fy) zas
def eY(x:V)(u:Value):Bool:=match u with
 |.none=>gT .aC x
 |.bool b=>gT (.bl b) x
 |.int i _=>gT (.int i) x
 |.str z _=>gT (.str z) x
 |_=>false
theorem zC{x y:V}{u:Value}(r:RelV y u)(f:iq y=true):eY x u=gT y x:=by
 cases y with
 |aC=>cases r;rfl
 |bl b=>cases r;rfl
 |int i=>obtain⟨t,rfl⟩:=r;rfl
 |str z=>obtain⟨t,rfl⟩:=r;rfl
 |_=>exact absurd (show false=true from f) zas
theorem sP{x:V}:∀{xs:List V}{us:List Value},Vals xs us->xs.all iq=true->us.any (eY x)=xs.any fun y=>gT y x
 |_,_,.nil,_=>rfl
 |y::xs,u::us,.cons r t,f=>by
  rw[zbl,zag] at f;rw[zbr,zbr,zC r f.1,sP t f.2]
theorem qP{A:Around}{s:Shared}{x:V}{v:Value}(rx:RelV x v)(fx:iq x=true):∀{xs:List V}{us:List Value},Vals xs us->xs.all iq=true->∀u∈us,SeqAt.EqAt A s u v (eY x u)
 |_,_,.nil,_=>fun u hu=>by cases hu
 |y::xs,u::us,.cons r t,f=>fun u' hu=>by
  rw[zbl,zag] at f;rcases zaa.mp hu with rfl|hu
  ·rw[zC r f.1];exact Qw r rx f.1 fx
  ·exact qP rx fx t f.2 u' hu
def eZ(x:V)(xs:List V):Bool:=xs.any fun y=>gT y x
def zD(K:Frag)(neg:Bool):R2:=fun x y H Q=>∃p xs,y=.ref p/\(au K H p xs\/aH K H p xs)/\iq x=true/\xs.all iq=true/\Q (.bl (if neg then !eZ x xs else eZ x xs)) H
theorem Qx:bh X (compareOp .In) (zD X.K false):=by
 intro pins s σ H x y v u Q I rx ry h;obtain⟨p,xs,rfl,hq,fx,fs,q⟩:=h;cases ry;rcases hq with hq|hq
 ·obtain⟨ao,r,pl,hz⟩:=I.list hq;refine SeqAt.in_listAt (eY x) pl.isList (fun w hw=>qP rx fx r fs w (by simpa using hw)) ⟨.bl _,H,I,rfl,?_⟩
  rw[show ao.toArray.any (eY x)=ao.any (eY x) by simp,sP r fs]
  exact q
 ·obtain⟨ao,r,pl,hz⟩:=I.tuple hq;refine SeqAt.in_tupleAt (eY x) pl (fun w hw=>qP rx fx r fs w (by simpa using hw)) ⟨.bl _,H,I,rfl,?_⟩
  rw[show ao.toArray.any (eY x)=ao.any (eY x) by simp,sP r fs]
  exact q
theorem Qy:bh X (compareOp .NotIn) (zD X.K true):=by
 intro pins s σ H x y v u Q I rx ry h;obtain⟨p,xs,rfl,hq,fx,fs,q⟩:=h;cases ry;rcases hq with hq|hq
 ·obtain⟨ao,r,pl,hz⟩:=I.list hq;refine SeqAt.notIn_listAt (eY x) pl.isList (fun w hw=>qP rx fx r fs w (by simpa using hw)) ⟨.bl _,H,I,rfl,?_⟩
  rw[show ao.toArray.any (eY x)=ao.any (eY x) by simp,sP r fs]
  exact q
 ·obtain⟨ao,r,pl,hz⟩:=I.tuple hq;refine SeqAt.notIn_tupleAt (eY x) pl (fun w hw=>qP rx fx r fs w (by simpa using hw)) ⟨.bl _,H,I,rfl,?_⟩
  rw[show ao.toArray.any (eY x)=ao.any (eY x) by simp,sP r fs]
  exact q
theorem dD.or{f:Value}{r r':List V->Hp->VK->Prop}(h:dD X f r)(h':dD X f r'):dD X f (fun xs H Q=>r xs H Q\/r' xs H Q):=by
 intro pins s σ H xs us Q I rs q;rcases q with q|q
 ·exact h pins s σ H xs us Q I rs q
 ·exact h' pins s σ H xs us Q I rs q
theorem Qz:dD X (.type "list") (fun xs H Q=>∃p ys,xs=[.ref p]/\(au X.K H p ys\/aH X.K H p ys)/\∀l,H l=none->Q (.ref l) (upd H l<|.lst ys)):=by
 intro pins s σ H xs us Q I r h;obtain⟨p,ys,rfl,hq,q⟩:=h;obtain⟨u,rfl,rx⟩:=vals1 r;cases rx;have fin:∀(ao:List Value),Vals ys ao->ys.length<=sizeLine->∀(h':Heap) (c':Nat),(∀b o',s.heap.get? b=some o'->h'.get? b=some o')->
   h'.get? s.heap.objs.size=some {cls:=.type "list",dict:=none,data:=.seq ao.toArray c',slots:= #[]}->EP X pins σ Q (.ref s.heap.objs.size) {s with heap:=h'}:=fun ao r' hz h' c' kp e=>
  ⟨.ref s.heap.objs.size,_,I.laid (t':=s.toks) kp (zqR _) (show cq X.prog X.w _ h' _ (.lst ys) from⟨hz,ao,c',r',e⟩),rfl,q _<|I.aD.fresh<|zqR _⟩
 rcases hq with hq|hq
 ·obtain⟨ao,r',pl,hz⟩:=I.list hq;have hlen:=r'.length;obtain⟨o,ho,hc,n,hd⟩:=pl.isList;exact call_list_seq p (.inl rfl) ho hc hd (fun h' c' kp e=>fin ao r' hz h' c' kp e) (by simp only[zae] <;>omega)
 ·obtain⟨ao,r',pl,hz⟩:=I.tuple hq;have hlen:=r'.length;obtain⟨o,ho,hc,n,hd⟩:=pl;exact call_list_seq p (.inr rfl) ho hc hd (fun h' c' kp e=>fin ao r' hz h' c' kp e) (by simp only[zae] <;>omega)
def qQ(K:Frag)(T:String)(x:V)(H:Hp):Prop:=match x with
 |.str _=>T="str"
 |.int _=>T="int"
 |.ref p=>(T="list"/\∃xs,au K H p xs)\/(T="tuple"/\∃o,K.lookup p=some o/\o.cls=.type "tuple"/\o.dict=none)\/
   (T="dict"/\((∃kvs,H p=some (.dK kvs))\/∃kvs,H p=some (.dT kvs)))\/(T="set"/\∃S n,H p=some (.set S n))
 |_=>False
theorem E7{pins:List (Addr×Obj)}{σ:St}{H:Hp}{s:Shared}{T:String}{x:V}{v:Value}(I:Inv X pins σ H s)(r:RelV x v)(ty:qQ X.K T x H):
  s.TypeIs v T/\∀a,v=.ref a->∃ob,s.heap.get? a=some ob/\ob.dict=none:=by
 cases x with
 |str z=>
  obtain⟨t,rfl⟩:=r;cases (show T="str" from ty)
  exact⟨typeIs_str s z t,fun _ e=>nomatch e⟩
 |int i=>
  obtain⟨t,rfl⟩:=r;cases (show T="int" from ty)
  exact⟨typeIs_int s i t,fun _ e=>nomatch e⟩
 |ref p=>
  cases r;rcases ty with⟨rfl,xs,hq⟩|⟨rfl,o,hk,hc,hd⟩|⟨rfl,hk⟩|⟨rfl,S,n,hk⟩
  ·obtain⟨ao,_,pl,_⟩:=I.list hq;refine⟨pl.isList.typeIs,fun a e=>?_⟩;cases e;obtain⟨o,n,e,c,hd,_⟩:=pl;exact⟨o,e,hd⟩
  ·refine⟨⟨o,I.dg p o hk,hc⟩,fun a e=>?_⟩;cases e;exact⟨o,I.dg _ o hk,hd⟩
  ·have z:∃o,s.heap.get? p=some o/\o.ExactDict:=by
    rcases hk with⟨kvs,hk⟩|⟨kvs,hk⟩
    ·obtain⟨_,_,_,_,o,_,_,e,ex,_⟩:=I.aD p _ hk;exact⟨o,e,ex⟩
    ·obtain⟨_,_,_,_,o,_,_,e,ex,_⟩:=I.aD p _ hk;exact⟨o,e,ex⟩
   obtain⟨o,e,ex⟩:=z;refine⟨⟨o,e,ex.1⟩,fun a e2=>?_⟩;cases e2;exact⟨o,e,ex.2.1⟩
  ·obtain⟨o,_,_,_,e,ex,_⟩:=I.aD p _ hk;refine⟨⟨o,e,ex.1⟩,fun a e2=>?_⟩;cases e2;exact⟨o,e,ex.2.1⟩
 |_=>exact False.elim ty
def QC(K:Frag)(T:String)(r:V->List V->Hp->VK->Prop)(to:TE):TE:=fun σ H Q=>to σ H fun x H1=>qQ K T x H1/\r x [] H1 Q
def QD(K:Frag)(T:String)(r:V->List V->Hp->VK->Prop)(to:TE)(t:TA):TE:=fun σ H Q=>to σ H fun x H1=>qQ K T x H1/\t σ H1 fun xs H2=>r x xs H2 Q
variable {o e:Expr}{es:List Expr}{to:TE}{t:TA}{name:Str}{apos dE:Pos}{T id:String}{r:V->List V->Hp->VK->Prop}
theorem QE(pa:PlainAttrs T)(slot:Slot T name id)(zE:typeOf (.builtin id)=pure (.type "method_descriptor"))(hm:qO X id r)(ho:PE X o to)
  (zF:attributeBase o name X.env (eval o X.env)=eval o X.env:=by rfl) (zG:(apos.endLine==dE.line)=true:=by rfl):PE X (.Call (.Attribute o name apos) [] [] dE) (QC X.K T r to):=by
 intro pins s σ H Q I h;refine wpAny_Call_method0_late zF zG<|aG (ho pins s σ H _ I h) fun v s1 ⟨x,H1,I1,r1,ty,q1⟩=>?_;obtain⟨h1,h2⟩:=E7 I1 r1 ty;exact⟨T,id,pa,slot,zE,h1,h2,Calls.callWith_builtin rfl<|PySem.evalArgs_none<|hm pins s1 σ H1 x [] v [] Q I1 r1 .nil q1⟩
theorem QF(pa:PlainAttrs T)(slot:Slot T name id)(zE:typeOf (.builtin id)=pure (.type "method_descriptor"))(hm:qO X id r)(ho:PE X o to)(ha:PA X (e::es) t)
  (zF:attributeBase o name X.env (eval o X.env)=eval o X.env:=by rfl)
  (QG:((backTo dE (starEach (e::es) X.env)).all (fun x=> !x.1) && (backToKw dE (keywordEach [] X.env)).all (fun x=>x.1.isSome)
   && decide ((e::es).length+([]:List Keyword).length+(if ([]:List Keyword).isEmpty then 0 else 1) <30))=true:=by rfl)
  (zG:(apos.endLine==dE.line)=true:=by rfl) (hs:starEach (e::es) X.env=(false,eval e X.env)::starEach es X.env:=by rfl) (QH:(backTo dE<|starEach es X.env).any (·.1)=false:=by rfl):
  PE X (.Call (.Attribute o name apos) (e::es) [] dE) (QD X.K T r to t):=by
 intro pins s σ H Q I h;refine wpAny_Call_method_late zF QG zG rfl<|aG (ho pins s σ H _ I h) fun v s1 ⟨x,H1,I1,r1,ty,q1⟩=>?_;obtain⟨h1,h2⟩:=E7 I1 r1 ty;refine⟨T,id,pa,slot,zE,h1,h2,?_⟩;have hA:=ha dE pins s1 σ H1 _ I1 q1;rw[hs] at hA⊢;refine Calls.callWith_builtin (by show(false ||(backTo dE<|starEach es X.env).any (·.1))=false;rw[QH] <;>rfl)<|Calls.evalArgs_plain ?_
 exact aG hA fun us s2 ⟨vs,H2,I2,r2,q2⟩=>hm pins s2 σ H2 x vs v us Q I2 r1 r2 q2
end
def vF(X:Cx)(id:String)(r:V->List V->Hp->VK->Prop):Prop:=
 ∀(pins:List (Addr×Obj)) (s:Shared) (σ:St) (H:Hp) (x:V) (xs:List V) (v:Value) (us:List Value) (Q:VK),Inv X pins σ H s->RelV x v->Vals xs us->r x xs H Q->
  wpAny (model X.prog X.w) X.A (call (.builtin id) (v::us)) (EP X pins σ Q) X.xe s
theorem Vals.one:∀{x:V}{us:List Value},Vals [x] us->∃u,us=[u]/\RelV x u
 |_,_,.cons r .nil=>⟨_,rfl,r⟩
theorem Vals.zero:∀{us:List Value},Vals [] us->us=[]
 |_,.nil=>rfl
theorem Vals.dropLast{xs:List V}{us:List Value}(h:Vals xs us):Vals xs.dropLast us.dropLast:=by
 induction h with
 |nil=>exact .nil
 |cons r t ih=>
  cases t with
  |nil=>exact .nil
  |cons q t'=>exact .cons r ih
theorem Vals.rep{xs:List V}{us:List Value}(h:Vals xs us):∀k:Nat,Vals (List.replicate k xs).flatten (List.replicate k us).flatten
 | 0=>.nil
 |k+1=>by
  rw[zaZ,zaZ,zbs,zbs];exact Vals.append h<|Vals.rep h k
theorem QI{α:Type}(l:List α):l.eraseIdx (l.length - 1)=l.dropLast:=by
 induction l with
 |nil=>rfl
 |cons a r ih=>
  cases r with
  |nil=>rfl
  |cons b r=>
   have e:(a::b::r).length - 1=((b::r).length - 1)+1:=by
    have h1:(a::b::r).length=r.length+2:=rfl;have h2:(b::r).length=r.length+1:=rfl;omega
   rw[e,List.eraseIdx_cons_succ,ih]
   all_goals rfl
theorem foldl_rep(ao:List Value):∀(k:Nat) (acc:List Value),
  List.foldl (fun x1 x2=>x1++x2) acc.toArray (List.replicate k ao.toArray)=(acc++(List.replicate k ao).flatten).toArray
 | 0,acc=>by simp
 |k+1,acc=>by
  have e:acc.toArray++ao.toArray=(acc++ao).toArray:=by simp
  have e2:(acc++ao)++(List.replicate k ao).flatten=acc++(List.replicate (k+1) ao).flatten:=by
   rw[zaZ,zbs,zaj]
  rw[<-e2,<-foldl_rep ao k (acc++ao),<-e,zaZ,zbJ]
section
variable {X:Cx}{pins:List (Addr×Obj)}{σ:St}{H:Hp}{s:Shared}{l b:Addr}{xs ys zs:List V}
theorem Inv.vG{ao ig:List Value}{n:Nat}{f:Array Value->Array Value}{t':Nat}(I:Inv X pins σ H s)(hH:H l=some (.lst xs))
  (e:s.heap.get? l=some {cls:=.type "list",data:=.seq ao.toArray n}) (hf:f ao.toArray=ig.toArray) (hv:Vals ys ig) (hz:ys.length<=sizeLine):
  Inv X pins σ (upd H l<|.lst ys) {s with heap:=s.heap.update l (Obj.mapSeq f),toks:=t'}:=by
 have q:=PySem.IsL.update e f;rw[hf] at q;refine I.write (x:=l) (e:=l) (by rw[hH];exact trivial) (.inl rfl) (fun b' u hb hu=>(Heap.get?_update_other s.heap (Obj.mapSeq f)<|Ne.symm hb).trans hu) ⟨_,q⟩ ?_
 exact⟨hz,ig,_,hv,q⟩
theorem Inv.E8{ao:List Value}{t':Nat}(I:Inv X pins σ H s)(hv:Vals ys ao)(hz:ys.length<=sizeLine):
  Inv X pins σ (upd H s.heap.objs.size<|.lst ys) {s with heap:=s.heap.push {cls:=.type "list",data:=.seq ao.toArray},toks:=t'}:=
 I.laid (fun _ _ q=>Heap.get?_push_of_some _ q) (zqR _) ⟨hz,ao,0,hv,Heap.get?_push_size _ rfl⟩
theorem Inv.fresh(I:Inv X pins σ H s):H s.heap.objs.size=none:=I.aD.fresh (zqR _)
theorem Inv.mX(I:Inv X pins σ H s)(hH:H l=some (.lst xs)):xs.length<=sizeLine/\∃(ao:List Value) (n:Nat),Vals xs ao/\xs.length=ao.length/\s.heap.get? l=some {cls:=.type "list",data:=.seq ao.toArray n}:=by
 obtain⟨z,ao,n,r,e⟩:=I.aD l _ hH;exact⟨z,ao,n,r,r.length,e⟩
theorem E9{n:Nat}(h:n<=sizeLine):Builtin.List.listTooLong n=false:=by
 unfold Builtin.List.listTooLong;exact zqF (by omega)
end
section
variable {X:Cx}
def QJ:V->List V->Hp->VK->Prop:=fun x vs H Q=>∃l xs y,x=.ref l/\vs=[y]/\H l=some (.lst xs)/\xs.length<sizeLine/\Q .aC (upd H l<|.lst<|xs++[y])
theorem QK:vF X "list.append" QJ:=by
 intro pins s σ H x vs v us Q I rx rv h;obtain⟨l,xs,y,rfl,rfl,hH,hz,q⟩:=h;cases rx;obtain⟨u,rfl,ru⟩:=rv.one;obtain⟨z,ao,n,r,hl,e⟩:=I.mX hH;refine call_meets F.slot_list_append ⟨_,e,rfl⟩ F.entry_list_append (F.args_list_append_2 _ _) (PySem.list_append l ao.toArray n u (by rw[zae];omega)) ⟨e,?_⟩
 refine⟨.aC,_,I.vG (ig:=ao++[u]) hH e (by simp) (r.append<|.cons ru .nil) ?_,rfl,q⟩
 rw[zqA,zaL];omega
def QL:V->List V->Hp->VK->Prop:=fun x vs H Q=>∃l b xs zs,x=.ref l/\vs=[.ref b]/\H l=some (.lst xs)/\H b=some (.lst zs)/\xs.length+zs.length<=sizeLine/\Q .aC (upd H l<|.lst<|xs++zs)
theorem QM:vF X "list.extend" QL:=by
 intro pins s σ H x vs v us Q I rx rv h;obtain⟨l,b,xs,zs,rfl,rfl,hH,hB,hz,q⟩:=h;cases rx;obtain⟨u,rfl,ru⟩:=rv.one;cases ru;obtain⟨z,ao,n,r,hl,e⟩:=I.mX hH;obtain⟨z2,eI,n2,r2,dH,e2⟩:=I.mX hB;have hsz:ao.toArray.size+eI.toArray.size<=sizeLine:=by rw[zae,zae];omega
 have zH:¬(!ao.toArray.isEmpty && Builtin.List.listTooLong (ao.toArray.size+eI.toArray.size))=true:=by
  rw[E9 hsz,Bool.and_false];exact zas
 refine call_meets F.slot_list_extend ⟨_,e,rfl⟩ F.entry_list_extend (F.args_list_extend_2 _ _)
  (AutoSeq1.list_extend_list_list_0 l ao.toArray n b eI.toArray n2 zH (by rw[zae];omega) (by omega)) ⟨e,e2,?_⟩
 refine⟨.aC,_,I.vG (ig:=ao++eI) hH e (by simp) (r.append r2) ?_,rfl,q⟩
 rw[zqA];omega
def QN:V->List V->Hp->VK->Prop:=fun x vs H Q=>∃l xs y,x=.ref l/\vs=[]/\H l=some (.lst xs)/\xs[xs.length - 1]?=some y/\Q y (upd H l<|.lst xs.dropLast)
theorem QO:vF X "list.pop" QN:=by
 intro pins s σ H x vs v us Q I rx rv h;obtain⟨l,xs,y,rfl,rfl,hH,hy,q⟩:=h;cases rx;have zI:=rv.zero;subst zI;obtain⟨z,ao,n,r,hl,e⟩:=I.mX hH;obtain⟨u,hu,ru⟩:=r.get hy;have sQ:ao.toArray[ao.toArray.size - 1]?=some u:=by
  show ao.toArray[ao.length - 1]?=some u;rw[<-Array.getElem?_toList,<-hl];exact hu
 refine call_meets F.slot_list_pop ⟨_,e,rfl⟩ F.entry_list_pop (F.args_list_pop_1 _) (MeetsSeq.list_pop_last l ao.toArray n u sQ (by rw[zae];omega)) ⟨e,?_⟩
 refine⟨y,_,I.vG (ig:=ao.dropLast) hH e ?_ r.dropLast ?_,ru,q⟩
 ·show ao.toArray.eraseIdxIfInBounds (ao.toArray.size - 1)=ao.dropLast.toArray;rw[zae,List.eraseIdxIfInBounds_toArray,QI]
 ·rw[zbU];omega
def QP:V->List V->Hp->VK->Prop:=fun x vs H Q=>∃l xs,x=.ref l/\vs=[]/\H l=some (.lst xs)/\Q .aC (upd H l<|.lst [])
theorem QR:vF X "list.clear" QP:=by
 intro pins s σ H x vs v us Q I rx rv h;obtain⟨l,xs,rfl,rfl,hH,q⟩:=h;cases rx;have zI:=rv.zero;subst zI;obtain⟨z,ao,n,r,hl,e⟩:=I.mX hH;refine call_meets F.slot_list_clear ⟨_,e,rfl⟩ F.entry_list_clear (F.args_list_clear_1 _) (AutoSeq1.list_clear_list_0 l ao.toArray n (by rw[zae];omega)) ⟨e,?_⟩
 exact⟨.aC,_,I.vG (ig:=[]) (ys:=[]) hH e rfl .nil<|zqZ _,rfl,q⟩
def E_:R2:=fun x y H Q=>∃l b xs zs,x=.ref l/\y=.ref b/\H l=some (.lst xs)/\H b=some (.lst zs)/\xs.length+zs.length<=sizeLine/\∀p,H p=none->Q (.ref p) (upd H p<|.lst<|xs++zs)
theorem QS:bh X (binaryOp .Add) E_:=by
 intro pins s σ H x y v u Q I rx ry h;obtain⟨l,b,xs,zs,rfl,rfl,hH,hB,hz,q⟩:=h;cases rx;cases ry;obtain⟨z,ao,n,r,hl,e⟩:=I.mX hH;obtain⟨z2,eI,n2,r2,dH,e2⟩:=I.mX hB;refine PySem.P.add_list e e2 ?_ (by rw[zae,zae];omega)
 have ea:ao.toArray++eI.toArray=(ao++eI).toArray:=by simp
 rw[ea];exact⟨.ref _,_,I.E8 (t':=s.toks) (r.append r2) (by rw[zqA];omega),rfl,q _ I.fresh⟩
def Fb:R2:=fun x y H Q=>∃l k xs,x=.ref l/\y=.int k/\H l=some (.lst xs)/\ -(2 ^ 63)<=k/\k<2 ^ 63/\xs.length*k.toNat<=sizeLine/\
 ∀p,H p=none->Q (.ref p) (upd H p<|.lst (List.replicate k.toNat xs).flatten)
theorem len_rep{α:Type}(xs:List α)(k:Nat):(List.replicate k xs).flatten.length=k*xs.length:=by
 induction k with
 |zero=>simp
 |succ k ih=>rw[zaZ,zbs,zqA,ih,Nat.succ_mul,Nat.add_comm]
theorem QU:bh X (binaryOp .Mult) Fb:=by
 intro pins s σ H x y v u Q I rx ry h;obtain⟨l,k,xs,rfl,rfl,hH,h1,h2,hz,q⟩:=h;cases rx;obtain⟨t,rfl⟩:=ry;obtain⟨z,ao,n,r,hl,e⟩:=I.mX hH;have hlen:ao.toArray.size*k.toNat<=sizeLine:=by rw[zae,<-hl];exact hz
 have QV:¬ao.toArray.size*k.toNat>(2 ^ 63 - 1) / 8:=by
  have:(sizeLine:Nat)<= (2 ^ 63 - 1) / 8:=by decide
  omega
 have QW:¬(!Builtin.List.listFitsIndex k)=true:=by
  rw[fitsIndex_both h1 h2];exact zas
 have zH:¬Builtin.List.listTooLong (ao.toArray.size*k.toNat)=true:=by
  rw[E9 hlen];exact zas
 have QX:List.foldl (fun x1 x2=>x1++x2) #[] (List.replicate (if ao.toArray.isEmpty=true then 0 else k.toNat) ao.toArray)=(List.replicate k.toNat ao).flatten.toArray:=by
  have f0:∀m:Nat,List.foldl (fun x1 x2=>x1++x2) #[] (List.replicate m ao.toArray)=(List.replicate m ao).flatten.toArray:=fun m=>by
   have:=foldl_rep ao m [];rw[zbK] at this;exact this
  rw[f0];cases ao with
  |nil=>simp
  |cons a r'=>rw[if_neg (by simp)]
 refine wpAny_binaryOp_repeat_ref (T:="list") (U:="int") (by decide) ⟨_,e,rfl⟩ (fun s'=>typeIs_int s' k t) noFill_list_mul F.fills_int_mul F.slot_int_rmul repeat_list F.slot_int_index.lookup
  (call_meets F.slot_int_rmul (typeIs_int s k t) F.entry_int_rmul (F.args_int_rmul_2 _ _) (int___rmul___int_list k t l ao.toArray n)
   ⟨e,rfl,⟨_,e,rfl⟩,call_meets F.slot_list_mul ⟨_,e,rfl⟩ F.entry_list_mul (F.args_list_mul_2 _ _) (AutoListH.list___mul___list_int_3 l ao.toArray n k t QW QV zH) ⟨e,?_⟩⟩)
 rw[QX];exact⟨.ref _,_,I.E8 (t':=s.toks) (r.rep k.toNat) (by rw[len_rep,Nat.mul_comm];exact hz),rfl,q _ I.fresh⟩
end
end L2
namespace Fc
open PySem PySem.W PySem.Calls PyProof.Rows
theorem QY{P:Params}{h:Heap}:∀(ns:List Int) (vs:List Value),WellAll P h vs (ns.map WData.int)->IntsAre vs ns:=by
 intro ns
 induction ns with
 |nil=>
  intro vs w;rw[zaY] at w;cases w;exact .nil
 |cons n ns ih=>
  intro vs w;rw[zar] at w;cases w with
  |cons a b=>
   cases a;exact .cons _ _<|ih _ b
theorem QZ{l:OpenLaw}{n:Nat}(hn:l.most=some n){P:Params}{h:Heap}{args:List WData}{vals:List Value}
  (lT:l.row.toRowW.claim.pre args=true) (vH:WellAll P h vals args):
  ∃a vs ns,vals=[Value.ref a]/\args=[WData.list<|ns.map WData.int]/\h.get? a=some {cls:=.type "list",data:=.seq vs.toArray}/\IntsAre vs ns/\ns.length<=n:=by
 have Q0:WShape.hasAll [] args [.list .int]=true:=(pre_splitW lT).1;have hc:l.pre.holds [] {args:=args}=true:=(pre_splitW lT).2;obtain⟨d,r,rfl,h1,h2⟩:=hasAllW_cons Q0;obtain rfl:=hasAllW_nil h2;obtain⟨xs,rfl,h3⟩:=hasW_list h1;obtain⟨ns,rfl⟩:=items_int h3;have hlen:ns.length<=n:=by
  unfold OpenLaw.pre at hc;have h4:(WTm.not<|.lt (.lit<|.int (n:Int))<|.len<|.arg 0).holds [] {args:=[.list<|ns.map .int]}=true:=by
   have h4:=(holds_andW hc).1;rw[hn] at h4;exact h4
  have h5:=condW_of h4 (w_not<|w_lt w_lit<|w_len_list<|w_arg rfl);rw[zad] at h5;refine Nat.le_of_not_lt fun q=>?_;have q':(n:Int) < ((ns.length:Nat):Int):=by omega
  first
   |(rw[zqT q'] at h5;exact absurd h5 (by decide))
   |(simp at h5;omega)
 cases vH with
 |cons w1 w2=>
  cases w2;cases w1 with
  |list ho qR=>exact⟨_,_,ns,rfl,rfl,ho,QY ns _ qR,hlen⟩
theorem Q2(l:OpenLaw)(args:List WData):l.row.toRowW.claim.post args (.bool true) args=true:=
 postW_of (r:=l.row.toRowW) (X:=(true==true))
  (show WShape.has [] (.bool true) .bool=true by first|rfl|decide|simp[WShape.has,WShape.arms,WShape.armsAll])
  (show(WTm.eq .res<|.lit<|.bool true).value [] {args:=args,res:=some (.bool true),after:=args}=some (.bool<|true==true) from w_eq_bool (w_res rfl) w_lit) rfl
theorem Q3{l:OpenLaw}{n:Nat}{q:Program}{loose:List Str}{XP:(Str->Option Value)->Heap->Prop}{YP:World->Heap->Prop}{d:DefRec}
  (hn:l.most=some n) (sR:d.params.defaults=[])
  (call:∀(w:World) (s₀ s₁:Shared) (mg mb:Str->Option Value) (fa:Addr) (o:Obj) (pm cd doc:Value) (a:Addr) (vs:List Value) (ns:List Int),
   Ground q loose [] XP w s₀ mg mb s₁.heap->YP w s₁.heap->
   s₁.heap.get? fa=some o->o.data=.func (docDef d.name d.params d.body d.scope pm cd doc)->s₁.heap.CodeRec cd d.name->mg d.name=some (.ref fa)->
   s₁.heap.get? a=some {cls:=.type "list",data:=.seq vs.toArray}->IntsAre vs ns->ns.length<=n->s₁.gens= #[]->
   codeAny (model l.prog w) callerA (.call (.ref fa) ⟨[.ref a],[]⟩) (fun r s'=>r=.ok (.ret (.bool true))/\OldK s₁.heap s'.heap/\s'.os=s₁.os/\AllBare s'.gens) s₁):
  WalkO q loose XP YP l.row.toRowW d [] (fun f vs=>PySem.call f vs):=by
 intro w s₀ s₁ mg mb G Y fa o pm cd doc dV kV ho hd kq hD sS hg args vals as lT afi hrd vH vI;obtain rfl:dV=.none:=Dflts.none hD sR;obtain rfl:kV=.none:=Dflts.noKw hD;obtain⟨a,vs,ns,rfl,rfl,zJ,hints,hlen⟩:=QZ hn lT vH;refine enter_call<|codeAny_mono (call w s₀ s₁ mg mb fa o pm cd doc a vs ns G Y ho (fd_plain hd) kq sS zJ hints hlen hg) fun r s' hq=>?_;obtain⟨rfl,h2,h3,h4⟩:=hq;exact⟨.inl ⟨.bool true,.bool true,[],rfl,fun _=>rfl,.bool true,Q2 l _,fun _=>⟨List.Pairwise.nil,fun _ hm=>(nomatch hm)⟩⟩,h2,h3,h4⟩
section
variable {prog:Program}{w:World}{A:Around}{E:Value->Shared->Prop}{s:Shared}{K:Frag}
end
end Fc
namespace L2
open PySem PySem.Spec PyProof.Rows
theorem Fd:∀{vs:List Value}{ns:List Int},IntsAre vs ns->Vals (ns.map V.int) vs
 |_,_,.nil=>.nil
 |_,_,.cons n t h=>.cons ⟨t,rfl⟩ (Fd h)
def zK(H:Hp):Prop:= ∀b,H b=none\/∃o xs,H b=some (.bV o<|.lst xs)
theorem Q4{P:Program}{w:World}{K:Frag}{mg mb:Str->Option Value}{CX:bZ}{k:Nat}{fa a:Addr}{fd:FuncData}{x:Str}{sp:Sp}{s₁:Shared}{vs:List Value}{ns:List Int}
  (KX:K.In s₁.heap) (vJ:s₁.heap.Ns mainGlobals mg) (hb:s₁.heap.Ns builtinsNs mb) (Q5:∀x:Str,x≠"__name__"->mb x=bootBuiltins x) (Q6:s₁.heap.NoLimit) (hg:s₁.gens= #[])
  (ha:s₁.heap.get? a=some {cls:=.type "list",data:=.seq vs.toArray}) (hi:IntsAre vs ns) (hl:ns.length<=sizeLine) (hr:dh k callerA)
  (F:∀base:Heap,K.In base->base.Ns mainGlobals mg->cE P w K mg base CX k fa fd [x] sp) (Q7:∀(s:Shared) (u:Value),BindsTo s fd ⟨[u],[]⟩ [(x,u)])
  (mW:∀H:Hp,zK H->au K H a (ns.map V.int)->sp [.ref a] H (fun v _=>v=.bl true) fun _ _ _=>False)
  (zL:∀H e s',CX [] H s₁ (fun _ _ _=>False) e s'->False):
  codeAny (model P w) callerA (.call (.ref fa) ⟨[.ref a],[]⟩) (fun r s'=>r=.ok (.ret<|.bool true)/\OldK s₁.heap s'.heap/\s'.os=s₁.os/\AllBare s'.gens) s₁:=by
 have rv:=Fd hi;have sT:=hi.length;have core:∀H:Hp,zK H->au K H a (ns.map V.int)->cf P w H s₁.heap->(∀b,H b≠none->b=a)->(H a≠none->K.lookup a=none)->
   codeAny (model P w) callerA (.call (.ref fa) ⟨[.ref a],[]⟩) (fun r s'=>r=.ok (.ret<|.bool true)/\OldK s₁.heap s'.heap/\s'.os=s₁.os/\AllBare s'.gens) s₁:=by
  intro H hO hS aD hA hK;have oP:∀{b:Addr}{o:Obj},s₁.heap.get? b=some o->H b=none->(lO s₁.heap H).get? b=some o:=fun e n=>Oq e n;have sO:∀{b:Addr}{o:Obj}{es:Array DictEntry}{ep:Nat},s₁.heap.get? b=some o->o.data=.dict es ep->H b=none:=fun {b o es ep} e d=>by
   cases q:H b with
   |none=>rfl
   |some u=>
    have e':b=a:=hA b (by rw[q];simp)
    subst e';rw[ha] at e;cases e;have d':Data.seq vs.toArray _=Data.dict es ep:=d;cases d'
  have vK:∀{b:Addr}{m:Str->Option Value},s₁.heap.Ns b m->(lO s₁.heap H).Ns b m:=fun {b m} ⟨o,es,ep,e,d,r⟩=>⟨o,es,ep,oP e<|sO e d,d,r⟩;have Fe:K.In (lO s₁.heap H):=fun b o e=>oP (KX b o e) (by
   cases q:H b with
   |none=>rfl
   |some u=>
    have e':b=a:=hA b (by rw[q];simp)
    subst e';rw[hK (by rw[q];simp)] at e;cases e)
  have hM:Mod K mg (lO s₁.heap H):=⟨Fe,vK vJ,⟨mb,vK hb,Q5⟩,let ⟨mc,h1,h2⟩:=Q6;⟨mc,vK h1,h2⟩⟩;have e0:mV P w K mg (lO s₁.heap H) callerA [] s₁ H:=⟨rfl,hM,fun b o e=>Ot e,Nat.le_of_eq<|Oo _ _,trivial,fun b hb=>absurd (show b∈ ([]:List Addr) from hb) (by simp),aD,.of_eq hg⟩
  refine codeAny_mono ((F _ Fe<|vK vJ).run callerA [] s₁ H ⟨[.ref a],[]⟩ [.ref a] [.ref a] _ _ hr e0 (Q7 s₁<|.ref a) (.cons rfl .nil)<|mW H hO hS) fun r s' h=>?_;cases r with
  |error e=>exact(zL H e s' h).elim
  |ok fl=>
   cases fl with
   |next=>exact False.elim h
   |brk=>exact False.elim h
   |cont=>exact False.elim h
   |ret u=>
    obtain⟨v,H',os,bare,un,Q8,r',q⟩:=h;have q':v=.bl true:=q;subst q';obtain rfl:u=Value.bool true:=r';refine⟨rfl,OldK.of_keep fun b o e=>?_,os,bare⟩;cases q:H b with
    |none=>exact un.keep b o e q (by intro z;exact absurd (show b∈ ([]:List Addr) from z) (by simp)) (by simp)
    |some u=>
     rcases hO b with z|⟨ob,xs,z⟩
     ·rw[q] at z;cases z
     ·have z2:=un.ie b ob _ z;obtain⟨e1,_⟩:=aD b _ z;obtain⟨e2,_⟩:=Q8 b _ z2;rw[e] at e1;cases e1;exact e2
 cases hk:K.lookup a with
 |some o=>
  have e:=KX a o hk;rw[ha] at e;cases e;refine core (fun _=>none) (fun _=>.inl rfl) (.inr ⟨_,vs.toArray,_,hk,rfl,rfl,rfl,by rw[zae,sT];exact hl,by simpa using rv⟩) (fun b u z=>by have z':(none:Option HO)=some u:=z;cases z') (fun b z=>absurd rfl z) fun z=>absurd rfl z
 |none=>
  refine core (fun b=>if b=a then some (.bV {cls:=.type "list",data:=.seq vs.toArray}<|.lst<|ns.map V.int) else none) (fun b=>?_) (.inl<|.inr ⟨{cls:=.type "list",data:=.seq vs.toArray},if_pos rfl⟩) (fun b u z=>?_) (fun b z=>?_) fun _=>hk
  ·by_cases hb:b=a
   ·exact .inr ⟨_,_,if_pos hb⟩
   ·exact .inl (if_neg hb)
  ·by_cases hb:b=a
   ·have z':=(if_pos hb).symm.trans z;cases z';subst hb;exact⟨ha,by rw[zad];exact hl,vs,_,rv,ha⟩
   ·have z':=(if_neg hb).symm.trans z;cases z'
  ·by_cases hb:b=a
   ·exact hb
   ·exact absurd (if_neg hb) z
theorem Q9{l:PySem.W.OpenLaw}{n k:Nat}{q:Program}{loose:List Str}{XP:(Str->Option Value)->Heap->Prop}{YP:World->Heap->Prop}{d:DefRec}{K:Params->Frag}{CX:World->bZ}{sp:World->Sp}{x:Str}
  (hn:l.most=some n) (i9:n<=sizeLine) (sR:d.params.defaults=[]) (hr:dh k callerA)
  (hY:∀(w:World) (h:Heap),YP w h->(K w.params).In h)
  (F:∀(w:World) (mg:Str->Option Value) (fa:Addr) (h:Heap),(K w.params).In h->h.Ns mainGlobals mg->mg d.name=some (.ref fa)->
   ∃fd:FuncData,(∀(s:Shared) (u:Value),BindsTo s fd ⟨[u],[]⟩ [(x,u)])/\
    ∀base:Heap,(K w.params).In base->base.Ns mainGlobals mg->cE l.prog w (K w.params) mg base (CX w) k fa fd [x] (sp w))
  (mW:∀(w:World) (H:Hp) (a:Addr) (ns:List Int),ns.length<=n->zK H->au (K w.params) H a (ns.map V.int)->sp w [.ref a] H (fun v _=>v=.bl true) fun _ _ _=>False)
  (zL:∀(w:World) (H:Hp) (s:Shared) (e:Value) (s':Shared),CX w [] H s (fun _ _ _=>False) e s'->False):
  PySem.W.WalkO q loose XP YP l.row.toRowW d [] (fun f vs=>PySem.call f vs):=by
 refine Fc.Q3 hn sR fun w s₀ s₁ mg mb fa o pm cd doc a vs ns G Y ho hd kq sS zJ hints hlen hg=>?_;have KX:=hY w _ Y;obtain⟨fd,hb,hF⟩:=F w mg fa _ KX G.T.g sS;exact Q4 KX G.T.g G.T.b G.T.builtins G.T.nolimit hg zJ hints (zat hlen i9) hr hF hb (fun H hO hS=>mW w H a ns hlen hO hS) fun H e s'=>zL w H s₁ e s'
end L2
namespace L2
open PySem PySem.Spec PyProof.Rows
def inClass(s:Stmt)(j:Nat):Stmt:=match s with
 |.ClassDef _ _ _ body _ _ _ _ _ _ _=>body.getD j (.Pass ⟨0,0,0,0⟩)
 |_=>.Pass ⟨0,0,0,0⟩
def iQ(s:Stmt):Arguments:=match s with
 |.FunctionDef _ a _ _ _ _ _ _ _ _=>a
 |_=> {posonlyargs:=[],args:=[],vararg:=none,kwonlyargs:=[],kw_defaults:=[],kwarg:=none,defaults:=[]}
def fR(s:Stmt):List Stmt:=match s with
 |.FunctionDef _ _ b _ _ _ _ _ _ _=>b
 |_=>[]
def fj(s:Stmt):Scope:=match s with
 |.FunctionDef _ _ _ _ _ _ sc _ _ _=>sc
 |_=> {kind:=.function,names:=[],isGenerator:=false,isCoroutine:=false}
abbrev sU:bZ:=fun _ _ _ _ _ _=>False
abbrev E0:XK:=fun _ _ _=>False
structure oQ (K:Frag) (x qual:Str) (st:Stmt) (f:Addr) (fd:FuncData):Prop where
 ex:∃(oc:Value) (od:Option Addr) (kV doc pm:Value) (an:Option Addr) (bz ct:Value) (iO:Array (Option Value)),
  fd=PySem.W.fnOf x qual (iQ st) (fR st) (fj st) .none kV doc pm an bz ct/\K.lookup f=some ⟨oc,od,.func fd,iO⟩/\PySem.W.codeIn K bz qual=true
 kp:PySem.W.keepIn K (.ref f)=true
section
variable {P:Program}{w:World}{K:Frag}{mg:Str->Option Value}{base:Heap}
theorem oQ.binds{x qual:Str}{st:Stmt}{f:Addr}{fd:FuncData}{ps:List Str}(F:oQ K x qual st f fd)
  (h:∀(kV doc pm:Value) (an:Option Addr) (bz ct:Value) (us:List Value),us.length=ps.length->bindArgs (PySem.W.fnOf x qual (iQ st) (fR st) (fj st) .none kV doc pm an bz ct) ⟨us,[]⟩=pure (ps.zip us)):Binds K fd ps []:=by
 obtain⟨oc,od,kV,doc,pm,an,bz,ct,iO,rfl,lk,kq⟩:=F.ex;exact .all<|h kV doc pm an bz ct
theorem Ff{x qual:Str}{st:Stmt}{f:Addr}{oc:Value}{od an:Option Addr}{iO:Array (Option Value)}{kV doc pm bz ct:Value}(l:K.lookup f=some ⟨oc,od,.func<|PySem.W.fnOf x qual (iQ st) (fR st) (fj st) .none kV doc pm an bz ct,iO⟩)
  (c:PySem.W.codeIn K bz qual=true) (k:PySem.W.keepIn K (.ref f)=true):oQ K x qual st f (PySem.W.fnOf x qual (iQ st) (fR st) (fj st) .none kV doc pm an bz ct):=⟨⟨oc,od,kV,doc,pm,an,bz,ct,iO,rfl,l,c⟩,k⟩
end
theorem gU{A B:Prop}(h:B):if false=true then A else B:=by
 rw[if_neg zas];exact h
theorem fk{A B:Prop}(h:A):if true=true then A else B:=by
 rw[if_pos rfl];exact h
theorem jE{c A B:Prop}[Decidable c](h1:c->A)(h2:¬c->B):if c then A else B:=by
 by_cases h:c
 ·rw[if_pos h];exact h1 h
 ·rw[if_neg h];exact h2 h
def ay(H H':Hp):Prop:= ∀b o,H b=some o->H' b=some o
theorem ay.refl(H:Hp):ay H H:=fun _ _ h=>h
theorem ay.trans{H H1 H2:Hp}(a:ay H H1)(b:ay H1 H2):ay H H2:=fun c o h=>b c o (a c o h)
theorem ay.free{H H':Hp}(e:ay H H'){l:Addr}(h:H' l=Option.none):H l=Option.none:=by
 cases q:H l with
 |none=>rfl
 |some o=>
  rw[e l o q] at h;cases h
theorem ay.seq{K:Frag}{H H':Hp}{a:Addr}{xs:List V}(e:ay H H')(h:au K H a xs):au K H' a xs:=by
 rcases h with(h|⟨o,h⟩)|h
 ·exact .inl (.inl<|e _ _ h)
 ·exact .inl (.inr ⟨o,e _ _ h⟩)
 ·exact .inr h
section
variable {κ:Type} [DecidableEq κ]
def eJ(kvs:List (κ×V))(k:κ):Option V:=(kvs.find? fun kv=>decide (kv.1=k)).map (·.2)
def putK(kvs:List (κ×V))(k:κ)(v:V):List (κ×V):=
 if (kvs.any fun kv=>decide (kv.1=k))=true then kvs.map (fun kv=>if kv.1=k then (kv.1,v) else kv) else kvs++[(k,v)]
theorem oR{p:κ×V}{r:List (κ×V)}{k:κ}(e:p.1=k):eJ (p::r) k=some p.2:=by simp[eJ,zaM,e]
theorem lU{p:κ×V}{r:List (κ×V)}{k:κ}(e:¬p.1=k):eJ (p::r) k=eJ r k:=by simp[eJ,zaM,e]
theorem sV(k:κ):∀kvs:List (κ×V),(kvs.any fun kv=>decide (kv.1=k))=(eJ kvs k).isSome
 |[]=>rfl
 |p::r=>by
  rw[zbr];by_cases e:p.1=k
  ·simp only[oR e,zqT e,Bool.true_or,Option.isSome_some]
  ·rw[lU e,zqF e,Bool.false_or];exact sV k r
theorem zM(kvs:List (κ×V))(k:κ)(v:V):(putK kvs k v).length<=kvs.length+1:=by
 unfold putK
 split
 ·rw[zad];omega
 ·rw[zqA,zak,zaU];omega
theorem vL{kvs:List (κ×V)}{k:κ}(v:V)(h:eJ kvs k=none):putK kvs k v=kvs++[(k,v)]:=by
 unfold putK;rw[sV,h];exact if_neg (by decide)
theorem gm.zN{o:Option V}{u:Option Value}(r:gm o u):o.isSome=u.isSome:=by
 cases o with
 |none=>cases u with
  |none=>rfl
  |some _=>exact(show False from r).elim
 |some _=>cases u with
  |none=>exact(show False from r).elim
  |some _=>rfl
theorem KV.val{kvs:List (κ×V)}{vs:List (κ×Value)}(r:KV kvs vs)(k:κ):gm (eJ kvs k) (valueAt vs k):=by
 unfold KV at r
 induction r with
 |nil=>exact True.intro
 | @cons p q ps qs h t ih=>
  obtain⟨h1,h2⟩:=h;by_cases e:p.1=k
  ·have e':q.1=k:=h1.symm.trans e;have b:valueAt (q::qs) k=some q.2:=by simp[valueAt,zaM,e']
   rw[oR e,b];exact h2
  ·have e':¬q.1=k:=fun z=>e (h1.trans z);have b:valueAt (q::qs) k=valueAt qs k:=by simp[valueAt,zaM,e']
   rw[lU e,b];exact ih
theorem KV.any{kvs:List (κ×V)}{vs:List (κ×Value)}(r:KV kvs vs)(k:κ):(kvs.any fun kv=>decide (kv.1=k))=vs.any fun kv=>decide (kv.1=k):=by
 unfold KV at r
 induction r with
 |nil=>rfl
 |cons h t ih=>rw[zbr,zbr,ih,h.1]
theorem KV.zO{kvs:List (κ×V)}{vs:List (κ×Value)}(r:KV kvs vs)(k:κ){y:V}{u:Value}(ry:RelV y u):
  KV (kvs.map fun kv=>if kv.1=k then (kv.1,y) else kv) (vs.map fun kv=>if kv.1=k then (kv.1,u) else kv):=by
 unfold KV at r⊢
 induction r with
 |nil=>exact .nil
 | @cons p q ps qs h t ih=>
  rw[zar,zar];refine .cons ?_ ih;obtain⟨h1,h2⟩:=h;by_cases e:p.1=k
  ·rw[if_pos e,if_pos<|h1.symm.trans e];exact⟨h1,ry⟩
  ·rw[if_neg e,if_neg<|fun z=>e<|h1.trans z];exact⟨h1,h2⟩
theorem KV.put{kvs:List (κ×V)}{vs:List (κ×Value)}(r:KV kvs vs)(k:κ){y:V}{u:Value}(ry:RelV y u):KV (putK kvs k y) (stored vs k u):=by
 unfold putK stored;rw[r.any k];by_cases e:(vs.any fun kv=>decide (kv.1=k))=true
 ·rw[if_pos e,if_pos e];exact r.zO k ry
 ·rw[if_neg e,if_neg e];exact Paired.snoc r ⟨rfl,ry⟩
theorem KV.length{kvs:List (κ×V)}{vs:List (κ×Value)}(r:KV kvs vs):kvs.length=vs.length:=Paired.length r
end
theorem sW{P:Program}{w:World}{k:Key}{u:Value}(r:RelV (kV k) u):(dB P w).is k u=true:=by
 cases k with
 |inl i=>obtain⟨t,e⟩:=(show ∃t,u=Value.int i t from r);subst e;exact DR P w i t
 |inr x=>obtain⟨t,e⟩:=(show ∃t,u=Value.str x t from r);subst e;exact vf P w x t
theorem Fh{P:Program}{w:World}:∀{ks:List Key}{us:List Value},Vals (ks.map kV) us->ItemsAre (dB P w) ks us
 |[],_,r=>by rw[zaY] at r;cases r;exact .nil
 |k::ks,_,r=>by
  rw[zar] at r;cases r with
  |cons h t=>exact .cons (sW h) (Fh t)
abbrev KT(H:Hp):List (List Key×V)->List (List Key×Addr×Value)->Prop:=Paired fun p q=>p.1=q.1/\H q.2.1=some (.tup<|p.1.map kV)/\RelV p.2 q.2.2
theorem KT.val{H:Hp}{kvs:List (List Key×V)}{xs:List (List Key×Addr×Value)}(r:KT H kvs xs)(k:List Key):gm (eJ kvs k) ((atKey xs k).map (·.2)):=by
 induction r with
 |nil=>exact True.intro
 | @cons p q ps qs h t ih=>
  obtain⟨h1,_,h2⟩:=h;by_cases e:p.1=k
  ·have e':q.1=k:=h1.symm.trans e;have b:atKey (q::qs) k=some q.2:=by simp[atKey,zaM,e']
   rw[oR e,b];exact h2
  ·have e':¬q.1=k:=fun z=>e (h1.trans z);have b:atKey (q::qs) k=atKey qs k:=by simp[atKey,zaM,e']
   rw[lU e,b];exact ih
theorem KT.zO{H:Hp}{kvs:List (List Key×V)}{xs:List (List Key×Addr×Value)}(r:KT H kvs xs)(k:List Key){y:V}{u:Value}(ry:RelV y u):
  KT H (kvs.map fun kv=>if kv.1=k then (kv.1,y) else kv) (xs.map<|putAt k u):=by
 induction r with
 |nil=>exact .nil
 | @cons p q ps qs h t ih=>
  rw[zar,zar];refine .cons ?_ ih;obtain⟨h1,h2,h3⟩:=h;unfold putAt;by_cases e:p.1=k
  ·rw[if_pos e,if_pos<|h1.symm.trans e];exact⟨h1,h2,ry⟩
  ·rw[if_neg e,if_neg<|fun z=>e<|h1.trans z];exact⟨h1,h2,h3⟩
theorem KT.put{H:Hp}{kvs:List (List Key×V)}{xs:List (List Key×Addr×Value)}(r:KT H kvs xs)(k:List Key){b:Addr}{y:V}{u:Value}(hb:H b=some (.tup<|k.map kV))(ry:RelV y u):
  KT H (putK kvs k y) (storedH xs k b u):=by
 have e:(kvs.any fun kv=>decide (kv.1=k))=(atKey xs k).isSome:=by
  rw[sV,(r.val k).zN,Option.isSome_map]
 unfold putK storedH;rw[e];by_cases q:(atKey xs k).isSome=true
 ·rw[if_pos q,if_pos q];exact r.zO k ry
 ·rw[if_neg q,if_neg q];exact Paired.snoc r ⟨rfl,hb,ry⟩
theorem KT.keeps{H H':Hp}{kvs:List (List Key×V)}{xs:List (List Key×Addr×Value)}(r:KT H kvs xs)(ht:∀b ys,H b=some (.tup ys)->H' b=some (.tup ys)):KT H' kvs xs:=
 Paired.yV r fun _ _ z=>⟨z.1,ht _ _ z.2.1,z.2.2⟩
section
variable {P:Program}{w:World}{H:Hp}{h:Heap}{a:Addr}
theorem Fi{u:HO}(ok:cf P w H h)(e:Rd H a u):cq P w H h a u:=e.ok ok
theorem vM{kvs:List (Key×V)}(ok:cf P w H h)(e:Rd H a (.dK kvs)):kvs.length<=sizeLine/\(a==sysModules)=false/\∃vs,KV kvs vs/\h.DictOf (dB P w) a vs:=
 show cq P w H h a (.dK kvs) from Fi ok e
theorem Fj{kvs:List (Key×V)}(ok:cf P w H h)(e:H a=some (.dK kvs)):kvs.length<=sizeLine/\(a==sysModules)=false/\∃vs,KV kvs vs/\h.DictOf (dB P w) a vs:=vM ok (.inl e)
theorem vN{ks:List Key}(ok:cf P w H h)(e:H a=some (.tup<|ks.map kV)):(tupleKind<|dB P w).is h ks a:=by
 obtain⟨_,ao,r,o,h1,h2,n,h3⟩:=(show cq P w H h a (.tup<|ks.map kV) from ok a _ e)
 exact⟨o,ao.toArray,n,h1,h2,h3,by simpa using Fh r⟩
theorem vO{kvs:List (List Key×V)}(ok:cf P w H h)(e:Rd H a (.dT kvs)):kvs.length<=sizeLine/\(a==sysModules)=false/\
  ∃xs,KT H kvs xs/\h.DictOfH (tupleKind<|dB P w) a xs:=by
 obtain⟨z,y,xs,r,o,es,ep,h1,h2,h3,h4,h5⟩:=(show cq P w H h a (.dT kvs) from Fi ok e)
 refine⟨z,y,xs,r,o,es,ep,h1,h2,h3,h4,fun x hx=>?_,h5⟩;have all:∀{l:List (List Key×V)}{m:List (List Key×Addr×Value)},KT H l m->∀x∈m,(tupleKind<|dB P w).is h x.1 x.2.1:=by
  intro l m q
  induction q with
  |nil=>intro x hx;exact nomatch hx
  | @cons p q ps qs hq t ih=>
   intro x hx;rcases zaa.mp hx with e|hx
   ·subst e;exact vN ok (by rw[<-hq.1];exact hq.2.1)
   ·exact ih x hx
 exact all r x hx
theorem Q_{kvs:List (List Key×V)}(ok:cf P w H h)(e:H a=some (.dT kvs)):kvs.length<=sizeLine/\(a==sysModules)=false/\
  ∃xs,KT H kvs xs/\h.DictOfH (tupleKind<|dB P w) a xs:=vO ok (.inl e)
end
def gW(H:Hp)(a:Addr)(y:V)(r:Option V):Prop:=
 (∃kvs k,Rd H a (.dK kvs)/\y=kV k/\r=eJ kvs k)\/∃kvs k b,Rd H a (.dT kvs)/\y=.ref b/\H b=some (.tup<|k.map kV)/\r=eJ kvs k
def kx(H:Hp)(a:Addr)(y v:V)(H':Hp):Prop:=
 (∃kvs k,H a=some (.dK kvs)/\y=kV k/\kvs.length<sizeLine/\H'=upd H a (.dK<|putK kvs k v))\/
 ∃kvs k b,H a=some (.dT kvs)/\y=.ref b/\H b=some (.tup<|k.map kV)/\kvs.length<sizeLine/\H'=upd H a (.dT<|putK kvs k v)
theorem gW.k{H:Hp}{a:Addr}{kvs:List (Key×V)}{k:Key}(e:H a=some (.dK kvs)):gW H a (kV k) (eJ kvs k):=.inl ⟨kvs,k,.inl e,rfl,rfl⟩
theorem kx.k{H:Hp}{a:Addr}{kvs:List (Key×V)}{k:Key}{v:V}(e:H a=some (.dK kvs))(hl:kvs.length<sizeLine):kx H a (kV k) v (upd H a<|.dK<|putK kvs k v):=.inl ⟨kvs,k,e,rfl,hl,rfl⟩
section
variable {X:Cx}{pins:List (Addr×Obj)}{σ:St}{H:Hp}{s:Shared}{a:Addr}{y v:V}{u r:Value}{o:Option V}{A:Around}{E:Value->Shared->Prop}
theorem Inv.big(I:Inv X pins σ H s):sysModules<s.heap.objs.size:=by
 have h:mainGlobals<s.heap.objs.size:=(I.mod.glob.keeps I.bk).lt;exact Nat.lt_trans (by decide) h
theorem Ra{Q:Value->Shared->Prop}(hu:A.units+1<cLine)(I:Inv X pins σ H s)(g:gW H a y (some v))(ry:RelV y u)(h:∀w' s',Inv X pins σ H s'->RelV v w'->Q w' s'):
  wpAny (model X.prog X.w) A (getItem (.ref a) u) Q E s:=by
 rcases g with⟨kvs,k,e,ey,l⟩|⟨kvs,k,b,e,ey,eb,l⟩
 ·subst ey;obtain⟨z,hd,vs,rel,dd⟩:=vM I.aD e;obtain⟨w',hw,iP⟩:=gm.some_of (v:=v) (o:=valueAt vs k) (by rw[l];exact rel.val k)
  exact wpAny_getItem_of (sW ry) dd.mapOf hw<|h w' _ (I.tok _) iP
 ·subst ey;cases (show u=Value.ref b from ry)
  obtain⟨z,hd,xs,rel,dd⟩:=vO I.aD e;obtain⟨w',hw,iP⟩:=gm.some_of (v:=v) (o:=(atKey xs k).map (·.2)) (by rw[l];exact rel.val k)
  obtain⟨p,hp,jc⟩:=zba.mp hw;refine wpAny_getItem_heap (tupleKind_room_in1 hu) (vN I.aD eb) dd hp ?_;rw[jc];exact h w' _ (I.tok _) iP
theorem Rb{Q:Value->Shared->Prop}(hu:A.units+1<cLine)(I:Inv X pins σ H s)(g:gW H a y o)(ry:RelV y u)(h:∀s',Inv X pins σ H s'->Q (.bool o.isSome) s'):
  wpAny (model X.prog X.w) A (compareOp .In u<|.ref a) Q E s:=by
 rcases g with⟨kvs,k,e,ey,l⟩|⟨kvs,k,b,e,ey,eb,l⟩
 ·subst ey;obtain⟨z,hd,vs,rel,dd⟩:=vM I.aD e;refine wpAny_in_of (sW ry) hd dd.mapOf ?_;rw[<-(rel.val k).zN,<-l];exact h _<|I.tok _
 ·subst ey;cases (show u=Value.ref b from ry)
  obtain⟨z,hd,xs,rel,dd⟩:=vO I.aD e;refine wpAny_in_heap (tupleKind_room_in1 hu) (vN I.aD eb) hd dd ?_;have q:=(rel.val k).zN;rw[Option.isSome_map] at q;rw[<-q,<-l];exact h _<|I.tok _
theorem zP{h':Heap}{t':Nat}{ob:HO}(I:Inv X pins σ H s)(mu:sE (H a))(hs:Heap.SameBut a s.heap h')(he:∃q,h'.get? a=some q)(new:cq X.prog X.w (upd H a ob) h' a ob):
  Inv X pins σ (upd H a ob) {s with heap:=h',toks:=t'}:=
 I.write (x:=a) (e:=a) mu (.inl rfl) (fun b q hb z=>(hs.2 b hb).trans z) he new
theorem Fm{P:Program}{w:World}{H':Hp}{h':Heap}{kvs:List (Key×V)}{vs:List (Key×Value)}(z:kvs.length<=sizeLine)(hd:(a==sysModules)=false)(rel:KV kvs vs)(dd:h'.DictOf (dB P w) a vs):
  cq P w H' h' a (.dK kvs):=⟨z,hd,vs,rel,dd⟩
theorem Rc{H':Hp}{Q:Unit->Shared->Prop}(hu:A.units+1<cLine)(I:Inv X pins σ H s)(g:kx H a y v H')(ry:RelV y u)(rv:RelV v r)(h:∀s',Inv X pins σ H' s'->Q () s'):
  wpAny (model X.prog X.w) A (setItem (.ref a) u r) Q E s:=by
 rcases g with⟨kvs,k,e,ey,l,eH⟩|⟨kvs,k,b,e,ey,eb,l,eH⟩
 ·subst ey eH;obtain⟨z,hd,vs,rel,dd⟩:=Fj I.aD e;have hz:vs.length<=sizeLine:=by rw[<-rel.length];exact z
  have hl:(putK kvs k v).length<=sizeLine:=by have:=zM kvs k v;omega
  refine wpAny_setItem_pairs (hsz:=hz) (sW ry) dd fun h' oS hs=>h _ ?_;have he:∃q,h'.get? a=some q:=let ⟨q,_,_,hq,_⟩:=oS;⟨q,hq⟩;exact zP I (by rw[e];exact True.intro) hs he<|Fm hl hd (rel.put k rv) oS
 ·subst ey eH;cases (show u=Value.ref b from ry)
  obtain⟨z,hd,xs,rel,dd⟩:=Q_ I.aD e;have hz:xs.length<=sizeLine:=by rw[<-Paired.length rel];exact z
  have hl:(putK kvs k v).length<=sizeLine:=by have:=zM kvs k v;omega
  refine wpAny_setItem_heap (hsz:=hz) (tupleKind_room_in1 hu) (vN I.aD eb) dd fun h' oS hs=>h _ ?_;obtain⟨q,es,ep,hq,h2,h3,h4,_,h5⟩:=oS;refine zP I (by rw[e];exact True.intro) hs ⟨q,hq⟩ ⟨hl,hd,_,(rel.put k eb rv).keeps fun c ys ec=>?_,q,es,ep,hq,h2,h3,h4,h5⟩
  rw[aF<|bR ec e<|fun z=>nomatch z];exact ec
end
def zQ(i:Expr):Prop:= ∀ov iv,subscripted i false ov iv=operate [ov,iv] (getItem ov iv)
theorem Rf{prog:Program}{w:World}{A:Around}{E:Value->Shared->Prop}{s:Shared}{env:Env}{value slice:Expr}{pos:Pos}{T id:String}{Q:Value->Shared->Prop}
  (hl:typeLookup (.type T) "__getitem__"=pure (some<|.builtin id)) (hs:zQ slice)
  (h:wpAny (model prog w) A (eval value env) (fun o s₁=>wpAny (model prog w) A (eval slice env) (fun i s₂=>s₂.TypeIs o T/\wpAny (model prog w) A (getItem o i) Q E s₂) E s₁) E s):
  wpAny (model prog w) A (eval (.Subscript value slice pos) env) Q E s:=by
 refine Subscript_<|wpAny_mono h (fun o s₁ h₁=>wpAny_mono h₁ (fun i s₂ h₂=>?_) fun _ _ x=>x) fun _ _ x=>x;obtain⟨hT,h₂⟩:=h₂;unfold subscriptTail;refine wpAny_bind ?_;rw[getitemInPython_of_ne hT.not_modules];refine wpAny_bind<|wpAny_specialOf hT hl ?_;have fin:wpAny (model prog w) A (subscripted slice false o i) (fun r s₃=>wpAny (model prog w) A (letTemporaryGo value o r>>=fun _=>pure r) Q E s₃) E s₂:=by
  rw[hs o i];exact wpAny_operating<|wpAny_mono h₂ (fun r s₃ h₃=>wpAny_bind<|wpAny_letTemporaryGo<|wpAny_pure h₃) fun _ _ x=>x
 first
  |exact wpAny_pure (wpAny_bind fin)
  |exact wpAny_bind (wpAny_pure<|wpAny_bind fin)
  |exact wpAny_bind fin
theorem Rg{X:Cx}{pins:List (Addr×Obj)}{σ:St}{H:Hp}{s:Shared}{a:Addr}{y:V}{o:Option V}(I:Inv X pins σ H s)(g:gW H a y o):s.TypeIs (.ref a) "dict":=by
 rcases g with⟨kvs,k,e,_,_⟩|⟨kvs,k,b,e,_,_,_⟩
 ·obtain⟨_,_,vs,_,dd⟩:=vM I.aD e;exact dd.typeIs
 ·obtain⟨_,_,xs,_,dd⟩:=vO I.aD e;exact dd.typeIs
def Fn(td ty:TE):TE:=fun σ H Q=>td σ H fun x H1=>ty σ H1 fun y H2=>∃a v,x=.ref a/\gW H2 a y (some v)/\Q v H2
def zR(ty td:TE):TE:=fun σ H Q=>ty σ H fun y H1=>td σ H1 fun x H2=>∃a o,x=.ref a/\gW H2 a y o/\Q (.bl o.isSome) H2
def Fo(ty td:TE):TE:=fun σ H Q=>ty σ H fun y H1=>td σ H1 fun x H2=>∃a o,x=.ref a/\gW H2 a y o/\Q (.bl<|!o.isSome) H2
def Fp(td ty tv:TE):TS:=fun D σ H=>tv σ H fun v H1=>td σ H1 fun x H2=>ty σ H2 fun y H3=>∃a H4,x=.ref a/\kx H3 a y v H4/\D.nx σ H4
section
variable {X:Cx}{o i e value:Expr}{pos pos' zj:Pos}{td ty tv:TE}
theorem Rh(hu:X.A.units+1<cLine)(ho:PE X o td)(hi:PE X i ty)(hs:zQ i):PE X (.Subscript o i pos) (Fn td ty):=by
 intro pins s σ H Q I h;refine Rf PySem.F.slot_dict_getitem.lookup hs<|aG (ho pins s σ H _ I h) fun u s1 ⟨x,H1,I1,rx,q1⟩=>aG (hi pins s1 σ H1 _ I1 q1) fun iv s2 ⟨y,H2,I2,ry,a,v,ex,g,q2⟩=>?_;subst ex;obtain rfl:u=Value.ref a:=rx;exact⟨Rg I2 g,Ra hu I2 g ry fun w' s3 I3 iP=>⟨v,H2,I3,iP,q2⟩⟩
theorem Ri(hu:X.A.units+1<cLine)(hi:PE X i ty)(ho:PE X o td):PC X .In i o (zR ty td):=by
 intro pins s σ H Q I h;refine aG (hi pins s σ H _ I h) fun iv s1 ⟨y,H1,I1,ry,q1⟩=>aG (ho pins s1 σ H1 _ I1 q1) fun u s2 ⟨x,H2,I2,rx,a,ov,ex,g,q2⟩=>?_;subst ex;obtain rfl:u=Value.ref a:=rx;exact Rb hu I2 g ry fun s3 I3=>⟨.bl ov.isSome,H2,I3,rfl,q2⟩
theorem Rj(hu:X.A.units+1<cLine)(ho:PE X o td)(hi:PE X i ty)(hv:PE X value tv)(hs:swapsWith value (some<|.Subscript o i pos') pos.line X.env=pure false):
  PS X (.Assign [.Subscript o i pos'] value pos) (Fp td ty tv):=by
 intro pins s σ H D I h;refine wpAny_Assign_Subscript (aG (hv pins s σ H _ I h) fun r s1 ⟨v,H1,I1,rv,q1⟩=>aG (ho pins s1 σ H1 _ I1 q1) fun u s2 ⟨x,H2,I2,rx,q2⟩=>aG (hi pins s2 σ H2 _ I2 q2) fun iv s3 ⟨y,H3,I3,ry,a,H4,ex,g,q3⟩=>?_) hs;subst ex;obtain rfl:u=Value.ref a:=rx;exact Rc hu I3 g ry rv fun s4 I4=>⟨σ,H4,I4,q3⟩
end
theorem Rk{P:Program}{w:World}{H:Hp}(h:Heap)(hb:sysModules<h.objs.size):cq P w H (h.push {cls:=.type "dict",data:=.dict #[]}) h.objs.size (.dK []):=
 ⟨zqZ _,beq_eq_false_iff_ne.mpr<|Ne.symm<|zaq hb,[],.nil,Heap.DictOf.new h⟩
def Rl:TE:=fun _ H Q=>∀p,H p=none->Q (.ref p) (upd H p<|.dT [])
def Rm(H:Hp)(a:Addr):Prop:=(∃kvs,Rd H a<|.dK kvs)\/∃kvs,Rd H a (.dT kvs)
def Rn(td ty tx:TE):TE:=fun σ H Q=>td σ H fun x H1=>∃a,x=.ref a/\Rm H1 a/\ty σ H1 fun y H2=>tx σ H2 fun z H3=>∃o,gW H3 a y o/\Q (o.getD z) H3
end L2
set_option maxHeartbeats 4000000
namespace L2
open PySem PySem.Spec PyProof.Rows
section
variable {X:Cx}{pins:List (Addr×Obj)}{σ:St}{H:Hp}{s:Shared}{a:Addr}{o:HO}
theorem Inv.vP(I:Inv X pins σ H s)(hn:H a=none)(h0:X.s₀.heap.objs.size<=a)(hL:a≠X.env.locals)(hC:∀x c,X.env.cells.lookup x=some c->c≠a)
  (hp:∀p∈X.pn++pins,p.1≠a) (new:cq X.prog X.w (upd H a o) s.heap a o):Inv X pins σ (upd H a o) s:=by
 have Ro:∀b u,X.s₀.heap.get? b=some u->b≠a:=fun b u e=>zaq (zap (Heap.lt_size e) h0);have sX:∀b u,H b=some u->b≠a:=fun b u e=>bf e hn;refine⟨I.ok,I.os,I.bare,⟨I.base.keep,I.base.slot,fun b u e n hx=>?_,I.base.there,fun b xs e=>?_,fun b u xs e=>?_,fun b ps e=>?_⟩,I.loc,I.cell,?_,fun x c e=>?_,fun p q=>?_,fun b u e=>?_,I.len⟩
 ·rw[aF<|Ro b u e];exact I.base.free b u e n hx
 ·have z:=I.base.bS b xs e;rw[aF<|sX b _ z];exact z
 ·have z:=I.base.ie b u xs e;rw[aF<|sX b _ z];exact z
 ·obtain⟨m,z⟩:=I.base.iM b ps e;exact⟨m,by rw[aF<|sX b _ z];exact z⟩
 ·rw[aF<|Ne.symm hL];exact I.free
 ·rw[aF<|hC x c e];exact I.lP x c e
 ·obtain⟨z1,z2,z3⟩:=I.pin p q;exact⟨z1,by rw[aF<|hp p q];exact z2,z3⟩
 ·by_cases hb:b=a
  ·subst hb;rw[aw] at e;cases e;exact new
  ·rw[aF hb] at e;exact(I.aD b u e).lN (fun _ _ _ q=>q) (fun c q=>by rw[aF<|sX c _ q];exact q) fun c xs q=>by rw[aF<|sX c _ q];exact q
end
def dF(cells:List (Str×Addr)):List (Str×NameKind)->List (Str×Addr)->List (Str×Addr)
 |[],acc=>acc
 |(n,k)::r,acc=>dF cells r (if k=.free then (n,(cells.lookup n).getD 0)::acc else acc)
theorem Fq(env:Env):∀(names:List (Str×NameKind)) (acc:List (Str×Addr)),(∀y∈names,y.2=.free->∃c,env.cells.lookup y.1=some c)->
  (forIn names acc (fun(x:Str×NameKind) (cs:List (Str×Addr))=>match x with
   |(name,kind)=>if (kind==NameKind.free)=true then do let a <-cellOf env name;pure (ForInStep.yield ((name,a)::cs)) else pure (ForInStep.yield cs)):Sem (List (Str×Addr)))=pure (dF env.cells names acc)
 |[],acc,_=>rfl
 |(n,k)::r,acc,h=>by
  have hr:=fun ir=>Fq env r ir fun y hy=>h y (zay _ hy);rw[List.forIn_cons];by_cases hk:k=.free
  ·subst hk;obtain⟨c,e⟩:=h (n,.free) zax rfl;have e':cellOf env n=pure c:=by unfold cellOf;rw[e]
   have ec:dF env.cells ((n,.free)::r) acc=dF env.cells r ((n,c)::acc):=by simp[dF,e]
   rw[ec,<-hr]
   simp[e']
  ·have hb:(k==NameKind.free)=false:=by simpa using hk
   have ec:dF env.cells ((n,k)::r) acc=dF env.cells r acc:=by simp[dF,hk]
   rw[ec,<-hr]
   simp[hb]
theorem Rp{scope:Scope}{env:Env}(h:∀y∈scope.names,y.2=.free->∃c,env.cells.lookup y.1=some c):closureFor scope env=pure (dF env.cells scope.names []):=by
 have:=Fq env scope.names [] h
 simp only[closureFor]
 rw[<-this]
 simp
theorem Fs{cells:List (Str×Addr)}:∀(names:List (Str×NameKind)) (acc:List (Str×Addr)) (x:Str) (c:Addr),(dF cells names acc).lookup x=some c->(acc.lookup x=some c)\/((x,.free)∈names/\(cells.lookup x).getD 0=c)
 |[],acc,x,c,h=>.inl h
 |(n,k)::r,acc,x,c,h=>by
  simp only[dF] at h
  rcases Fs r _ x c h with z|⟨z1,z2⟩
  ·by_cases hk:k=.free
   ·subst hk
    simp only[if_true] at z
    rw[zbb] at z;by_cases hx:x==n
    ·simp only[hx] at z
     have Rq:x=n:=eq_of_beq hx;subst Rq;exact .inr ⟨zax,zal z⟩
    ·have jd:(x==n)=false:=by simpa using hx
     simp only[jd] at z
     exact .inl z
   ·simp only[if_neg hk] at z
    exact .inl z
  ·exact .inr ⟨zay _ z1,z2⟩
theorem zS{cells:List (Str×Addr)}:∀(names:List (Str×NameKind)) (acc:List (Str×Addr)) (x:Str),((x,NameKind.free)∈names\/∃c,acc.lookup x=some c)->∃c,(dF cells names acc).lookup x=some c
 |[],acc,x,h=>by
  rcases h with h|h
  ·cases h
  ·exact h
 |(n,k)::r,acc,x,h=>by
  simp only[dF]
  refine zS r _ x ?_;rcases h with h|⟨c,h⟩
  ·rcases zaa.mp h with e|h
   ·cases e;refine .inr ?_
    simp[zbb]
   ·exact .inl h
  ·refine .inr ?_;by_cases hk:k=.free
   ·simp only[if_pos hk,zbb]
    cases hx:x==n
    ·exact⟨c,h⟩
    ·exact⟨_,rfl⟩
   ·simp only[if_neg hk];exact⟨c,h⟩
theorem Ft{env:Env}:∀(names:List (Str×NameKind)) (x:Str),
  (names.map fun(n,k)=>if (k==NameKind.free && env.scope.kind==.function && env.kindOf n==some .cell) then (n,NameKind.cell) else (n,k)).lookup x=
   (names.lookup x).map fun k=>if (k==NameKind.free && env.scope.kind==.function && env.kindOf x==some .cell) then NameKind.cell else k
 |[],_=>rfl
 |(n,k)::r,x=>by
  have ih:=Ft (env:=env) r x;show List.lookup x ((if (k==NameKind.free && env.scope.kind==.function && env.kindOf n==some .cell)=true then (n,NameKind.cell) else (n,k))::_)=_
  cases hx:x==n with
  |true=>
   have e:x=n:=eq_of_beq hx;subst e;by_cases hc:(k==NameKind.free && env.scope.kind==.function && env.kindOf x==some .cell)=true
   ·rw[if_pos hc];simp only[zbb,beq_self_eq_true,zbL];rw[if_pos hc]
   ·rw[if_neg hc];simp only[zbb,beq_self_eq_true,zbL];rw[if_neg hc]
  |false=>
   by_cases hc:(k==NameKind.free && env.scope.kind==.function && env.kindOf n==some .cell)=true
   ·rw[if_pos hc];simp only[zbb,hx];exact ih
   ·rw[if_neg hc];simp only[zbb,hx];exact ih
section
variable {prog:Program}{w:World}{A:Around}{R:Result->Shared->Prop}{s:Shared}
theorem Rr{elt target iter:Expr}{ifs:List Expr}{scope:Scope}{pos:Pos}{it acc:Value}{env:Env}(I:Nat->Shared->Prop)
  (turn:∀n s,I n s->wpAny (model prog w) A (pyNext it) (fun r s₁=>match r with
   |none=>R (.ok .next) s₁
   |some v=>wpAny (model prog w) A (letOwnedTupleGo target it v) (fun _ Fu=>wpAny (model prog w) A (assign target env v) (fun _ s₂=>
     wpAny (model prog w) A (forIn ifs true fun c r=>if r=true then do let ok <-isTrue c env (eval c env);pure (ForInStep.yield ok) else pure (ForInStep.yield r)) (fun ok s₃=>
      if ok=true then wpAny (model prog w) A (eval elt env) (fun x s₄=>
       wpAny (model prog w) A (call (.builtin "list.append") [acc,x]) (fun _ s₅=>∃m,m<n/\I m s₅) (fun _ _=>False) s₄) (fun _ _=>False) s₃
      else ∃m,m<n/\I m s₃) (fun _ _=>False) s₂) (fun _ _=>False) Fu) (fun _ _=>False) s₁) (fun _ _=>False) s)
  (n:Nat) (h:I n s):codeAny (model prog w) A (.compLoop (.ListComp elt [⟨target,iter,ifs,0⟩] scope pos) 0 it acc env) R s:=by
 refine codeAny_loop rfl I (fun n s hI=>?_) n h;show wpAny _ A ((compTurn (.ListComp elt [⟨target,iter,ifs,0⟩] scope pos) 0 it acc env).onRaise (fun x=>do noteFrame x env;theTreesLotGoes x)) _ _ s
 refine wpAny_noted ?_;rw[compTurn_list];refine wpAny_bind<|wpAny_standAt<|wpAny_bind<|wpAny_mono (turn n s hI) (fun r s₁ h₁=>?_) fun _ _ h'=>h'.elim;cases r with
 |none=>exact wpAny_pure h₁
 |some v=>
  refine wpAny_bind<|wpAny_mono h₁ (fun _ Fu Rt=>?_) fun _ _ h'=>h'.elim;refine wpAny_bind<|wpAny_mono Rt (fun _ s₂ h₂=>wpAny_bind<|wpAny_mono h₂ (fun ok s₃ h₃=>?_) fun _ _ h'=>h'.elim) fun _ _ h'=>h'.elim;cases ok with
  |false=>exact wpAny_pure ⟨rfl,h₃⟩
  |true=>
   exact wpAny_bind<|wpAny_bind<|wpAny_mono h₃ (fun x s₄ h₄=>wpAny_bind<|wpAny_mono h₄ (fun _ s₅ h₅=>wpAny_pure<|wpAny_pure ⟨rfl,h₅⟩) fun _ _ h'=>h'.elim) fun _ _ h'=>h'.elim
end
def gX(X:Cx)(scope:Scope)(N:List Str)(ex:List Addr)(C:Addr)(s:Shared)(H:Hp):Cx where
 prog:=X.prog
 w:=X.w
 K:=X.K
 mg:=X.mg
 base:=X.base
 A:=X.A
 N:=N
 s₀:=s
 H₀:=H
 env:=compEnvC scope (dF X.env.cells scope.names []) C X.env
 outer:=X.stack
 stack:=X.stack
 ex:=ex
 fn:=fun _=>false
 calm:=X.calm
 pn:=[]
 xe:=fun _ _=>False
structure jF (X:Cx) (scope:Scope) (ln:List Str) (fv:List (Str×Nat)):Prop where
 kind:scope.kind=.function
 Fv:∀y∈scope.names,y.2≠ .cell
 locals:∀y∈scope.names,y.2=.local->scope.names.lookup y.1=some .local
 free:∀y∈scope.names,y.2=.free->(X.env.kindOf y.1=some .cell\/X.env.kindOf y.1=some .free)
 Ru:∀p∈fv,X.N[p.2]?=some p.1/\scope.names.lookup p.1=some .free
def cH(σ:St)(fv:List (Str×Nat)):St:=fv.map fun p=>(σ[p.2]?).join
def jG(K:Frag):Option Nat->V->Hp->(List V->Prop)->Prop
 |none,x,_,Q=>Q [x]
 |some n,x,H,Q=>if n=102 then ∃a xs,x=.ref a/\au K H a xs/\xs.length=2/\Q xs else ∃a xs,x=.ref a/\aH K H a xs/\xs.length=n/\Q xs
theorem Rv{K:Frag}{n:Nat}{x:V}{H:Hp}{P Q:List V->Prop}(h:jG K (some n) x H P)(k:∀xs,P xs->Q xs):jG K (some n) x H Q:=by
 by_cases e:n=102
 ·have h:if n=102 then ∃a xs,x=.ref a/\au K H a xs/\xs.length=2/\P xs else ∃a xs,x=.ref a/\aH K H a xs/\xs.length=n/\P xs:=h
  show if n=102 then ∃a xs,x=.ref a/\au K H a xs/\xs.length=2/\Q xs else ∃a xs,x=.ref a/\aH K H a xs/\xs.length=n/\Q xs
  rw[if_pos e] at h⊢;obtain⟨a,xs,e1,e2,e3,q⟩:=h;exact⟨a,xs,e1,e2,e3,k _ q⟩
 ·have h:if n=102 then ∃a xs,x=.ref a/\au K H a xs/\xs.length=2/\P xs else ∃a xs,x=.ref a/\aH K H a xs/\xs.length=n/\P xs:=h
  show if n=102 then ∃a xs,x=.ref a/\au K H a xs/\xs.length=2/\Q xs else ∃a xs,x=.ref a/\aH K H a xs/\xs.length=n/\Q xs
  rw[if_neg e] at h⊢;obtain⟨a,xs,e1,e2,e3,q⟩:=h;exact⟨a,xs,e1,e2,e3,k _ q⟩
def mY:Option TT->TT
 |none=>fun _ H k=>k true H
 |some t=>t
def oU(K:Frag)(wi:TI)(tk:Option Nat)(fv:List (Str×Nat))(tc:Option TT)(te:TE):TE:=fun σ H Q=>
 wi σ H fun J H1=>∃W:Nat->Nat->List V->Hp->Prop,(∃m,W 0 m [] H1)/\∀i m ys H2,W i m ys H2->
  (J.stop i H2/\∀p,H2 p=none->Q (.ref p) (upd H2 p<|.lst ys))\/
  (J.go i H2/\∀x H3,J.gR i H2 x H3->jG K tk x H3 fun xs=>
   mY tc (xs.map some++cH σ fv) H3 fun b H5=>
    if b=true then te (xs.map some++cH σ fv) H5 fun y H6=>ys.length<sizeLine/\∃m',m'<m/\W (i+1) m' (ys++[y]) H6
    else ∃m',m'<m/\W (i+1) m' ys H5)
section
variable {X:Cx}{pins:List (Addr×Obj)}{σ:St}{H:Hp}{s₂ s₃:Shared}{scope:Scope}{ln:List Str}{fv:List (Str×Nat)}{fp:List Addr}{h₁:Heap}{D C:Addr}{m:Str->Option Value}{t:Nat}
theorem jF.cells(S:jF X scope ln fv)(I:Inv X pins σ H s₂){x:Str}{c:Addr}(h:(dF X.env.cells scope.names []).lookup x=some c):X.env.cells.lookup x=some c/\(x,NameKind.free)∈scope.names:=by
 rcases Fs _ _ _ _ h with z|⟨z1,z2⟩
 ·cases z
 ·obtain⟨c',e⟩:=I.ok.has x (S.free _ z1 rfl);rw[e] at z2;have z3:c'=c:=z2;subst z3;exact⟨e,z1⟩
theorem jF.Fw(S:jF X scope ln fv)(I:Inv X pins σ H s₂):closureFor scope X.env=pure (dF X.env.cells scope.names []):=
 Rp fun y hy hk=>I.ok.has y.1 (S.free y hy hk)
theorem Rw(S:jF X scope ln fv)(I:Inv X pins σ H s₂)(f2:∀b∈fp,i8 X pins H b)(sY:∀b∈fp,∃o,s₂.heap.get? b=some o)
  (os:s₃.os=s₂.os) (gens:s₃.gens=s₂.gens) (k3:∀b o,s₂.heap.get? b=some o->s₃.heap.get? b=some o) (hD:D=s₂.heap.objs.size) (h3:s₃.heap.objs.size=s₂.heap.objs.size+1) (hC:C=s₃.heap.objs.size)
  (k4:∀b o,s₃.heap.get? b=some o->h₁.get? b=some o) (vJ:h₁.Ns C m):
  Inv (gX X scope (ln++fv.map (·.1)) (D::fp) C s₃ H) [] (ln.map (fun _=>none)++cH σ fv) H {s₃ with heap:=h₁,toks:=t}:=by
 have cl:∀{x c},(dF X.env.cells scope.names []).lookup x=some c->X.env.cells.lookup x=some c:=fun h=>(S.cells I h).1;have Rx:∀{x c},(dF X.env.cells scope.names []).lookup x=some c->c<s₂.heap.objs.size:=fun h=>by
  obtain⟨v,q⟩:=I.cell _ _ (cl h);exact q.lt
 have Ry:∀b∈fp,b<s₂.heap.objs.size:=fun b hb=>by obtain⟨o,e⟩:=sY b hb;exact Heap.lt_size e
 have Rz:∀b∈D::fp,b<=s₂.heap.objs.size:=fun b hb=>by
  rcases zaa.mp hb with e|hb
  ·rw[e,hD];exact zqR _
  ·exact zbq (Ry b hb)
 have Fx:∀x,(relabel scope X.env).names.lookup x=(scope.names.lookup x).map fun k=>if (k==NameKind.free && X.env.scope.kind==.function && X.env.kindOf x==some .cell) then NameKind.cell else k:=fun x=>Ft scope.names x
 have RA:∀x,scope.names.lookup x=some .free->((relabel scope X.env).names.lookup x=some .cell\/(relabel scope X.env).names.lookup x=some .free):=fun x e=>by
  rw[Fx,e]
  simp only[zbL]
  split
  ·exact .inl rfl
  ·exact .inr rfl
 have RB:∀x,((relabel scope X.env).names.lookup x=some .cell\/(relabel scope X.env).names.lookup x=some .free)->(x,NameKind.free)∈scope.names:=fun x e=>by
  rw[Fx] at e;cases q:scope.names.lookup x with
  |none=>rw[q] at e;rcases e with e|e<;>cases e
  |some k=>
   rw[q] at e;have hm:(x,k)∈scope.names:=PySem.mem_of_lookup q
   simp only[zbL] at e
   by_cases hk:k=.free
   ·rw[hk] at hm;exact hm
   ·have hb:(k==NameKind.free)=false:=by simpa using hk
    simp only[hb,zbF,zbc,if_false] at e
    rcases e with e|e
    ·exact absurd (zal e) (S.Fv _ hm)
    ·exact absurd (zal e) hk
 refine⟨⟨I.ok.mod,S.kind,I.ok.glob,I.ok.blt,Nat.le_of_eq hC.symm,fun x y c h1 h2=>I.ok.inj x y c (cl h1) (cl h2),fun x hx=>zS _ _ x (.inl (RB x hx)),fun x c h _=>(by cases h),I.ok.hd,I.ok.frames,.inl rfl,fun b hb=>⟨?_,fun x c e=>?_⟩,fun b o e=>⟨k3 b o (I.bs b o e).1,(I.bs b o e).2⟩,?_,fun b o e hb=>?_,fun b hb hf=>?_,?_,I.vj⟩,
  rfl,?_,Un.kept fun b u e=>k4 b u e,⟨m,vJ,fun i x v e1 e2 e3=>?_⟩,fun x c e=>?_,I.aD.fresh ?_,fun x c e=>I.lP x c (cl e),fun p hp=>absurd (show p∈ ([]:List (Addr×Obj)) from hp) (by simp),I.aD.kept fun b u e=>k4 b u (k3 b u e),?_⟩
 ·show b≠C;have:=Rz b hb;rw[hC,h3];exact zaq (Nat.lt_succ_of_le this)
 ·have q1:=Rx e;rcases zaa.mp hb with z|z
  ·rw[z,hD];exact zaq q1
  ·exact(f2 b z).2.2.2.2.1 x c (cl e)
 ·show X.base.objs.size<=s₃.heap.objs.size;have:=zat I.ok.qF I.sz;lia
 ·have e2:=(I.bs b o e).1;have zT:b∈D::fp:=hb;rcases zaa.mp zT with z|z
  ·have:=Heap.lt_size e2;rw[z,hD] at this;exact zaz _ this
  ·rcases (f2 b z).2.2.2.1 with q|q
   ·exact I.ok.yX b o e q
   ·exact absurd (zap (Heap.lt_size (I.ok.bs b o e).1) q) (zaz _)
 ·have Fy:b∈cw X.stack:=hf;have zT:b∈D::fp:=hb;rcases zaa.mp zT with z|z
  ·rcases zaa.mp (I.vi b Fy) with q|q
   ·have:=I.lt;rw[<-q,z,hD] at this;exact zaz _ this
   ·exact I.DT (by rw[z,hD];exact zqR _) q
  ·rcases zaa.mp (I.vi b Fy) with q|q
   ·exact(f2 b z).2.1 q
   ·exact(f2 b z).2.2.1 q
 ·exact PySem.Heap.FunFrames.of_keeps (fun b o e _=>⟨o,k3 b o e,rfl⟩) I.stack
 ·show AllBare s₃.gens;rw[gens];exact I.bare
 ·have hi:ln.length<=i:=by
   by_cases hi:i<ln.length
   ·exfalso
    rw[zaA (by simpa using hi),zaf] at e2
    cases q:ln[i]? with
    |none=>rw[q] at e2;cases e2
    |some y=>rw[q] at e2;cases e2
   ·lia
  have oV:(ln++fv.map (·.1))[i]?=some x:=e1;rw[zbH hi,zaf] at oV;rw[zbH (by simpa using hi),zad] at e2
  unfold cH at e2;rw[zaf] at e2;cases q:fv[i - ln.length]? with
  |none=>rw[q] at oV;cases oV
  |some p=>
   rw[q] at oV e2;have ex:p.1=x:=zal oV;have ev:(σ[p.2]?).join=some v:=zal e2;obtain⟨g1,g2⟩:=S.Ru p (zan q);rw[ex] at g1 g2;have RC:σ[p.2]?=some (some v):=by
    cases z:σ[p.2]? with
    |none=>rw[z] at ev;cases ev
    |some o=>rw[z] at ev;rw[show o=some v from ev]
   have hk:=S.free _ (PySem.mem_of_lookup g2) rfl;obtain⟨m2,i9,hl⟩:=I.loc;obtain⟨u,r,l⟩:=hl p.2 x v g1 RC (by rcases hk with k|k;exact .inr (.inl k);exact .inr (.inr k))
   refine⟨u,r,.inr ?_⟩;rcases l with⟨k,_⟩|⟨_,c,ec,z⟩
   ·rcases hk with k'|k'<;>(rw[k] at k';cases k')
   ·refine⟨RA x g2,c,?_,?_⟩
    ·obtain⟨c',e'⟩:=zS (cells:=X.env.cells) scope.names [] x (.inl<|PySem.mem_of_lookup g2);have:=cl e';rw[ec] at this;cases this;exact e'
    ·obtain⟨o,ho,hd⟩:=z;exact⟨o,k4 c o<|k3 c o ho,hd⟩
 ·obtain⟨v,o,ho,hd⟩:=I.cell x c (cl e);exact⟨v,o,k4 c o<|k3 c o ho,hd⟩
 ·show s₂.heap.objs.size<=C;rw[hC,h3];exact zaT _
 ·show(ln.map (fun _=>none)++cH σ fv).length=(ln++fv.map (·.1)).length
  simp[cH]
end
structure Fz (Φ:Cx->Prop) (P:Program) (w:World) (K:Frag) (tg:Expr) (J:It) (fp:List Addr) (it:Addr) (tn:Nat->Heap->Prop):Prop where
 mem:it∈fp
 obj:∀i h,tn i h->∀b∈fp,∃o,h.get? b=some o/\∀v,o.data≠ .cell v
 keep:∀i h h',tn i h->(∀b∈fp,∀o,h.get? b=some o->h'.get? b=some o)->tn i h'
 item:∀(X:Cx),X.prog=P->X.w=w->X.K=K->Φ X->∀(i:Nat) (pins:List (Addr×Obj)) (s:Shared) (σ:St) (H:Hp) (E:Value->Shared->Prop),Inv X pins σ H s->(∀b∈fp,i8 X pins H b)->tn i s.heap->J.go i H->
  wpAny (model P w) X.A (pyNext (.ref it)) (fun r s1=>∃u,r=some u/\
   wpAny (model P w) X.A (letOwnedTupleGo tg (.ref it) u) (fun _ s2=>∃x H',Inv X pins σ H' s2/\RelV x u/\J.gR i H x H'/\tn (i+1) s2.heap/\∀b∈fp,H' b=none) E s1) E s
 done:∀(X:Cx),X.prog=P->X.w=w->X.K=K->Φ X->∀(i:Nat) (pins:List (Addr×Obj)) (s:Shared) (σ:St) (H:Hp) (E:Value->Shared->Prop),Inv X pins σ H s->(∀b∈fp,i8 X pins H b)->tn i s.heap->J.stop i H->
  wpAny (model P w) X.A (pyNext<|.ref it) (fun r s1=>r=none/\Inv X pins σ H s1) E s
 self:∀(A:Around) (i:Nat) (s:Shared) (Q:Value->Shared->Prop) (E:Value->Shared->Prop),tn i s.heap->Q (.ref it) s->wpAny (model P w) A (pyIter<|.ref it) Q E s
def zU(Φ:Cx->Prop)(X:Cx)(tg iter:Expr)(wi:TI):Prop:=
 ∀(pins:List (Addr×Obj)) (s:Shared) (σ:St) (H:Hp) (R:It->Hp->Prop),Inv X pins σ H s->wi σ H R->
  wpAny (model X.prog X.w) X.A (eval iter X.env) (fun v s1=>wpAny (model X.prog X.w) X.A (pyIter v) (fun oE s2=>
   ∃(it:Addr) (fp:List Addr) (tn:Nat->Heap->Prop) (J:It) (H':Hp),oE=.ref it/\Inv X pins σ H' s2/\Fz Φ X.prog X.w X.K tg J fp it tn/\tn 0 s2.heap/\(∀b∈fp,i8 X pins H' b)/\R J H') X.xe s1) X.xe s
abbrev Calm(X:Cx):Prop:=X.calm=true
theorem PI.p{X:Cx}{tg iter:Expr}{wi:TI}(h:PI X tg iter wi):zU Calm X tg iter wi:=fun pins s σ H R I q=>
 aG (h pins s σ H R I q) fun v s1 h1=>aG h1 fun oE s2 ⟨it,fp,tn,J,H',e,I',T,st,f,r⟩=>⟨it,fp,tn,J,H',e,I',⟨T.mem,T.obj,T.keep,T.item,T.done,T.self⟩,st,f,r⟩
section
variable {X:Cx}{pins:List (Addr×Obj)}{σ:St}{H:Hp}{s₂:Shared}{scope:Scope}{ln:List Str}{fv:List (Str×Nat)}{elt tg iter:Expr}{ifs:List Expr}{pos:Pos}
 {J:It}{fp:List Addr}{it:Addr}{tn:Nat->Heap->Prop}{tk:Option Nat}{tc:Option TT}{te:TE}{Qv:VK}{RR:Value->Addr->Result->Shared->Prop}{E:Value->Shared->Prop}
def zV(Ψ:Hp->Prop)(X:Cx)(scope:Scope)(ln:List Str)(fv:List (Str×Nat))(tg:Expr)(tk:Option Nat):Prop:=
 ∀(ex:List Addr) (C:Addr) (s:Shared) (H:Hp),Ψ H->∃g,PG (gX X scope (ln++fv.map (·.1)) ex C s H) tg g/\
  ∀(x:V) (pre φ:St) (H':Hp) (Q:St->Hp->Prop),pre.length=ln.length->jG X.K tk x H' (fun xs=>xs.length=ln.length->Q (xs.map some++φ) H')->g x (pre++φ) H' Q
def sZ(X:Cx)(scope:Scope)(ln:List Str)(fv:List (Str×Nat))(tg:Expr)(tk:Option Nat):Prop:=
 ∀(ex:List Addr) (C:Addr) (s:Shared) (H:Hp),∃g,PG (gX X scope (ln++fv.map (·.1)) ex C s H) tg g/\
  ∀(x:V) (pre φ:St) (H':Hp) (Q:St->Hp->Prop),pre.length=ln.length->jG X.K tk x H' (fun xs=>xs.length=ln.length->Q (xs.map some++φ) H')->g x (pre++φ) H' Q
def s_(X:Cx)(scope:Scope)(N:List Str)(ifs:List Expr)(tc:Option TT):Prop:=
 match tc with
 |none=>ifs=[]
 |some t=>∃c,ifs=[c]/\∀(ex:List Addr) (C:Addr) (s:Shared) (H:Hp),PT (gX X scope N ex C s H) c t
theorem FA{Φ:Cx->Prop}{Ψ:Hp->Prop}(S:jF X scope ln fv)(hc:∀Xc:Cx,Xc.A=X.A->Xc.calm=X.calm->Xc.H₀=H->Φ Xc)(hΨ:Ψ H)(hg:zV Ψ X scope ln fv tg tk)(ht:s_ X scope (ln++fv.map (·.1)) ifs tc)
  (he:∀(ex:List Addr) (C:Addr) (s:Shared) (H:Hp),PE (gX X scope (ln++fv.map (·.1)) ex C s H) elt te)
  (I:Inv X pins σ H s₂) (T:Fz Φ X.prog X.w X.K tg J fp it tn) (st:tn 0 s₂.heap) (f2:∀b∈fp,i8 X pins H b)
  (h:∃W:Nat->Nat->List V->Hp->Prop,(∃m,W 0 m [] H)/\∀i m ys H2,W i m ys H2->
   (J.stop i H2/\∀p,H2 p=none->Qv (.ref p) (upd H2 p<|.lst ys))\/
   (J.go i H2/\∀x H3,J.gR i H2 x H3->jG X.K tk x H3 fun xs=>
    mY tc (xs.map some++cH σ fv) H3 fun b H5=>
     if b=true then te (xs.map some++cH σ fv) H5 fun y H6=>ys.length<sizeLine/\∃m',m'<m/\W (i+1) m' (ys++[y]) H6
     else ∃m',m'<m/\W (i+1) m' ys H5))
  (RD:∀D C H' s' m,Inv X pins σ H' s'->s'.heap.Ns C m->H' C=none->C≠X.env.locals->X.s₀.heap.objs.size<=C->(∀x c,X.env.cells.lookup x=some c->c≠C)->(∀p∈X.pn++pins,p.1≠C)->Qv (.ref D) H'->RR (.ref D) C (.ok .next) s'):
  wpAny (model X.prog X.w) X.A (newList []) (fun acc s₃=>wpAny (model X.prog X.w) X.A (newFunctionEnv scope X.env.globals (dF X.env.cells scope.names []) [] X.env.qual none .none (some X.env)) (fun FC s₄=>
   codeAny (model X.prog X.w) X.A (.compStart (.ListComp elt [⟨tg,iter,ifs,0⟩] scope pos) 0 (.ref it) acc {FC with scope:=relabel scope X.env}) (RR acc FC.locals) s₄) E s₃) E s₂:=by
 obtain⟨W,⟨m0,w0⟩,turn⟩:=h;refine wpAny_newObj_type<|wpAny_newFunctionEnv S.Fv (by intro y hy;simp at hy) (fun h₁ vQ vR=>?_) S.kind
 dsimp only at vQ vR⊢
 generalize lV:({s₂ with heap:=s₂.heap.push {cls:=.type "list",dict:=none,data:=.seq ([]:List Value).toArray}}:Shared)=s₃
 have vS:s₂.heap.push {cls:=.type "list",dict:=none,data:=.seq ([]:List Value).toArray}=s₃.heap:=by rw[<-lV]
 rw[vS] at vQ vR⊢;have FD:s₃.os=s₂.os:=by rw[<-lV]
 have RF:s₃.gens=s₂.gens:=by rw[<-lV]
 have oW:s₃.heap.objs.size=s₂.heap.objs.size+1:=by rw[<-vS,Heap.size_push]
 have k3:∀b o,s₂.heap.get? b=some o->s₃.heap.get? b=some o:=fun b o e=>by rw[<-vS];exact Heap.get?_push_of_some _ e
 have k4:∀b o,s₃.heap.get? b=some o->h₁.get? b=some o:=fun b o e=>vR.extBut b o (zaq<|Heap.lt_size e) (Heap.get?_push_of_some _ e);have gD:s₃.heap.get? s₂.heap.objs.size=some {cls:=.type "list",dict:=none,data:=.seq ([]:List Value).toArray}:=by rw[<-vS];exact Heap.get?_push_size _ rfl
 generalize eD:s₂.heap.objs.size=D at gD;generalize eC:s₃.heap.objs.size=C at vQ vR⊢;have vT:D≠C:=by rw[<-eD,<-eC,oW];exact zaq (zbj _)
 have sY:∀b∈fp,∃o,s₂.heap.get? b=some o:=fun b hb=>by obtain⟨o,e,_⟩:=T.obj 0 _ st b hb;exact⟨o,e⟩
 have FE:∀b∈fp,b≠D:=fun b hb=>by obtain⟨o,e⟩:=sY b hb;rw[<-eD];exact zaq (Heap.lt_size e)
 have RG:∀b∈fp,b≠C:=fun b hb=>by
  obtain⟨o,e⟩:=sY b hb;have:=Heap.lt_size e;rw[<-eC,oW];exact zaq (zbM this)
 generalize eX:gX X scope (ln++fv.map (·.1)) (D::fp) C s₃ H=Xc;have I4:∀t,Inv Xc [] (ln.map (fun _=>none)++cH σ fv) H {s₃ with heap:=h₁,toks:=t}:=fun t=>by
  rw[<-eX];exact Rw S I f2 sY FD RF k3 eD.symm oW eC.symm k4 vQ
 have xL:Xc.env.locals=C:=by rw[<-eX];rfl
 have vU:Xc.ex=D::fp:=by rw[<-eX];rfl
 have RH:Xc.fs=cw X.stack:=by rw[<-eX];rfl
 have xP:Xc.prog=X.prog:=by rw[<-eX];rfl
 have xw:Xc.w=X.w:=by rw[<-eX];rfl
 have xK:Xc.K=X.K:=by rw[<-eX];rfl
 have xA:Xc.A=X.A:=by rw[<-eX];rfl
 have xc:Φ Xc:=hc Xc xA (by rw[<-eX];rfl) (by rw[<-eX];rfl)
 have FF:Xc.pn=[]:=by rw[<-eX];rfl
 have zW:Xc.xe=fun _ _=>False:=by rw[<-eX];rfl
 have FG:Xc.env.cells=dF X.env.cells scope.names []:=by rw[<-eX];rfl
 have zX:Xc.env=compEnvC scope (dF X.env.cells scope.names []) C X.env:=by rw[<-eX];rfl
 have cD:∀x c,Xc.env.cells.lookup x=some c->c≠D:=fun x c e=>by
  rw[FG] at e;obtain⟨v,q⟩:=I.cell x c (S.cells I e).1;rw[<-eD];exact zaq q.lt
 have cF:∀x c,Xc.env.cells.lookup x=some c->∀b∈fp,c≠b:=fun x c e b hb=>by
  rw[FG] at e;exact(f2 b hb).2.2.2.2.1 x c (S.cells I e).1
 have sF:∀b∈D::fp,b∉Xc.fs:=fun b hb hf=>by
  have:=(I4 0).ok.yY b (by rw[vU];exact hb)
  exact this hf
 have oF:∀{H':Hp}{oD:Obj},(∀b∈fp,H' b=none)->∀b∈fp,i8 Xc [(D,oD)] H' b:=fun hn b hb=>
  ⟨hn b hb,by rw[xL];exact RG b hb,sF b (zay _ hb),.inl (by rw[vU];exact zay _ hb),fun x c e=>cF x c e b hb,fun p hp=>by
   rw[FF] at hp;rcases zac.mp (show p∈ [(D,_)] from hp) with rfl
   exact(FE b hb).symm⟩
 have loop:∀s₄:Shared,s₄={s₃ with heap:=h₁,toks:=s₃.toks+([]:List (Str×Value)).length}->
   codeAny (model X.prog X.w) X.A (.compLoop (.ListComp elt [⟨tg,iter,ifs,0⟩] scope pos) 0 (.ref it) (.ref D)<|compEnvC scope (dF X.env.cells scope.names []) C X.env) (RR (.ref D) C) s₄:=by
  rintro s₄ rfl;refine Rr (fun n s'=>∃i pre ys ao nn H',Inv Xc [(D,{cls:=.type "list",data:=.seq (List.toArray ao) nn})] (pre++cH σ fv) H' s'/\pre.length=ln.length/\tn i s'.heap/\(∀b∈fp,H' b=none)/\Vals ys ao/\ys.length<=sizeLine/\W i n ys H') ?_ m0
   ⟨0,ln.map<|fun _=>none,[],[],0,H,(I4 _).qG<|fun p hp=>?_,by simp,T.keep 0 _ _ st<|fun b _ o e=>k4 b o<|k3 b o e,fun b hb=>(f2 b hb).1,.nil,zqZ _,w0⟩
  rotate_left
  ·have qS:=zac.mp hp;subst qS;refine⟨k4 _ _ gD,I.aD.fresh<|Nat.le_of_eq eD,by rw[xL];exact vT,sF D zax,fun v z=>by cases z⟩
  rintro n s' ⟨i,pre,ys,ao,nn,H',I',lT,dC,FH,hv,hz,w'⟩;have afk:=I'.pin (D,_) (zau _ zax);rcases turn i n ys H' w' with⟨stop,qn⟩|⟨go,step⟩
  ·have td:=T.done Xc xP xw xK xc i _ s' _ H' (fun _ _=>False) I' (oF FH) dC stop;rw[xA] at td;refine aG td fun r s1 ⟨hr,I1⟩=>?_;subst hr;have zY:=I1.pin (D,_) (zau _ zax);have b1:=I1.base;rw[RH,vU] at b1;have FI:Xc.s₀=s₃:=by rw[<-eX];rfl
   have RJ:Xc.H₀=H:=by rw[<-eX];rfl
   rw[FI,RJ] at b1;have nD:∀b o,s₂.heap.get? b=some o->b∉fp->b∉D::fp:=fun b o e hb hm=>by
    rcases zaa.mp hm with z|z
    ·have:=Heap.lt_size e;rw[z,eD] at this;exact zaz _ this
    ·exact hb z
   have un:Un (cw X.stack) fp H H' s₂.heap s1.heap:=⟨fun b o e nb hb hx=>b1.keep b o (k3 b o e) nb hb (nD b o e hx),fun b o e nb hb hx=>b1.slot b o (k3 b o e) nb hb (nD b o e hx),fun b o e nb hx=>b1.free b o (k3 b o e) nb (nD b o e hx),
    fun b o e hx=>b1.there b o (k3 b o e) (nD b o e hx),b1.bS,b1.ie,b1.iM⟩
   have RK:s1.os=s₂.os:=by rw[I1.os,FI,FD]
   have FJ:=I1.aD;rw[xP,xw] at FJ;have J1:Inv X pins σ H' s1:=I.OA RK un FJ I1.bare fun b hb=>⟨(f2 b hb).2.2.2.1,(f2 b hb).2.1,(f2 b hb).2.2.2.2.1,(f2 b hb).2.2.2.2.2⟩;have RL:∀x c,X.env.cells.lookup x=some c->c≠D:=fun x c e=>by
    obtain⟨v,q⟩:=I.cell x c e;rw[<-eD];exact zaq q.lt
   have RM:∀x c,X.env.cells.lookup x=some c->c≠C:=fun x c e=>by
    obtain⟨v,q⟩:=I.cell x c e;rw[<-eC,oW];exact zaq (zbM q.lt)
   have pD:∀p∈X.pn++pins,p.1≠D:=fun p hp=>by rw[<-eD];exact zaq (Heap.lt_size (I.pin p hp).1)
   have pC:∀p∈X.pn++pins,p.1≠C:=fun p hp=>by
    rw[<-eC,oW];exact zaq (zbM<|Heap.lt_size (I.pin p hp).1)
   have lD:D≠X.env.locals:=by rw[<-eD];exact zaE I.lt
   have lC:C≠X.env.locals:=by
    rw[<-eC,oW];exact zaE (zbM I.lt)
   have J2:Inv X pins σ (upd H' D<|.lst ys) s1:=Inv.vP J1 zY.2.1 (by rw[<-eD];exact I.sz) lD RL pD ⟨hz,ao,nn,hv,zY.1⟩
   obtain⟨mC,FK,_⟩:=I1.loc;rw[xL] at FK;have fC:H' C=none:=by have:=I1.free;rw[xL] at this;exact this
   exact RD D C _ s1 mC J2 FK (by rw[aF<|Ne.symm vT];exact fC) lC (by rw[<-eC,oW];exact Nat.le_succ_of_le I.sz) RM pC<|qn D zY.2.1
  ·have ti:=T.item Xc xP xw xK xc i _ s' _ H' (fun _ _=>False) I' (oF FH) dC go;rw[xA] at ti;refine aG ti fun r s4 ⟨u,hr,h4⟩=>?_;subst hr;refine aG h4 fun _ s5 ⟨x,H5,I5,r5,y5,oG,ze⟩=>?_;have zf:=I5.pinned (oF ze) (T.obj _ _ oG);obtain⟨g,pg,gq⟩:=hg (D::fp) C s₃ H hΨ;rw[eX] at pg;have rd:=step x H5 y5;have FL:=pg _ s5 _ H5 x u (fun σ6 H6=>∃xs:List V,σ6=xs.map some++cH σ fv/\xs.length=ln.length/\H6=H5/\
     mY tc (xs.map some++cH σ fv) H5 fun b H5=>
     if b=true then te (xs.map some++cH σ fv) H5 fun y H6=>ys.length<sizeLine/\∃m',m'<n/\W (i+1) m' (ys++[y]) H6
     else ∃m',m'<n/\W (i+1) m' ys H5) zf r5 (gq x pre (cH σ fv) H5 _ lT (by
      cases tk with
      |none=>exact fun hl=>⟨_,rfl,hl,rfl,rd⟩
      |some k=>exact Rv rd fun xs rd hl=>⟨xs,rfl,hl,rfl,rd⟩))
   rw[xA,xP,xw,zW,zX] at FL;refine aG FL fun _ s6 ⟨σ6,H6,I6,xs,e6,je,eH,FN⟩=>?_;subst e6 eH;have FO:∀{H7:Hp}{σ7:St}{s7:Shared},Inv Xc ([(D,{cls:=.type "list",data:=.seq (List.toArray ao) nn})]++qJ fp s5.heap) σ7 H7 s7->tn (i+1) s7.heap/\(∀b∈fp,H7 b=none)/\s7.heap.get? D=some {cls:=.type "list",data:=.seq (List.toArray ao) nn}/\H7 D=none:=fun {H7 σ7 s7} I7=>by
    refine⟨T.keep _ _ _ oG fun b hb o e=>(I7.pin (b,o)<|zau _<|zau _<|vt hb e).1,fun b hb=>?_,?_,?_⟩
    ·obtain⟨o,e,d⟩:=T.obj _ _ oG b hb;exact(I7.pin (b,o)<|zau _<|zau _<|vt hb e).2.1
    ·exact(I7.pin (D,_)<|zau _<|zaw _ zax).1
    ·exact(I7.pin (D,_)<|zau _<|zaw _ zax).2.1
   have tests:wpAny (model X.prog X.w) X.A (forIn ifs true fun c r=>if r=true then do let ok <-isTrue c (compEnvC scope (dF X.env.cells scope.names []) C X.env) (eval c<|compEnvC scope (dF X.env.cells scope.names []) C X.env);pure (ForInStep.yield ok) else pure (ForInStep.yield r))
     (fun ok s7=>∃H7,Inv Xc ([(D,{cls:=.type "list",data:=.seq (List.toArray ao) nn})]++qJ fp s5.heap) (xs.map some++cH σ fv) H7 s7/\
      if ok=true then te (xs.map some++cH σ fv) H7 fun y H6=>ys.length<sizeLine/\∃m',m'<n/\W (i+1) m' (ys++[y]) H6
      else ∃m',m'<n/\W (i+1) m' ys H7) (fun _ _=>False) s6:=by
    cases tc with
    |none=>
     have qT:ifs=[]:=ht;subst qT;exact wpAny_tests_nil ⟨_,I6,FN⟩
    |some t=>
     obtain⟨c,qT,pt⟩:=(show ∃c,ifs=[c]/\∀(ex:List Addr) (C:Addr) (s:Shared) (H:Hp),PT (gX X scope (ln++fv.map (·.1)) ex C s H) c t from ht)
     subst qT;have FP:=pt (D::fp) C s₃ H;rw[eX] at FP;have q:=FP _ s6 _ _ _ I6 FN;rw[xA,xP,xw,zW,zX] at q;exact wpAny_tests_one<|aG q fun b s7 ⟨H7,I7,q7⟩=>⟨H7,I7,q7⟩
   refine aG tests fun ok s7 ⟨H7,I7,q7⟩=>?_;cases ok with
   |false=>
    simp only[zbc,if_false] at q7⊢
    obtain⟨m',hm,w7⟩:=q7;obtain⟨t7,f7,d7,n7⟩:=FO I7;refine⟨m',hm,i+1,xs.map some,ys,ao,nn,H7,I7.qG<|fun p hp=>?_,by simpa using je,t7,f7,hv,hz,w7⟩
    exact I7.pin p<|zau _<|zaw _ hp
   |true=>
    simp only[if_true] at q7⊢
    have q:=he (D::fp) C s₃ H;rw[eX] at q;have q:=q _ s7 _ H7 _ I7 q7;rw[xA,xP,xw,zW,zX] at q;refine aG q fun uy s8 ⟨y,H8,I8,r8,aX,m',hm,w8⟩=>?_;obtain⟨t8,f8,d8,n8⟩:=FO I8;have hl:=hv.length;refine call_meets F.slot_list_append ⟨_,d8,rfl⟩ F.entry_list_append (F.args_list_append_2 _ _) (PySem.list_append D ao.toArray nn uy (by rw[zae];lia)) ⟨d8,?_⟩
    have I9:∀t,Inv Xc [] (xs.map some++cH σ fv) H8 {s8 with heap:=s8.heap.update D (Obj.mapSeq (·.push uy)),toks:=t}:=fun t=>
     (I8.qG (y2:=[])<|fun p hp=>absurd hp (by simp)).turned (it:=D) (t':=t) (fun b o hb e=>(Heap.get?_update_other s8.heap (Obj.mapSeq (·.push uy))<|Ne.symm hb).trans e) n8 (by rw[xL];exact vT) (.inl (by rw[vU];exact zax)) cD
      (fun p hp=>by rw[FF] at hp;exact absurd hp (by simp))
    have g9:=PySem.IsL.update d8 (·.push uy);obtain⟨n9,RN⟩:∃n9,(s8.heap.update D (Obj.mapSeq (·.push uy))).get? D=some {cls:=.type "list",data:=.seq (ao++[uy]).toArray n9}:=
     ⟨_,by rw[show(ao++[uy]).toArray=ao.toArray.push uy by simp];exact g9⟩
    refine⟨m',hm,i+1,xs.map some,ys++[y],ao++[uy],n9,H8,(I9 _).qG<|fun p hp=>?_,by simpa using je,?_,f8,hv.append<|.cons r8 .nil,?_,w8⟩
    ·have qS:=zac.mp hp;subst qS;exact⟨RN,n8,by rw[xL];exact vT,sF D zax,fun v z=>by cases z⟩
    ·exact T.keep _ _ _ t8 fun b hb o e=>(Heap.get?_update_other s8.heap (Obj.mapSeq (·.push uy))<|Ne.symm<|FE b hb).trans e
    ·rw[zqA,zaL];lia
 have RO:tn 0 h₁:=T.keep 0 _ _ st fun b _ o e=>k4 b o (k3 b o e);have e4:({s₂ with heap:=h₁,toks:=s₂.toks+([]:List (Str×Value)).length}:Shared)={s₃ with heap:=h₁,toks:=s₃.toks+([]:List (Str×Value)).length}:=by rw[<-lV]
 exact codeAny_compStart_list (loop _ e4)<|T.self X.A 0 _ _ _ RO<|loop _ e4
end
section
variable {X:Cx}{scope:Scope}{ln:List Str}{fv:List (Str×Nat)}{elt tg iter:Expr}{ifs:List Expr}{pos:Pos}{wi:TI}{tk:Option Nat}{tc:Option TT}{te:TE}
theorem RP{Φ:Cx->Prop}{Ψ:Hp->Prop}(S:jF X scope ln fv)(hc:∀H,Ψ H->∀Xc:Cx,Xc.A=X.A->Xc.calm=X.calm->Xc.H₀=H->Φ Xc)(hΨ:∀pins σ H s,Inv X pins σ H s->Ψ H)(hi:zU Φ X tg iter wi)(hg:zV Ψ X scope ln fv tg tk)(ht:s_ X scope (ln++fv.map (·.1)) ifs tc)
  (he:∀(ex:List Addr) (C:Addr) (s:Shared) (H:Hp),PE (gX X scope (ln++fv.map (·.1)) ex C s H) elt te) (hs:∀x,foldedSetIterable iter X.env x=pure x:=by intro _;rfl):
  PE X (.ListComp elt [⟨tg,iter,ifs,0⟩] scope pos) (oU X.K wi tk fv tc te):=by
 intro pins s σ H Q I h;rw[eval_ListComp];refine wpAny_comprehension_free (use:=none) rfl hs (S.Fw I) S.kind S.locals<|aG (hi pins s σ H _ I h) fun v s1 h1=>aG h1 fun oE s2 h2=>?_;obtain⟨it,fp,tn,J,H2,e,I2,T,sM,f2,hW⟩:=h2;subst e;refine FA (RR:=fun acc C=>compPost (model X.prog X.w) X.A X.xe none (EP X pins σ Q) acc C) S (hc H2<|hΨ _ _ _ _ I2) (hΨ _ _ _ _ I2) hg ht he I2 T sM f2 hW ?_;intro D C H' s' m I' ns hn hL h0 vV hp q;refine⟨m,ns,fun h' sb=>⟨.ref D,H',?_,rfl,q⟩⟩;exact I'.turned (it:=C) (t':=s'.toks) (fun b o hb e=>sb.extBut b o hb e) hn hL (.inr h0) vV hp
theorem RQ{Φ:Cx->Prop}{Ψ:Hp->Prop}{i:Nat}{y:Str}{py tj:Pos}(hN:X.N.Nodup)(fS:X.N[i]?=some y)(hy:Loc X.env.scope y)(zZ:swapsWith (.ListComp elt [⟨tg,iter,ifs,0⟩] scope pos) (some<|.Name y py) tj.line X.env=pure true)
  (S:jF X scope ln fv) (hc:∀H,Ψ H->∀Xc:Cx,Xc.A=X.A->Xc.calm=X.calm->Xc.H₀=H->Φ Xc) (hΨ:∀pins σ H s,Inv X pins σ H s->Ψ H) (hi:zU Φ X tg iter wi) (hg:zV Ψ X scope ln fv tg tk) (ht:s_ X scope (ln++fv.map (·.1)) ifs tc)
  (he:∀(ex:List Addr) (C:Addr) (s:Shared) (H:Hp),PE (gX X scope (ln++fv.map (·.1)) ex C s H) elt te) (hs:∀x,foldedSetIterable iter X.env x=pure x:=by intro _;rfl)
  (hf:X.fn y=true\/X.env.scope.names.lookup y=some .local:=by first|exact .inl rfl|exact .inr rfl|assumption):
  PS X (.Assign [.Name y py] (.ListComp elt [⟨tg,iter,ifs,0⟩] scope pos) tj) (jC (oU X.K wi tk fv tc te)<|fg i):=by
 intro pins s σ H D I h;rw[exec_Assign_Name_used _ _ _ _ zZ];refine wpAny_bind<|wpAny_standAt<|wpAny_bind ?_;show wpAny _ X.A (do let _ <-comprehension (.ListComp elt [⟨tg,iter,ifs,0⟩] scope pos) scope X.env _ (newList []) false (eval iter X.env) (some<|assign (.Name y py) X.env)) _ _ s
 refine wpAny_bind (wpAny_mono (wpAny_comprehension_free (use:=some (assign (.Name y py) X.env)) (Q:=fun _ s'=>SP X pins D .next s') rfl hs (S.Fw I) S.kind S.locals
  (aG (hi pins s σ H _ I h) fun v s1 h1=>aG h1 fun oE s2 h2=>?_)) (fun _ s' hq=>wpAny_pure (wpAny_pure hq)) fun _ _ e=>e)
 obtain⟨it,fp,tn,J,H2,e,I2,T,sM,f2,hW⟩:=h2;subst e;refine FA (Qv:=fun x H1=>fg i x σ H1 D.nx) (RR:=fun acc C=>compPost (model X.prog X.w) X.A X.xe (some<|assign (.Name y py) X.env) (fun _ s'=>SP X pins D .next s') acc C) S (hc H2<|hΨ _ _ _ _ I2) (hΨ _ _ _ _ I2) hg ht he I2 T sM f2 hW ?_;intro Da C H' s' m I' ns hn hL h0 vV hp q;show wpAny _ X.A (assign (.Name y py) X.env<|.ref Da) _ _ _;refine wpAny_assign_Name<|DX I' hN fS hy (v:=.ref Da) rfl (fun s4 I4 ⟨a,sb,ha⟩=>?_) hf;have RT:C≠a:=by
  rcases ha with z|z
  ·rw[z];exact hL
  ·exact Ne.symm (vV _ _ z)
 refine⟨m,ns.sameBut sb RT,fun h' RU=>⟨_,H',?_,q⟩⟩;exact I4.turned (it:=C) (t':=s4.toks) (fun b o hb e=>RU.extBut b o hb e) hn hL (.inr h0) vV hp
theorem RV(S:jF X scope ln fv)(hc:X.calm=true)(hi:PI X tg iter wi)(hg:sZ X scope ln fv tg tk)(ht:s_ X scope (ln++fv.map (·.1)) ifs tc)
  (he:∀(ex:List Addr) (C:Addr) (s:Shared) (H:Hp),PE (gX X scope (ln++fv.map (·.1)) ex C s H) elt te) (hs:∀x,foldedSetIterable iter X.env x=pure x:=by intro _;rfl):
  PE X (.ListComp elt [⟨tg,iter,ifs,0⟩] scope pos) (oU X.K wi tk fv tc te):=
 RP (Φ:=Calm) (Ψ:=fun _=>True) S (fun _ _ Xc _ e _=>e.trans hc) (fun _ _ _ _ _=>trivial) hi.p (fun ex C s H _=>hg ex C s H) ht he hs
theorem RW{i:Nat}{y:Str}{py tj:Pos}(hN:X.N.Nodup)(fS:X.N[i]?=some y)(hy:Loc X.env.scope y)(zZ:swapsWith (.ListComp elt [⟨tg,iter,ifs,0⟩] scope pos) (some<|.Name y py) tj.line X.env=pure true)
  (S:jF X scope ln fv) (hc:X.calm=true) (hi:PI X tg iter wi) (hg:sZ X scope ln fv tg tk) (ht:s_ X scope (ln++fv.map (·.1)) ifs tc)
  (he:∀(ex:List Addr) (C:Addr) (s:Shared) (H:Hp),PE (gX X scope (ln++fv.map (·.1)) ex C s H) elt te) (hs:∀x,foldedSetIterable iter X.env x=pure x:=by intro _;rfl)
  (hf:X.fn y=true\/X.env.scope.names.lookup y=some .local:=by first|exact .inl rfl|exact .inr rfl|assumption):
  PS X (.Assign [.Name y py] (.ListComp elt [⟨tg,iter,ifs,0⟩] scope pos) tj) (jC (oU X.K wi tk fv tc te)<|fg i):=
 RQ (Φ:=Calm) (Ψ:=fun _=>True) hN fS hy zZ S (fun _ _ Xc _ e _=>e.trans hc) (fun _ _ _ _ _=>trivial) hi.p (fun ex C s H _=>hg ex C s H) ht he hs hf
end
section
variable {X:Cx}{scope:Scope}{fv:List (Str×Nat)}
theorem RX{x:Str}{px:Pos}(hl:scope.names.lookup x=some .local)(vW:(x::fv.map (·.1)).Nodup):sZ X scope [x] fv (.Name x px) none:=by
 intro ex C s H;have RY:Loc (gX X scope ([x]++fv.map (·.1)) ex C s H).env.scope x:=.inl (lookup_relabel_local hl);refine⟨fg 0,vo (X:=gX X scope ([x]++fv.map (·.1)) ex C s H) vW rfl RY<|.inr<|lookup_relabel_local hl,fun v pre φ H' Q hp h=>?_⟩;obtain⟨a,rfl⟩:∃a,pre=[a]:=by
  match pre,hp with
  |[a],_=>exact⟨a,rfl⟩
 exact h rfl
theorem RZ{x y:Str}{px py pos:Pos}{k:Nat}(hc:X.calm=true)(hx:scope.names.lookup x=some .local)(hy:scope.names.lookup y=some .local)(vW:(x::y::fv.map (·.1)).Nodup):sZ X scope [x,y] fv (.Tuple [.Name x px,.Name y py] k pos) (some 2):=by
 intro ex C s H;generalize eX:gX X scope ([x,y]++fv.map (·.1)) ex C s H=Xc;have xN:Xc.N=x::y::fv.map (·.1):=by rw[<-eX];rfl
 have xc:Xc.calm=true:=by rw[<-eX];exact hc
 have lx:Xc.env.scope.names.lookup x=some .local:=by rw[<-eX];exact lookup_relabel_local hx
 have ly:Xc.env.scope.names.lookup y=some .local:=by rw[<-eX];exact lookup_relabel_local hy
 have p1:PG Xc (.Name x px) (fg 0):=vo (by rw[xN];exact vW) (by rw[xN];rfl) (.inl lx) (.inr lx)
 have p2:PG Xc (.Name y py) (fg 1):=vo (by rw[xN];exact vW) (by rw[xN];rfl) (.inl ly) (.inr ly)
 have xK:Xc.K=X.K:=by rw[<-eX];rfl
 refine⟨Ef Xc.K 2<|vp (fg 0)<|vp (fg 1) y_,Eg xc<|za p1<|za p2 Ee,fun v pre φ H' Q hp h=>?_⟩;obtain⟨a,b,rfl⟩:∃a b,pre=[a,b]:=by
  match pre,hp with
  |[a,b],_=>exact⟨a,b,rfl⟩
 obtain⟨a',xs,rfl,e2,e3,q⟩:=h;obtain⟨v1,v2,rfl⟩:∃v1 v2,xs=[v1,v2]:=by
  match xs,e3 with
  |[v1,v2],_=>exact⟨v1,v2,rfl⟩
 exact⟨a',_,rfl,by rw[xK];exact e2,rfl,v1,_,rfl,v2,_,rfl,rfl,q rfl⟩
end
section
variable {X:Cx}
theorem bh.imp{f:Value->Value->Sem Value}{r r':R2}(h:bh X f r)(i:∀x y H Q,r' x y H Q->r x y H Q):bh X f r':=fun pins s σ H x y v u Q I rx ry q=>h pins s σ H x y v u Q I rx ry (i _ _ _ _ q)
theorem dD.imp{f:Value}{r r':List V->Hp->VK->Prop}(h:dD X f r)(i:∀xs H Q,r' xs H Q->r xs H Q):dD X f r':=fun pins s σ H xs us Q I rv q=>h pins s σ H xs us Q I rv (i _ _ _ q)
def FQ(K:Frag):R2:=fun x y H Q=>match x,y with
 |.int i,.int j=>Q (.int<|i+j) H
 |.str i,.str j=>i.length+j.length<=sizeLine/\Q (.str<|i++j) H
 |.ref l,.ref b=>E_ (.ref l) (.ref b) H Q\/E1 K (.ref l) (.ref b) H Q
 |_,_=>False
theorem R0:bh X (binaryOp .Add) (FQ X.K):=by
 refine bh.imp ((Pa.or PF).or<|QS.or Ql) fun x y H Q h=>?_;cases x<;>cases y<;>first
  |exact False.elim h
  |exact .inl (.inl ⟨_,_,rfl,rfl,h⟩)
  |exact .inl (.inr ⟨_,_,rfl,rfl,h⟩)
  |exact .inr h
def ky(C:Int->Int->Prop)(g:Int->Int->V):R2:=fun x y H Q=>match x,y with
 |.int i,.int j=>C i j/\Q (g i j) H
 |_,_=>False
theorem z6{C:Int->Int->Prop}{g:Int->Int->V}(x y:V)(H:Hp)(Q:VK)(h:ky C g x y H Q):rI C g x y H Q:=by
 cases x<;>cases y<;>first
  |exact False.elim h
  |exact⟨_,_,rfl,rfl,h⟩
theorem tm{g:Int->Int->V}(x y:V)(H:Hp)(Q:VK)(h:ky (fun _ _=>True) g x y H Q):lQ g x y H Q:=by
 cases x<;>cases y<;>first
  |exact False.elim h
  |exact⟨_,_,rfl,rfl,h.2⟩
def FR:R2:=fun x y H Q=>match x,y with
 |.int i,.int j=>vy i j/\Q (.int<|i*j) H
 |.ref l,.int k=>Fb (.ref l) (.int k) H Q
 |_,_=>False
theorem R4:bh X (binaryOp .Mult) FR:=by
 refine bh.imp (Pc.or QU) fun x y H Q h=>?_;cases x<;>cases y<;>first
  |exact False.elim h
  |exact .inl ⟨_,_,rfl,rfl,h⟩
  |exact .inr h
def mZ(K:Frag):Operator->R2
 |.Add=>FQ K
 |.Sub=>ky (fun _ _=>True) fun i j=>.int (i - j)
 |.Mult=>FR
 |.FloorDiv=>ky Ew fun i j=>.int (i / j)
 |.Mod=>ky (fun _ j=>0<j) fun i j=>.int (i % j)
 |.Pow=>ky Ex fun i j=>.int (i ^ j.toNat)
 |_=>fun _ _ _ _=>False
theorem R9(op:Operator):bh X (binaryOp op) (mZ X.K op):=by
 cases op<;>first
  |exact R0
  |exact bh.imp Pb tm
  |exact R4
  |exact bh.imp Pd z6
  |exact bh.imp Pe z6
  |exact bh.imp Pf z6
  |exact fun _ _ _ _ _ _ _ _ _ _ _ _ h=>False.elim h
mutual
def Is(H:Hp):PyData->V->Prop
 |.none,v=>v=.aC
 |.bool b,v=>v=.bl b
 |.int i,v=>v=.int i
 |.str x,v=>v=.str x
 |.list xs,v=>∃a vs,v=.ref a/\H a=some (.lst vs)/\IsL H xs vs
 |.tuple xs,v=>∃a vs,v=.ref a/\H a=some (.tup vs)/\IsL H xs vs
 |.dict _,_=>False
def IsL(H:Hp):List PyData->List V->Prop
 |[],vs=>vs=[]
 |d::ds,vs=>∃v r,vs=v::r/\Is H d v/\IsL H ds r
end
mutual
theorem Is.reads{pins:List (Addr×Obj)}{σ:St}{H:Hp}{s:Shared}(I:Inv X pins σ H s):∀(d:PyData) (v:V) (u:Value),Is H d v->RelV v u->∃as,Reads s.heap u d as
 |.none,v,u,h,r=>by rw[show v=.aC from h] at r;rw[show u=.none from r];exact⟨_,.none⟩
 |.bool b,v,u,h,r=>by rw[show v=.bl b from h] at r;rw[show u=.bool b from r];exact⟨_,.bool b⟩
 |.int i,v,u,h,r=>by rw[show v=.int i from h] at r;obtain⟨t,e⟩:=r;rw[e];exact⟨_,.int i t⟩
 |.str x,v,u,h,r=>by rw[show v=.str x from h] at r;obtain⟨t,e⟩:=r;rw[e];exact⟨_,.str x t⟩
 |.list xs,v,u,h,r=>by
  obtain⟨a,vs,e,hH,hl⟩:=(show ∃a vs,v=.ref a/\H a=some (.lst vs)/\IsL H xs vs by simpa only[Is] using h)
  rw[e] at r;rw[show u=.ref a from r]
  obtain⟨_,ao,n,hv,hg⟩:=I.aD a _ hH;obtain⟨as,q⟩:=IsL.reads I xs vs ao hl hv;exact⟨_,.list hg rfl rfl (by simpa using q)⟩
 |.tuple xs,v,u,h,r=>by
  obtain⟨a,vs,e,hH,hl⟩:=(show ∃a vs,v=.ref a/\H a=some (.tup vs)/\IsL H xs vs by simpa only[Is] using h)
  rw[e] at r;rw[show u=.ref a from r]
  obtain⟨_,ao,hv,o,hg,hc,n,hd⟩:=I.aD a _ hH;obtain⟨as,q⟩:=IsL.reads I xs vs ao hl hv;exact⟨_,.tuple hg hc hd (by simpa using q)⟩
 |.dict _,v,u,h,r=>by simp only[Is] at h
theorem IsL.reads{pins:List (Addr×Obj)}{σ:St}{H:Hp}{s:Shared}(I:Inv X pins σ H s):∀(ds:List PyData) (vs:List V) (us:List Value),IsL H ds vs->Vals vs us->∃as,ReadsAll s.heap us ds as
 |[],vs,us,h,r=>by
  rw[show vs=[] from h] at r
  cases r;exact⟨_,.nil⟩
 |d::ds,vs,us,h,r=>by
  obtain⟨v,q,e,h1,h2⟩:=(show ∃v r,vs=v::r/\Is H d v/\IsL H ds r by simpa only[IsL] using h)
  rw[e] at r;cases r with
  |cons r1 r2=>
   obtain⟨as,q1⟩:=Is.reads I d v _ h1 r1;obtain⟨bs,q2⟩:=IsL.reads I ds q _ h2 r2;exact⟨_,.cons q1 q2⟩
end
def R_:V->Bool
 |.mT _=>false
 |.fN _=>false
 |_=>true
def Sa:R2:=fun x y H Q=>∃a b xs,x=.ref a/\y=.ref b/\H a=some (.lst xs)/\H b=some (.lst xs)/\xs.all R_=true/\Q (.bl true) H
def oX(neg:Bool):R2:=fun x y H Q=>match oH x y with
 |true=>Q (.bl<|neg ^^ decide (x=y)) H
 |false=>∃d e,Is H d x/\Is H e y/\SeqAt.shaped d=true/\SeqAt.shaped e=true/\Q (.bl<|neg ^^ PyData.eqv d e) H
def Sb:R2:=fun x y H Q=>oX false x y H Q\/Sa x y H Q
theorem Se(hu:X.A.units+64<cLine):bh X (compareOp .Eq) (oX false):=by
 intro pins s σ H x y v u Q I rx ry h;unfold oX at h;by_cases hs:oH x y=true
 ·rw[hs] at h
  simp only[zaI] at h
  exact Pl pins s σ H x y v u Q I rx ry ⟨hs,h⟩
 ·rw[show oH x y=false by simpa using hs] at h
  obtain⟨d,e,h1,h2,h3,h4,q⟩:=h;rw[zaI] at q;obtain⟨as,r1⟩:=Is.reads I d x v h1 rx;obtain⟨bs,r2⟩:=Is.reads I e y u h2 ry;exact eq_dataH r1 r2 h3 h4 hu ⟨.bl _,H,I,rfl,q⟩
theorem Sf(hu:X.A.units+64<cLine):bh X (compareOp .NotEq) (oX true):=by
 intro pins s σ H x y v u Q I rx ry h;unfold oX at h;by_cases hs:oH x y=true
 ·rw[hs] at h
  simp only[zaN] at h
  exact Pm pins s σ H x y v u Q I rx ry ⟨hs,h⟩
 ·rw[show oH x y=false by simpa using hs] at h
  obtain⟨d,e,h1,h2,h3,h4,q⟩:=h;rw[zaN] at q;obtain⟨as,r1⟩:=Is.reads I d x v h1 rx;obtain⟨bs,r2⟩:=Is.reads I e y u h2 ry;exact ne_dataH r1 r2 h3 h4 hu ⟨.bl _,H,I,rfl,q⟩
def afl(K:Frag)(H:Hp)(a:Addr):Prop:=(∃xs,au K H a xs)\/(∃xs,aH K H a xs)\/∃kvs,H a=some (.dK kvs)
def vX(K:Frag)(neg:Bool):R2:=fun x y H Q=>match y with
 |.str j=>∃i,x=.str i/\Q (.bl (if neg then !(!(Builtin.Str.occurrences j i 0 j.length 1).isEmpty) else !(Builtin.Str.occurrences j i 0 j.length 1).isEmpty)) H
 |.ref p=>match x with
  |.ref _=>False
  |x=>zD K neg x (.ref p) H Q
 |_=>False
theorem Sh(hu:X.A.units+64<cLine):bh X (compareOp .In) (vX X.K false):=by
 intro pins s σ H x y v u Q I rx ry h;cases y with
 |str j=>
  obtain⟨i,e,q⟩:=h;exact Pr pins s σ H x _ v u Q I rx ry ⟨i,j,e,rfl,q⟩
 |ref p=>
  cases x with
  |ref a=>exact False.elim h
  |_=>exact Qx pins s σ H _ _ v u Q I rx ry h
 |_=>exact False.elim h
theorem Si(hu:X.A.units+64<cLine):bh X (compareOp .NotIn) (vX X.K true):=by
 intro pins s σ H x y v u Q I rx ry h;cases y with
 |str j=>
  obtain⟨i,e,q⟩:=h;exact Px pins s σ H x _ v u Q I rx ry ⟨i,j,e,rfl,q⟩
 |ref p=>
  cases x with
  |ref a=>exact False.elim h
  |_=>exact Qy pins s σ H _ _ v u Q I rx ry h
 |_=>exact False.elim h
theorem Sj{M:Model}{A:Around}{E:Value->Shared->Prop}{s:Shared}{Q:Value->Shared->Prop}{v:Value}{d:Bool}(hv:∀id,v≠ .builtin id)(h:Q (.bool<|v==.bool d) s):wpAny M A (compareOp .Is v<|.bool d) Q E s:=by
 cases v<;>first|exact wpAny_pure h|exact absurd rfl (hv _)
theorem Sk{M:Model}{A:Around}{E:Value->Shared->Prop}{s:Shared}{Q:Value->Shared->Prop}{v:Value}{d:Bool}(hv:∀id,v≠ .builtin id)(h:Q (.bool<|!(v==.bool d)) s):wpAny M A (compareOp .IsNot v<|.bool d) Q E s:=by
 cases v<;>first|exact wpAny_pure h|exact absurd rfl (hv _)
def FT:R2:=fun x y H Q=>match y with
 |.bl b=>Q (.bl<|decide<|x=.bl b) H
 |_=>y=.aC/\Q (.bl<|decide<|x=.aC) H
def FU:R2:=fun x y H Q=>match y with
 |.bl b=>Q (.bl<|!decide (x=.bl b)) H
 |_=>y=.aC/\Q (.bl<|!decide (x=.aC)) H
theorem Sl:bh X (compareOp .Is) FT:=by
 intro pins s σ H x y v u Q I rx ry h;cases y with
 |bl b=>
  cases ry;have nb:∀id,v≠ .builtin id:=fun id z=>by
   subst z;cases x<;>first
    |(obtain⟨t,e⟩:=rx;cases e;done)
    |(cases rx;done)
  refine Sj nb<|bW I (show Q (.bl<|decide<|x=.bl b) H from h) ?_
  cases x<;>first
   |(cases rx;rfl)
   |(obtain⟨t,rfl⟩:=rx;rfl)
   |(cases rx;rename_i a;cases a<;>cases b<;>rfl)
 |_=>exact Pu pins s σ H x _ v u Q I rx ry h
theorem Sm:bh X (compareOp .IsNot) FU:=by
 intro pins s σ H x y v u Q I rx ry h;cases y with
 |bl b=>
  cases ry;have nb:∀id,v≠ .builtin id:=fun id z=>by
   subst z;cases x<;>first
    |(obtain⟨t,e⟩:=rx;cases e;done)
    |(cases rx;done)
  refine Sk nb<|bW I (show Q (.bl<|!decide (x=.bl b)) H from h) ?_
  cases x<;>first
   |(cases rx;rfl)
   |(obtain⟨t,rfl⟩:=rx;rfl)
   |(cases rx;rename_i a;cases a<;>cases b<;>rfl)
 |_=>exact Pw pins s σ H x _ v u Q I rx ry h
def c9(K:Frag):CmpOp->R2
 |.Eq=>oX false
 |.NotEq=>oX true
 |.Lt=>ky (fun _ _=>True) fun i j=>.bl (decide<|i<j)
 |.LtE=>ky (fun _ _=>True) fun i j=>.bl (decide<|i<=j)
 |.Gt=>ky (fun _ _=>True) fun i j=>.bl (decide<|j<i)
 |.GtE=>ky (fun _ _=>True) fun i j=>.bl (decide<|j<=i)
 |.In=>vX K false
 |.NotIn=>vX K true
 |.Is=>FT
 |.IsNot=>FU
theorem vY(hu:X.A.units+64<cLine)(op:CmpOp):bh X (compareOp op) (c9 X.K op):=by
 cases op with
 |Eq=>exact Se hu
 |NotEq=>exact Sf hu
 |Lt=>exact bh.imp Pn tm
 |LtE=>exact bh.imp Po tm
 |Gt=>exact bh.imp Pp tm
 |GtE=>exact bh.imp Pq tm
 |In=>exact Sh hu
 |NotIn=>exact Si hu
 |Is=>exact Sl
 |IsNot=>exact Sm
inductive Ty where|int|str|bool|list|tuple|dict
 deriving DecidableEq
def Ty.nm:Ty->String
 |.int=> "int" |.str=> "str" |.bool=> "bool" |.list=> "list" |.tuple=> "tuple" |.dict=> "dict"
def bH(T:Ty)(x:V)(H:Hp)(Q:Bool->Prop):Prop:=match x with
 |.aC=>Q false
 |.bl _=>Q (T==.bool ||T==.int)
 |.int _=>Q (T==.int)
 |.str _=>Q (T==.str)
 |.ref a=>match H a with
  |some (.lst _)=>Q (T==.list)
  |some (.bV _<|.lst _)=>Q (T==.list)
  |some (.tup _)=>Q (T==.tuple)
  |some (.dK _)=>Q (T==.dict)
  |some (.dT _)=>Q (T==.dict)
  |_=>False
 |_=>False
theorem m3(K:Frag)(S T:Ty):kitOne K (.type S.nm) (.type T.nm)=some (S==T ||(S==.bool && T==.int)):=by
 cases S<;>cases T<;>rfl
theorem Sn(K:Frag)(T:Ty):kitOne K (.type "NoneType") (.type T.nm)=some false:=by
 cases T<;>rfl
theorem So(hc:X.calm=true):dD X (.builtin "sum") (fun xs H Q=>∃(p:Addr) (ns:List Int),xs=[.ref p]/\au X.K H p (ns.map V.int)/\Q (.int ns.sum) H):=by
 intro pins s σ H xs us Q I r h;obtain⟨p,ns,rfl,hq,q⟩:=h;obtain⟨u,rfl,ru⟩:=vals1 r;cases ru;obtain⟨ao,rv,pl,hz⟩:=I.list hq;have hi:=intsAre_of rv;obtain⟨xs,hx⟩:=hi.allInts.items;have tw:s.heap.IsList p (intItems xs):=hx ▸ pl.isList;refine sum_intListG (I.ok.hd hc) tw fun h' tk t' hk=>?_;have e1:ns=xs.toList.map (·.1):=by
  rw[<-nums_intItems,<-hx];exact(show numsOf ao.toArray.toList=ns from hi.numsOf).symm
 have e2:preSum (numAt xs) xs.size=ns.sum:=by
  rw[preSum_eq,zaV (by simp),e1]
 rw[e2];exact⟨.int ns.sum,H,I.kept (t':=tk) hk,⟨t',rfl⟩,q⟩
theorem FV:∀{ts:List Str}{us:List Value},Vals (ts.map V.str) us->∃l:List (Str×Tok),us=strValues l/\l.map (·.1)=ts
 |[],_,.nil=>⟨[],rfl,rfl⟩
 |x::ts,_,.cons ⟨t,e⟩ r=>by
  obtain⟨l,e1,e2⟩:=FV r;subst e e1;exact⟨(x,t)::l,rfl,by simp[e2]⟩
def rJoin(K:Frag):V->List V->Hp->VK->Prop:=fun x vs H Q=>∃(sep:Str) (p:Addr) (ts:List Str),x=.str sep/\vs=[.ref p]/\au K H p (ts.map V.str)/\JoinOk sep ts=true/\Q (.str<|Txt.join sep ts) H
theorem Sq:qO X "str.join" (rJoin X.K):=by
 intro pins s σ H x vs v us Q I rx rv h;obtain⟨sep,p,ts,rfl,rfl,hq,hj,q⟩:=h;obtain⟨t,rfl⟩:=rx;obtain⟨u,rfl,ru⟩:=vals1 rv;cases ru;obtain⟨ao,rv,pl,hz⟩:=I.list hq;obtain⟨l,rfl,e2⟩:=FV rv;exact SC.join pl.isList e2 hj fun t' k=>⟨.str _,H,I.tok k,⟨t',rfl⟩,q⟩
def Sr:V->List V->Hp->VK->Prop:=fun x vs H Q=>∃z y,x=.str z/\vs=[.str y]/\z.length<=sizeLine/\Q (.str<|Txt.lstripChars z y) H
theorem Ss:qO X "str.lstrip" Sr:=by
 intro pins s σ H x vs v us Q I rx rv h;obtain⟨z,y,rfl,rfl,hz,q⟩:=h;obtain⟨t,rfl⟩:=rx;obtain⟨u,rfl,⟨t2,rfl⟩⟩:=vals1 rv;refine call_gives F.slot_str_lstrip (typeIs_str _ _ _) F.entry_str_lstrip (F.args_str_lstrip_2 _ _) (gives_str_lstrip_chars z y t t2)<|post_val_or_made (fun _=>fits_stripped _ _ _ hz) fun t' k=>?_;exact⟨.str _,H,I.tok k,⟨t',rfl⟩,q⟩
def kz{α:Type}(xs:List α)(lo hi:Option Int):List α:=(xs.drop<|HT.cZ xs.length 0 lo).take (HT.cZ xs.length xs.length hi - HT.cZ xs.length 0 lo)
def jH(z:Str)(lo hi:Option Int):Str:=⟨(kz z.cps.toList lo hi).toArray⟩
theorem Su(z:Str)(lo hi:Option Int):((Builtin.Str.strSliceIndices lo hi 1 z.length).filterMap (z.cps[·]?))=kz z.cps.toList lo hi:=by
 obtain⟨h1,h2,h3⟩:=zB lo hi z.length;have e0:Builtin.Str.strSliceIndices lo hi 1 z.length=sliceRange (sliceBounds lo hi none z.length).1 (sliceBounds lo hi none z.length).2.1 (sliceBounds lo hi none z.length).2.2:=rfl;have hz:z.cps.toList.length=z.length:=by simp[Str.length]
 rw[e0,h1,h2,h3,sliceRange_one,pick_run];unfold kz;rw[hz]
end
section
variable {X:Cx}
def vZ(K:Frag)(neg:Bool):R2:=fun x y H Q=>∃p xs d es,y=.ref p/\au K H p xs/\Is H d x/\IsL H es xs/\SeqAt.shaped d=true/\d.depth<=60/\(∀e∈es,SeqAt.shaped e=true)/\Q (.bl<|neg ^^ es.any fun e=>PyData.eqv e d) H
open Classical in
end
def z7:HO:=.ext fun _=>True
structure z8 (ob:Obj) (cls:Value) (vs:Array Value):Prop where
 cls:ob.cls=cls
 data:ob.data=.fields vs
 afm:vs[2]?=some .none
 dict:ob.dict=none
def ExcAt(H:Hp)(ea D:Addr):Prop:= ∃ob vs,H ea=some (.bV ob z7)/\z8 ob (.ref D) vs
structure Sv (K:Frag) (D:Addr):Prop where
 hga:PySem.W.findIn K (.ref D) "__getattribute__"=some (some<|.builtin "BaseException.__getattribute__")
 hgn:PySem.W.findIn K (.ref D) "__getattr__"=some none
 hk:(PySem.W.clsIn K D).isSome=true
 ha:PySem.W.findIn K (.ref D) "__class__"=some (some<|.builtin "object.__class__")
 hn:specialIn K (.builtin "object.__class__") "__get__"=some (some<|.builtin "getset_descriptor.__get__")
 zk:takesIn K (.builtin "object.__class__")=some true
 hm:mroIn K D (.type "object")=some true
 hb:mroIn K D (.type "BaseException")=some true
def cV:V->Value
 |.ref a=>.ref a
 |.ty n=>.type n
 |_=>.none
def FW(K:Frag):List V->Hp->VK->Prop
 |[.ref ea,c],H,Q=>∃D b,ExcAt H ea D/\Sv K D/\((∃C,c=.ref C)\/∃n,c=.ty n)/\kitOne K (.ref D) (cV c)=some b/\Q (.bl b) H
 |_,_,_=>False
def Sw(sp:Sp)(hv:Option Addr)(t:TA):TE:=fun σ H Q=>t σ H fun vs H1=>(∃ea D,hv=some ea/\ExcAt H1 ea D)/\sp vs H1 Q E0
def z9(C:Addr)(E:XK)(t:TA):TS:=fun _ σ H=>t σ H fun vs H1=>vs.length<=sizeLine/\E (.ref C) none H1
def Sx(K:Frag)(C:Addr)(i n:Nat)(th:Addr->TS)(D:Ends):XK:=fun cls _ H'=>exmOne K cls (.ref C)=some true/\
 ∀(ea:Addr) (ob:Obj) (vs:Array Value) (σ':St),H' ea=none->σ'.length=n->z8 ob cls vs->th ea {nx:=fun _ _=>False,rt:=D.rt} (σ'.set i<|some<|.ref ea) (upd H' ea<|.bV ob z7)
def Sy(K:Frag)(C:Addr)(i n:Nat)(tb:XK->TS)(th:Addr->TS):TS:=fun D σ H=>tb (Sx K C i n th D) {nx:=D.nx,rt:=D.rt} σ H
def Sz(K:Frag)(C:Addr)(i:Nat)(th:Addr->TS)(D:Ends)(σ:St):XK:=fun cls _ H'=>exmOne K cls (.ref C)=some true/\
 ∀(ea:Addr) (ob:Obj) (vs:Array Value),H' ea=none->z8 ob cls vs->th ea {nx:=fun _ _=>False,rt:=D.rt} (σ.set i<|some<|.ref ea) (upd H' ea<|.bV ob z7)
def SD(K:Frag)(C:Addr)(i k:Nat)(sp:Sp)(ta:TA)(th:Addr->TS):TS:=fun D σ H=>ta σ H fun vs H1=>sp vs H1 (fun v H2=>D.nx (σ.set k<|some v) H2) (Sz K C i th D σ)
inductive lW where|len|min|max|sum|int|list|tuple|abs
 deriving DecidableEq
inductive iu where|append|pop|extend|join|lstrip|starts|reverse|clear|index|find|count|FX|z_
 deriving DecidableEq
inductive IK where|list|tup|gP|SE|zip|SF|txt|SH|SI
 deriving DecidableEq
inductive RE where
 |v (i:Nat)|c (x:V)|g (j:Nat)
 |bin (op:Operator) (a b:RE)|neg (a:RE)
 |cmp (op:CmpOp) (a b:RE)|tD (op fP:CmpOp) (a b d:RE)|FY (op fP FZ:CmpOp) (a b d f:RE)
 |and (as:List RE)|or (as:List RE)|not (a:RE)|gY (t a b:RE)
 |call (j:Nat) (as:List RE)|blt (b:lW) (as:List RE)|eK (T:Ty) (a:RE)
 |bI (m:iu) (o:RE) (as:List RE)
 |ix (a b:RE)|sl (a:RE) (lo hi:Option RE)
 |tup (as:List RE)|lst (as:List RE)
 |comp (tk:Option Nat) (fv:List (Str×Nat)) (k:IK) (ao:List RE) (cond:Option RE) (elt:RE)
 |F6 (a c:RE)|SJ (j:Nat) (a:RE)|SK|same (a b:RE)
 |SM|iR (a b:RE)|qU (a b:RE)|F7 (a b:RE)|SN (o a b:RE)|inD (a b:RE)|F8 (a b:RE)
 |xt (T:Frag->TA->TE) (as:List RE)|xm (T:Frag->TE->TA->TE) (o:RE) (as:List RE)
 |fld (o:RE) (f:Str)|aM (j:Nat) (m:Str) (o:RE) (as:List RE)|make (j:Nat) (as:List RE)
structure bj where
 K:Frag
 fs:Nat->Sp
 gv:Nat->V
 E:XK
 sd:Addr->List (Key×V)->Prop
 ms:Nat->Addr×Sp
 kt:Nat->Addr×Sp
 ex:Nat->Addr
 hs:Nat->Sp
 hv:Option Addr
abbrev bj.calm(Γ:bj):bj:={Γ with E:=E0}
inductive RS where
 |asg (i:Nat) (e:RE)|v3 (i:Nat) (e:RE)|set (o ix e:RE)
 |drop (e:RE)|ret (e:RE)|SO
 |ite (c:RE) (t e:List RS)
 |iy (i:Nat) (k:IK) (ao:List RE) (body:List RS)
 |qW (is:List Nat) (k:IK) (ao:List RE) (body:List RS)
 |kA (c:RE) (body:List RS)
 |pass|brk|cont|never
 |SQ (o lo hi e:RE)|dR (o:RE) (f:Str) (e:RE)
 |tE (is:List Nat) (e:RE)|dput (o i e:RE)|iz (j:Nat) (as:List RE)|SR (n i j:Nat) (body su:List RS)|SS (k i j f:Nat) (as:List RE) (su:List RS)
 |xs (T:bj->TS)
def kD(K:Frag)(x:V)(H:Hp)(Q:Bool->Prop):Prop:=match x with
 |.aC=>Q false
 |.bl b=>Q b
 |.int i=>Q (i !=0)
 |.str y=>y.length<=sizeLine/\Q ((y.length:Int) !=0)
 |.ref p=>(∃xs,au K H p xs/\Q (!xs.isEmpty))\/(∃xs,aH K H p xs/\Q (!xs.isEmpty))\/∃kvs,H p=some (.dK kvs)/\Q (!kvs.isEmpty)
 |_=>False
theorem F9{K:Frag}{x:V}{H:Hp}{Q:Bool->Prop}(h:kD K x H Q):∃k,EB K x H k/\Q k:=by
 cases x with
 |aC=>exact⟨_,rfl,h⟩
 |bl b=>exact⟨_,rfl,h⟩
 |int i=>exact⟨_,rfl,h⟩
 |str y=>exact⟨_,⟨h.1,rfl⟩,h.2⟩
 |ref p=>
  rcases h with⟨xs,h1,h2⟩|⟨xs,h1,h2⟩|⟨xs,h1,h2⟩
  ·exact⟨_,.inl ⟨xs,h1,rfl⟩,h2⟩
  ·exact⟨_,.inr<|.inl ⟨xs,h1,rfl⟩,h2⟩
  ·exact⟨_,.inr<|.inr ⟨xs,h1,rfl⟩,h2⟩
 |_=>exact False.elim h
def gZ(K:Frag)(t:TE):TT:=fun σ H Q=>t σ H fun x H1=>kD K x H1 fun b=>Q b H1
def Aa(K:Frag)(t:TE):TE:=fun σ H Q=>t σ H fun x H1=>kD K x H1 fun b=>Q (.bl<|!b) H1
def F_:V->Hp->VK->Prop:=fun x H Q=>match x with|.int i=>Q (.int<|-i) H|_=>False
def sT(K:Frag)(x:V)(H:Hp)(Q:Nat->Prop):Prop:=match x with
 |.str y=>y.length<=sizeLine/\Q y.length
 |.ref p=>(∃xs,au K H p xs/\Q xs.length)\/∃xs,aH K H p xs/\Q xs.length
 |_=>False
def signs(x:Str):List V:=x.cps.toList.map fun c=>V.str ⟨#[c]⟩
def SU:TE:=fun _ H Q=>∀p,H p=none->Q (.ref p) (upd H p<|.dK [])
def kE(K:Frag):lW->List V->Hp->VK->Prop
 |.len,[x],H,Q=>sT K x H fun n=>Q (.int n) H
 |.min,[.int i,.int j],H,Q=>Q (.int (if j<i then j else i)) H
 |.min,[.ref p],H,Q=>∃ns:List Int,au K H p (ns.map V.int)/\ns≠ []/\∀m:Int,m∈ns->(∀n∈ns,m<=n)->Q (.int m) H
 |.sum,[.ref p],H,Q=>∃ns:List Int,au K H p (ns.map V.int)/\Q (.int ns.sum) H
 |.int,[.int i],H,Q=>Q (.int i) H
 |.int,[.bl k],H,Q=>Q (.int (if k then 1 else 0)) H
 |.list,[.ref p],H,Q=>∃ys,(au K H p ys\/aH K H p ys)/\∀l,H l=none->Q (.ref l) (upd H l<|.lst ys)
 |.list,[.str x],H,Q=>x.length<=sizeLine/\∀l,H l=none->Q (.ref l) (upd H l<|.lst<|signs x)
 |_,_,_,_=>False
def kH(T:Ty):List V->Hp->VK->Prop
 |[x,.ty n],H,Q=>n=T.nm/\bH T x H fun b=>Q (.bl b) H
 |_,_,_=>False
def v5(K:Frag):iu->V->List V->Hp->VK->Prop
 |.append,.ref l,[y],H,Q=>∃xs,H l=some (.lst xs)/\xs.length<sizeLine/\Q .aC (upd H l<|.lst<|xs++[y])
 |.pop,.ref l,[],H,Q=>∃xs y,H l=some (.lst xs)/\xs[xs.length - 1]?=some y/\Q y (upd H l<|.lst xs.dropLast)
 |.extend,.ref l,[.ref b],H,Q=>∃xs zs,H l=some (.lst xs)/\H b=some (.lst zs)/\xs.length+zs.length<=sizeLine/\Q .aC (upd H l<|.lst<|xs++zs)
 |.join,.str sep,[.ref p],H,Q=>∃ts:List Str,au K H p (ts.map V.str)/\JoinOk sep ts=true/\Q (.str<|Txt.join sep ts) H
 |.lstrip,.str z,[.str y],H,Q=>z.length<=sizeLine/\Q (.str<|Txt.lstripChars z y) H
 |.clear,.ref l,[],H,Q=>∃xs,H l=some (.lst xs)/\Q .aC (upd H l<|.lst [])
 |.z_,.ref l,[y],H,Q=>∃xs,au K H l xs/\iq y=true/\xs.all iq=true/\eZ y xs=true/\Q (.int (xs.findIdx (fun z=>gT z y):Nat)) H
 |_,_,_,_,_=>False
def tF:iu->String
 |.join|.lstrip|.starts|.find|.count=> "str"
 |_=> "list"
def qX(K:Frag)(m:iu)(to:TE)(t:TA):TE:=fun σ H Q=>to σ H fun x H1=>qQ K (tF m) x H1/\t σ H1 fun xs H2=>v5 K m x xs H2 Q
def oY(K:Frag):V->Option Int->Option Int->Hp->VK->Prop:=fun x lo hi H Q=>match x with
 |.str z=>z.length<=sizeLine/\Q (.str<|jH z lo hi) H
 |.ref a=>(∃xs,au K H a xs/\∀p,H p=none->Q (.ref p) (upd H p<|.lst<|d6 xs lo hi))\/
  False
 |_=>False
def lX(kvs:List (Key×V))(k:Key):Option V:=(kvs.find? fun kv=>decide (kv.1=k)).map (·.2)
def Ga(sd:Addr->List (Key×V)->Prop):R2:=fun x y H Q=>∃p kvs k v,x=.ref p/\y=kV k/\sd p kvs/\lX kvs k=some v/\Q v H
def m4(K:Frag)(sd:Addr->List (Key×V)->Prop):R2:=fun x y H Q=>E4 K x y H Q\/E5 K x y H Q\/E6 x y H Q\/Ga sd x y H Q
def SV(r r' r2:R2)(ta tb tc td:TE):TT:=fun σ H Q=>ta σ H fun x H1=>tb σ H1 fun y H2=>r x y H2 fun z H3=>∃k,z=.bl k/\
 (if k=true then tc σ H3 fun w H4=>r' y w H4 fun z2 H5=>∃k2,z2=.bl k2/\(if k2=true then td σ H5 fun u H6=>r2 w u H6 fun z3 H7=>∃k3,z3=.bl k3/\Q k3 H7 else Q false H5) else Q false H3)
def tG(K:Frag)(a b:Addr):It:=
  ⟨fun i H=>∃xs ys,au K H a xs/\au K H b ys/\i<xs.length/\i<ys.length,
   fun i H x H'=>∃T,H T=none/\x=.ref T/\∀xs ys u v,au K H a xs->au K H b ys->xs[i]?=some u->ys[i]?=some v->H'=upd H T (.tup [u,v]),
   fun i H=>∃xs ys,au K H a xs/\au K H b ys/\i=min xs.length ys.length⟩
def SW(K:Frag)(a:Addr):It:=
  ⟨fun i H=>∃xs,au K H a xs/\i<xs.length,
   fun i H x H'=>∃T,H T=none/\x=.ref T/\∀xs u,au K H a xs->xs[i]?=some u->H'=upd H T (.tup [.int (i:Nat),u]),
   fun i H=>∃xs,au K H a xs/\i=xs.length⟩
def SX(K:Frag)(ta:TA):TI:=fun σ H R=>ta σ H fun vs H1=>∃a,vs=[.ref a]/\(∃xs,au K H1 a xs)/\R (SW K a) H1
def Ab(K:Frag)(ta:TA):TI:=fun σ H R=>ta σ H fun vs H1=>∃a b,vs=[.ref a,.ref b]/\(∃xs,au K H1 a xs)/\(∃ys,au K H1 b ys)/\R (tG K a b) H1
def SY(K:Frag)(a b:Addr):It:=
  ⟨fun i H=>∃xs ys,aH K H a xs/\aH K H b ys/\i<xs.length/\i<ys.length,
   fun i H x H'=>∃T,H T=none/\x=.ref T/\∀xs ys u v,aH K H a xs->aH K H b ys->xs[i]?=some u->ys[i]?=some v->H'=upd H T (.tup [u,v]),
   fun i H=>∃xs ys,aH K H a xs/\aH K H b ys/\i=min xs.length ys.length⟩
def S0(K:Frag)(ta:TA):TI:=fun σ H R=>ta σ H fun vs H1=>∃a b,vs=[.ref a,.ref b]/\(∃xs,aH K H1 a xs)/\(∃ys,aH K H1 b ys)/\R (SY K a b) H1
def S_(z:Str):It:=⟨fun i _=>i<z.length,fun i H x H'=>H'=H/\∃c,z.cps[i]?=some c/\x=.str ⟨#[c]⟩,fun i _=>i=z.length⟩
def Ta(ta:TE):TI:=fun σ H R=>ta σ H fun x H1=>∃z,x=.str z/\R (S_ z) H1
def Tb(lo c:Int)(n:Nat):It:=⟨fun i _=>i<n,fun i H x H'=>H'=H/\x=.int (lo+i*c),fun i _=>n<=i⟩
def Tc(ta:TA):TI:=fun σ H R=>ta σ H fun vs H1=>∃(i j c:Int) (n:Nat),vs=[.int i,.int j,.int c]/\c≠0/\Builtin.Range.small i j c=true/\Builtin.divisionGoesByPylong (j - i) c=false/\Builtin.Range.rangeSize i j c=n/\R (Tb i c n) H1
mutual
def ae(Γ:bj):RE->TE
 |.v i=>y4 i
 |.c x=>tC x
 |.g j=>tC (Γ.gv j)
 |.bin op a b=>eV (mZ Γ.K op) (ae Γ a) (ae Γ b)
 |.neg a=>Es F_ (ae Γ a)
 |.cmp op a b=>eV (c9 Γ.K op) (ae Γ a) (ae Γ b)
 |.tD op fP a b d=>vz (c9 Γ.K op) (c9 Γ.K fP) (ae Γ a) (ae Γ b) (ae Γ d)
 |.FY _ _ _ _ _ _ _=>fun _ _ _=>False
 |.and as=>Gb Γ as
 |.or as=>Gd Γ as
 |.not a=>Aa Γ.K (ae Γ a)
 |.gY t a b=>D7 (bg Γ t) (ae Γ a) (ae Γ b)
 |.call j as=>zl (Γ.fs j) [] Γ.E (aS Γ as)
 |.blt b as=>dQ (kE Γ.K b) (aS Γ as)
 |.eK T a=>dQ (kH T) (dP (ae Γ a)<|dP (tC<|.ty T.nm) ja)
 |.bI m o as=>qX Γ.K m (ae Γ o) (aS Γ as)
 |.ix a b=>eV (m4 Γ.K Γ.sd) (ae Γ a) (ae Γ b)
 |.sl a lo hi=>zv (oY Γ.K) (ae Γ a) (m5 Γ lo) (m5 Γ hi)
 |.tup as=>EK (aS Γ as)
 |.lst as=>EL (aS Γ as)
 |.comp tk fv k ao cond elt=>oU Γ.K (iS Γ k ao) tk fv (Ac Γ.calm cond) (ae Γ.calm elt)
 |.F6 a c=>dQ (FW Γ.K) (dP (ae Γ a)<|dP (ae Γ c) ja)
 |.SK=>SU
 |.same a b=>eV Sb (ae Γ a) (ae Γ b)
 |.inD a b=>eV (vZ Γ.K false) (ae Γ a) (ae Γ b)
 |.F8 a b=>eV (vZ Γ.K true) (ae Γ a) (ae Γ b)
 |.SM=>Rl
 |.iR a b=>Fn (ae Γ a) (ae Γ b)
 |.qU a b=>zR (ae Γ a) (ae Γ b)
 |.F7 a b=>Fo (ae Γ a) (ae Γ b)
 |.SN o a b=>Rn (ae Γ o) (ae Γ a) (ae Γ b)
 |.xt T as=>T Γ.K (aS Γ as)
 |.xm T o as=>T Γ.K (ae Γ o) (aS Γ as)
 |.SJ j a=>Sw (Γ.hs j) Γ.hv (dP (ae Γ a) ja)
 |.fld o f=>vB Γ.K (ae Γ o) f
 |.aM j m o as=>oM (Γ.ms j).1 m (Γ.ms j).2 [] Γ.E (ae Γ o) (aS Γ as)
 |.make j as=>zm (Γ.kt j).1 (Γ.kt j).2 [] Γ.E (aS Γ as)
def bg(Γ:bj):RE->TT
 |.not a=>D5 (bg Γ a)
 |.inD a b=>qK (eV (vZ Γ.K false) (ae Γ a)<|ae Γ b)
 |.F8 a b=>qK (eV (vZ Γ.K true) (ae Γ a)<|ae Γ b)
 |.qU a b=>tB (zR (ae Γ a)<|ae Γ b)
 |.F7 a b=>tB (Fo (ae Γ a)<|ae Γ b)
 |.and as=>Ge Γ as
 |.or as=>Gf Γ as
 |.cmp op a b=>qK (eV (c9 Γ.K op) (ae Γ a)<|ae Γ b)
 |.tD op fP a b d=>qK (vz (c9 Γ.K op) (c9 Γ.K fP) (ae Γ a) (ae Γ b)<|ae Γ d)
 |.FY op fP FZ a b d f=>SV (c9 Γ.K op) (c9 Γ.K fP) (c9 Γ.K FZ) (ae Γ a) (ae Γ b) (ae Γ d) (ae Γ f)
 |.v i=>gZ Γ.K (y4 i)
 |.call j as=>gZ Γ.K (zl (Γ.fs j) [] Γ.E<|aS Γ as)
 |.eK T a=>gZ Γ.K (dQ (kH T)<|dP (ae Γ a)<|dP (tC<|.ty T.nm) ja)
 |.F6 a c=>gZ Γ.K (dQ (FW Γ.K)<|dP (ae Γ a)<|dP (ae Γ c) ja)
 |.bI m o as=>gZ Γ.K (qX Γ.K m (ae Γ o)<|aS Γ as)
 |.ix a b=>gZ Γ.K (eV (m4 Γ.K Γ.sd) (ae Γ a)<|ae Γ b)
 |.bin op a b=>gZ Γ.K (eV (mZ Γ.K op) (ae Γ a)<|ae Γ b)
 |.fld o f=>gZ Γ.K (vB Γ.K (ae Γ o) f)
 |.xt T as=>gZ Γ.K (T Γ.K<|aS Γ as)
 |.xm T o as=>gZ Γ.K (T Γ.K (ae Γ o)<|aS Γ as)
 |.aM j m o as=>gZ Γ.K (oM (Γ.ms j).1 m (Γ.ms j).2 [] Γ.E (ae Γ o)<|aS Γ as)
 |_=>fun _ _ _=>False
def aS(Γ:bj):List RE->TA
 |[]=>ja
 |a::r=>dP (ae Γ a) (aS Γ r)
def Gb(Γ:bj):List RE->TE
 |[]=>fun _ _ _=>False
 |[a]=>ae Γ a
 |a::r=>D6 (ae Γ a) (Gb Γ r)
def Gd(Γ:bj):List RE->TE
 |[]=>fun _ _ _=>False
 |[a]=>ae Γ a
 |a::r=>OJ (ae Γ a) (Gd Γ r)
def Ge(Γ:bj):List RE->TT
 |[]=>fun _ _ _=>False
 |[a]=>bg Γ a
 |a::r=>D3 (bg Γ a) (Ge Γ r)
def Gf(Γ:bj):List RE->TT
 |[]=>fun _ _ _=>False
 |[a]=>bg Γ a
 |a::r=>D4 (bg Γ a) (Gf Γ r)
def m5(Γ:bj):Option RE->TO
 |none=>zr
 |some a=>qN (ae Γ a)
def Ac(Γ:bj):Option RE->Option TT
 |none=>none
 |some a=>some (bg Γ a)
def iS(Γ:bj)(k:IK):List RE->TI
 |[]=>fun _ _ _=>False
 |a::r=>match k with
  |.list=>zc Γ.K (ae Γ a)
  |.tup=>O3 Γ.K (ae Γ a)
  |.gP=>Em (dP (ae Γ a)<|aS Γ r)
  |.SE=>O6 (dP (ae Γ a)<|aS Γ r)
  |.zip=>Ab Γ.K (dP (ae Γ a)<|aS Γ r)
  |.SF=>SX Γ.K (dP (ae Γ a)<|aS Γ r)
  |.txt=>Ta (ae Γ a)
  |.SH=>S0 Γ.K (dP (ae Γ a)<|aS Γ r)
  |.SI=>Tc (dP (ae Γ a)<|aS Γ r)
end
structure c5 where
 N:List Str
 sc:Scope
 fn:List Str
 gn:List Str
 bl:List Str
 mn:List Str
 kn:List Str
 en:List Str
 hn:List Str
 md:Nat
def vis(sc:Scope)(x:Str):Bool:=match sc.names.lookup x with
 |some .local=>true|some .cell=>true|some .free=>true|_=>false
def loc(sc:Scope)(x:Str):Bool:=match sc.names.lookup x with
 |some .local=>true|some .cell=>true|_=>false
def m6(sc:Scope)(x:Str):Bool:=match sc.names.lookup x with
 |some .globalImplicit=>true|_=>false
theorem Td{sc:Scope}{x:Str}(h:vis sc x=true):vh sc x:=by
 unfold vis at h;unfold vh;cases e:sc.names.lookup x with
 |none=>rw[e] at h;cases h
 |some k=>rw[e] at h;cases k<;>first|exact .inl rfl|exact .inr (.inl rfl)|exact .inr (.inr rfl)|cases h
theorem Ad{sc:Scope}{x:Str}(h:loc sc x=true):Loc sc x:=by
 unfold loc at h;unfold Loc;cases e:sc.names.lookup x with
 |none=>rw[e] at h;cases h
 |some k=>rw[e] at h;cases k<;>first|exact .inl rfl|exact .inr rfl|cases h
theorem Te{sc:Scope}{x:Str}(h:m6 sc x=true):sc.names.lookup x=some .globalImplicit:=by
 unfold m6 at h;cases e:sc.names.lookup x with
 |none=>rw[e] at h;cases h
 |some k=>rw[e] at h;cases k<;>first|rfl|cases h
structure tH where
 elt:Expr
 tg:Expr
 iter:Expr
 ifs:List Expr
 sc:Scope
def lW.nm:lW->Str
 |.len=> "len" |.min=> "min" |.max=> "max" |.sum=> "sum" |.int=> "int" |.list=> "list" |.tuple=> "tuple" |.abs=> "abs"
def iu.nm:iu->Str
 |.append=> "append" |.pop=> "pop" |.extend=> "extend" |.join=> "join" |.lstrip=> "lstrip" |.starts=> "startswith" |.reverse=> "reverse" |.clear=> "clear" |.index=> "index" |.find=> "find" |.count=> "count" |.FX=> "count" |.z_=> "index"
def m7:Expr->Bool
 |.Call (.Name _ _) [] [] _=>false
 |_=>true
def noStar:Expr->Bool
 |.Starred ..=>false
 |_=>true
def tJ:Expr->Bool
 |.Set ..=>false
 |_=>true
def Ae(Gg sc:Scope):Scope:=
 {Gg with names:=Gg.names.map fun(n,k)=>if (k==.free && sc.kind==.function && sc.names.lookup n==some .cell) then (n,.cell) else (n,k)}
def Af(tk:Option Nat)(tg:Expr):Option (List Str):=match tk,tg with
 |none,.Name x _=>some [x]
 |some 2,.Tuple [.Name x _,.Name y _] _ _=>some [x,y]
 |_,_=>none
def Gh(S:c5)(c:tH)(ln:List Str)(fv:List (Str×Nat)):c5:={S with N:=ln++fv.map (·.1),sc:=Ae c.sc S.sc,en:=[],md:=if S.md=0 then 0 else 2}
def Ag(S:c5)(c:tH)(ln:List Str)(fv:List (Str×Nat)):Bool:=
 decide (c.sc.kind=.function) && c.sc.names.all (fun y=>decide<|y.2≠ .cell) && c.sc.names.all (fun y=>decide (y.2≠ .local)||decide (c.sc.names.lookup y.1=some .local))
 && c.sc.names.all (fun y=>decide (y.2≠ .free)||decide (S.sc.names.lookup y.1=some .cell)||decide (S.sc.names.lookup y.1=some .free))
 && fv.all (fun p=>decide (S.N[p.2]?=some p.1) && decide (c.sc.names.lookup p.1=some .free))
 && ln.all (fun x=>decide<|c.sc.names.lookup x=some .local) && decide ((ln++fv.map (·.1)).Nodup) && tJ c.iter
theorem Tf{P:Program}{w:World}{K:Frag}{elts:List Expr}{k:Nat}{pos:Pos}{z TI TO i1 i2 l1 l2:Addr}(D:ZipApart z TI TO i1 i2 l1 l2)(dl:l1≠TI/\l2≠TI):
  Turn P w K (.Tuple elts k pos) (tG K l1 l2) [z,TI,TO,i1,i2] z
   (fun i h=>IsZip h z TI TO .none/\IsPair h TI (.ref i1) (.ref i2)/\(∃a b,IsPair h TO a b)/\h.IsListIter i1 l1 i/\h.IsListIter i2 l2 i) where
 mem:=by simp
 obj:=fun i h st b hb=>by
  obtain⟨hz,cI,⟨a,b',cO⟩,⟨o1,e1,c1,d1⟩,⟨o2,e2,c2,d2⟩⟩:=st
  simp only[zaa,zam,or_false] at hb
  rcases hb with rfl|rfl|rfl|rfl|rfl
  ·exact⟨_,hz,fun v q=>by cases q⟩
  ·exact⟨_,cI,fun v q=>by cases q⟩
  ·exact⟨_,cO,fun v q=>by cases q⟩
  ·exact⟨_,e1,fun v q=>by rw[d1] at q;cases q⟩
  ·exact⟨_,e2,fun v q=>by rw[d2] at q;cases q⟩
 keep:=fun i h h' st hk=>by
  obtain⟨hz,cI,⟨a,b',cO⟩,h1,h2⟩:=st;exact⟨hk z (by simp) _ hz,hk TI (by simp) _ cI,⟨a,b',hk TO (by simp) _ cO⟩,h1.at fun o e=>hk i1 (by simp) o e,h2.at fun o e=>hk i2 (by simp) o e⟩
 item:=by
  intro X hP hw hK hc i pins s σ H E I hf st hg;subst hP hw hK;obtain⟨xs,ys,hx,hy,Ah,hi2⟩:=hg;obtain⟨jI,r1,p1,z1⟩:=I.list hx;obtain⟨eI,r2,p2,z2⟩:=I.list hy;have cT:=r1.length;have dH:=r2.length;have W:=WalksT.zip2 (prog:=X.prog) (w:=X.w) (A:=X.A) (I.ok.hd hc) z TI TO i1 i2 l1 l2 D jI.toArray eI.toArray;obtain⟨hz,cI,cO,h1,h2⟩:=id st;have hn:i<min jI.toArray.size eI.toArray.size:=by simp only[zae];lia
  refine W.item i s _ _ hn ⟨hz,cI,cO,h1,h2,p1.isList,p2.isList⟩ fun T vals h' tk hv hT Tg mid hk=>?_;refine⟨.ref T,rfl,?_⟩;refine W.go elts k pos i T _ _ _ mid fun v8 Th Gi=>?_;obtain⟨u,v,eu,ev,rfl⟩:=hv;have fz:∀b∈ [z,TO,i1,i2],b∈ [z,TI,TO,i1,i2]:=fun b hb=>by
   simp only[zaa,zam,or_false] at hb⊢
   rcases hb with rfl|rfl|rfl|rfl<;>simp
  have kk:∀b o,b∉ [z,TO,i1,i2]->s.heap.get? b=some o->v8.get? b=some o:=fun b o hb e=>Gi b o hb (hk b o hb e);have I1:Inv X pins σ H {s with heap:=v8,toks:=tk}:=by
   refine I.step (g':=s.gens) (d':=s.drawn) (ch:=[z,TO,i1,i2]) (fun b hb=>?_) (fun b o _ _ hc e _=>kk b o hc e) (fun b o _ _ hc e _=>⟨o.slots,kk b o hc e⟩) (fun _ _ _ _ n=>n)
    (fun b o hc e=>⟨o,kk b o hc e⟩) (fun _ _ e=>e) (fun _ _ _ e=>e) (fun b ps e=>⟨#[],by rw[e];simp⟩) (fun m hm=>?_) (fun b o e=>?_) I.bare
   ·obtain⟨f0,f1,f2,f3,f4,f5⟩:=hf b (fz b hb);exact⟨f3,f1,f4,f5⟩
   ·obtain⟨o,es,ep,ho,r⟩:=hm;exact⟨o,es,ep,kk _ o (fun hb=>(hf _<|fz _ hb).2.1 rfl) ho,r⟩
   ·have nb:∀c o',H c=some o'->c∉ [z,TO,i1,i2]:=fun c o' e hb=>by
     rw[(hf c<|fz c hb).1] at e;cases e
    refine(I.aD b o e).lN (fun c q d5 e'=>kk c q ?_ e') (fun _ q=>q) fun _ _ q=>q;rcases d5 with rfl|d5
    ·exact nb _ _ e
    ·exact nb _ _ d5
  have jJ:s.heap.objs.size<=T:=hT;have fT:H T=none:=I.aD.fresh jJ;have aT:T∉ [z,TO,i1,i2]:=W.apart i T h' mid;have tT:v8.IsTuple T #[u,v]:=by
   obtain⟨o,ho,q⟩:=Tg;exact⟨o,Gi T o aT ho,q⟩
  obtain⟨a,Ti,ra⟩:∃a,xs[i]?=some a/\RelV a u:=by
   have e:jI[i]?=some u:=by simpa using eu
   have:i<xs.length:=by lia
   obtain⟨u',e',r'⟩:=r1.get (i:=i) (x:=xs[i]) (by simp[this])
   rw[e] at e';cases e';exact⟨xs[i],by simp[this],r'⟩
  obtain⟨b,Tj,rb⟩:∃b,ys[i]?=some b/\RelV b v:=by
   have e:eI[i]?=some v:=by simpa using ev
   have:i<ys.length:=by lia
   obtain⟨u',e',r'⟩:=r2.get (i:=i) (x:=ys[i]) (by simp[this])
   rw[e] at e';cases e';exact⟨ys[i],by simp[this],r'⟩
  have sz0:=I.sz;have I2:Inv X pins σ (upd H T<|.tup [a,b]) {s with heap:=v8,toks:=tk}:=by
   refine Inv.vP I1 fT (zat I.sz jJ) (zaE<|zap I.lt jJ) (fun x c e q=>?_) (fun p hp q=>?_) ⟨by show 2<=sizeLine;decide,[u,v],.cons ra<|.cons rb .nil,tT⟩
   ·obtain⟨v',q'⟩:=I.cell x c e;have:=q'.lt;rw[q] at this;exact absurd (zap this jJ)<|zaz _
   ·have:=Heap.lt_size (I.pin p hp).1;rw[q] at this;exact absurd (zap this jJ)<|zaz _
  refine⟨.ref T,_,I2,rfl,⟨T,fT,rfl,fun bo fU a' b' jd sQ ea eb=>?_⟩,?_,fun c d5=>?_⟩
  ·rw[I.y7 jd hx,Ti] at ea;rw[I.y7 sQ hy,Tj] at eb;cases ea;cases eb;rfl
  ·obtain⟨q1,q2,q3,q4,q5,_⟩:=Th;exact⟨q1,q2,q3,q4,q5⟩
  ·have n0:=(hf c d5).1;have:c≠T:=fun q=>by
    obtain⟨o,e,_⟩:∃o,s.heap.get? c=some o/\True:=by
     obtain⟨hz,cI,⟨a',b',cO⟩,⟨o1,e1,_⟩,⟨o2,e2,_⟩⟩:=st
     simp only[zaa,zam,or_false] at d5
     rcases d5 with rfl|rfl|rfl|rfl|rfl
     ·exact⟨_,hz,trivial⟩
     ·exact⟨_,cI,trivial⟩
     ·exact⟨_,cO,trivial⟩
     ·exact⟨_,e1,trivial⟩
     ·exact⟨_,e2,trivial⟩
    have:=Heap.lt_size e;rw[q] at this;exact absurd (zap this jJ)<|zaz _
   rw[aF this];exact n0
 done:=by
  intro X hP hw hK hc i pins s σ H E I hf st hg;subst hP hw hK;obtain⟨xs,ys,hx,hy,hi⟩:=hg;obtain⟨jI,r1,p1,z1⟩:=I.list hx;obtain⟨eI,r2,p2,z2⟩:=I.list hy;have cT:=r1.length;have dH:=r2.length;have W:=WalksT.zip2 (prog:=X.prog) (w:=X.w) (A:=X.A) (I.ok.hd hc) z TI TO i1 i2 l1 l2 D jI.toArray eI.toArray;obtain⟨hz,cI,cO,h1,h2⟩:=id st;have hn:i=min jI.toArray.size eI.toArray.size:=by simp only[zae];lia
  subst hn;refine W.done s _ _ ⟨hz,cI,cO,h1,h2,p1.isList,p2.isList⟩ fun h' tk hk=>⟨rfl,?_⟩;have fz:∀b∈ [z,TO,i1,i2],b∈ [z,TI,TO,i1,i2]:=fun b hb=>by
   simp only[zaa,zam,or_false] at hb⊢
   rcases hb with rfl|rfl|rfl|rfl<;>simp
  refine I.step (g':=s.gens) (d':=s.drawn) (ch:=[z,TO,i1,i2]) (fun b hb=>?_) (fun b o _ _ hc e _=>hk b o hc e) (fun b o _ _ hc e _=>⟨o.slots,hk b o hc e⟩) (fun _ _ _ _ n=>n)
   (fun b o hc e=>⟨o,hk b o hc e⟩) (fun _ _ e=>e) (fun _ _ _ e=>e) (fun b ps e=>⟨#[],by rw[e];simp⟩) (fun m hm=>?_) (fun b o e=>?_) I.bare
  ·obtain⟨f0,f1,f2,f3,f4,f5⟩:=hf b (fz b hb);exact⟨f3,f1,f4,f5⟩
  ·obtain⟨o,es,ep,ho,r⟩:=hm;exact⟨o,es,ep,hk _ o (fun hb=>(hf _<|fz _ hb).2.1 rfl) ho,r⟩
  ·have nb:∀c o',H c=some o'->c∉ [z,TO,i1,i2]:=fun c o' e hb=>by
    rw[(hf c<|fz c hb).1] at e;cases e
   refine(I.aD b o e).lN (fun c q d5 e'=>hk c q ?_ e') (fun _ q=>q) fun _ _ q=>q;rcases d5 with rfl|d5
   ·exact nb _ _ e
   ·exact nb _ _ d5
 self:=fun A i s Q E st hQ=>wpAny_pyIter_zip st.1 hQ
theorem boot_zip:bootBuiltins "zip"=some (.type "zip"):=by decide+kernel
theorem Tn{X:Cx}{elts:List Expr}{k:Nat}{zj:Pos}{a b:Expr}{ta:TA}{p pos:Pos}(hg:Gl X "zip")(hm:X.mg "zip"=none)(ha:PA X [a,b] ta)
  (hs:starEach [a,b] X.env=(false,eval a X.env)::starEach [b] X.env) (jb:(backTo pos<|starEach [b] X.env).any (·.1)=false):
  PI X (.Tuple elts k zj) (.Call (.Name "zip" p) [a,b] [] pos) (Ab X.K ta):=by
 intro pins s σ H R I h;refine Call_<|iN I hg hm boot_zip<|PyProof.Rows.callWith_type1 (aG (ha pos pins s σ H _ I h) fun us s1 ⟨vs,H1,I1,r1,q1⟩=>?_) hs jb;obtain⟨l1,l2,e,⟨xs,hx⟩,⟨ys,hy⟩,q⟩:=q1;subst e;obtain⟨u,v,rfl,ru,rv⟩:=vals2 r1;cases ru;cases rv;obtain⟨jI,oZ,p1,z1⟩:=I1.list hx;obtain⟨eI,v9,p2,z2⟩:=I1.list hy;refine call_zip_2 p1.isList p2.isList fun h' a1 a2 a3 a4 a5 a6 hk=>?_;refine wpAny_pyIter_zip a1 ?_;have Ai: @LT.lt Nat _ l1 s1.heap.objs.size:=by obtain⟨_,e,_⟩:=p1.isList;exact Heap.lt_size e
 have Aj: @LT.lt Nat _ l2 s1.heap.objs.size:=by obtain⟨_,e,_⟩:=p2.isList;exact Heap.lt_size e
 have D:ZipApart (s1.heap.objs.size+4) (s1.heap.objs.size+2) (s1.heap.objs.size+3) s1.heap.objs.size (s1.heap.objs.size+1) l1 l2:=by
  constructor<;>(show @Ne Nat _ _;lia)
 have I2:Inv X pins σ H1 {s1 with heap:=h'}:=I1.kept (t':=s1.toks) hk
 refine⟨_,_,_,_,H1,rfl,I2,Tf D ⟨by show @Ne Nat _ _;lia,by show @Ne Nat _ _;lia⟩,⟨a1,a2,⟨_,_,a3⟩,a4,a5⟩,fun b' hb=>?_,q⟩
 have hle:s1.heap.objs.size<=b':=by
  simp only[zaa,zam,or_false] at hb
  rcases hb with rfl|rfl|rfl|rfl|rfl
  ·exact zbd _ _
  ·exact zbd _ _
  ·exact zbd _ _
  ·exact zqR _
  ·exact zbd _ _
 have:=I1.zb (b:=b') (H':=H1) hle (I1.aD.fresh hle);exact this
end L2
set_option maxHeartbeats 400000
namespace L2
open PySem PySem.Spec PyProof.Rows
end L2
set_option maxHeartbeats 1000000
set_option maxHeartbeats 400000
namespace L2
open PySem PySem.Spec PyProof.Rows
inductive bM (J:Shared->Prop) {α:Type}:Sem α->Prop
 |pure (a:α):bM J (.pure a)
 |raise (e:Value):bM J (.raise e)
 |unsupported (w:String):bM J (.unsupported w)
 |rule {t:String}{k:Unit->Sem α}:bM J (k ())->bM J (.rule t k)
 |load {a:Addr}{p:Option Value}{k:Obj->Sem α}:(∀o,bM J<|k o)->bM J (.load a p k)
 |update {a:Addr}{p:Option Value}{f:Obj->Obj}{k:Unit->Sem α}:(∀s,J s->J {s with heap:=s.heap.update a f})->bM J (k ())->bM J (.update a p f k)
 |alloc {o:Obj}{k:Addr->Sem α}:(∀s,J s->J {s with heap:=s.heap.push o})->(∀a,bM J<|k a)->bM J (.alloc o k)
 |stack {k:List (Code×Pos)->Sem α}:(∀t,bM J<|k t)->bM J (.stack k)
theorem To{M:Model}{Γ:PySem.Ctx}{J:Shared->Prop}{α:Type}{t:Sem α}(kt:bM J t):∀{Q:α->Pos->Shared->Prop}{E:Value->Pos->Shared->Prop}{p:Pos}{s:Shared},J s->Sem.wp M Γ t Q E p s->
  Sem.wp M Γ t (fun a p s=>Q a p s/\J s) (fun e p s=>E e p s/\J s) p s:=by
 induction kt with
 |pure a=>intro Q E p s j h;rw[Sem.wp] at h⊢;exact⟨h,j⟩
 |raise e=>intro Q E p s j h;rw[Sem.wp] at h⊢;exact⟨h,j⟩
 |unsupported w=>intro Q E p s j h;rw[Sem.wp] at h;exact h.elim
 |rule _ ih=>intro Q E p s j h;rw[Sem.wp] at h⊢;exact ih j h
 |load _ ih=>intro Q E p s j h;rw[Sem.wp] at h⊢;obtain⟨o,e,h⟩:=h;exact⟨o,e,ih o j h⟩
 |update f _ ih=>intro Q E p s j h;rw[Sem.wp] at h⊢;exact⟨h.1,ih (f _ j) h.2⟩
 |alloc f _ ih=>intro Q E p s j h;rw[Sem.wp] at h⊢;exact ih _ (f _ j) h
 |stack _ ih=>intro Q E p s j h;rw[Sem.wp] at h⊢;exact ih _ j h
theorem Gj{M:Model}{A:Around}{J:Shared->Prop}{α:Type}{t:Sem α}{Q:α->Shared->Prop}{E:Value->Shared->Prop}{s:Shared}(k:bM J t)(j:J s)(h:wpAny M A t Q E s):
  wpAny M A t (fun a s=>Q a s/\J s) (fun e s=>E e s/\J s) s:=fun Γ p hΓ=>To k j (h Γ p hΓ)
def dS(e:Addr)(s:Shared):Prop:= ∃o vs,s.heap.get? e=some o/\o.data=.fields vs/\vs[2]?=some .none/\o.dict=none
theorem Tp(f:Array Value->Array Value)(o:Obj):(Obj.mapFields f o).dict=o.dict:=by
 unfold Obj.mapFields
 split<;>rfl
theorem Tq{e a:Addr}{i:Nat}{v:Value}(hi:i≠2)(s:Shared)(j:dS e s):dS e {s with heap:=s.heap.update a (Obj.mapFields (·.setIfInBounds i v))}:=by
 obtain⟨o,vs,h1,h2,h3,h4⟩:=j;by_cases z:a=e
 ·subst z;have d:=Obj.data_mapFields h2 (·.setIfInBounds i v);exact⟨_,_,Heap.get?_update_self _ h1<|Obj.isFreed_of_fields d,d,by rw[Array.getElem?_setIfInBounds_ne hi];exact h3,(Tp _ _).trans h4⟩
 ·exact⟨o,vs,(Heap.get?_update_other _ _ z).trans h1,h2,h3,h4⟩
theorem Ts{e a:Addr}{f:Obj->Obj}(hf:∀o,(f o).data=o.data/\(f o).dict=o.dict)(s:Shared)(j:dS e s):dS e {s with heap:=s.heap.update a f}:=by
 obtain⟨o,vs,h1,h2,h3,h4⟩:=j;by_cases z:a=e
 ·subst z;exact⟨_,vs,Heap.get?_update_self _ h1<|Obj.isFreed_of_fields<|(hf o).1.trans h2,(hf o).1.trans h2,h3,(hf o).2.trans h4⟩
 ·exact⟨o,vs,(Heap.get?_update_other _ _ z).trans h1,h2,h3,h4⟩
theorem Tt{e:Addr}{ob:Obj}(s:Shared)(j:dS e s):dS e {s with heap:=s.heap.push ob}:=by
 obtain⟨o,vs,h1,h2,h3,h4⟩:=j;exact⟨o,vs,Heap.get?_push_of_some _ h1,h2,h3,h4⟩
theorem bM.bind{J:Shared->Prop}{α β:Type}{t:Sem α}{f:α->Sem β}(kt:bM J t)(h:∀a,bM J<|f a):bM J (t>>=f):=by
 show bM J (t.bind f)
 induction kt with
 |pure a=>exact h a
 |raise e=>exact .raise e
 |unsupported w=>exact .unsupported w
 |rule _ ih=>exact .rule ih
 |load _ ih=>exact .load ih
 |update g _ ih=>exact .update g ih
 |alloc g _ ih=>exact .alloc g ih
 |stack _ ih=>exact .stack ih
section
variable {e:Addr}
theorem Ak{a:Addr}:bM (dS e) (load a):=.load fun o=>.pure o
theorem Al{v x:Value}{i:Nat}(hi:i≠2):bM (dS e) (setField v i x):=by
 unfold setField
 split
 ·rename_i a
  unfold updateField;refine Ak.bind fun o=>?_
  split
  ·split
   ·exact .update (fun s j=>Tq hi s j) (.pure ())
   ·exact .unsupported _
  ·exact .unsupported _
 ·exact .unsupported _
theorem Tu{v:Value}:bM (dS e) (fieldsOf v):=by
 unfold fieldsOf
 split
 ·refine Ak.bind fun o=>?_
  split
  ·exact .pure _
  ·exact .unsupported _
 ·exact .unsupported _
theorem v_{v:Value}{i:Nat}:bM (dS e) (field v i):=by
 unfold field;refine Tu.bind fun vs=>?_
 split
 ·exact .pure _
 ·exact .unsupported _
theorem Tv{v:Value}{f:Option Addr}:bM (dS e) (setFlight v f):=by
 unfold setFlight;refine v_.bind fun tb=>?_
 split
 ·exact Al (by decide)
 ·exact .pure _
theorem Am:bM (dS e) stack:=.stack fun t=>.pure t
theorem Tw{ty:String}{vs:List Value}:bM (dS e) (newFields ty vs):=by
 unfold newFields newObj newObjAsIs;show bM (dS e) (if vs.toArray.size>sizeLine+2 then (unsupported "record:memory" >>=_) else _)
 split
 ·exact .unsupported _
 ·exact bM.bind (.alloc (fun s j=>Tt s j) fun a=>.pure a) fun a=>.pure _
theorem Tx{f:Addr}{b:Bool}:bM (dS e) (entryPlaceOf f b):=by
 unfold entryPlaceOf;refine Am.bind fun afr=>?_
 split
 ·exact .pure _
 ·exact .pure _
theorem Gk:∀l:List Env,bM (dS e) (readyFrames l)
 |[]=>.pure _
 |env::outer=>by
  unfold readyFrames
  split
  ·refine Ak.bind fun o=>?_
   split
   ·exact .pure _
   ·refine bM.bind ?_ fun im=>bM.bind ?_ fun bk=>bM.bind (.update (fun s j=>Ts (by intro o;exact⟨rfl,rfl⟩) s j)<|.pure ()) fun _=>Gk outer
    ·unfold behindIsImport
     split
     ·exact .pure _
     ·split
      ·exact .pure _
      ·exact v_.bind fun _=>.pure _
    ·unfold keptBack
     split
     ·split
      ·exact .pure _
      ·unfold underTheClaimsCaller;exact bM.bind (Am.bind fun _=>.pure _) fun _=>.pure _
     ·exact .pure _
  ·exact .unsupported _
theorem Tz{env:Env}:bM (dS e) (PySem.frameOf env):=by
 unfold PySem.frameOf frameEnvs;refine bM.bind (Am.bind fun _=>.pure _) fun l=>?_;refine bM.bind ?_ fun r=>?_
 ·unfold frameObject
  split
  ·exact .pure _
  ·exact(Gk _).bind fun _=>.pure _
 ·split
  ·exact .pure _
  ·exact .unsupported _
theorem TB{v:Value}{env:Env}:bM (dS e) (noteFrame v env):=by
 unfold noteFrame
 split
 ·rename_i x d hq
  refine v_.bind fun hd=>?_;have tail:bM (dS e) (do let a <-PySem.frameOf env;let pl <-entryPlaceOf d (hd !=.none);let b <-EntryCells.newEntry hd a .none (rawInt d) .none pl;setField v 1 b):=
   Tz.bind fun a=>Tx.bind fun pl=>bM.bind Tw fun b=>Al (by decide)
  dsimp only
  split
  ·refine v_.bind fun x=>?_
   split
   ·exact .pure _
   ·exact(Al (by decide)).bind fun _=>tail
  ·exact tail
 ·exact .unsupported _
theorem Gm{v:Value}{env:Env}:bM (dS e) (leaving env v):=by
 unfold leaving;exact TB.bind fun _=>Tv
end
end L2
set_option maxHeartbeats 4000000
namespace L2
open PySem PySem.Spec PyProof.Rows
theorem cq.An{P:Program}{w:World}{H:Hp}{h:Heap}{a:Addr}{o:HO}(x:cq P w H h a o):∃ob,h.get? a=some ob:=by
 cases o with
 |lst xs=>obtain⟨_,_,_,_,e⟩:=x;exact⟨_,e⟩
 |tup xs=>obtain⟨_,_,_,ob,e,_⟩:=x;exact⟨_,e⟩
 |dK kvs=>obtain⟨_,_,_,_,o,_,_,e,_⟩:=x;exact⟨_,e⟩
 |dT kvs=>obtain⟨_,_,_,_,o,_,_,e,_⟩:=x;exact⟨_,e⟩
 |set S n=>obtain⟨o,_,_,_,e,_⟩:=x;exact⟨_,e⟩
 |ins C dx fs=>obtain⟨_,_,_,e,_⟩:=x;exact⟨_,e⟩
 |own y=>obtain⟨_,e⟩:=x;exact⟨_,e⟩
 |xd fs=>obtain⟨_,⟨_,_,_,e,_⟩,_⟩:=x;exact⟨_,e⟩
 |gP lo hi=>obtain⟨_,_,_,e⟩:=x;exact⟨_,e⟩
 |bV ob u=>obtain⟨e,_⟩:=x;exact⟨_,e⟩
 |km ps=>exact⟨_,(show h.get? a=some _ from x)⟩
 |met f y=>exact⟨_,(show h.get? a=some _ from x)⟩
 |ext φ=>obtain⟨_,⟨_,e⟩,_⟩:=x;exact⟨_,e⟩
theorem cf.Gn{P:Program}{w:World}{H:Hp}{h h':Heap}(ok:cf P w H h)(k:∀b u,H b≠none->h.get? b=some u->h'.get? b=some u):cf P w H h':=fun a o e=>
 (ok a o e).lN (fun b u hb hu=>k b u (by
  rcases hb with rfl|hb
  ·rw[e];exact Option.some_ne_none _
  ·rw[hb];exact Option.some_ne_none _) hu) (fun _ z=>z) (fun _ _ z=>z)
def g6(P:Program)(w:World):bZ:=fun outer H s E e s'=>∃(ea:Addr) (cls:Value) (t:Addr) (B:Heap) (H':Hp),
 e=.ref ea/\s'.os=s.os/\AllBare s'.gens/\Un (cw outer) [] H H' s.heap s'.heap/\cf P w H' s'.heap/\Heap.FlyingW B outer ea cls (.ref t) s'.heap/\dS ea s'/\H' ea=none/\
 (∀b,H' b≠none->∀o,s'.heap.get? b=some o->B.get? b=some o)/\(∀b o,s.heap.get? b=some o->b∉cw outer->∀o',s'.heap.get? b=some o'->B.get? b=some o')/\E cls none H'
theorem Gp{P:Program}{w:World}{outer:List Env}{H:Hp}{s:Shared}{e:Value}{s':Shared}(h:g6 P w outer H s E0 e s'):False:=by
 obtain⟨_,_,_,_,_,_,_,_,_,_,_,_,_,_,_,h⟩:=h;exact h
section
variable {P:Program}{w:World}{K:Frag}{mg:Str->Option Value}{base:Heap}{N:List Str}{qual:Str}{scope:Scope}{f:Addr}{cd:Value}{A:Around}{outer:List Env}{s₀:Shared}{H₀:Hp}{E:XK}
theorem TC:Passes (g6 P w) (oO (g6 P w) P w K mg base N qual scope f cd A outer s₀ H₀ E) E:=by
 intro pins σ H s e s' I hx;obtain⟨ea,cls,t,B,H',rfl,os,bare,u,aD,fl,Ao,TF,c1,c2,hE⟩:=hx;have Ap:=I.ok.frames;have hL:s₀.heap.objs.size<= (envOfC qual scope s₀.heap.objs.size f cd).locals:=I.ok.above;have nL:∀b o,s₀.heap.get? b=some o->b∉cw outer->b∉cw (envOfC qual scope s₀.heap.objs.size f cd::outer):=fun b o hb hn hm=>by
  have jK:b∈ (envOfC qual scope s₀.heap.objs.size f cd).locals::cw outer:=hm;rcases zaa.mp jK with rfl|z
  ·exact absurd (Heap.lt_size hb) (Nat.not_lt.mpr hL)
  ·exact hn z
 have sI:∀b∈cw (envOfC qual scope s₀.heap.objs.size f cd::outer),H' b=none:=fun b hb=>by
  obtain⟨o,ho,_⟩:=(I.stack.mem hb).2;exact u.free b o ho (I.vj b hb) zam
 refine wpAny_mono (Gj Gm Ao<|wpAny_leaves_onW (Q:=fun _ lS=>∃h',lS={s' with heap:=h'}/\Heap.FlyingW B outer ea cls (.ref t) h'/\s'.heap.UpToSlots h') (E:=fun _ _=>False) Ap rfl fl fun h' kI up=>⟨h',rfl,kI,up⟩)
  (fun _ lS hq=>?_) (fun _ _ z=>z.1.elim)
 obtain⟨⟨h',rfl,kI,up⟩,Aq⟩:=hq;have into:∀b o,s.heap.get? b=some o->b∉cw (envOfC qual scope s₀.heap.objs.size f cd::outer)->∀o',s'.heap.get? b=some o'->h'.get? b=some o':=fun b o hb hn o' ff=>kI.1 b o' (c2 b o hb hn o' ff);have oA:∀b o,H' b≠none->s'.heap.get? b=some o->h'.get? b=some o:=fun b o hb ho=>kI.1 b o (c1 b hb o ho);have o7:∀b∈cw (envOfC qual scope s₀.heap.objs.size f cd::outer),∀o,s'.heap.get? b=some o->∃sl,h'.get? b=some {o with slots:=sl}:=fun b hb o ho=>by
  obtain⟨o1,jL,hd⟩:=(fl.2.2.1.mem hb).2;rw[ho] at jL;cases jL;exact up b o ho hd
 refine⟨ea,cls,t,B,H',rfl,os.trans I.os,bare,⟨fun b o q n hn _=>?_,fun b o q n hn _=>?_,fun b o q n _=>?_,fun b o q _=>?_,fun b xs q=>u.bS b xs (I.base.bS b xs q),fun b o v q=>u.ie b o v (I.base.ie b o v q),fun b ps q=>?_⟩,
  aD.Gn (fun b o hb ho=>oA b o hb ho),kI,Aq,TF,fun b hb o ho=>?_,fun b o q hn o' ff=>?_,hE⟩
 ·have q1:=I.base.keep b o q n hn zam;have n1:=I.base.free b o q n zam;have fm:=nL b o q hn;exact into b o q1 fm o<|u.keep b o q1 n1 fm zam
 ·obtain⟨sl,q1⟩:=I.base.slot b o q n hn zam;have n1:=I.base.free b o q n zam;have fm:b∈cw (envOfC qual scope s₀.heap.objs.size f cd::outer):=zay _ hn;obtain⟨zp,q2⟩:=u.slot b _ q1 n1 fm zam;obtain⟨Ar,q3⟩:=o7 b fm _ q2;exact⟨Ar,q3⟩
 ·obtain⟨o1,q1⟩:=I.base.there b o q zam;exact u.free b o1 q1 (I.base.free b o q n zam) zam
 ·obtain⟨o1,q1⟩:=I.base.there b o q zam;obtain⟨o2,q2⟩:=u.there b o1 q1 zam;by_cases hm:b∈cw (envOfC qual scope s₀.heap.objs.size f cd::outer)
  ·obtain⟨sl,q3⟩:=o7 b hm o2 q2;exact⟨_,q3⟩
  ·exact⟨o2,into b o1 q1 hm o2 q2⟩
 ·obtain⟨m1,e1⟩:=I.base.iM b ps q;obtain⟨m2,e2⟩:=u.iM b _ e1;exact⟨m1++m2,by rw[e2,Array.append_assoc]⟩
 ·obtain⟨ik,hH⟩:=Option.ne_none_iff_exists'.mp hb;obtain⟨o2,q2⟩:=(aD b ik hH).An;have q3:=oA b o2 hb q2;have jM:h'.get? b=some o:=ho;rw[q3] at jM;cases jM;exact c1 b hb _ q2
 ·obtain⟨o1,q1⟩:=I.base.there b o q zam;obtain⟨o2,q2⟩:=u.there b o1 q1 zam;have fm:=nL b o q hn;have q3:=into b o1 q1 fm o2 q2;have jM:h'.get? b=some o':=ff;rw[q3] at jM;cases jM;exact c2 b o1 q1 fm _ q2
def Raises(X:Cx)(E:XK):Prop:= ∀(pins:List (Addr×Obj)) (σ:St) (H:Hp) (s:Shared) (h':Heap) (e:Addr) (cls:Value) (vs:List Value),Inv X pins σ H s->Heap.MadeExcOf s.heap h' e cls vs->E cls none H->X.xe (.ref e) {s with heap:=h'}
theorem TH:Raises (oO (g6 P w) P w K mg base N qual scope f cd A outer s₀ H₀ E) E:=by
 intro pins σ H s h1 e cls vs I hx hE;have Ap:=I.ok.frames;have hL:s₀.heap.objs.size<= (envOfC qual scope s₀.heap.objs.size f cd).locals:=I.ok.above;have nL:∀b o,s₀.heap.get? b=some o->b∉cw outer->b∉cw (envOfC qual scope s₀.heap.objs.size f cd::outer):=fun b o hb hn hm=>by
  have jK:b∈ (envOfC qual scope s₀.heap.objs.size f cd).locals::cw outer:=hm;rcases zaa.mp jK with rfl|z
  ·exact absurd (Heap.lt_size hb) (Nat.not_lt.mpr hL)
  ·exact hn z
 have qY:∀env∈ (envOfC qual scope s₀.heap.objs.size f cd::outer),∀b,env.frame=some b->b∈cw (envOfC qual scope s₀.heap.objs.size f cd::outer):=fun env he b hb=>zbi.mpr ⟨env,he,hb⟩;have Ao:dS e {s with heap:=h1}:=by
  obtain⟨t,ht,_,_⟩:=hx.there;exact⟨_,_,ht,rfl,rfl,rfl⟩
 refine wpAny_mono (Gj Gm Ao (wpAny_leaves_madeW (Q:=fun _ lS=>∃h' t,lS={s with heap:=h'}/\Heap.FlyingW (hideAll s.heap (cw (envOfC qual scope s₀.heap.objs.size f cd::outer))) outer e cls (.ref t) h'/\h1.UpToSlots h') (E:=fun _ _=>False)
  Ap rfl (fun b o q=>of_hideAll _ q) (PySem.W.funFrames_hide I.stack qY) hx fun h' t kI _ _ up=>⟨h',t,rfl,kI,up⟩)) (fun _ lS hq=>?_) (fun _ _ z=>z.1.elim)
 obtain⟨⟨h',t,rfl,kI,up⟩,Aq⟩:=hq;have into:∀b o,s.heap.get? b=some o->b∉cw (envOfC qual scope s₀.heap.objs.size f cd::outer)->h'.get? b=some o:=fun b o hb hn=>kI.1 b o (hideAll_get _ hb hn);have As:∀b,H b≠none->b∉cw (envOfC qual scope s₀.heap.objs.size f cd::outer):=fun b hb hm=>hb (I.vj b hm);have o7:∀b∈cw (envOfC qual scope s₀.heap.objs.size f cd::outer),∀o,s.heap.get? b=some o->∃sl,h'.get? b=some {o with slots:=sl}:=fun b hb o ho=>by
  obtain⟨o1,jL,hd⟩:=(I.stack.mem hb).2;rw[ho] at jL;cases jL;exact up b o (hx.keeps b o ho) hd
 refine⟨e,cls,t,_,H,rfl,I.os,I.bare,⟨fun b o q n hn _=>?_,fun b o q n hn _=>?_,fun b o q n _=>I.base.free b o q n zam,fun b o q _=>?_,I.base.bS,I.base.ie,I.base.iM⟩,
  I.aD.Gn (fun b o hb ho=>into b o ho (As b hb)),kI,Aq,?_,fun b hb o ho=>?_,fun b o q hn o' ff=>?_,hE⟩
 ·exact into b o (I.base.keep b o q n hn zam) (nL b o q hn)
 ·obtain⟨sl,q1⟩:=I.base.slot b o q n hn zam;obtain⟨Ar,q3⟩:=o7 b (zay _ hn) _ q1;exact⟨Ar,q3⟩
 ·obtain⟨o1,q1⟩:=I.base.there b o q zam;by_cases hm:b∈cw (envOfC qual scope s₀.heap.objs.size f cd::outer)
  ·obtain⟨sl,q3⟩:=o7 b hm o1 q1;exact⟨_,q3⟩
  ·exact⟨o1,into b o1 q1 hm⟩
 ·cases q:H e with
  |none=>rfl
  |some ho=>
   obtain⟨o2,q2⟩:=(I.aD e ho q).An;rw[hx.new] at q2;cases q2
 ·obtain⟨ik,hH⟩:=Option.ne_none_iff_exists'.mp hb;obtain⟨o2,q2⟩:=(I.aD b ik hH).An;have q3:=into b o2 q2 (As b hb);have jM:h'.get? b=some o:=ho;rw[q3] at jM;cases jM;exact hideAll_get _ q2<|As b hb
 ·obtain⟨o1,q1⟩:=I.base.there b o q zam;have fm:=nL b o q hn;have q3:=into b o1 q1 fm;have jM:h'.get? b=some o':=ff;rw[q3] at jM;cases jM;exact hideAll_get _ q1 fm
end
section
variable {X:Cx}
theorem TJ{x:Str}{C:Addr}{bm:List Value}{B newId qZ:String}{e:Expr}{es:List Expr}{t:TA}{np dE pos:Pos}{E:XK}(hc:X.calm=true)(O:OwnCls x C bm newId X.mg X.base)(FB:ExcBaseFacts B newId qZ bm)(TK:Gl X x)
  (hd:(x==("__debug__":Str))=false) (ha:PA X (e::es) t) (hs:starEach (e::es) X.env=(false,eval e X.env)::starEach es X.env) (h1:(backTo dE<|starEach es X.env).any (·.1)=false) (hR:Raises X E):
  PS X (.Raise (some<|.Call (.Name x np) (e::es) [] dE) none pos) (z9 C E t):=by
 intro pins s σ H D I h;obtain⟨tl,N,nm,q,bs,hdct,sn,sub,ab,col,dd,k0,k1,k2,k3,k5,mN,hC,hN,wa,T⟩:=O.obj;have hg:PE X (.Name x np) (tC<|.ref C):=D2 TK O.bound rfl hd;refine wpAny_Raise_call_subT (C:=C) (nm:=nm) (q:=q) (N:=N) (bs:=bs) (bm:=tl) (hdct:=hdct) (sn:=sn) (sub:=sub) (ab:=ab) (col:=col) (dd:=dd) (k0:=k0) (k1:=k1) (k2:=k2) (k3:=k3) (k5:=k5)
  FB (mN:=mN) (T.hasType FB.hasBase) (I.ok.hd hc) (by rw[hs];show(false ||(backTo dE<|starEach es X.env).any (·.1))=false;rw[h1];rfl) wa
  (aG (hg pins s σ H (fun v H1=>v=.ref C/\z9 C E t D σ H1) I ⟨rfl,h⟩) fun f s1 ⟨v,H1,I1,r1,ev,q1⟩=>?_)
 subst ev;obtain rfl:f=Value.ref C:=r1;refine⟨rfl,?_⟩;have hA:=ha dE pins s1 σ H1 _ I1 q1;rw[hs] at hA⊢;refine Calls.evalArgs_plain<|aG hA fun us s2 ⟨vs,H2,I2,r2,hl,q2⟩=>⟨rfl,?_,I2.bk _ _ hC,hN.keeps I2.bk,T.keeps I2.bk,fun h' e' hm=>hR pins σ H2 s2 h' e' _ _ I2 hm q2⟩;have:=r2.length;show us.length<=sizeLine;lia
end
def Gq(A:Around)(H:Hp):Prop:= ∃e D,A.handled=some (.ref e)/\ExcAt H e D
def Hd(X:Cx):Prop:=Gq X.A X.H₀
structure Au (k:Nat) (A:Around):Prop where
 dp:A.depth+3*k+5<recursionLimit
 un:A.units+16*k+200<cLine
theorem dh.h{k:Nat}{A:Around}(r:dh k A):Au k A:=⟨r.dp,r.un⟩
def TL(outer:List Env)(P:Program)(w:World)(H:Hp)(s:Shared)(Q:VK)(r:Result)(s':Shared):Prop:=
 match r with
 |.ok (.ret u)=>CE outer P w H s Q u s'
 |_=>False
structure Gr (P:Program) (w:World) (K:Frag) (mg:Str->Option Value) (base:Heap) (k:Nat) (f:Addr) (fd:FuncData) (ps:List Str) (sp:Sp):Prop where
 len:∀vs H Q E,sp vs H Q E->vs.length=ps.length
 run:∀(A:Around) (outer:List Env) (s:Shared) (H:Hp) (args:Args) (us:List Value) (vs:List V) (Q:VK),Au k A->Gq A H->mV P w K mg base A outer s H->BindsTo s fd args (ps.zip us)->Vals vs us->sp vs H Q E0->
  codeAny (model P w) A (.call (.ref f) args) (TL outer P w H s Q) s
def Gs(CX:bZ)(X:Cx)(x:Str)(sp:Sp):Prop:=
 ∃k f fd ps,cE X.prog X.w X.K X.mg X.base CX k f fd ps sp/\dh k X.A/\X.mg x=some (.ref f)/\PySem.W.keepIn X.K (.ref f)=true/\Binds X.K fd ps []
def wb(CX:bZ)(X:Cx)(C:Addr)(m:Str)(sp:Sp):Prop:=
 fh X.K C/\∃k f fd ps,Meth X.K C m f/\cE X.prog X.w X.K X.mg X.base CX k f fd ps sp/\dh k X.A/\Binds X.K fd ps []
def Gu(CX:bZ)(X:Cx)(x:Str)(C:Addr)(sp:Sp):Prop:=
 ∃k f fd ps,Mk X.K C f/\cE X.prog X.w X.K X.mg X.base CX k f fd ps sp/\dh (k+1) X.A/\X.mg x=some (.ref C)/\Binds X.K fd ps []
def Gv(X:Cx)(x:Str)(sp:Sp):Prop:=
 ∃k f fd ps,Gr X.prog X.w X.K X.mg X.base k f fd ps sp/\Au k X.A/\X.mg x=some (.ref f)/\PySem.W.keepIn X.K (.ref f)=true/\Binds X.K fd ps []
def Gw(X:Cx)(x:Str)(C:Addr):Prop:= ∃bm B newId qZ,OwnCls x C bm newId X.mg X.base/\ExcBaseFacts B newId qZ bm
structure Good (CX:bZ) (S:c5) (Γ:bj) (X:Cx):Prop where
 N:X.N=S.N
 sc:X.env.scope=S.sc
 K:X.K=Γ.K
 calm:S.md=0->X.calm=true
 units:X.A.units+64<cLine
 fns:S.md=0->∀j x,S.fn[j]?=some x->Gs CX X x (Γ.fs j)
 gw:∀j x,S.gn[j]?=some x->∃u,X.mg x=some u/\RelV (Γ.gv j) u
 fV:∀x,S.bl.contains x=true->X.mg x=none
 pass:Passes CX X Γ.E
 wc:∀outer H s e s',CX outer H s E0 e s'->False
 wd:∀p kvs,Γ.sd p kvs->∀h:Heap,X.K.In h->∃vs,KV kvs vs/\h.DictOf (dB X.prog X.w) p vs
 tK:S.md=0->∀j m,S.mn[j]?=some m->wb CX X (Γ.ms j).1 m (Γ.ms j).2
 we:S.md=0->∀j x,S.kn[j]?=some x->Gu CX X x (Γ.kt j).1 (Γ.kt j).2
 Av:∀j x,S.en[j]?=some x->Gw X x (Γ.ex j)
 Aw:∀j x,S.hn[j]?=some x->Gv X x (Γ.hs j)
 Ax:∀e,Γ.hv=some e->X.A.handled=some (.ref e)
 Gx:S.md=1->Hd X
theorem wg{S:c5}(h:(if S.md=0 then 0 else 2)=0):S.md=0:=by
 split at h
 ·assumption
 ·cases h
section
variable {CX:bZ}{S:c5}{Γ:bj}{X:Cx}
theorem Good.inner(G:Good CX S Γ X)(c:tH)(ln:List Str)(fv:List (Str×Nat))(ex:List Addr)(C:Addr)(s:Shared)(H:Hp):
  Good CX (Gh S c ln fv) Γ.calm (gX X c.sc (ln++fv.map (·.1)) ex C s H) where
 N:=rfl
 sc:=by
  show relabel c.sc X.env=Ae c.sc S.sc;rw[<-G.sc];rfl
 K:=G.K
 calm:=fun h=>G.calm (wg h)
 units:=G.units
 fns:=fun m j x h=>G.fns (wg m) j x h
 gw:=G.gw
 fV:=G.fV
 pass:=fun _ _ _ _ _ _ _ h=>(G.wc _ _ _ _ _ h).elim
 wc:=G.wc
 wd:=G.wd
 tK:=fun z j m h=>G.tK (wg z) j m h
 we:=fun z j x h=>G.we (wg z) j x h
 Av:=fun j x h=>by simp[Gh] at h
 Aw:=fun j x h=>G.Aw j x h
 Ax:=fun e h=>G.Ax e h
 Gx:=fun h=>by
  have h':(if S.md=0 then 0 else 2)=1:=h
  split at h'<;>cases h'
theorem Good.gl(G:Good CX S Γ X){x:Str}(h:m6 S.sc x=true):Gl X x:=by
 show X.env.scope.names.lookup x=_;rw[G.sc];exact Te h
theorem dr{e:Expr}{es:List Expr}{env:Env}(h:noStar e=true):starEach (e::es) env=(false,eval e env)::starEach es env:=by
 cases e<;>first|rfl|cases h
theorem oP{o:Expr}{x:Str}{env:Env}(h:m7 o=true):attributeBase o x env (eval o env)=eval o env:=by
 unfold attributeBase
 split
 ·cases h
 ·rfl
theorem wj{e:Expr}{env:Env}(h:tJ e=true):∀x,foldedSetIterable e env x=pure x:=by
 intro x;cases e<;>first|rfl|cases h
def fA(es:List Expr):Bool:=es.all noStar
theorem kJ(env:Env)(pos:Pos):∀(es:List Expr),fA es=true->(backTo pos<|starEach es env).any (·.1)=false
 |[],h=>rfl
 |e::es,h=>by
  simp only[fA,zbl,zag] at h
  rw[dr h.1];have ih:=kJ env pos es h.2;show(false ||(backTo pos<|starEach es env).any (·.1))=false;rw[ih];rfl
theorem Ay(env:Env)(pos:Pos):∀(es:List Expr),fA es=true->(backTo pos<|starEach es env).all (fun x=> !x.1)=true
 |[],h=>rfl
 |e::es,h=>by
  simp only[fA,zbl,zag] at h
  rw[dr h.1];have ih:=Ay env pos es h.2;show(!false && (backTo pos<|starEach es env).all (fun x=> !x.1))=true;rw[ih];rfl
theorem dt{e:Expr}{es:List Expr}(h:fA (e::es)=true):noStar e=true/\fA es=true:=by
 simp only[fA,zbl,zag] at h
 exact h
theorem Gy(G:Good CX S Γ X){c:tH}{ln:List Str}{fv:List (Str×Nat)}(h:Ag S c ln fv=true):
  jF X c.sc ln fv/\(∀x∈ln,c.sc.names.lookup x=some .local)/\(ln++fv.map (·.1)).Nodup/\tJ c.iter=true:=by
 simp only[Ag,zag,decide_eq_true_eq,List.all_eq_true,zbN] at h
 obtain⟨⟨⟨⟨⟨⟨⟨h1,h2⟩,h3⟩,h4⟩,h5⟩,h6⟩,h7⟩,h8⟩:=h;refine⟨⟨h1,fun y hy=>h2 y hy,fun y hy hl=>?_,fun y hy hf=>?_,fun p hp=>?_⟩,h6,h7,h8⟩
 ·rcases h3 y hy with z|z
  ·exact absurd hl z
  ·exact z
 ·show X.env.scope.names.lookup y.1=_\/X.env.scope.names.lookup y.1=_;rw[G.sc];rcases h4 y hy with(z|z)|z
  ·exact absurd hf z
  ·exact .inl z
  ·exact .inr z
 ·rw[G.N];exact h5 p hp
theorem Gz(hc:X.calm=true){c:tH}{tk:Option Nat}{ln:List Str}{fv:List (Str×Nat)}(h:Af tk c.tg=some ln)(hl:∀x∈ln,c.sc.names.lookup x=some .local)(hn:(ln++fv.map (·.1)).Nodup):
  sZ X c.sc ln fv c.tg tk:=by
 unfold Af at h
 split at h
 ·rename_i x p he
  cases h;rw[he];exact RX (hl x (by simp)) hn
 ·rename_i x p y q k pos he
  cases h;rw[he];exact RZ hc (hl x (by simp)) (hl y (by simp)) hn
 ·cases h
theorem TM{xs:List V}{H:Hp}{Q:VK}{K:Frag}(h:kE K .int xs H Q):(∃i,xs=[.int i]/\Q (.int i) H)\/∃k,xs=[.bl k]/\Q (.int (if k then 1 else 0)) H:=by
 match xs,h with
 |[.int i],h=>exact .inl ⟨i,rfl,h⟩
 |[.bl k],h=>exact .inr ⟨k,rfl,h⟩
theorem TN{K:Frag}{x:V}{H:Hp}{Q:Nat->Prop}(h:sT K x H Q):∃n,EE K x H n/\Q n:=by
 match x,h with
 |.str y,h=>exact⟨_,⟨h.1,rfl⟩,h.2⟩
 |.ref p,.inl ⟨xs,a,b⟩=>exact⟨_,.inl ⟨xs,a,rfl⟩,b⟩
 |.ref p,.inr ⟨xs,a,b⟩=>exact⟨_,.inr ⟨xs,a,rfl⟩,b⟩
inductive TQ (X:Cx) (b:lW):Prop where
 |fn (id:String) (hv:bootBuiltins b.nm=some (.builtin id)) (hc:dD X (.builtin id) (kE X.K b))
 |ty (T:String) (hv:bootBuiltins b.nm=some (.type T)) (hc:dD X (.type T) (kE X.K b))
theorem boot_min:bootBuiltins "min"=some (.builtin "min"):=by decide+kernel
theorem boot_max:bootBuiltins "max"=some (.builtin "max"):=by decide+kernel
theorem boot_abs:bootBuiltins "abs"=some (.builtin "abs"):=by decide+kernel
theorem boot_sum:bootBuiltins "sum"=some (.builtin "sum"):=by decide+kernel
theorem TR:bootBuiltins "isinstance"=some (.builtin "isinstance"):=by decide+kernel
theorem TU:bootBuiltins "int"=some (.type "int"):=by decide+kernel
theorem tL:bootBuiltins "list"=some (.type "list"):=by decide+kernel
theorem TV:bootBuiltins "tuple"=some (.type "tuple"):=by decide+kernel
theorem GB(f:Nat->Int)(lt:Nat->Nat->Bool)(h:∀i j,lt i j=decide (f i<f j)):∀n,argBest lt n<=n/\∀i,i<=n->f (argBest lt n)<=f i
 | 0=>⟨zqR _,fun i hi=>by
   obtain rfl:i=0:=by lia
   exact zaP _⟩
 |n+1=>by
  obtain⟨a,b⟩:=GB f lt h n;have e:argBest lt (n+1)=if lt (n+1) (argBest lt n)=true then n+1 else argBest lt n:=rfl
  rw[e,h]
  split
  ·rename_i q
   have q:=of_decide_eq_true q;refine⟨zqR _,fun i hi=>?_⟩;by_cases z:i=n+1
   ·rw[z];exact zaP _
   ·have:=b i (by lia);lia
  ·rename_i q
   have q:¬f (n+1) <f (argBest lt n):=fun z=>q (zqT z);refine⟨by lia,fun i hi=>?_⟩
   by_cases z:i=n+1
   ·rw[z];lia
   ·exact b i (by lia)
theorem GC{xs:Array (Int×Tok)}{i:Nat}(h:i<xs.size):numAt xs i=xs[i].1:=by
 unfold numAt;rw[zbm h];rfl
theorem TX{xs:Array (Int×Tok)}{i:Nat}(h:i<xs.size):numAt xs i∈xs.toList.map (·.1):=by
 rw[GC h];exact List.mem_map.mpr ⟨xs[i],by simp,rfl⟩
theorem TY{xs:Array (Int×Tok)}{n:Int}(h:n∈xs.toList.map (·.1)):∃i,i<xs.size/\n=numAt xs i:=by
 obtain⟨y,hy,rfl⟩:=List.mem_map.mp h;obtain⟨i,hi,rfl⟩:=List.getElem_of_mem hy;have fS:i<xs.size:=by simpa using hi
 exact⟨i,fS,by rw[GC fS];simp⟩
theorem TZ{pins:List (Addr×Obj)}{σ:St}{H:Hp}{s:Shared}{p:Addr}{ns:List Int}(I:Inv X pins σ H s)(hq:au X.K H p (ns.map V.int)):∃xs:Array (Int×Tok),s.heap.IsList p (intItems xs)/\ns=xs.toList.map (·.1):=by
 obtain⟨ao,rv,pl,hz⟩:=I.list hq;have hi:=intsAre_of rv;obtain⟨xs,hx⟩:=hi.allInts.items;refine⟨xs,hx ▸ pl.isList,?_⟩;rw[<-nums_intItems,<-hx];exact(show numsOf ao.toArray.toList=ns from hi.numsOf).symm
theorem T_(hc:X.calm=true):dD X (.builtin "min") (fun xs H Q=>∃(p:Addr) (ns:List Int),xs=[.ref p]/\au X.K H p (ns.map V.int)/\ns≠ []/\∀m:Int,m∈ns->(∀n∈ns,m<=n)->Q (.int m) H):=by
 intro pins s σ H xs us Q I r h;obtain⟨p,ns,rfl,hq,jf,q⟩:=h;obtain⟨u,rfl,ru⟩:=vals1 r;cases ru;obtain⟨xs,hl,rfl⟩:=TZ I hq;have sz:0<xs.size:=Nat.pos_of_ne_zero fun z=>jf (by rw[Array.eq_empty_of_size_eq_zero z];rfl)
 refine min_intList (I.ok.hd hc) hl sz fun v h' tk hv hk=>?_;obtain⟨t,rfl⟩:=intItems_at hv;obtain⟨b1,b2⟩:=GB (numAt xs) (fun i j=>decide<|numAt xs i<numAt xs j) (fun _ _=>rfl) (xs.size - 1);refine⟨.int _,H,I.kept (t':=tk) hk,⟨t,rfl⟩,q _ (TX (by lia)) fun n hn=>?_⟩
 obtain⟨i,hi,rfl⟩:=TY hn;exact b2 i (by lia)
theorem Ua{x:Str}{acc:Array Value}(h:ItemsOf (SignAt x) acc x.cps.size):Vals (signs x) acc.toList:=by
 have go:∀(l:List Nat) (us:List Value),us.length=l.length->(∀(j:Nat) (v:Value),us[j]?=some v->∃(c:Nat) (t:Tok),l[j]?=some c/\v=Value.str ⟨#[c]⟩ t)->Vals (l.map fun c=>V.str ⟨#[c]⟩) us:=by
  intro l
  induction l with
  |nil=>
   intro us hl _;rw[zaD.mp hl];exact .nil
  |cons c l ih=>
   intro us hl hv;cases us with
   |nil=>cases hl
   |cons u us=>
    obtain⟨c',t,e1,e2⟩:=hv 0 u rfl;have oV:c=c':=by simpa using e1
    subst oV;exact .cons ⟨t,e2⟩ (ih us (by simpa using hl) fun j v hj=>by
     obtain⟨c2,t2,g1,g2⟩:=hv (j+1) v (by simpa using hj)
     exact⟨c2,t2,by simpa using g1,g2⟩)
 refine go x.cps.toList acc.toList ?_ fun j v hj=>?_
 ·have:=h.1;simpa using this
 ·obtain⟨c,t,e1,e2⟩:=h.2 j v (by simpa using hj)
  exact⟨c,t,by simpa using e1,e2⟩
theorem Ub(x:Str):(signs x).length=x.length:=by simp[signs,Str.length]
theorem Uc(hc:X.calm=true):dD X (.type "list") (fun xs H Q=>∃x,xs=[.str x]/\x.length<=sizeLine/\∀l,H l=none->Q (.ref l) (upd H l<|.lst<|signs x)):=by
 intro pins s σ H xs us Q I r h;obtain⟨x,rfl,hx,q⟩:=h;obtain⟨u,rfl,t,rfl⟩:=vals1 r;refine call_list_str (I.ok.hd hc) x t (fun h' tk ir c' hk e d9=>?_) hx;have rv:=Ua d9;exact⟨.ref s.heap.objs.size,_,I.laid (t':=tk) hk (zqR _) (show cq X.prog X.w _ h' _ (.lst<|signs x) from⟨by rw[Ub];exact hx,ir.toList,c',rv,by simpa using e⟩),rfl,q _<|I.aD.fresh<|zqR _⟩
theorem Ud(hc:X.calm=true)(b:lW):TQ X b:=by
 cases b with
 |len=>exact .fn "len" boot_len (dD.imp PK fun xs H Q h=>by
   rcases xs with _|⟨x,_|⟨_,_⟩⟩ <;>(try exact False.elim h)
   obtain⟨n,h1,h2⟩:=TN (Q:=fun n=>Q (.int n) H) h;exact⟨x,n,rfl,h1,h2⟩)
 |min=>exact .fn "min" boot_min (dD.imp ((PH hc).or (T_ hc)) fun xs H Q h=>by
   match xs,h with
   |[.int i,.int j],h=>exact .inl ⟨i,j,rfl,h⟩
   |[.ref p],⟨ns,h1,h2,h3⟩=>exact .inr ⟨p,ns,rfl,h1,h2,h3⟩)
 |max=>exact .fn "max" boot_max fun _ _ _ _ xs _ _ _ _ h=>by rcases xs with _|⟨y0,_|⟨y1,_⟩⟩ <;>first|exact False.elim h|(cases y0<;>exact False.elim h)
 |sum=>exact .fn "sum" boot_sum (dD.imp (So hc) fun xs H Q h=>by
   rcases xs with _|⟨x,_|⟨_,_⟩⟩ <;>(try exact False.elim h) <;>cases x<;>(try exact False.elim h)
   obtain⟨ns,h1,h2⟩:=h;exact⟨_,ns,rfl,h1,h2⟩)
 |abs=>exact .fn "abs" boot_abs fun _ _ _ _ xs _ _ _ _ h=>by rcases xs with _|⟨y0,_|⟨y1,_⟩⟩ <;>first|exact False.elim h|(cases y0<;>exact False.elim h)
 |int=>exact .ty "int" TU (dD.imp PJ fun xs H Q h=>TM h)
 |list=>exact .ty "list" tL (dD.imp (Qz.or (Uc hc)) fun xs H Q h=>by
   rcases xs with _|⟨x,_|⟨_,_⟩⟩ <;>(try exact False.elim h) <;>cases x<;>(try exact False.elim h)
   ·exact .inr ⟨_,rfl,h.1,h.2⟩
   ·obtain⟨ys,h1,h2⟩:=h;exact .inl ⟨_,ys,rfl,h1,h2⟩)
 |tuple=>exact .ty "tuple" TV fun _ _ _ _ xs _ _ _ _ h=>by rcases xs with _|⟨y0,_|⟨y1,_⟩⟩ <;>first|exact False.elim h|(cases y0<;>exact False.elim h)
structure Ue (X:Cx) (m:iu) (id:String):Prop where
 pa:PlainAttrs (tF m)
 slot:Slot (tF m) m.nm id
 ty:typeOf (.builtin id)=pure (.type "method_descriptor")
 mt:qO X id (v5 X.K m)
theorem Ug{P:Program}{w:World}{k:Key}{u:Value}(r:RelV (kV k) u):(dB P w).is k u=true:=by
 cases k with
 |inl i=>obtain⟨t,e⟩:=(show ∃t,u=Value.int i t from r);subst e;exact DR P w i t
 |inr x=>obtain⟨t,e⟩:=(show ∃t,u=Value.str x t from r);subst e;exact vf P w x t
theorem Uh{kvs:List (Key×V)}{vs:List (Key×Value)}(r:KV kvs vs)(k:Key){v:V}(h:lX kvs k=some v):∃u,valueAt vs k=some u/\RelV v u:=by
 unfold KV at r
 induction r with
 |nil=>cases h
 | @cons p q ps qs hh t ih=>
  obtain⟨h1,h2⟩:=hh;by_cases e:p.1=k
  ·have e':q.1=k:=h1.symm.trans e;have b:valueAt (q::qs) k=some q.2:=by simp[valueAt,zaM,e']
   have a:lX (p::ps) k=some p.2:=by simp[lX,zaM,e]
   rw[a] at h;cases h;exact⟨_,b,h2⟩
  ·have e':¬q.1=k:=fun z=>e (h1.trans z);have b:valueAt (q::qs) k=valueAt qs k:=by simp[valueAt,zaM,e']
   have a:lX (p::ps) k=lX ps k:=by simp[lX,zaM,e]
   rw[a] at h;rw[b];exact ih h
theorem Ui{sd:Addr->List (Key×V)->Prop}(Az:∀p kvs,sd p kvs->∀h:Heap,X.K.In h->∃vs,KV kvs vs/\h.DictOf (dB X.prog X.w) p vs):ku X (Ga sd):=by
 intro value slice pins s σ H x y v u Q I rx ry h hs;obtain⟨p,kvs,k,z,rfl,rfl,hq,he,q⟩:=h;cases rx;obtain⟨vs,r,dd⟩:=Az p kvs hq s.heap I.dg;obtain⟨w,ew,iP⟩:=Uh r k he;exact subscriptTail_builtinR (x:=w) dd.mapOf.typeIs PySem.F.slot_dict_getitem.lookup
  (wpAny_getItem_of (Q:=fun r s'=>r=w/\EP X pins σ Q r s') (Ug ry) dd.mapOf ew ⟨rfl,z,H,I.tok _,iP,q⟩) hs
theorem Uj{sd:Addr->List (Key×V)->Prop}(Az:∀p kvs,sd p kvs->∀h:Heap,X.K.In h->∃vs,KV kvs vs/\h.DictOf (dB X.prog X.w) p vs):ku X (m4 X.K sd):=Qn.or (Qo.or<|Qp.or<|Ui Az)
theorem Uk:qO X "list.index" (fun x vs H Q=>∃(l:Addr) (y:V) (xs:List V),x=.ref l/\vs=[y]/\au X.K H l xs/\iq y=true/\xs.all iq=true/\eZ y xs=true/\Q (.int (xs.findIdx (fun z=>gT z y):Nat)) H):=by
 intro pins s σ H x vs v us Q I rx rv h;obtain⟨l,y,xs,rfl,rfl,hq,fy,fs,qY,q⟩:=h;cases rx;obtain⟨u,rfl,ru⟩:=vals1 rv;obtain⟨ao,r,⟨⟨cls,dd,data,sl⟩,n,ho,hc,hd0,hd⟩,hz⟩:=I.list hq
 simp only at hc hd
 subst hc hd;have hlen:=r.length;have e:∀j (h1:j<ao.length) (h2:j<xs.length),eY y ao[j]=gT xs[j] y:=fun j h1 h2=>by
  obtain⟨w,e1,r1⟩:=r.get (i:=j) (x:=xs[j]) (by simp[h2])
  have e2:=zav h1;rw[e1] at e2;rw[<-zal e2];exact zC r1<|List.all_eq_true.mp fs _<|List.getElem_mem h2
 have hj:xs.findIdx (fun z=>gT z y) <xs.length:=List.findIdx_lt_length.mpr (List.any_eq_true.mp qY);have hn:=oI;refine call_meets PySem.F.slot_list_index ⟨_,ho,rfl⟩ PySem.F.entry_list_index (PySem.F.args_list_index_2 _ _)
  (PySem.SeqAt.list_indexAt l ao.toArray n dd sl u (eY y) (xs.findIdx fun z=>gT z y) (by simp;lia) (by lia) ?_ ?_) ⟨ho,fun z lY=>qP ru fy r fs z (by simpa using lY),⟨.int _,H,I.tok _,⟨_,rfl⟩,q⟩⟩
 ·show eY y ao[xs.findIdx fun z=>gT z y]=true;rw[e _ (by lia) hj]
  exact List.findIdx_getElem (w:=hj)
 ·intro j Ul aX;show eY y ao[j]=false;rw[e j (by simpa using Ul) (by lia)]
  simpa using List.not_of_lt_findIdx aX
theorem GD(m:iu):∃id,Ue X m id:=by
 cases m with
 |append=>exact⟨_,F.plainAttrs_list,F.slot_list_append,F.type_list_append,fun pins s σ H x xs v us Q I rx rv h=>by
   cases x<;>(try exact False.elim h) <;>rcases xs with _|⟨y0,_|⟨_,_⟩⟩ <;>(try exact False.elim h)
   obtain⟨zs,h1,h2,h3⟩:=h;exact QK pins s σ H _ _ v us Q I rx rv ⟨_,zs,_,rfl,rfl,h1,h2,h3⟩⟩
 |pop=>exact⟨_,F.plainAttrs_list,F.slot_list_pop,F.type_list_pop,fun pins s σ H x xs v us Q I rx rv h=>by
   cases x<;>(try exact False.elim h) <;>rcases xs with _|⟨_,_⟩ <;>(try exact False.elim h)
   obtain⟨zs,y,h1,h2,h3⟩:=h;exact QO pins s σ H _ _ v us Q I rx rv ⟨_,zs,y,rfl,rfl,h1,h2,h3⟩⟩
 |extend=>exact⟨_,F.plainAttrs_list,F.slot_list_extend,F.type_list_extend,fun pins s σ H x xs v us Q I rx rv h=>by
   cases x<;>(try exact False.elim h) <;>rcases xs with _|⟨y0,_|⟨_,_⟩⟩ <;>(try exact False.elim h) <;>cases y0<;>(try exact False.elim h)
   obtain⟨ys,zs,h1,h2,h3,h4⟩:=h;exact QM pins s σ H _ _ v us Q I rx rv ⟨_,_,ys,zs,rfl,rfl,h1,h2,h3,h4⟩⟩
 |join=>exact⟨_,F.plainAttrs_str,F.slot_str_join,F.type_str_join,fun pins s σ H x xs v us Q I rx rv h=>by
   cases x<;>(try exact False.elim h) <;>rcases xs with _|⟨y0,_|⟨_,_⟩⟩ <;>(try exact False.elim h) <;>cases y0<;>(try exact False.elim h)
   obtain⟨ts,h1,h2,h3⟩:=h;exact Sq pins s σ H _ _ v us Q I rx rv ⟨_,_,ts,rfl,rfl,h1,h2,h3⟩⟩
 |lstrip=>exact⟨_,F.plainAttrs_str,F.slot_str_lstrip,F.type_str_lstrip,fun pins s σ H x xs v us Q I rx rv h=>by
   cases x<;>(try exact False.elim h) <;>rcases xs with _|⟨y0,_|⟨_,_⟩⟩ <;>(try exact False.elim h) <;>cases y0<;>(try exact False.elim h)
   obtain⟨h1,h2⟩:=h;exact Ss pins s σ H _ _ v us Q I rx rv ⟨_,_,rfl,rfl,h1,h2⟩⟩
 |starts=>exact⟨_,F.plainAttrs_str,F.slot_str_startswith,F.type_str_startswith,fun _ _ _ _ x xs _ _ _ _ _ _ h=>by cases x<;>rcases xs with _|⟨y0,_|⟨y1,_⟩⟩ <;>first|exact False.elim h|(cases y0<;>exact False.elim h)⟩
 |find=>exact⟨_,F.plainAttrs_str,F.slot_str_find,F.type_str_find,fun _ _ _ _ x xs _ _ _ _ _ _ h=>by cases x<;>rcases xs with _|⟨y0,_|⟨y1,_⟩⟩ <;>first|exact False.elim h|(cases y0<;>exact False.elim h)⟩
 |count=>exact⟨_,F.plainAttrs_str,F.slot_str_count,F.type_str_count,fun _ _ _ _ x xs _ _ _ _ _ _ h=>by cases x<;>rcases xs with _|⟨y0,_|⟨y1,_⟩⟩ <;>first|exact False.elim h|(cases y0<;>exact False.elim h)⟩
 |reverse=>exact⟨_,F.plainAttrs_list,F.slot_list_reverse,F.type_list_reverse,fun _ _ _ _ x xs _ _ _ _ _ _ h=>by cases x<;>rcases xs with _|⟨y0,_|⟨y1,_⟩⟩ <;>first|exact False.elim h|(cases y0<;>exact False.elim h)⟩
 |index=>exact⟨_,F.plainAttrs_list,F.slot_list_index,F.type_list_index,fun _ _ _ _ x xs _ _ _ _ _ _ h=>by cases x<;>rcases xs with _|⟨y0,_|⟨y1,_⟩⟩ <;>first|exact False.elim h|(cases y0<;>exact False.elim h)⟩
 |FX=>exact⟨_,F.plainAttrs_list,F.slot_list_count,F.type_list_count,fun _ _ _ _ x xs _ _ _ _ _ _ h=>by cases x<;>rcases xs with _|⟨y0,_|⟨y1,_⟩⟩ <;>first|exact False.elim h|(cases y0<;>exact False.elim h)⟩
 |z_=>exact⟨_,F.plainAttrs_list,F.slot_list_index,F.type_list_index,fun pins s σ H x xs v us Q I rx rv h=>by
   cases x<;>(try exact False.elim h) <;>rcases xs with _|⟨y0,_|⟨_,_⟩⟩ <;>(try exact False.elim h)
   obtain⟨zs,h1,h2,h3,h4,h5⟩:=h;exact Uk pins s σ H _ _ v us Q I rx rv ⟨_,_,zs,rfl,rfl,h1,h2,h3,h4,h5⟩⟩
 |clear=>exact⟨_,F.plainAttrs_list,F.slot_list_clear,F.type_list_clear,fun pins s σ H x xs v us Q I rx rv h=>by
   cases x<;>(try exact False.elim h) <;>rcases xs with _|⟨_,_⟩ <;>(try exact False.elim h)
   obtain⟨zs,h1,h2⟩:=h;exact QR pins s σ H _ _ v us Q I rx rv ⟨_,zs,rfl,rfl,h1,h2⟩⟩
theorem Um{pins:List (Addr×Obj)}{σ:St}{H:Hp}{s:Shared}{T:Ty}{x:V}{u:Value}{Qb:Bool->Prop}{Q:Value->Shared->Prop}{E:Value->Shared->Prop}(I:Inv X pins σ H s)(rx:RelV x u)(h:bH T x H Qb)
  (hq:∀b tk,Qb b->Q (.bool b) {s with toks:=tk}):wpAny (model X.prog X.w) X.A (call (.builtin "isinstance") [u,.type T.nm]) Q E s:=by
 match x,rx,h with
 |.aC,rx,h=>exact lR I rx (.aC) (Sn _ T) fun tk=>hq _ _ h
 |.bl b,rx,h=>exact lR I rx (.bl b) (m3 X.K .bool T) fun tk=>hq _ _ (by cases T<;>exact h)
 |.int i,rx,h=>exact lR I rx (.int i) (m3 X.K .int T) fun tk=>hq _ _ (by cases T<;>exact h)
 |.str i,rx,h=>exact lR I rx (.str i) (m3 X.K .str T) fun tk=>hq _ _ (by cases T<;>exact h)
 |.ref a,rx,h=>
  cases e:H a with
  |none=>simp only[bH,e] at h
  |some o=>
   match o,e with
   |.lst xs,e=>simp only[bH,e] at h;exact lR I rx (.lst e) (m3 X.K .list T) fun tk=>hq _ _ (by cases T<;>exact h)
   |.bV ob (.lst xs),e=>simp only[bH,e] at h;exact lR I rx (.bV e) (m3 X.K .list T) fun tk=>hq _ _ (by cases T<;>exact h)
   |.tup xs,e=>simp only[bH,e] at h;exact lR I rx (.tup e) (m3 X.K .tuple T) fun tk=>hq _ _ (by cases T<;>exact h)
   |.dK xs,e=>simp only[bH,e] at h;exact lR I rx (.dK e) (m3 X.K .dict T) fun tk=>hq _ _ (by cases T<;>exact h)
   |.dT xs,e=>simp only[bH,e] at h;exact lR I rx (.dT e) (m3 X.K .dict T) fun tk=>hq _ _ (by cases T<;>exact h)
   |.set _ _,e=>simp only[bH,e] at h
   |.ins _ _ _,e=>simp only[bH,e] at h
   |.own _,e=>simp only[bH,e] at h
   |.xd _,e=>simp only[bH,e] at h
   |.met _ _,e=>simp only[bH,e] at h
   |.gP _ _,e=>simp only[bH,e] at h
   |.km _,e=>simp only[bH,e] at h
   |.ext _,e=>simp only[bH,e] at h
   |.bV ob (.tup xs),e=>simp only[bH,e] at h
   |.bV ob (.dK xs),e=>simp only[bH,e] at h
   |.bV ob (.dT xs),e=>simp only[bH,e] at h
   |.bV ob (.set _ _),e=>simp only[bH,e] at h
   |.bV ob (.ins _ _ _),e=>simp only[bH,e] at h
   |.bV ob (.own _),e=>simp only[bH,e] at h
   |.bV ob (.xd _),e=>simp only[bH,e] at h
   |.bV ob (.met _ _),e=>simp only[bH,e] at h
   |.bV ob (.gP _ _),e=>simp only[bH,e] at h
   |.bV ob (.km _),e=>simp only[bH,e] at h
   |.bV ob (.ext _),e=>simp only[bH,e] at h
   |.bV ob (.bV _ _),e=>simp only[bH,e] at h
theorem Uo(T:Ty):bootBuiltins (Str.ofString T.nm)=some (.type T.nm):=by cases T<;>decide+kernel
theorem Up(T:Ty):dD X (.builtin "isinstance") (kH T):=by
 intro pins s σ H xs us Q I r h
 match xs,r,h with
 |[x,.ty n],r,⟨e,h⟩=>
  subst e;obtain⟨u,w',rfl,ru,iP⟩:=vals2 r;cases iP;exact Um I ru h fun b tk hb=>⟨.bl b,H,I.tok tk,rfl,hb⟩
theorem Uq{T:Ty}{a:Expr}{ta:TE}{p q pos:Pos}(ha:PE X a ta)(hs:noStar a=true)(hg:Gl X "isinstance")(hm:X.mg "isinstance"=none)(Ur:Gl X (Str.ofString T.nm))(Us:X.mg (Str.ofString T.nm)=none):
  PE X (.Call (.Name "isinstance" p) [a,.Name (Str.ofString T.nm) q] [] pos) (dQ (kH T)<|dP ta<|dP (tC<|.ty T.nm) ja):=by
 have hT:PE X (.Name (Str.ofString T.nm) q) (tC<|.ty T.nm):=OG Ur Us (Uo T) rfl (by cases T<;>decide) (by cases T<;>decide)
 exact EV (Up T) hg hm TR (qL ha (qL hT vD rfl)<|dr hs) (by decide) (by decide) (dr hs) rfl
end
section
variable {X:Cx}
theorem Ut:zu X (oY X.K):=by
 intro pins s σ H x v vl vu lo hi sl Q I rx hs pl pu h
 match x,rx,h with
 |.ref a,rx,.inl ⟨xs,h1,h2⟩=>exact Qu pins s σ H _ v vl vu lo hi sl Q I rx hs pl pu ⟨a,xs,rfl,h1,h2⟩
 |.ref a,rx,.inr h=>exact False.elim h
 |.str z,rx,⟨h1,h2⟩=>
  obtain⟨t,rfl⟩:=rx;obtain⟨l,el,ml⟩:∃l:Option (Int×Tok),vl=partValue l/\l.map (·.1)=lo:=by
   cases pl with
   |none=>exact⟨none,rfl,rfl⟩
   |int i t=>exact⟨some (i,t),rfl,rfl⟩
  obtain⟨u,eu,mu⟩:∃u:Option (Int×Tok),vu=partValue u/\u.map (·.1)=hi:=by
   cases pu with
   |none=>exact⟨none,rfl,rfl⟩
   |int i t=>exact⟨some (i,t),rfl,rfl⟩
  subst el eu;refine⟨"str",_,F.slot_str_getitem.lookup,typeIs_str _ _ _,?_⟩;refine wpAny_getItem_str_slice (l:=l) (u:=u) (st:=none) hs rfl ?_;obtain⟨b1,b2,b3⟩:=zB lo hi z.length;have hp:slicePicked z l u none=(List.range<|HT.cZ z.length z.length hi - HT.cZ z.length 0 lo).map (HT.cZ z.length 0 lo+ ·):=by
   show Builtin.Str.strSliceIndices (l.map (·.1)) (u.map (·.1)) 1 z.length=_;rw[ml,mu];have e0:Builtin.Str.strSliceIndices lo hi 1 z.length=sliceRange (sliceBounds lo hi none z.length).1 (sliceBounds lo hi none z.length).2.1 (sliceBounds lo hi none z.length).2.2:=rfl;rw[e0,b1,b2,b3,sliceRange_one]
  have hc:((slicePicked z l u none).filterMap (z.cps[·]?))=kz z.cps.toList lo hi:=by
   show(Builtin.Str.strSliceIndices (l.map (·.1)) (u.map (·.1)) 1 z.length).filterMap (z.cps[·]?)=_;rw[ml,mu,Su]
  have hz:z.cps.toList.length=z.length:=by simp[Str.length]
  have hA:=HT.EX z.length 0 (zqZ _) lo;have hB:=HT.EX z.length z.length (zqR _) hi;unfold sliceMade;refine post_val_or_made (fun _=>?_) fun t' k=>?_
  ·show(List.toArray ((slicePicked z l u none).filterMap (z.cps[·]?))).size<=sizeLine;rw[hc,zae];have:(kz z.cps.toList lo hi).length<=z.cps.toList.length:=by unfold kz;simp only[zaF,zaC];lia
   lia
  ·have e:(if (((none:Option (Int×Tok)).map (·.1)).getD 1==1 && (slicePicked z l u none).length==z.length)=true then z else ⟨((slicePicked z l u none).filterMap (z.cps[·]?)).toArray⟩)=jH z lo hi:=by
    split
    ·rename_i hq
     simp only[zag,beq_iff_eq] at hq
     have Uu:=hq.2;rw[hp,zad,zaG] at Uu;have a0:HT.cZ z.length 0 lo=0:=by lia
     have b0:HT.cZ z.length z.length hi=z.length:=by lia
     unfold jH kz;rw[hz,a0,b0,<-hz,Nat.sub_zero,zbO,zbt]
    ·rw[hc];rfl
   rw[e];exact⟨.str _,H,I.tok k,⟨t',rfl⟩,h2⟩
theorem Uv:vv X (unaryOp .USub) F_:=by
 intro pins s σ H x v Q I rx h
 match x,rx,h with
 |.int i,rx,h=>exact Ph pins s σ H _ v Q I rx ⟨i,rfl,h⟩
theorem Uw{a:Expr}{ta:TE}{pos:Pos}(ha:PE X a ta):PE X (.UnaryOp .Not a pos) (Aa X.K ta):=by
 intro pins s σ H Q I h;refine UnaryOp_<|aG (ha pins s σ H _ I h) fun v s1 ⟨x,H1,I1,r1,q1⟩=>not_of ?_;exact aG (ED pins s1 σ H1 x v (fun b H2=>Q (.bl<|!b) H2) I1 r1<|F9 q1) fun b s2 ⟨H2,I2,q2⟩=>⟨.bl<|!b,H2,I2,rfl,q2⟩
theorem GG{a:Expr}{ta:TE}(ha:PE X a ta)(he:∀whole,isTrue a X.env whole=(do let v <-whole;standAt a.pos;holding [v] (truthy v))):PT X a (gZ X.K ta):=by
 intro pins s σ H Q I h;exact isTrue_plain (aG (ha pins s σ H _ I h) fun v s1 ⟨x,H1,I1,r1,q1⟩=>ED pins s1 σ H1 x v Q I1 r1 (F9 q1))<|he _
theorem Ux{m:iu}{o e:Expr}{es:List Expr}{to:TE}{t:TA}{apos dE:Pos}(ho:PE X o to)(ha:PA X (e::es) t)(hb:m7 o=true)(hl:(apos.endLine==dE.line)=true)(hn:(e::es).length<29)
  (hs:starEach (e::es) X.env=(false,eval e X.env)::starEach es X.env) (h1:(backTo dE<|starEach es X.env).any (·.1)=false) (h2:(backTo dE<|starEach (e::es) X.env).all (fun x=> !x.1)=true):
  PE X (.Call (.Attribute o m.nm apos) (e::es) [] dE) (qX X.K m to t):=by
 obtain⟨id,M⟩:=GD (X:=X) m;exact QF M.pa M.slot M.ty M.mt ho ha (oP hb) (by
  rw[h2];show(true && true && decide ((e::es).length+0+0<30))=true;rw[zqT (by lia)];rfl) hl hs h1
theorem Uy{m:iu}{o:Expr}{to:TE}{apos dE:Pos}(ho:PE X o to)(hb:m7 o=true)(hl:(apos.endLine==dE.line)=true):
  PE X (.Call (.Attribute o m.nm apos) [] [] dE) (qX X.K m to ja):=by
 obtain⟨id,M⟩:=GD (X:=X) m;exact QE M.pa M.slot M.ty M.mt ho (oP hb) hl
end
section
variable {X:Cx}{CX:bZ}
theorem GH{o:Expr}{m:Str}{apos pos:Pos}{args:List Expr}{Q:Value->Shared->Prop}{E:Value->Shared->Prop}{A:Around}{s:Shared}{env:Env}{prog:Program}{w:World}
  (hb:m7 o=true) (hl:(apos.endLine==pos.line)=true) (hn:args.length<29) (hf:(backTo pos<|starEach args env).all (fun x=> !x.1)=true)
  (h:wpAny (model prog w) A (eval o env) (fun ov s1=>∀pl,wpAny (model prog w) A (getMethod ov m pl) (fun fx s2=>wpAny (model prog w) A (callWith pos fx.1 fx.2 (backTo pos<|starEach args env)<|backToKw pos<|keywordEach [] env) Q E s2) E s1) E s):
  wpAny (model prog w) A (eval (.Call (.Attribute o m apos) args [] pos) env) Q E s:=by
 have Uz:methodCallForm (args.length+0) (backTo pos<|starEach args env) (backToKw pos<|keywordEach [] env)=true:=by
  show((backTo pos<|starEach args env).all (fun x=> !x.1) && true && decide (args.length+0+0<30))=true;rw[hf,zqT (by lia)];rfl
 have line:methodCallPos true o env apos pos=pure pos:=by unfold methodCallPos;simp[hl]
 rw[arm_eval_Call,oP hb];refine wpAny_bind<|wpAny_mono h (fun ov s1 h1=>wpAny_bind<|wpAny_standAt ?_) fun _ _ e=>e;unfold methodCall;rw[show([]:List Keyword).length=0 from rfl,Uz]
 refine wpAny_bind<|wpAny_holding<|wpAny_mono (h1 _) (fun fx s2 h2=>?_) fun _ _ e=>e;exact wpAny_bind<|wpAny_of_eq line h2
theorem UA{o e:Expr}{es:List Expr}{to:TE}{t:TA}{apos pos:Pos}{C:Addr}{m:Str}{sp:Sp}{E:XK}(M:wb CX X C m sp)(hx:Passes CX X E)(ho:PE X o to)(ha:PA X (e::es) t)(hb:m7 o=true)(hl:(apos.endLine==pos.line)=true)(hn:(e::es).length<29)
  (hs:starEach (e::es) X.env=(false,eval e X.env)::starEach es X.env) (h1:(backTo pos<|starEach es X.env).any (·.1)=false) (h2:(backTo pos<|starEach (e::es) X.env).all (fun x=> !x.1)=true):
  PE X (.Call (.Attribute o m apos) (e::es) [] pos) (oM C m sp [] E to t):=by
 obtain⟨c,k,f,fd,ps,hm,F,hr,AA⟩:=M;intro pins s σ H Q I h;refine GH hb hl hn h2<|aG (ho pins s σ H _ I h) fun u s1 ⟨x,H1,I1,rx,a,dx,fs,ex,ea,l,q⟩=>fun pl=>?_;subst ex;obtain rfl:u=Value.ref a:=rx;refine EH I1 ea c hm l ?_;refine callWith_K (first:=[.ref a]) (h₀:=X.base) I.ok.mod.sG hm.kp (aG (ha pos pins s1 σ H1 _ I1 q) fun us s2 ⟨vs,H2,I2,r,q2⟩=>⟨I2.dg,?_⟩) hs h1
 exact zo (us:=.ref a::us) (vs:=.ref a::vs) F hr AA .nil hx I2 (.cons rfl r) q2
theorem UB{o:Expr}{to:TE}{apos pos:Pos}{C:Addr}{m:Str}{sp:Sp}{E:XK}(M:wb CX X C m sp)(hx:Passes CX X E)(ho:PE X o to)(hb:m7 o=true)(hl:(apos.endLine==pos.line)=true):
  PE X (.Call (.Attribute o m apos) [] [] pos) (oM C m sp [] E to ja):=by
 obtain⟨c,k,f,fd,ps,hm,F,hr,AA⟩:=M;intro pins s σ H Q I h;refine GH hb hl (by decide) rfl<|aG (ho pins s σ H _ I h) fun u s1 ⟨x,H1,I1,rx,a,dx,fs,ex,ea,l,q⟩=>fun pl=>?_
 subst ex;obtain rfl:u=Value.ref a:=rx;refine EH I1 ea c hm l ?_;exact PySem.W.callWith_K0 (first:=[.ref a]) I1.dg hm.kp<|zo (us:=[.ref a]) (vs:=[.ref a]) F hr AA .nil hx I1 (.cons rfl .nil) q
end
def o9(K:Frag)(n:Nat)(t:kr):TG:=fun v σ H Q=>∃a xs,v=.ref a/\(aH K H a xs\/False)/\xs.length=n/\t xs σ H Q
theorem GI{X:Cx}{es:List Expr}{k:Nat}{t:kr}{n:Nat}{pos:Pos}(hc:X.calm=true)(h:qI X es t)
  (hn:(assignEach es X.env).length=n) (gQ:(assignEach es X.env).findIdx? (·.1)=none):PG X (.Tuple es k pos) (o9 X.K n t):=by
 intro pins s σ H v u Q I r hw;obtain⟨a,xs,e1,hq,hl,hw⟩:=hw;rcases hq with hq|hq
 ·exact Eg hc h hn gQ pins s σ H v u Q I r ⟨a,xs,e1,hq,hl,hw⟩
 ·exact hq.elim
def m8:List Nat->kr
 |[]=>y_
 |i::r=>vp (fg i) (m8 r)
def UC(to:TE)(tl th:TO):TG:=fun v σ H Q=>to σ H fun o H1=>tl σ H1 fun i H2=>th σ H2 fun j H3=>∃l b xs ys a c,o=.ref l/\v=.ref b/\i=some a/\j=some c/\H3 l=some (.lst xs)/\H3 b=some (.lst ys)/\l≠b/\
 0<=a/\a<=c/\c<=xs.length/\xs.length+ys.length<=sizeLine/\Q σ (upd H3 l<|.lst<|xs.take a.toNat++ys++xs.drop c.toNat)
mutual
def di(Γ:bj):RS->TS
 |.asg i e=>jC (ae Γ e) (fg i)
 |.v3 i e=>jC (ae Γ e) (fg i)
 |.set o ix e=>jC (ae Γ e) (Eh (ae Γ o) (ae Γ ix) zA)
 |.dput o i e=>Fp (ae Γ o) (ae Γ i) (ae Γ e)
 |.drop e=>D_ (ae Γ e)
 |.ret e=>Ea (ae Γ e)
 |.SO=>OU
 |.ite c t e=>Eb (bg Γ c) (aE Γ t) (aE Γ e)
 |.iy i k ao body=>vq (iS Γ k ao) (fg i) (aE Γ body)
 |.qW is k ao body=>vq (iS Γ k ao) (o9 Γ.K is.length<|m8 is) (aE Γ body)
 |.kA c body=>Ej (bg Γ c) (aE Γ body)
 |.pass=>y8
 |.brk=>OQ
 |.cont=>D9
 |.never=>OW
 |.SQ o lo hi e=>jC (ae Γ e) (UC (ae Γ o) (qN<|ae Γ lo)<|qN<|ae Γ hi)
 |.dR o f e=>vC Γ.K (ae Γ o) (ae Γ e) f
 |.tE is e=>jC (ae Γ e) (o9 Γ.K is.length<|m8 is)
 |.iz j as=>z9 (Γ.ex j) Γ.E (aS Γ as)
 |.SR n i j body su=>fun D σ H=>∃C,Γ.gv j=.ref C/\Sy Γ.K C i n (fun E=>aE {Γ with E:=E} body) (fun ea=>aE {Γ with E:=E0,hv:=some ea} su) D σ H
 |.SS k i j f as su=>fun D σ H=>∃C,Γ.gv j=.ref C/\SD Γ.K C i k (Γ.fs f) (aS {Γ with E:=E0} as) (fun ea=>aE {Γ with E:=E0,hv:=some ea} su) D σ H
 |.xs T=>T Γ
def aE(Γ:bj):List RS->TS
 |[]=>y8
 |s::r=>D8 (di Γ s) (aE Γ r)
end
def tM:Expr->Bool
 |.Slice ..=>false|_=>true
def tN:Expr->Bool
 |.ListComp ..=>false|.SetComp ..=>false|.DictComp ..=>false|_=>true
def GJ(sc:Scope)(x:Str)(line:Nat)(s:Scope)(p:Pos):Bool:=
 decide (sc.kind=.function) && decide (sc.names.lookup x=some .local) && (line==p.line) && !(s.names.any fun(n,k)=>n==x && (k==.local ||k==.cell))
def o_(N:List Str)(sc:Scope):List Nat->List Str->Bool
 |[],xs=>xs.isEmpty
 |i::r,xs=>match xs with
  |[]=>false
  |x::t=>decide (N[i]?=some x) && loc sc x && o_ N sc r t
structure fW (CX:bZ) (S:c5) (Γ:bj) (X:Cx):Prop extends Good CX S Γ X where
 nd:S.N.Nodup
 wk:∀x,X.fn x=true
 own:PassesOwn (model X.prog X.w) X.A X.env X.xe
 GK:X.env.scope.kind=.function
 rs:∀(j:Nat) (x:Str),S.en[j]?=some x->Raises X Γ.E
 sI:X.stack=X.env::X.outer
 o7:X.env.frame=some X.env.locals
 UD:X.ex=[]
 UE:CX=g6 X.prog X.w
def qV(S:c5)(i:Nat)(x:Str):Bool:=decide (S.N[i]?=some x) && vis S.sc x && !(x==("__debug__":Str)) && !(x==("__classdict__":Str))
def kG(S:c5)(j:Nat)(x:Str):Bool:=decide (S.gn[j]?=some x) && m6 S.sc x && !(x==("__debug__":Str))
def kF(S:c5)(j:Nat)(x:Str):Bool:=decide (S.fn[j]?=some x) && m6 S.sc x && !(x==("__debug__":Str))
def kK(S:c5)(j:Nat)(x:Str):Bool:=decide (S.kn[j]?=some x) && m6 S.sc x && !(x==("__debug__":Str))
def kB(S:c5)(x y:Str):Bool:=decide (x=y) && m6 S.sc x && S.bl.contains x
def kM(o:Expr)(m:Str)(x:Str)(n:Nat)(a c:Pos):Bool:=decide (x=m) && m7 o && (a.endLine==c.line) && decide (n<29)
def kL(S:c5)(i:Nat)(x:Str):Bool:=decide (S.N[i]?=some x) && loc S.sc x
section
variable {CX:bZ}{S:c5}{Γ:bj}{X:Cx}{e e2 a b c d:Expr}{es:List Expr}{x:Str}{p q pos:Pos}{r ra rb rc:RE}{rs:List RE}{i j:Nat}
theorem aa(G:Good CX S Γ X)(h:qV S i x=true:=by kernel_rfl):PE X (.Name x p) (ae Γ<|.v i):=by
 simp only[qV,zag,decide_eq_true_eq,zaW] at h
 exact OB (by rw[G.N];exact h.1.1.1) (by rw[G.sc];exact Td h.1.1.2) h.1.2 h.2
theorem aB{v:Int}{k:Nat}:PE X (.Constant (.int v) k p) (ae Γ<|.c<|.int v):=OC
theorem aI{v:Str}{k:Nat}:PE X (.Constant (.str v) k p) (ae Γ<|.c<|.str v):=OF
theorem fX{v:Bool}{k:Nat}:PE X (.Constant (.bool v) k p) (ae Γ<|.c<|.bl v):=OD
theorem q9{k:Nat}:PE X (.Constant .none k p) (ae Γ<|.c .aC):=OE
theorem GN(G:Good CX S Γ X)(h:kG S j x=true:=by kernel_rfl):PE X (.Name x p) (ae Γ<|.g j):=by
 simp only[kG,zag,decide_eq_true_eq,zaW] at h
 obtain⟨u,hm,r⟩:=G.gw j x h.1.1;exact D2 (G.gl h.1.2) hm r h.2
theorem bE{op:Operator}(G:Good CX S Γ X)(ha:PE X a (ae Γ ra))(hb:PE X b (ae Γ rb)):PE X (.BinOp a op b p) (ae Γ<|.bin op ra rb):=by
 show PE X _ (eV (mZ Γ.K op) (ae Γ ra)<|ae Γ rb);rw[<-G.K];exact Et (R9 op) ha hb
theorem lZ(ha:PE X a (ae Γ ra)):PE X (.UnaryOp .USub a p) (ae Γ<|.neg ra):=O_ Uv ha
theorem fY{op:CmpOp}(G:Good CX S Γ X)(ha:PE X a (ae Γ ra))(hb:PE X b (ae Γ rb))(hm:behindInMarks op b=false:=by kernel_rfl):PE X (.Compare a [op] [b] p) (ae Γ<|.cmp op ra rb):=by
 show PE X _ (eV (c9 Γ.K op) (ae Γ ra)<|ae Γ rb);rw[<-G.K];exact Py (vY G.units op) ha hb hm
theorem UG{op fP:CmpOp}(G:Good CX S Γ X)(ha:PE X a (ae Γ ra))(hb:PE X b (ae Γ rb))(hc:PE X c (ae Γ rc))(hm:lastMarks [op,fP] [b,c]=false:=by kernel_rfl):PE X (.Compare a [op,fP] [b,c] p) (ae Γ<|.tD op fP ra rb rc):=by
 show PE X _ (vz (c9 Γ.K op) (c9 Γ.K fP) (ae Γ ra) (ae Γ rb)<|ae Γ rc);rw[<-G.K];exact PB (vY G.units op) (vY G.units fP) ha hb hc hm
theorem iA(h:PE X e (ae Γ r)):PE X (.BoolOp .And [e] p) (ae Γ<|.and [r]):=OK h
theorem gy{r2:RE}(h:PE X e (ae Γ r))(t:PE X (.BoolOp .And (e2::es) p) (ae Γ<|.and (r2::rs))):PE X (.BoolOp .And (e::e2::es) p) (ae Γ<|.and (r::r2::rs)):=OL h t
theorem AD(G:Good CX S Γ X)(ha:PE X a (ae Γ ra)):PE X (.UnaryOp .Not a p) (ae Γ<|.not ra):=by
 show PE X _ (Aa Γ.K<|ae Γ ra);rw[<-G.K];exact Uw ha
theorem m9(hc:PT X c (bg Γ rc))(ha:PE X a (ae Γ ra))(hb:PE X b (ae Γ rb)):PE X (.IfExp c a b p) (ae Γ<|.gY rc ra rb):=OM hc ha hb
theorem ak:PA X [] (aS Γ []):=vD
theorem ah(h:PE X e (ae Γ r))(t:PA X es (aS Γ rs))(hs:noStar e=true:=by kernel_rfl):PA X (e::es) (aS Γ (r::rs)):=qL h t (dr hs)
theorem aU(G:Good CX S Γ X)(hA:PA X (e::es) (aS Γ (r::rs)))(h:kF S j x=true:=by kernel_rfl)(hn:fA (e::es)=true:=by kernel_rfl)(hq:S.md=0:=by rfl):PE X (.Call (.Name x p) (e::es) [] pos) (ae Γ<|.call j (r::rs)):=by
 simp only[kF,zag,decide_eq_true_eq,zaW] at h
 obtain⟨k,f,fd,ps,F,hr,hm,hk,hb⟩:=G.fns hq j x h.1.1;exact P_ F hr (G.gl h.1.2) hm hk hb .nil G.pass hA h.2 (dr (dt hn).1)<|kJ _ _ es (dt hn).2
theorem wm(G:Good CX S Γ X)(hA:PA X (e::es) (aS Γ (r::rs)))(h:kK S j x=true:=by kernel_rfl)(hn:fA (e::es)=true:=by kernel_rfl)(hq:S.md=0:=by rfl):PE X (.Call (.Name x p) (e::es) [] pos) (ae Γ<|.make j (r::rs)):=by
 simp only[kK,zag,decide_eq_true_eq,zaW] at h
 obtain⟨k,f,fd,ps,M,F,hr,hm,hb⟩:=G.we hq j x h.1.1;exact Qc M F hr (G.gl h.1.2) hm hb .nil G.pass hA h.2 (dr (dt hn).1)<|kJ _ _ es (dt hn).2
theorem cG{t:lW}(G:Good CX S Γ X)(hA:PA X (e::es) (aS Γ (r::rs)))(h:kB S x t.nm=true:=by kernel_rfl)(hn:fA (e::es)=true:=by kernel_rfl)(hq:S.md=0:=by rfl):PE X (.Call (.Name x p) (e::es) [] pos) (ae Γ<|.blt t (r::rs)):=by
 simp only[kB,zag,decide_eq_true_eq] at h
 obtain⟨⟨rfl,h2⟩,h3⟩:=h;have n1:t.nm≠"__name__":=by cases t<;>decide
 have n2:(t.nm==("__debug__":Str))=false:=by cases t<;>decide
 show PE X _ (dQ (kE Γ.K t)<|aS Γ (r::rs));rw[<-G.K];cases Ud (X:=X) (G.calm hq) t with
 |fn id hv hc=>exact EV hc (G.gl h2) (G.fV _ h3) hv hA n1 n2 (dr (dt hn).1) (kJ _ _ es (dt hn).2)
 |ty T hv hc=>exact Qi hc (G.gl h2) (G.fV _ h3) hv hA n1 n2 (dr (dt hn).1) (kJ _ _ es (dt hn).2)
theorem jN{T:Ty}{y:Str}(G:Good CX S Γ X)(ha:PE X a (ae Γ ra))(h:kB S x "isinstance"=true:=by kernel_rfl)(h2:kB S y (Str.ofString T.nm)=true:=by kernel_rfl)(hs:noStar a=true:=by kernel_rfl):PE X (.Call (.Name x p) [a,.Name y q] [] pos) (ae Γ<|.eK T ra):=by
 simp only[kB,zag,decide_eq_true_eq] at h h2
 obtain⟨⟨rfl,g2⟩,g3⟩:=h;obtain⟨⟨rfl,k2⟩,k3⟩:=h2;exact Uq ha hs (G.gl g2) (G.fV _ g3) (G.gl k2)<|G.fV _ k3
theorem wo{m:iu}{o:Expr}{ro:RE}{ap:Pos}(G:Good CX S Γ X)(ho:PE X o (ae Γ ro))(h:kM o m.nm x 0 ap pos=true:=by kernel_rfl):PE X (.Call (.Attribute o x ap) [] [] pos) (ae Γ<|.bI m ro []):=by
 simp only[kM,zag,decide_eq_true_eq] at h
 obtain⟨⟨⟨rfl,h2⟩,h3⟩, -⟩:=h;show PE X _ (qX Γ.K m (ae Γ ro) ja);rw[<-G.K];exact Uy ho h2 h3
theorem c_{m:iu}{o:Expr}{ro:RE}{ap:Pos}(G:Good CX S Γ X)(ho:PE X o (ae Γ ro))(hA:PA X (e::es) (aS Γ (r::rs)))(h:kM o m.nm x (es.length+1) ap pos=true:=by kernel_rfl)(hn:fA (e::es)=true:=by kernel_rfl):PE X (.Call (.Attribute o x ap) (e::es) [] pos) (ae Γ<|.bI m ro (r::rs)):=by
 simp only[kM,zag,decide_eq_true_eq] at h
 obtain⟨⟨⟨rfl,h2⟩,h3⟩,h4⟩:=h;show PE X _ (qX Γ.K m (ae Γ ro)<|aS Γ (r::rs));rw[<-G.K];exact Ux ho hA h2 h3 h4 (dr (dt hn).1) (kJ _ _ es (dt hn).2)<|Ay _ _ (e::es) hn
theorem bA{f:Str}{ro:RE}(G:Good CX S Γ X)(ho:PE X a (ae Γ ro))(h:m7 a=true:=by kernel_rfl):PE X (.Attribute a f p) (ae Γ<|.fld ro f):=by
 show PE X _ (vB Γ.K (ae Γ ro) f);rw[<-G.K];exact P5 ho<|oP h
theorem dJ{m:Str}{o:Expr}{ro:RE}{ap:Pos}(G:Good CX S Γ X)(ho:PE X o (ae Γ ro))(h:(kM o m m 0 ap pos && decide (S.mn[j]?=some m))=true:=by kernel_rfl)(hq:S.md=0:=by rfl):PE X (.Call (.Attribute o m ap) [] [] pos) (ae Γ<|.aM j m ro []):=by
 simp only[kM,zag,decide_eq_true_eq] at h
 obtain⟨⟨⟨⟨-,h2⟩,h3⟩, -⟩,h5⟩:=h;exact UB (G.tK hq j _ h5) G.pass ho h2 h3
theorem cJ{m:Str}{o:Expr}{ro:RE}{ap:Pos}(G:Good CX S Γ X)(ho:PE X o (ae Γ ro))(hA:PA X (e::es) (aS Γ (r::rs)))(h:(kM o m m (es.length+1) ap pos && decide (S.mn[j]?=some m))=true:=by kernel_rfl)(hn:fA (e::es)=true:=by kernel_rfl)(hq:S.md=0:=by rfl):PE X (.Call (.Attribute o m ap) (e::es) [] pos) (ae Γ<|.aM j m ro (r::rs)):=by
 simp only[kM,zag,decide_eq_true_eq] at h
 obtain⟨⟨⟨⟨-,h2⟩,h3⟩,h4⟩,h5⟩:=h;exact UA (G.tK hq j _ h5) G.pass ho hA h2 h3 h4 (dr (dt hn).1) (kJ _ _ es (dt hn).2)<|Ay _ _ (e::es) hn
theorem UH(h:tM b=true):E3 b:=fun o i=>by cases b<;>first|rfl|cases h
theorem aN(G:Good CX S Γ X)(ha:PE X a (ae Γ ra))(hb:PE X b (ae Γ rb))(h:tM b=true:=by kernel_rfl):PE X (.Subscript a b p) (ae Γ<|.ix ra rb):=by
 show PE X _ (eV (m4 Γ.K Γ.sd) (ae Γ ra)<|ae Γ rb);rw[<-G.K];exact Qm (Uj G.wd) ha hb<|UH h
theorem UI(h:tM b=true):zQ b:=fun ov iv=>by cases b<;>first|rfl|cases h
theorem pb(G:Good CX S Γ X)(ha:PE X a (ae Γ ra))(hb:PE X b (ae Γ rb))(h:tM b=true:=by kernel_rfl):PE X (.Subscript a b p) (ae Γ<|.iR ra rb):=
 Rh (by have:=G.units;lia) ha hb (UI h)
theorem UJ(G:Good CX S Γ X)(ha:PE X a (ae Γ ra))(hb:PE X b (ae Γ rb))(hm:behindInMarks .In b=false:=by kernel_rfl):PT X (.Compare a [.In] [b] p) (bg Γ<|.qU ra rb):=
 OH (Ri (by have:=G.units;lia) ha hb) hm
theorem kN{lo hi:Option Expr}{rl rh:Option RE}(G:Good CX S Γ X)(ha:PE X a (ae Γ ra))(hl:PO X lo (m5 Γ rl))(hh:PO X hi (m5 Γ rh)):PE X (.Subscript a (.Slice lo hi none q) p) (ae Γ<|.sl ra rl rh):=by
 show PE X _ (zv (oY Γ.K) (ae Γ ra) (m5 Γ rl)<|m5 Γ rh);rw[<-G.K];exact Qk Ut ha hl hh
theorem q_:PO X none (m5 Γ none):=EY
theorem iB(ha:PE X a (ae Γ ra)):PO X (some a) (m5 Γ<|some ra):=zt ha
theorem e9{k}(hA:PA X es (aS Γ rs)):PE X (.Tuple es k p) (ae Γ<|.tup rs):=P8 hA
theorem cx(hA:PA X es (aS Γ rs)):PE X (.List es p) (ae Γ<|.lst rs):=P9 hA
def wq(CX:bZ)(S:c5)(Γ:bj)(cond:Option RE)(ifs:List Expr):Prop:=match cond with
 |none=>ifs=[]
 |some r=>∃e0,ifs=[e0]/\∀X,Good CX S Γ X->PT X e0 (bg Γ r)
theorem wt:wq CX S Γ none []:=rfl
theorem AE(h:∀X,Good CX S Γ X->PT X e (bg Γ r)):wq CX S Γ (some r) [e]:=⟨e,rfl,h⟩
def kC(S:c5)(tk:Option Nat)(tg iter:Expr)(sc:Scope)(k:IK)(ln:List Str)(fv:List (Str×Nat)):Bool:=decide (Af tk tg=some ln) && (decide (k≠ .zip)||tk.isSome) && Ag S ⟨.Constant .none 0 ⟨0,0,0,0⟩,tg,iter,[],sc⟩ ln fv
abbrev cS(S:c5)(sc:Scope)(ln:List Str)(fv:List (Str×Nat)):c5:={S with N:=ln++fv.map (·.1),sc:=Ae sc S.sc,en:=[],md:=if S.md=0 then 0 else 2}
theorem rf{tk:Option Nat}{fv:List (Str×Nat)}{k:IK}{ao:List RE}{cond:Option RE}{elt:RE}{el tg iter:Expr}{ifs:List Expr}{sc:Scope}{ln:List Str}(G:Good CX S Γ X)(h:kC S tk tg iter sc k ln fv=true)(hi:PI X tg iter (iS Γ k ao))
  (hc:wq CX (cS S sc ln fv) Γ.calm cond ifs) (he:∀X,Good CX (cS S sc ln fv) Γ.calm X->PE X el (ae Γ.calm elt)) (hq:S.md=0:=by rfl):PE X (.ListComp el [⟨tg,iter,ifs,0⟩] sc p) (ae Γ<|.comp tk fv k ao cond elt):=by
 simp only[kC,zag,decide_eq_true_eq] at h
 obtain⟨⟨h1,h2⟩,h3⟩:=h;obtain⟨o1,o2,o3,o4⟩:=Gy (c:=⟨.Constant .none 0 ⟨0,0,0,0⟩,tg,iter,[],sc⟩) G h3;show PE X _ (oU Γ.K (iS Γ k ao) tk fv (Ac Γ.calm cond)<|ae Γ.calm elt);rw[<-G.K];refine RV o1 (G.calm hq) hi (Gz (c:=⟨.Constant .none 0 ⟨0,0,0,0⟩,tg,iter,[],sc⟩) (G.calm hq) h1 o2 o3) ?_ (fun ex C s H=>he _<|G.inner ⟨.Constant .none 0 ⟨0,0,0,0⟩,tg,iter,[],sc⟩ ln fv ex C s H)<|wj o4;cases cond with
 |none=>exact hc
 |some r=>
  obtain⟨e0,q,hq⟩:=hc;exact⟨e0,q,fun ex C s H=>hq _<|G.inner ⟨.Constant .none 0 ⟨0,0,0,0⟩,tg,iter,[],sc⟩ ln fv ex C s H⟩
theorem gz(h:PT X a (bg Γ ra)):PT X (.UnaryOp .Not a p) (bg Γ<|.not ra):=OI h
theorem rg(h:PT X e (bg Γ r)):PW X (.BoolOp .And [e] p) (bg Γ<|.and [r]):=pw_and1 h
theorem pd{r2:RE}(h:PT X e (bg Γ r))(t:PW X (.BoolOp .And (e2::es) p) (bg Γ<|.and (r2::rs))):PW X (.BoolOp .And (e::e2::es) p) (bg Γ<|.and (r::r2::rs)):=pw_and h t
theorem jO(h:PT X e (bg Γ r)):PW X (.BoolOp .Or [e] p) (bg Γ<|.or [r]):=pw_or1 h
theorem jg{r2:RE}(h:PT X e (bg Γ r))(t:PW X (.BoolOp .Or (e2::es) p) (bg Γ<|.or (r2::rs))):PW X (.BoolOp .Or (e::e2::es) p) (bg Γ<|.or (r::r2::rs)):=pw_or h t
theorem aR{op:CmpOp}(G:Good CX S Γ X)(ha:PE X a (ae Γ ra))(hb:PE X b (ae Γ rb))(hm:behindInMarks op b=false:=by kernel_rfl):PT X (.Compare a [op] [b] p) (bg Γ<|.cmp op ra rb):=by
 show PT X _ (qK<|eV (c9 Γ.K op) (ae Γ ra)<|ae Γ rb);rw[<-G.K];exact Pz (vY G.units op) ha hb hm
theorem iU(G:Good CX S Γ X)(h:PE X (.Call a es [] p) (ae Γ<|.call j rs)):PT X (.Call a es [] p) (bg Γ<|.call j rs):=by
 show PT X _ (gZ Γ.K<|ae Γ<|.call j rs);rw[<-G.K];exact GG h fun _=>rfl
theorem wu{T:Ty}(G:Good CX S Γ X)(h:PE X (.Call a es [] p) (ae Γ<|.eK T ra)):PT X (.Call a es [] p) (bg Γ<|.eK T ra):=by
 show PT X _ (gZ Γ.K<|ae Γ<|.eK T ra);rw[<-G.K];exact GG h fun _=>rfl
theorem iC{tg:Expr}(G:Good CX S Γ X)(ha:PE X a (ae Γ ra)):PI X tg a (iS Γ .list [ra]):=by
 show PI X tg a (zc Γ.K<|ae Γ ra);rw[<-G.K];exact O4 ha
theorem AF{tg:Expr}(G:Good CX S Γ X)(ha:PE X a (ae Γ ra))(h:kB S x "range"=true:=by kernel_rfl)(hs:noStar a=true:=by kernel_rfl):PI X tg (.Call (.Name x p) [a] [] pos) (iS Γ .gP [ra]):=by
 simp only[kB,zag,decide_eq_true_eq] at h
 obtain⟨⟨rfl,h2⟩,h3⟩:=h;exact O7 (G.gl h2) (G.fV _ h3) (qL ha vD<|dr hs)<|dr hs
theorem UK{ts:List Expr}{k}{tp:Pos}(G:Good CX S Γ X)(ha:PE X a (ae Γ ra))(hb:PE X b (ae Γ rb))(h:kB S x "zip"=true:=by kernel_rfl)(hn:fA [a,b]=true:=by kernel_rfl):PI X (.Tuple ts k tp) (.Call (.Name x p) [a,b] [] pos) (iS Γ .zip [ra,rb]):=by
 simp only[kB,zag,decide_eq_true_eq] at h
 obtain⟨⟨rfl,h2⟩,h3⟩:=h;show PI X _ _ (Ab Γ.K<|dP (ae Γ ra)<|aS Γ [rb]);rw[<-G.K];exact Tn (G.gl h2) (G.fV _ h3) (qL ha (qL hb vD<|dr (dt (dt hn).2).1)<|dr (dt hn).1) (dr (dt hn).1)<|kJ _ _ _ (dt hn).2
end
section
variable {CX:bZ}{S:c5}{Γ:bj}{X:Cx}{e a b c v:Expr}{es:List Expr}{x:Str}{p q pos:Pos}{r ra rb rc:RE}{i j:Nat}{st:Stmt}{GO:List Stmt}{s:RS}{ss t u:List RS}
theorem wx{v:Expr}{t:Option Expr}{l:Nat}{env:Env}(h:tN v=true):swapsWith v t l env=pure false:=by
 cases v<;>first|rfl|cases h
theorem UL{v:Expr}{x:Str}{p:Pos}{l:Nat}{env:Env}(h:env.kindOf x=some .cell):swapsWith v (some<|.Name x p) l env=pure false:=by
 cases v<;>first
  |rfl
  |(unfold swapsWith;simp only[h];have q:(some NameKind.cell==some NameKind.local)=false:=rfl;simp only[q,Bool.and_false,zbF])
theorem GP{v o i:Expr}{p:Pos}{l:Nat}{env:Env}:swapsWith v (some<|.Subscript o i p) l env=pure false:=by
 cases v<;>rfl
theorem UM{v o i:Expr}{p:Pos}{env:Env}:swappedStores [.Subscript o i p] v env=pure none:=by
 cases v<;>rfl
theorem fW.name(G:fW CX S Γ X)(h:kL S i x=true):PG X (.Name x p) (fg i):=by
 simp only[kL,zag,decide_eq_true_eq] at h
 exact vo (by rw[G.N];exact G.nd) (by rw[G.N];exact h.1) (by rw[G.sc];exact Ad h.2)<|.inl<|G.wk x
theorem aq:eU X [] (aE Γ []):=OO
theorem aj(h:PS X st (di Γ s))(t:eU X GO (aE Γ ss)):eU X (st::GO) (aE Γ (s::ss)):=OP h t
theorem aY(G:fW CX S Γ X)(he:PE X v (ae Γ r))(h:kL S i x=true:=by kernel_rfl)(hc:(tN v ||decide (S.sc.names.lookup x=some .cell))=true:=by kernel_rfl):PS X (.Assign [.Name x p] v q) (di Γ<|.asg i r):=by
 simp only[kL,zag,decide_eq_true_eq,zbN] at h hc
 refine OY (by rw[G.N];exact G.nd) (by rw[G.N];exact h.1) (by rw[G.sc];exact Ad h.2) he ?_<|.inl<|G.wk x
 rcases hc with h4|h4
 ·exact wx h4
 ·exact UL (by show X.env.scope.names.lookup x=_;rw[G.sc];exact h4)
theorem UN{tk:Option Nat}{fv:List (Str×Nat)}{k:IK}{ao:List RE}{cond:Option RE}{elt:RE}{el tg iter:Expr}{ifs:List Expr}{sc:Scope}{ln:List Str}{pc:Pos}(G:fW CX S Γ X)(h0:kL S i x=true)(hs:GJ S.sc x p.line sc pc=true)(h:kC S tk tg iter sc k ln fv=true)(hi:PI X tg iter (iS Γ k ao))
  (hc:wq CX (cS S sc ln fv) Γ.calm cond ifs) (he:∀X,Good CX (cS S sc ln fv) Γ.calm X->PE X el (ae Γ.calm elt)) (hq:S.md=0:=by rfl):PS X (.Assign [.Name x p] (.ListComp el [⟨tg,iter,ifs,0⟩] sc pc) q) (di Γ<|.v3 i<|.comp tk fv k ao cond elt):=by
 simp only[kC,kL,GJ,zag,decide_eq_true_eq,beq_iff_eq,zaW] at h h0 hs
 obtain⟨⟨h1,h2⟩,h3⟩:=h;obtain⟨o1,o2,o3,o4⟩:=Gy (c:=⟨.Constant .none 0 ⟨0,0,0,0⟩,tg,iter,[],sc⟩) G.toGood h3;show PS X _ (jC (oU Γ.K (iS Γ k ao) tk fv (Ac Γ.calm cond)<|ae Γ.calm elt)<|fg i);rw[<-G.K];refine RW (by rw[G.N];exact G.nd) (by rw[G.N];exact h0.1) (by rw[G.sc];exact Ad h0.2) ?_ o1 (G.calm hq) hi (Gz (c:=⟨.Constant .none 0 ⟨0,0,0,0⟩,tg,iter,[],sc⟩) (G.calm hq) h1 o2 o3) ?_ (fun ex C s H=>he _<|G.toGood.inner ⟨.Constant .none 0 ⟨0,0,0,0⟩,tg,iter,[],sc⟩ ln fv ex C s H) (wj o4)<|.inl<|G.wk x
 ·have e1:X.env.kindOf x=some .local:=by show X.env.scope.names.lookup x=_;rw[G.sc];exact hs.1.1.2
  have e2:X.env.blockKind=.function:=by unfold Env.blockKind;rw[G.GK];rfl
  unfold swapsWith
  simp only[e1,e2,hs.1.2,hs.2]
  show pure (true && true && (pc.line==pc.line) && !false)=pure true;rw[beq_self_eq_true];rfl
 ·cases cond with
  |none=>exact hc
  |some r=>
   obtain⟨e0,q,hq⟩:=hc;exact⟨e0,q,fun ex C s H=>hq _<|G.toGood.inner ⟨.Constant .none 0 ⟨0,0,0,0⟩,tg,iter,[],sc⟩ ln fv ex C s H⟩
theorem AG(he:PE X v (ae Γ r))(ha:PE X a (ae Γ ra))(hb:PE X b (ae Γ rb))(h:tM b=true:=by kernel_rfl):PS X (.Assign [.Subscript a b p] v q) (di Γ<|.set ra rb r):=
 Ei he (OX ha hb set_list (by intro w;cases b<;>first|rfl|cases h)) (by exact GP (o:=a) (i:=b) (p:=p) (l:=q.line) (env:=X.env)) UM rfl
theorem wy(G:fW CX S Γ X)(he:PE X v (ae Γ r))(ha:PE X a (ae Γ ra))(hb:PE X b (ae Γ rb)):PS X (.Assign [.Subscript a b p] v q) (di Γ<|.dput ra rb r):=
 Rj (by have:=G.toGood.units;lia) ha hb he (by exact GP (o:=a) (i:=b) (p:=p) (l:=q.line) (env:=X.env))
theorem g7{f:Str}(G:fW CX S Γ X)(ho:PE X a (ae Γ ra))(he:PE X v (ae Γ r))(h:tN v=true:=by kernel_rfl):PS X (.Assign [.Attribute a f p] v q) (di Γ<|.dR ra f r):=by
 show PS X _ (vC Γ.K (ae Γ ra) (ae Γ r) f);rw[<-G.K];exact EI ho he<|wx h
theorem bO(he:PE X v (ae Γ r))(h:tN v=true:=by kernel_rfl):PS X (.Expr v p) (di Γ<|.drop r):=OS he (wx h)
theorem a_(he:PE X v (ae Γ r)):PS X (.Return (some v) p) (di Γ<|.ret r):=OT he
theorem bq{as bs:List Stmt}(hc:PT X c (bg Γ rc))(ha:eU X as (aE Γ t))(hb:eU X bs (aE Γ u)):PS X (.If c as bs p) (di Γ<|.ite rc t u):=OV hc ha hb
theorem pf{as:List Stmt}(G:fW CX S Γ X)(hc:PT X c (bg Γ rc))(ha:eU X as (aE Γ t)):PS X (.While c as [] p) (di Γ<|.kA rc t):=OZ G.own hc ha
theorem m_{k:IK}{ao:List RE}{iter:Expr}{as:List Stmt}(G:fW CX S Γ X)(hi:PI X (.Name x p) iter (iS Γ k ao))(ha:eU X as (aE Γ t))(h:kL S i x=true:=by kernel_rfl)(hs:tJ iter=true:=by kernel_rfl)(hq:S.md=0:=by rfl):PS X (.For (.Name x p) iter as [] q) (di Γ<|.iy i k ao t):=
 En G.own (G.calm hq) hi (G.name h) ha (wj hs)
theorem AH(G:fW CX S Γ X):∀(is:List Nat) (xs:List (Str×Pos)),o_ S.N S.sc is (xs.map (·.1))=true->
  qI X (xs.map fun y=>.Name y.1 y.2) (m8 is)/\(assignEach (xs.map fun y=>Expr.Name y.1 y.2) X.env).length=is.length/\(assignEach (xs.map fun y=>Expr.Name y.1 y.2) X.env).findIdx? (·.1)=none
 |[],xs,h=>by
  simp only[o_,List.isEmpty_iff,List.map_eq_nil_iff] at h
  subst h;exact⟨Ee,rfl,rfl⟩
 |i::r,[],h=>by simp only[zaY,o_] at h;cases h
 |i::r,y::t,h=>by
  simp only[zar,o_,zag] at h
  obtain⟨i1,i2,i3⟩:=AH G r t h.2;refine⟨za (G.name (by simp only[kL,zag];exact h.1)) i1 rfl,?_,?_⟩
  ·show(assignEach _ X.env).length+1=r.length+1;rw[i2]
  ·show List.findIdx? (·.1) ((false,assign (.Name y.1 y.2) X.env)::assignEach _ X.env)=none;rw[List.findIdx?_cons,i3];rfl
theorem AI{is:List Nat}{k:IK}{ao:List RE}{iter:Expr}{as:List Stmt}{kt}{tp:Pos}(xs:List (Str×Pos))(G:fW CX S Γ X)(hi:PI X (.Tuple (xs.map fun y=>.Name y.1 y.2) kt tp) iter (iS Γ k ao))(ha:eU X as (aE Γ t))(h:o_ S.N S.sc is (xs.map (·.1))=true:=by kernel_rfl)(hs:tJ iter=true:=by kernel_rfl)(hq:S.md=0:=by rfl):
  PS X (.For (.Tuple (xs.map fun y=>.Name y.1 y.2) kt tp) iter as [] q) (di Γ<|.qW is k ao t):=by
 obtain⟨i1,i2,i3⟩:=AH G is xs h;show PS X _ (vq (iS Γ k ao) (o9 Γ.K is.length<|m8 is)<|aE Γ t);rw[<-G.K];exact En G.own (G.calm hq) hi (GI (G.calm hq) i1 i2 i3) ha<|wj hs
def UO:Expr->Bool
 |.Tuple ..=>false|_=>true
theorem UP{is:List Nat}{kt}{tp:Pos}(xs:List (Str×Pos))(G:fW CX S Γ X)(he:PE X v (ae Γ r))(h:o_ S.N S.sc is (xs.map (·.1))=true:=by kernel_rfl)(hc:(tN v && UO v)=true:=by kernel_rfl)(hq:S.md=0:=by rfl):
  PS X (.Assign [.Tuple (xs.map fun y=>.Name y.1 y.2) kt tp] v q) (di Γ<|.tE is r):=by
 simp only[zag] at hc
 obtain⟨i1,i2,i3⟩:=AH G is xs h;show PS X _ (jC (ae Γ r)<|o9 Γ.K is.length<|m8 is);rw[<-G.K];refine Ei he (GI (G.calm hq) i1 i2 i3) (by show swapsWith v (some<|.Tuple (xs.map fun y=>Expr.Name y.1 y.2) kt tp) q.line X.env=pure false;exact wx hc.1) ?_ rfl
 have h2:=hc.2;cases v<;>first|rfl|cases h2
def kX(S:c5)(j:Nat)(x:Str):Bool:=decide (S.en[j]?=some x) && m6 S.sc x && !(x==("__debug__":Str))
theorem jh{rs:List RE}{np dE:Pos}(G:fW CX S Γ X)(hA:PA X (e::es) (aS Γ (r::rs)))(h:kX S j x=true:=by kernel_rfl)(hn:fA (e::es)=true:=by kernel_rfl)(hq:S.md=0:=by rfl):PS X (.Raise (some<|.Call (.Name x np) (e::es) [] dE) none pos) (di Γ<|.iz j (r::rs)):=by
 simp only[kX,zag,decide_eq_true_eq,zaW] at h
 obtain⟨bm,B,newId,qZ,O,FB⟩:=G.Av j x h.1.1;exact TJ (G.calm hq) O FB (G.gl h.1.2) h.2 hA (dr (dt hn).1) (kJ _ _ es (dt hn).2)<|G.rs j x h.1.1
theorem GQ:PS X (.Continue p) (di Γ .cont):=OR
end
section
variable {P:Program}{w:World}{K:Frag}{mg:Str->Option Value}{base:Heap}
def kO(P:Program)(w:World)(K:Frag)(mg:Str->Option Value)(base:Heap)(k:Nat)(x:Str)(sp:Sp):Prop:=
 ∃f fd ps,cE P w K mg base (g6 P w) k f fd ps sp/\mg x=some (.ref f)/\PySem.W.keepIn K (.ref f)=true/\Binds K fd ps []
theorem kO.mono{j k:Nat}{x:Str}{sp:Sp}(h:kO P w K mg base j x sp)(hk:j<=k):kO P w K mg base k x sp:=by
 obtain⟨f,fd,ps,F,r⟩:=h;exact⟨f,fd,ps,F.mono hk,r⟩
def ng(tab:List (Str×Sp))(j:Nat):Sp:=match tab[j]? with
 |some p=>p.2
 |none=>fun _ _ _ _=>False
def wz(tab:List (Str×V))(j:Nat):V:=match tab[j]? with
 |some p=>p.2
 |none=>.aC
structure AJ (mg:Str->Option Value) (p:Str×V):Prop where
 ex:∃u,mg p.1=some u/\RelV p.2 u
def kP(tab:List (Str×Addr×Sp))(j:Nat):Addr×Sp:=match tab[j]? with
 |some p=>p.2
 |none=>(0,fun _ _ _ _=>False)
def wA(tab:List (Str×Addr))(j:Nat):Addr:=match tab[j]? with
 |some p=>p.2
 |none=>0
abbrev aO(K:Frag)(tab:List (Str×Sp))(gt:List (Str×V))(dk:List (Addr×List (Key×V)):=[])(mt kt:List (Str×Addr×Sp):=[])(et:List (Str×Addr):=[])(ht:List (Str×Sp):=[])(E:XK:=E0):bj:=
 {K:=K,fs:=ng tab,gv:=wz gt,E:=E,sd:=fun p kvs=>(p,kvs)∈dk,ms:=kP mt,kt:=kP kt,ex:=wA et,hs:=ng ht,hv:=none}
def gA(P:Program)(w:World)(K:Frag)(mg:Str->Option Value)(base:Heap)(k:Nat)(p:Str×Addr×Sp):Prop:=
 fh K p.2.1/\∃f fd ps,Meth K p.2.1 p.1 f/\cE P w K mg base (g6 P w) k f fd ps p.2.2/\Binds K fd ps []
def ph(P:Program)(w:World)(K:Frag)(mg:Str->Option Value)(base:Heap)(k:Nat)(p:Str×Addr×Sp):Prop:=
 ∃j f fd ps,j+1<=k/\Mk K p.2.1 f/\cE P w K mg base (g6 P w) j f fd ps p.2.2/\mg p.1=some (.ref p.2.1)/\Binds K fd ps []
theorem gA.mono{j k:Nat}{p:Str×Addr×Sp}(h:gA P w K mg base j p)(hk:j<=k):gA P w K mg base k p:=by
 obtain⟨c,f,fd,ps,m,F,b⟩:=h;exact⟨c,f,fd,ps,m,F.mono hk,b⟩
theorem ph.mono{j k:Nat}{p:Str×Addr×Sp}(h:ph P w K mg base j p)(hk:j<=k):ph P w K mg base k p:=by
 obtain⟨i,f,fd,ps,m,r⟩:=h;exact⟨i,f,fd,ps,zat m hk,r⟩
def wB(P:Program)(w:World)(K:Frag)(q:Addr×List (Key×V)):Prop:= ∀h:Heap,K.In h->∃vs,KV q.2 vs/\h.DictOf (dB P w) q.1 vs
abbrev wC(N:List Str)(sc:Scope)(tab:List Str)(gt:List Str)(bl:List Str)(mn kn:List Str:=[])(en hn:List Str:=[])(md:Nat:=0):c5:={N:=N,sc:=sc,fn:=tab,gn:=gt,bl:=bl,mn:=mn,kn:=kn,en:=en,hn:=hn,md:=md}
def wD(mg:Str->Option Value)(base:Heap)(p:Str×Addr):Prop:= ∃bm B newId qZ,OwnCls p.1 p.2 bm newId mg base/\ExcBaseFacts B newId qZ bm
def AK(P:Program)(w:World)(K:Frag)(mg:Str->Option Value)(base:Heap)(k:Nat)(x:Str)(sp:Sp):Prop:=
 ∃f fd ps,Gr P w K mg base k f fd ps sp/\mg x=some (.ref f)/\PySem.W.keepIn K (.ref f)=true/\Binds K fd ps []
theorem UQ{x qual:Str}{st:Stmt}{f:Addr}{fd:FuncData}{N ps:List Str}{k:Nat}{sp:Sp}(F:oQ K x qual st f fd)(S:sN N ps (fj st))
  (tab:List (Str×Sp)) (gt:List (Str×V)) (bl:List Str) (mt kt:List (Str×Addr×Sp)) (et:List (Str×Addr)) (ht:List (Str×Sp)) (body:List RS)
  (hm:∀{CX:bZ}{Γ:bj}{X:Cx},fW CX (wC N (fj st) (tab.map (·.1)) (gt.map (·.1)) bl (mt.map (·.1)) (kt.map (·.1)) (et.map (·.1)) (ht.map (·.1))) Γ X->eU X (fR st) (aE Γ body))
  (AL:∀p∈tab,kO P w K mg base k p.1 p.2) (AM:∀p∈gt,AJ mg p) (AN:∀y∈bl,mg y=none) (dk:List (Addr×List (Key×V))) (AO:∀q∈dk,wB P w K q)
  (AQ:∀p∈mt,gA P w K mg base k p) (AR:∀p∈kt,ph P w K mg base k p) (het:∀p∈et,wD mg base p) (AS:∀p∈ht,AK P w K mg base k p.1 p.2)
  (len:∀vs H Q E,sp vs H Q E->vs.length=ps.length)
  (AU:∀vs H Q E,sp vs H Q E->aE (aO K tab gt dk mt kt et ht E) body {nx:=fun _ H'=>Q .aC H',rt:=Q} (start N vs) H):cE P w K mg base (g6 P w) (k+1) f fd ps sp:=by
 obtain⟨oc,od,kV,doc,pm,an,bz,ct,iO,rfl,lk,kq⟩:=F.ex;refine Qf lk kq S len fun A outer s H vs Q E hr mW=>⟨_,hm (CX:=g6 P w) (Γ:=aO K tab gt dk mt kt et ht E) ?_,AU vs H Q E mW⟩;refine {N:=rfl,sc:=rfl,K:=rfl,calm:=fun _=>rfl,units:=hr.units,fns:=fun _ j y hj=>?_,gw:=fun j y hj=>?_,fV:=fun y hy=>?_,pass:=TC,wc:=fun _ _ _ _ _ h=>Gp h,wd:=fun p kvs h=>AO _ h,tK:=fun _ j y hj=>?_,we:=fun _ j y hj=>?_,Av:=fun j y hj=>?_,Aw:=fun j y hj=>?_,Ax:=fun _ h=>(nomatch h),Gx:=fun h=>(nomatch h),nd:=S.nd,wk:=fun _=>rfl,own:=PassesOwn.leaving,GK:=S.kind,rs:=fun _ _ _=>TH,sI:=rfl,o7:=rfl,UD:=rfl,UE:=rfl}
 ·have bJ:(tab.map (·.1))[j]?=some y:=hj;rw[zaf] at bJ;cases q:tab[j]? with
  |none=>rw[q] at bJ;cases bJ
  |some p=>
   rw[q] at bJ;have e:p.1=y:=zal bJ;obtain⟨f',pj,kQ,F',m',k',b'⟩:=AL p (zan q);have es:ng tab j=p.2:=by unfold ng;rw[q]
   show Gs (g6 P w) _ y (ng tab j);rw[es,<-e];exact⟨k,f',pj,kQ,F',hr,m',k',b'⟩
 ·have bJ:(gt.map (·.1))[j]?=some y:=hj;rw[zaf] at bJ;cases q:gt[j]? with
  |none=>rw[q] at bJ;cases bJ
  |some p=>
   rw[q] at bJ;have e:p.1=y:=zal bJ;obtain⟨u,h1,h2⟩:=(AM p<|zan q).ex;have es:wz gt j=p.2:=by unfold wz;rw[q]
   show ∃u,mg y=some u/\RelV (wz gt j) u;rw[es,<-e];exact⟨u,h1,h2⟩
 ·exact AN y (by simpa using hy)
 ·have bJ:(mt.map (·.1))[j]?=some y:=hj;rw[zaf] at bJ;cases q:mt[j]? with
  |none=>rw[q] at bJ;cases bJ
  |some p=>
   rw[q] at bJ;have e:p.1=y:=zal bJ;obtain⟨c,f',pj,kQ,m',F',b'⟩:=AQ p (zan q);have es:kP mt j=p.2:=by unfold kP;rw[q]
   show wb (g6 P w) _ (kP mt j).1 y (kP mt j).2;rw[es,<-e];exact⟨c,k,f',pj,kQ,m',F',hr,b'⟩
 ·have bJ:(kt.map (·.1))[j]?=some y:=hj;rw[zaf] at bJ;cases q:kt[j]? with
  |none=>rw[q] at bJ;cases bJ
  |some p=>
   rw[q] at bJ;have e:p.1=y:=zal bJ;obtain⟨i,f',pj,kQ,hi,m',F',g',b'⟩:=AR p (zan q);have es:kP kt j=p.2:=by unfold kP;rw[q]
   show Gu (g6 P w) _ y (kP kt j).1 (kP kt j).2;rw[es,<-e];exact⟨i,f',pj,kQ,m',F',hr.mono hi,g',b'⟩
 ·have bJ:(et.map (·.1))[j]?=some y:=hj;rw[zaf] at bJ;cases q:et[j]? with
  |none=>rw[q] at bJ;cases bJ
  |some p=>
   rw[q] at bJ;have e:p.1=y:=zal bJ;have es:wA et j=p.2:=by unfold wA;rw[q]
   show Gw _ y (wA et j);rw[es,<-e];exact het p<|zan q
 ·have bJ:(ht.map (·.1))[j]?=some y:=hj;rw[zaf] at bJ;cases q:ht[j]? with
  |none=>rw[q] at bJ;cases bJ
  |some p=>
   rw[q] at bJ;have e:p.1=y:=zal bJ;obtain⟨f',pj,kQ,F',m',k',b'⟩:=AS p (zan q);have es:ng ht j=p.2:=by unfold ng;rw[q]
   show Gv _ y (ng ht j);rw[es,<-e];exact⟨k,f',pj,kQ,F',hr.h,m',k',b'⟩
end
section
variable {P:Program}{w:World}{K:Frag}{mg:Str->Option Value}{base:Heap}{x qual:Str}{st:Stmt}{f:Addr}{fd:FuncData}{N ps:List Str}{k:Nat}{sp:Sp}
theorem cE.top{k:Nat}(F:cE P w K mg base (g6 P w) k f fd ps sp):cE P w K mg base sU k f fd ps (fun vs H Q _=>sp vs H Q E0):=
 ⟨fun vs H Q E h=>F.len vs H Q E0 h,fun A outer s H args us vs Q E hr e0 hb hv hs=>codeAny_mono (F.run A outer s H args us vs Q E0 hr e0 hb hv hs) fun r s' h=>by
  cases r with
  |error e=>exact(Gp h).elim
  |ok fl=>cases fl<;>exact h⟩
end
section
variable {Γ:bj}{D:Ends}{σ:St}{H:Hp}{r:List RS}{Q:VK}
theorem GR{i:Nat}{e:RE}(h:ae Γ e σ H fun x H1=>aE Γ r D (σ.set i<|some x) H1):aE Γ (.asg i e::r) D σ H:=h
theorem GS{b:lW}{as:List RE}(h:aS Γ as σ H fun vs H1=>kE Γ.K b vs H1 Q):ae Γ (.blt b as) σ H Q:=h
theorem GU{a:RE}{Q:List V->Hp->Prop}(h:ae Γ a σ H fun x H1=>Q [x] H1):aS Γ [a] σ H Q:=h
end
end L2
variable {H H' H1 H2:L2.Hp}{pars:List (Option Nat)}{σ:L2.St}{Γ:L2.bj}{Q:L2.VK}{a b e o:L2.RE}{xs:List L2.V}{i n here j:Nat}{C L lo be lg c i1 i2 l1 l2 dx z:PySem.Addr}{v:L2.V}{as:List L2.RE}{M:List PySem.Addr}{body:List L2.RS}{D:L2.Ends}{bB:List Nat}{y s:PySem.Str}
namespace L2.B
open PySem PySem.Spec PyProof.Rows
def l7:List Str:=["thing"]
noncomputable def GV:List RS:=
 [.ret<|.and [(.eK .int<|.v 0),(.not<|.eK .bool<|.v 0)]]
def ag:List Str:=[]
def UR:List Str:=["isinstance","int","bool"]
def AV:List Str:=["thing","words"]
noncomputable def AW:List RS:=
 [.ret<|.and [(.eK .str<|.v 0),(.cmp .In (.v 0)<|.v 1)]]
def GW:List Str:=["isinstance","str"]
noncomputable def AX:List RS:=
 [.ret<|.and [(.eK .str<|.v 0),(.cmp .Eq (.bI .lstrip (.v 0) [.g 0])<|.c<|.str "")]]
def US:List Str:=["SIGNS"]
noncomputable def wF:List RS:=
 [.ite (.or [(.not (.eK .tuple (.v 0))),(.cmp .NotEq (.blt .len [.v 0]) (.c (.int 2)))]) [.ret (.c (.bl false))] [],
 .ite (.call 0 [(.ix (.v 0)<|.c<|.int 0),(.tup [(.c<|.str "keep")])]) [.ret<|.and [(.call 1 [(.ix (.v 0)<|.c<|.int 1)]),(.cmp .GtE (.ix (.v 0)<|.c<|.int 1)<|.c<|.int 1)]] [],
 .ret (.and [(.call 0 [(.ix (.v 0) (.c (.int 0))),(.tup [(.c (.str "cut")),(.c (.str "put"))])]),(.call 2 [(.ix (.v 0) (.c (.int 1)))]),(.cmp .NotEq (.ix (.v 0) (.c (.int 1))) (.c (.str "")))])]
def UT:List Str:=["is_word","is_whole","is_text"]
def UU:List Str:=["isinstance","tuple","len"]
def GX:List Str:=["word","ahead"]
noncomputable def GY:List RS:=
 [.ret<|.and [(.cmp .NotEq (.v 0)<|.v 1),(.not<|.and [(.cmp .Eq (.v 1)<|.c<|.str "cut"),(.cmp .Eq (.v 0)<|.c<|.str "put")])]]
def GZ:List Str:=["change","ahead","part"]
noncomputable def G0:List RS:=
 [.ite (.not (.eK .list (.v 0))) [.iz 0 [(.c (.str "a change is a list"))]] [],
 .asg 1 (.c<|.str ""),
 .iy 2 .list [.v 0] [.ite (.not (.call 0 [.v 2])) [.iz 0 [(.c (.str "a part is a keep of 1 sign or more, or a cut or put of a text that is not empty"))]] [],
  .ite (.not<|.call 1 [(.ix (.v 2)<|.c<|.int 0),.v 1]) [.iz 0 [(.c<|.str "neighbours have two words, and no put stands right behind a cut")]] [],
  .asg 1 (.ix (.v 2) (.c (.int 0)))]]
def UW:List Str:=["is_part","may_follow"]
def UX:List Str:=["isinstance","list"]
def UY:List Str:=["BadChange"]
def G1:List Str:=["part"]
noncomputable def G3:List RS:=
 [.ret<|.gY (.cmp .Eq (.ix (.v 0)<|.c<|.int 0)<|.c<|.str "keep") (.ix (.v 0)<|.c<|.int 1)<|.blt .len [(.ix (.v 0)<|.c<|.int 1)]]
def rj:List Str:=["len"]
def G4:List Str:=["change","over","gives"]
noncomputable def G5:List RS:=
 [.drop (.call 0 [.v 0]),
 .asg 1 (.blt .sum [(.comp none [] .list [.v 0] (some<|.cmp .NotEq (.ix (.v 0)<|.c<|.int 0)<|.c<|.str "put")<|.call 1 [.v 0])]),
 .asg 2 (.blt .sum [(.comp none [] .list [.v 0] (some<|.cmp .NotEq (.ix (.v 0)<|.c<|.int 0)<|.c<|.str "cut")<|.call 1 [.v 0])]),
 .ret (.tup [.v 1,.v 2])]
def UZ:List Str:=["need_change","part_size"]
def U0:List Str:=["sum"]
def G6:List Str:=["change","size"]
noncomputable def G7:List RS:=
 [.ite (.and [(.cmp .Gt (.blt .len [.v 0]) (.c (.int 0))),(.cmp .Eq (.ix (.ix (.v 0) (.neg (.c (.int 1)))) (.c (.int 0))) (.c (.str "keep")))]) [.asg 1 (.bin .Add (.v 1) (.ix (.bI .pop (.v 0) []) (.c (.int 1))))] [],
 .drop (.bI .append (.v 0) [(.tup [(.c (.str "keep")),.v 1])])]
def G8:List Str:=["change","puts","cuts","put","cut"]
noncomputable def G9:List RS:=
 [.asg 3 (.bI .join (.c (.str "")) [.v 1]),
 .asg 4 (.bI .join (.c<|.str "") [.v 2]),
 .ite (.cmp .NotEq (.v 3)<|.c<|.str "") [.drop<|.bI .append (.v 0) [(.tup [(.c<|.str "put"),.v 3])]] [],
 .ite (.cmp .NotEq (.v 4) (.c (.str ""))) [.drop (.bI .append (.v 0) [(.tup [(.c (.str "cut")),.v 4])])] []]
def G_:List Str:=["parts","change","puts","cuts","word","what"]
noncomputable def Ha:List RS:=
 [.asg 1 (.lst []),
 .asg 2 (.lst []),
 .asg 3 (.lst []),
 .qW [4,5] .list [.v 0] [.ite (.cmp .Eq (.v 4) (.c (.str "put"))) [.drop (.bI .append (.v 2) [.v 5])] [.ite (.cmp .Eq (.v 4) (.c (.str "cut"))) [.drop (.bI .append (.v 3) [.v 5])] [.ite (.cmp .Gt (.v 5) (.c (.int 0))) [.drop (.call 0 [.v 1,.v 2,.v 3]),
     .asg 2 (.lst []),
     .asg 3 (.lst []),
     .drop (.call 1 [.v 1,.v 5])] []]]],
 .drop (.call 0 [.v 1,.v 2,.v 3]),
 .ret (.v 1)]
def U1:List Str:=["add_texts","add_keep"]
def Hb:List Str:=["change"]
noncomputable def Hc:List RS:=
 [.drop (.call 0 [.v 0]),
 .ret (.call 1 [(.comp (some 2) [] .list [.v 0] none (.tup [(.ix (.g 0) (.v 0)),.v 1]))])]
def U2:List Str:=["need_change","neat"]
def U3:List Str:=["WAYS_BACK"]
def He:List Str:=["_law_script","_law_k"]
noncomputable def Hf:List RS:=
 [.ite (.cmp .Lt (.v 1) (.blt .len [.v 0])) [.ret (.ix (.v 0) (.v 1))] [],
 .ret (.c (.int 0))]
def Hg:List Str:=["thing","least","most"]
noncomputable def Hh:List RS:=
 [.ret<|.and [(.call 0 [.v 0]),(.tD .LtE .LtE (.v 1) (.v 0)<|.v 2)]]
def Hi:List Str:=["is_whole"]
def wG:List Str:=["self","change"]
noncomputable def Hj:List RS:=
 [.dR (.v 0) "parts" (.blt .list [.v 1]),
 .dR (.v 0) "passed_by" (.c<|.int 0),
 .dR (.v 0) "offset" (.c (.int 0))]
def AY:List Str:=["list"]
def kR:List Str:=["self"]
noncomputable def Hk:List RS:=
 [.ret<|.gY (.cmp .Lt (.fld (.v 0) "passed_by")<|.blt .len [(.fld (.v 0) "parts")]) (.ix (.ix (.fld (.v 0) "parts")<|.fld (.v 0) "passed_by")<|.c<|.int 0)<|.c<|.str ""]
noncomputable def Hl:List RS:=
 [.ret<|.bin .Sub (.call 0 [(.ix (.fld (.v 0) "parts")<|.fld (.v 0) "passed_by")])<|.fld (.v 0) "offset"]
def Hm:List Str:=["part_size"]
def Hn:List Str:=["self","size","part","begin","end"]
noncomputable def AZ:List RS:=
 [.asg 2 (.ix (.fld (.v 0) "parts") (.fld (.v 0) "passed_by")),
 .asg 3 (.fld (.v 0) "offset"),
 .asg 4 (.bin .Add (.v 3)<|.v 1),
 .dR (.v 0) "offset" (.v 4),
 .ite (.cmp .Eq (.aM 0 "left" (.v 0) []) (.c (.int 0))) [.dR (.v 0) "passed_by" (.bin .Add (.fld (.v 0) "passed_by") (.c (.int 1))),
  .dR (.v 0) "offset" (.c (.int 0))] [],
 .ret (.tup [(.ix (.v 2) (.c (.int 0))),(.gY (.cmp .Eq (.ix (.v 2) (.c (.int 0))) (.c (.str "keep"))) (.v 1) (.sl (.ix (.v 2) (.c (.int 1))) (some (.v 3)) (some (.v 4))))])]
def U4:List Str:=["left"]
def Ho:List Str:=["walk","putting","keeping","part"]
noncomputable def Hq:List RS:=
 [.asg 3 (.aM 0 "take" (.v 0) [(.aM 1 "left" (.v 0) [])]),
 .drop (.bI .append (.v 1) [.v 3]),
 .drop (.bI .append (.v 2) [(.tup [(.c (.str "keep")),(.call 0 [.v 3])])])]
def U5:List Str:=["take","left"]
def Hr:List Str:=["first","second","ones","others"]
noncomputable def Hs:List RS:=
 [.ite (.and [(.cmp .Eq (.ix (.v 0) (.c (.int 0))) (.c (.str "cut"))),(.cmp .Eq (.ix (.v 1) (.c (.int 0))) (.c (.str "cut")))]) [.ite (.cmp .NotEq (.ix (.v 0) (.c (.int 1))) (.ix (.v 1) (.c (.int 1)))) [.iz 0 [(.c (.str "both changes cut a sign, and tell it otherwise"))]] []] [.ite (.cmp .Eq (.ix (.v 1) (.c (.int 0))) (.c (.str "keep"))) [.drop (.bI .append (.v 2) [.v 0]),
   .ite (.cmp .Eq (.ix (.v 0) (.c (.int 0))) (.c (.str "keep"))) [.drop (.bI .append (.v 3) [.v 1])] []] [.drop (.bI .append (.v 3) [.v 1])]]]
def tO:List Str:=["BadFit"]
def Ht:List Str:=["one","other","first","second","ones","others","size"]
noncomputable def Hu:List RS:=
 [.ite (.cmp .NotEq (.ix (.call 0 [.v 0]) (.c (.int 0))) (.ix (.call 0 [.v 1]) (.c (.int 0)))) [.iz 0 [(.c (.str "the changes are over unlike numbers of signs"))]] [],
 .asg 2 (.make 0 [.v 0]),
 .asg 3 (.make 0 [.v 1]),
 .asg 4 (.lst []),
 .asg 5 (.lst []),
 .kA (.or [(.cmp .NotEq (.aM 0 "word" (.v 2) []) (.c (.str ""))),(.cmp .NotEq (.aM 0 "word" (.v 3) []) (.c (.str "")))]) [.ite (.cmp .Eq (.aM 0 "word" (.v 2) []) (.c (.str "put"))) [.drop (.call 1 [.v 2,.v 4,.v 5])] [.ite (.cmp .Eq (.aM 0 "word" (.v 3) []) (.c (.str "put"))) [.drop (.call 1 [.v 3,.v 5,.v 4])] [.asg 6 (.blt .min [(.aM 1 "left" (.v 2) []),(.aM 1 "left" (.v 3) [])]),
    .drop (.call 2 [(.aM 2 "take" (.v 2) [.v 6]),(.aM 2 "take" (.v 3) [.v 6]),.v 4,.v 5])]]],
 .ret (.tup [(.call 3 [.v 4]),(.call 3 [.v 5])])]
def U6:List Str:=["sizes","put_first","share","neat"]
def Hv:List Str:=["min"]
def U7:List Str:=["word","left","take"]
def Hw:List Str:=["Walk"]
def Hx:List Str:=["given","text"]
noncomputable def Hy:List RS:=
 [.ite (.cmp .Eq (.ix (.v 0) (.c (.int 0))) (.c (.str "keep"))) [.ret (.lst [(.tup [(.c (.str "cut")),.v 1])])] [],
 .ite (.cmp .NotEq (.ix (.v 0)<|.c<|.int 1)<|.v 1) [.iz 0 [(.c<|.str "what the first change puts is cut otherwise")]] [],
 .ret (.lst [])]
def Hz:List Str:=["walk","part","parts","place","size","given"]
noncomputable def HB:List RS:=
 [.asg 2 (.lst []),
 .asg 3 (.c<|.int 0),
 .kA (.cmp .Lt (.v 3) (.call 0 [.v 1])) [.ite (.cmp .Eq (.aM 0 "word" (.v 0) []) (.c (.str "cut"))) [.drop (.bI .append (.v 2) [(.aM 1 "take" (.v 0) [(.aM 2 "left" (.v 0) [])])]),
   .cont] [],
  .asg 4 (.blt .min [(.aM 2 "left" (.v 0) []),(.bin .Sub (.call 0 [.v 1])<|.v 3)]),
  .asg 5 (.aM 1 "take" (.v 0) [.v 4]),
  .ite (.cmp .Eq (.ix (.v 1)<|.c<|.int 0)<|.c<|.str "keep") [.drop<|.bI .append (.v 2) [.v 5]] [.drop<|.bI .extend (.v 2) [(.call 1 [.v 5,(.sl (.ix (.v 1)<|.c<|.int 1) (some<|.v 3)<|some<|.bin .Add (.v 3)<|.v 4)])]],
  .asg 3 (.bin .Add (.v 3) (.v 4))],
 .ret (.v 2)]
def U8:List Str:=["part_size","cut_behind"]
def HC:List Str:=["word","take","left"]
def HD:List Str:=["one","other","walk","parts","part"]
noncomputable def HE:List RS:=
 [.ite (.cmp .NotEq (.ix (.call 0 [.v 0]) (.c (.int 1))) (.ix (.call 0 [.v 1]) (.c (.int 0)))) [.iz 0 [(.c (.str "the other change is over another number of signs than the first one gives"))]] [],
 .asg 2 (.make 0 [.v 0]),
 .asg 3 (.lst []),
 .iy 4 .list [.v 1] [.ite (.cmp .Eq (.ix (.v 4)<|.c<|.int 0)<|.c<|.str "put") [.drop<|.bI .append (.v 3) [.v 4]] [.drop<|.bI .extend (.v 3) [(.call 1 [.v 2,.v 4])]]],
 .kA (.cmp .NotEq (.aM 0 "word" (.v 2) [])<|.c<|.str "") [.drop<|.bI .append (.v 3) [(.aM 1 "take" (.v 2) [(.aM 2 "left" (.v 2) [])])]],
 .ret (.call 2 [.v 3])]
def U9:List Str:=["sizes","parts_behind","neat"]
structure ni (K:Frag) (C:Addr):Prop where
 cl:fh K C
 tP:eW K C "parts"
 pw:eW K C "passed_by"
 tQ:eW K C "offset"
end L2.B
namespace L2
open PySem PySem.Spec PyProof.Rows
section
variable {X:Cx}
end
end L2
namespace L2.B
open PySem PySem.Spec PyProof.Rows
def A0:List Str:=["_law_text","_law_change","_law_found","_law_at","_law_word","_law_thing"]
noncomputable def HF:List RS:=
 [.asg 2 (.c (.str "")),
 .asg 3 (.c<|.int 0),
 .qW [4,5] .list [.v 1] [.ite (.cmp .Eq (.v 4) (.c (.str "put"))) [.asg 2 (.bin .Add (.v 2) (.v 5))] [.ite (.cmp .Eq (.v 4) (.c (.str "keep"))) [.asg 2 (.bin .Add (.v 2) (.sl (.v 0) (some (.v 3)) (some (.bin .Add (.v 3) (.v 5))))),
    .asg 3 (.bin .Add (.v 3) (.v 5))] [.asg 3 (.bin .Add (.v 3) (.blt .len [.v 5]))]]],
 .ret (.v 2)]
end L2.B
namespace L2
open PySem PySem.Spec PyProof.Rows
section
variable {X:Cx}
def ji(z:Str)(n:Int):Str:=⟨((List.replicate n.toNat z.cps.toList).flatten).toArray⟩
def A5:R2:=fun x y H Q=>∃z n,x=.str z/\y=.int n/\0<=n/\n<=100000/\z.length<=10/\Q (.str<|ji z n) H
theorem HG(z:Str)(n:Nat):(⟨(List.replicate n z.cps).foldl (· ++ ·) #[]⟩:Str)=⟨((List.replicate n z.cps.toList).flatten).toArray⟩:=by
 have:∀(n:Nat) (acc:Array Nat),((List.replicate n z.cps).foldl (· ++ ·) acc).toList=acc.toList++(List.replicate n z.cps.toList).flatten:=by
  intro n
  induction n with
  |zero=>intro acc;simp
  |succ n ih=>intro acc;rw[zaZ,zbJ,ih,zaZ,zbs,zbV,zaj]
 congr 1
 apply Array.ext'
 rw[this];simp
theorem U_:bh X (binaryOp .Mult) A5:=by
 intro pins s σ H x y v u Q I rx ry h;obtain⟨z,n,rfl,rfl,h0,h1,hz,q⟩:=h;obtain⟨t,rfl⟩:=rx;obtain⟨t2,rfl⟩:=ry;have nl:n.toNat<=100000:=by lia
 have ml:z.length*n.toNat<=10*100000:=Nat.mul_le_mul hz nl;refine P.mul_str (by rw[zqF (by lia),zqF (by lia)];rfl) (fun h2 _=>?_) (fun _ _=>?_) ?_
 ·have:(10:Int)<= (2 ^ 63 - 1) / n:=(Int.le_ediv_iff_mul_le (by lia)).mpr (by lia)
  lia
 ·unfold Builtin.Str.tooLong;have hh:(10*100000:Nat)<=sizeLine:=by decide
  exact zqF (by lia)
 ·by_cases g0:n<1
  ·rw[if_pos g0];have e:ji z n=Str.empty:=by
    have:n.toNat=0:=by lia
    unfold ji;rw[this];rfl
   rw[e] at q;exact⟨by decide,.str Str.empty,H,I.tok _,⟨_,rfl⟩,q⟩
  ·rw[if_neg g0];cases g1:(n==1 ||z.length==0)
   ·rw[if_neg (by simp)]
    refine⟨?_,.str _,H,I.tok _,⟨_,rfl⟩,?_⟩
    ·rw[HG];show(((List.replicate n.toNat z.cps.toList).flatten).toArray).size<=sizeLine;have e:(((List.replicate n.toNat z.cps.toList).flatten).toArray).size=n.toNat*z.length:=by
      rw[zae,len_rep];rfl
     rw[e,Nat.mul_comm];exact zat ml (by decide)
    ·rw[HG];exact q
   ·rw[if_pos rfl];refine⟨.str z,H,I,⟨_,rfl⟩,?_⟩;have e:ji z n=z:=by
     rw[zbN] at g1;have key:(List.replicate n.toNat z.cps.toList).flatten=z.cps.toList:=by
      rcases g1 with g|g
      ·have:n.toNat=1:=by have:=eq_of_beq g;lia
       rw[this];simp
      ·have z0:z.cps.toList=[]:=zbW (by have:z.length=0:=eq_of_beq g;simpa[Str.length] using this)
       rw[z0];simp
     unfold ji;rw[key]
    rw[e] at q;exact q
def A8:Frag->TA->TE:=fun _ t σ H Q=>t σ H fun vs H1=>match vs with|[x,y]=>A5 x y H1 Q|_=>False
end
section
variable {CX:bZ}{S:c5}{Γ:bj}{X:Cx}{e e2 a b c d:Expr}{es:List Expr}{x:Str}{p q pos:Pos}{r ra rb rc:RE}{rs:List RE}{i j:Nat}
theorem Va(ha:PE X a (ae Γ ra))(hb:PE X b (ae Γ rb)):PE X (.BinOp a .Mult b pos) (ae Γ<|.xt A8 [ra,rb]):=Et U_ ha hb
end
section
variable {X:Cx}
end
end L2
namespace L2.B
open PySem PySem.Spec PyProof.Rows
end L2.B
namespace L2.HH
open PySem PySem.W PyProof.Rows
section
variable {n:Nat}{lt:Nat->Nat->Bool}{p:Array Nat}
variable {cmp:Nat->Nat->(Bool->Shared->Prop)->Shared->Prop}{R:Shared->Prop}
end
end L2.HH
namespace L2
open PySem PySem.Spec PyProof.Rows PySem.W L2.HH
end L2
namespace L2
open PySem PySem.Spec PyProof.Rows
end L2
namespace L2.B
open PySem PySem.Spec PyProof.Rows
end L2.B
namespace L2
open PySem PySem.Spec PyProof.Rows
def tR:List (TE×TE)->St->Hp->(List (V×V)->Hp->Prop)->Prop
 |[],_,H,Q=>Q [] H
 |(tk,tv)::r,σ,H,Q=>tk σ H fun x H1=>tv σ H1 fun y H2=>tR r σ H2 fun ps H3=>Q ((x,y)::ps) H3
abbrev VV:List (V×V)->List (Value×Value)->Prop:=Paired fun p q=>RelV p.1 q.1/\RelV p.2 q.2
def nj(X:Cx)(pos:Pos)(keys:List (Option Expr))(values:List Expr)(l8:List (TE×TE)):Prop:=
 ∀(pins:List (Addr×Obj)) (s:Shared) (σ:St) (H:Hp) (Q:List (V×V)->Hp->Prop),Inv X pins σ H s->tR l8 σ H Q->
  wpAny (model X.prog X.w) X.A (evalPairs<|pairTrees keys values X.env pos) (fun vs s'=>∃ps H',Inv X pins σ H' s'/\VV ps vs/\Q ps H') X.xe s
theorem Vb{X:Cx}{pos:Pos}:nj X pos [] [] []:=fun pins s σ H Q I h=>pairTrees_nil_walk ⟨[],H,I,.nil,h⟩
theorem Vc{X:Cx}{pos:Pos}{k v:Expr}{ks:List (Option Expr)}{vs:List Expr}{tk tv:TE}{l8:List (TE×TE)}(hk:PE X k tk)(hv:PE X v tv)(hr:nj X pos ks vs l8):
  nj X pos (some k::ks) (v::vs) ((tk,tv)::l8):=fun pins s σ H Q I h=>
 pairTrees_cons_walk (aG (hk pins s σ H _ I h) fun u s1 ⟨x,H1,I1,rx,q1⟩=>aG (hv pins s1 σ H1 _ I1 q1) fun w2 s2 ⟨y,H2,I2,ry,q2⟩=>
  aG (hr pins s2 σ H2 _ I2 q2) fun ws s3 ⟨ps,H3,I3,rel,q3⟩=>⟨(x,y)::ps,H3,I3,.cons ⟨rx,ry⟩ rel,q3⟩)
def iW(kvs more:List (Key×V)):List (Key×V):=more.foldl (fun acc kv=>putK acc kv.1 kv.2) kvs
theorem KV.merge:∀{more:List (Key×V)}{rs:List (Key×Value)}{kvs:List (Key×V)}{vs:List (Key×Value)},KV more rs->KV kvs vs->KV (iW kvs more) (merged vs rs):=by
 intro more rs kvs vs r;unfold KV at r
 induction r generalizing kvs vs with
 |nil=>intro q;exact q
 | @cons p q ps qs h t ih=>
  intro r0;have e:KV (putK kvs p.1 p.2) (stored vs q.1 q.2):=by
   have:=r0.put p.1 h.2;rw[<-h.1];exact this
  exact ih e
theorem HI:∀(more kvs:List (Key×V)),(iW kvs more).length<=kvs.length+more.length
 |[],kvs=>by show kvs.length<=kvs.length+0;omega
 |p::r,kvs=>by
  have h1:=HI r (putK kvs p.1 p.2);have h2:=zM kvs p.1 p.2;show(iW (putK kvs p.1 p.2) r).length<=_;rw[zak];omega
theorem HJ{P:Program}{w:World}:∀{kvs:List (Key×V)}{ws:List (Value×Value)},VV (kvs.map fun kv=>(kV kv.1,kv.2)) ws->∃rs,Carries (dB P w) ws rs/\KV kvs rs
 |[],_,r=>by rw[zaY] at r;cases r;exact⟨[],True.intro,.nil⟩
 |p::kvs,_,r=>by
  rw[zar] at r;cases r with
  | @cons a b as bs h t=>
   obtain⟨rs,c,q⟩:=HJ (P:=P) (w:=w) t;obtain⟨b1,b2⟩:=b;exact⟨(p.1,b2)::rs,⟨sW h.1,rfl,c⟩,.cons ⟨rfl,h.2⟩ q⟩
def A9(l8:List (TE×TE)):TE:=fun σ H Q=>∀p,H p=none->tR l8 σ (upd H p<|.dK []) fun ps H2=>H2 p=some (.dK [])/\∃kvs:List (Key×V),ps=kvs.map (fun kv=>(kV kv.1,kv.2))/\kvs.length<=15/\Q (.ref p) (upd H2 p<|.dK<|iW [] kvs)
theorem Vd{X:Cx}{pos:Pos}{keys:List (Option Expr)}{values:List Expr}{l8:List (TE×TE)}(h:nj X pos keys values l8)(qR:keys.all (·.isSome)=true)(hl:keys.length=values.length)(h0:keys≠ [])
  (Ve:keys.length<=15):PE X (.Dict keys values pos) (A9 l8):=by
 intro pins s σ H Q I q;have hn:=I.aD.fresh (zqR s.heap.objs.size);have I1:=I.laid (a:=s.heap.objs.size) (o:=.dK []) (h':=s.heap.push {cls:=.type "dict",data:=.dict #[]}) (t':=s.toks) (fun _ _ q=>Heap.get?_push_of_some _ q) (zqR _) (Rk s.heap I.big);refine wpAny_Dict_walk (knd:=dB X.prog X.w) qR hl h0 Ve<|aG (h pins _ σ _ _ I1<|q _ hn) fun ws s2 ⟨ps,H2,I2,rel,e,kvs,ep,lk,q2⟩=>?_;subst ep;obtain⟨rs,c,rk⟩:=HJ (P:=X.prog) (w:=X.w) rel;obtain⟨z,hd,vs0,r0,dd⟩:=Fj I2.aD e;cases r0;refine⟨rs,c,dd,fun h' oS hs=>⟨.ref s.heap.objs.size,_,?_,rfl,q2⟩⟩;have hz:(iW [] kvs).length<=sizeLine:=by
  have h1:=HI kvs [];rw[zaU] at h1;rw[sizeLine_eq];omega
 have he:∃q,h'.get? s.heap.objs.size=some q:=let ⟨q,_,_,hq,_⟩:=oS;⟨q,hq⟩;exact zP I2 (by rw[e];exact True.intro) hs he<|Fm hz hd (rk.merge .nil) oS
def pz:List (Key×V)->List V
 |[]=>[]
 |kv::r=>kV kv.1::kv.2::pz r
def pA:List (V×V)->List V
 |[]=>[]
 |p::r=>p.1::p.2::pA r
def pB:Frag->TA->TE:=fun _ t σ H Q=>∀p,H p=none->t σ (upd H p<|.dK []) fun vs H2=>H2 p=some (.dK [])/\∃kvs:List (Key×V),vs=pz kvs/\kvs.length<=15/\Q (.ref p) (upd H2 p<|.dK<|iW [] kvs)
def nk(Γ:bj):List RE->List (TE×TE)
 |a::b::r=>(ae Γ a,ae Γ b)::nk Γ r
 |_=>[]
theorem A_:∀(rs:List RE) (H:Hp) (Q:List V->Hp->Prop),rs.length % 2=0->aS Γ rs σ H Q=tR (nk Γ rs) σ H fun ps H2=>Q (pA ps) H2
 |[],H,Q,_=>rfl
 |[a],H,Q,e=>absurd e (by show ¬(1 % 2=0);decide)
 |a::b::r,H,Q,e=>by
  have e':r.length % 2=0:=by
   have:(r.length+1+1) % 2=0:=e;lia
  show(ae Γ a σ H fun x H1=>ae Γ b σ H1 fun y H2=>aS Γ r σ H2 fun vs H3=>Q (x::y::vs) H3)=ae Γ a σ H fun x H1=>ae Γ b σ H1 fun y H2=>tR (nk Γ r) σ H2 fun ps H3=>Q (x::y::pA ps) H3
  congr 1
  funext x H1
  congr 1
  funext y H2
  exact A_ r H2 (fun vs H3=>Q (x::y::vs) H3) e'
theorem wH:∀(ps:List (V×V)) (kvs:List (Key×V)),pA ps=pz kvs↔ps=kvs.map fun kv=>(kV kv.1,kv.2)
 |[],[]=>⟨fun _=>rfl,fun _=>rfl⟩
 |[],kv::r=>⟨(fun h=>by cases h),(fun h=>by cases h)⟩
 |p::ps,[]=>⟨(fun h=>by cases h),(fun h=>by cases h)⟩
 |p::ps,kv::r=>by
  constructor
  ·intro h;have h1:p.1=kV kv.1:=(zbn h).1;have h2:p.2=kv.2:=(zbn (zbn h).2).1;have h3:=(wH ps r).mp (zbn (zbn h).2).2;rw[h3,zar,<-h1,<-h2]
  ·intro h;rw[zar] at h;obtain⟨h1,h2⟩:=zbn h;show p.1::p.2::pA ps=kV kv.1::kv.2::pz r;rw[(wH ps r).mpr h2,h1]
theorem Vf{K:Frag}(rs:List RE)(e:rs.length % 2=0):pB K (aS Γ rs)=A9 (nk Γ rs):=by
 funext σ H Q
 unfold pB A9
 apply propext
 constructor
 ·intro h p hp;have:=h p hp;rw[A_ rs _ _ e] at this;have e2:(fun(ps:List (V×V)) (H2:Hp)=>H2 p=some (.dK [])/\∃kvs:List (Key×V),pA ps=pz kvs/\kvs.length<=15/\Q (.ref p) (upd H2 p<|.dK<|iW [] kvs))=fun ps H2=>H2 p=some (.dK [])/\∃kvs:List (Key×V),ps=kvs.map (fun kv=>(kV kv.1,kv.2))/\kvs.length<=15/\Q (.ref p) (upd H2 p<|.dK<|iW [] kvs):=by
   funext ps H2
   simp only[wH]
  rw[e2] at this;exact this
 ·intro h p hp;have:=h p hp;rw[A_ rs _ _ e];have e2:(fun(ps:List (V×V)) (H2:Hp)=>H2 p=some (.dK [])/\∃kvs:List (Key×V),pA ps=pz kvs/\kvs.length<=15/\Q (.ref p) (upd H2 p<|.dK<|iW [] kvs))=fun ps H2=>H2 p=some (.dK [])/\∃kvs:List (Key×V),ps=kvs.map (fun kv=>(kV kv.1,kv.2))/\kvs.length<=15/\Q (.ref p) (upd H2 p<|.dK<|iW [] kvs):=by
   funext ps H2
   simp only[wH]
  rw[e2];exact this
section
variable {CX:bZ}{S:c5}{Γ:bj}{X:Cx}{pos:Pos}{k v:Expr}{ks:List (Option Expr)}{vs:List Expr}{rk rv:RE}{rs:List RE}
theorem HK:nj X pos [] [] (nk Γ []):=Vb
theorem wI(hk:PE X k (ae Γ rk))(hv:PE X v (ae Γ rv))(h:nj X pos ks vs (nk Γ rs)):nj X pos (some k::ks) (v::vs) (nk Γ (rk::rv::rs)):=Vc hk hv h
def HL(keys:List (Option Expr))(values:List Expr)(rs:List RE):Bool:=keys.all (·.isSome) && decide (keys.length=values.length) && decide (keys.length≠0) && decide (keys.length<=15) && decide (rs.length % 2=0)
theorem HM(hp:nj X pos ks vs (nk Γ rs))(h:HL ks vs rs=true:=by kernel_rfl):PE X (.Dict ks vs pos) (ae Γ<|.xt pB rs):=by
 simp only[HL,zag,decide_eq_true_eq] at h
 obtain⟨⟨⟨⟨h1,h2⟩,h3⟩,h4⟩,h5⟩:=h;show PE X _ (pB Γ.K<|aS Γ rs);rw[Vf rs h5];exact Vd hp h1 h2 (fun z=>h3 (by rw[z];rfl)) h4
end
def pE(xs:List V)(lo hi st:Option Int):List V:=(sliceRange (sliceBounds lo hi st xs.length).1 (sliceBounds lo hi st xs.length).2.1 (sliceBounds lo hi st xs.length).2.2).filterMap (xs[·]?)
def tU(K:Frag):V->Option Int->Option Int->Option Int->Hp->VK->Prop:=fun x lo hi st H Q=>∃a xs,x=.ref a/\au K H a xs/\st≠some 0/\∀p,H p=none->Q (.ref p) (upd H p<|.lst<|pE xs lo hi st)
theorem HN{us:List Value}(r:Vals xs us):∀(is:List Nat),Vals (is.filterMap (xs[·]?)) (is.filterMap (us.toArray[·]?))
 |[]=>.nil
 |i::is=>by
  have ih:=HN r is;by_cases h:i<xs.length
  ·obtain⟨w,e1,r1⟩:=r.get (i:=i) (x:=xs[i]) (by simp[h])
   have e2:xs[i]?=some xs[i]:=by simp[h]
   have e3:us.toArray[i]?=some w:=by simpa using e1
   rw[List.filterMap_cons_some e2,List.filterMap_cons_some e3];exact .cons r1 ih
  ·have hl:=r.length;have e2:xs[i]?=none:=by simp;lia
   have e3:us.toArray[i]?=none:=by simp;lia
   rw[List.filterMap_cons_none e2,List.filterMap_cons_none e3];exact ih
section
variable {X:Cx}{e ee el st:Expr}{te tl ts:TE}{p2 pos:Pos}
theorem Vg{pins:List (Addr×Obj)}{s:Shared}{x:V}{v vl vu vs:Value}{lo hi k:Option Int}{sl:Addr}(I:Inv X pins σ H s)(rx:RelV x v)(hs:s.heap.IsSliceOf sl vl vu vs)(pl:IsPart vl lo)(pu:IsPart vu hi)(ps:IsPart vs k)(h:tU X.K x lo hi k H Q):
  ∃T id,typeLookup (.type T) "__getitem__"=pure (some<|.builtin id)/\s.TypeIs v T/\wpAny (model X.prog X.w) X.A (getItem v<|.ref sl) (EP X pins σ Q) X.xe s:=by
 obtain⟨a,xs,rfl,hx,h0,q⟩:=h;cases rx;obtain⟨ao,r,ht,hz⟩:=I.list hx;have hlen:=r.length;refine⟨"list",_,slot_list_getitem.lookup,ht.isList.typeIs,?_⟩;refine wpAny_getItem_list_slice ht.isList hs pl pu ps h0 ?_ (by rw[zae] <;>lia)
 have hle:=slicePick_size_le ao.toArray lo hi k;refine⟨.ref s.heap.objs.size,_,I.laid (t':=s.toks) (o:=.lst (pE xs lo hi k)) (fun b ob q=>Heap.get?_push_of_some _ q) (zqR _) ?_,rfl,q _<|I.aD.fresh<|zqR _⟩;have hv:=HN r (sliceRange (sliceBounds lo hi k xs.length).1 (sliceBounds lo hi k xs.length).2.1 (sliceBounds lo hi k xs.length).2.2);have e:(slicePick ao.toArray lo hi k)=((sliceRange (sliceBounds lo hi k xs.length).1 (sliceBounds lo hi k xs.length).2.1 (sliceBounds lo hi k xs.length).2.2).filterMap (ao.toArray[·]?)).toArray:=by
  unfold slicePick;rw[zae,<-hlen]
 refine⟨?_,_,0,hv,by rw[<-e];exact Heap.get?_push_size _ rfl⟩
 have:=hv.length;unfold pE;rw[this,<-zae,<-e];have h2:ao.toArray.size=ao.length:=zae;lia
def HP(K:Frag)(te:TE)(tl th ts:TO):TE:=fun σ H Q=>te σ H fun x H1=>tl σ H1 fun l H2=>th σ H2 fun u H3=>ts σ H3 fun k H4=>tU K x l u k H4 Q
theorem Vh{lo hi:Option Expr}{to tu ts:TO}(he:PE X ee te)(hl:PO X lo to)(hu:PO X hi tu)(hs:PO X (some st) ts):PE X (.Subscript ee (.Slice lo hi (some st) p2) pos) (HP X.K te to tu ts):=by
 intro pins s σ H Q I h;refine Subscript_<|aG (he pins s σ H _ I h) fun v s1 ⟨x,H1,I1,r1,q1⟩=>?_;refine wpAny_Slice<|aG (hl pins s1 σ H1 _ I1 q1) fun vl s2 ⟨l,H2,I2,pl,q2⟩=>aG (hu pins s2 σ H2 _ I2 q2) fun vu s3 ⟨u,H3,I3,pu,q3⟩=>aG (hs pins s3 σ H3 _ I3 q3) fun vs s4 ⟨k,H4,I4,pk,q4⟩=>?_;have I5:Inv X pins σ H4 {s4 with heap:=s4.heap.push {cls:=.type "slice",data:=.fields #[vl,vu,vs]}}:=I4.kept (t':=s4.toks) fun b ob q=>Heap.get?_push_of_some _ q
 obtain⟨T,id,hT,ht,hg⟩:=Vg (sl:=s4.heap.objs.size) I5 r1 (Heap.IsSliceOf.new ..) pl pu pk q4;show wpAny (model X.prog X.w) X.A (subscriptTail ee (.Slice lo hi (some st) p2) v<|.ref s4.heap.objs.size) (EP X pins σ Q) X.xe {s4 with heap:=s4.heap.push {cls:=.type "slice",data:=.fields #[vl,vu,vs]}}
 exact tail_any (ops:=[v,.ref s4.heap.objs.size]) ht hT hg (by with_unfolding_all rfl)
end
def tV(lo:Option Int)(k:Int):Frag->TA->TE:=fun K t σ H Q=>t σ H fun vs H1=>match vs with
 |[x]=>tU K x lo none (some k) H1 Q
 |_=>False
theorem Vi{K:Frag}{ra rl rs:RE}{i k:Int}(hl:∀σ H Q,ae Γ rl σ H Q=Q (.int i) H)(hs:∀σ H Q,ae Γ rs σ H Q=Q (.int k) H):tV (some i) k K (aS Γ [ra])=HP K (ae Γ ra) (qN<|ae Γ rl) zr (qN<|ae Γ rs):=by
 funext σ H Q
 show(ae Γ ra σ H fun x H1=>tU K x (some i) none (some k) H1 Q)=ae Γ ra σ H fun x H1=>ae Γ rl σ H1 fun y H2=>∃i',y=V.int i'/\ae Γ rs σ H2 fun z H3=>∃k',z=V.int k'/\tU K x (some i') none (some k') H3 Q
 congr 1
 funext x H1
 rw[hl]
 apply propext
 constructor
 ·intro h;refine⟨i,rfl,?_⟩;rw[hs];exact⟨k,rfl,h⟩
 ·rintro⟨i',e,h⟩;cases e;rw[hs] at h;obtain⟨k',e,h⟩:=h;cases e;exact h
section
variable {CX:bZ}{S:c5}{Γ:bj}{X:Cx}{a:Expr}{ra:RE}{p q p1 p2 p3:Pos}
theorem HQ{i k:Int}{c1 c2}(G:Good CX S Γ X)(ha:PE X a (ae Γ ra))(h1:PE X (.Constant (.int i) c1 p1) (ae Γ<|.c<|.int i))(h2:PE X (.Constant (.int k) c2 p2) (ae Γ<|.c<|.int k)):PE X (.Subscript a (.Slice (some<|.Constant (.int i) c1 p1) none (some<|.Constant (.int k) c2 p2) q) p) (ae Γ<|.xt (tV (some i) k) [ra]):=by
 show PE X _ (tV (some i) k Γ.K<|aS Γ [ra]);rw[Vi (Γ:=Γ) (rl:=.c (.int i)) (rs:=.c (.int k)) (fun _ _ _=>rfl)<|fun _ _ _=>rfl,<-G.K];exact Vh ha (zt h1) EY<|zt h2
end
theorem Vj:typeLookup (.type "list_reverseiterator") "__len__"=pure none:=by rw[typeLookup_type,builtinLookup_eq_fast];kernel_rfl
theorem Vk:typeLookup (.type "list_reverseiterator") "__length_hint__"=pure (some<|.builtin "list_reverseiterator.__length_hint__"):=by rw[typeLookup_type,builtinLookup_eq_fast];kernel_rfl
section
variable {prog:Program}{w:World}{A:Around}{E:Value->Shared->Prop}{s:Shared}
theorem Vl{I:Addr}{Q:Bool->Shared->Prop}(hT:s.TypeIs (.ref I) "list_reverseiterator")(h:Q false s):wpAny (model prog w) A (Builtin.List.listLengthHint<|.ref I) Q E s:=by
 unfold Builtin.List.listLengthHint;refine wpAny_bind<|wpAny_specialOf hT Vj ?_;show wpAny _ A (specialOf (Value.ref I) (Str.ofString "__length_hint__") >>=_) _ _ _;refine wpAny_bind<|wpAny_specialOf hT Vk ?_;generalize HR:("list_reverseiterator.__length_hint__":String)=Vm
 wp_delta
 rw[show splitId Vm=some ("list_reverseiterator","__length_hint__") from by subst HR;decide+kernel]
 subst HR;refine wpAny_bind<|wpAny_isInstance (T:="list_reverseiterator") (b:=true) hT (by rw[isSubtype_type];kernel_rfl) ?_
 refine wpAny_ite_split (fun l9=>absurd l9 (by decide))<|fun _=>?_
 refine wpAny_ite_split (fun _=>?_)<|fun l9=>absurd (by decide+kernel) l9
 refine wpAny_ite_split (fun l9=>absurd l9 (by decide))<|fun _=>?_
 exact wpAny_pure h
theorem Vn{Q:Value->Shared->Prop}{I l:Addr}{items:Array Value}(hh:A.handled=none)(hit:s.heap.IsRevIter I l ((items.size:Int) - 1))(hl:s.heap.IsList l items)(jf:l≠I)(hn:items.size<=sizeLine)
  (hQ:∀h' tk ir c',(∀b o,b≠I->s.heap.get? b=some o->h'.get? b=some o)->
   h'.get? s.heap.objs.size=some {cls:=.type "list",dict:=none,data:=.seq ir c',slots:= #[]}->ItemsOf (fun i v=>items[items.size - 1 - i]?=some v) ir items.size->Q (.ref s.heap.objs.size) {s with heap:=h',toks:=tk}):
  wpAny (model prog w) A (call (.type "list") [.ref I]) Q E s:=by
 have hI:I<s.heap.objs.size:=by obtain⟨o,ho,_⟩:=hit;exact Heap.lt_size ho
 have aX:l<s.heap.objs.size:=by obtain⟨o,ho,_⟩:=hl;exact Heap.lt_size ho
 refine callType_codes (Q₁:=fun obj s₁=>obj=.ref s.heap.objs.size/\s₁={s with heap:=s.heap.push {cls:=.type "list",data:=.seq #[]}}) F.called_list (F.typeCall_list_1 _) F.entry_list_init
  (code_list_new _ ⟨rfl,rfl⟩) fun obj s₁ h₁=>?_
 obtain⟨rfl,rfl⟩:=h₁;have hS:(s.heap.push {cls:=.type "list",data:=.seq #[]}).get? s.heap.objs.size=some {cls:=.type "list",data:=.seq #[]}:=Heap.get?_push_size _ rfl;refine⟨⟨_,hS,rfl⟩,F.args_list_init_2 _ _,?_⟩;have Vo:(s.heap.push {cls:=.type "list",data:=.seq #[]}).IsRevIter I l ((items.size:Int) - 1):=hit.at fun o e=>Heap.get?_push_of_some _ e;have cT:(s.heap.push {cls:=.type "list",data:=.seq #[]}).IsList l items:=hl.at fun o e=>Heap.get?_push_of_some _ e;have Vp:∀b o,s.heap.get? b=some o->(s.heap.push {cls:=.type "list",data:=.seq #[]}).get? b=some o:=fun b o e=>Heap.get?_push_of_some _ e;have HS:∀b o,s.heap.get? b=some o->b≠s.heap.objs.size:=fun b o e=>zaq (Heap.lt_size e);generalize hS0:s.heap.objs.size=S at*;generalize s.heap.push {cls:=.type "list",data:=.seq #[]}=h1 at*;show wpAny _ _ (do let old <-Builtin.List.listItems (.ref S);Builtin.List.listUpdate (.ref S) (fun _=> #[]);letGo old.toList.reverse;Builtin.List.listExtendWith (.ref S) (.ref I) .none) _ _ {s with heap:=h1}
 refine wpAny_bind ?_;unfold Builtin.List.listItems;refine wpAny_bind<|wpAny_seqItems hS rfl<|wpAny_pure ?_;show wpAny _ _ (updateSeq S (fun _=> #[]) >>=fun _=>letGo (#[]:Array Value).toList.reverse>>=fun _=>Builtin.List.listExtendWith (.ref S) (.ref I) .none) _ _ {s with heap:=h1}
 refine wpAny_bind<|wpAny_updateSeq hS rfl ?_;have rm:=Heap.get?_update_self (Obj.mapSeq<|fun _=>(#[]:Array Value)) hS rfl;have fZ:∀b o,b≠S->h1.get? b=some o->(h1.update S<|Obj.mapSeq<|fun _=>(#[]:Array Value)).get? b=some o:=
  fun b o hb e=>(Heap.get?_update_other _ _<|Ne.symm hb).trans e
 have Ba:I≠S:=zaq hI;have HU:l≠S:=zaq aX;have Bb:=Vo.at (h':=h1.update S (Obj.mapSeq<|fun _=>(#[]:Array Value))) fun o e=>fZ I o Ba e;have dH:=cT.at (h':=h1.update S (Obj.mapSeq<|fun _=>(#[]:Array Value))) fun o e=>fZ l o HU e;refine wpAny_bind<|wpAny_letGo ?_;generalize h1.update S (Obj.mapSeq<|fun _=>(#[]:Array Value))=h2 at*;have hT:({s with heap:=h2}:Shared).TypeIs (.ref I) "list_reverseiterator":=Bb.typeIs (s:={s with heap:=h2})
 unfold Builtin.List.listExtendWith;refine wpAny_bind<|wpAny_typeOf hT ?_;have d_:Builtin.List.listSameRef (.ref S) (.ref I)=false:=by simp[Builtin.List.listSameRef,Ne.symm Ba]
 have l_:(Value.type "list_reverseiterator"==Value.type "list")=false:=by decide
 have Vq:(Value.type "list_reverseiterator"==Value.type "tuple")=false:=by decide
 simp only[d_,l_,Vq,zbk,zbc,if_false]
 refine wpAny_bind<|wpAny_pyIter_revIter Bb ?_;refine wpAny_bind<|wpAny_holding<|Vl hT ?_;have W:=(Walks.listRev (prog:=prog) (w:=w) (A:=A.in1.in1) hh I l jf items).toS;have Vr:S∉ [I,l]:=fun hm=>by
  rcases zaa.mp hm with e|hm
  ·exact Ba e.symm
  ·exact HU (zac.mp hm).symm
 refine wpAny_ite_split (fun l9=>absurd l9 (by decide))<|fun _=>wpAny_pure ⟨plainId_quiet F.plain_extend_loop _,?_⟩
 refine codeAny_extend_loopS W hn S Vr _ items.size 0 _ #[] _ rfl (zqZ _) ⟨zqZ _,?_,dH⟩ rm (ItemsOf.nil _) fun s' ir c' hm nq d9=>?_
 ·have e:(items.size:Int) - 1 - ((0:Nat):Int)=(items.size:Int) - 1:=by lia
  rw[e];exact Bb
 ·rw[Moved.eq_with hm];refine⟨rfl,hQ s'.heap s'.toks ir c' (fun b o hb e=>hm.heap b o (fun Bc=>?_)<|fZ b o (HS b o e)<|Vp b o e) nq d9⟩;rcases zaa.mp Bc with e'|Bc
  ·exact HS b o e e'
  ·exact hb (zac.mp Bc)
end
theorem HV{x:V}{u:Value}(r:RelV x u):∀{xs:List V}{us:List Value},Vals xs us->Vals (xs++[x]) (us++[u]):=fun h=>Vals.append h (.cons r .nil)
theorem HW:∀{xs:List V}{us:List Value},Vals xs us->Vals xs.reverse us.reverse
 |[],[],.nil=>.nil
 |x::xs,u::us,.cons r h=>by
  rw[zaJ,zaJ];exact HV r<|HW h
theorem Vs{ao:List Value}{acc:Array Value}(h:ItemsOf (fun i v=>ao.toArray[ao.toArray.size - 1 - i]?=some v) acc ao.toArray.size):acc.toList=ao.reverse:=by
 obtain⟨h1,h2⟩:=h;refine List.ext_getElem? fun i=>?_;by_cases hi:i<ao.length
 ·have hs:i<acc.size:=by rw[h1];simpa using hi
  have e:=h2 i acc[i] (zbm hs);rw[List.getElem?_reverse hi];have e2:acc.toList[i]?=some acc[i]:=by simp[hs]
  rw[e2]
  simpa using e.symm
 ·have hs:acc.toList.length=ao.length:=by simpa using h1
  rw[zbe (by lia),zbe (by rw[zaH];lia)]
def wJ(K:Frag):List V->Hp->VK->Prop:=fun xs H Q=>∃p ys,xs=[.ref p]/\au K H p ys/\∀l,H l=none->Q (.ref l) (upd H l<|.lst ys.reverse)
def Be:Frag->TA->TE:=fun K t=>dQ (wJ K) t
theorem boot_reversed:bootBuiltins "reversed"=some (.type "reversed"):=by decide+kernel
section
variable {CX:bZ}{S:c5}{Γ:bj}{X:Cx}{e:Expr}{es:List Expr}{x y:Str}{p p2 pos e_:Pos}{r:RE}{rs:List RE}
theorem Vt{t:TA}(hc:X.calm=true)(g1:Gl X "list")(m1:X.mg "list"=none)(g2:Gl X "reversed")(m2:X.mg "reversed"=none)(ha:PA X [e] t)(hs:starEach [e] X.env=[(false,eval e X.env)]):
  PE X (.Call (.Name "list" p) [.Call (.Name "reversed" p2) [e] [] e_] [] pos) (dQ (wJ X.K) t):=by
 intro pins s σ H Q I h;refine wpAny_Call_Name_kw<|iN I g1 m1 tL ?_ (by decide) (by decide)
 refine PyProof.Rows.callWith_type1 ?_ rfl rfl;show wpAny _ _ (spliced ((false,eval (.Call (.Name "reversed" p2) [e] [] e_) X.env)::backTo pos (starEach [] X.env))) _ _ s;refine Calls.spliced_cons ?_;refine wpAny_Call_Name_kw<|iN I g2 m2 boot_reversed ?_ (by decide) (by decide)
 refine PyProof.Rows.callWith_type1 ?_ hs rfl;refine aG (ha e_ pins s σ H _ I h) fun us s1 ⟨vs,H1,I1,r1,q1⟩=>?_;obtain⟨l,ys,rfl,hq,q⟩:=q1;obtain⟨u,rfl,ru⟩:=vals1 r1;cases ru;obtain⟨ao,rv,pl,hz⟩:=I1.list hq;have hl:=pl.isList;have aX:l<s1.heap.objs.size:=by obtain⟨o,ho,_⟩:=hl;exact Heap.lt_size ho
 refine call_reversed_list hl ?_;refine Calls.spliced_nil ?_;have HX:=rv.length;refine Vn (I.ok.hd hc) (items:=ao.toArray) ⟨_,Heap.get?_push_size _ rfl,rfl,rfl⟩ (hl.push _) (zaq aX) (by simp only[zae];lia) fun h' tk ir c' kp e d9=>?_
 have ea:=Vs d9;refine⟨.ref _,_,I1.laid (a:=(s1.heap.push (revObj l ((ao.toArray.size:Int) - 1))).objs.size) (t':=tk) (fun b o eb=>kp b o (zaq (Heap.lt_size eb)) (Heap.get?_push_of_some _ eb)) (by rw[Heap.size_push];exact zaT _)
  (show cq X.prog X.w _ h' _ (.lst ys.reverse) from⟨by rw[zaH];exact hz,ir.toList,c',by rw[ea];exact HW rv,by simpa using e⟩),rfl,q _ (I1.aD.fresh (by rw[Heap.size_push];exact zaT _))⟩
theorem Vu(G:Good CX S Γ X)(hA:PA X [e] (aS Γ [r]))(h:kB S x "list"=true:=by kernel_rfl)(h':kB S y "reversed"=true:=by kernel_rfl)(hn:fA [e]=true:=by kernel_rfl)(hq:S.md=0:=by rfl):PE X (.Call (.Name x p) [.Call (.Name y p2) [e] [] e_] [] pos) (ae Γ<|.xt Be [r]):=by
 simp only[kB,zag,decide_eq_true_eq] at h h'
 obtain⟨⟨rfl,h2⟩,h3⟩:=h;obtain⟨⟨rfl,h5⟩,h6⟩:=h';show PE X _ (dQ (wJ Γ.K)<|aS Γ [r]);rw[<-G.K];exact Vt (G.calm hq) (G.gl h2) (G.fV _ h3) (G.gl h5) (G.fV _ h6) hA<|dr (dt hn).1
end
end L2
namespace L2.B
open PySem PySem.Spec PyProof.Rows
def HY:List Str:=["changes","pairs"]
noncomputable def HZ:List RS:=
 [.kA (.cmp .Gt (.blt .len [.v 0]) (.c (.int 1))) [.v3 1 (.comp (some 2) [] .zip [(.xt (tV (some 0) 2) [.v 0]),(.xt (tV (some 1) 2) [.v 0])] none (.call 0 [.v 0,.v 1])),
  .asg 0 (.bin .Add (.v 1) (.sl (.v 0) (some (.bin .Mult (.c (.int 2)) (.blt .len [.v 1]))) none))],
 .ret (.ix (.v 0) (.c (.int 0)))]
def Vv:List Str:=["then"]
def Vw:List Str:=["len","zip"]
def H_:List Str:=["self","size"]
noncomputable def Ia:List RS:=
 [.ite (.or [(.not (.call 0 [.v 1])),(.cmp .Lt (.v 1) (.c (.int 0)))]) [.iz 0 [(.c (.str "a text has no such number of signs"))]] [],
 .dR (.v 0) "here" (.c<|.int 0),
 .dR (.v 0) "lengths" (.lst [.v 1]),
 .dR (.v 0) "parents" (.lst [.c .aC]),
 .dR (.v 0) "edges" (.lst [.c .aC]),
 .dR (.v 0) "below" (.lst [(.lst [])]),
 .dR (.v 0) "last_gone" (.lst [.c .aC])]
def Vx:List Str:=["NoPlace"]
def kS:List Str:=["self","node"]
noncomputable def Ib:List RS:=
 [.ite (.not<|.call 0 [.v 1,(.c<|.int 0),(.bin .Sub (.aM 0 "many" (.v 0) [])<|.c<|.int 1)]) [.iz 0 [(.c<|.str "there is no such node")]] []]
def Vy:List Str:=["is_between"]
def Vz:List Str:=["many"]
def Bf:List Str:=["NoNode"]
noncomputable def Ic:List RS:=
 [.ite (.cmp .NotEq (.ix (.call 0 [.v 1])<|.c<|.int 0)<|.ix (.fld (.v 0) "lengths")<|.fld (.v 0) "here") [.iz 0 [(.c<|.str "the change is over a text of another number of signs")]] []]
def Ie:List Str:=["sizes"]
noncomputable def Ig:List RS:=
 [.ret<|.blt .len [(.fld (.v 0) "parents")]]
noncomputable def Ih:List RS:=
 [.drop (.aM 0 "need_node" (.v 0) [.v 1]),
 .ret (.ix (.fld (.v 0) "parents") (.v 1))]
def Bg:List Str:=["need_node"]
noncomputable def Ii:List RS:=
 [.drop (.aM 0 "need_node" (.v 0) [.v 1]),
 .ret (.ix (.fld (.v 0) "lengths") (.v 1))]
def Ij:List Str:=["self","change","node"]
noncomputable def Ik:List RS:=
 [.drop (.aM 0 "need_over" (.v 0) [.v 1]),
 .asg 2 (.aM 1 "many" (.v 0) []),
 .drop (.bI .append (.fld (.v 0) "parents") [(.fld (.v 0) "here")]),
 .drop (.bI .append (.fld (.v 0) "edges") [(.blt .list [.v 1])]),
 .drop (.bI .append (.fld (.v 0) "lengths") [(.ix (.call 0 [.v 1])<|.c<|.int 1)]),
 .drop (.bI .append (.fld (.v 0) "below") [(.lst [])]),
 .drop (.bI .append (.fld (.v 0) "last_gone") [.c .aC]),
 .drop (.bI .append (.ix (.fld (.v 0) "below")<|.fld (.v 0) "here") [.v 2]),
 .dR (.v 0) "here" (.v 2),
 .ret (.v 2)]
def VA:List Str:=["need_over","many"]
def Bh:List Str:=["self","node","other"]
noncomputable def Bi:List RS:=
 [.ret<|.gY (.cmp .Eq (.ix (.fld (.v 0) "parents")<|.v 2)<|.v 1) (.ix (.fld (.v 0) "edges")<|.v 2)<|.call 0 [(.ix (.fld (.v 0) "edges")<|.v 1)]]
def VB:List Str:=["back"]
noncomputable def Il:List RS:=
 [.ite (.cmp .Eq (.fld (.v 0) "here") (.c (.int 0))) [.iz 0 [(.c (.str "the root has no parent"))]] [],
 .ret (.aM 0 "along" (.v 0) [(.lst [(.fld (.v 0) "here"),(.ix (.fld (.v 0) "parents") (.fld (.v 0) "here"))])])]
def Im:List Str:=["along"]
def Io:List Str:=["self","child"]
noncomputable def Ip:List RS:=
 [.asg 1 (.ix (.fld (.v 0) "last_gone") (.fld (.v 0) "here")),
 .ite (.cmp .Is (.v 1)<|.c .aC) [.iz 0 [(.c<|.str "this node has no child")]] [],
 .ret (.aM 0 "along" (.v 0) [(.lst [(.fld (.v 0) "here"),.v 1])])]
noncomputable def Iq:List RS:=
 [.ret<|.aM 0 "along" (.v 0) [(.aM 1 "way" (.v 0) [(.fld (.v 0) "here"),.v 1])]]
def VC:List Str:=["along","way"]
def Ir:List Str:=["self","node","row"]
noncomputable def Iu:List RS:=
 [.asg 2 (.lst [.v 1]),
 .kA (.cmp .NotEq (.ix (.v 2)<|.neg<|.c<|.int 1)<|.c<|.int 0) [.drop<|.bI .append (.v 2) [(.ix (.fld (.v 0) "parents")<|.ix (.v 2)<|.neg<|.c<|.int 1)]],
 .ret (.v 2)]
def Iv:List Str:=["self","one","other","ups","downs"]
noncomputable def Bj:List RS:=
 [.drop (.aM 0 "need_node" (.v 0) [.v 1]),
 .drop (.aM 0 "need_node" (.v 0) [.v 2]),
 .asg 3 (.aM 1 "upward" (.v 0) [.v 1]),
 .asg 4 (.aM 1 "upward" (.v 0) [.v 2]),
 .kA (.and [(.cmp .Gt (.blt .len [.v 3]) (.c (.int 1))),(.cmp .Gt (.blt .len [.v 4]) (.c (.int 1))),(.cmp .Eq (.ix (.v 3) (.neg (.c (.int 2)))) (.ix (.v 4) (.neg (.c (.int 2)))))]) [.drop (.bI .pop (.v 3) []),
  .drop (.bI .pop (.v 4) [])],
 .ret (.bin .Add (.v 3) (.xt Be [(.sl (.v 4) none (some (.neg (.c (.int 1)))))]))]
def VD:List Str:=["len","list","reversed"]
def VE:List Str:=["need_node","upward"]
def Iw:List Str:=["self","node","above"]
noncomputable def Iy:List RS:=
 [.asg 2 (.gY (.cmp .Eq (.v 1) (.c (.int 0))) (.lst []) (.lst [(.ix (.fld (.v 0) "parents") (.v 1))])),
 .ret (.bin .Add (.v 2) (.ix (.fld (.v 0) "below") (.v 1)))]
structure dU (K:Frag) (C:Addr):Prop where
 cl:fh K C
 gB:eW K C "here"
 rn:eW K C "lengths"
 jP:eW K C "parents"
 nu:eW K C "edges"
 tW:eW K C "below"
 wK:eW K C "last_gone"
end L2.B
namespace L2
open PySem PySem.Spec PyProof.Rows
variable {X:Cx}
end L2
namespace L2.B
open PySem PySem.Spec PyProof.Rows
end L2.B
namespace ZL
open PySem
abbrev pF(h:Heap)(z TI TO a:Addr)(f:Bool):Prop:=
 h.get? z=some {cls:=.type "zip",dict:=none,data:=.fields #[rawInt a,.bool f,.bool false,.ref TI,.ref TO],slots:= #[]}
section
variable {prog:Program}{w:World}{A:Around}{E:Value->Shared->Prop}{s:Shared}
theorem alive{a:Addr}{o:Obj}{Q:Option Obj->Shared->Prop}(ho:s.heap.get? a=some o)(h:Q (some o) s):wpAny (model prog w) A (loadIfAlive a) Q E s:=by
 have h':Q (s.heap.get? a) s:=by rw[ho];exact h
 exact fun _ _ _=>h'
theorem held{TI TO a:Addr}{f:Bool}{oa:Obj}{Q:Bool->Shared->Prop}(hz:pF s.heap z TI TO a f)(ha:s.heap.get? a=some oa)
  (hQ:∀h',pF h' z TI TO a true->Heap.SameBut z s.heap h'->Q false {s with heap:=h'}):wpAny (model prog w) A (Builtin.SmallTypes.ownedTupleIsFree<|.ref z) Q E s:=by
 unfold Builtin.SmallTypes.ownedTupleIsFree;refine wpAny_bind<|wpAny_field hz rfl (x:=rawInt a) rfl ?_;show wpAny _ _ (loadIfAlive ((a:Nat):Int).toNat>>=_) _ _ _;rw[zaB];refine wpAny_bind<|alive ha ?_
 simp only[Option.isNone_some,zbc,if_false]
 refine wpAny_bind<|wpAny_field hz rfl (x:=.bool f) rfl ?_;cases f with
 |true=>
  simp
  exact wpAny_pure<|hQ _ hz ⟨rfl,fun _ _=>rfl⟩
 |false=>
  show wpAny _ _ (if (Value.bool false !=Value.bool true)=true then _ else _) _ _ _
  rw[if_pos (by decide)]
  refine wpAny_bind<|wpAny_setField_rec hz (by simp) fun h₁ wL f_=>?_
  exact wpAny_pure<|hQ h₁ wL f_
theorem VF{TI TO a:Addr}{f:Bool}{oa:Obj}{k1 k2:Nat}{xs ys:Array Value}{x y:Value}{Q:Value->Shared->Prop}(D:ZipApart z TI TO i1 i2 l1 l2)
  (hz:pF s.heap z TI TO a f) (ha:s.heap.get? a=some oa) (cI:IsPair s.heap TI (.ref i1) (.ref i2))
  (h1:s.heap.IsListIter i1 l1 k1) (h2:s.heap.IsListIter i2 l2 k2) (cT:s.heap.IsList l1 xs) (dH:s.heap.IsList l2 ys) (hx:xs[k1]?=some x) (hy:ys[k2]?=some y)
  (hQ:∀h',pF h' z TI TO a true->h'.IsListIter i1 l1 (k1+1)->h'.IsListIter i2 l2 (k2+1)->IsPair h' s.heap.objs.size x y->h'.objs.size=s.heap.objs.size+1->
   (∀c o,c≠z->c≠i1->c≠i2->s.heap.get? c=some o->h'.get? c=some o)->Q (.ref s.heap.objs.size) {s with heap:=h'}):
  wpAny (model prog w) A (Builtin.«zip.__next__» ⟨[.ref z],[]⟩) (fun fin s'=>∃v,fin=.done (.ret v)/\Q v s') E s:=by
 show wpAny _ _ (field (.ref z) 2>>=_) _ _ _;refine wpAny_bind<|wpAny_field hz rfl (x:=.bool false) rfl ?_;show wpAny _ _ (field (.ref z) 3>>=_) _ _ _;refine wpAny_bind<|wpAny_field hz rfl (x:=.ref TI) rfl ?_;refine wpAny_bind<|wpAny_seqItems cI rfl ?_;show wpAny _ _ (Builtin.SmallTypes.ownedTupleIsFree (.ref z) >>=_) _ _ _;refine wpAny_bind<|held hz ha fun h₁ wL f_=>?_
 simp only[zbc,if_false]
 refine wpAny_bind ?_;rw[<-Array.forIn_toList]
 simp only[List.forIn_cons,List.forIn_nil]
 refine wpAny_bind<|wpAny_bind<|wpAny_holding ?_;show wpAny _ _ (Builtin.SmallTypes.nextOf (.ref i1) >>=_) _ _ _;refine wpAny_bind<|wpAny_nextOf_list_item (h1.extBut f_.extBut D.i1z) (cT.extBut f_.extBut D.l1z) hx fun h₂ Iz jQ=>wpAny_pure (wpAny_pure ?_);refine wpAny_bind<|wpAny_bind<|wpAny_holding ?_;show wpAny _ _ (Builtin.SmallTypes.nextOf (.ref i2) >>=_) _ _ _;refine wpAny_bind (wpAny_nextOf_list_item ((h2.extBut f_.extBut D.i2z).extBut jQ.extBut D.i12.symm)
  ((dH.extBut f_.extBut D.l2z).extBut jQ.extBut D.l2i1) hy fun h₃ VG wM=>wpAny_pure (wpAny_pure (wpAny_pure ?_)))
 refine wpAny_bind<|wpAny_newTuple (hsz:=d4) ?_;have hsz:h₃.objs.size=s.heap.objs.size:=by rw[wM.1,jQ.1,f_.1]
 have VH:∀c o,c≠z->c≠i1->c≠i2->s.heap.get? c=some o->h₃.get? c=some o:=fun c o c1 c3 c4 e=>wM.extBut _ _ c4 (jQ.extBut _ _ c3<|f_.extBut _ _ c1 e);have VI:pF h₃ z TI TO a true:=wM.extBut _ _ D.i2z.symm (jQ.extBut _ _ D.i1z.symm wL);refine wpAny_pure ⟨_,rfl,?_⟩;show Q (.ref h₃.objs.size) _;have q:=hQ (h₃.push {cls:=.type "tuple",data:=.seq #[x,y]}) (Heap.get?_push_of_some _ VI) ((Iz.extBut wM.extBut D.i12).at fun o e=>Heap.get?_push_of_some _ e) (VG.at fun o e=>Heap.get?_push_of_some _ e) (by rw[<-hsz];exact Heap.get?_push_size _ rfl) (by rw[Heap.size_push,hsz]) fun c o c1 c2 c3 e=>Heap.get?_push_of_some _ (VH c o c1 c2 c3 e)
 rw[<-hsz] at q;exact q
theorem VJ{TI TO a:Addr}{f:Bool}{oa:Obj}{k1 k2:Nat}{xs ys:Array Value}{Q:Fin->Shared->Prop}(hh:A.handled=none)(D:ZipApart z TI TO i1 i2 l1 l2)
  (hz:pF s.heap z TI TO a f) (ha:s.heap.get? a=some oa) (cI:IsPair s.heap TI (.ref i1) (.ref i2))
  (h1:s.heap.IsListIter i1 l1 k1) (h2:s.heap.IsListIter i2 l2 k2) (cT:s.heap.IsList l1 xs) (dH:s.heap.IsList l2 ys) (rp:xs[k1]?=none\/ys[k2]?=none)
  (hE:∀h' e,(∀c o,c≠z->c≠i1->c≠i2->s.heap.get? c=some o->h'.get? c=some o)->(∃o,h'.get? e=some o/\o.cls=.type "StopIteration")->E (.ref e) {s with heap:=h'}):
  wpAny (model prog w) A (Builtin.«zip.__next__» ⟨[.ref z],[]⟩) Q E s:=by
 show wpAny _ _ (field (.ref z) 2>>=_) _ _ _;refine wpAny_bind<|wpAny_field hz rfl (x:=.bool false) rfl ?_;show wpAny _ _ (field (.ref z) 3>>=_) _ _ _;refine wpAny_bind<|wpAny_field hz rfl (x:=.ref TI) rfl ?_;refine wpAny_bind<|wpAny_seqItems cI rfl ?_;show wpAny _ _ (Builtin.SmallTypes.ownedTupleIsFree (.ref z) >>=_) _ _ _;refine wpAny_bind<|held hz ha fun h₁ wL f_=>?_
 simp only[zbc,if_false]
 refine wpAny_bind ?_;rw[<-Array.forIn_toList]
 simp only[List.forIn_cons,List.forIn_nil]
 refine wpAny_bind<|wpAny_bind<|wpAny_holding ?_;show wpAny _ _ (Builtin.SmallTypes.nextOf (.ref i1) >>=_) _ _ _;cases hx:xs[k1]? with
 |none=>
  exact wpAny_bind<|wpAny_nextOf_list_end hh (h1.extBut f_.extBut D.i1z) (cT.extBut f_.extBut D.l1z) hx fun h₂ e jQ he=>hE h₂ e (fun c o c1 c3 _ x=>jQ _ _ c3<|f_.extBut _ _ c1 x) he
 |some x=>
  have hy:ys[k2]?=none:=by rcases rp with h|h;rw[hx] at h;cases h;exact h
  refine wpAny_bind<|wpAny_nextOf_list_item (h1.extBut f_.extBut D.i1z) (cT.extBut f_.extBut D.l1z) hx fun h₂ Iz jQ=>wpAny_pure (wpAny_pure ?_);refine wpAny_bind<|wpAny_bind<|wpAny_holding ?_;show wpAny _ _ (Builtin.SmallTypes.nextOf (.ref i2) >>=_) _ _ _;exact wpAny_bind (wpAny_nextOf_list_end hh ((h2.extBut f_.extBut D.i2z).extBut jQ.extBut D.i12.symm)
   ((dH.extBut f_.extBut D.l2z).extBut jQ.extBut D.l2i1) hy fun h₄ e VL he=>hE h₄ e (fun c o c1 c3 c4 x=>VL _ _ c4 (jQ.extBut _ _ c3 (f_.extBut _ _ c1 x))) he)
end
section
variable {prog:Program}{w:World}{A:Around}{E:Value->Shared->Prop}{s:Shared}
theorem VM:typeLookup (.type "zip") "__len__"=pure none:=by rw[typeLookup_type,builtinLookup_eq_fast];kernel_rfl
theorem VN:typeLookup (.type "zip") "__length_hint__"=pure none:=by rw[typeLookup_type,builtinLookup_eq_fast];kernel_rfl
theorem VO{r:Addr}(hT:s.TypeIs (.ref r) "zip"){Q:Bool->Shared->Prop}(h:Q true s):wpAny (model prog w) A (Builtin.List.listLengthHint<|.ref r) Q E s:=by
 unfold Builtin.List.listLengthHint;refine wpAny_bind<|wpAny_specialOf hT VM ?_;show wpAny _ A (specialOf (Value.ref r) (Str.ofString "__length_hint__") >>=_) _ _ _;refine wpAny_bind<|wpAny_specialOf hT VN ?_;exact wpAny_pure h
def nz(h:Heap)(z TI TO i1 i2 l1 l2 S:Addr)(i:Nat):Prop:=IsPair h TI (.ref i1) (.ref i2)/\h.IsListIter i1 l1 i/\h.IsListIter i2 l2 i/\
 ((IsZip h z TI TO .none/\∃a b,IsPair h TO a b)\/∃a f oa,pF h z TI TO a f/\h.get? a=some oa/\a≠z/\a≠TO/\a≠i1/\a≠i2/\a≠S)
theorem VP{TI TO S:Addr}{xs ys:Array Value}{x y:Value}{Q:Option Value->Shared->Prop}(D:ZipApart z TI TO i1 i2 l1 l2)(st:nz s.heap z TI TO i1 i2 l1 l2 S i)(hS:S<s.heap.objs.size)
  (cT:s.heap.IsList l1 xs) (dH:s.heap.IsList l2 ys) (hx:xs[i]?=some x) (hy:ys[i]?=some y)
  (hQ:∀h',nz h' z TI TO i1 i2 l1 l2 S (i+1)->IsPair h' s.heap.objs.size x y->h'.objs.size=s.heap.objs.size+1->(∀c o,c≠z->c≠TO->c≠i1->c≠i2->s.heap.get? c=some o->h'.get? c=some o)->Q (some<|.ref s.heap.objs.size) {s with heap:=h'}):
  wpAny (model prog w) A (pyNext<|.ref z) Q E s:=by
 obtain⟨cI,h1,h2,⟨hz,a,b,cO⟩|⟨a,f,oa,hz,ha,n1,n2,n3,n4,n5⟩⟩:=st
 ·have lt:∀{c o},s.heap.get? c=some o->s.heap.objs.size≠c:=fun e=>zaE (Heap.lt_size e);refine wpAny_pyNext_zip_item D hz cI cO h1 h2 cT dH hx hy fun h' a1 a2 a3 a4 a5 a6 a7=>hQ h' ⟨a7 _ _ D.TIz D.TITO D.TIi1 D.TIi2 cI,a3,a4,.inr ⟨_,false,_,a1,a5,lt hz,lt cO,?_,?_,zaE hS⟩⟩ a5 a6 a7
  ·obtain⟨_,e,_⟩:=h1;exact lt e
  ·obtain⟨_,e,_⟩:=h2;exact lt e
 ·have hT:s.TypeIs (.ref z) "zip":=⟨_,hz,rfl⟩;unfold pyNext;exact wpAny_bind (wpAny_attempt (wpAny_callSpecial?_slot (name:=Str.ofString "__next__") hT F.slot_zip_next
   (wpAny_call_entry F.slot_zip_next hT F.entry_zip_next
    (VF D hz ha cI h1 h2 cT dH hx hy fun h' a1 a3 a4 a5 a6 a7=>wpAny_pure (hQ h' ⟨a7 _ _ D.TIz D.TIi1 D.TIi2 cI,a3,a4,.inr ⟨a,true,oa,a1,a7 _ _ n1 n3 n4 ha,n1,n2,n3,n4,n5⟩⟩ a5 a6 fun c o c1 _ c3 c4 e=>a7 c o c1 c3 c4 e)) (F.args_zip_next_1 _))))
theorem VQ{TI TO S:Addr}{xs ys:Array Value}{Q:Option Value->Shared->Prop}(hh:A.handled=none)(D:ZipApart z TI TO i1 i2 l1 l2)(st:nz s.heap z TI TO i1 i2 l1 l2 S i)
  (cT:s.heap.IsList l1 xs) (dH:s.heap.IsList l2 ys) (rp:xs[i]?=none\/ys[i]?=none)
  (hQ:∀h',(∀c o,c≠z->c≠TO->c≠i1->c≠i2->s.heap.get? c=some o->h'.get? c=some o)->Q none {s with heap:=h'}):wpAny (model prog w) A (pyNext<|.ref z) Q E s:=by
 obtain⟨cI,h1,h2,⟨hz,a,b,cO⟩|⟨a,f,oa,hz,ha,n1,n2,n3,n4,n5⟩⟩:=st
 ·exact wpAny_pyNext_zip_end hh D hz cI cO h1 h2 cT dH rp hQ
 ·have hT:s.TypeIs (.ref z) "zip":=⟨_,hz,rfl⟩;unfold pyNext;refine wpAny_bind (wpAny_attempt (wpAny_callSpecial?_slot (name:=Str.ofString "__next__") hT F.slot_zip_next
   (wpAny_call_entry F.slot_zip_next hT F.entry_zip_next (VJ hh D hz ha cI h1 h2 cT dH rp fun h' e hk he=>?_) (F.args_zip_next_1 _))))
  obtain⟨o,ho,hc⟩:=he;refine wpAny_bind<|wpAny_isInstance (T:="StopIteration") (b:=true) ⟨o,ho,hc⟩ isSubtype_stop ?_;exact wpAny_pure<|hQ _ fun c o c1 _ c3 c4 e=>hk c o c1 c3 c4 e
theorem nz.keep{h h':Heap}{TI TO S:Addr}(st:nz h z TI TO i1 i2 l1 l2 S i)(hk:∀b o,b≠S->h.get? b=some o->h'.get? b=some o)(n:z≠S/\TI≠S/\TO≠S/\i1≠S/\i2≠S):nz h' z TI TO i1 i2 l1 l2 S i:=by
 obtain⟨cI,h1,h2,⟨hz,a,b,cO⟩|⟨a,f,oa,hz,ha,n1,n2,n3,n4,n5⟩⟩:=st
 ·exact⟨hk _ _ n.2.1 cI,h1.at fun o e=>hk _ o n.2.2.2.1 e,h2.at fun o e=>hk _ o n.2.2.2.2 e,.inl ⟨hk _ _ n.1 hz,a,b,hk _ _ n.2.2.1 cO⟩⟩
 ·exact⟨hk _ _ n.2.1 cI,h1.at fun o e=>hk _ o n.2.2.2.1 e,h2.at fun o e=>hk _ o n.2.2.2.2 e,.inr ⟨a,f,oa,hk _ _ n.1 hz,hk _ _ n5 ha,n1,n2,n3,n4,n5⟩⟩
end
section
variable {prog:Program}{w:World}{A:Around}{s:Shared}{R:Result->Shared->Prop}{xs ys:Array Value}
structure ZG (xs ys:Array Value) (lo:Nat) (h:Heap) (as:List Addr):Prop where
 rise:as.Pairwise (· < ·)
 above:∀a∈as,@LE.le Nat _ lo a
 pairs:∀(j:Nat) (a:Addr),as[j]?=some a->∃x y,xs[j]?=some x/\ys[j]?=some y/\IsPair h a x y
theorem VR{S TI TO:Addr}{lo:Nat}(hh:A.handled=none)(D:ZipApart z TI TO i1 i2 l1 l2)(nS:z≠S/\TI≠S/\TO≠S/\i1≠S/\i2≠S)(hl: @LT.lt Nat _ z lo/\ @LT.lt Nat _ TO lo/\ @LT.lt Nat _ i1 lo/\ @LT.lt Nat _ i2 lo/\ @LT.lt Nat _ S lo)
  (n1:l1≠S) (n2:l2≠S) (hn:min xs.size ys.size<=sizeLine) (res:Value) {h₁:Heap}
  (hR:∀h' tk acc c as,(∀b o,b≠S->b≠z->b≠TO->b≠i1->b≠i2->h₁.get? b=some o->h'.get? b=some o)->h'.get? S=some {cls:=.type "list",dict:=none,data:=.seq acc c,slots:= #[]}->as.length=min xs.size ys.size->ZG xs ys lo h' as->
   acc.toList=as.map Value.ref->R (.ok (.ret res)) {s with heap:=h',toks:=tk}):
  ∀(k i:Nat) (h:Heap) (tk c:Nat) (acc:Array Value) (as:List Addr),min xs.size ys.size - i=k->i<=min xs.size ys.size->nz h z TI TO i1 i2 l1 l2 S i->h.IsList l1 xs->h.IsList l2 ys->(∀b o,b≠S->b≠z->b≠TO->b≠i1->b≠i2->h₁.get? b=some o->h.get? b=some o)->
   h.get? S=some {cls:=.type "list",dict:=none,data:=.seq acc c,slots:= #[]}->acc.toList=as.map Value.ref->as.length=i->ZG xs ys lo h as-> @LE.le Nat _ lo h.objs.size->
   codeAny (model prog w) A (.builtin "list.extend.loop" ⟨[.ref S,.ref z,res],[]⟩) R {s with heap:=h,toks:=tk}:=by
 obtain⟨q1,q2,q3,q4,q5⟩:=hl;have IA:∀{a:Addr},@LE.le Nat _ lo a->a≠z/\a≠TO/\a≠i1/\a≠i2/\a≠S:=fun h=>⟨zaE<|zap q1 h,zaE<|zap q2 h,zaE<|zap q3 h,zaE<|zap q4 h,zaE<|zap q5 h⟩;intro k
 induction k with
 |zero=>
  intro i h tk c acc as hk hi gQ wN pG Bk hS d9 pH hG vI;have qY:i=min xs.size ys.size:=by lia
  refine codeAny_builtin PySem.F.entry_extend_loop ?_;rw[Around.under_plainId PySem.F.plain_extend_loop _];show wpAny _ A.in1 (pyNext (.ref z) >>=_) _ _ _;have rp:xs[i]?=none\/ys[i]?=none:=by
   rcases Nat.le_total xs.size ys.size with q|q
   ·exact .inl (Array.getElem?_eq_none (by lia))
   ·exact .inr (Array.getElem?_eq_none (by lia))
  refine wpAny_bind<|VQ (s:={s with heap:=h,toks:=tk}) (A:=A.in1) hh D gQ wN pG rp fun h' he=>?_
  refine wpAny_pure<|hR h' tk acc c as (fun b o b0 b1 b2 b3 b4 e=>he b o b1 b2 b3 b4<|Bk b o b0 b1 b2 b3 b4 e) (he S _ nS.1.symm nS.2.2.1.symm nS.2.2.2.1.symm nS.2.2.2.2.symm hS) (by lia) ⟨hG.rise,hG.above,fun j a hj=>?_⟩ d9
  obtain⟨x,y,e1,e2,e3⟩:=hG.pairs j a hj;obtain⟨f1,f2,f3,f4,f5⟩:=IA (hG.above a<|zan hj);exact⟨x,y,e1,e2,he a _ f1 f2 f3 f4 e3⟩
 |succ k ih=>
  intro i h tk c acc as hk hi gQ wN pG Bk hS d9 pH hG vI;have VS:i<xs.size:=by lia
  have VT:i<ys.size:=by lia
  have hsz:acc.size=i:=by rw[<-zbE,d9,zad,pH]
  refine codeAny_builtin PySem.F.entry_extend_loop ?_;rw[Around.under_plainId PySem.F.plain_extend_loop _];show wpAny _ A.in1 (pyNext (.ref z) >>=_) _ _ _;refine wpAny_bind<|VP (s:={s with heap:=h,toks:=tk}) (S:=S) D gQ (Heap.lt_size hS) wN pG (zbm VS) (zbm VT) fun h' VU ht hz rq=>?_
  dsimp only at ht hz rq⊢
  have nq:=rq S _ nS.1.symm nS.2.2.1.symm nS.2.2.2.1.symm nS.2.2.2.2.symm hS;have up:∀b o,b≠S->h'.get? b=some o->(h'.update S (Obj.mapSeq (·.push (Value.ref h.objs.size)))).get? b=some o:=fun b o hb e=>(Heap.get?_update_other _ _<|Ne.symm hb).trans e;have IB:S<h.objs.size:=Heap.lt_size hS;show wpAny _ A.in1 (updateSeq S (·.push (Value.ref h.objs.size)) >>=_) _ _ _;refine wpAny_bind ?_;refine wpAny_updateSeq nq rfl (wpAny_pure ⟨plainId_quiet PySem.F.plain_extend_loop _,ih (i+1) _ tk _ (acc.push (Value.ref h.objs.size)) (as++[h.objs.size]) (by lia) (by lia) (VU.keep up nS) (wN.at fun o e=>up l1 o n1 (rq l1 o D.l1z D.l1TO D.l1i1 D.l1i2 e)) (pG.at fun o e=>up l2 o n2 (rq l2 o D.l2z D.l2TO D.l2i1 D.l2i2 e))
   (fun b o b0 b1 b2 b3 b4 e=>up b o b0 (rq b o b1 b2 b3 b4 (Bk b o b0 b1 b2 b3 b4 e))) (Heap.get?_update_self _ nq rfl) (by rw[Array.toList_push,d9,zao];rfl) (by rw[zqA,pH];rfl) ⟨?_,?_,?_⟩ ?_⟩) (by rw[hsz];lia) (by show(acc.push (Value.ref h.objs.size)).size<=sizeLine+1;rw[Array.size_push,hsz];lia)
  ·refine List.pairwise_append.mpr ⟨hG.rise,List.pairwise_singleton _ _,fun a ha b hb=>?_⟩;rw[zac.mp hb];obtain⟨j,hj⟩:=zaK.mp ha;obtain⟨_,_,_,_,e⟩:=hG.pairs j a hj;exact Heap.lt_size e
  ·intro a ha;rcases zai.mp ha with ha|ha
   ·exact hG.above a ha
   ·rw[zac.mp ha];exact vI
  ·intro j b hj;rcases Nat.lt_trichotomy j as.length with h1|h1|h1
   ·rw[zaA h1] at hj;obtain⟨x',y',e1,e2,e3⟩:=hG.pairs j b hj;obtain⟨f1,f2,f3,f4,f5⟩:=IA (hG.above b<|zan hj);exact⟨x',y',e1,e2,up b _ f5<|rq b _ f1 f2 f3 f4 e3⟩
   ·subst h1;have hb:h.objs.size=b:=by simpa using hj
    subst hb;refine⟨xs[as.length],ys[as.length],?_,?_,up _ _ (zaE IB) ?_⟩
    ·exact zbm (by lia)
    ·exact zbm (by lia)
    ·subst pH;exact ht
   ·have VW:(as++[h.objs.size])[j]?=none:=zbe (by rw[zqA,zaL];lia)
    rw[VW] at hj;cases hj
  ·have e:(h'.update S (Obj.mapSeq (·.push (Value.ref h.objs.size)))).get? h.objs.size=_:=up _ _ (zaE IB) ht;exact zbq<|Nat.lt_of_le_of_lt vI<|Heap.lt_size e
end
section
variable {prog:Program}{w:World}{A:Around}{E:Value->Shared->Prop}{s:Shared}{xs ys:Array Value}
theorem VX{TI TO S:Addr}{R:Result->Shared->Prop}(hh:A.handled=none)(D:ZipApart z TI TO i1 i2 l1 l2)(nS:z≠S/\TI≠S/\TO≠S/\i1≠S/\i2≠S)(n1:l1≠S)(n2:l2≠S)(hn:min xs.size ys.size<=sizeLine)
  (hz:IsZip s.heap z TI TO .none) (cI:IsPair s.heap TI (.ref i1) (.ref i2)) (cO:∃a b,IsPair s.heap TO a b) (h1:s.heap.IsListIter i1 l1 0) (h2:s.heap.IsListIter i2 l2 0) (cT:s.heap.IsList l1 xs) (dH:s.heap.IsList l2 ys)
  (res:Value) (c₀:Nat) (hS:s.heap.get? S=some {cls:=.type "list",data:=.seq #[] c₀})
  (hR:∀h' tk acc c as,(∀b o,b≠S->b≠z->b≠TO->b≠i1->b≠i2->s.heap.get? b=some o->h'.get? b=some o)->h'.get? S=some {cls:=.type "list",dict:=none,data:=.seq acc c,slots:= #[]}->as.length=min xs.size ys.size->ZG xs ys s.heap.objs.size h' as->
   acc.toList=as.map Value.ref->R (.ok (.ret res)) {s with heap:=h',toks:=tk}):
  wpAny (model prog w) A.in1 (Builtin.List.listExtendWith (.ref S) (.ref z) res)
   (fun fin s'=>match fin with|.done f=>R (.ok f) s'|.again c'=>c'.quiet=true/\codeAny (model prog w) A c' R s') (fun e s'=>R (.error e) s') s:=by
 have hT:s.TypeIs (.ref z) "zip":=⟨_,hz,rfl⟩;unfold Builtin.List.listExtendWith;refine wpAny_bind<|wpAny_typeOf hT ?_;have e1:Builtin.List.listSameRef (.ref S) (.ref z)=false:=by simp[Builtin.List.listSameRef,nS.1.symm]
 have e2:(Value.type "zip"==Value.type "list")=false:=by decide
 have e3:(Value.type "zip"==Value.type "tuple")=false:=by decide
 simp only[e1,e2,e3,zbk,zbc,if_false]
 refine wpAny_bind<|wpAny_pyIter_zip hz ?_;refine wpAny_bind<|wpAny_holding<|VO hT ?_;show wpAny _ A.in1 (rule "list.extend.makes-room" >>=fun _=>Builtin.List.listTouch (.ref S) >>=fun _=>
  again (.builtin "list.extend.loop" ⟨[.ref S,.ref z,res],[]⟩)) _ _ _
 refine wpAny_bind<|wpAny_rule ?_;refine wpAny_bind ?_;show wpAny _ A.in1 (updateSeq S (·.push .none) >>=fun _=>updateSeq S (·.pop)) _ _ _;refine wpAny_bind<|wpAny_updateSeq hS rfl ?_;have rm:=Heap.get?_update_self (Obj.mapSeq (·.push Value.none)) hS rfl;refine wpAny_updateSeq (hz:=by seq_fits) rm rfl ?_
 have VY:=Heap.get?_update_self (Obj.mapSeq (·.pop)) rm rfl;have fZ:∀b o,b≠S->s.heap.get? b=some o->((s.heap.update S (Obj.mapSeq (·.push Value.none))).update S (Obj.mapSeq (·.pop))).get? b=some o:=
  fun b o hb e=>(Heap.get?_update_other _ _<|Ne.symm hb).trans ((Heap.get?_update_other _ _<|Ne.symm hb).trans e)
 have lt:∀{c o},s.heap.get? c=some o-> @LT.lt Nat _ c s.heap.objs.size:=fun e=>Heap.lt_size e;obtain⟨a,b,cO⟩:=cO;refine wpAny_pure ⟨plainId_quiet F.plain_extend_loop _,VR (s:=s) (h₁:=s.heap) (lo:=s.heap.objs.size) hh D nS ⟨lt hz,lt cO,?_,?_,lt hS⟩ n1 n2 hn res hR _ 0 _ _ _ _ [] rfl (zqZ _)
  (nz.keep ⟨cI,h1,h2,.inl ⟨hz,a,b,cO⟩⟩ fZ nS) (cT.at fun o e=>fZ l1 o n1 e) (dH.at fun o e=>fZ l2 o n2 e) (fun b o b0 _ _ _ _ e=>fZ b o b0 e) VY rfl rfl ⟨List.Pairwise.nil,(fun _ ha=>nomatch ha),(fun j a hj=>by simp at hj)⟩ ?_⟩
 ·obtain⟨_,e,_⟩:=h1;exact lt e
 ·obtain⟨_,e,_⟩:=h2;exact lt e
 ·rw[Heap.size_update,Heap.size_update];exact zqR _
theorem VZ{TI TO S:Addr}{R:Result->Shared->Prop}(hh:A.handled=none)(D:ZipApart z TI TO i1 i2 l1 l2)(nS:z≠S/\TI≠S/\TO≠S/\i1≠S/\i2≠S)(n1:l1≠S)(n2:l2≠S)(hn:min xs.size ys.size<=sizeLine)
  (hz:IsZip s.heap z TI TO .none) (cI:IsPair s.heap TI (.ref i1) (.ref i2)) (cO:∃a b,IsPair s.heap TO a b) (h1:s.heap.IsListIter i1 l1 0) (h2:s.heap.IsListIter i2 l2 0) (cT:s.heap.IsList l1 xs) (dH:s.heap.IsList l2 ys)
  (hS:s.heap.get? S=some {cls:=.type "list",data:=.seq #[]})
  (hR:∀h' tk acc c as,(∀b o,b≠S->b≠z->b≠TO->b≠i1->b≠i2->s.heap.get? b=some o->h'.get? b=some o)->h'.get? S=some {cls:=.type "list",dict:=none,data:=.seq acc c,slots:= #[]}->as.length=min xs.size ys.size->ZG xs ys s.heap.objs.size h' as->
   acc.toList=as.map Value.ref->R (.ok (.ret .none)) {s with heap:=h',toks:=tk}):
  wpAny (model prog w) A.in1 (Builtin.«list.__init__» ⟨[.ref S,.ref z],[]⟩)
   (fun fin s'=>match fin with|.done f=>R (.ok f) s'|.again c'=>c'.quiet=true/\codeAny (model prog w) A c' R s') (fun e s'=>R (.error e) s') s:=by
 show wpAny _ _ (do let old <-Builtin.List.listItems (.ref S);Builtin.List.listUpdate (.ref S) (fun _=> #[]);letGo old.toList.reverse;Builtin.List.listExtendWith (.ref S) (.ref z) .none) _ _ s
 refine wpAny_bind ?_;unfold Builtin.List.listItems;refine wpAny_bind<|wpAny_seqItems hS rfl<|wpAny_pure ?_;show wpAny _ _ (updateSeq S (fun _=> #[]) >>=fun _=>letGo (#[]:Array Value).toList.reverse>>=fun _=>Builtin.List.listExtendWith (.ref S) (.ref z) .none) _ _ s;refine wpAny_bind<|wpAny_updateSeq hS rfl ?_;have rm:=Heap.get?_update_self (Obj.mapSeq<|fun _=>(#[]:Array Value)) hS rfl;have fZ:∀b o,b≠S->s.heap.get? b=some o->(s.heap.update S<|Obj.mapSeq<|fun _=>(#[]:Array Value)).get? b=some o:=
  fun b o hb e=>(Heap.get?_update_other _ _<|Ne.symm hb).trans e
 refine wpAny_bind<|wpAny_letGo ?_;obtain⟨a,b,cO⟩:=cO;refine VX hh D nS n1 n2 hn (fZ _ _ nS.1 hz) (fZ _ _ nS.2.1 cI) ⟨a,b,fZ _ _ nS.2.2.1 cO⟩ (h1.at fun o e=>fZ _ o nS.2.2.2.1 e) (h2.at fun o e=>fZ _ o nS.2.2.2.2 e) (cT.at fun o e=>fZ l1 o n1 e) (dH.at fun o e=>fZ l2 o n2 e) .none _ rm fun h' tk acc c as hk nq hl hG d9=>?_;rw[Heap.size_update] at hG;exact hR h' tk acc c as (fun b o b0 b1 b2 b3 b4 e=>hk b o b0 b1 b2 b3 b4<|fZ b o b0 e) nq hl hG d9
theorem V0{TI TO:Addr}{Q:Value->Shared->Prop}(hh:A.handled=none)(D:ZipApart z TI TO i1 i2 l1 l2)(hn:min xs.size ys.size<=sizeLine)
  (hz:IsZip s.heap z TI TO .none) (cI:IsPair s.heap TI (.ref i1) (.ref i2)) (cO:∃a b,IsPair s.heap TO a b) (h1:s.heap.IsListIter i1 l1 0) (h2:s.heap.IsListIter i2 l2 0) (cT:s.heap.IsList l1 xs) (dH:s.heap.IsList l2 ys)
  (hQ:∀h' tk acc c as,(∀b o,b≠z->b≠TO->b≠i1->b≠i2->s.heap.get? b=some o->h'.get? b=some o)->h'.get? s.heap.objs.size=some {cls:=.type "list",dict:=none,data:=.seq acc c,slots:= #[]}->as.length=min xs.size ys.size->ZG xs ys (s.heap.objs.size+1) h' as->
   acc.toList=as.map Value.ref->Q (.ref s.heap.objs.size) {s with heap:=h',toks:=tk}):
  wpAny (model prog w) A (call (.type "list") [.ref z]) Q E s:=by
 refine callType_codes (Q₁:=fun obj s₁=>obj=.ref s.heap.objs.size/\s₁={s with heap:=s.heap.push {cls:=.type "list",data:=.seq #[]}}) PySem.F.called_list (PySem.F.typeCall_list_1 _) PySem.F.entry_list_init
  (code_list_new _ ⟨rfl,rfl⟩) fun obj s₁ h₁=>?_
 obtain⟨rfl,rfl⟩:=h₁;have hS:(s.heap.push {cls:=.type "list",data:=.seq #[]}).get? s.heap.objs.size=some {cls:=.type "list",data:=.seq #[]}:=Heap.get?_push_size _ rfl;have ne:∀{c o},s.heap.get? c=some o->c≠s.heap.objs.size:=fun e=>zaq (Heap.lt_size e);obtain⟨a,b,cO⟩:=cO;have p:∀c o,s.heap.get? c=some o->(s.heap.push {cls:=.type "list",data:=.seq #[]}).get? c=some o:=fun c o e=>Heap.get?_push_of_some _ e;refine⟨⟨_,hS,rfl⟩,PySem.F.args_list_init_2 _ _,VZ (A:=A.in1) hh D ⟨ne hz,ne cI,ne cO,?_,?_⟩ ?_ ?_ hn (p _ _ hz) (p _ _ cI) ⟨a,b,p _ _ cO⟩ (h1.at fun o e=>p _ o e) (h2.at fun o e=>p _ o e) (cT.at fun o e=>p _ o e) (dH.at fun o e=>p _ o e) hS fun h' tk acc c as hk nq hl hG d9=>?_⟩
 ·obtain⟨_,e,_⟩:=h1;exact ne e
 ·obtain⟨_,e,_⟩:=h2;exact ne e
 ·obtain⟨_,e,_⟩:=cT;exact ne e
 ·obtain⟨_,e,_⟩:=dH;exact ne e
 rw[Heap.size_push] at hG;exact⟨rfl,hQ h' tk acc c as (fun b o b1 b2 b3 b4 e=>hk b o (ne e) b1 b2 b3 b4<|p b o e) nq hl hG d9⟩
end
end ZL
namespace L2
open PySem PySem.Spec PyProof.Rows
def Bl(K:Frag):List V->Hp->VK->Prop:=fun vs H Q=>∃a b xs ys,vs=[.ref a,.ref b]/\au K H a xs/\au K H b ys/\∀(ts:List Addr) (l:Addr) (H':Hp),ts.length=min xs.length ys.length->ay H H'->(∀t∈ts,H t=none)->H l=none->
 (∀(i:Nat) (t:Addr),ts[i]?=some t->∃u v,xs[i]?=some u/\ys[i]?=some v/\H' t=some (.tup [u,v]))->H' l=some (.lst<|ts.map V.ref)->Q (.ref l) H'
def IC:Frag->TA->TE:=fun K t=>dQ (Bl K) t
section
variable {X:Cx}{pins:List (Addr×Obj)}{σ:St}{H:Hp}{s s1:Shared}
theorem ID{H0:Hp}(I0:Inv X pins σ H0 s1):∀(ts:List Addr) {H:Hp},Inv X pins σ H s->(∀t∈ts,s1.heap.objs.size<=t/\H t=none/\∃u v a b,RelV a u/\RelV b v/\s.heap.IsTuple t #[u,v])->ts.Nodup->
  ∃H',Inv X pins σ H' s/\ay H H'/\(∀t∈ts,∃u v a b,RelV a u/\RelV b v/\s.heap.IsTuple t #[u,v]/\H' t=some (.tup [a,b]))/\∀c,c∉ts->H' c=H c
 |[],H,I,_,_=>⟨H,I,fun _ _ e=>e,(fun _ h=>nomatch h),fun _ _=>rfl⟩
 |T::ts,H,I,h,nd=>by
  obtain⟨jJ,fT,u,v,a,b,ra,rb,tT⟩:=h T zax;have I2:Inv X pins σ (upd H T<|.tup [a,b]) s:=by
   refine Inv.vP I fT (zat I0.sz jJ) (zaE<|zap I0.lt jJ) (fun x c e q=>?_) (fun p hp q=>?_) ⟨by show 2<=sizeLine;decide,[u,v],.cons ra<|.cons rb .nil,tT⟩
   ·obtain⟨v',q'⟩:=I0.cell x c e;have:=q'.lt;rw[q] at this;exact absurd (zap this jJ)<|zaz _
   ·have:=Heap.lt_size (I0.pin p hp).1;rw[q] at this;exact absurd (zap this jJ)<|zaz _
  have nT:T∉ts:=(zaO.mp nd).1;obtain⟨H',I',sm,al,ot⟩:=ID I0 ts I2 (fun t ht=>by
   obtain⟨q1,q2,q3⟩:=h t (zay _ ht);exact⟨q1,by rw[aF (show t≠T from fun e=>nT (by rw[<-e];exact ht))];exact q2,q3⟩) (zaO.mp nd).2
  refine⟨H',I',fun c o e=>sm _ _ (by rw[aF (fun z=>by rw[z,fT] at e;cases e)];exact e),fun t ht=>?_,fun c hc=>?_⟩
  ·rcases zaa.mp ht with rfl|ht
   ·exact⟨u,v,a,b,ra,rb,tT,by rw[ot _ nT,aw]⟩
   ·exact al t ht
  ·rw[ot c<|fun q=>hc<|zay _ q,aF (show c≠T from fun e=>hc (by rw[e];exact zax))]
end
section
variable {CX:bZ}{S:c5}{Γ:bj}{X:Cx}{e1 e2:Expr}{es:List Expr}{x y:Str}{p p2 pos e_:Pos}{r1 r2:RE}{rs:List RE}
theorem V1{t:TA}(hc:X.calm=true)(g1:Gl X "list")(m1:X.mg "list"=none)(g2:Gl X "zip")(m2:X.mg "zip"=none)(ha:PA X [e1,e2] t)(hs:starEach [e1,e2] X.env=(false,eval e1 X.env)::starEach [e2] X.env)(jb:(backTo e_<|starEach [e2] X.env).any (·.1)=false):
  PE X (.Call (.Name "list" p) [.Call (.Name "zip" p2) [e1,e2] [] e_] [] pos) (dQ (Bl X.K) t):=by
 intro pins s σ H Q I h;refine wpAny_Call_Name_kw<|iN I g1 m1 tL ?_ (by decide) (by decide)
 refine PyProof.Rows.callWith_type1 ?_ rfl rfl;show wpAny _ _ (spliced ((false,eval (.Call (.Name "zip" p2) [e1,e2] [] e_) X.env)::backTo pos (starEach [] X.env))) _ _ s;refine Calls.spliced_cons ?_;refine wpAny_Call_Name_kw<|iN I g2 m2 boot_zip ?_ (by decide) (by decide)
 refine PyProof.Rows.callWith_type1 ?_ hs jb;refine aG (ha e_ pins s σ H _ I h) fun us s1 ⟨vs,H1,I1,r1,q1⟩=>?_;obtain⟨l1,l2,xs,ys,rfl,hx,hy,q⟩:=q1;obtain⟨u,v,rfl,ru,rv⟩:=vals2 r1;cases ru;cases rv;obtain⟨jI,oZ,p1,z1⟩:=I1.list hx;obtain⟨eI,v9,p2,z2⟩:=I1.list hy;have cT:=oZ.length;have dH:=v9.length;refine call_zip_2 p1.isList p2.isList fun h' a1 a2 a3 a4 a5 a6 hk=>?_;refine Calls.spliced_nil ?_;have Ai: @LT.lt Nat _ l1 s1.heap.objs.size:=by obtain⟨_,e,_⟩:=p1.isList;exact Heap.lt_size e
 have Aj: @LT.lt Nat _ l2 s1.heap.objs.size:=by obtain⟨_,e,_⟩:=p2.isList;exact Heap.lt_size e
 have D:ZipApart (s1.heap.objs.size+4) (s1.heap.objs.size+2) (s1.heap.objs.size+3) s1.heap.objs.size (s1.heap.objs.size+1) l1 l2:=by
  constructor<;>(show @Ne Nat _ _;lia)
 refine ZL.V0 (s:={s1 with heap:=h'}) (xs:=jI.toArray) (ys:=eI.toArray) (I.ok.hd hc) D (by simp only[zae];lia) a1 a2 ⟨_,_,a3⟩ a4 a5 (p1.isList.at fun o e=>hk _ o e) (p2.isList.at fun o e=>hk _ o e) fun h2 tk acc c as kp eS pH hG d9=>?_
 dsimp only at kp eS hG⊢
 rw[a6] at hG eS;have kk:∀b o,s1.heap.get? b=some o->h2.get? b=some o:=fun b o e=>by
  have lt: @LT.lt Nat _ b s1.heap.objs.size:=Heap.lt_size e;refine kp b o ?_ ?_ ?_ ?_ (hk b o e) <;>(show @Ne Nat _ _;lia)
 have I2:Inv X pins σ H1 {s1 with heap:=h2,toks:=tk}:=I1.kept kk
 have ma:∀t∈as,@LE.le Nat _ (s1.heap.objs.size+6) t:=fun t ht=>hG.above t ht;have tX:∀t∈as,∃u v a b,RelV a u/\RelV b v/\h2.IsTuple t #[u,v]:=fun t ht=>by
  obtain⟨j,hj⟩:=zaK.mp ht;obtain⟨u,v,e1,e2,e3⟩:=hG.pairs j t hj;have e1:jI[j]?=some u:=by simpa using e1
  have e2:eI[j]?=some v:=by simpa using e2
  have j1:j<xs.length:=by have:=(zah.mp e1).1;lia
  have j2:j<ys.length:=by have:=(zah.mp e2).1;lia
  obtain⟨u',q1,q2⟩:=oZ.get (i:=j) (x:=xs[j]) (by simp[j1])
  obtain⟨v',q3,q4⟩:=v9.get (i:=j) (x:=ys[j]) (by simp[j2])
  rw[e1] at q1;cases q1;rw[e2] at q3;cases q3;exact⟨u,v,_,_,q2,q4,⟨_,e3,rfl,_,rfl⟩⟩
 have nd:as.Nodup:=hG.rise.imp fun h=>zaq h;have fr:∀t∈as,H1 t=none:=fun t ht=>I1.aD.fresh (zat (zbd _ 6)<|ma t ht);obtain⟨H',I3,sm,al,ot⟩:=ID I1 as I2 (fun t ht=>⟨zat (zbd _ 6)<|ma t ht,fr t ht,tX t ht⟩) nd;have nl:s1.heap.objs.size+5∉as:=fun q=>absurd (ma _ q) (by lia)
 have tY:s1.heap.objs.size<=s1.heap.objs.size+5:=zbd _ 5;have fl:H1 (s1.heap.objs.size+5)=none:=I1.aD.fresh tY;have rl:Vals (as.map V.ref) acc.toList:=by
  rw[d9];clear d9 hG pH tX nd fr al ot nl ma
  induction as with
  |nil=>exact .nil
  |cons t ts ih=>exact .cons rfl ih
 have ml:min xs.length ys.length<=sizeLine:=by lia
 have IE:as.length=min xs.length ys.length:=by rw[pH];simp only[zae];lia
 have I4:Inv X pins σ (upd H' (s1.heap.objs.size+5)<|.lst<|as.map V.ref) {s1 with heap:=h2,toks:=tk}:=by
  refine Inv.vP I3 (by rw[ot _ nl];exact fl) (zat I1.sz tY) (zaE<|zap I1.lt tY) (fun x c e q=>?_) (fun p hp q=>?_) ⟨by rw[zad,IE];exact ml,acc.toList,c,rl,by simpa using eS⟩
  ·obtain⟨v',q'⟩:=I1.cell x c e;have:=q'.lt;rw[q] at this;exact absurd (zap this tY)<|zaz _
  ·have:=Heap.lt_size (I1.pin p hp).1;rw[q] at this;exact absurd (zap this tY)<|zaz _
 show EP X pins σ Q (.ref h'.objs.size) _;rw[a6];refine⟨.ref<|s1.heap.objs.size+5,_,I4,rfl,q as (s1.heap.objs.size+5) _ IE (fun b o e=>?_) fr fl (fun i t hi=>?_) aw⟩
 ·rw[aF (fun z=>by rw[z,fl] at e;cases e)];exact sm _ _ e
 ·obtain⟨u,v,e1,e2,e3⟩:=hG.pairs i t hi;obtain⟨u',v',a,b,ra,rb,tT,e⟩:=al t (zan hi);have eu:u'=u/\v'=v:=by
   obtain⟨o,ho,_,n,hd⟩:=tT;rw[e3] at ho;cases ho
   injection hd with hd
   simp at hd
   exact⟨hd.1.symm,hd.2.symm⟩
  obtain⟨rfl,rfl⟩:=eu;have e1:jI[i]?=some u':=by simpa using e1
  have e2:eI[i]?=some v':=by simpa using e2
  have j1:i<xs.length:=by have:=(zah.mp e1).1;lia
  have j2:i<ys.length:=by have:=(zah.mp e2).1;lia
  obtain⟨u2,q1,q2⟩:=oZ.get (i:=i) (x:=xs[i]) (by simp[j1])
  obtain⟨v2,q3,q4⟩:=v9.get (i:=i) (x:=ys[i]) (by simp[j2])
  rw[e1] at q1;cases q1;rw[e2] at q3;cases q3;refine⟨xs[i],ys[i],by simp[j1],by simp[j2],?_⟩
  rw[aF (show t≠s1.heap.objs.size+5 from fun z=>nl (by rw[<-z];exact zan hi)),e,ra.inj q2,rb.inj q4]
theorem V2(G:Good CX S Γ X)(hA:PA X [e1,e2] (aS Γ [r1,r2]))(h:kB S x "list"=true:=by kernel_rfl)(h':kB S y "zip"=true:=by kernel_rfl)(hn:fA [e1,e2]=true:=by kernel_rfl)(hq:S.md=0:=by rfl):PE X (.Call (.Name x p) [.Call (.Name y p2) [e1,e2] [] e_] [] pos) (ae Γ<|.xt IC [r1,r2]):=by
 simp only[kB,zag,decide_eq_true_eq] at h h'
 obtain⟨⟨rfl,h2⟩,h3⟩:=h;obtain⟨⟨rfl,h5⟩,h6⟩:=h';show PE X _ (dQ (Bl Γ.K)<|aS Γ [r1,r2]);rw[<-G.K];have n1:=dt hn;exact V1 (G.calm hq) (G.gl h2) (G.fV _ h3) (G.gl h5) (G.fV _ h6) hA (dr n1.1)<|kJ _ _ _ n1.2
end
end L2
namespace L2.B
open PySem PySem.Spec PyProof.Rows
def IF:List Str:=["self","way","steps","changes","change","node","other"]
noncomputable def IG:List RS:=
 [.asg 2 (.xt IC [.v 1,(.sl (.v 1) (some (.c (.int 1))) none)]),
 .asg 3 (.lst [(.call 0 [(.lst [(.tup [(.c<|.str "keep"),(.ix (.fld (.v 0) "lengths")<|.fld (.v 0) "here")])])])]),
 .asg 4 (.call 1 [(.bin .Add (.v 3)<|.comp (some 2) [("self",0)] .list [.v 2] none<|.aM 0 "edge" (.v 2) [.v 0,.v 1])]),
 .qW [5,6] .list [.v 2] [.ite (.cmp .Eq (.ix (.fld (.v 0) "parents")<|.v 5)<|.v 6) [.set (.fld (.v 0) "last_gone") (.v 6)<|.v 5] []],
 .dR (.v 0) "here" (.ix (.v 1)<|.neg<|.c<|.int 1),
 .ret (.v 4)]
def V3:List Str:=["neat","joined_all"]
def V4:List Str:=["list","zip"]
def V_:List Str:=["edge"]
def IH:List Str:=["_law_part_here"]
noncomputable def II:List RS:=
 [.ite (.or [(.not (.eK .tuple (.v 0))),(.cmp .NotEq (.blt .len [.v 0]) (.c (.int 2))),(.cmp .NotIn (.ix (.v 0) (.c (.int 0))) (.tup [(.c (.str "keep")),(.c (.str "put")),(.c (.str "cut"))]))]) [.ret (.c (.bl false))] [],
 .ite (.cmp .Eq (.ix (.v 0)<|.c<|.int 0)<|.c<|.str "keep") [.ret<|.and [(.eK .int<|.ix (.v 0)<|.c<|.int 1),(.not<|.eK .bool<|.ix (.v 0)<|.c<|.int 1),(.cmp .Gt (.ix (.v 0)<|.c<|.int 1)<|.c<|.int 0)]] [],
 .ret (.and [(.eK .str (.ix (.v 0) (.c (.int 1)))),(.cmp .NotEq (.ix (.v 0) (.c (.int 1))) (.c (.str "")))])]
def Wa:List Str:=["isinstance","tuple","len","int","bool","str"]
def Bm:List Str:=["_law_change","_law_text","_law_due","_law_at","_law_k","_law_word","_law_thing","_law_ahead"]
noncomputable def IJ:List RS:=
 [.ite (.or [(.not (.eK .list (.v 0))),(.cmp .Gt (.blt .len [(.comp none [] .list [.v 0] (some (.not (.call 0 [.v 0]))) (.v 0))]) (.c (.int 0)))]) [.ret (.c (.bl false))] [],
 .asg 3 (.c<|.int 0),
 .iy 4 .gP [(.blt .len [.v 0])] [.tE [5,6] (.ix (.v 0) (.v 4)),
  .asg 7 (.gY (.cmp .Gt (.v 4)<|.c<|.int 0) (.ix (.ix (.v 0)<|.bin .Sub (.v 4)<|.c<|.int 1)<|.c<|.int 0)<|.c<|.str ""),
  .ite (.or [(.cmp .Eq (.v 7)<|.v 5),(.and [(.cmp .Eq (.v 7)<|.c<|.str "cut"),(.cmp .Eq (.v 5)<|.c<|.str "put")])]) [.ret<|.c<|.bl false] [],
  .ite (.and [(.cmp .Eq (.v 5)<|.c<|.str "cut"),(.cmp .NotEq (.sl (.v 1) (some<|.v 3)<|some<|.bin .Add (.v 3)<|.blt .len [.v 6])<|.v 6)]) [.ret<|.c<|.bl false] [],
  .ite (.cmp .NotEq (.v 5) (.c (.str "put"))) [.asg 3 (.bin .Add (.v 3) (.gY (.cmp .Eq (.v 5) (.c (.str "keep"))) (.v 6) (.blt .len [.v 6])))] []],
 .ret (.and [(.cmp .Eq (.v 3) (.blt .len [.v 1])),(.cmp .Eq (.call 1 [.v 1,.v 0]) (.v 2))])]
def Wb:List Str:=["_law_part","_law_done"]
def Wc:List Str:=["isinstance","list","len","range"]
def IL:List Str:=["self","change","edges","gets","ahead","node","other","pair"]
noncomputable def IM:List RS:=
 [.drop (.aM 0 "need_over" (.v 0) [.v 1]),
 .asg 2 (.blt .list [(.fld (.v 0) "edges")]),
 .asg 3 (.xt pB [(.fld (.v 0) "here"),.v 1]),
 .asg 4 (.lst [(.fld (.v 0) "here")]),
 .kA (.cmp .Gt (.blt .len [.v 4]) (.c (.int 0))) [.asg 5 (.bI .pop (.v 4) []),
  .iy 6 .list [(.aM 1 "neighbours" (.v 0) [.v 5])] [.ite (.qU (.v 6) (.v 3)) [.cont] [],
   .asg 7 (.call 0 [(.iR (.v 3)<|.v 5),(.aM 2 "edge" (.v 0) [.v 5,.v 6])]),
   .dput (.v 3) (.v 6) (.ix (.v 7)<|.c<|.int 0),
   .drop (.bI .append (.v 4) [.v 6]),
   .ite (.cmp .Eq (.ix (.fld (.v 0) "parents") (.v 6)) (.v 5)) [.set (.v 2) (.v 6) (.ix (.v 7) (.c (.int 1)))] [.set (.v 2) (.v 5) (.call 1 [(.ix (.v 7) (.c (.int 1)))])]]],
 .dR (.v 0) "edges" (.v 2),
 .dR (.v 0) "lengths" (.comp none [("gets",3)] .gP [(.aM 3 "many" (.v 0) [])] none (.ix (.call 2 [(.iR (.v 1) (.v 0))]) (.c (.int 1))))]
def Wd:List Str:=["passed","back","sizes"]
def We:List Str:=["list","len","range"]
def Wf:List Str:=["need_over","neighbours","edge","many"]
end L2.B
namespace L2
open PySem PySem.Spec PyProof.Rows
def eo(a c:Int)(n:Nat):List V:=(List.range n).map fun k=>V.int (a+((k:Nat):Int)*c)
theorem IP{a c:Int}:∀{n:Nat}{acc:Array Value},ItemsOf (fun i v=>∃t,v=.int (a+i*c) t) acc n->Vals (eo a c n) acc.toList:=by
 intro n acc h;obtain⟨h1,h2⟩:=h;have key:∀(k:Nat) (l:List Value),l.length=k->(∀j v,l[j]?=some v->∃t,v=Value.int (a+(j:Nat)*c) t)->Vals (eo a c k) l:=by
  intro k
  induction k with
  |zero=>intro l hl _;rw[zaD.mp hl];exact .nil
  |succ k ih=>
   intro l hl hp;have e:l=l.take k++[l[k]]:=by
    rw[<-List.take_succ_eq_append_getElem (by lia),zaV (by lia)]
   have e2:eo a c (k+1)=eo a c k++[V.int<|a+((k:Nat):Int)*c]:=by unfold eo;rw[zbf,zao];rfl
   rw[e,e2];refine HV ?_<|ih _ (by rw[zaF];lia) fun j v hj=>?_
   ·obtain⟨t,ht⟩:=hp k l[k] (zav (by lia))
    exact⟨t,ht⟩
   ·have bJ:j<k:=by
     have:=(zah.mp hj).1;rw[zaF] at this;lia
    rw[List.getElem?_take_of_lt bJ] at hj;exact hp j v hj
 exact key n acc.toList (by simpa using h1) fun j v hj=>h2 j v (by simpa using hj)
def wO(K:Frag):List V->Hp->VK->Prop:=fun xs H Q=>∃(j:Int) (n:Nat),xs=[.int j]/\Builtin.Range.small 0 j 1=true/\Builtin.Range.rangeSize 0 j 1=n/\n<=2 ^ 24/\∀l,H l=none->Q (.ref l) (upd H l<|.lst<|eo 0 1 n)
def wQ(K:Frag):List V->Hp->VK->Prop:=fun xs H Q=>∃(i j k:Int) (n:Nat),xs=[.int i,.int j,.int k]/\k≠0/\Builtin.Range.small i j k=true/\Builtin.divisionGoesByPylong (j - i) k=false/\Builtin.Range.rangeSize i j k=n/\n<=2 ^ 24/\∀l,H l=none->Q (.ref l) (upd H l<|.lst<|eo i k n)
def Bn:Frag->TA->TE:=fun K t=>dQ (wO K) t
def Bo:Frag->TA->TE:=fun K t=>dQ (wQ K) t
section
variable {CX:bZ}{S:c5}{Γ:bj}{X:Cx}{e a b c:Expr}{es:List Expr}{x y:Str}{p p2 pos e_:Pos}{r ra rb rc:RE}{rs:List RE}
theorem Wg{t:TA}(hc:X.calm=true)(g1:Gl X "list")(m1:X.mg "list"=none)(g2:Gl X "range")(m2:X.mg "range"=none)(ha:PA X [e] t)(hs:starEach [e] X.env=[(false,eval e X.env)]):
  PE X (.Call (.Name "list" p) [.Call (.Name "range" p2) [e] [] e_] [] pos) (dQ (wO X.K) t):=by
 intro pins s σ H Q I h;refine wpAny_Call_Name_kw<|iN I g1 m1 tL ?_ (by decide) (by decide)
 refine PyProof.Rows.callWith_type1 ?_ rfl rfl;show wpAny _ _ (spliced ((false,eval (.Call (.Name "range" p2) [e] [] e_) X.env)::backTo pos (starEach [] X.env))) _ _ s;refine Calls.spliced_cons ?_;refine wpAny_Call_Name_kw<|iN I g2 m2 boot_range ?_ (by decide) (by decide)
 refine PyProof.Rows.callWith_type1 ?_ hs rfl;refine aG (ha e_ pins s σ H _ I h) fun us s1 ⟨vs,H1,I1,r1,q1⟩=>?_;obtain⟨j,n,rfl,Bp,hn,hl,q⟩:=q1;obtain⟨u,rfl,ru⟩:=vals1 r1;obtain⟨t,rfl⟩:=ru;refine call_range_1 ?_;refine Calls.spliced_nil ?_;refine call_list_range (I.ok.hd hc) (IsRange.new ..) Bp hn hl fun h' tk ir c' kp e d9=>?_;refine⟨.ref _,_,I1.laid (t':=tk) (fun b o eb=>kp b o (Heap.get?_push_of_some _ eb)) (by rw[Heap.size_push];exact zaT _)
  (show cq X.prog X.w _ h' _ (.lst (eo 0 1 n)) from⟨by unfold eo;rw[zad,zaG];exact hl,ir.toList,c',IP d9,by simpa using e⟩),rfl,q _ (I1.aD.fresh (by rw[Heap.size_push];exact zaT _))⟩
theorem Wh{t:TA}(hc:X.calm=true)(g1:Gl X "list")(m1:X.mg "list"=none)(g2:Gl X "range")(m2:X.mg "range"=none)(ha:PA X [a,b,c] t)(hs:starEach [a,b,c] X.env=[(false,eval a X.env),(false,eval b X.env),(false,eval c X.env)])(oK:starEach [b,c] X.env=[(false,eval b X.env),(false,eval c X.env)]):
  PE X (.Call (.Name "list" p) [.Call (.Name "range" p2) [a,b,c] [] e_] [] pos) (dQ (wQ X.K) t):=by
 intro pins s σ H Q I h;refine wpAny_Call_Name_kw<|iN I g1 m1 tL ?_ (by decide) (by decide)
 refine PyProof.Rows.callWith_type1 ?_ rfl rfl;show wpAny _ _ (spliced ((false,eval (.Call (.Name "range" p2) [a,b,c] [] e_) X.env)::backTo pos (starEach [] X.env))) _ _ s;refine Calls.spliced_cons ?_;refine wpAny_Call_Name_kw<|iN I g2 m2 boot_range ?_ (by decide) (by decide)
 refine PyProof.Rows.callWith_type1 ?_ (by rw[hs,oK]) (by rw[oK];rfl)
 refine aG (ha e_ pins s σ H _ I h) fun us s1 ⟨vs,H1,I1,r1,q1⟩=>?_;obtain⟨i,j,k,n,rfl,hk,Bp,Wi,hn,hl,q⟩:=q1;cases r1 with
 |cons r rr=>
  cases rr with
  |cons r' rr=>
   cases rr with
   |cons r2 rr=>
    cases rr;obtain⟨t,rfl⟩:=r;obtain⟨t',rfl⟩:=r';obtain⟨t2,rfl⟩:=r2;refine call_range_3 hk ?_<|.inl Wi;refine Calls.spliced_nil ?_;refine call_list_range (I.ok.hd hc) (IsRange.new ..) Bp hn hl fun h' tk ir c' kp e d9=>?_;refine⟨.ref _,_,I1.laid (t':=tk) (fun b o eb=>kp b o (Heap.get?_push_of_some _ eb)) (by rw[Heap.size_push];exact zaT _)
     (show cq X.prog X.w _ h' _ (.lst (eo i k n)) from⟨by unfold eo;rw[zad,zaG];exact hl,ir.toList,c',IP d9,by simpa using e⟩),rfl,q _ (I1.aD.fresh (by rw[Heap.size_push];exact zaT _))⟩
theorem Wj(G:Good CX S Γ X)(hA:PA X [e] (aS Γ [r]))(h:kB S x "list"=true:=by kernel_rfl)(h':kB S y "range"=true:=by kernel_rfl)(hn:fA [e]=true:=by kernel_rfl)(hq:S.md=0:=by rfl):PE X (.Call (.Name x p) [.Call (.Name y p2) [e] [] e_] [] pos) (ae Γ<|.xt Bn [r]):=by
 simp only[kB,zag,decide_eq_true_eq] at h h'
 obtain⟨⟨rfl,h2⟩,h3⟩:=h;obtain⟨⟨rfl,h5⟩,h6⟩:=h';show PE X _ (dQ (wO Γ.K)<|aS Γ [r]);rw[<-G.K];exact Wg (G.calm hq) (G.gl h2) (G.fV _ h3) (G.gl h5) (G.fV _ h6) hA<|dr (dt hn).1
theorem Wk(G:Good CX S Γ X)(hA:PA X [a,b,c] (aS Γ [ra,rb,rc]))(h:kB S x "list"=true:=by kernel_rfl)(h':kB S y "range"=true:=by kernel_rfl)(hn:fA [a,b,c]=true:=by kernel_rfl)(hq:S.md=0:=by rfl):PE X (.Call (.Name x p) [.Call (.Name y p2) [a,b,c] [] e_] [] pos) (ae Γ<|.xt Bo [ra,rb,rc]):=by
 simp only[kB,zag,decide_eq_true_eq] at h h'
 obtain⟨⟨rfl,h2⟩,h3⟩:=h;obtain⟨⟨rfl,h5⟩,h6⟩:=h';show PE X _ (dQ (wQ Γ.K)<|aS Γ [ra,rb,rc]);rw[<-G.K];have n1:=dt hn;have n2:=dt n1.2;have n3:=dt n2.2;exact Wh (G.calm hq) (G.gl h2) (G.fV _ h3) (G.gl h5) (G.fV _ h6) hA (by rw[dr n1.1,dr n2.1,dr n3.1];rfl) (by rw[dr n2.1,dr n3.1];rfl)
end
section
variable {CX:bZ}{S:c5}{Γ:bj}{X:Cx}{a v:Expr}{p q:Pos}{ra r:RE}
theorem Wl{v o:Expr}{f:Str}{p:Pos}{l:Nat}{env:Env}:swapsWith v (some<|.Attribute o f p) l env=pure false:=by
 cases v<;>rfl
theorem Wm{f:Str}(G:fW CX S Γ X)(ho:PE X a (ae Γ ra))(he:PE X v (ae Γ r)):PS X (.Assign [.Attribute a f p] v q) (di Γ<|.dR ra f r):=by
 show PS X _ (vC Γ.K (ae Γ ra) (ae Γ r) f);rw[<-G.K];exact EI ho he (by exact Wl (v:=v) (o:=a) (f:=f) (p:=p) (l:=q.line) (env:=X.env))
end
end L2
namespace L2.mi
open PySem PySem.Spec PyProof.Rows L2.B
def br(i:Nat):Stmt:=(PySem.Challenge.pw_inkloom_k48_long_rows_of_nodes.main.body).getD i (.Pass ⟨0,0,0,0⟩)
def IQ:Stmt:=br 8
abbrev gC(s:Stmt)(k:Nat):Stmt:=(fR s).getD k (.Pass ⟨0,0,0,0⟩)
abbrev gE(b:List RS)(k:Nat):RS:=b.getD k (.ret<|.c .aC)
abbrev MX(N:List Str)(s:Stmt)(f g l mn kn en hn:List Str)(b:List RS)(md:Nat):Prop:= ∀{CX:bZ}{Γ:bj}{X:Cx},fW CX (wC N (fj s) f g l mn kn en hn md) Γ X->eU X (fR s) (aE Γ b)
abbrev MY(N:List Str)(s:Stmt)(f g l mn kn en hn:List Str)(b:List RS)(md k:Nat):Prop:= ∀{CX:bZ}{Γ:bj}{X:Cx},fW CX (wC N (fj s) f g l mn kn en hn md) Γ X->PS X (gC s k) (di Γ<|gE b k)
theorem Wn:MX l7 IQ ag ag UR ag ag ag ag GV 0:=fun G=>have g:=G.toGood;(aj (a_<|gy (jN g<|aa g)<|iA<|AD g<|jN g<|aa g) aq)
def IS:Stmt:=br 9
theorem Wo:MX Hg IS Hi ag ag ag ag ag ag Hh 0:=fun G=>have g:=G.toGood;(aj (a_<|gy (aU g<|ah (aa g) ak)<|iA<|UG g (aa g) (aa g)<|aa g) aq)
def IT:Stmt:=br 10
theorem Wq:MX AV IT ag ag GW ag ag ag ag AW 0:=fun G=>have g:=G.toGood;(aj (a_<|gy (jN g<|aa g)<|iA<|fY g (aa g)<|aa g) aq)
def IU:Stmt:=br 11
theorem Wr:MX l7 IU ag US GW ag ag ag ag AX 0:=fun G=>have g:=G.toGood;(aj (a_<|gy (jN g<|aa g)<|iA<|fY g (c_ g (aa g)<|ah (GN g) ak) aI) aq)
def IV:Stmt:=br 14
theorem Ws:MX l7 IV UT ag UU ag ag ag ag wF 0:=fun G=>have g:=G.toGood;(aj (bq (PW.pt<|jg (gz<|wu g<|jN g<|aa g)<|jO<|aR g (cG g<|ah (aa g) ak) aB) (aj (a_ fX) aq) aq)<|aj (bq (iU g<|aU g<|ah (aN g (aa g) aB)<|ah (e9<|ah aI ak) ak) (aj (a_<|gy (aU g<|ah (aN g (aa g) aB) ak)<|iA<|fY g (aN g (aa g) aB) aB) aq) aq)<|aj (a_<|gy (aU g<|ah (aN g (aa g) aB)<|ah (e9<|ah aI<|ah aI ak) ak)<|gy (aU g<|ah (aN g (aa g) aB) ak)<|iA<|fY g (aN g (aa g) aB) aI) aq)
def IW:Stmt:=br 15
theorem Wt:MX GX IW ag ag ag ag ag ag ag GY 0:=fun G=>have g:=G.toGood;(aj (a_<|gy (fY g (aa g)<|aa g)<|iA<|AD g<|gy (fY g (aa g) aI)<|iA<|fY g (aa g) aI) aq)
def IX:Stmt:=br 16
theorem Wu:MX GZ IX UW ag UX ag ag UY ag G0 0:=fun G=>have g:=G.toGood;(aj (bq (gz<|wu g<|jN g<|aa g) (aj (jh G<|ah aI ak) aq) aq)<|aj (aY G aI)<|aj (m_ G (iC g<|aa g)<|aj (bq (gz<|iU g<|aU g<|ah (aa g) ak) (aj (jh G<|ah aI ak) aq) aq)<|aj (bq (gz<|iU g<|aU g<|ah (aN g (aa g) aB)<|ah (aa g) ak) (aj (jh G<|ah aI ak) aq) aq)<|aj (aY G<|aN g (aa g) aB) aq) aq)
def IY:Stmt:=br 17
theorem Wv:MX G1 IY ag ag rj ag ag ag ag G3 0:=fun G=>have g:=G.toGood;(aj (a_<|m9 (aR g (aN g (aa g) aB) aI) (aN g (aa g) aB)<|cG g<|ah (aN g (aa g) aB) ak) aq)
def IZ:Stmt:=br 18
theorem Ww:MX G4 IZ UZ ag U0 ag ag ag ag G5 0:=fun G=>have g:=G.toGood;(aj (bO<|aU g<|ah (aa g) ak)<|aj (aY G<|cG g<|ah (rf (ln:=["part"]) g (by kernel_rfl) (iC g<|aa g) (AE fun _ g=>(aR g (aN g (aa g) aB) aI))<|fun _ g=>(aU g<|ah (aa g) ak)) ak)<|aj (aY G<|cG g<|ah (rf (ln:=["part"]) g (by kernel_rfl) (iC g<|aa g) (AE fun _ g=>(aR g (aN g (aa g) aB) aI))<|fun _ g=>(aU g<|ah (aa g) ak)) ak)<|aj (a_<|e9<|ah (aa g)<|ah (aa g) ak) aq)
def I_:Stmt:=inClass (br 19) 0
theorem Wx:MX wG I_ ag ag AY ag ag ag ag Hj 0:=fun G=>have g:=G.toGood;(aj (g7 G (aa g)<|cG g<|ah (aa g) ak)<|aj (g7 G (aa g) aB)<|aj (g7 G (aa g) aB) aq)
def Ja:Stmt:=inClass (br 19) 1
theorem Wy:MX kR Ja ag ag rj ag ag ag ag Hk 0:=fun G=>have g:=G.toGood;(aj (a_<|m9 (aR g (bA g<|aa g)<|cG g<|ah (bA g<|aa g) ak) (aN g (aN g (bA g<|aa g)<|bA g<|aa g) aB) aI) aq)
def Jb:Stmt:=inClass (br 19) 2
theorem Wz:MX kR Jb Hm ag ag ag ag ag ag Hl 0:=fun G=>have g:=G.toGood;(aj (a_<|bE g (aU g<|ah (aN g (bA g<|aa g)<|bA g<|aa g) ak)<|bA g<|aa g) aq)
def Jc:Stmt:=inClass (br 19) 3
theorem WA:MX Hn Jc ag ag ag U4 ag ag ag AZ 0:=fun G=>have g:=G.toGood;(aj (aY G<|aN g (bA g<|aa g)<|bA g<|aa g)<|aj (aY G<|bA g<|aa g)<|aj (aY G<|bE g (aa g)<|aa g)<|aj (g7 G (aa g)<|aa g)<|aj (bq (aR g (dJ g<|aa g) aB) (aj (g7 G (aa g)<|bE g (bA g<|aa g) aB)<|aj (g7 G (aa g) aB) aq) aq)<|aj (a_<|e9<|ah (aN g (aa g) aB)<|ah (m9 (aR g (aN g (aa g) aB) aI) (aa g)<|kN g (aN g (aa g) aB) (iB<|aa g)<|iB<|aa g) ak) aq)
def Jd:Stmt:=br 20
theorem WC:MX G6 Jd ag ag rj ag ag ag ag G7 0:=fun G=>have g:=G.toGood;(aj (bq (PW.pt<|pd (aR g (cG g<|ah (aa g) ak) aB)<|rg<|aR g (aN g (aN g (aa g)<|lZ aB) aB) aI) (aj (aY G<|bE g (aa g)<|aN g (wo g<|aa g) aB) aq) aq)<|aj (bO<|c_ g (aa g)<|ah (e9<|ah aI<|ah (aa g) ak) ak) aq)
def Je:Stmt:=br 21
theorem WD:MX G8 Je ag ag ag ag ag ag ag G9 0:=fun G=>have g:=G.toGood;(aj (aY G<|c_ g aI<|ah (aa g) ak)<|aj (aY G<|c_ g aI<|ah (aa g) ak)<|aj (bq (aR g (aa g) aI) (aj (bO<|c_ g (aa g)<|ah (e9<|ah aI<|ah (aa g) ak) ak) aq) aq)<|aj (bq (aR g (aa g) aI) (aj (bO<|c_ g (aa g)<|ah (e9<|ah aI<|ah (aa g) ak) ak) aq) aq) aq)
def Jf:Stmt:=br 22
theorem WE:MX G_ Jf U1 ag ag ag ag ag ag Ha 0:=fun G=>have g:=G.toGood;(aj (aY G<|cx ak)<|aj (aY G<|cx ak)<|aj (aY G<|cx ak)<|aj (AI [(_,_),(_,_)] G (iC g<|aa g)<|aj (bq (aR g (aa g) aI) (aj (bO<|c_ g (aa g)<|ah (aa g) ak) aq)<|aj (bq (aR g (aa g) aI) (aj (bO<|c_ g (aa g)<|ah (aa g) ak) aq)<|aj (bq (aR g (aa g) aB) (aj (bO<|aU g<|ah (aa g)<|ah (aa g)<|ah (aa g) ak)<|aj (aY G<|cx ak)<|aj (aY G<|cx ak)<|aj (bO<|aU g<|ah (aa g)<|ah (aa g) ak) aq) aq) aq) aq) aq)<|aj (bO<|aU g<|ah (aa g)<|ah (aa g)<|ah (aa g) ak)<|aj (a_<|aa g) aq)
def Jg:Stmt:=br 23
theorem WG:MX Hb Jg U2 U3 ag ag ag ag ag Hc 0:=fun G=>have g:=G.toGood;(aj (bO<|aU g<|ah (aa g) ak)<|aj (a_<|aU g<|ah (rf (ln:=["word","what"]) g (by kernel_rfl) (iC g<|aa g) wt<|fun _ g=>(e9<|ah (aN g (GN g)<|aa g)<|ah (aa g) ak)) ak) aq)
def Jh:Stmt:=br 25
theorem WH:MX Hx Jh ag ag ag ag ag tO ag Hy 0:=fun G=>have g:=G.toGood;(aj (bq (aR g (aN g (aa g) aB) aI) (aj (a_<|cx<|ah (e9<|ah aI<|ah (aa g) ak) ak) aq) aq)<|aj (bq (aR g (aN g (aa g) aB)<|aa g) (aj (jh G<|ah aI ak) aq) aq)<|aj (a_<|cx ak) aq)
def Ji:Stmt:=br 26
theorem WI:MX Hz Ji U8 ag Hv HC ag ag ag HB 0:=fun G=>have g:=G.toGood;(aj (aY G<|cx ak)<|aj (aY G aB)<|aj (pf G (aR g (aa g)<|aU g<|ah (aa g) ak)<|aj (bq (aR g (dJ g<|aa g) aI) (aj (bO<|c_ g (aa g)<|ah (cJ g (aa g)<|ah (dJ g<|aa g) ak) ak)<|aj GQ aq) aq)<|aj (aY G<|cG g<|ah (dJ g<|aa g)<|ah (bE g (aU g<|ah (aa g) ak)<|aa g) ak)<|aj (aY G<|cJ g (aa g)<|ah (aa g) ak)<|aj (bq (aR g (aN g (aa g) aB) aI) (aj (bO<|c_ g (aa g)<|ah (aa g) ak) aq)<|aj (bO<|c_ g (aa g)<|ah (aU g<|ah (aa g)<|ah (kN g (aN g (aa g) aB) (iB<|aa g)<|iB<|bE g (aa g)<|aa g) ak) ak) aq)<|aj (aY G<|bE g (aa g)<|aa g) aq)<|aj (a_<|aa g) aq)
def Jj:Stmt:=br 27
theorem WJ:MX HD Jj U9 ag ag HC Hw tO ag HE 0:=fun G=>have g:=G.toGood;(aj (bq (aR g (aN g (aU g<|ah (aa g) ak) aB)<|aN g (aU g<|ah (aa g) ak) aB) (aj (jh G<|ah aI ak) aq) aq)<|aj (aY G<|wm g<|ah (aa g) ak)<|aj (aY G<|cx ak)<|aj (m_ G (iC g<|aa g)<|aj (bq (aR g (aN g (aa g) aB) aI) (aj (bO<|c_ g (aa g)<|ah (aa g) ak) aq)<|aj (bO<|c_ g (aa g)<|ah (aU g<|ah (aa g)<|ah (aa g) ak) ak) aq) aq)<|aj (pf G (aR g (dJ g<|aa g) aI)<|aj (bO<|c_ g (aa g)<|ah (cJ g (aa g)<|ah (dJ g<|aa g) ak) ak) aq)<|aj (a_<|aU g<|ah (aa g) ak) aq)
def Jk:Stmt:=br 29
theorem WK:MX Ho Jk Hm ag ag U5 ag ag ag Hq 0:=fun G=>have g:=G.toGood;(aj (aY G<|cJ g (aa g)<|ah (dJ g<|aa g) ak)<|aj (bO<|c_ g (aa g)<|ah (aa g) ak)<|aj (bO<|c_ g (aa g)<|ah (e9<|ah aI<|ah (aU g<|ah (aa g) ak) ak) ak) aq)
def Jl:Stmt:=br 30
theorem WL:MX Hr Jl ag ag ag ag ag tO ag Hs 0:=fun G=>have g:=G.toGood;(aj (bq (PW.pt<|pd (aR g (aN g (aa g) aB) aI)<|rg<|aR g (aN g (aa g) aB) aI) (aj (bq (aR g (aN g (aa g) aB)<|aN g (aa g) aB) (aj (jh G<|ah aI ak) aq) aq) aq)<|aj (bq (aR g (aN g (aa g) aB) aI) (aj (bO<|c_ g (aa g)<|ah (aa g) ak)<|aj (bq (aR g (aN g (aa g) aB) aI) (aj (bO<|c_ g (aa g)<|ah (aa g) ak) aq) aq) aq)<|aj (bO<|c_ g (aa g)<|ah (aa g) ak) aq) aq) aq)
def Jm:Stmt:=br 31
theorem WM:MX Ht Jm U6 ag Hv U7 Hw tO ag Hu 0:=fun G=>have g:=G.toGood;(aj (bq (aR g (aN g (aU g<|ah (aa g) ak) aB)<|aN g (aU g<|ah (aa g) ak) aB) (aj (jh G<|ah aI ak) aq) aq)<|aj (aY G<|wm g<|ah (aa g) ak)<|aj (aY G<|wm g<|ah (aa g) ak)<|aj (aY G<|cx ak)<|aj (aY G<|cx ak)<|aj (pf G (PW.pt<|jg (aR g (dJ g<|aa g) aI)<|jO<|aR g (dJ g<|aa g) aI)<|aj (bq (aR g (dJ g<|aa g) aI) (aj (bO<|aU g<|ah (aa g)<|ah (aa g)<|ah (aa g) ak) aq)<|aj (bq (aR g (dJ g<|aa g) aI) (aj (bO<|aU g<|ah (aa g)<|ah (aa g)<|ah (aa g) ak) aq)<|aj (aY G<|cG g<|ah (dJ g<|aa g)<|ah (dJ g<|aa g) ak)<|aj (bO<|aU g<|ah (cJ g (aa g)<|ah (aa g) ak)<|ah (cJ g (aa g)<|ah (aa g) ak)<|ah (aa g)<|ah (aa g) ak) aq) aq) aq)<|aj (a_<|e9<|ah (aU g<|ah (aa g) ak)<|ah (aU g<|ah (aa g) ak) ak) aq)
def Jo:Stmt:=br 33
theorem WN:MX HY Jo Vv ag Vw ag ag ag ag HZ 0:=fun G=>have g:=G.toGood;(aj (pf G (aR g (cG g<|ah (aa g) ak) aB)<|aj (UN (ln:=["one","other"]) G (by kernel_rfl) (by kernel_rfl) (by kernel_rfl) (UK g (HQ g (aa g) aB aB)<|HQ g (aa g) aB aB) wt<|fun _ g=>(aU g<|ah (aa g)<|ah (aa g) ak))<|aj (aY G<|bE g (aa g)<|kN g (aa g) (iB<|bE g aB<|cG g<|ah (aa g) ak) q_) aq)<|aj (a_<|aN g (aa g) aB) aq)
def Jp:Stmt:=inClass (br 34) 0
theorem WO:MX H_ Jp Hi ag ag ag ag Vx ag Ia 0:=fun G=>have g:=G.toGood;(aj (bq (PW.pt<|jg (gz<|iU g<|aU g<|ah (aa g) ak)<|jO<|aR g (aa g) aB) (aj (jh G<|ah aI ak) aq) aq)<|aj (g7 G (aa g) aB)<|aj (g7 G (aa g)<|cx<|ah (aa g) ak)<|aj (g7 G (aa g)<|cx<|ah q9 ak)<|aj (g7 G (aa g)<|cx<|ah q9 ak)<|aj (g7 G (aa g)<|cx<|ah (cx ak) ak)<|aj (g7 G (aa g)<|cx<|ah q9 ak) aq)
def Jq:Stmt:=inClass (br 34) 1
theorem WQ:MX kS Jq Vy ag ag Vz ag Bf ag Ib 0:=fun G=>have g:=G.toGood;(aj (bq (gz<|iU g<|aU g<|ah (aa g)<|ah aB<|ah (bE g (dJ g<|aa g) aB) ak) (aj (jh G<|ah aI ak) aq) aq) aq)
def Jr:Stmt:=inClass (br 34) 2
theorem WR:MX wG Jr Ie ag ag ag ag tO ag Ic 0:=fun G=>have g:=G.toGood;(aj (bq (aR g (aN g (aU g<|ah (aa g) ak) aB)<|aN g (bA g<|aa g)<|bA g<|aa g) (aj (jh G<|ah aI ak) aq) aq) aq)
noncomputable def Js:List RS:=
 [.ret<|.fld (.v 0) "here"]
def Jt:Stmt:=inClass (br 34) 3
theorem WS:MX kR Jt ag ag ag ag ag ag ag Js 0:=fun G=>have g:=G.toGood;(aj (a_<|bA g<|aa g) aq)
def Ju:Stmt:=inClass (br 34) 4
theorem WT:MX kR Ju ag ag rj ag ag ag ag Ig 0:=fun G=>have g:=G.toGood;(aj (a_<|cG g<|ah (bA g<|aa g) ak) aq)
def Jv:Stmt:=inClass (br 34) 5
theorem WU:MX kS Jv ag ag ag Bg ag ag ag Ih 0:=fun G=>have g:=G.toGood;(aj (bO<|cJ g (aa g)<|ah (aa g) ak)<|aj (a_<|aN g (bA g<|aa g)<|aa g) aq)
noncomputable def Jw:List RS:=
 [.drop (.aM 0 "need_node" (.v 0) [.v 1]),
 .ret (.blt .list [(.ix (.fld (.v 0) "below") (.v 1))])]
def Jx:Stmt:=inClass (br 34) 6
theorem WV:MX kS Jx ag ag AY Bg ag ag ag Jw 0:=fun G=>have g:=G.toGood;(aj (bO<|cJ g (aa g)<|ah (aa g) ak)<|aj (a_<|cG g<|ah (aN g (bA g<|aa g)<|aa g) ak) aq)
def Jy:Stmt:=inClass (br 34) 7
theorem WW:MX kS Jy ag ag ag Bg ag ag ag Ii 0:=fun G=>have g:=G.toGood;(aj (bO<|cJ g (aa g)<|ah (aa g) ak)<|aj (a_<|aN g (bA g<|aa g)<|aa g) aq)
def Jz:Stmt:=inClass (br 34) 8
theorem WX:MX Ij Jz Ie ag AY VA ag ag ag Ik 0:=fun G=>have g:=G.toGood;(aj (bO<|cJ g (aa g)<|ah (aa g) ak)<|aj (aY G<|dJ g<|aa g)<|aj (bO<|c_ g (bA g<|aa g)<|ah (bA g<|aa g) ak)<|aj (bO<|c_ g (bA g<|aa g)<|ah (cG g<|ah (aa g) ak) ak)<|aj (bO<|c_ g (bA g<|aa g)<|ah (aN g (aU g<|ah (aa g) ak) aB) ak)<|aj (bO<|c_ g (bA g<|aa g)<|ah (cx ak) ak)<|aj (bO<|c_ g (bA g<|aa g)<|ah q9 ak)<|aj (bO<|c_ g (aN g (bA g<|aa g)<|bA g<|aa g)<|ah (aa g) ak)<|aj (g7 G (aa g)<|aa g)<|aj (a_<|aa g) aq)
def JA:Stmt:=inClass (br 34) 10
theorem JB:MX Bh JA VB ag ag ag ag ag ag Bi 0:=fun G=>have g:=G.toGood;(aj (a_<|m9 (aR g (aN g (bA g<|aa g)<|aa g)<|aa g) (aN g (bA g<|aa g)<|aa g)<|aU g<|ah (aN g (bA g<|aa g)<|aa g) ak) aq)
def JC:Stmt:=inClass (br 34) 11
theorem WY:MX IF JC V3 ag V4 V_ ag ag ag IG 0:=fun G=>have g:=G.toGood;(aj (aY G<|V2 g<|ah (aa g)<|ah (kN g (aa g) (iB aB) q_) ak)<|aj (aY G<|cx<|ah (aU g<|ah (cx<|ah (e9<|ah aI<|ah (aN g (bA g<|aa g)<|bA g<|aa g) ak) ak) ak) ak)<|aj (aY G<|aU g<|ah (bE g (aa g)<|rf (ln:=["node","other"]) g (by kernel_rfl) (iC g<|aa g) wt<|fun _ g=>(cJ g (aa g)<|ah (aa g)<|ah (aa g) ak)) ak)<|aj (AI [(_,_),(_,_)] G (iC g<|aa g)<|aj (bq (aR g (aN g (bA g<|aa g)<|aa g)<|aa g) (aj (AG (aa g) (bA g<|aa g)<|aa g) aq) aq) aq)<|aj (g7 G (aa g)<|aN g (aa g)<|lZ aB)<|aj (a_<|aa g) aq)
def JD:Stmt:=inClass (br 34) 12
theorem WZ:MX kR JD ag ag ag Im ag Bf ag Il 0:=fun G=>have g:=G.toGood;(aj (bq (aR g (bA g<|aa g) aB) (aj (jh G<|ah aI ak) aq) aq)<|aj (a_<|cJ g (aa g)<|ah (cx<|ah (bA g<|aa g)<|ah (aN g (bA g<|aa g)<|bA g<|aa g) ak) ak) aq)
def JE:Stmt:=inClass (br 34) 13
theorem W0:MX Io JE ag ag ag Im ag Bf ag Ip 0:=fun G=>have g:=G.toGood;(aj (aY G<|aN g (bA g<|aa g)<|bA g<|aa g)<|aj (bq (aR g (aa g) q9) (aj (jh G<|ah aI ak) aq) aq)<|aj (a_<|cJ g (aa g)<|ah (cx<|ah (bA g<|aa g)<|ah (aa g) ak) ak) aq)
def JF:Stmt:=inClass (br 34) 14
theorem W_:MX kS JF ag ag ag VC ag ag ag Iq 0:=fun G=>have g:=G.toGood;(aj (a_<|cJ g (aa g)<|ah (cJ g (aa g)<|ah (bA g<|aa g)<|ah (aa g) ak) ak) aq)
def JG:Stmt:=inClass (br 34) 15
theorem Xa:MX Ir JG ag ag ag ag ag ag ag Iu 0:=fun G=>have g:=G.toGood;(aj (aY G<|cx<|ah (aa g) ak)<|aj (pf G (aR g (aN g (aa g)<|lZ aB) aB)<|aj (bO<|c_ g (aa g)<|ah (aN g (bA g<|aa g)<|aN g (aa g)<|lZ aB) ak) aq)<|aj (a_<|aa g) aq)
def JH:Stmt:=inClass (br 34) 16
theorem Xb:MX Iv JH ag ag VD VE ag ag ag Bj 0:=fun G=>have g:=G.toGood;(aj (bO<|cJ g (aa g)<|ah (aa g) ak)<|aj (bO<|cJ g (aa g)<|ah (aa g) ak)<|aj (aY G<|cJ g (aa g)<|ah (aa g) ak)<|aj (aY G<|cJ g (aa g)<|ah (aa g) ak)<|aj (pf G (PW.pt<|pd (aR g (cG g<|ah (aa g) ak) aB)<|pd (aR g (cG g<|ah (aa g) ak) aB)<|rg<|aR g (aN g (aa g)<|lZ aB)<|aN g (aa g)<|lZ aB)<|aj (bO<|wo g<|aa g)<|aj (bO<|wo g<|aa g) aq)<|aj (a_<|bE g (aa g)<|Vu g<|ah (kN g (aa g) q_<|iB<|lZ aB) ak) aq)
def JI:Stmt:=inClass (br 34) 17
theorem Xd:MX Iw JI ag ag ag ag ag ag ag Iy 0:=fun G=>have g:=G.toGood;(aj (aY G<|m9 (aR g (aa g) aB) (cx ak)<|cx<|ah (aN g (bA g<|aa g)<|aa g) ak)<|aj (a_<|bE g (aa g)<|aN g (bA g<|aa g)<|aa g) aq)
def JJ:Stmt:=inClass (br 34) 18
theorem Xe:MX IL JJ Wd ag We Wf ag ag ag IM 0:=fun G=>have g:=G.toGood;(aj (bO<|cJ g (aa g)<|ah (aa g) ak)<|aj (aY G<|cG g<|ah (bA g<|aa g) ak)<|aj (aY G<|HM<|wI (bA g<|aa g) (aa g) HK)<|aj (aY G<|cx<|ah (bA g<|aa g) ak)<|aj (pf G (aR g (cG g<|ah (aa g) ak) aB)<|aj (aY G<|wo g<|aa g)<|aj (m_ G (iC g<|cJ g (aa g)<|ah (aa g) ak)<|aj (bq (UJ g (aa g)<|aa g) (aj GQ aq) aq)<|aj (aY G<|aU g<|ah (pb g (aa g)<|aa g)<|ah (cJ g (aa g)<|ah (aa g)<|ah (aa g) ak) ak)<|aj (wy G (aN g (aa g) aB) (aa g)<|aa g)<|aj (bO<|c_ g (aa g)<|ah (aa g) ak)<|aj (bq (aR g (aN g (bA g<|aa g)<|aa g)<|aa g) (aj (AG (aN g (aa g) aB) (aa g)<|aa g) aq)<|aj (AG (aU g<|ah (aN g (aa g) aB) ak) (aa g)<|aa g) aq) aq) aq)<|aj (g7 G (aa g)<|aa g)<|aj (Wm G (aa g)<|rf (ln:=["node"]) g (by kernel_rfl) (AF g<|dJ g<|aa g) wt<|fun _ g=>(aN g (aU g<|ah (pb g (aa g)<|aa g) ak) aB)) aq)
def JK:Stmt:=br 36
theorem Xf:MX He JK ag ag rj ag ag ag ag Hf 0:=fun G=>have g:=G.toGood;(aj (bq (aR g (aa g)<|cG g<|ah (aa g) ak) (aj (a_<|aN g (aa g)<|aa g) aq) aq)<|aj (a_ aB) aq)
def JL:Stmt:=br 37
theorem Xg:MX IH JL ag ag Wa ag ag ag ag II 0:=fun G=>have g:=G.toGood;(aj (bq (PW.pt<|jg (gz<|wu g<|jN g<|aa g)<|jg (aR g (cG g<|ah (aa g) ak) aB)<|jO<|aR g (aN g (aa g) aB)<|e9<|ah aI<|ah aI<|ah aI ak) (aj (a_ fX) aq) aq)<|aj (bq (aR g (aN g (aa g) aB) aI) (aj (a_<|gy (jN g<|aN g (aa g) aB)<|gy (AD g<|jN g<|aN g (aa g) aB)<|iA<|fY g (aN g (aa g) aB) aB) aq) aq)<|aj (a_<|gy (jN g<|aN g (aa g) aB)<|iA<|fY g (aN g (aa g) aB) aI) aq)
def A0:List Str:=["_law_text_here","_law_change","_law_found","_law_at","_law_word","_law_thing"]
def JM:Stmt:=br 38
theorem Xh:MX A0 JM ag ag rj ag ag ag ag HF 0:=fun G=>have g:=G.toGood;(aj (aY G aI)<|aj (aY G aB)<|aj (AI [(_,_),(_,_)] G (iC g<|aa g)<|aj (bq (aR g (aa g) aI) (aj (aY G<|bE g (aa g)<|aa g) aq)<|aj (bq (aR g (aa g) aI) (aj (aY G<|bE g (aa g)<|kN g (aa g) (iB<|aa g)<|iB<|bE g (aa g)<|aa g)<|aj (aY G<|bE g (aa g)<|aa g) aq)<|aj (aY G<|bE g (aa g)<|cG g<|ah (aa g) ak) aq) aq) aq)<|aj (a_<|aa g) aq)
def Bm:List Str:=["_law_change","_law_text_here","_law_due","_law_at","_law_k","_law_word","_law_thing","_law_ahead"]
def JN:Stmt:=br 39
theorem Xi:MX Bm JN Wb ag Wc ag ag ag ag IJ 0:=fun G=>have g:=G.toGood;(aj (bq (PW.pt<|jg (gz<|wu g<|jN g<|aa g)<|jO<|aR g (cG g<|ah (rf (ln:=["_law_part_here"]) g (by kernel_rfl) (iC g<|aa g) (AE fun _ g=>(gz<|iU g<|aU g<|ah (aa g) ak))<|fun _ g=>(aa g)) ak) aB) (aj (a_ fX) aq) aq)<|aj (aY G aB)<|aj (m_ G (AF g<|cG g<|ah (aa g) ak)<|aj (UP [(_,_),(_,_)] G<|aN g (aa g)<|aa g)<|aj (aY G<|m9 (aR g (aa g) aB) (aN g (aN g (aa g)<|bE g (aa g) aB) aB) aI)<|aj (bq (PW.pt<|jg (aR g (aa g)<|aa g)<|jO<|PW.pt<|pd (aR g (aa g) aI)<|rg<|aR g (aa g) aI) (aj (a_ fX) aq) aq)<|aj (bq (PW.pt<|pd (aR g (aa g) aI)<|rg<|aR g (kN g (aa g) (iB<|aa g)<|iB<|bE g (aa g)<|cG g<|ah (aa g) ak)<|aa g) (aj (a_ fX) aq) aq)<|aj (bq (aR g (aa g) aI) (aj (aY G<|bE g (aa g)<|m9 (aR g (aa g) aI) (aa g)<|cG g<|ah (aa g) ak) aq) aq) aq)<|aj (a_<|gy (fY g (aa g)<|cG g<|ah (aa g) ak)<|iA<|fY g (aU g<|ah (aa g)<|ah (aa g) ak)<|aa g) aq)
def JO:List Str:=["_law_node"]
noncomputable def JP:List RS:=
 [.ret<|.gY (.cmp .Eq (.v 0)<|.c<|.int 0) (.c<|.str "#")<|.ix (.c<|.str "abcdefghijklmnopqrstuvwxyz")<|.bin .Mod (.v 0)<|.c<|.int 26]
def JQ:Stmt:=br 40
theorem Xj:MX JO JQ ag ag ag ag ag ag ag JP 0:=fun G=>have g:=G.toGood;(aj (a_<|m9 (aR g (aa g) aB) aI<|aN g aI<|bE g (aa g) aB) aq)
def JR:List Str:=["_law_row","_law_node"]
noncomputable def JS:List RS:=
 [.ret<|.bin .Add (.bin .Add (.call 0 [.v 1])<|.xt A8 [(.c<|.str "+"),(.iR (.v 0)<|.c<|.str "foreign")])<|.iR (.v 0)<|.c<|.str "tail"]
def JT:List Str:=["_law_first"]
def JU:Stmt:=br 41
theorem Xk:MX JR JU JT ag ag ag ag ag ag JS 0:=fun G=>have g:=G.toGood;(aj (a_<|bE g (bE g (aU g<|ah (aa g) ak)<|Va aI<|pb g (aa g) aI)<|pb g (aa g) aI) aq)
def JV:List Str:=["_law_history","_law_row","_law_goal","_law_here","_law_found"]
noncomputable def JW:List RS:=
 [.asg 3 (.iR (.v 1) (.c (.str "here"))),
 .dput (.v 1) (.c<|.str "here") (.v 2),
 .asg 4 (.aM 0 "go" (.v 0) [.v 2]),
 .ret (.and [(.call 0 [.v 4,(.call 1 [.v 1,.v 3]),(.call 1 [.v 1,.v 2])]),(.cmp .Eq (.aM 1 "now" (.v 0) []) (.v 2))])]
def JX:List Str:=["_law_leads","_law_text"]
def Xl:List Str:=["go","now"]
def JY:Stmt:=br 42
theorem Xm:MX JV JY JX ag ag Xl ag ag ag JW 0:=fun G=>have g:=G.toGood;(aj (aY G<|pb g (aa g) aI)<|aj (wy G (aa g) (aa g) aI)<|aj (aY G<|cJ g (aa g)<|ah (aa g) ak)<|aj (a_<|gy (aU g<|ah (aa g)<|ah (aU g<|ah (aa g)<|ah (aa g) ak)<|ah (aU g<|ah (aa g)<|ah (aa g) ak) ak)<|iA<|fY g (dJ g<|aa g)<|aa g) aq)
def JZ:List Str:=["_law_history","_law_row","_law_many","_law_size","_law_node","_law_change"]
noncomputable def J0:List RS:=
 [.asg 3 (.blt .len [(.iR (.v 1) (.c (.str "tail")))]),
 .iy 4 .gP [.v 2] [.asg 5 (.lst [(.tup [(.c (.str "put")),(.call 0 [(.bin .Add (.v 4) (.c (.int 1)))])]),(.tup [(.c (.str "cut")),(.call 0 [.v 4])]),(.tup [(.c (.str "keep")),.v 3])]),
  .ite (.cmp .NotEq (.aM 0 "do" (.v 0) [(.sl (.v 5) none (some (.bin .Add (.c (.int 2)) (.blt .int [(.cmp .Gt (.v 3) (.c (.int 0)))]))))]) (.bin .Add (.v 4) (.c (.int 1)))) [.ret (.c (.bl false))] []],
 .dput (.v 1) (.c<|.str "here") (.v 2),
 .ret (.cmp .Eq (.aM 1 "many" (.v 0) []) (.bin .Add (.v 2) (.c (.int 1))))]
def Xn:List Str:=["len","range","int"]
def Xo:List Str:=["do","many"]
def J3:Stmt:=br 43
theorem Xp:MX JZ J3 JT ag Xn Xo ag ag ag J0 0:=fun G=>have g:=G.toGood;(aj (aY G<|cG g<|ah (pb g (aa g) aI) ak)<|aj (m_ G (AF g<|aa g)<|aj (aY G<|cx<|ah (e9<|ah aI<|ah (aU g<|ah (bE g (aa g) aB) ak) ak)<|ah (e9<|ah aI<|ah (aU g<|ah (aa g) ak) ak)<|ah (e9<|ah aI<|ah (aa g) ak) ak)<|aj (bq (aR g (cJ g (aa g)<|ah (kN g (aa g) q_<|iB<|bE g aB<|cG g<|ah (fY g (aa g) aB) ak) ak)<|bE g (aa g) aB) (aj (a_ fX) aq) aq) aq)<|aj (wy G (aa g) (aa g) aI)<|aj (a_<|fY g (dJ g<|aa g)<|bE g (aa g) aB) aq)
def J4:List Str:=["_law_history","_law_row","_law_many","_law_node","_law_k"]
noncomputable def J5:List RS:=
 [.ite (.or [(.cmp .NotEq (.aM 0 "way" (.v 0) [.v 2,(.c (.int 0))]) (.xt Bo [.v 2,(.neg (.c (.int 1))),(.neg (.c (.int 1)))])),(.cmp .NotEq (.aM 0 "way" (.v 0) [(.c (.int 0)),.v 2]) (.xt Bn [(.bin .Add (.v 2) (.c (.int 1)))]))]) [.ret (.c (.bl false))] [],
 .ite (.or [(.cmp .NotEq (.aM 1 "parent" (.v 0) [.v 2])<|.bin .Sub (.v 2)<|.c<|.int 1),(.cmp .NotEq (.aM 2 "children" (.v 0) [.v 2])<|.lst [])]) [.ret<|.c<|.bl false] [],
 .iy 4 .list [(.lst [(.c<|.int 0),.v 3,(.bin .Sub (.v 2)<|.c<|.int 1),.v 2])] [.ite (.or [(.cmp .NotEq (.aM 3 "size" (.v 0) [.v 4])<|.blt .len [(.call 0 [.v 1,.v 4])]),(.and [(.cmp .Lt (.v 4)<|.v 2),(.cmp .NotEq (.aM 2 "children" (.v 0) [.v 4])<|.lst [(.bin .Add (.v 4)<|.c<|.int 1)])])]) [.ret<|.c<|.bl false] []],
 .ret (.c (.bl true))]
def Xq:List Str:=["_law_text"]
def Xr:List Str:=["list","range","len"]
def Xs:List Str:=["way","parent","children","size"]
def J6:Stmt:=br 44
theorem Xt:MX J4 J6 Xq ag Xr Xs ag ag ag J5 0:=fun G=>have g:=G.toGood;(aj (bq (PW.pt<|jg (aR g (cJ g (aa g)<|ah (aa g)<|ah aB ak)<|Wk g<|ah (aa g)<|ah (lZ aB)<|ah (lZ aB) ak)<|jO<|aR g (cJ g (aa g)<|ah aB<|ah (aa g) ak)<|Wj g<|ah (bE g (aa g) aB) ak) (aj (a_ fX) aq) aq)<|aj (bq (PW.pt<|jg (aR g (cJ g (aa g)<|ah (aa g) ak)<|bE g (aa g) aB)<|jO<|aR g (cJ g (aa g)<|ah (aa g) ak)<|cx ak) (aj (a_ fX) aq) aq)<|aj (m_ G (iC g<|cx<|ah aB<|ah (aa g)<|ah (bE g (aa g) aB)<|ah (aa g) ak)<|aj (bq (PW.pt<|jg (aR g (cJ g (aa g)<|ah (aa g) ak)<|cG g<|ah (aU g<|ah (aa g)<|ah (aa g) ak) ak)<|jO<|PW.pt<|pd (aR g (aa g)<|aa g)<|rg<|aR g (cJ g (aa g)<|ah (aa g) ak)<|cx<|ah (bE g (aa g) aB) ak) (aj (a_ fX) aq) aq) aq)<|aj (a_ fX) aq)
def J7:List Str:=["_law_history","_law_row","_law_here","_law_found"]
noncomputable def J8:List RS:=
 [.asg 2 (.iR (.v 1) (.c (.str "here"))),
 .asg 3 (.aM 0 "undo" (.v 0) []),
 .ite (.or [(.not<|.call 0 [.v 3,(.call 1 [.v 1,.v 2]),(.call 1 [.v 1,(.bin .Sub (.v 2)<|.c<|.int 1)])]),(.cmp .NotEq (.aM 1 "now" (.v 0) [])<|.bin .Sub (.v 2)<|.c<|.int 1)]) [.ret<|.c<|.bl false] [],
 .asg 3 (.aM 2 "redo" (.v 0) []),
 .ret (.and [(.call 0 [.v 3,(.call 1 [.v 1,(.bin .Sub (.v 2) (.c (.int 1)))]),(.call 1 [.v 1,.v 2])]),(.cmp .Eq (.aM 1 "now" (.v 0) []) (.v 2))])]
def Xu:List Str:=["undo","now","redo"]
def J9:Stmt:=br 45
theorem Xv:MX J7 J9 JX ag ag Xu ag ag ag J8 0:=fun G=>have g:=G.toGood;(aj (aY G<|pb g (aa g) aI)<|aj (aY G<|dJ g<|aa g)<|aj (bq (PW.pt<|jg (gz<|iU g<|aU g<|ah (aa g)<|ah (aU g<|ah (aa g)<|ah (aa g) ak)<|ah (aU g<|ah (aa g)<|ah (bE g (aa g) aB) ak) ak)<|jO<|aR g (dJ g<|aa g)<|bE g (aa g) aB) (aj (a_ fX) aq) aq)<|aj (aY G<|dJ g<|aa g)<|aj (a_<|gy (aU g<|ah (aa g)<|ah (aU g<|ah (aa g)<|ah (bE g (aa g) aB) ak)<|ah (aU g<|ah (aa g)<|ah (aa g) ak) ak)<|iA<|fY g (dJ g<|aa g)<|aa g) aq)
def gb:List Str:=["_law_script","_law_tail","_law_many","_law_row","_law_history","_law_node","_law_goal","_law_change"]
noncomputable def b_:List RS:=
 [.asg 1 (.sl (.c (.str "ABCDEFGHIJKLMNOPQRSTUVWXYZ")) none (some (.bin .Mod (.call 0 [.v 0,(.c (.int 0))]) (.c (.int 21))))),
 .asg 2 (.bin .Add (.c<|.int 1)<|.bin .Mod (.call 0 [.v 0,(.c<|.int 1)])<|.c<|.int 60),
 .ite (.cmp .Eq (.bin .Mod (.call 0 [.v 0,(.c<|.int 2)])<|.c<|.int 8)<|.c<|.int 3) [.asg 2<|.bin .Add (.c<|.int 1100)<|.bin .Mod (.call 0 [.v 0,(.c<|.int 1)])<|.c<|.int 40] [],
 .asg 3 (.xt pB [(.c<|.str "tail"),.v 1,(.c<|.str "foreign"),(.c<|.int 0),(.c<|.str "here"),(.c<|.int 0)]),
 .asg 4 (.make 0 [(.bin .Add (.c<|.int 1)<|.blt .len [.v 1])]),
 .ite (.or [(.not<|.call 1 [.v 4,.v 3,.v 2]),(.not<|.call 2 [.v 4,.v 3])]) [.ret<|.c<|.bl false] [],
 .asg 5 (.bin .Mod (.call 0 [.v 0,(.c<|.int 3)])<|.bin .Add (.v 2)<|.c<|.int 1),
 .ite (.not<|.call 3 [.v 4,.v 3,.v 2,.v 5]) [.ret<|.c<|.bl false] [],
 .iy 6 .list [(.lst [(.c<|.int 0),.v 5])] [.ite (.not<|.call 4 [.v 4,.v 3,.v 6]) [.ret<|.c<|.bl false] []],
 .asg 7 (.lst [(.tup [(.c<|.str "keep"),(.c<|.int 1)]),(.tup [(.c<|.str "put"),(.c<|.str "+")]),(.tup [(.c<|.str "keep"),(.blt .len [.v 1])])]),
 .ite (.cmp .IsNot (.aM 0 "foreign" (.v 4) [(.sl (.v 7) none<|some<|.bin .Add (.c<|.int 2)<|.blt .int [(.cmp .NotEq (.v 1)<|.c<|.str "")])])<|.c .aC) [.ret<|.c<|.bl false] [],
 .dput (.v 3) (.c<|.str "foreign") (.c<|.int 1),
 .ite (.not<|.call 3 [.v 4,.v 3,.v 2,.v 5]) [.ret<|.c<|.bl false] [],
 .iy 6 .list [(.lst [(.c<|.int 0),.v 2])] [.ite (.not<|.call 4 [.v 4,.v 3,.v 6]) [.ret<|.c<|.bl false] []],
 .ret (.and [(.call 2 [.v 4,.v 3]),(.cmp .Eq (.aM 1 "many" (.v 4) []) (.bin .Add (.v 2) (.c (.int 1))))])]
def gF:List Str:=["_law_cell_at","_law_made","_law_stepped","_law_asked","_law_went"]
def gG:List Str:=["len","int"]
def gH:List Str:=["foreign","many"]
def gI:List Str:=["History"]
def cy:Stmt:=br 46
theorem Xw:MY gb cy gF ag gG gH gI ag ag b_ 0 0:=by
 intro CX Γ X G;have g:=G.toGood;show PS X (.Assign [.Name "_law_tail" _] _ _) (di Γ<|.asg 1 _)
 with_reducible exact(aY G<|kN g aI q_<|iB<|bE g (aU g<|ah (aa g)<|ah aB ak) aB)
theorem Xx:MY gb cy gF ag gG gH gI ag ag b_ 0 1:=by
 intro CX Γ X G;have g:=G.toGood;show PS X (.Assign [.Name "_law_many" _] _ _) (di Γ<|.asg 2 _)
 with_reducible exact(aY G<|bE g aB<|bE g (aU g<|ah (aa g)<|ah aB ak) aB)
theorem Xy:MY gb cy gF ag gG gH gI ag ag b_ 0 2:=fun G=>have g:=G.toGood;(bq (aR g (bE g (aU g<|ah (aa g)<|ah aB ak) aB) aB) (aj (aY G<|bE g aB<|bE g (aU g<|ah (aa g)<|ah aB ak) aB) aq) aq)
theorem Xz:MY gb cy gF ag gG gH gI ag ag b_ 0 3:=by
 intro CX Γ X G;have g:=G.toGood;show PS X (.Assign [.Name "_law_row" _] _ _) (di Γ<|.asg 3 _)
 with_reducible exact(aY G<|HM<|wI aI (aa g)<|wI aI aB<|wI aI aB HK)
theorem XA:MY gb cy gF ag gG gH gI ag ag b_ 0 4:=by
 intro CX Γ X G;have g:=G.toGood;show PS X (.Assign [.Name "_law_history" _] _ _) (di Γ<|.asg 4 _)
 with_reducible exact(aY G<|wm g<|ah (bE g aB<|cG g<|ah (aa g) ak) ak)
theorem XB:MY gb cy gF ag gG gH gI ag ag b_ 0 5:=fun G=>have g:=G.toGood;(bq (PW.pt<|jg (gz<|iU g<|aU g<|ah (aa g)<|ah (aa g)<|ah (aa g) ak)<|jO<|gz<|iU g<|aU g<|ah (aa g)<|ah (aa g) ak) (aj (a_ fX) aq) aq)
theorem XC:MY gb cy gF ag gG gH gI ag ag b_ 0 6:=by
 intro CX Γ X G;have g:=G.toGood;show PS X (.Assign [.Name "_law_node" _] _ _) (di Γ<|.asg 5 _)
 with_reducible exact(aY G<|bE g (aU g<|ah (aa g)<|ah aB ak)<|bE g (aa g) aB)
theorem XD:MY gb cy gF ag gG gH gI ag ag b_ 0 7:=fun G=>have g:=G.toGood;(bq (gz<|iU g<|aU g<|ah (aa g)<|ah (aa g)<|ah (aa g)<|ah (aa g) ak) (aj (a_ fX) aq) aq)
theorem XE:MY gb cy gF ag gG gH gI ag ag b_ 0 8:=fun G=>have g:=G.toGood;(m_ G (iC g<|cx<|ah aB<|ah (aa g) ak)<|aj (bq (gz<|iU g<|aU g<|ah (aa g)<|ah (aa g)<|ah (aa g) ak) (aj (a_ fX) aq) aq) aq)
theorem XF:MY gb cy gF ag gG gH gI ag ag b_ 0 9:=by
 intro CX Γ X G;have g:=G.toGood;show PS X (.Assign [.Name "_law_change" _] _ _) (di Γ<|.asg 7 _)
 with_reducible exact(aY G<|cx<|ah (e9<|ah aI<|ah aB ak)<|ah (e9<|ah aI<|ah aI ak)<|ah (e9<|ah aI<|ah (cG g<|ah (aa g) ak) ak) ak)
theorem XG:MY gb cy gF ag gG gH gI ag ag b_ 0 10:=fun G=>have g:=G.toGood;(bq (aR g (cJ g (aa g)<|ah (kN g (aa g) q_<|iB<|bE g aB<|cG g<|ah (fY g (aa g) aI) ak) ak) q9) (aj (a_ fX) aq) aq)
theorem XH:MY gb cy gF ag gG gH gI ag ag b_ 0 11:=fun G=>have g:=G.toGood;(wy G aB (aa g) aI)
theorem XI:MY gb cy gF ag gG gH gI ag ag b_ 0 12:=fun G=>have g:=G.toGood;(bq (gz<|iU g<|aU g<|ah (aa g)<|ah (aa g)<|ah (aa g)<|ah (aa g) ak) (aj (a_ fX) aq) aq)
theorem XJ:MY gb cy gF ag gG gH gI ag ag b_ 0 13:=fun G=>have g:=G.toGood;(m_ G (iC g<|cx<|ah aB<|ah (aa g) ak)<|aj (bq (gz<|iU g<|aU g<|ah (aa g)<|ah (aa g)<|ah (aa g) ak) (aj (a_ fX) aq) aq) aq)
theorem XM:MY gb cy gF ag gG gH gI ag ag b_ 0 14:=by
 intro CX Γ X G;have g:=G.toGood;show PS X (.Return (some _) _) (di Γ<|.ret _)
 with_reducible exact(a_<|gy (aU g<|ah (aa g)<|ah (aa g) ak)<|iA<|fY g (dJ g<|aa g)<|bE g (aa g) aB)
theorem XN:MX gb cy gF ag gG gH gI ag ag b_ 0:=by
 intro CX Γ X G;have e:fR cy=[gC cy 0,gC cy 1,gC cy 2,gC cy 3,gC cy 4,gC cy 5,gC cy 6,gC cy 7,gC cy 8,gC cy 9,gC cy 10,gC cy 11,gC cy 12,gC cy 13,gC cy 14]:=by kernel_rfl
 have e2:b_=[gE b_ 0,gE b_ 1,gE b_ 2,gE b_ 3,gE b_ 4,gE b_ 5,gE b_ 6,gE b_ 7,gE b_ 8,gE b_ 9,gE b_ 10,gE b_ 11,gE b_ 12,gE b_ 13,gE b_ 14]:=by kernel_rfl
 rw[e,e2]
 with_reducible exact aj (Xw G) (aj (Xx G)<|aj (Xy G)<|aj (Xz G)<|aj (XA G)<|aj (XB G)<|aj (XC G)<|aj (XD G)<|aj (XE G)<|aj (XF G)<|aj (XG G)<|aj (XH G)<|aj (XI G)<|aj (XJ G)<|aj (XM G)<|aq)
end L2.mi
namespace L2.N
open PySem PySem.Spec
def da:List V->List V
 |[]=>[]
 |[x]=>[x]
 |x::_::r=>x::da r
theorem J_(a n:Nat)(ha:a<=n):sliceRange (a:Int) (n:Int) 2=(List.range<|(n - a+1) / 2).map fun k=>a+2*k:=by
 unfold sliceRange;have h1:(2:Int) >0:=by decide
 simp only[h1,if_true]
 have e:(if (a:Int) < (n:Int) then ((n:Int) - (a:Int)+2 - 1) / 2 else 0).toNat=(n - a+1) / 2:=by
  by_cases z:a<n
  ·rw[if_pos (by lia)];lia
  ·rw[if_neg (by lia)];lia
 rw[e];refine zbo fun k hk=>?_;show((a:Int)+2* (k:Int)).toNat=a+2*k;lia
theorem Bq:∀(xs:List V),((List.range<|(xs.length+1) / 2).map fun k=>2*k).filterMap (xs[·]?)=da xs
 |[]=>rfl
 |[x]=>by
  have e:([x].length+1) / 2=1:=by simp
  rw[e]
  simp[da]
 |x::y::r=>by
  have ih:=Bq r;have e:((x::y::r).length+1) / 2=(r.length+1) / 2+1:=by
   show(r.length+1+1+1) / 2=_;lia
  rw[e,List.range_succ_eq_map,zar,zaX,zbB];show x::List.filterMap _ _=x::da r;rw[<-ih,zbP,zbP]
  congr 1
theorem XO(xs:List V):pE xs (some 0) none (some 2)=da xs:=by
 unfold pE;have e:sliceBounds (some 0) none (some 2) xs.length=(((0:Nat):Int),(xs.length:Int),2):=by
  unfold sliceBounds
  simp
  lia
 rw[e];show(sliceRange ((0:Nat):Int) (xs.length:Int) 2).filterMap (xs[·]?)=_;rw[J_ 0 _<|zqZ _,Nat.sub_zero,<-Bq xs]
 congr 1
 refine zbo fun k _=>?_;lia
theorem XQ(xs:List V):pE xs (some 1) none (some 2)=da (xs.drop 1):=by
 unfold pE;cases xs with
 |nil=>rfl
 |cons x r=>
  have e:sliceBounds (some 1) none (some 2) (x::r).length=(((1:Nat):Int),((x::r).length:Int),2):=by
   unfold sliceBounds
   simp
   lia
  rw[e];show(sliceRange ((1:Nat):Int) ((x::r).length:Int) 2).filterMap ((x::r)[·]?)=_;rw[J_ 1 _ (by rw[zak];lia)]
  show _=da r;rw[<-Bq r,zbP,zbP,zak,Nat.add_sub_cancel]
  congr 1
  funext k
  show(x::r)[1+2*k]?=r[2*k]?;rw[Nat.add_comm 1<|2*k,zaQ]
end L2.N
namespace L2.B
open PySem PySem.Spec PyProof.Rows
def cz(H H':Hp):Prop:= ∀b xs,H b=some (.tup xs)->H' b=some (.tup xs)
theorem du(h:ay H H'):cz H H':=fun b xs e=>h b _ e
theorem cz.trans(a:cz H H1)(b:cz H1 H2):cz H H2:=fun c xs e=>b c xs (a c xs e)
theorem sameNew{p:Addr}{o:HO}(h:H p=none):ay H (upd H p o):=fun b u e=>by rw[aF<|bf e h];exact e
def aJ(c:Addr)(H H':Hp):Prop:= ∀b o,H b=some o->b≠c->H' b=some o
theorem aJ.upd{o:HO}:aJ c H (upd H c o):=fun b u e n=>by rw[aF n];exact e
theorem aJ.trans(a:aJ c H H1)(b:aJ c H1 H2):aJ c H H2:=fun d o e n=>b d o (a d o e n) n
theorem aJ.same(a:aJ c H H1)(b:ay H1 H2):aJ c H H2:=fun d o e n=>b d o (a d o e n)
theorem sameBut(a:ay H H1)(b:aJ c H1 H2):aJ c H H2:=fun d o e n=>b d o (a d o e) n
theorem tZ(a:ay H H1)(hc:H c=none)(b:aJ c H1 H2):ay H H2:=fun d o e=>b d o (a d o e) (bf e hc)
theorem aJ.bS(h:aJ c H H')(hc:H c=some (.lst xs)):cz H H':=fun b ys e=>h b _ e (fun z=>by rw[z,hc] at e;cases e)
theorem iF{c:Bool}{A B:Prop}(q:B)(h:c=false:=by first|rfl|decide):if c=true then A else B:=by
 rw[h];exact gU q
theorem iT{c:Bool}{A B:Prop}(q:A)(h:c=true:=by first|rfl|decide):if c=true then A else B:=by
 rw[h];exact fk q
inductive Pt where|keep (n:Int)|put (s:Str)|cut (s:Str)
 deriving DecidableEq
def Pt.word:Pt->Str|.keep _=> "keep" |.put _=> "put" |.cut _=> "cut"
def Pt.val:Pt->V|.keep n=>.int n|.put s=>.str s|.cut s=>.str s
def gJ(H:Hp)(v:V)(p:Pt):Prop:= ∃a,v=.ref a/\H a=some (.tup [.str p.word,p.val])
abbrev aP(H:Hp):List V->List Pt->Prop:=Paired (gJ H)
theorem gJ.mono{p:Pt}(t:cz H H')(h:gJ H v p):gJ H' v p:=by
 obtain⟨a,e,h⟩:=h;exact⟨a,e,t _ _ h⟩
theorem aP.mono(t:cz H H'):∀{vs:List V}{ps:List Pt},aP H vs ps->aP H' vs ps
 |_,_,.nil=>.nil
 |_,_,.cons h r=>.cons (h.mono t) (aP.mono t r)
theorem aP.get:∀{vs:List V}{ps:List Pt}{i:Nat}{v:V},aP H vs ps->vs[i]?=some v->∃p,ps[i]?=some p/\gJ H v p
 |_,_,i,v,.nil,e=>by simp at e
 |_,_,0,v,.cons h r,e=>by simp at e;subst e;exact⟨_,rfl,h⟩
 |_,_,i+1,v,.cons h r,e=>by
  obtain⟨p,a,b⟩:=aP.get (i:=i) r (by simpa using e)
  exact⟨p,by simpa using a,b⟩
theorem aP.snoc{vs:List V}{ps:List Pt}{p:Pt}(h:aP H vs ps)(q:gJ H v p):aP H (vs++[v]) (ps++[p]):=Paired.snoc h q
theorem aP.dropLast:∀{vs:List V}{ps:List Pt},aP H vs ps->aP H vs.dropLast ps.dropLast
 |_,_,.nil=>.nil
 |_,_,.cons h .nil=>.nil
 |_,_,.cons h (.cons h2 r)=>.cons h (aP.dropLast<|.cons h2 r)
def gc(w a:Str):Bool:=w !=a && !(a=="cut" && w=="put")
def Ka:Sp:=fun vs H Q E=>∃w a,vs=[.str w,.str a]/\Q (.bl<|gc w a) H
theorem XR{K:Frag}(vs:List V)(H:Hp)(Q:VK)(E:XK)(h:Ka vs H Q E):aE (aO K [] [] (E:=E)) GY {nx:=fun _ H'=>Q .aC H',rt:=Q} (start GX vs) H:=by
 obtain⟨w,a,rfl,q⟩:=h;refine⟨_,rfl,_,rfl,_,rfl,?_⟩;unfold gc at q;refine jE (fun h=>?_)<|fun h=>?_
 ·rw[zaN,ij] at h;have e:(w !=a)=true:=h;rw[e] at q;refine⟨_,rfl,_,rfl,?_⟩;refine jE (fun h2=>?_)<|fun h2=>?_
  ·rw[zaI,ij] at h2;rw[h2] at q;refine⟨_,rfl,?_⟩;show Q (.bl<|!(false ^^ decide (V.str w=V.str "put"))) H;rw[zaI,ij];exact q
  ·rw[zaI,ij] at h2;have e2:(a=="cut")=false:=by simpa using h2
   rw[e2] at q;exact q
 ·rw[zaN,ij] at h;have e:(w !=a)=false:=by simpa using h
  rw[e] at q;exact q
def pI:Pt->Int|.keep n=>n|.put s=>s.length|.cut s=>s.length
def Br:Pt->Prop|.keep _=>True|.put s=>s.length<=1000000|.cut s=>s.length<=1000000
theorem cU(h:n<=1000000):n<=sizeLine:=zat h (by decide)
theorem dN(h:n<=1000000):n<sizeLine:=Nat.lt_of_le_of_lt h (by decide)
def nA:Sp:=fun vs H Q E=>∃v p,vs=[v]/\gJ H v p/\Br p/\Q (.int<|pI p) H
theorem XS{K:Frag}(vs:List V)(H:Hp)(Q:VK)(E:XK)(h:nA vs H Q E):aE (aO K [] [] (E:=E)) G3 {nx:=fun _ H'=>Q .aC H',rt:=Q} (start G1 vs) H:=by
 obtain⟨v,p,rfl,⟨a,rfl,ha⟩,ho,q⟩:=h;refine⟨_,rfl,.inr<|.inl ⟨_,_,_,_,rfl,rfl,aH.of ha,rfl,_,rfl,?_⟩⟩;rw[zaI,ij];cases p with
 |keep n=>exact fk ⟨_,rfl,.inr<|.inl ⟨_,_,_,_,rfl,rfl,aH.of ha,rfl,q⟩⟩
 |put s=>exact gU ⟨_,rfl,.inr<|.inl ⟨_,_,_,_,rfl,rfl,aH.of ha,rfl,cU ho,q⟩⟩
 |cut s=>exact gU ⟨_,rfl,.inr<|.inl ⟨_,_,_,_,rfl,rfl,aH.of ha,rfl,cU ho,q⟩⟩
def cell(ns:List Int)(k:Nat):Int:=ns.getD k 0
def Bs(K:Frag):Sp:=fun vs H Q E=>∃(a:Addr) (ns:List Int) (k:Int),vs=[.ref a,.int k]/\au K H a (ns.map V.int)/\0<=k/\Q (.int<|cell ns k.toNat) H
theorem XT{K:Frag}(vs:List V)(H:Hp)(Q:VK)(E:XK)(h:Bs K vs H Q E):aE (aO K [] [] (E:=E)) Hf {nx:=fun _ H'=>Q .aC H',rt:=Q} (start He vs) H:=by
 obtain⟨a,ns,k,rfl,ha,hk,q⟩:=h;refine⟨_,rfl,_,rfl,.inl ⟨_,ha,trivial,_,rfl,?_⟩⟩;rw[zad];refine jE (fun h=>?_)<|fun h=>?_
 ·have aX:k< (ns.length:Int):=of_decide_eq_true h;refine⟨_,rfl,_,rfl,.inl ⟨_,_,_,_,rfl,rfl,ha,?_,q⟩⟩;have e:=dq (xs:=ns.map V.int) (j:=k.toNat) (v:=.int (cell ns k.toNat)) (by
   have:k.toNat<ns.length:=by lia
   simp[cell,this])
  rw[show((k.toNat:Nat):Int)=k by lia] at e
  exact e
 ·have hge:¬k< (ns.length:Int):=fun z=>h (zqT z);have e:cell ns k.toNat=0:=by
   have z:ns[k.toNat]?=none:=List.getElem?_eq_none_iff.mpr (by lia)
   unfold cell;rw[List.getD_eq_getElem?_getD,z];rfl
  rw[e] at q;exact q
def SG:Str:=" !\"#$&'()*+,-./0123456789:;<=>?@ABCDEFGHIJKLMNOPQRSTUVWXYZ[\\]^_`abcdefghijklmnopqrstuvwxyz{|}~\n"
def good(x:Str):Prop:=x.length<=1000000/\∀c∈x.cps.toList,SG.cps.contains c=true
theorem takeWhile_all{α:Type}(p:α->Bool):∀l:List α,(∀c∈l,p c=true)->l.takeWhile p=l
 |[],_=>rfl
 |c::l,h=>by rw[List.takeWhile_cons,h c zax,takeWhile_all p l fun d hd=>h d (zay _ hd)];rfl
theorem XU(x y:Str)(h:∀c∈x.cps.toList,y.cps.contains c=true):Txt.lstripChars x y="":=by
 have e0:stripLo y.cps.contains true x=x.length:=by
  unfold stripLo;rw[if_pos rfl,takeWhile_all _ _ h]
  simp[Str.length]
 have e1:stripHi y.cps.contains false x x.length=x.length:=rfl;unfold Txt.lstripChars Txt.stripBy stripSame stripped;rw[e0,e1]
 split
 ·rename_i hq
  simp only[zag,beq_iff_eq] at hq
  have:x.cps= #[]:=Array.eq_empty_of_size_eq_zero hq.1;obtain⟨c⟩:=x;have e:c= #[]:=this;subst e
  rfl
 ·show(⟨x.cps.extract x.length x.length⟩:Str)=_;have:x.cps.extract x.length x.length= #[]:=by simp[Str.length]
  rw[this];rfl
theorem Bt{a:Addr}{T:Ty}{k:Bool->Prop}(h:H a=some (.tup xs))(q:k (T==.tuple)):bH T (.ref a) H k:=by
 show(match H a with|some (.lst _)=>k (T==.list)|some (.bV _<|.lst _)=>k (T==.list)|some (.tup _)=>k (T==.tuple)|some (.dK _)=>k (T==.dict)|some (.dT _)=>k (T==.dict)|_=>False)
 rw[h];exact q
theorem Kb{a:Addr}{T:Ty}{k:Bool->Prop}(h:H a=some (.lst xs))(q:k (T==.list)):bH T (.ref a) H k:=by
 show(match H a with|some (.lst _)=>k (T==.list)|some (.bV _<|.lst _)=>k (T==.list)|some (.tup _)=>k (T==.tuple)|some (.dK _)=>k (T==.dict)|some (.dT _)=>k (T==.dict)|_=>False)
 rw[h];exact q
abbrev gS:List (Str×V):=[("SIGNS",.str SG)]
def pJ:Sp:=fun vs H Q E=>∃x,vs=[.str x]/\good x/\Q (.bl true) H
theorem Bu{K:Frag}(vs:List V)(H:Hp)(Q:VK)(E:XK)(h:pJ vs H Q E):aE (aO K [] gS (E:=E)) AX {nx:=fun _ H'=>Q .aC H',rt:=Q} (start l7 vs) H:=by
 obtain⟨x,rfl,hx,q⟩:=h;refine⟨_,rfl,rfl,_,rfl,fk ⟨_,rfl,rfl,cU hx.1,?_⟩⟩;show Q (.bl<|false ^^ decide (V.str (Txt.lstripChars x SG)=V.str "")) H;rw[XU x SG hx.2,zqT rfl];exact q
def aV:Pt->Prop|.keep n=>1<=n|.put s=>good s/\s≠"" |.cut s=>good s/\s≠""
def XW(K:Frag):Sp:=fun vs H Q E=>∃w p xs,vs=[.str w,.ref p]/\aH K H p xs/\xs.all iq=true/\Q (.bl<|eZ (.str w) xs) H
theorem XX{K:Frag}(vs:List V)(H:Hp)(Q:VK)(E:XK)(h:XW K vs H Q E):aE (aO K [] [] (E:=E)) AW {nx:=fun _ H'=>Q .aC H',rt:=Q} (start AV vs) H:=by
 obtain⟨w,p,xs,rfl,hp,hf,q⟩:=h;exact⟨_,rfl,rfl,_,rfl,fk ⟨_,rfl,_,rfl,p,xs,rfl,.inr hp,rfl,hf,q⟩⟩
def pK:Sp:=fun vs H Q E=>∃v p,vs=[v]/\gJ H v p/\aV p/\∀H',ay H H'->Q (.bl true) H'
def chainOk:Str->List Pt->Bool
 |_,[]=>true
 |a,p::r=>gc p.word a && chainOk p.word r
def jj(a:Str)(ps:List Pt):Nat->Str
 | 0=>a
 |i+1=>match ps[i]? with|some p=>p.word|none=> ""
theorem Bv:∀(ps:List Pt) (a:Str) (i:Nat) (p:Pt),chainOk a ps=true->ps[i]?=some p->gc p.word (jj a ps i)=true
 |[],_,_,_,_,h=>by simp at h
 |q::r,a,0,p,h,e=>by
  simp only[chainOk,zag] at h
  simp at e;subst e;exact h.1
 |q::r,a,i+1,p,h,e=>by
  simp only[chainOk,zag] at h
  have e':r[i]?=some p:=by simpa using e
  have ih:=Bv r q.word i p h.2 e';cases i with
  |zero=>simpa[jj] using ih
  |succ i=>simpa[jj] using ih
abbrev XY:List (Str×Sp):=[("is_part",pK),("may_follow",Ka)]
def Bw:Sp:=fun vs H Q E=>∃a xs ps,vs=[.ref a]/\H a=some (.lst xs)/\aP H xs ps/\(∀p∈ps,aV p)/\chainOk "" ps=true/\∀H',ay H H'->Q .aC H'
theorem XZ{K:Frag}{et:List (Str×Addr)}(vs:List V)(H:Hp)(Q:VK)(E:XK)(h:Bw vs H Q E):aE (aO K XY [] (et:=et) (E:=E)) G0 {nx:=fun _ H'=>Q .aC H',rt:=Q} (start GZ vs) H:=by
 obtain⟨a,xs,ps,rfl,ha,de,aD,cN,q⟩:=h;refine⟨_,rfl,rfl,Kb ha ⟨_,rfl,a,rfl,⟨_,au.of ha⟩,mU (K:=K) (a:=a) (xs:=xs) (fun i σ H2=>∃v,σ=[some (.ref a),some (.str (jj "" ps i)),v]/\ay H H2) ⟨none,rfl,ay.refl _⟩
  (fun i σ H2 _ ⟨_,_,s2⟩=>au.of (s2 _ _ ha)) ?_ ?_⟩⟩
 ·rintro i x σ H2 hi ⟨v,rfl,s2⟩;obtain⟨p,hp,jR⟩:=de.get hi;obtain⟨b,rfl,hb⟩:=jR.mono (du s2);refine⟨_,rfl,_,p,rfl,⟨b,rfl,hb⟩,aD p<|zan hp,fun H3 s3=>?_⟩;refine⟨_,rfl,.inr<|.inl ⟨_,_,_,_,rfl,rfl,aH.of<|s3 _ _ hb,rfl,_,rfl,p.word,_,rfl,?_⟩⟩;have e:=Bv ps "" i p cN hp;show(fun c H1=>if (!c)=true then _ else _) (gc p.word<|jj "" ps i) H3
  rw[e];refine⟨_,rfl,.inr<|.inl ⟨_,_,_,_,rfl,rfl,aH.of<|s3 _ _ hb,rfl,some<|.ref b,?_,s2.trans s3⟩⟩;show[some<|V.ref a,some<|V.str p.word,some<|V.ref b]=_;have e2:jj "" ps (i+1)=p.word:=by simp only[jj,hp]
  rw[e2]
 ·rintro σ H2 ⟨v,rfl,s2⟩;exact q H2 s2
def overOf(ps:List Pt):List Int:=(ps.filter fun p=>decide (p.word≠ ("put":Str))).map pI
def pL(ps:List Pt):List Int:=(ps.filter fun p=>decide (p.word≠ ("cut":Str))).map pI
abbrev Kc:List (Str×Sp):=[("need_change",Bw),("part_size",nA)]
def iD:Sp:=fun vs H Q E=>∃a xs ps,vs=[.ref a]/\H a=some (.lst xs)/\aP H xs ps/\(∀p∈ps,aV p)/\chainOk "" ps=true/\ps.length<=1000000/\
 ∀t H',ay H H'->H' t=some (.tup [.int (overOf ps).sum,.int (pL ps).sum])->Q (.ref t) H'
theorem t4{p:Pt}(h:aV p):Br p:=by
 cases p with
 |keep n=>trivial
 |put s=>exact h.1.1
 |cut s=>exact h.1.1
theorem X0{α:Type}(p:α->Bool)(l:List α)(i:Nat)(v:α)(h:l[i]?=some v):(l.take<|i+1).filter p=(l.take i).filter p++(if p v then [v] else []):=by
 rw[zbu,h,zbX];cases hp:p v<;>simp[hp]
theorem X1{K:Frag}(vs:List V)(H:Hp)(Q:VK)(E:XK)(h:iD vs H Q E):aE (aO K Kc [] (E:=E)) G5 {nx:=fun _ H'=>Q .aC H',rt:=Q} (start G4 vs) H:=by
 obtain⟨a,xs,ps,rfl,ha,de,aD,cN,hlen,q⟩:=h;refine⟨_,rfl,a,xs,ps,rfl,ha,de,aD,cN,fun H1 s1=>?_⟩;have hl:=Paired.length de;have comp:∀(w:Str) (H1:Hp) (Q1:VK) (σ:St),ay H H1->σ[0]?=some (some<|.ref a)->
   (∀b H2,ay H H2->H2 b=some (.lst<|((ps.filter fun p=>decide (p.word≠w)).map pI).map V.int)->Q1 (.ref b) H2)->
   ae (aO K Kc [] (E:=E)) (.comp none [] .list [.v 0] (some<|.cmp .NotEq (.ix (.v 0)<|.c<|.int 0)<|.c<|.str w)<|.call 1 [.v 0]) σ H1 Q1:=by
  intro w H1 Q1 σ s1 hσ hq;refine⟨_,hσ,a,rfl,⟨_,au.of<|s1 _ _ ha⟩,fun i m ys H2=>m=xs.length - i/\i<=xs.length/\ay H H2/\ys=(((ps.take i).filter fun p=>decide (p.word≠w)).map pI).map V.int,⟨_,rfl,zqZ _,s1,rfl⟩,?_⟩;rintro i m ys H2 ⟨rfl,hi,s2,rfl⟩;by_cases aX:i<xs.length
  ·refine .inr ⟨⟨xs,xs[i],au.of<|s2 _ _ ha,by simp[aX]⟩,?_⟩
   rintro x H3 ⟨rfl,hx⟩;have jd:=hx xs (au.of<|s2 _ _ ha);obtain⟨p,hp,jR⟩:=de.get jd;obtain⟨b,rfl,hb⟩:=jR.mono (du s2);refine⟨_,rfl,.inr<|.inl ⟨_,_,_,_,rfl,rfl,aH.of hb,rfl,_,rfl,?_⟩⟩;rw[zaN,ij];have tf:=X0 (fun p=>decide<|p.word≠w) ps i p hp;have hc:((ps.take i).filter fun p=>decide (p.word≠w)).length<=1000000:=zat (zbY _ _) (zat (List.length_take_le _ _) (by lia))
   refine jE (fun h=>?_)<|fun h=>?_
   ·have e:decide (p.word≠w)=true:=by simpa using h
    refine⟨_,rfl,_,p,rfl,⟨b,rfl,hb⟩,t4<|aD p<|zan hp,?_,xs.length - (i+1),by lia,rfl,aX,s2,?_⟩
    ·rw[zad,zad];exact dN hc
    ·rw[tf,e];simp
   ·have e:decide (p.word≠w)=false:=by simpa using h
    refine⟨xs.length - (i+1),by lia,rfl,aX,s2,?_⟩
    rw[tf,e];simp
  ·have jS:i=xs.length:=by lia
   subst jS;refine .inl ⟨⟨xs,au.of<|s2 _ _ ha,zqR _⟩,fun p hp=>?_⟩;have e:ps.take xs.length=ps:=zaV (by lia)
   rw[e];exact hq p _ (s2.trans<|sameNew hp) aw
 refine GR<|GS<|GU<|comp "put" H1 _ _ s1 rfl fun b1 H2 s2 e2=>⟨_,au.of e2,?_⟩;refine GR<|GS<|GU<|comp "cut" H2 _ _ s2 rfl fun b2 H3 s3 e3=>⟨_,au.of e3,?_⟩;refine⟨_,rfl,_,rfl,d4,fun t ht=>?_⟩;exact q t _ (s3.trans<|sameNew ht) aw
def cat(ts:List Str):Str:=Txt.join "" ts
def sz(ts:List Str):Nat:=(ts.map Str.length).sum
theorem ofString_empty:(Str.ofString "")=⟨#[]⟩:=rfl
theorem wR(ts:List Str):(cat ts).cps.toList=(ts.map fun t=>t.cps.toList).flatten:=by
 have e:(Str.ofString "").cps= #[]:=rfl;cases ts with
 |nil=>rfl
 |cons t r=>
  show(r.foldl (fun acc p=>acc++(Str.ofString "").cps++p.cps) t.cps).toList=_;rw[e];have go:∀(r:List Str) (acc:Array Nat),(r.foldl (fun acc p=>acc++ #[]++p.cps) acc).toList=acc.toList++(r.map fun t=>t.cps.toList).flatten:=by
   intro r
   induction r with
   |nil=>intro acc;simp
   |cons q r ih=>
    intro acc;show(r.foldl (fun acc p=>acc++ #[]++p.cps)<|acc++ #[]++q.cps).toList=_;rw[ih];simp
  rw[go];simp
theorem gK{x:Str}(h:x.cps.toList=y.cps.toList):x=y:=by
 obtain⟨x⟩:=x;obtain⟨y⟩:=y;exact congrArg Str.mk<|Array.toList_inj.mp h
theorem app_list(x y:Str):(x++y).cps.toList=x.cps.toList++y.cps.toList:=by
 show(x.cps++y.cps).toList=_
 simp
theorem X3(a b:List Str):cat (a++b)=cat a++cat b:=gK (by rw[app_list,wR,wR,wR];simp)
theorem X4(x:Str):cat [x]=x:=gK (by rw[wR];simp)
theorem len_list(x:Str):x.length=x.cps.toList.length:=by simp[Str.length]
theorem Kd(x:Str):x++(Str.ofString "")=x:=gK (by rw[app_list];simp[ofString_empty])
theorem rz(x:Str):(Str.ofString "")++x=x:=gK (by rw[app_list];simp[ofString_empty])
theorem Ke(a b:List Str):sz (a++b)=sz a+sz b:=by simp[sz]
theorem joinOk_of{ts:List Str}(h:sz ts<=1000000):JoinOk "" ts=true:=by
 have go:∀(l:List Str) (n:Nat),l.foldl (· + ·.length+(Str.ofString "").length) n=n+sz l:=by
  intro l
  induction l with
  |nil=>intro n;rfl
  |cons t r ih=>
   intro n;show r.foldl _ (n+t.length+0)=_;rw[ih];show n+t.length+0+sz r=n+(t.length+sz r);lia
 unfold JoinOk;have e:ts.toArray.foldl (· + ·.length+(Str.ofString "").length) 0=sz ts:=by
  rw[List.foldl_toArray,go,zbg]
 rw[e];show(!decide (sz ts>sizeLine))=true;rw[zqF (by have:=cU h;lia)]
 rfl
def txt(mk:Str->Pt)(x:Str):List Pt:=if x="" then [] else [mk x]
def dj(ch:List Pt)(cA cK:List Str):List Pt:=ch++txt .put (cat cA)++txt .cut (cat cK)
def Kf:Sp:=fun vs H Q E=>∃c p q xs ps cA cK,vs=[.ref c,.ref p,.ref q]/\H c=some (.lst xs)/\aP H xs ps/\H p=some (.lst<|cA.map .str)/\H q=some (.lst<|cK.map .str)/\
 sz cA<=1000000/\sz cK<=1000000/\ps.length<=900000/\∀H' bo,aJ c H H'->H' c=some (.lst bo)->aP H' bo (dj ps cA cK)->Q .aC H'
theorem X5{K:Frag}(vs:List V)(H:Hp)(Q:VK)(E:XK)(h:Kf vs H Q E):aE (aO K [] [] (E:=E)) G9 {nx:=fun _ H'=>Q .aC H',rt:=Q} (start G8 vs) H:=by
 obtain⟨c,p,q,xs,ps,cA,cK,rfl,hc,de,hp,hq,t9,Bx,hl,k⟩:=h;have hlen:=Paired.length de;refine⟨rfl,_,rfl,cA,au.of hp,joinOk_of t9,?_⟩;refine⟨rfl,_,rfl,cK,au.of hq,joinOk_of Bx,?_⟩;have Kg:∀(i:Nat) (w x:Str) (mk:Str->Pt) (H1:Hp) (iX:List V) (iY:List Pt) (σ:St) (D:Ends),(∀y,(mk y).word=w/\(mk y).val=.str y)->H1 c=some (.lst iX)->aP H1 iX iY->iY.length<=950000->σ[0]?=some (some<|.ref c)->σ[i]?=some (some<|.str x)->
   (∀H2 g8,aJ c H1 H2->H2 c=some (.lst g8)->aP H2 g8 (iY++txt mk x)->D.nx σ H2)->
   di (aO K [] [] (E:=E)) (.ite (.cmp .NotEq (.v i)<|.c<|.str "") [.drop<|.bI .append (.v 0) [(.tup [(.c<|.str w),.v i])]] []) D σ H1:=by
  intro i w x mk H1 iX iY σ D Kh eE rA cT h0 hi kk;have X6:=Paired.length rA;refine⟨_,hi,_,rfl,?_⟩;rw[zaN,ij];refine jE (fun h=>?_)<|fun h=>?_
  ·have ne:x≠"":=by simpa using h
   refine⟨_,h0,.inl ⟨rfl,_,au.of eE⟩,_,hi,d4,fun t ht=>?_⟩;have pM:c≠t:=bf eE ht;refine⟨iX,(by rw[aF pM];exact eE),dN (by lia),kk _ (iX++[.ref t]) ((sameBut (sameNew ht) aJ.upd)) aw ?_⟩
   have tt:cz H1 (upd (upd H1 t<|.tup [.str w,.str x]) c<|.lst<|iX++[.ref t]):=(sameBut (sameNew ht) aJ.upd).bS eE;unfold txt;rw[if_neg ne];refine aP.snoc (rA.mono tt) ⟨t,rfl,?_⟩;rw[aF pM.symm,aw,(Kh x).1,(Kh x).2]
  ·have e:x="":=by simpa using h
   refine kk H1 iX (fun b o e _=>e) eE ?_;unfold txt;rw[if_pos e,zab];exact rA
 refine Kg 3 "put" (cat cA) .put H xs ps _ _ (fun _=>⟨rfl,rfl⟩) hc de (by lia) rfl rfl fun H2 g8 b2 cj mj=>?_
 have l2:(ps++txt .put (cat cA)).length<=950000:=by
  rw[zqA];have:(txt .put<|cat cA).length<=1:=by unfold txt;split<;>simp
  lia
 refine Kg 4 "cut" (cat cK) .cut H2 g8 _ _ _ (fun _=>⟨rfl,rfl⟩) cj mj l2 rfl rfl fun H3 jk b3 jT X7=>?_;exact k H3 jk (b2.trans b3) jT X7
def dO(ch:List Pt)(n:Int):List Pt:=match ch.getLast? with
 |some (.keep m)=>ch.dropLast++[.keep<|n+m]
 |_=>ch++[.keep n]
def Ki:Sp:=fun vs H Q E=>∃c n xs ps,vs=[.ref c,.int n]/\H c=some (.lst xs)/\aP H xs ps/\ps.length<=900000/\
 ∀H' bo,aJ c H H'->H' c=some (.lst bo)->aP H' bo (dO ps n)->Q .aC H'
theorem aP.last{ps:List Pt}(h:aP H xs ps)(hn:xs.length≠0):∃v p,xs[xs.length - 1]?=some v/\fi xs (-1)=some v/\ps.getLast?=some p/\gJ H v p:=by
 have aX:xs.length - 1<xs.length:=by lia
 obtain⟨p,hp,pv⟩:=h.get (i:=xs.length - 1) (v:=xs[xs.length - 1]) (by simp[aX])
 refine⟨xs[xs.length - 1],p,by simp[aX],?_,?_,pv⟩
 ·unfold fi ip;have:¬(0:Int)<= -1:=by decide
  rw[if_neg this,if_pos (by lia)]
  have e:((-1:Int)+(xs.length:Int)).toNat=xs.length - 1:=by lia
  show xs[((-1:Int)+(xs.length:Int)).toNat]?=_;rw[e];simp[aX]
 ·rw[List.getLast?_eq_getElem?,<-Paired.length h];exact hp
theorem X8{K:Frag}(vs:List V)(H:Hp)(Q:VK)(E:XK)(h:Ki vs H Q E):aE (aO K [] [] (E:=E)) G7 {nx:=fun _ H'=>Q .aC H',rt:=Q} (start G6 vs) H:=by
 obtain⟨c,n,xs,ps,rfl,hc,de,hl,k⟩:=h;have hlen:=Paired.length de;have fin:∀(m:Int) (H1:Hp) (iX:List V) (iY:List Pt),aJ c H H1->H1 c=some (.lst iX)->aP H1 iX iY->iY.length<=900000->dO ps n=iY++[.keep m]->
   aE (aO K [] [] (E:=E)) [.drop<|.bI .append (.v 0) [(.tup [(.c<|.str "keep"),.v 1])]] {nx:=fun _ H'=>Q .aC H',rt:=Q} [some<|.ref c,some<|.int m] H1:=by
  intro m H1 iX iY b1 eE rA cT e;have X6:=Paired.length rA;refine⟨_,rfl,.inl ⟨rfl,_,au.of eE⟩,_,rfl,d4,fun t ht=>?_⟩;have pM:c≠t:=bf eE ht;refine⟨iX,(by rw[aF pM];exact eE),dN (by lia),k _ (iX++[.ref t]) (b1.trans<|sameBut (sameNew ht) aJ.upd) aw ?_⟩
  rw[e];refine aP.snoc (rA.mono<|(sameBut (sameNew ht) aJ.upd).bS eE) ⟨t,rfl,?_⟩;rw[aF pM.symm,aw];rfl
 refine⟨_,rfl,.inl ⟨_,au.of hc,trivial,_,rfl,?_⟩⟩;refine jE (fun h=>?_)<|fun h=>?_
 ·have hn:xs.length≠0:=by
   have:=of_decide_eq_true h;lia
  obtain⟨v,p,e1,e2,e3,a,rfl,ha⟩:=de.last hn;refine⟨_,rfl,.inl ⟨_,_,_,_,rfl,rfl,au.of hc,e2,.inr<|.inl ⟨_,_,_,_,rfl,rfl,aH.of ha,rfl,_,rfl,?_⟩⟩⟩;rw[zaI,ij];cases p with
  |keep m=>
   have kT:upd H c (.lst xs.dropLast) a=some (.tup [.str "keep",.int m]):=by rw[aF<|bR ha hc (by intro z;cases z)];exact ha
   refine⟨_,rfl,_,rfl,.inl ⟨rfl,_,au.of hc⟩,xs,_,hc,e1,.inr<|.inl ⟨_,_,_,_,rfl,rfl,aH.of kT,rfl,?_⟩⟩
   ·refine fin (n+m) _ xs.dropLast ps.dropLast aJ.upd aw (de.dropLast.mono<|aJ.upd.bS hc) (by rw[zbU];lia) ?_
    unfold dO;rw[e3]
  |put s=>exact fin n H xs ps (fun b o e _=>e) hc de hl (by unfold dO;rw[e3])
  |cut s=>exact fin n H xs ps (fun b o e _=>e) hc de hl (by unfold dO;rw[e3])
 ·have e0:ps=[]:=by
   have:¬(0:Int) < (xs.length:Int):=fun z=>h (zqT z);exact zaD.mp (by lia)
  exact fin n H xs ps (fun b o e _=>e) hc de hl (by rw[e0];rfl)
abbrev NS:=List Pt×List Str×List Str
def c6:NS->Pt->NS
 |(ch,p,c),.put s=>(ch,p++[s],c)
 |(ch,p,c),.cut s=>(ch,p,c++[s])
 |(ch,p,c),.keep n=>if 0<n then (dO (dj ch p c) n,[],[]) else (ch,p,c)
def g_(ps:List Pt):List Pt:=let s:=ps.foldl c6 ([],[],[]);dj s.1 s.2.1 s.2.2
def fB:Pt->Nat|.keep _=>0|.put s=>s.length|.cut s=>s.length
def az(ps:List Pt):Nat:=(ps.map fB).sum
theorem X9(ps:List Pt)(i:Nat):az (ps.take i)<=az ps:=by
 have:az ps=az (ps.take i)+az (ps.drop i):=by
  unfold az;rw[<-List.sum_append,<-zao,zbZ]
 lia
theorem X_{ps:List Pt}{p:Pt}(h:ps[i]?=some p):az (ps.take<|i+1)=az (ps.take i)+fB p:=by
 rw[zbu,h]
 simp[az]
theorem Ya{α β:Type}{f:β->α->β}{b:β}{l:List α}{i:Nat}{p:α}(h:l[i]?=some p):(l.take<|i+1).foldl f b=f ((l.take i).foldl f b) p:=by
 rw[zbu,h,List.foldl_append]
 rfl
theorem Kj(mk:Str->Pt)(x:Str):(txt mk x).length<=1:=by unfold txt;split<;>simp
theorem wU(ch:List Pt)(p c:List Str):(dj ch p c).length<=ch.length+2:=by
 unfold dj;have:=Kj .put (cat p);have:=Kj .cut (cat c)
 simp only[zqA]
 lia
theorem Kk(ch:List Pt)(n:Int):(dO ch n).length<=ch.length+1:=by
 unfold dO
 split
 ·simp only[zqA,zbU,zaL];lia
 ·simp
abbrev Yb:List (Str×Sp):=[("add_texts",Kf),("add_keep",Ki)]
def jU:Sp:=fun vs H Q E=>∃a xs ps,vs=[.ref a]/\H a=some (.lst xs)/\aP H xs ps/\ps.length<=100000/\az ps<=100000/\
 ∀b H' ys,ay H H'->H b=none->H' b=some (.lst ys)->aP H' ys (g_ ps)->Q (.ref b) H'
theorem Yc{K:Frag}(vs:List V)(H:Hp)(Q:VK)(E:XK)(h:jU vs H Q E):aE (aO K Yb [] (E:=E)) Ha {nx:=fun _ H'=>Q .aC H',rt:=Q} (start G_ vs) H:=by
 obtain⟨a,xs,ps,rfl,ha,de,hl,ht,k⟩:=h;have hlen:=Paired.length de;refine⟨zqZ _,fun c hc=>⟨zqZ _,fun p0 t_=>⟨zqZ _,fun q0 rB=>?_⟩⟩⟩;have By:c≠p0:=fun z=>by rw[<-z,aw] at t_;cases t_
 have Kl:c≠q0:=fun z=>by rw[<-z,aF By,aw] at rB;cases rB
 have Km:p0≠q0:=fun z=>by rw[<-z,aw] at rB;cases rB
 have s0:ay H (upd (upd (upd H c<|.lst []) p0<|.lst []) q0<|.lst []):=(sameNew hc).trans ((sameNew t_).trans<|sameNew rB);have Yd:H p0=none:=(sameNew hc).free t_;have Ye:H q0=none:=((sameNew hc).trans<|sameNew t_).free rB;refine⟨_,rfl,a,rfl,⟨_,au.of (s0 _ _ ha)⟩,mU (K:=K) (a:=a) (xs:=xs) (fun i σ H2=>∃p q ch cA cK mq w x,σ=[some (.ref a),some (.ref c),some (.ref p),some (.ref q),w,x]/\H p=none/\H q=none/\p≠c/\q≠c/\p≠q/\ay H H2/\
   H2 c=some (.lst mq)/\aP H2 mq ch/\H2 p=some (.lst (cA.map .str))/\H2 q=some (.lst (cK.map .str))/\(ps.take i).foldl c6 ([],[],[])=(ch,cA,cK)/\ch.length<=3*i/\cA.length<=i/\cK.length<=i/\sz cA+sz cK<=az (ps.take i))
  ⟨p0,q0,[],[],[],[],none,none,rfl,Yd,Ye,By.symm,Kl.symm,Km,s0,(by rw[aF Kl,aF By,aw]),.nil,(by rw[aF Km,aw];rfl),aw,rfl,by simp,by simp,by simp,by simp[sz]⟩
  (fun i σ H2 _ ⟨_,_,_,_,_,_,_,_,_,_,_,_,_,_,s2,_⟩=>au.of (s2 _ _ ha)) ?_ ?_⟩
 ·rintro i x σ H2 hi ⟨p,q,ch,cA,cK,mq,w,x',rfl,fp,fq,pc,qc,pq,s2,rC,cN,nB,nC,ef,l1,l2,l3,l4⟩;obtain⟨pt,pN,jR⟩:=de.get hi;obtain⟨b,rfl,hb⟩:=jR.mono (du s2);have fS:i<ps.length:=(zah.mp pN).1;have wV:(ps.take<|i+1).foldl c6 ([],[],[])=c6 (ch,cA,cK) pt:=by rw[Ya pN,ef]
  have et:=X_ pN;have tb:=X9 ps i;refine⟨b,_,rfl,.inl<|aH.of hb,rfl,_,_,rfl,_,_,rfl,rfl,?_⟩;cases pt with
  |put s=>
   refine⟨_,rfl,_,rfl,_,rfl,.inl ⟨rfl,_,au.of nB⟩,_,rfl,_,nB,dN (by rw[zad];lia),?_⟩
   have bt:aJ p H2 (upd H2 p<|.lst<|cA.map V.str++[.str s]):=aJ.upd;refine⟨p,q,ch,cA++[s],cK,mq,_,_,rfl,fp,fq,pc,qc,pq,tZ s2 fp bt,bt _ _ rC pc.symm,cN.mono<|bt.bS nB,(by rw[aw,zao];rfl),bt _ _ nC pq.symm,wV,by lia,by simp;lia,by lia,?_⟩
   rw[Ke,et];show sz cA+(s.length+0)+sz cK<=az (ps.take i)+s.length;lia
  |cut s=>
   refine⟨_,rfl,_,rfl,_,rfl,_,rfl,_,rfl,.inl ⟨rfl,_,au.of nC⟩,_,rfl,_,nC,dN (by rw[zad];lia),?_⟩
   have bt:aJ q H2 (upd H2 q<|.lst<|cK.map V.str++[.str s]):=aJ.upd;refine⟨p,q,ch,cA,cK++[s],mq,_,_,rfl,fp,fq,pc,qc,pq,tZ s2 fq bt,bt _ _ rC qc.symm,cN.mono<|bt.bS nC,bt _ _ nB pq,(by rw[aw,zao];rfl),wV,by lia,by lia,by simp;lia,?_⟩
   rw[Ke,et];show sz cA+(sz cK+(s.length+0))<=az (ps.take i)+s.length;lia
  |keep n=>
   refine⟨_,rfl,_,rfl,_,rfl,_,rfl,_,rfl,trivial,_,rfl,?_⟩;refine jE (fun h=>?_)<|fun h=>?_
   ·have hn:0<n:=of_decide_eq_true h;have e2:c6 (ch,cA,cK) (.keep n)=(dO (dj ch cA cK) n,[],[]):=if_pos hn;refine⟨_,rfl,_,rfl,_,rfl,c,p,q,mq,ch,cA,cK,rfl,rC,cN,nB,nC,by lia,by lia,by lia,fun H3 jk b3 wW Bz=>?_⟩
    have s3:ay H H3:=tZ s2 hc b3;refine⟨zqZ _,fun p1 hV=>⟨zqZ _,fun q1 ua=>?_⟩⟩;have BA:c≠p1:=bf wW hV;have jm:upd H3 p1 (.lst []) c=some (.lst jk):=by rw[aF BA];exact wW
    have BB:c≠q1:=bf jm ua;have Kn:p1≠q1:=fun z=>by rw[<-z,aw] at ua;cases ua
    have mr:upd (upd H3 p1<|.lst []) q1 (.lst []) c=some (.lst jk):=by rw[aF BB];exact jm
    have s5:ay H3 (upd (upd H3 p1<|.lst []) q1<|.lst []):=(sameNew hV).trans (sameNew ua);refine⟨_,rfl,_,rfl,c,n,jk,_,rfl,mr,Bz.mono<|du s5,?_,fun H6 Yf b6 hX Yg=>?_⟩
    ·have:=wU ch cA cK;lia
    ·refine⟨p1,q1,_,[],[],Yf,_,_,rfl,s3.free hV,(s3.trans<|sameNew hV).free ua,BA.symm,BB.symm,Kn,tZ (s3.trans s5) hc b6,hX,Yg,b6 _ _ (by rw[aF Kn,aw];rfl) BA.symm,b6 _ _ (by rw[aw];rfl) BB.symm,wV.trans e2,?_,by simp,by simp,by simp[sz]⟩
     have:=wU ch cA cK;have:=Kk (dj ch cA cK) n;lia
   ·have hn:¬0<n:=fun z=>h (zqT z);have e2:c6 (ch,cA,cK) (.keep n)=(ch,cA,cK):=if_neg hn;refine⟨p,q,ch,cA,cK,mq,_,_,rfl,fp,fq,pc,qc,pq,s2,rC,cN,nB,nC,wV.trans e2,by lia,by lia,by lia,by lia⟩
 ·rintro σ H2 ⟨p,q,ch,cA,cK,mq,w,x',rfl,fp,fq,pc,qc,pq,s2,rC,cN,nB,nC,ef,l1,l2,l3,l4⟩;have e:ps.take xs.length=ps:=zaV (by lia)
  rw[e] at ef l4;refine⟨_,rfl,_,rfl,_,rfl,c,p,q,mq,ch,cA,cK,rfl,rC,cN,nB,nC,by lia,by lia,by lia,fun H3 jk b3 wW Bz=>?_⟩
  refine⟨_,rfl,k c H3 jk (tZ s2 hc b3) hc wW ?_⟩;unfold g_;rw[ef];exact Bz
def hZ:Pt->Prop|.keep n=>0<=n|.put s=>good s/\s.length<=100000|.cut s=>good s/\s.length<=100000
abbrev Row:=Str×Str×Int
def bF:List Row×Row->Pt->List Row×Row
 |(pre,r),.keep n=>(pre,(r.1,r.2.1,r.2.2+n))
 |(pre,r),.put s=>if s="" then (pre,r) else if 0<r.2.2 then (pre++[r],(Str.ofString ""++s,"",0)) else (pre,(r.1++s,r.2.1,r.2.2))
 |(pre,r),.cut s=>if s="" then (pre,r) else if 0<r.2.2 then (pre++[r],("",Str.ofString ""++s,0)) else (pre,(r.1,r.2.1++s,r.2.2))
def gd(r:Row):List Pt:=txt .put r.1++txt .cut r.2.1++(if r.2.2=0 then [] else [.keep r.2.2])
def cL(rows:List Row):List Pt:=(rows.map gd).flatten
def Yh(ps:List Pt):List Row:=let s:=ps.foldl bF ([],("","",0));s.1++[s.2]
def eN(ps:List Pt):List Pt:=cL (Yh ps)
abbrev Dn(Q:VK):Ends:={nx:=fun _ H'=>Q .aC H',rt:=Q}
abbrev bT(sp:Sp)(Γ:XK->bj)(b:List RS)(N:List Str):Prop:= ∀vs H Q E,sp vs H Q E->aE (Γ E) b (Dn Q) (start N vs) H
theorem pO(x y:Str):(x++y).length=x.length+y.length:=by rw[len_list,app_list,zqA,<-len_list,<-len_list]
theorem wX(a b:List Row):cL (a++b)=cL a++cL b:=by simp[cL]
theorem ub(r:Row):cL [r]=gd r:=by simp[cL]
theorem BC{r:Row}(h:0<r.2.2):gd r=txt .put r.1++txt .cut r.2.1++[.keep r.2.2]:=by
 unfold gd;rw[if_neg (by lia)]
theorem Ko{r:Row}(h:r.2.2=0):gd r=txt .put r.1++txt .cut r.2.1:=by
 unfold gd;rw[if_pos h,zab]
def Kp:Pt->Bool|.keep _=>true|_=>false
theorem Yi{ch:List Pt}{n:Int}(h:∀p,ch.getLast?=some p->Kp p=false):dO ch n=ch++[.keep n]:=by
 unfold dO
 split
 ·rename_i m e
  have:=h _ e;cases this
 ·rfl
theorem Yj(ch:List Pt)(m n:Int):dO (ch++[.keep m]) n=ch++[.keep<|n+m]:=by
 unfold dO;rw[zca]
 simp
theorem txt_nil(mk:Str->Pt):txt mk ""=[]:=if_pos rfl
theorem jn{mk:Str->Pt}{x:Str}(h:x≠""):txt mk x=[mk x]:=if_neg h
theorem Yk{pre:List Row}{r:Row}(h:pre≠ []->r.1≠""\/r.2.1≠""):∀p,(cL pre++txt .put r.1++txt .cut r.2.1).getLast?=some p->Kp p=false:=by
 intro p hp;by_cases h2:r.2.1=""
 ·rw[h2,txt_nil,zab] at hp;by_cases h1:r.1=""
  ·rw[h1,txt_nil,zab] at hp;by_cases lT:pre=[]
   ·rw[lT] at hp
    simp[cL] at hp
   ·rcases h lT with z|z
    ·exact absurd h1 z
    ·exact absurd h2 z
  ·rw[jn h1,zca] at hp
   simp at hp;subst hp;rfl
 ·rw[jn h2,zca] at hp
  simp at hp;subst hp;rfl
def Rel(s:NS)(t:List Row×Row):Prop:=
 (∀x∈t.1,0<x.2.2)/\(t.1≠ []->t.2.1≠""\/t.2.2.1≠"")/\0<=t.2.2.2/\
  ((t.2.2.2=0/\s.1=cL t.1/\cat s.2.1=t.2.1/\cat s.2.2=t.2.2.1)\/(0<t.2.2.2/\s.1=cL (t.1++[t.2])/\cat s.2.1=""/\cat s.2.2=""))
theorem nF(a:List Str)(s:Str):cat (a++[s])=cat a++s:=by rw[X3,X4]
theorem Yl{s:NS}{t:List Row×Row}{p:Pt}(R:Rel s t)(hp:hZ p):Rel (c6 s p) (bF t p):=by
 obtain⟨ch,pu,cu⟩:=s;obtain⟨pre,r⟩:=t;obtain⟨r1,r2,r3,r4⟩:=R
 simp only at r1 r2 r3 r4
 cases p with
 |keep n=>
  have wY:0<=n:=hp;by_cases hn:0<n
  ·have e1:c6 (ch,pu,cu) (.keep n)=(dO (dj ch pu cu) n,[],[]):=if_pos hn;rw[e1];refine⟨r1,r2,by show 0<=r.2.2+n;lia,.inr ⟨by show 0<r.2.2+n;lia,?_,rfl,rfl⟩⟩
   show dO (dj ch pu cu) n=cL (pre++[(r.1,r.2.1,r.2.2+n)]);rw[wX,ub,BC (r:=(r.1,r.2.1,r.2.2+n)) (by show 0<r.2.2+n;lia)]
   rcases r4 with⟨k0,e2,e3,e4⟩|⟨k0,e2,e3,e4⟩
   ·have ea:dj ch pu cu=cL pre++txt .put r.1++txt .cut r.2.1:=by unfold dj;rw[e2,e3,e4]
    rw[ea,Yi<|Yk r2];show _=cL pre++(txt .put r.1++txt .cut r.2.1++[.keep<|r.2.2+n]);rw[k0,Int.zero_add];simp
   ·have ea:dj ch pu cu=cL pre++(txt .put r.1++txt .cut r.2.1)++[.keep r.2.2]:=by
     unfold dj;rw[e2,e3,e4,txt_nil,txt_nil,zab,zab,wX,ub,BC k0];simp
    rw[ea,Yj];show _=cL pre++(txt .put r.1++txt .cut r.2.1++[.keep<|r.2.2+n]);rw[Int.add_comm n];simp
  ·have e0:n=0:=by lia
   have e1:c6 (ch,pu,cu) (.keep n)=(ch,pu,cu):=if_neg hn;have e2:bF (pre,r) (.keep n)=(pre,r):=by show(pre,(r.1,r.2.1,r.2.2+n))=_;rw[e0,Int.add_zero]
   rw[e1,e2];exact⟨r1,r2,r3,r4⟩
 |put x=>
  show Rel (ch,pu++[x],cu) (bF (pre,r)<|.put x);by_cases hx:x=""
  ·have e2:bF (pre,r) (.put x)=(pre,r):=if_pos hx;rw[e2];refine⟨r1,r2,r3,?_⟩;have e:cat (pu++[x])=cat pu:=by rw[nF,hx];exact Kd _
   show _\/_
   simp only[e]
   exact r4
  ·by_cases hk:0<r.2.2
   ·have e2:bF (pre,r) (.put x)=(pre++[r],((Str.ofString ""++x,Str.ofString "",0):Row)):=by show(if x="" then _ else if 0<r.2.2 then _ else _)=_;rw[if_neg hx,if_pos hk]
    rw[e2];rcases r4 with⟨k0,_⟩|⟨_,e5,e3,e4⟩
    ·lia
    ·refine⟨fun y hy=>?_,fun _=>.inl (by rw[rz];exact hx),zaP _,.inl ⟨rfl,e5,?_,e4⟩⟩
     ·rcases zai.mp hy with z|z
      ·exact r1 y z
      ·rw[zac.mp z];exact hk
     ·show cat (pu++[x])=_;rw[nF,e3]
   ·have e2:bF (pre,r) (.put x)=(pre,(r.1++x,r.2.1,r.2.2)):=by show(if x="" then _ else if 0<r.2.2 then _ else _)=_;rw[if_neg hx,if_neg hk]
    rw[e2];rcases r4 with⟨k0,e5,e3,e4⟩|⟨k0,_⟩
    ·refine⟨r1,fun _=>.inl ?_,r3,.inl ⟨k0,e5,?_,e4⟩⟩
     ·intro z;have:=congrArg Str.length z;rw[pO] at this;have l0:(Str.ofString "").length=0:=rfl;rw[l0] at this;have nG:x.length=0:=by lia
      exact hx<|gK (by rw[len_list] at nG;rw[zaD.mp nG];rfl)
     ·show cat (pu++[x])=_;rw[nF,e3]
    ·lia
 |cut x=>
  show Rel (ch,pu,cu++[x]) (bF (pre,r)<|.cut x);by_cases hx:x=""
  ·have e2:bF (pre,r) (.cut x)=(pre,r):=if_pos hx;rw[e2];refine⟨r1,r2,r3,?_⟩;have e:cat (cu++[x])=cat cu:=by rw[nF,hx];exact Kd _
   show _\/_
   simp only[e]
   exact r4
  ·by_cases hk:0<r.2.2
   ·have e2:bF (pre,r) (.cut x)=(pre++[r],((Str.ofString "",Str.ofString ""++x,0):Row)):=by show(if x="" then _ else if 0<r.2.2 then _ else _)=_;rw[if_neg hx,if_pos hk]
    rw[e2];rcases r4 with⟨k0,_⟩|⟨_,e5,e3,e4⟩
    ·lia
    ·refine⟨fun y hy=>?_,fun _=>.inr (by rw[rz];exact hx),zaP _,.inl ⟨rfl,e5,e3,?_⟩⟩
     ·rcases zai.mp hy with z|z
      ·exact r1 y z
      ·rw[zac.mp z];exact hk
     ·show cat (cu++[x])=_;rw[nF,e4]
   ·have e2:bF (pre,r) (.cut x)=(pre,(r.1,r.2.1++x,r.2.2)):=by show(if x="" then _ else if 0<r.2.2 then _ else _)=_;rw[if_neg hx,if_neg hk]
    rw[e2];rcases r4 with⟨k0,e5,e3,e4⟩|⟨k0,_⟩
    ·refine⟨r1,fun _=>.inr ?_,r3,.inl ⟨k0,e5,e3,?_⟩⟩
     ·intro z;have:=congrArg Str.length z;rw[pO] at this;have l0:(Str.ofString "").length=0:=rfl;rw[l0] at this;have nG:x.length=0:=by lia
      exact hx<|gK (by rw[len_list] at nG;rw[zaD.mp nG];rfl)
     ·show cat (cu++[x])=_;rw[nF,e4]
    ·lia
theorem Kq:∀(ps:List Pt) (s:NS) (t:List Row×Row),Rel s t->(∀p∈ps,hZ p)->Rel (ps.foldl c6 s) (ps.foldl bF t)
 |[],s,t,R,_=>R
 |p::r,s,t,R,h=>Kq r _ _ (Yl R<|h p zax) fun q hq=>h q (zay _ hq)
theorem Ym(ps:List Pt)(h:∀p∈ps,hZ p):Rel (ps.foldl c6 ([],[],[])) (ps.foldl bF ([],((Str.ofString "",Str.ofString "",0):Row))):=
 Kq ps _ _ ⟨(fun x hx=>by cases hx),fun z=>absurd rfl z,zaP _,.inl ⟨rfl,rfl,rfl,rfl⟩⟩ h
theorem uc(ps:List Pt)(h:∀p∈ps,hZ p):g_ ps=eN ps:=by
 obtain⟨r1,r2,r3,r4⟩:=Ym ps h;show dj _ _ _=cL (_++[_]);generalize ps.foldl c6 ([],[],[])=s at r4⊢;generalize ps.foldl bF ([],((Str.ofString "",Str.ofString "",0):Row))=t at r1 r2 r3 r4⊢;unfold dj;rcases r4 with⟨k0,e5,e3,e4⟩|⟨k0,e5,e3,e4⟩
 ·rw[e5,e3,e4,wX,ub,Ko k0];simp
 ·rw[e5,e3,e4,txt_nil,txt_nil];simp
def sg(x:Str):Prop:= ∀c∈x.cps.toList,SG.cps.contains c=true
theorem wZ{x:Str}(a:sg x)(b:sg y):sg (x++y):=fun c hc=>by
 rw[app_list] at hc;rcases zai.mp hc with z|z
 ·exact a c z
 ·exact b c z
theorem nH:sg (Str.ofString ""):=fun c hc=>by cases hc
def jV(r:Row):Nat:=r.1.length+r.2.1.length
structure RI (n:Nat) (t:List Row×Row):Prop where
 pos:∀x∈t.1,0<x.2.2
 nn:0<=t.2.2.2
 s1:∀x∈t.1++[t.2],sg x.1/\sg x.2.1
 tl:∀x∈ (t.1++[t.2]).tail,x.1≠""\/x.2.1≠""
 az:((t.1++[t.2]).map jV).sum=n
theorem Kr{x:Str}(h:x≠""):x++y≠"":=fun z=>by
 have:=congrArg Str.length z;rw[pO] at this;have l0:(Str.ofString "").length=0:=rfl;rw[l0] at this;have nG:x.length=0:=by lia
 exact h<|gK (by rw[len_list] at nG;rw[zaD.mp nG];rfl)
theorem Ks{α:Type}(l:List α)(a:α):(l++[a]).tail=if l=[] then [] else l.tail++[a]:=by
 cases l with
 |nil=>rfl
 |cons b r=>simp
theorem BD{m:Nat}{pre:List Row}{r r':Row}(I:RI n (pre,r))(h0:0<=r'.2.2)(h1:sg r'.1/\sg r'.2.1)(h2:(r.1≠""->r'.1≠"")/\(r.2.1≠""->r'.2.1≠""))(h3:jV r'=jV r+m):RI (n+m) (pre,r'):=by
 refine⟨I.pos,h0,fun x hx=>?_,fun x hx=>?_,?_⟩
 ·rcases zai.mp hx with z|z
  ·exact I.s1 x (zaw _ z)
  ·rw[zac.mp z];exact h1
 ·have t1:=I.tl
  simp only at t1 hx
  rw[Ks] at hx t1;by_cases hp:pre=[]
  ·rw[if_pos hp] at hx;cases hx
  ·rw[if_neg hp] at hx t1;rcases zai.mp hx with z|z
   ·exact t1 x (zaw _ z)
   ·rw[zac.mp z];rcases t1 r (by simp) with q|q
    ·exact .inl (h2.1 q)
    ·exact .inr (h2.2 q)
 ·have:=I.az
  simp only[zao,List.sum_append,zar,zaY,zaR,List.sum_nil] at this⊢
  lia
theorem Kt{m:Nat}{pre:List Row}{r r':Row}(I:RI n (pre,r))(hk:0<r.2.2)(h0:0<=r'.2.2)(h1:sg r'.1/\sg r'.2.1)(h2:r'.1≠""\/r'.2.1≠"")(h3:jV r'=m):RI (n+m) (pre++[r],r'):=by
 refine⟨fun x hx=>?_,h0,fun x hx=>?_,fun x hx=>?_,?_⟩
 ·rcases zai.mp hx with z|z
  ·exact I.pos x z
  ·rw[zac.mp z];exact hk
 ·rcases zai.mp hx with z|z
  ·exact I.s1 x z
  ·rw[zac.mp z];exact h1
 ·have t1:=I.tl
  simp only at t1 hx
  rw[Ks,if_neg (by simp)] at hx
  rcases zai.mp hx with z|z
  ·exact t1 x z
  ·rw[zac.mp z];exact h2
 ·have:=I.az
  simp only[zao,List.sum_append,zar,zaY,zaR,List.sum_nil] at this⊢
  lia
theorem Yn{t:List Row×Row}{p:Pt}(I:RI n t)(hp:hZ p):RI (n+fB p) (bF t p):=by
 obtain⟨pre,r⟩:=t;have hs:=I.s1 r (by simp)
 have Ku:0<=r.2.2:=I.nn;have e0:(Str.ofString "").length=0:=rfl;cases p with
 |keep m=>exact BD I (by show 0<=r.2.2+m;have:0<=m:=hp;lia) hs ⟨fun z=>z,fun z=>z⟩ rfl
 |put x=>
  have gx:sg x:=hp.1.2;by_cases hx:x=""
  ·have e2:bF (pre,r) (.put x)=(pre,r):=if_pos hx;have e3:fB (.put x)=0:=by show x.length=0;rw[hx];rfl
   rw[e2,e3];exact I
  ·by_cases hk:0<r.2.2
   ·have e2:bF (pre,r) (.put x)=(pre++[r],((Str.ofString ""++x,Str.ofString "",0):Row)):=by show(if x="" then _ else if 0<r.2.2 then _ else _)=_;rw[if_neg hx,if_pos hk]
    rw[e2];refine Kt I hk (zaP _) ⟨wZ nH gx,nH⟩ (.inl (by rw[rz];exact hx)) ?_
    show(Str.ofString ""++x).length+(Str.ofString "").length=x.length;rw[pO,e0];lia
   ·have e2:bF (pre,r) (.put x)=(pre,(r.1++x,r.2.1,r.2.2)):=by show(if x="" then _ else if 0<r.2.2 then _ else _)=_;rw[if_neg hx,if_neg hk]
    rw[e2];refine BD I Ku ⟨wZ hs.1 gx,hs.2⟩ ⟨Kr,fun z=>z⟩ ?_;show(r.1++x).length+r.2.1.length=r.1.length+r.2.1.length+x.length;rw[pO];lia
 |cut x=>
  have gx:sg x:=hp.1.2;by_cases hx:x=""
  ·have e2:bF (pre,r) (.cut x)=(pre,r):=if_pos hx;have e3:fB (.cut x)=0:=by show x.length=0;rw[hx];rfl
   rw[e2,e3];exact I
  ·by_cases hk:0<r.2.2
   ·have e2:bF (pre,r) (.cut x)=(pre++[r],((Str.ofString "",Str.ofString ""++x,0):Row)):=by show(if x="" then _ else if 0<r.2.2 then _ else _)=_;rw[if_neg hx,if_pos hk]
    rw[e2];refine Kt I hk (zaP _) ⟨nH,wZ nH gx⟩ (.inr (by rw[rz];exact hx)) ?_
    show(Str.ofString "").length+(Str.ofString ""++x).length=x.length;rw[pO,e0];lia
   ·have e2:bF (pre,r) (.cut x)=(pre,(r.1,r.2.1++x,r.2.2)):=by show(if x="" then _ else if 0<r.2.2 then _ else _)=_;rw[if_neg hx,if_neg hk]
    rw[e2];refine BD I Ku ⟨hs.1,wZ hs.2 gx⟩ ⟨fun z=>z,Kr⟩ ?_;show r.1.length+(r.2.1++x).length=r.1.length+r.2.1.length+x.length;rw[pO];lia
theorem BE:∀(ps:List Pt) (n:Nat) (t:List Row×Row),RI n t->(∀p∈ps,hZ p)->RI (n+az ps) (ps.foldl bF t)
 |[],n,t,I,_=>I
 |p::r,n,t,I,h=>by
  have:=BE r _ _ (Yn I<|h p zax) fun q hq=>h q (zay _ hq);have e:n+fB p+az r=n+az (p::r):=by show _=n+(fB p+az r);lia
  rw[e] at this;exact this
theorem Kv{r:Row}{a:Str}{rest:List Pt}(ha:a=""\/(a="keep"/\(r.1≠""\/r.2.1≠"")))(hk:0<r.2.2)(h:chainOk "keep" rest=true):chainOk a (gd r++rest)=true:=by
 rw[BC hk];by_cases h1:r.1="" <;>by_cases h2:r.2.1=""
 ·rw[h1,h2,txt_nil,txt_nil];rcases ha with rfl|⟨_,z|z⟩
  ·exact h
  ·exact absurd h1 z
  ·exact absurd h2 z
 ·rw[h1,txt_nil,jn h2];rcases ha with rfl|⟨rfl,_⟩ <;>exact h
 ·rw[h2,txt_nil,jn h1];rcases ha with rfl|⟨rfl,_⟩ <;>exact h
 ·rw[jn h1,jn h2];rcases ha with rfl|⟨rfl,_⟩ <;>exact h
theorem chain_last{r:Row}{a:Str}(ha:a=""\/(a="keep"/\(r.1≠""\/r.2.1≠"")))(hk:0<=r.2.2):chainOk a (gd r)=true:=by
 by_cases h0:0<r.2.2
 ·have:=Kv (rest:=[]) ha h0 rfl;rw[zab] at this;exact this
 ·rw[Ko (by lia)]
  by_cases h1:r.1="" <;>by_cases h2:r.2.1=""
  ·rw[h1,h2,txt_nil,txt_nil];rfl
  ·rw[h1,txt_nil,jn h2];rcases ha with rfl|⟨rfl,_⟩ <;>rfl
  ·rw[h2,txt_nil,jn h1];rcases ha with rfl|⟨rfl,_⟩ <;>rfl
  ·rw[jn h1,jn h2];rcases ha with rfl|⟨rfl,_⟩ <;>rfl
theorem Kw:∀(pre:List Row) (r:Row) (a:Str),(∀x∈pre,0<x.2.2)->0<=r.2.2->(a=""\/(a="keep"/\∀x,(pre++[r]).head?=some x->x.1≠""\/x.2.1≠""))->(∀x∈ (pre++[r]).tail,x.1≠""\/x.2.1≠"")->
  chainOk a (cL<|pre++[r])=true
 |[],r,a,_,hk,ha,_=>by
  rw[zbK,ub];exact chain_last (ha.imp id fun⟨x,y⟩=>⟨x,y r rfl⟩) hk
 |q::pre,r,a,hp,hk,ha,ht=>by
  have e:cL (q::pre++[r])=gd q++cL (pre++[r]):=by simp[cL]
  rw[e];refine Kv (ha.imp id fun⟨x,y⟩=>⟨x,y q rfl⟩) (hp q zax) ?_;refine Kw pre r "keep" (fun x hx=>hp x<|zay _ hx) hk (.inr ⟨rfl,fun x hx=>ht x ?_⟩) fun x hx=>ht x (List.mem_of_mem_tail hx);show x∈pre++[r];exact List.mem_of_mem_head? hx
theorem Yo{r:Row}{p:Pt}(hs:sg r.1/\sg r.2.1)(hl:jV r<=1000000)(hk:0<=r.2.2)(h:p∈gd r):aV p:=by
 unfold gd txt at h;unfold jV at hl;rcases zai.mp h with h|h
 ·rcases zai.mp h with h|h
  ·split at h
   ·cases h
   ·rename_i ne
    rw[zac.mp h];exact⟨⟨by lia,hs.1⟩,ne⟩
  ·split at h
   ·cases h
   ·rename_i ne
    rw[zac.mp h];exact⟨⟨by lia,hs.2⟩,ne⟩
 ·split at h
  ·cases h
  ·rw[zac.mp h];show 1<=r.2.2;lia
theorem Yp(r:Row):az (gd r)=jV r:=by
 have t1:∀(mk:Str->Pt) (x:Str),(∀y,fB (mk y)=y.length)->az (txt mk x)=x.length:=by
  intro mk x h;unfold txt;by_cases e:x=""
  ·rw[if_pos e,e];rfl
  ·rw[if_neg e];show fB (mk x)+0=_;rw[h,Nat.add_zero]
 have ta:∀a b:List Pt,az (a++b)=az a+az b:=fun a b=>by simp[az]
 unfold gd jV;rw[ta,ta,t1 .put _ fun _=>rfl,t1 .cut _ fun _=>rfl]
 split
 ·rfl
 ·rfl
theorem BF:∀rows:List Row,az (cL rows)=(rows.map jV).sum
 |[]=>rfl
 |r::rows=>by
  have e:cL (r::rows)=gd r++cL rows:=by simp[cL]
  have ta:∀a b:List Pt,az (a++b)=az a+az b:=fun a b=>by simp[az]
  rw[e,ta,Yp,BF rows];rfl
theorem Yq{l:List Row}{x:Row}(h:x∈l):jV x<= (l.map jV).sum:=by
 induction l with
 |nil=>cases h
 |cons a l ih=>
  rw[zar,zaR];rcases zaa.mp h with rfl|h
  ·lia
  ·have:=ih h;lia
theorem w9(ps:List Pt)(h:∀p∈ps,hZ p)(ht:az ps<=100000):chainOk "" (eN ps)=true/\(∀p∈eN ps,aV p)/\az (eN ps)<=100000:=by
 have I:=BE ps 0 ([],((Str.ofString "",Str.ofString "",0):Row)) ⟨(fun x hx=>by cases hx),zaP _,(fun x hx=>by rw[zac.mp hx];exact⟨nH,nH⟩),(fun x hx=>by cases hx),rfl⟩ h
 rw[zbg] at I;have e:eN ps=cL ((ps.foldl bF ([],((Str.ofString "",Str.ofString "",0):Row))).1++[(ps.foldl bF ([],((Str.ofString "",Str.ofString "",0):Row))).2]):=rfl;rw[e];generalize ps.foldl bF ([],((Str.ofString "",Str.ofString "",0):Row))=t at I;refine⟨Kw t.1 t.2 "" I.pos I.nn (.inl rfl) I.tl,fun p hp=>?_,by rw[BF,I.az];exact ht⟩
 unfold cL at hp;rw[List.mem_flatten] at hp;obtain⟨l,hl,hp⟩:=hp;obtain⟨x,hx,rfl⟩:=List.mem_map.mp hl;have hle:=Yq hx;rw[I.az] at hle;refine Yo (I.s1 x hx) (by lia) ?_ hp
 rcases zai.mp hx with z|z
 ·have:=I.pos x z;lia
 ·rw[zac.mp z];exact I.nn
theorem w_(ps:List Pt):(g_ ps).length<=3*ps.length+2:=by
 have go:∀(l:List Pt) (s:NS),(l.foldl c6 s).1.length<=s.1.length+3*l.length:=by
  intro l
  induction l with
  |nil=>intro s;simp
  |cons p l ih=>
   intro s;have h1:=ih (c6 s p);have h2:(c6 s p).1.length<=s.1.length+3:=by
    obtain⟨ch,pu,cu⟩:=s;cases p with
    |keep n=>
     by_cases hn:0<n
     ·have e1:c6 (ch,pu,cu) (.keep n)=(dO (dj ch pu cu) n,[],[]):=if_pos hn;rw[e1];have:=wU ch pu cu;have:=Kk (dj ch pu cu) n;show(dO (dj ch pu cu) n).length<=ch.length+3;lia
     ·have e1:c6 (ch,pu,cu) (.keep n)=(ch,pu,cu):=if_neg hn;rw[e1];show ch.length<=ch.length+3;lia
    |put x=>show ch.length<=ch.length+3;lia
    |cut x=>show ch.length<=ch.length+3;lia
   rw[zbJ,zak];lia
 have h1:=go ps ([],[],[]);have h2:=wU (ps.foldl c6 ([],[],[])).1 (ps.foldl c6 ([],[],[])).2.1 (ps.foldl c6 ([],[],[])).2.2;show(dj _ _ _).length<=_
 simp only[zaU] at h1
 lia
def Pt.nI:Pt->Pt|.keep n=>.keep n|.put s=>.cut s|.cut s=>.put s
def cB(ps:List Pt):List Pt:=ps.map Pt.nI
theorem Kx{ps:List Pt}(h:∀p∈ps,hZ p):∀p∈cB ps,hZ p:=by
 intro p hp;obtain⟨q,hq,rfl⟩:=List.mem_map.mp hp;have:=h q hq;cases q<;>exact this
theorem xa(ps:List Pt):az (cB ps)=az ps:=by
 unfold az cB;rw[zaX]
 congr 1
 refine zbo fun p _=>?_;cases p<;>rfl
theorem Yr(ps:List Pt)(h:∀p∈ps,hZ p):RI (az ps) (ps.foldl bF ([],((Str.ofString "",Str.ofString "",0):Row))):=by
 have I:=BE ps 0 ([],((Str.ofString "",Str.ofString "",0):Row)) ⟨(fun x hx=>by cases hx),zaP _,(fun x hx=>by rw[zac.mp hx];exact⟨nH,nH⟩),(fun x hx=>by cases hx),rfl⟩ h
 rwa [zbg] at I
theorem Ys{p:Pt}(h:aV p)(ht:fB p<=100000):hZ p:=by
 cases p with
 |keep n=>exact Int.le_trans (by decide) (show(1:Int)<=n from h)
 |put s=>exact⟨h.1,ht⟩
 |cut s=>exact⟨h.1,ht⟩
theorem Yt{ps:List Pt}{p:Pt}(h:p∈ps):fB p<=az ps:=by
 induction ps with
 |nil=>cases h
 |cons q ps ih=>
  have e:az (q::ps)=fB q+az ps:=by simp[az]
  rw[e];rcases zaa.mp h with rfl|h
  ·lia
  ·have:=ih h;lia
theorem xb{ps:List Pt}(h:∀p∈ps,aV p)(ht:az ps<=100000):∀p∈ps,hZ p:=fun p hp=>Ys (h p hp) (zat (Yt hp) ht)
inductive Run:List Nat->List Pt->List Nat->Prop
 |nil:Run [] [] []
 |keep {a l r:List Nat}{n:Int}{ps:List Pt}:n=a.length->Run l ps r->Run (a++l) (.keep n::ps) (a++r)
 |put {s:Str}{l r:List Nat}{ps:List Pt}:Run l ps r->Run l (.put s::ps) (s.cps.toList++r)
 |cut {s:Str}{l r:List Nat}{ps:List Pt}:Run l ps r->Run (s.cps.toList++l) (.cut s::ps) r
theorem Run.nI{l r:List Nat}{ps:List Pt}(h:Run l ps r):Run r (cB ps) l:=by
 induction h with
 |nil=>exact .nil
 |keep e _ ih=>exact .keep e ih
 |put _ ih=>exact .cut ih
 |cut _ ih=>exact .put ih
theorem Run.app{l l' r r':List Nat}{ps qs:List Pt}(h:Run l ps r)(h':Run l' qs r'):Run (l++l') (ps++qs) (r++r'):=by
 induction h with
 |nil=>exact h'
 |keep e _ ih=>rw[zaj,zaj];exact .keep e ih
 |put _ ih=>rw[zaj];exact .put ih
 |cut _ ih=>rw[zaj];exact .cut ih
theorem Run.over{l r:List Nat}{ps:List Pt}(h:Run l ps r):(overOf ps).sum=l.length:=by
 induction h with
 |nil=>rfl
 | @keep a l r n ps e _ ih=>
  have e2:overOf (.keep n::ps)=n::overOf ps:=rfl;rw[e2,zaR,ih,e,zqA]
  simp
 | @put s l r ps _ ih=>
  have e2:overOf (.put s::ps)=overOf ps:=rfl;rw[e2,ih]
 | @cut s l r ps _ ih=>
  have e2:overOf (.cut s::ps)=(s.length:Int)::overOf ps:=rfl;rw[e2,zaR,ih,zqA,len_list]
  simp
def pP(r:Row)(l q:List Nat):Prop:= ∃k:List Nat,r.2.2=k.length/\l=r.2.1.cps.toList++k/\q=r.1.cps.toList++k
inductive mv:List Row->List Nat->List Nat->Prop
 |nil:mv [] [] []
 |snoc {rs:List Row}{r:Row}{l q l' q':List Nat}:mv rs l q->pP r l' q'->mv (rs++[r]) (l++l') (q++q')
theorem Ky:Run [] (txt .put s) s.cps.toList:=by
 by_cases h:s=""
 ·rw[h,txt_nil];exact .nil
 ·rw[jn h];have:=Run.put (s:=s) Run.nil
  rwa [zab] at this
theorem Yu:Run s.cps.toList (txt .cut s) []:=by
 have:=(Ky (s:=s)).nI;have e:cB (txt .put s)=txt .cut s:=by
  unfold txt;split<;>rfl
 rwa [e] at this
theorem pP.run{r:Row}{l q:List Nat}(h:pP r l q):Run l (gd r) q:=by
 obtain⟨k,hk,rfl,rfl⟩:=h;have h3:Run k (if r.2.2=0 then [] else [.keep r.2.2]) k:=by
  split
  ·rename_i h
   have:k=[]:=zaD.mp (by lia)
   rw[this];exact .nil
  ·have:=Run.keep (a:=k) hk Run.nil
   rwa [zab] at this
 have:=((Ky (s:=r.1)).app<|Yu (s:=r.2.1)).app h3
 simpa[gd] using this
theorem mv.run{rs:List Row}{l q:List Nat}(h:mv rs l q):Run l (cL rs) q:=by
 induction h with
 |nil=>exact .nil
 |snoc _ h2 ih=>rw[wX,ub];exact ih.app h2.run
def One:Pt->List Nat->List Nat->Prop
 |.keep n,l,q=>l=q/\n=l.length
 |.put s,l,q=>l=[]/\q=s.cps.toList
 |.cut s,l,q=>l=s.cps.toList/\q=[]
theorem Kz{p:Pt}{l q:List Nat}{ps:List Pt}(h:Run l (p::ps) q):∃l1 l2 q1 q2,l=l1++l2/\q=q1++q2/\Run l2 ps q2/\
  One p l1 q1:=by
 cases h with
 |keep e h=>exact⟨_,_,_,_,rfl,rfl,h,rfl,e⟩
 |put h=>exact⟨[],_,_,_,rfl,rfl,h,rfl,rfl⟩
 |cut h=>exact⟨_,_,[],_,rfl,rfl,h,rfl,rfl⟩
theorem Yv{pre:List Row}{r:Row}{p:Pt}{l0 q0 l1 q1 l2 q2:List Nat}(h0:mv pre l0 q0)(h1:pP r l1 q1)
  (hp:One p l2 q2):
  ∃pQ pR pS pT,mv (bF (pre,r) p).1 pQ pR/\pP (bF (pre,r) p).2 pS pT/\l0++l1++l2=pQ++pS/\q0++q1++q2=pR++pT:=by
 cases p with
 |keep n=>
  obtain⟨rfl,rfl⟩:=hp;obtain⟨k,hk,rfl,rfl⟩:=h1;refine⟨l0,q0,_,_,h0,⟨k++l2,?_,rfl,rfl⟩,by simp[bF],by simp[bF]⟩
  show r.2.2+(l2.length:Int)=_;rw[hk,zqA];simp
 |put s=>
  obtain⟨rfl,rfl⟩:=hp;by_cases hs:s=""
  ·have e:bF (pre,r) (.put s)=(pre,r):=by simp only[bF,if_pos hs]
   rw[e];refine⟨l0,q0,l1,q1,h0,h1,by simp,?_⟩
   rw[hs];show q0++q1++(Str.ofString "").cps.toList=_;rw[ofString_empty];simp
  ·by_cases hk:0<r.2.2
   ·have e:bF (pre,r) (.put s)=(pre++[r],((Str.ofString ""++s,"",0):Row)):=by simp only[bF,if_neg hs,if_pos hk]
    rw[e];refine⟨_,_,[],s.cps.toList,h0.snoc h1,⟨[],rfl,rfl,?_⟩,by simp,by simp⟩
    show s.cps.toList=(Str.ofString ""++s).cps.toList++[];rw[rz];simp
   ·have e:bF (pre,r) (.put s)=(pre,(r.1++s,r.2.1,r.2.2)):=by simp only[bF,if_neg hs,if_neg hk]
    rw[e];obtain⟨k,BG,rfl,rfl⟩:=h1;have:k=[]:=zaD.mp (by lia)
    subst this;refine⟨l0,q0,r.2.1.cps.toList,r.1.cps.toList++s.cps.toList,h0,⟨[],BG,by simp,by simp[app_list]⟩,by simp,by simp⟩
 |cut s=>
  obtain⟨rfl,rfl⟩:=hp;by_cases hs:s=""
  ·have e:bF (pre,r) (.cut s)=(pre,r):=by simp only[bF,if_pos hs]
   rw[e];refine⟨l0,q0,l1,q1,h0,h1,?_,by simp⟩
   rw[hs];show l0++l1++(Str.ofString "").cps.toList=_;rw[ofString_empty];simp
  ·by_cases hk:0<r.2.2
   ·have e:bF (pre,r) (.cut s)=(pre++[r],(("",Str.ofString ""++s,0):Row)):=by simp only[bF,if_neg hs,if_pos hk]
    rw[e];refine⟨_,_,s.cps.toList,[],h0.snoc h1,⟨[],rfl,?_,rfl⟩,by simp,by simp⟩
    show s.cps.toList=(Str.ofString ""++s).cps.toList++[];rw[rz];simp
   ·have e:bF (pre,r) (.cut s)=(pre,(r.1,r.2.1++s,r.2.2)):=by simp only[bF,if_neg hs,if_neg hk]
    rw[e];obtain⟨k,BG,rfl,rfl⟩:=h1;have:k=[]:=zaD.mp (by lia)
    subst this;refine⟨l0,q0,r.2.1.cps.toList++s.cps.toList,r.1.cps.toList,h0,⟨[],BG,by simp[app_list],by simp⟩,by simp,by simp⟩
theorem KA:∀(ps:List Pt) (pre:List Row) (r:Row) (l0 q0 l1 q1 l2 q2:List Nat),mv pre l0 q0->pP r l1 q1->Run l2 ps q2->
  ∃pQ pR pS pT,mv (ps.foldl bF (pre,r)).1 pQ pR/\pP (ps.foldl bF (pre,r)).2 pS pT/\l0++l1++l2=pQ++pS/\q0++q1++q2=pR++pT
 |[],pre,r,l0,q0,l1,q1,l2,q2,h0,h1,h2=>by
  cases h2;exact⟨l0,q0,l1,q1,h0,h1,by simp,by simp⟩
 |p::ps,pre,r,l0,q0,l1,q1,l2,q2,h0,h1,h2=>by
  obtain⟨a,b,c,d,rfl,rfl,h3,h4⟩:=Kz h2;obtain⟨pQ,pR,pS,pT,g0,g1,e1,e2⟩:=Yv h0 h1 h4;obtain⟨Yw,Yx,Yy,Yz,f0,f1,e3,e4⟩:=KA ps _ _ pQ pR pS pT b d g0 g1 h3;refine⟨Yw,Yx,Yy,Yz,f0,f1,?_,?_⟩
  ·rw[<-e3,<-e1];simp
  ·rw[<-e4,<-e2];simp
theorem BH{ps:List Pt}{l q:List Nat}(h:Run l ps q):Run l (eN ps) q:=by
 obtain⟨l0,q0,l1,q1,h0,h1,e1,e2⟩:=KA ps [] ("","",0) [] [] [] [] l q .nil ⟨[],rfl,rfl,rfl⟩ h;have:=(h0.snoc h1).run;rw[<-e1,<-e2] at this;exact this
def WB:List (Key×V):=[(.inr "keep",.str "keep"),(.inr "cut",.str "put"),(.inr "put",.str "cut")]
abbrev YA:List (Str×Sp):=[("need_change",Bw),("neat",jU)]
def nJ:Sp:=fun vs H Q E=>∃a xs ps,vs=[.ref a]/\H a=some (.lst xs)/\aP H xs ps/\(∀p∈ps,aV p)/\chainOk "" ps=true/\ps.length<=100000/\az ps<=100000/\
 ∀b H' ys,ay H H'->H b=none->H' b=some (.lst ys)->aP H' ys (g_<|cB ps)->Q (.ref b) H'
theorem YB{K:Frag}{p:Addr}(vs:List V)(H:Hp)(Q:VK)(E:XK)(h:nJ vs H Q E):aE (aO K YA [("WAYS_BACK",.ref p)] [(p,WB)] (E:=E)) Hc {nx:=fun _ H'=>Q .aC H',rt:=Q} (start Hb vs) H:=by
 obtain⟨a,xs,ps,rfl,ha,de,aD,cN,hl,ht,q⟩:=h;refine⟨_,rfl,a,xs,ps,rfl,ha,de,aD,cN,fun H1 s1=>?_⟩;have hlen:=Paired.length de;refine⟨_,rfl,a,rfl,⟨_,au.of<|s1 _ _ ha⟩,fun i m ys H2=>m=xs.length - i/\i<=xs.length/\ay H H2/\aP H2 ys (cB<|ps.take i),⟨_,rfl,zqZ _,s1,.nil⟩,?_⟩;rintro i m ys H2 ⟨rfl,hi,s2,hy⟩;by_cases aX:i<xs.length
 ·refine .inr ⟨⟨xs,xs[i],au.of<|s2 _ _ ha,by simp[aX]⟩,?_⟩
  rintro x H3 ⟨rfl,hx⟩;have jd:=hx xs (au.of<|s2 _ _ ha);obtain⟨pt,hp,jR⟩:=de.get jd;obtain⟨b,rfl,hb⟩:=jR.mono (du s2);have hyl:=Paired.length hy;have hv:lX WB (.inr pt.word)=some (.str pt.nI.word):=by
   cases pt<;>first|rfl|(show lX WB _=_;decide+kernel)
  refine⟨b,_,rfl,aH.of hb,rfl,_,rfl,.inr<|.inr<|.inr ⟨p,WB,.inr pt.word,_,rfl,rfl,zac.2 rfl,hv,?_⟩⟩;refine⟨_,rfl,by show 2<=sizeLine;decide,fun t rD=>⟨?_,xs.length - (i+1),by lia,rfl,aX,s2.trans<|sameNew rD,?_⟩⟩
  ·have:(cB<|ps.take i).length=i:=by simp[cB];lia
   exact dN (by lia)
  ·have e:cB (ps.take<|i+1)=cB (ps.take i)++[pt.nI]:=by
    rw[zbu,hp];simp[cB]
   rw[e];refine(hy.mono<|du<|sameNew rD).snoc ⟨t,rfl,?_⟩;rw[aw];cases pt<;>rfl
 ·have jS:i=xs.length:=by lia
  subst jS;refine .inl ⟨⟨xs,au.of<|s2 _ _ ha,zqR _⟩,fun b hb=>?_⟩;have e:cB (ps.take xs.length)=cB ps:=by rw[hlen,zbt]
  rw[e] at hy;have sb:=sameNew (o:=.lst ys) hb;refine⟨b,ys,cB ps,rfl,aw,hy.mono<|du sb,by simp[cB];lia,by rw[xa];exact ht,fun c H3 zs s3 hc h3 hz=>?_⟩
  exact q c H3 zs (s2.trans<|sb.trans s3) ((s2.trans sb).free hc) h3 hz
theorem KC{x:Str}{a b c:List Nat}(h:x.cps.toList=a++(b++c))(n:Int)(hn:n=b.length):jH x (some (a.length:Int)) (some<|(a.length:Int)+n)=⟨b.toArray⟩:=by
 have e1:(a.length:Int)+n=((a.length+b.length:Nat):Int):=by rw[hn];simp
 unfold jH kz;rw[e1,HT.qM,HT.qM,h];have l1:(a++(b++c)).length=a.length+(b.length+c.length):=by simp
 rw[l1];have m1:min a.length (a.length+(b.length+c.length))=a.length:=by lia
 have m2:min (a.length+b.length) (a.length+(b.length+c.length))=a.length+b.length:=by lia
 rw[m1,m2,List.drop_left,show a.length+b.length - a.length=b.length by lia,List.take_left]
theorem xf(x:Str):(⟨x.cps.toList.toArray⟩:Str)=x:=gK rfl
theorem xg(ps:List Pt)(h:∀p∈ps,hZ p):az (eN ps)=az ps:=by
 have I:=Yr ps h;have e:eN ps=cL ((ps.foldl bF ([],((Str.ofString "",Str.ofString "",0):Row))).1++[(ps.foldl bF ([],((Str.ofString "",Str.ofString "",0):Row))).2]):=rfl;rw[e,BF,I.az]
inductive At where|K|P (c:Nat)|C (c:Nat)
 deriving DecidableEq
abbrev Form:=List Nat×List Nat×List (List Nat×List Nat)
def nb:List At->Form
 |[]=>([],[],[])
 |.P c::xs=>(c::(nb xs).1,(nb xs).2.1,(nb xs).2.2)
 |.C c::xs=>((nb xs).1,c::(nb xs).2.1,(nb xs).2.2)
 |.K::xs=>([],[],((nb xs).1,(nb xs).2.1)::(nb xs).2.2)
def fit:List Nat->List At->Prop
 |l,[]=>l=[]
 |l,.P _::xs=>fit l xs
 |[],.K::_=>False
 |_::l,.K::xs=>fit l xs
 |[],.C _::_=>False
 |a::l,.C c::xs=>a=c/\fit l xs
abbrev Sg:=Sum Nat Nat
def res(i:Nat):List At->List Sg
 |[]=>[]
 |.P c::xs=>.inr c::res i xs
 |.K::xs=>.inl i::res (i+1) xs
 |.C _::xs=>res (i+1) xs
theorem pU:∀(xs:List At) (i j:Nat),Sum.inl j∈res i xs->i<=j
 |[],i,j,h=>by cases h
 |.P c::xs,i,j,h=>by
  rcases zaa.mp h with z|z
  ·cases z
  ·exact pU xs i j z
 |.K::xs,i,j,h=>by
  rcases zaa.mp h with z|z
  ·cases z;exact zqR _
  ·have:=pU xs (i+1) j z;lia
 |.C c::xs,i,j,h=>by have:=pU xs (i+1) j h;lia
def out:List Nat->List At->List Nat
 |l,[]=>[]
 |l,.P c::xs=>c::out l xs
 |[],.K::xs=>out [] xs
 |a::l,.K::xs=>a::out l xs
 |[],.C _::xs=>out [] xs
 |_::l,.C _::xs=>out l xs
inductive bQ:List At->List At->List At->Prop
 |nil:bQ [] [] []
 |p {c xs ys zs}:bQ xs ys zs->bQ xs (.P c::ys) (.P c::zs)
 |c {c xs ys zs}:bQ xs ys zs->bQ (.C c::xs) ys (.C c::zs)
 |kk {xs ys zs}:bQ xs ys zs->bQ (.K::xs) (.K::ys) (.K::zs)
 |kc {c xs ys zs}:bQ xs ys zs->bQ (.K::xs) (.C c::ys) (.C c::zs)
 |pk {c xs ys zs}:bQ xs ys zs->bQ (.P c::xs) (.K::ys) (.P c::zs)
 |pc {c xs ys zs}:bQ xs ys zs->bQ (.P c::xs) (.C c::ys) zs
def sb(r:List Sg)(k:Nat):Sg->Sg
 |.inr c=>.inr c
 |.inl j=>r.getD (j - k) (.inr 0)
def sub(r:List Sg)(k:Nat)(t:List Sg):List Sg:=t.map (sb r k)
theorem xh(x:Sg)(r:List Sg)(k:Nat)(t:List Sg)(h:∀j,Sum.inl j∈t->k+1<=j):sub (x::r) k t=sub r (k+1) t:=by
 refine zbo fun y hy=>?_;cases y with
 |inr c=>rfl
 |inl j=>
  have:=h j hy
  simp only[sb]
  rw[show j - k=(j - (k+1))+1 by lia,List.getD_cons_succ]
theorem YC{xs ys zs:List At}(h:bQ xs ys zs):∀(l:List Nat) (i k:Nat),fit l xs->fit (out l xs) ys->fit l zs/\out l zs=out (out l xs) ys/\res i zs=sub (res i xs) k (res k ys):=by
 induction h with
 |nil=>intro l i k h1 h2;exact⟨h1,rfl,rfl⟩
 | @p c xs ys zs _ ih=>
  intro l i k h1 h2;obtain⟨a,b,d⟩:=ih l i k h1 h2;refine⟨a,?_,?_⟩
  ·show c::out l zs=c::out (out l xs) ys;rw[b]
  ·show Sum.inr c::res i zs=_;rw[d];rfl
 | @c c xs ys zs _ ih=>
  intro l i k h1 h2;cases l with
  |nil=>exact h1.elim
  |cons a l=>
   obtain⟨rfl,h1⟩:=h1;obtain⟨e1,e2,e3⟩:=ih l (i+1) k h1 h2;exact⟨⟨rfl,e1⟩,e2,e3⟩
 | @kk xs ys zs _ ih=>
  intro l i k h1 h2;cases l with
  |nil=>exact h1.elim
  |cons a l=>
   obtain⟨e1,e2,e3⟩:=ih l (i+1) (k+1) h1 h2;refine⟨e1,?_,?_⟩
   ·show a::out l zs=a::out (out l xs) ys;rw[e2]
   ·show Sum.inl i::res (i+1) zs=sub (Sum.inl i::res (i+1) xs) k (Sum.inl k::res (k+1) ys);rw[e3];show _=sb (Sum.inl i::res (i+1) xs) k (Sum.inl k)::sub (Sum.inl i::res (i+1) xs) k (res (k+1) ys);rw[xh _ _ _ _ fun j hj=>pU ys (k+1) j hj]
    simp only[sb]
    rw[zbv,List.getD_cons_zero]
 | @kc c xs ys zs _ ih=>
  intro l i k h1 h2;cases l with
  |nil=>exact h1.elim
  |cons a l=>
   obtain⟨rfl,h2⟩:=h2;obtain⟨e1,e2,e3⟩:=ih l (i+1) (k+1) h1 h2;refine⟨⟨rfl,e1⟩,e2,?_⟩;show res (i+1) zs=sub (Sum.inl i::res (i+1) xs) k (res (k+1) ys);rw[e3,xh _ _ _ _ fun j hj=>pU ys (k+1) j hj]
 | @pk c xs ys zs _ ih=>
  intro l i k h1 h2;obtain⟨e1,e2,e3⟩:=ih l i (k+1) h1 h2;refine⟨e1,?_,?_⟩
  ·show c::out l zs=c::out (out l xs) ys;rw[e2]
  ·show Sum.inr c::res i zs=sub (Sum.inr c::res i xs) k (Sum.inl k::res (k+1) ys);rw[e3];show _=sb (Sum.inr c::res i xs) k (Sum.inl k)::sub (Sum.inr c::res i xs) k (res (k+1) ys);rw[xh _ _ _ _ fun j hj=>pU ys (k+1) j hj]
   simp only[sb]
   rw[zbv,List.getD_cons_zero]
 | @pc c xs ys zs _ ih=>
  intro l i k h1 h2;obtain⟨_,h2⟩:=h2;obtain⟨e1,e2,e3⟩:=ih l i (k+1) h1 h2;refine⟨e1,e2,?_⟩;show res i zs=sub (Sum.inr c::res i xs) k (res (k+1) ys);rw[e3,xh _ _ _ _ fun j hj=>pU ys (k+1) j hj]
def sw:At->At|.K=>.K|.P c=>.C c|.C c=>.P c
def kU:Nat->List Nat->List Nat->List (List Nat×List Nat)->List Sg
 |i,p,q,[]=>p.map .inr
 |i,p,q,(p',q')::r=>p.map .inr++ .inl (i+q.length)::kU (i+q.length+1) p' q' r
theorem YD(c:Nat):∀(r:List (List Nat×List Nat)) (i:Nat) (p q:List Nat),kU (i+1) p q r=kU i p (c::q) r
 |[],i,p,q=>rfl
 |(p',q')::r,i,p,q=>by
  simp only[kU,zak]
  rw[show i+1+q.length=i+(q.length+1) by lia]
theorem YE(c:Nat):∀(r:List (List Nat×List Nat)) (i:Nat) (p q:List Nat),kU i (c::p) q r=.inr c::kU i p q r
 |[],i,p,q=>rfl
 |(p',q')::r,i,p,q=>rfl
theorem ud:∀(xs:List At) (i:Nat),res i xs=kU i (nb xs).1 (nb xs).2.1 (nb xs).2.2
 |[],i=>rfl
 |.P c::xs,i=>by
  show Sum.inr c::res i xs=kU i (c::(nb xs).1) _ _;rw[ud xs i,YE];rfl
 |.C c::xs,i=>by
  show res (i+1) xs=kU i (nb xs).1 (c::(nb xs).2.1) _;rw[ud xs<|i+1,YD c];rfl
 |.K::xs,i=>by
  show Sum.inl i::res (i+1) xs=Sum.inl (i+0)::kU (i+0+1) _ _ _;rw[ud xs<|i+1];rfl
theorem YF{xs ys:List At}(h:nb xs=nb ys)(i:Nat):res i xs=res i ys:=by rw[ud,ud,h]
def iZ:List Nat->List Nat->List (List Nat×List Nat)->Form->Form
 |p,q,[],F=>(p++F.1,q++F.2.1,F.2.2)
 |p,q,(a,b)::r,F=>(p,q,((iZ a b r F).1,(iZ a b r F).2.1)::(iZ a b r F).2.2)
theorem YG(c:Nat)(p q:List Nat)(r:List (List Nat×List Nat))(F:Form):iZ (c::p) q r F=(c::(iZ p q r F).1,(iZ p q r F).2.1,(iZ p q r F).2.2):=by
 cases r<;>rfl
theorem YH(c:Nat)(p q:List Nat)(r:List (List Nat×List Nat))(F:Form):iZ p (c::q) r F=((iZ p q r F).1,c::(iZ p q r F).2.1,(iZ p q r F).2.2):=by
 cases r<;>rfl
theorem mw:∀(xs ys:List At),nb (xs++ys)=iZ (nb xs).1 (nb xs).2.1 (nb xs).2.2 (nb ys)
 |[],ys=>rfl
 |.K::xs,ys=>by
  simp only[zbh,nb,mw xs ys];rfl
 |.P c::xs,ys=>by
  simp only[zbh,nb,mw xs ys,YG]
 |.C c::xs,ys=>by
  simp only[zbh,nb,mw xs ys,YH]
theorem BI{xs bo ys fU:List At}(h:nb xs=nb bo)(h':nb ys=nb fU):nb (xs++ys)=nb (bo++fU):=by rw[mw,mw,h,h']
theorem BJ:∀(p:List Nat),nb (p.map .P)=(p,[],[])
 |[]=>rfl
 |c::p=>by simp only[zar,nb,BJ p]
theorem BK:∀(p:List Nat),nb (p.map .C)=([],p,[])
 |[]=>rfl
 |c::p=>by simp only[zar,nb,BK p]
theorem YI(p q:List Nat):nb (q.map .C++p.map .P)=nb (p.map .P++q.map .C):=by
 rw[mw,mw,BJ,BK]
 simp[iZ]
def rK(n:Nat):List At:=List.replicate n .K
theorem YJ(n:Nat)(xs:List At):nb (rK (n+1)++xs)=([],[],List.replicate n ([],[])++((nb xs).1,(nb xs).2.1)::(nb xs).2.2):=by
 induction n with
 |zero=>rfl
 |succ n ih=>
  have e:rK (n+1+1)++xs=.K::(rK (n+1)++xs):=rfl;rw[e]
  simp only[nb,ih]
  rfl
theorem xj:∀(a l:List Nat) (xs:List At),fit (a++l) (rK a.length++xs)↔fit l xs
 |[],l,xs=>Iff.rfl
 |c::a,l,xs=>xj a l xs
theorem xk:∀(a l:List Nat) (xs:List At),out (a++l) (rK a.length++xs)=a++out l xs
 |[],l,xs=>rfl
 |c::a,l,xs=>by
  show c::out (a++l) (rK a.length++xs)=_;rw[xk a l xs];rfl
theorem pV:∀(s l:List Nat) (xs:List At),fit l (s.map .P++xs)↔fit l xs
 |[],l,xs=>Iff.rfl
 |c::s,l,xs=>pV s l xs
theorem xl:∀(s l:List Nat) (xs:List At),out l (s.map .P++xs)=s++out l xs
 |[],l,xs=>rfl
 |c::s,l,xs=>by
  show c::out l (s.map .P++xs)=_;rw[xl s l xs];rfl
theorem BL:∀(s l:List Nat) (xs:List At),fit (s++l) (s.map .C++xs)↔fit l xs
 |[],l,xs=>Iff.rfl
 |c::s,l,xs=>by
  show c=c/\fit (s++l) (s.map .C++xs)↔_;rw[BL s l xs];simp
theorem xp:∀(s l:List Nat) (xs:List At),out (s++l) (s.map .C++xs)=out l xs
 |[],l,xs=>rfl
 |c::s,l,xs=>xp s l xs
inductive cM:List At->List At->List At->List At->Prop
 |nil:cM [] [] [] []
 |p1 {c xs ys os ts}:cM xs ys os ts->cM (.P c::xs) ys (.P c::os) (.K::ts)
 |p2 {c xs ys os ts}:cM xs ys os ts->cM xs (.P c::ys) (.K::os) (.P c::ts)
 |kk {xs ys os ts}:cM xs ys os ts->cM (.K::xs) (.K::ys) (.K::os) (.K::ts)
 |kc {c xs ys os ts}:cM xs ys os ts->cM (.K::xs) (.C c::ys) os (.C c::ts)
 |ck {c xs ys os ts}:cM xs ys os ts->cM (.C c::xs) (.K::ys) (.C c::os) ts
 |cc {c xs ys os ts}:cM xs ys os ts->cM (.C c::xs) (.C c::ys) os ts
theorem cM.fits{xs ys os ts:List At}(h:cM xs ys os ts):∀l,fit l xs->fit l ys->fit (out l xs) ts/\fit (out l ys) os/\out (out l xs) ts=out (out l ys) os:=by
 induction h with
 |nil=>intro l h1 h2;cases h1;exact⟨rfl,rfl,rfl⟩
 | @p1 c xs ys os ts _ ih=>
  intro l h1 h2;obtain⟨a,b,d⟩:=ih l h1 h2;exact⟨a,b,by show c::_=c::_;rw[d]⟩
 | @p2 c xs ys os ts _ ih=>
  intro l h1 h2;obtain⟨a,b,d⟩:=ih l h1 h2;exact⟨a,b,by show c::_=c::_;rw[d]⟩
 | @kk xs ys os ts _ ih=>
  intro l h1 h2;cases l with
  |nil=>exact h1.elim
  |cons x l=>
   obtain⟨a,b,d⟩:=ih l h1 h2;exact⟨a,b,by show x::_=x::_;rw[d]⟩
 | @kc c xs ys os ts _ ih=>
  intro l h1 h2;cases l with
  |nil=>exact h1.elim
  |cons x l=>
   obtain⟨rfl,h2⟩:=h2;obtain⟨a,b,d⟩:=ih l h1 h2;exact⟨⟨rfl,a⟩,b,d⟩
 | @ck c xs ys os ts _ ih=>
  intro l h1 h2;cases l with
  |nil=>exact h1.elim
  |cons x l=>
   obtain⟨rfl,h1⟩:=h1;obtain⟨a,b,d⟩:=ih l h1 h2;exact⟨a,⟨rfl,b⟩,d⟩
 | @cc c xs ys os ts _ ih=>
  intro l h1 h2;cases l with
  |nil=>exact h1.elim
  |cons x l=>
   obtain⟨rfl,h1⟩:=h1;obtain⟨_,h2⟩:=h2;exact ih l h1 h2
end L2.B
variable {ps other:List L2.B.Pt}{ys ts:List L2.B.At}{node:Nat}{es fD:List L2.V}{Ed:List PySem.Addr}
namespace L2.B
open PySem PySem.Spec PyProof.Rows
def aZ:Pt->List At
 |.keep n=>rK n.toNat
 |.put s=>s.cps.toList.map .P
 |.cut s=>s.cps.toList.map .C
def ar(ps:List Pt):List At:=(ps.map aZ).flatten
theorem bX(p:Pt)(ps:List Pt):ar (p::ps)=aZ p++ar ps:=rfl
theorem fF(ps qs:List Pt):ar (ps++qs)=ar ps++ar qs:=by simp[ar]
theorem fe(p:Pt):ar [p]=aZ p:=by simp[ar]
def gf:Pt->Prop|.keep n=>0<=n|_=>True
theorem KD{p:Pt}(h:hZ p):gf p:=by cases p<;>first|exact h|trivial
theorem mx{p:Pt}(h:aV p):gf p:=by
 cases p with
 |keep n=>exact Int.le_trans (by decide) (show(1:Int)<=n from h)
 |_=>trivial
theorem Run.fits{l r:List Nat}(h:Run l ps r):fit l (ar ps)/\out l (ar ps)=r:=by
 induction h with
 |nil=>exact⟨rfl,rfl⟩
 | @keep a l r n ps e _ ih=>
  rw[bX];have e1:aZ (.keep n)=rK a.length:=by show rK n.toNat=_;rw[e];simp
  rw[e1];exact⟨(xj a l _).mpr ih.1,by rw[xk,ih.2]⟩
 | @put s l r ps _ ih=>
  rw[bX];exact⟨(pV _ l _).mpr ih.1,by show out l (s.cps.toList.map .P++_)=_;rw[xl,ih.2]⟩
 | @cut s l r ps _ ih=>
  rw[bX];exact⟨(BL _ l _).mpr ih.1,by show out _ (s.cps.toList.map .C++_)=_;rw[xp,ih.2]⟩
theorem KG:∀(n:Nat) (l:List Nat) (xs:List At),fit l (rK n++xs)->∃a b,l=a++b/\a.length=n
 | 0,l,xs,h=>⟨[],l,rfl,rfl⟩
 |n+1,[],xs,h=>(show False from h).elim
 |n+1,c::l,xs,h=>by
  obtain⟨a,b,e,hl⟩:=KG n l xs h;exact⟨c::a,b,by rw[e];rfl,by simp[hl]⟩
theorem uf:∀(s l:List Nat) (xs:List At),fit l (s.map .C++xs)->∃b,l=s++b
 |[],l,xs,h=>⟨l,rfl⟩
 |c::s,[],xs,h=>(show False from h).elim
 |c::s,d::l,xs,h=>by
  obtain⟨e,h⟩:=(show d=c/\fit l (s.map .C++xs) from h)
  obtain⟨b,e2⟩:=uf s l xs h;exact⟨b,by rw[e,e2];rfl⟩
theorem rE:∀(ps:List Pt) (l:List Nat),(∀p∈ps,gf p)->fit l (ar ps)->Run l ps (out l<|ar ps)
 |[],l,_,h=>by
  have:l=[]:=h;subst this;exact .nil
 |.keep n::ps,l,hn,h=>by
  rw[bX] at h⊢;obtain⟨a,b,rfl,ha⟩:=KG _ _ _ h;have wY:0<=n:=hn _ (.head _);have e1:aZ (.keep n)=rK a.length:=by show rK n.toNat=_;rw[ha]
  rw[e1] at h⊢;rw[xk];exact .keep (by lia)<|rE ps b (fun p hp=>hn p<|.tail _ hp)<|(xj a b _).mp h
 |.put s::ps,l,hn,h=>by
  rw[bX] at h⊢;show Run l _ (out l<|s.cps.toList.map .P++_);rw[xl];exact .put<|rE ps l (fun p hp=>hn p<|.tail _ hp)<|(pV _ l _).mp h
 |.cut s::ps,l,hn,h=>by
  rw[bX] at h⊢;obtain⟨b,rfl⟩:=uf _ _ _ h;show Run _ _ (out _<|s.cps.toList.map .C++_);rw[xp];exact .cut<|rE ps b (fun p hp=>hn p<|.tail _ hp)<|(BL _ b _).mp h
def jW(s:NS):List At:=ar s.1++((cat s.2.1).cps.toList.map .P++(cat s.2.2).cps.toList.map .C)
theorem KH(mk:Str->Pt)(f:Nat->At)(h:∀s,aZ (mk s)=s.cps.toList.map f)(x:Str):ar (txt mk x)=x.cps.toList.map f:=by
 by_cases hx:x=""
 ·rw[hx,txt_nil];rfl
 ·rw[jn hx,fe,h]
theorem KI(ch:List Pt)(p c:List Str):ar (dj ch p c)=jW (ch,p,c):=by
 unfold dj jW;rw[fF,fF,KH .put .P<|fun _=>rfl,KH .cut .C<|fun _=>rfl,zaj]
theorem KJ(m n:Nat):rK m++rK n=rK (m+n):=by unfold rK;rw[List.replicate_append_replicate]
theorem YK(ch:List Pt)(n:Int)(hn:0<=n)(h:∀p∈ch,gf p):ar (dO ch n)=ar ch++rK n.toNat:=by
 unfold dO
 split
 ·rename_i m e
  have hm:Pt.keep m∈ch:=List.mem_of_getLast? e;have YL:0<=m:=h _ hm;have ec:ch=ch.dropLast++[.keep m]:=by
   have jf:ch≠ []:=by intro z;rw[z] at hm;cases hm
   rw[List.getLast?_eq_some_getLast jf] at e;have e':=zal e;rw[<-e',List.dropLast_concat_getLast]
  conv=>rhs;rw[ec]
  rw[fF,fF,fe,fe,zaj];show _++rK (n+m).toNat=_++(rK m.toNat++rK n.toNat);rw[KJ,show(n+m).toNat=m.toNat+n.toNat by lia]
 ·rw[fF,fe];rfl
theorem KL{mk:Str->Pt}(h:∀s,gf<|mk s)(x:Str):∀p∈txt mk x,gf p:=by
 intro p hp;unfold txt at hp
 split at hp
 ·cases hp
 ·rw[zac.mp hp];exact h x
theorem KN{ch:List Pt}(p c:List Str)(h:∀p∈ch,gf p):∀q∈dj ch p c,gf q:=by
 intro q hq;unfold dj at hq;rcases zai.mp hq with z|z
 ·rcases zai.mp z with z|z
  ·exact h q z
  ·exact KL (mk:=.put) (fun _=>trivial) _ q z
 ·exact KL (mk:=.cut) (fun _=>trivial) _ q z
theorem YM{ch:List Pt}{n:Int}(hn:0<=n)(h:∀p∈ch,gf p):∀q∈dO ch n,gf q:=by
 intro q hq;unfold dO at hq
 split at hq
 ·rename_i m e
  rcases zai.mp hq with z|z
  ·exact h q ((List.dropLast_sublist ch).subset z)
  ·rw[zac.mp z];have YL:0<=m:=h _ (List.mem_of_getLast? e);show 0<=n+m;lia
 ·rcases zai.mp hq with z|z
  ·exact h q z
  ·rw[zac.mp z];exact hn
theorem YN(s:NS)(p:Pt)(hp:gf p)(h:∀q∈s.1,gf q):nb (jW<|c6 s p)=nb (jW s++aZ p)/\∀q∈ (c6 s p).1,gf q:=by
 obtain⟨ch,pu,cu⟩:=s;cases p with
 |put x=>
  refine⟨?_,h⟩;show nb (ar ch++((cat<|pu++[x]).cps.toList.map .P++(cat cu).cps.toList.map .C))=nb (ar ch++((cat pu).cps.toList.map .P++(cat cu).cps.toList.map .C)++x.cps.toList.map .P);rw[nF,app_list,zao,zaj,zaj,zaj];refine BI rfl<|BI rfl ?_;exact(YI _ _).symm
 |cut x=>
  refine⟨?_,h⟩;show nb (ar ch++((cat pu).cps.toList.map .P++(cat<|cu++[x]).cps.toList.map .C))=nb (ar ch++((cat pu).cps.toList.map .P++(cat cu).cps.toList.map .C)++x.cps.toList.map .C);rw[nF,app_list,zao,zaj,zaj]
 |keep n=>
  have wY:0<=n:=hp;by_cases hn:0<n
  ·have e:c6 (ch,pu,cu) (.keep n)=(dO (dj ch pu cu) n,[],[]):=if_pos hn;rw[e];refine⟨?_,YM wY<|KN _ _ h⟩;show nb (ar (dO (dj ch pu cu) n)++[])=nb (jW (ch,pu,cu)++rK n.toNat);rw[zab,YK _ _ wY<|KN _ _ h,KI]
  ·have e:c6 (ch,pu,cu) (.keep n)=(ch,pu,cu):=if_neg hn;rw[e];refine⟨?_,h⟩;show _=nb (jW (ch,pu,cu)++rK n.toNat);rw[show n.toNat=0 by lia]
   show _=nb (_++[]);rw[zab]
theorem KO:∀(ps:List Pt) (s:NS),(∀p∈ps,gf p)->(∀q∈s.1,gf q)->nb (jW<|ps.foldl c6 s)=nb (jW s++ar ps)
 |[],s,_,_=>by show nb (jW s)=nb (jW s++[]);rw[zab]
 |p::ps,s,h,hs=>by
  obtain⟨a,b⟩:=YN s p (h p<|.head _) hs;show nb (jW<|ps.foldl c6<|c6 s p)=_;rw[KO ps _ (fun q hq=>h q<|.tail _ hq) b,bX,<-zaj];exact BI a rfl
theorem pX(ps:List Pt)(h:∀p∈ps,gf p):nb (ar<|g_ ps)=nb (ar ps):=by
 unfold g_;have e:=KO ps ([],[],[]) h (fun q hq=>by cases hq)
 generalize ps.foldl c6 ([],[],[])=s at e⊢;show nb (ar<|dj s.1 s.2.1 s.2.2)=_;rw[KI];exact e
theorem iE(h:s≠""):∃c r,s.cps.toList=c::r:=by
 cases e:s.cps.toList with
 |nil=>exact absurd (gK (by rw[e];rfl)) h
 |cons c r=>exact⟨c,r,rfl⟩
theorem rF(s:Str)(xs:List At):nb (s.cps.toList.map .P++xs)=(s.cps.toList++(nb xs).1,(nb xs).2.1,(nb xs).2.2):=by
 rw[mw,BJ];rfl
theorem pY(s:Str)(xs:List At):nb (s.cps.toList.map .C++xs)=((nb xs).1,s.cps.toList++(nb xs).2.1,(nb xs).2.2):=by
 rw[mw,BK];rfl
theorem pZ{n:Int}(h:1<=n)(xs:List At):nb (rK n.toNat++xs)=([],[],List.replicate (n.toNat - 1) ([],[])++((nb xs).1,(nb xs).2.1)::(nb xs).2.2):=by
 obtain⟨m,e⟩:∃m,n.toNat=m+1:=⟨n.toNat - 1,by lia⟩
 rw[e,YJ];rfl
theorem KP{w:Str}(h:gc "put" w=true):w≠"put"/\w≠"cut":=by
 refine⟨fun z=>?_,fun z=>?_⟩ <;>subst z<;>exact absurd h (by decide)
theorem YO{w:Str}(h:gc "cut" w=true):w≠"cut":=by
 intro z;subst z;exact absurd h (by decide)
theorem KQ{w:Str}(h:gc "keep" w=true):w≠"keep":=by
 intro z;subst z;exact absurd h (by decide)
theorem nK{ps:List Pt}{w:Str}(hc:chainOk w ps=true)(ho:∀p∈ps,aV p)(hw:w="put"\/w="cut"):(nb<|ar ps).1=[]:=by
 cases ps with
 |nil=>rfl
 |cons p ps=>
  simp only[chainOk,zag] at hc
  have hp:=ho p (.head _);rw[bX];cases p with
  |keep n=>show(nb<|rK n.toNat++_).1=_;rw[pZ hp]
  |put s=>
   obtain⟨a,b⟩:=KP hc.1;rcases hw with z|z
   ·exact absurd z a
   ·exact absurd z b
  |cut s=>
   show(nb<|s.cps.toList.map .C++_).1=_;rw[pY];exact nK hc.2 (fun q hq=>ho q<|.tail _ hq)<|.inr rfl
theorem BM(hc:chainOk "cut" ps=true)(ho:∀p∈ps,aV p):(nb<|ar ps).2.1=[]:=by
 cases ps with
 |nil=>rfl
 |cons p ps=>
  simp only[chainOk,zag] at hc
  have hp:=ho p (.head _);rw[bX];cases p with
  |keep n=>show(nb<|rK n.toNat++_).2.1=_;rw[pZ hp]
  |put s=>exact absurd rfl (KP hc.1).2
  |cut s=>exact absurd rfl (YO hc.1)
theorem KR(hc:chainOk "keep" ps=true)(ho:∀p∈ps,aV p)(h1:(nb<|ar ps).1=[])(h2:(nb<|ar ps).2.1=[]):ps=[]:=by
 cases ps with
 |nil=>rfl
 |cons p ps=>
  exfalso
  simp only[chainOk,zag] at hc
  have hp:=ho p (.head _);rw[bX] at h1 h2;cases p with
  |keep n=>exact absurd rfl (KQ hc.1)
  |put s=>
   obtain⟨c,r,e⟩:=iE hp.2;have d_:(nb<|s.cps.toList.map .P++ar ps).1=[]:=h1;rw[rF,e] at d_;cases d_
  |cut s=>
   obtain⟨c,r,e⟩:=iE hp.2;have l_:(nb<|s.cps.toList.map .C++ar ps).2.1=[]:=h2;rw[pY,e] at l_;cases l_
theorem KS{a b:List Nat×List Nat}{r s:List (List Nat×List Nat)}:∀{m n:Nat},List.replicate m (([],[]):List Nat×List Nat)++a::r=List.replicate n ([],[])++b::s->(m=n/\a=b/\r=s)\/(m<n/\a=([],[])/\r≠ [])\/(n<m/\b=([],[])/\s≠ [])
 | 0,0,h=>by
  have h':a::r=b::s:=h
  injection h' with h1 h2
  exact .inl ⟨rfl,h1,h2⟩
 | 0,n+1,h=>by
  have h':a::r=([],[])::(List.replicate n ([],[])++b::s):=h
  injection h' with h1 h2
  exact .inr<|.inl ⟨by lia,h1,by rw[h2];simp⟩
 |m+1,0,h=>by
  have h':([],[])::(List.replicate m ([],[])++a::r)=b::s:=h
  injection h' with h1 h2
  exact .inr<|.inr ⟨by lia,h1.symm,by rw[<-h2];simp⟩
 |m+1,n+1,h=>by
  have h':(([],[]):List Nat×List Nat)::(List.replicate m ([],[])++a::r)=([],[])::(List.replicate n ([],[])++b::s):=h
  injection h' with _ h2
  rcases KS h2 with⟨x,y⟩|⟨x,y⟩|⟨x,y⟩
  ·exact .inl ⟨by lia,y⟩
  ·exact .inr (.inl ⟨by lia,y⟩)
  ·exact .inr (.inr ⟨by lia,y⟩)
theorem KU(q:Pt)(qs:List Pt)(ho:∀p∈q::qs,aV p)(h:([],[],[])=nb (ar (q::qs))):False:=by
 have hq:=ho q (.head _);rw[bX] at h;have h0:([],[],[])=nb (aZ q++ar qs):=h;cases q with
 |keep n=>
  have h1:([],[],[])=nb (rK n.toNat++ar qs):=h0;rw[pZ hq] at h1;have:=congrArg (fun x=>x.2.2) h1
  simp at this
 |put s=>
  obtain⟨c,r,e⟩:=iE hq.2;have h1:([],[],[])=nb (s.cps.toList.map .P++ar qs):=h0;rw[rF,e] at h1;have:=congrArg (fun x=>x.1) h1
  simp at this
 |cut s=>
  obtain⟨c,r,e⟩:=iE hq.2;have h1:([],[],[])=nb (s.cps.toList.map .C++ar qs):=h0;rw[pY,e] at h1;have:=congrArg (fun x=>x.2.1) h1
  simp at this
theorem xq:∀(ps qs:List Pt) (w v:Str),chainOk w ps=true->chainOk v qs=true->(∀p∈ps,aV p)->(∀p∈qs,aV p)->nb (ar ps)=nb (ar qs)->ps=qs
 |[],[],_,_,_,_,_,_,_=>rfl
 |[],q::qs,_,_,_,_,_,ho,h=>(KU q qs ho h).elim
 |p::ps,[],_,_,_,_,ho,_,h=>(KU p ps ho h.symm).elim
 |p::ps,q::qs,w,v,hw,hv,ho,ff,h=>by
  simp only[chainOk,zag] at hw hv
  have hp:=ho p (.head _);have hq:=ff q (.head _);have oT:∀x∈ps,aV x:=fun x hx=>ho x (.tail _ hx);have my:∀x∈qs,aV x:=fun x hx=>ff x (.tail _ hx);rw[bX,bX] at h;have fin:p=q->nb (ar ps)=nb (ar qs)->p::ps=q::qs:=fun e1 e2=>by
   rw[e1,xq ps qs p.word q.word hw.2 hv.2 oT my e2]
  cases p with
  |keep n=>
   have h':nb (rK n.toNat++ar ps)=nb (aZ q++ar qs):=h;rw[pZ hp] at h';cases q with
   |keep m=>
    have h2:_=nb (rK m.toNat++ar qs):=h';rw[pZ hq] at h2;have h3:=congrArg (fun x=>x.2.2) h2;have fm:(1:Int)<=n:=hp;have hm1:(1:Int)<=m:=hq;rcases KS h3 with⟨e1,e2,e3⟩|⟨e1,e2,e3⟩|⟨e1,e2,e3⟩
    ·refine fin (by congr 1;lia) ?_
     have rG:=congrArg Prod.fst e2;have rH:=congrArg Prod.snd e2
     simp only at rG rH
     exact Prod.ext rG<|Prod.ext rH e3
    ·have rG:=congrArg Prod.fst e2;have rH:=congrArg Prod.snd e2;have:=KR hw.2 oT rG rH;rw[this] at e3;exact absurd rfl e3
    ·have rG:=congrArg Prod.fst e2;have rH:=congrArg Prod.snd e2;have:=KR hv.2 my rG rH;rw[this] at e3;exact absurd rfl e3
   |put s=>
    exfalso
    obtain⟨c,r,e⟩:=iE hq.2;have h2:_=nb (s.cps.toList.map .P++ar qs):=h';rw[rF,e] at h2;have:=congrArg (fun x=>x.1) h2
    simp at this
   |cut s=>
    exfalso
    obtain⟨c,r,e⟩:=iE hq.2;have h2:_=nb (s.cps.toList.map .C++ar qs):=h';rw[pY,e] at h2;have:=congrArg (fun x=>x.2.1) h2
    simp at this
  |put x=>
   obtain⟨c0,r0,e0⟩:=iE hp.2;have h':nb (x.cps.toList.map .P++ar ps)=nb (aZ q++ar qs):=h;rw[rF] at h';have k1:=nK hw.2 oT (.inl rfl);cases q with
   |keep m=>
    exfalso
    have h2:_=nb (rK m.toNat++ar qs):=h';rw[pZ hq,e0] at h2;have:=congrArg (fun x=>x.1) h2
    simp at this
   |put s=>
    have h2:_=nb (s.cps.toList.map .P++ar qs):=h';rw[rF,k1,nK hv.2 my<|.inl rfl,zab,zab] at h2;have a1:=congrArg (fun x=>x.1) h2;have a2:=congrArg (fun x=>x.2) h2
    simp only at a1 a2
    refine fin (by rw[gK a1]) ?_
    exact Prod.ext (by rw[k1,nK hv.2 my<|.inl rfl]) a2
   |cut s=>
    exfalso
    have h2:_=nb (s.cps.toList.map .C++ar qs):=h';rw[pY,nK hv.2 my<|.inr rfl,e0] at h2;have:=congrArg (fun x=>x.1) h2
    simp at this
  |cut x=>
   obtain⟨c0,r0,e0⟩:=iE hp.2;have h':nb (x.cps.toList.map .C++ar ps)=nb (aZ q++ar qs):=h;have k1:=nK hw.2 oT (.inr rfl);have k2:=BM hw.2 oT;rw[pY] at h';cases q with
   |keep m=>
    exfalso
    have h2:_=nb (rK m.toNat++ar qs):=h';rw[pZ hq,e0] at h2;have:=congrArg (fun x=>x.2.1) h2
    simp at this
   |put s=>
    exfalso
    obtain⟨c,r,e⟩:=iE hq.2;have h2:_=nb (s.cps.toList.map .P++ar qs):=h';rw[rF,k1,e] at h2;have:=congrArg (fun x=>x.1) h2
    simp at this
   |cut s=>
    have h2:_=nb (s.cps.toList.map .C++ar qs):=h';rw[pY,k1,k2,nK hv.2 my<|.inr rfl,BM hv.2 my,zab,zab] at h2;have a1:=congrArg (fun x=>x.2.1) h2;have a2:=congrArg (fun x=>x.2.2) h2
    simp only at a1 a2
    refine fin (by rw[gK a1]) ?_
    exact Prod.ext (by rw[k1,nK hv.2 my<|.inr rfl])<|Prod.ext (by rw[k2,BM hv.2 my]) a2
termination_by ps qs=>ps.length+qs.length
theorem mz{k:Str}{r:List (Str×V)}:((k,v)::r).lookup k=some v:=by simp[List.lookup]
theorem df{k j:Str}{r:List (Str×V)}(h:¬k=j):((j,v)::r).lookup k=r.lookup k:=by
 have:(k==j)=false:=by simpa using h
 simp[List.lookup,this]
theorem ug{k:Str}{w:V}{r:List (Str×V)}:bN k v ((k,w)::r)=(k,v)::r:=by simp[bN]
theorem dv{k j:Str}{w:V}{r:List (Str×V)}(h:¬j=k):bN k v ((j,w)::r)=(j,w)::bN k v r:=by simp[bN,h]
theorem YQ{T:Ty}{P Q:Bool->Prop}(h:bH T v H P)(i:∀b,P b->Q b):bH T v H Q:=by
 cases v with
 |ref a=>
  unfold bH at h⊢
  simp only at h⊢
  split at h
  all_goals first|exact i _ h|exact h.elim
 |aC=>exact i _ h
 |bl b=>exact i _ h
 |int _=>exact i _ h
 |str _=>exact i _ h
 |_=>exact False.elim h
theorem YR{T:Ty}{P:Bool->Prop}(h:bH T v H P)(s:ay H H'):bH T v H' P:=by
 cases v with
 |ref a=>
  unfold bH at h⊢
  simp only at h⊢
  cases e:H a with
  |none=>rw[e] at h;exact h.elim
  |some o=>rw[e] at h;rw[s _ _ e];exact h
 |aC=>exact h
 |bl b=>exact h
 |int _=>exact h
 |str _=>exact h
 |_=>exact False.elim h
def jo(T:Ty)(v:V)(H:Hp):Prop:=bH T v H fun b=>b=false
theorem jo.same{T:Ty}(h:jo T v H)(s:ay H H'):jo T v H':=YR h s
theorem jo.go{T:Ty}{Q:Bool->Prop}(h:jo T v H)(q:Q false):bH T v H Q:=YQ h fun b e=>by rw[e];exact q
def YS(x:Str):Bool:=x.cps.toList.all fun c=>SG.cps.contains c
theorem KW{α:Type}(p:α->Bool):∀l:List α,l.all p=false->(l.takeWhile p).length<l.length
 |[],h=>by cases h
 |c::l,h=>by
  rw[List.takeWhile_cons];cases hc:p c with
  |false=>simp
  |true=>
   rw[zbl,hc,Bool.true_and] at h;have:=KW p l h
   simp;lia
theorem YT(x y:Str)(h:(x.cps.toList.all fun c=>y.cps.contains c)=false):Txt.lstripChars x y≠"":=by
 have lt:=KW _ _ h;have e0:stripLo y.cps.contains true x=(x.cps.toList.takeWhile y.cps.contains).length:=by
  unfold stripLo;rw[if_pos rfl]
 have e1:∀n,stripHi y.cps.contains false x n=x.length:=fun n=>rfl;intro z;have z2:=congrArg Str.length z;have l0:(Str.ofString "").length=0:=rfl;rw[l0] at z2;unfold Txt.lstripChars Txt.stripBy stripSame stripped at z2;rw[e0,e1] at z2;have hx:x.cps.size=x.cps.toList.length:=by simp
 split at z2
 ·have:x.cps.size=0:=z2;lia
 ·have z3:(x.cps.extract (x.cps.toList.takeWhile y.cps.contains).length x.cps.size).size=0:=z2;rw[Array.size_extract,Nat.min_self] at z3;have z4:x.cps.size - (List.takeWhile (fun c=>y.cps.contains c) x.cps.toList).length=0:=z3;lia
def uh(v:V)(H:Hp):Prop:=(∃x,v=.str x/\x.length<=1000000/\YS x=false)\/jo .str v H
theorem uh.same(h:uh v H)(s:ay H H'):uh v H':=by
 rcases h with h|h
 ·exact .inl h
 ·exact .inr (h.same s)
def p6(v:V)(H:Hp):Prop:=(∃b,v=.bl b)\/jo .int v H
theorem p6.same(h:p6 v H)(s:ay H H'):p6 v H':=by
 rcases h with h|h
 ·exact .inl h
 ·exact .inr (h.same s)
def nM:Sp:=fun vs H Q E=>∃v,vs=[v]/\((∃i,v=.int i/\Q (.bl true) H)\/(p6 v H/\Q (.bl false) H))
theorem YU{K:Frag}:bT (nM) (fun E=>aO K [] [] (E:=E)) GV l7:=by
 intro vs H Q E h;obtain⟨v,rfl,⟨i,rfl,q⟩|⟨⟨b,rfl⟩|hn,q⟩⟩:=h
 ·exact⟨_,rfl,rfl,_,rfl,fk ⟨_,rfl,rfl,q⟩⟩
 ·exact⟨_,rfl,rfl,_,rfl,fk ⟨_,rfl,rfl,q⟩⟩
 ·exact⟨_,rfl,rfl,hn.go ⟨_,rfl,gU q⟩⟩
def KY:Sp:=fun vs H Q E=>∃v,vs=[v]/\((∃x,v=.str x/\good x/\Q (.bl true) H)\/(uh v H/\Q (.bl false) H))
theorem YV{K:Frag}:bT (KY) (fun E=>aO K [] gS (E:=E)) AX l7:=by
 intro vs H Q E h;obtain⟨v,rfl,⟨x,rfl,hx,q⟩|⟨⟨x,rfl,hl,hx⟩|hn,q⟩⟩:=h
 ·exact Bu _ _ _ _ ⟨x,rfl,hx,q⟩
 ·refine⟨_,rfl,rfl,_,rfl,fk ⟨_,rfl,rfl,cU hl,?_⟩⟩;show Q (.bl<|false ^^ decide (V.str (Txt.lstripChars x SG)=V.str "")) H;rw[zqF<|fun z=>YT x SG hx (by injection z)]
  exact q
 ·exact⟨_,rfl,rfl,hn.go ⟨_,rfl,gU q⟩⟩
def KZ(K:Frag):Sp:=fun vs H Q E=>∃v p xs,vs=[v,.ref p]/\aH K H p xs/\xs.all iq=true/\((∃w,v=.str w/\Q (.bl<|eZ (.str w) xs) H)\/(jo .str v H/\Q (.bl false) H))
theorem YW{K:Frag}:bT (KZ K) (fun E=>aO K [] [] (E:=E)) AW AV:=by
 intro vs H Q E h;obtain⟨v,p,xs,rfl,hp,hf,⟨w,rfl,q⟩|⟨hn,q⟩⟩:=h
 ·exact XX _ _ _ _ ⟨w,p,xs,rfl,hp,hf,q⟩
 ·exact⟨_,rfl,rfl,hn.go ⟨_,rfl,gU q⟩⟩
def YX(v:V)(H:Hp):Prop:=jo .tuple v H\/∃a xs,v=.ref a/\H a=some (.tup xs)/\xs.length<=1000000/\(xs.length≠2\/∃w t,xs=[w,t]/\
 (jo .str w H\/(∃s,w=.str s/\s≠"keep"/\s≠"cut"/\s≠"put")\/(w=.str "keep"/\(p6 t H\/∃n,t=.int n/\n<1))\/((w=.str "cut"\/w=.str "put")/\(uh t H\/t=.str ""))))
abbrev xr(K:Frag):List (Str×Sp):=[("is_word",KZ K),("is_whole",nM),("is_text",KY)]
def K0:Sp:=fun vs H Q E=>∃v,vs=[v]/\((∃p,gJ H v p/\aV p/\∀H',ay H H'->Q (.bl true) H')\/(YX v H/\∀H',ay H H'->Q (.bl false) H'))
theorem K1(s t:Str):eZ (.str s) [.str t]=(t==s):=by
 unfold eZ;show(gT (.str t) (.str s)||false)=_;rw[zbk];rfl
theorem YY{K:Frag}:bT (K0) (fun E=>aO K (xr K) [] (E:=E)) wF l7:=by
 intro vs H Q E h;have two:∀(a:Addr) (w t:V) (Q1:VK) (H1:Hp) (σ:St),σ[0]?=some (some<|.ref a)->H1 a=some (.tup [w,t])->
   (∀(tt:Addr) H2,ay H1 H2->∀b:Bool,(b=true->w=.str "cut"\/w=.str "put")->(b=false->w≠ .str "cut"/\w≠ .str "put")->Q1 (.bl b) H2)->(jo .str w H1\/∃s,w=.str s)->
   ae (aO K (xr K) [] (E:=E)) (.call 0 [(.ix (.v 0)<|.c<|.int 0),(.tup [(.c<|.str "cut"),(.c<|.str "put")])]) σ H1 Q1:=by
  intro a w t Q1 H1 σ h0 ha q hw;refine⟨_,h0,.inr<|.inl ⟨_,_,_,_,rfl,rfl,aH.of ha,rfl,d4,fun t ht=>?_⟩⟩;have s2:=sameNew (o:=.tup [V.str "cut",V.str "put"]) ht;refine⟨w,t,_,rfl,aH.of aw,rfl,?_⟩;rcases hw with hw|⟨s,rfl⟩
  ·refine .inr ⟨hw.same s2,q t _ s2 false (fun z=>by cases z) fun _=>⟨?_,?_⟩⟩
   ·rintro rfl;cases (show true=false from hw)
   ·rintro rfl;cases (show true=false from hw)
  ·refine .inl ⟨s,rfl,q t _ s2 _ (fun z=>?_) fun z=>?_⟩
   ·have z':((Str.ofString "cut"==s)||((Str.ofString "put"==s)||false))=true:=z
    simp only[zbk,zbN,beq_iff_eq] at z'
    rcases z' with z'|z'<;>subst z'
    ·exact .inl rfl
    ·exact .inr rfl
   ·have z':((Str.ofString "cut"==s)||((Str.ofString "put"==s)||false))=false:=z
    simp only[zbk,Bool.or_eq_false_iff,beq_eq_false_iff_ne] at z'
    exact⟨fun y=>z'.1 (by injection y with y;exact y.symm),fun y=>z'.2 (by injection y with y;exact y.symm)⟩
 obtain⟨v,rfl,⟨p,⟨a,rfl,ha⟩,hp,q⟩|⟨hn|⟨a,xs,rfl,ha,hl,hb⟩,q⟩⟩:=h
 ·refine⟨_,rfl,rfl,Bt ha ⟨_,rfl,.inr ⟨_,aH.of ha,_,rfl,?_⟩⟩⟩;refine⟨_,rfl,.inr<|.inl ⟨_,_,_,_,rfl,rfl,aH.of ha,rfl,eG,fun t1 fG=>?_⟩⟩;have s1:=sameNew (o:=.tup [V.str "keep"]) fG;refine⟨.str p.word,t1,[.str "keep"],rfl,aH.of aw,rfl,.inl ⟨p.word,rfl,?_⟩⟩;have h9:=s1 _ _ ha;generalize upd H t1 (.tup [V.str "keep"])=H1 at s1 h9;have fin:∀(s:Str),good s->s≠""->H1 a=some (.tup [.str p.word,.str s])->p.word="put"\/p.word="cut"->aE (aO K (xr K) [] (E:=E)) (wF.drop 2) (Dn Q) (start l7 [.ref a]) H1:=by
   intro s gs ns hs hw;refine two a (.str p.word) (.str s) _ H1 _ rfl hs (fun tt H2 s2 b BN nN=>?_)<|.inr ⟨_,rfl⟩;have eb:b=true:=by
    cases b with
    |true=>rfl
    |false=>
     obtain⟨z1,z2⟩:=nN rfl;rcases hw with z|z
     ·exact absurd (congrArg V.str z) z2
     ·exact absurd (congrArg V.str z) z1
   subst eb;have xu:=s2 _ _ hs;refine⟨_,rfl,fk ⟨_,rfl,.inr<|.inl ⟨_,_,_,_,rfl,rfl,aH.of xu,rfl,.str s,rfl,.inl ⟨s,rfl,gs,_,rfl,?_⟩⟩⟩⟩;refine fk ⟨_,rfl,.inr<|.inl ⟨_,_,_,_,rfl,rfl,aH.of xu,rfl,?_⟩⟩;show Q (.bl<|true ^^ decide (V.str s=V.str "")) _;rw[zqF<|fun z=>ns (by injection z)]
   exact q _<|s1.trans s2
  cases p with
  |keep n=>
   rw[show eZ (.str (Pt.keep n).word) [.str "keep"]=true by show eZ (.str "keep") [.str "keep"]=true;decide]
   refine⟨_,rfl,.inr<|.inl ⟨_,_,_,_,rfl,rfl,aH.of h9,rfl,.int n,rfl,.inl ⟨n,rfl,_,rfl,?_⟩⟩⟩;refine fk ⟨_,rfl,.inr<|.inl ⟨_,_,_,_,rfl,rfl,aH.of h9,rfl,trivial,?_⟩⟩;show Q (.bl<|decide<|1<=n) H1;rw[zqT (show(1:Int)<=n from hp)]
   exact q _ s1
  |put s=>
   rw[show eZ (.str (Pt.put s).word) [.str "keep"]=false by show eZ (.str "put") [.str "keep"]=false;decide]
   exact fin s hp.1 hp.2 h9<|.inl rfl
  |cut s=>
   rw[show eZ (.str (Pt.cut s).word) [.str "keep"]=false by show eZ (.str "cut") [.str "keep"]=false;decide]
   exact fin s hp.1 hp.2 h9<|.inr rfl
 ·exact⟨_,rfl,rfl,hn.go<|q _<|ay.refl _⟩
 ·refine⟨_,rfl,rfl,Bt ha ⟨_,rfl,.inr ⟨_,aH.of ha,_,rfl,?_⟩⟩⟩;show if (true ^^ decide (V.int (xs.length:Int)=V.int 2))=true then _ else _
  rcases hb with hb|⟨w,t,rfl,hb⟩
  ·rw[zqF<|fun z=>hb (by injection z with z;lia)]
   exact q _<|ay.refl _
  ·refine⟨_,rfl,.inr<|.inl ⟨_,_,_,_,rfl,rfl,aH.of ha,rfl,eG,fun t1 fG=>?_⟩⟩;have s1:=sameNew (o:=.tup [V.str "keep"]) fG;refine⟨w,t1,[.str "keep"],rfl,aH.of aw,rfl,?_⟩;have h9:=s1 _ _ ha;generalize upd H t1 (.tup [V.str "keep"])=H1 at s1 h9;have no:(jo .str w H1\/∃s,w=.str s)->w≠ .str "cut"->w≠ .str "put"->aE (aO K (xr K) [] (E:=E)) (wF.drop 2) (Dn Q) (start l7 [.ref a]) H1:=by
    intro hw n1 n2;refine two a w t _ H1 _ rfl h9 (fun tt H2 s2 b BN nN=>?_) hw;have eb:b=false:=by
     cases b with
     |false=>rfl
     |true=>rcases BN rfl with z|z;exact absurd z n1;exact absurd z n2
    subst eb;exact⟨_,rfl,gU<|q _<|s1.trans s2⟩
   rcases hb with hb|⟨s,rfl,n0,n1,n2⟩|⟨rfl,hb⟩|⟨hw,hb⟩
   ·refine .inr ⟨hb.same s1,no (.inl<|hb.same s1) ?_ ?_⟩
    ·rintro rfl;cases (show true=false from hb)
    ·rintro rfl;cases (show true=false from hb)
   ·refine .inl ⟨s,rfl,?_⟩;rw[K1,beq_eq_false_iff_ne.mpr<|Ne.symm n0];exact no (.inr ⟨s,rfl⟩) (fun z=>n1 (by injection z))<|fun z=>n2 (by injection z)
   ·refine .inl ⟨_,rfl,?_⟩;rw[show eZ (.str "keep") [.str "keep"]=true by decide]
    refine⟨_,rfl,.inr<|.inl ⟨_,_,_,_,rfl,rfl,aH.of h9,rfl,t,rfl,?_⟩⟩;rcases hb with hb|⟨n,rfl,hn⟩
    ·exact .inr ⟨hb.same s1,_,rfl,gU<|q _ s1⟩
    ·refine .inl ⟨n,rfl,_,rfl,fk ⟨_,rfl,.inr<|.inl ⟨_,_,_,_,rfl,rfl,aH.of h9,rfl,trivial,?_⟩⟩⟩;show Q (.bl<|decide<|1<=n) H1;rw[zqF (by lia)]
     exact q _ s1
   ·have YZ:∃s,w=.str s/\(Str.ofString "keep"==s)=false:=by
     rcases hw with rfl|rfl
     ·exact⟨_,rfl,by decide⟩
     ·exact⟨_,rfl,by decide⟩
    obtain⟨s,rfl,hk⟩:=YZ;refine .inl ⟨s,rfl,?_⟩;rw[K1,hk];refine two a (.str s) t _ H1 _ rfl h9 (fun tt H2 s2 b BN nN=>?_)<|.inr ⟨s,rfl⟩;have eb:b=true:=by
     cases b with
     |true=>rfl
     |false=>
      obtain⟨z1,z2⟩:=nN rfl;rcases hw with z|z
      ·exact absurd z z1
      ·exact absurd z z2
    subst eb;have gg:=s2 _ _ h9;refine⟨_,rfl,fk ⟨_,rfl,.inr<|.inl ⟨_,_,_,_,rfl,rfl,aH.of gg,rfl,t,rfl,?_⟩⟩⟩;rcases hb with hb|rfl
    ·exact .inr ⟨hb.same<|s1.trans s2,_,rfl,gU<|q _<|s1.trans s2⟩
    ·refine .inl ⟨_,rfl,⟨by decide,fun c hc=>by cases hc⟩,_,rfl,fk ⟨_,rfl,.inr<|.inl ⟨_,_,_,_,rfl,rfl,aH.of gg,rfl,?_⟩⟩⟩
     exact q _<|s1.trans s2
theorem Y0{vs:List V}{E:XK}(h:pK vs H Q E):K0 vs H Q E:=by
 obtain⟨v,p,rfl,hp,ho,q⟩:=h;exact⟨_,rfl,.inl ⟨p,hp,ho,q⟩⟩
def xv(a b:Sp):Sp:=fun vs H Q E=>a vs H Q E\/b vs H Q E
end L2.B
namespace L2
open PySem PySem.Spec PyProof.Rows
section
variable {Γ:bj}{D:Ends}{σ:St}{H:Hp}{r:List RS}{Q:VK}{QA:List V->Hp->Prop}{QT:Bool->Hp->Prop}
theorem af(h:σ[i]?=some (some v))(q:Q v H):ae Γ (.v i) σ H Q:=⟨_,h,q⟩
theorem aA(q:Q v H):ae Γ (.c v) σ H Q:=q
theorem bU{op:Operator}(h:ae Γ a σ H fun x H1=>ae Γ b σ H1 fun y H2=>mZ Γ.K op x y H2 Q):ae Γ (.bin op a b) σ H Q:=h
theorem jX{op:CmpOp}(h:ae Γ a σ H fun x H1=>ae Γ b σ H1 fun y H2=>c9 Γ.K op x y H2 Q):ae Γ (.cmp op a b) σ H Q:=h
theorem bw(h:ae Γ a σ H fun x H1=>ae Γ b σ H1 fun y H2=>m4 Γ.K Γ.sd x y H2 Q):ae Γ (.ix a b) σ H Q:=h
theorem Y1(h:aS Γ as σ H fun vs H1=>Γ.fs j (vs++[]) H1 Q Γ.E):ae Γ (.call j as) σ H Q:=h
theorem cC(sp:Sp)(hs:Γ.fs j=sp)(h:aS Γ as σ H fun vs H1=>sp vs H1 Q Γ.E):ae Γ (.call j as) σ H Q:=by
 subst hs;refine Y1 ?_;have e:(fun(vs:List V) (H1:Hp)=>Γ.fs j (vs++[]) H1 Q Γ.E)=fun vs H1=>Γ.fs j vs H1 Q Γ.E:=by
  funext vs H1;rw[zab]
 rw[e];exact h
theorem xx{b:lW}(h:aS Γ as σ H fun vs H1=>kE Γ.K b vs H1 Q):ae Γ (.blt b as) σ H Q:=h
theorem kW(h:aS Γ as σ H fun xs H1=>xs.length<=sizeLine/\∀p,H1 p=none->Q (.ref p) (upd H1 p<|.tup xs)):ae Γ (.tup as) σ H Q:=h
theorem dw(h:aS Γ as σ H fun xs H1=>xs.length<=sizeLine/\∀p,H1 p=none->Q (.ref p) (upd H1 p<|.lst xs)):ae Γ (.lst as) σ H Q:=h
theorem aK(q:QA [] H):aS Γ [] σ H QA:=q
theorem ax(h:ae Γ a σ H fun x H1=>aS Γ as σ H1 fun xs H2=>QA (x::xs) H2):aS Γ (a::as) σ H QA:=h
theorem bC(h:ae Γ e σ H fun x H1=>aE Γ r D (σ.set i<|some x) H1):aE Γ (.asg i e::r) D σ H:=h
theorem dX(h:ae Γ e σ H fun _ H1=>aE Γ r D σ H1):aE Γ (.drop e::r) D σ H:=h
theorem cP(h:ae Γ e σ H D.rt):aE Γ (.ret e::r) D σ H:=h
end
end L2
namespace L2.B
open PySem PySem.Spec PyProof.Rows
theorem Paired.app{α β:Type}{R:α->β->Prop}:∀{xs bo:List α}{ys fU:List β},Paired R xs ys->Paired R bo fU->Paired R (xs++bo) (ys++fU)
 |_,_,_,_,.nil,s=>s
 |_,_,_,_,.cons r t,s=>.cons r (Paired.app t s)
theorem BO{x:Str}(k:Nat)(n:Int)(m:Nat)(hn:n=m):jH x (some (k:Int)) (some<|(k:Int)+n)=⟨((x.cps.toList.drop k).take m).toArray⟩:=by
 have e1:(k:Int)+n=((k+m:Nat):Int):=by rw[hn];simp
 unfold jH kz;rw[e1,HT.qM,HT.qM]
 congr 1
 by_cases h:k<=x.cps.toList.length
 ·rw[show min k x.cps.toList.length=k by lia]
  by_cases h2:k+m<=x.cps.toList.length
  ·rw[show min (k+m) x.cps.toList.length=k+m by lia,Nat.add_sub_cancel_left]
  ·rw[show min (k+m) x.cps.toList.length=x.cps.toList.length by lia,zaV (by rw[zaC];lia),zaV (by rw[zaC];lia)]
 ·rw[show min k x.cps.toList.length=x.cps.toList.length by lia,zbQ,List.drop_of_length_le (by lia),List.take_nil,List.take_nil]
def xy:Sp:=fun vs H Q E=>∃x a xs ps r,vs=[.str x,.ref a]/\good x/\H a=some (.lst xs)/\aP H xs ps/\(∀p∈ps,Br p)/\Run x.cps.toList ps r/\r.length<=1000000/\Q (.str ⟨r.toArray⟩) H
def aQ:Pt->Nat|.keep n=>n.toNat|.put s=>s.length|.cut s=>s.length
def cb:Pt->Nat->Pt
 |.keep n,o=>.keep (n - o)
 |.put s,o=>.put ⟨(s.cps.toList.drop o).toArray⟩
 |.cut s,o=>.cut ⟨(s.cps.toList.drop o).toArray⟩
def aL:Pt->Nat->Pt
 |.keep _,o=>.keep o
 |.put s,o=>.put ⟨(s.cps.toList.take o).toArray⟩
 |.cut s,o=>.cut ⟨(s.cps.toList.take o).toArray⟩
theorem K2(p:Pt)(o:Nat):(cb p o).word=p.word:=by cases p<;>rfl
theorem Y2(p:Pt)(o:Nat):(aL p o).word=p.word:=by cases p<;>rfl
theorem jq{p:Pt}(h:aV p):pI p=(aQ p:Int)/\1<=aQ p:=by
 cases p with
 |keep n=>
  have h1:(1:Int)<=n:=h;exact⟨by show n=(n.toNat:Int);lia,by show 1<=n.toNat;lia⟩
 |put s=>
  obtain⟨c,r,e⟩:=iE h.2;exact⟨rfl,by show 1<=s.length;rw[len_list,e];simp⟩
 |cut s=>
  obtain⟨c,r,e⟩:=iE h.2;exact⟨rfl,by show 1<=s.length;rw[len_list,e];simp⟩
theorem jY(l:List Nat):(⟨l.toArray⟩:Str).length=l.length:=by rw[len_list]
theorem kY(p:Pt)(o:Nat)(h:o<=aQ p):aQ (cb p o)=aQ p - o:=by
 cases p with
 |keep n=>
  have h':o<=n.toNat:=h;show(n - (o:Int)).toNat=n.toNat - o;lia
 |put s=>show(⟨(s.cps.toList.drop o).toArray⟩:Str).length=s.length - o;rw[jY,zaC,<-len_list]
 |cut s=>show(⟨(s.cps.toList.drop o).toArray⟩:Str).length=s.length - o;rw[jY,zaC,<-len_list]
theorem ui(p:Pt)(o:Nat)(h:o<=aQ p):aQ (aL p o)=o:=by
 cases p with
 |keep n=>show((o:Int)).toNat=o;lia
 |put s=>
  have h':o<=s.length:=h;rw[len_list] at h';show(⟨(s.cps.toList.take o).toArray⟩:Str).length=o;rw[jY,zaF];lia
 |cut s=>
  have h':o<=s.length:=h;rw[len_list] at h';show(⟨(s.cps.toList.take o).toArray⟩:Str).length=o;rw[jY,zaF];lia
theorem drop_zero(p:Pt):cb p 0=p:=by
 cases p with
 |keep n=>show Pt.keep (n - ((0:Nat):Int))=_;rw[show n - ((0:Nat):Int)=n by lia]
 |put s=>show Pt.put ⟨(s.cps.toList.drop 0).toArray⟩=_;rw[zbO,xf]
 |cut s=>show Pt.cut ⟨(s.cps.toList.drop 0).toArray⟩=_;rw[zbO,xf]
theorem drop_drop(p:Pt)(a b:Nat):cb (cb p a) b=cb p (a+b):=by
 cases p with
 |keep n=>show Pt.keep (n - (a:Int) - (b:Int))=Pt.keep (n - ((a+b:Nat):Int));congr 1;lia
 |put s=>show Pt.put ⟨((s.cps.toList.drop a).drop b).toArray⟩=Pt.put ⟨(s.cps.toList.drop<|a+b).toArray⟩;rw[List.drop_drop]
 |cut s=>show Pt.cut ⟨((s.cps.toList.drop a).drop b).toArray⟩=Pt.cut ⟨(s.cps.toList.drop<|a+b).toArray⟩;rw[List.drop_drop]
theorem take_all(p:Pt)(h:gf p):aL p (aQ p)=p:=by
 cases p with
 |keep n=>
  have h':0<=n:=h;show Pt.keep ((n.toNat:Nat):Int)=_;rw[show((n.toNat:Nat):Int)=n by lia]
 |put s=>show Pt.put ⟨(s.cps.toList.take s.length).toArray⟩=_;rw[len_list,zbt,xf]
 |cut s=>show Pt.cut ⟨(s.cps.toList.take s.length).toArray⟩=_;rw[len_list,zbt,xf]
theorem xB(p:Pt)(o:Nat)(h:o<=aQ p):aZ p=aZ (aL p o)++aZ (cb p o):=by
 cases p with
 |keep n=>
  have h':o<=n.toNat:=h;show rK n.toNat=rK ((o:Nat):Int).toNat++rK (n - (o:Int)).toNat;rw[KJ];congr 1;lia
 |put s=>
  show s.cps.toList.map At.P=(s.cps.toList.take o).map At.P++(s.cps.toList.drop o).map At.P;rw[<-zao,zbZ]
 |cut s=>
  show s.cps.toList.map At.C=(s.cps.toList.take o).map At.C++(s.cps.toList.drop o).map At.C;rw[<-zao,zbZ]
theorem xC(h:good s)(l:List Nat)(hl:l.length<=s.length)(hm:∀c∈l,c∈s.cps.toList):good ⟨l.toArray⟩:=
 ⟨by rw[jY];exact zat hl h.1,fun c hc=>h.2 c<|hm c hc⟩
theorem xD{l:List Nat}(h:l≠ []):(⟨l.toArray⟩:Str)≠"":=fun z=>h (by have:=congrArg (fun s=>s.cps.toList) z;exact this)
theorem BP{p:Pt}{o:Nat}(h:aV p)(ho:o<aQ p):aV (cb p o):=by
 cases p with
 |keep n=>
  have h':o<n.toNat:=ho;show(1:Int)<=n - (o:Int);lia
 |put s=>
  have h':o<s.cps.toList.length:=by rw[<-len_list];exact ho
  exact⟨xC h.1 _ (by rw[zaC,<-len_list];lia) fun c hc=>zbw hc,xD (by intro z;have:=congrArg List.length z;rw[zaC] at this;have t2:s.cps.toList.length - o=0:=this;lia)⟩
 |cut s=>
  have h':o<s.cps.toList.length:=by rw[<-len_list];exact ho
  exact⟨xC h.1 _ (by rw[zaC,<-len_list];lia) fun c hc=>zbw hc,xD (by intro z;have:=congrArg List.length z;rw[zaC] at this;have t2:s.cps.toList.length - o=0:=this;lia)⟩
theorem xE{p:Pt}{o:Nat}(h:aV p)(ho:1<=o)(h1:o<=aQ p):aV (aL p o):=by
 cases p with
 |keep n=>show(1:Int)<= (o:Int);lia
 |put s=>
  have h':o<=s.cps.toList.length:=by rw[<-len_list];exact h1
  exact⟨xC h.1 _ (by rw[zaF,<-len_list];lia) fun c hc=>zcb hc,xD (by intro z;have:=congrArg List.length z;rw[zaF] at this;have t2:min o s.cps.toList.length=0:=this;lia)⟩
 |cut s=>
  have h':o<=s.cps.toList.length:=by rw[<-len_list];exact h1
  exact⟨xC h.1 _ (by rw[zaF,<-len_list];lia) fun c hc=>zcb hc,xD (by intro z;have:=congrArg List.length z;rw[zaF] at this;have t2:min o s.cps.toList.length=0:=this;lia)⟩
def wf(L:Addr)(i o:Int):List (Str×V):=[("parts",.ref L),("passed_by",.int i),("offset",.int o)]
theorem xF{i o:Int}:(wf L i o).lookup ("parts":Str)=some (.ref L):=mz
theorem uj{i o:Int}:(wf L i o).lookup ("passed_by":Str)=some (.int i):=(df (by decide+kernel)).trans mz
theorem K3{i o:Int}:(wf L i o).lookup ("offset":Str)=some (.int o):=(df (by decide+kernel)).trans ((df (by decide+kernel)).trans mz)
theorem xG{i o:Int}{m:Str}(h1:¬m="parts")(h2:¬m="passed_by")(h3:¬m="offset"):(wf L i o).lookup m=none:=(df h1).trans ((df h2).trans<|(df h3).trans rfl)
theorem K4{i o k:Int}:bN "offset" (.int k) (wf L i o)=wf L i k:=by
 unfold wf;rw[dv (by decide+kernel),dv (by decide+kernel),ug]
theorem Y3{i o k:Int}:bN "passed_by" (.int k) (wf L i o)=wf L k o:=by
 unfold wf;rw[dv (by decide+kernel),ug]
theorem Y4:bN "offset" (.int 0) (bN "passed_by" (.int 0)<|bN "parts" (.ref L) [])=wf L 0 0:=by
 have e1:bN "parts" (V.ref L) []=[(("parts":Str),V.ref L)]:=rfl;rw[e1,dv (by decide+kernel)]
 have e2:bN "passed_by" (V.int 0) []=[(("passed_by":Str),V.int 0)]:=rfl;rw[e2,dv (by decide+kernel),dv (by decide+kernel)]
 rfl
def bD(C:Addr)(H:Hp)(w L:Addr)(rs:List Pt):Prop:= ∃(dx:Addr) (xs:List V) (ps:List Pt) (i o:Nat),H w=some (.ins C dx<|wf L i o)/\H L=some (.lst xs)/\aP H xs ps/\(∀p∈ps,aV p)/\ps.length<=100000/\
 ((ps.drop i=[]/\rs=[])\/∃p t,ps.drop i=p::t/\o<aQ p/\rs=cb p o::t)
theorem bD.keep{w:Addr}{rs:List Pt}(h:bD C H w L rs)(k:∀b o,H b=some o->b=w\/b=L\/(∃xs,o=.tup xs)->H' b=some o):bD C H' w L rs:=by
 obtain⟨dx,xs,ps,i,o,h1,h2,h3,h4⟩:=h;exact⟨dx,xs,ps,i,o,k _ _ h1<|.inl rfl,k _ _ h2<|.inr<|.inl rfl,h3.mono fun b ys e=>k _ _ e (.inr<|.inr ⟨ys,rfl⟩),h4⟩
theorem bD.same{w:Addr}{rs:List Pt}(h:bD C H w L rs)(s:ay H H'):bD C H' w L rs:=h.keep fun b o e _=>s b o e
theorem bD.but{w:Addr}{rs:List Pt}(h:bD C H w L rs)(b:aJ c H H')(hc:H c=some (.lst xs))(hn:c≠L):bD C H' w L rs:=by
 refine h.keep fun d o e z=>b d o e ?_;obtain⟨dx,_,_,_,_,h1,_⟩:=h;rcases z with rfl|rfl|⟨ys,rfl⟩
 ·exact bR h1 hc (by intro z;cases z)
 ·exact hn.symm
 ·exact bR e hc (by intro z;cases z)
theorem bD.ok{w:Addr}{rs:List Pt}(h:bD C H w L rs):∀p∈rs,aV p:=by
 obtain⟨dx,xs,ps,i,o,h1,h2,h3,h4,h5,⟨_,rfl⟩|⟨p,t,e,ho,rfl⟩⟩:=h
 ·intro p hp;cases hp
 ·have hm:∀q∈p::t,aV q:=fun q hq=>h4 q (zbw (by rw[e];exact hq))
  intro q hq;rcases zaa.mp hq with rfl|hq
  ·exact BP (hm p<|.head _) ho
  ·exact hm q (.tail _ hq)
def nO:List Pt->Str
 |[]=> ""
 |p::_=>p.word
def jZ(C:Addr):Sp:=fun vs H Q E=>∃(w dx a:Addr) (xs:List V) (ps:List Pt),vs=[.ref w,.ref a]/\H w=some (.ins C dx [])/\H a=some (.lst xs)/\aP H xs ps/\(∀p∈ps,aV p)/\ps.length<=100000/\
 ∀L H',H L=none->L≠w->aJ w H H'->bD C H' w L ps->Q .aC H'
theorem Y5{K:Frag}(T:ni K C):bT (jZ C) (fun E=>aO K [] [] (E:=E)) Hj wG:=by
 intro vs H Q E h;obtain⟨w,dx,a,xs,ps,rfl,hw,ha,de,aD,hl,k⟩:=h;refine⟨_,rfl,xs,.inl<|au.of ha,fun L hL=>?_⟩;have nw:w≠L:=bf hw hL;refine⟨_,rfl,w,C,dx,[],rfl,(by rw[aF nw];exact hw),T.cl,T.tP,(by show 0<1000;decide),?_⟩
 refine⟨_,rfl,w,C,dx,_,rfl,aw,T.cl,T.pw,(by show 1<1000;decide),?_⟩
 refine⟨_,rfl,w,C,dx,_,rfl,aw,T.cl,T.tQ,(by show 2<1000;decide),?_⟩
 rw[vg,vg];have b:aJ w H (upd (upd H L<|.lst xs) w<|.ins C dx<|bN "offset" (.int 0)<|bN "passed_by" (.int 0)<|bN "parts" (.ref L) []):=fun c o e n=>by rw[aF n,aF<|bf e hL];exact e
 refine k L _ hL nw.symm b ⟨dx,xs,ps,0,0,?_,?_,de.mono ?_,aD,hl,?_⟩
 ·rw[aw,Y4];rfl
 ·rw[aF nw.symm,aw]
 ·intro c ys e;exact b c _ e<|bR e hw (by intro z;cases z)
 ·cases ps with
  |nil=>exact .inl ⟨rfl,rfl⟩
  |cons p t=>exact .inr ⟨p,t,rfl,(jq<|aD p<|.head _).2,by rw[drop_zero]⟩
theorem BQ{p:Pt}{t:List Pt}(h:ps.drop i=p::t):ps[i]?=some p/\ps.drop (i+1)=t/\i<ps.length:=by
 have hl:i<ps.length:=by
  rcases Nat.lt_or_ge i ps.length with z|z
  ·exact z
  ·rw[List.drop_of_length_le z] at h;cases h
 refine⟨?_,?_,hl⟩
 ·have:=congrArg List.head? h;rw[List.head?_drop] at this
  simpa using this
 ·rw[<-List.drop_drop,h];rfl
theorem aP.at{p:Pt}(h:aP H xs ps)(e:ps[i]?=some p):∃a,xs[i]?=some (.ref a)/\H a=some (.tup [.str p.word,p.val]):=by
 have hl:=Paired.length h;have hi:i<xs.length:=by rw[hl];exact(zah.mp e).1
 obtain⟨q,hq,a,ea,ha⟩:=h.get (i:=i) (v:=xs[i]) (by simp[hi])
 rw[e] at hq;cases hq;exact⟨a,by rw[<-ea];simp[hi],ha⟩
def nP(C:Addr):Sp:=fun vs H Q E=>∃(w L:Addr) (rs:List Pt),vs=[.ref w]/\bD C H w L rs/\Q (.str<|nO rs) H
theorem Y6{K:Frag}(T:ni K C):bT (nP C) (fun E=>aO K [] [] (E:=E)) Hk kR:=by
 intro vs H Q E h;obtain⟨w,L,rs,rfl,⟨dx,xs,ps,i,o,h1,h2,h3,h4,h5,h6⟩,q⟩:=h;have hl:=Paired.length h3;refine⟨_,rfl,w,C,dx,_,_,rfl,h1,T.cl,T.pw,uj,_,rfl,w,C,dx,_,_,rfl,h1,T.cl,T.tP,xF,.inl ⟨_,au.of h2,trivial,_,rfl,?_⟩⟩;rcases h6 with⟨e,rfl⟩|⟨p,t,e,ho,rfl⟩
 ·have:ps.length<=i:=by
   rcases Nat.lt_or_ge i ps.length with z|z
   ·rw[zbp z] at e;cases e
   ·exact z
  exact iF q<|zqF (by lia)
 ·obtain⟨e1,e2,e3⟩:=BQ e;obtain⟨a,ea,ha⟩:=h3.at e1;refine iT ?_<|zqT (by lia)
  refine⟨_,rfl,w,C,dx,_,_,rfl,h1,T.cl,T.tP,xF,_,rfl,w,C,dx,_,_,rfl,h1,T.cl,T.pw,uj,.inl ⟨_,_,_,_,rfl,rfl,au.of h2,dq ea,?_⟩⟩;refine .inr<|.inl ⟨_,_,_,_,rfl,rfl,aH.of ha,rfl,?_⟩;rw[show nO (cb p o::t)=p.word from K2 p o] at q
  exact q
def xH(C:Addr):Sp:=fun vs H Q E=>∃(w L dx:Addr) (xs:List V) (ps:List Pt) (i o:Nat) (p:Pt),vs=[.ref w]/\H w=some (.ins C dx<|wf L i o)/\H L=some (.lst xs)/\aP H xs ps/\ps[i]?=some p/\aV p/\Q (.int<|(aQ p:Int) - (o:Int)) H
theorem Y7{K:Frag}(T:ni K C):bT (xH C) (fun E=>aO K [("part_size",nA)] [] (E:=E)) Hl kR:=by
 intro vs H Q E h;obtain⟨w,L,dx,xs,ps,i,o,p,rfl,h1,h2,h3,e1,hp,q⟩:=h;obtain⟨a,ea,ha⟩:=h3.at e1;refine⟨_,rfl,w,C,dx,_,_,rfl,h1,T.cl,T.tP,xF,_,rfl,w,C,dx,_,_,rfl,h1,T.cl,T.pw,uj,.inl ⟨_,_,_,_,rfl,rfl,au.of h2,dq ea,?_⟩⟩;refine⟨_,p,rfl,⟨a,rfl,ha⟩,t4 hp,?_⟩;refine⟨_,rfl,w,C,dx,_,_,rfl,h1,T.cl,T.tQ,K3,trivial,?_⟩;rw[(jq hp).1];exact q
def kZ(C:Addr):Sp:=fun vs H Q E=>∃(w L:Addr) (p:Pt) (t:List Pt),vs=[.ref w]/\bD C H w L (p::t)/\Q (.int (aQ p:Int)) H
theorem Y8{vs:List V}{E:XK}(h:kZ C vs H Q E):xH C vs H Q E:=by
 obtain⟨w,L,p,t,rfl,⟨dx,xs,ps,i,o,h1,h2,h3,h4,h5,⟨_,e⟩|⟨p',t',e,ho,e'⟩⟩,q⟩:=h
 ·cases e
 ·cases e';obtain⟨e1,_,_⟩:=BQ e;refine⟨w,L,dx,xs,ps,i,o,p',rfl,h1,h2,h3,e1,h4 _<|zan e1,?_⟩;rw[kY p' o (by lia)] at q
  rw[show((aQ p':Int) - (o:Int))=((aQ p' - o:Nat):Int) by lia]
  exact q
def dm(p:Pt)(t:List Pt)(k:Nat):List Pt:=if k=aQ p then t else cb p k::t
def mB(C:Addr):Sp:=fun vs H Q E=>∃(w L:Addr) (p:Pt) (t:List Pt) (k:Nat),vs=[.ref w,.int (k:Int)]/\bD C H w L (p::t)/\1<=k/\k<=aQ p/\
 ∀r H',aJ w H H'->H' r=some (.tup [.str (aL p k).word,(aL p k).val])->H r=none->bD C H' w L (dm p t k)->Q (.ref r) H'
theorem Y9{K:Frag}(T:ni K C):bT (mB C) (fun E=>aO K [] [] [] [("left",C,xH C)] (E:=E)) AZ Hn:=by
 intro vs H Q E h;obtain⟨w,L,p,t,k,rfl,⟨dx,xs,ps,i,o,h1,h2,h3,h4,h5,⟨_,e⟩|⟨p',t',e,ho,e'⟩⟩,hk1,Y_,q⟩:=h
 ·cases e
 cases e';obtain⟨e1,e2,e3⟩:=BQ e;obtain⟨a,ea,ha⟩:=h3.at e1;have hp:=h4 _ (zan e1);rw[kY p' o (by lia)] at Y_
 have K5:w≠L:=bR h1 h2 (by intro z;cases z)
 have Za:a≠w:=bR ha h1 (by intro z;cases z)
 refine⟨_,rfl,w,C,dx,_,_,rfl,h1,T.cl,T.tP,xF,_,rfl,w,C,dx,_,_,rfl,h1,T.cl,T.pw,uj,.inl ⟨_,_,_,_,rfl,rfl,au.of h2,dq ea,?_⟩⟩;refine⟨_,rfl,w,C,dx,_,_,rfl,h1,T.cl,T.tQ,K3,?_⟩;refine⟨_,rfl,_,rfl,?_⟩;refine⟨_,rfl,_,rfl,w,C,dx,_,rfl,h1,T.cl,T.tQ,(by show 3<1000;decide),?_⟩
 rw[K4,show(o:Int)+(k:Int)=((o+k:Nat):Int) by lia]
 have tup:∀(fs:List (Str×V)),cz H (upd H w<|.ins C dx fs):=fun fs b ys eb=>by rw[aF<|bR eb h1 (by intro z;cases z)];exact eb
 refine⟨_,rfl,w,dx,_,rfl,aw,xG (by decide+kernel) (by decide+kernel) (by decide+kernel),w,L,dx,xs,ps,i,o+k,p',rfl,aw,(by rw[aF K5.symm];exact h2),h3.mono<|tup _,e1,hp,?_⟩
 have fin:∀(i' o':Nat),((ps.drop i'=[]/\dm (cb p' o) t k=[])\/∃p t',ps.drop i'=p::t'/\o'<aQ p/\dm (cb p' o) t k=cb p o'::t')->
   aE (aO K [] [] [] [("left",C,xH C)] (E:=E)) (AZ.drop 5) (Dn Q) [some<|.ref w,some<|.int (k:Int),some<|.ref a,some<|.int (o:Int),some<|.int ((o+k:Nat):Int)] (upd H w<|.ins C dx<|wf L (i':Int) (o':Int)):=by
  intro i' o' hr;have kT:upd H w (.ins C dx<|wf L (i':Int) (o':Int)) a=some (.tup [.str p'.word,p'.val]):=by rw[aF Za];exact ha
  have done:∀v:V,v=(aL (cb p' o) k).val->∀r,upd H w (.ins C dx<|wf L (i':Int) (o':Int)) r=none->Q (.ref r) (upd (upd H w<|.ins C dx<|wf L (i':Int) (o':Int)) r<|.tup [.str p'.word,v]):=by
   rintro v rfl r jr;have K6:r≠w:=fun z=>by rw[z,aw] at jr;cases jr
   have K7:H r=none:=by rw[aF K6] at jr;exact jr
   have bt:aJ w H (upd (upd H w<|.ins C dx<|wf L (i':Int) (o':Int)) r<|.tup [.str p'.word,(aL (cb p' o) k).val]):=fun b ob eb Zb=>by rw[aF<|bf eb K7,aF Zb];exact eb
   refine q r _ bt (by rw[aw,Y2,K2]) K7 ⟨dx,xs,ps,i',o',?_,bt _ _ h2 K5.symm,h3.mono fun b ys eb=>bt b _ eb (bR eb h1 (by intro z;cases z)),h4,h5,hr⟩
   rw[aF K6.symm,aw]
  refine⟨_,rfl,.inr<|.inl ⟨_,_,_,_,rfl,rfl,aH.of kT,rfl,?_⟩⟩;refine⟨_,rfl,.inr<|.inl ⟨_,_,_,_,rfl,rfl,aH.of kT,rfl,_,rfl,?_⟩⟩;rw[zaI,ij];cases p' with
  |keep n=>exact fk ⟨_,rfl,d4,done _ rfl⟩
  |put s=>
   refine gU ⟨_,rfl,.inr<|.inl ⟨_,_,_,_,rfl,rfl,aH.of kT,rfl,_,rfl,_,rfl,_,rfl,_,rfl,cU hp.1.1,d4,done _ ?_⟩⟩;show V.str (jH s (some (o:Int))<|some ((o+k:Nat):Int))=V.str ⟨((s.cps.toList.drop o).take k).toArray⟩;rw[zbx,BO o (k:Int) k rfl]
  |cut s=>
   refine gU ⟨_,rfl,.inr<|.inl ⟨_,_,_,_,rfl,rfl,aH.of kT,rfl,_,rfl,_,rfl,_,rfl,_,rfl,cU hp.1.1,d4,done _ ?_⟩⟩;show V.str (jH s (some (o:Int))<|some ((o+k:Nat):Int))=V.str ⟨((s.cps.toList.drop o).take k).toArray⟩;rw[zbx,BO o (k:Int) k rfl]
 refine⟨_,rfl,?_⟩;rw[zaI];by_cases hz:k=aQ p' - o
 ·refine iT ?_ (zqT (by congr 1;lia))
  refine⟨_,rfl,w,C,dx,_,_,rfl,aw,T.cl,T.pw,uj,_,rfl,w,C,dx,_,rfl,aw,T.cl,T.pw,(by show 3<1000;decide),?_⟩
  rw[vg,Y3];refine⟨_,rfl,w,C,dx,_,rfl,aw,T.cl,T.tQ,(by show 3<1000;decide),?_⟩
  rw[vg,K4,show(i:Int)+1=((i+1:Nat):Int) by lia]
  refine fin (i+1) 0 ?_;have er:dm (cb p' o) t k=t:=if_pos (by rw[kY p' o (by lia)];exact hz)
  rw[er,e2];cases t with
  |nil=>exact .inl ⟨rfl,rfl⟩
  |cons p2 t2=>
   have hm:aV p2:=h4 p2 (zbw (by rw[e];exact .tail _ (.head _)))
   exact .inr ⟨p2,t2,rfl,(jq hm).2,by rw[drop_zero]⟩
 ·refine iF ?_ (zqF (by intro z;have z':(aQ p':Int) - ((o+k:Nat):Int)=0:=(by injection z);lia))
  refine fin i (o+k)<|.inr ⟨p',t,e,by lia,?_⟩
  have er:dm (cb p' o) t k=cb (cb p' o) k::t:=if_neg (by rw[kY p' o (by lia)];exact hz)
  rw[er,drop_drop]
theorem bQ.app{xs zs bo fU c7:List At}(h:bQ xs ys zs)(h':bQ bo fU c7):bQ (xs++bo) (ys++fU) (zs++c7):=by
 induction h with
 |nil=>exact h'
 |p _ ih=>exact .p ih
 |c _ ih=>exact .c ih
 |kk _ ih=>exact .kk ih
 |kc _ ih=>exact .kc ih
 |pk _ ih=>exact .pk ih
 |pc _ ih=>exact .pc ih
theorem K8:∀s:List Nat,bQ [] (s.map .P) (s.map .P)
 |[]=>.nil
 |c::s=>.p (K8 s)
theorem BR:∀s:List Nat,bQ (s.map .C) [] (s.map .C)
 |[]=>.nil
 |c::s=>.c (BR s)
theorem K9:∀n:Nat,bQ (rK n) (rK n) (rK n)
 | 0=>.nil
 |n+1=>.kk (K9 n)
theorem K_:∀s:List Nat,bQ (rK s.length) (s.map .C) (s.map .C)
 |[]=>.nil
 |c::s=>.kc (K_ s)
theorem La:∀s:List Nat,bQ (s.map .P) (rK s.length) (s.map .P)
 |[]=>.nil
 |c::s=>.pk (La s)
theorem Lb:∀s:List Nat,bQ (s.map .P) (s.map .C) []
 |[]=>.nil
 |c::s=>.pc (Lb s)
def c8:List At->Nat
 |[]=>0
 |.P _::xs=>c8 xs
 |.K::xs=>c8 xs+1
 |.C _::xs=>c8 xs+1
def gw:List At->Nat
 |[]=>0
 |.P _::xs=>gw xs+1
 |.K::xs=>gw xs+1
 |.C _::xs=>gw xs
def cnt:List At->Nat
 |[]=>0
 |.K::xs=>cnt xs
 |.P _::xs=>cnt xs+1
 |.C _::xs=>cnt xs+1
theorem k_:∀(xs:List At) (l:List Nat),fit l xs->l.length=c8 xs
 |[],l,h=>by cases h;rfl
 |.P c::xs,l,h=>k_ xs l h
 |.K::xs,[],h=>h.elim
 |.K::xs,a::l,h=>by simp[c8,k_ xs l h]
 |.C c::xs,[],h=>h.elim
 |.C c::xs,a::l,h=>by simp[c8,k_ xs l h.2]
theorem xI:∀(xs:List At) (l:List Nat),fit l xs->(out l xs).length=gw xs
 |[],l,h=>rfl
 |.P c::xs,l,h=>by simp[out,gw,xI xs l h]
 |.K::xs,[],h=>h.elim
 |.K::xs,a::l,h=>by simp[out,gw,xI xs l h]
 |.C c::xs,[],h=>h.elim
 |.C c::xs,a::l,h=>xI xs l h.2
theorem uk:∀(xs ys:List At),c8 (xs++ys)=c8 xs+c8 ys
 |[],ys=>by simp[c8]
 |.P c::xs,ys=>uk xs ys
 |.K::xs,ys=>by simp only[zbh,c8,uk xs ys];lia
 |.C c::xs,ys=>by simp only[zbh,c8,uk xs ys];lia
theorem xJ:∀(xs ys:List At),cnt (xs++ys)=cnt xs+cnt ys
 |[],ys=>by simp[cnt]
 |.K::xs,ys=>xJ xs ys
 |.P c::xs,ys=>by simp only[zbh,cnt,xJ xs ys];lia
 |.C c::xs,ys=>by simp only[zbh,cnt,xJ xs ys];lia
theorem bQ.cnt{xs zs:List At}(h:bQ xs ys zs):cnt zs<=B.cnt xs+B.cnt ys:=by
 induction h<;>simp only[B.cnt] <;>lia
theorem nQ:∀(xs:List At) (l:List Nat),fit l (xs++ys)->∃l1 l2,l=l1++l2/\fit l1 xs/\fit l2 ys/\out l (xs++ys)=out l1 xs++out l2 ys
 |[],l,h=>⟨[],l,rfl,rfl,h,rfl⟩
 |.P c::xs,l,h=>by
  obtain⟨l1,l2,rfl,a,b,d⟩:=nQ xs l h;exact⟨l1,l2,rfl,a,b,by show c::out _ (xs++ys)=c::(out l1 xs++out l2 ys);rw[d]⟩
 |.K::xs,[],h=>(show False from h).elim
 |.K::xs,e::l,h=>by
  obtain⟨l1,l2,rfl,a,b,d⟩:=nQ xs l h;exact⟨e::l1,l2,rfl,a,b,by show e::out _ (xs++ys)=e::(out l1 xs++out l2 ys);rw[d]⟩
 |.C c::xs,[],h=>(show False from h).elim
 |.C c::xs,e::l,h=>by
  obtain⟨h0,h⟩:=(show e=c/\fit l (xs++ys) from h)
  obtain⟨l1,l2,rfl,a,b,d⟩:=nQ xs l h;exact⟨e::l1,l2,rfl,⟨h0,a⟩,b,d⟩
theorem Lc{a b:List Nat}{zs:List At}(h:fit (a++b) (ys++zs))(hl:a.length=c8 ys):fit a ys/\fit b zs:=by
 obtain⟨l1,l2,e,h1,h2,_⟩:=nQ ys _ h;have:=k_ _ _ h1;obtain⟨rfl,rfl⟩:=List.append_inj e (by lia)
 exact⟨h1,h2⟩
theorem um(n:Nat):c8 (rK n)=n:=by
 induction n with
 |zero=>rfl
 |succ n ih=>show c8 (rK n)+1=_;rw[ih]
theorem mD(s:List Nat):c8 (s.map .C)=s.length:=by
 induction s with
 |nil=>rfl
 |cons c s ih=>show c8 (s.map .C)+1=_;rw[ih];rfl
theorem Zc(n:Nat):gw (rK n)=n:=by
 induction n with
 |zero=>rfl
 |succ n ih=>show gw (rK n)+1=_;rw[ih]
theorem Zd(s:List Nat):gw (s.map .P)=s.length:=by
 induction s with
 |nil=>rfl
 |cons c s ih=>show gw (s.map .P)+1=_;rw[ih];rfl
theorem Ld:∀(xs:List At) (l:List Nat),fit l xs->out l xs=[]->∀x∈xs,∃c,x=.C c
 |[],l,_,_,x,hx=>by cases hx
 |.P c::xs,l,h,e,x,hx=>by cases e
 |.K::xs,[],h,_,_,_=>h.elim
 |.K::xs,a::l,h,e,x,hx=>by cases e
 |.C c::xs,[],h,_,_,_=>h.elim
 |.C c::xs,a::l,h,e,x,hx=>by
  rcases zaa.mp hx with rfl|hx
  ·exact⟨c,rfl⟩
  ·exact Ld xs l h.2 e x hx
theorem cM.app{xs os bo fU vE Le:List At}(h:cM xs ys os ts)(h':cM bo fU vE Le):cM (xs++bo) (ys++fU) (os++vE) (ts++Le):=by
 induction h with
 |nil=>exact h'
 |p1 _ ih=>exact .p1 ih
 |p2 _ ih=>exact .p2 ih
 |kk _ ih=>exact .kk ih
 |kc _ ih=>exact .kc ih
 |ck _ ih=>exact .ck ih
 |cc _ ih=>exact .cc ih
theorem Lf:∀s:List Nat,cM (s.map .P) [] (s.map .P) (rK s.length)
 |[]=>.nil
 |c::s=>.p1 (Lf s)
theorem Lg:∀s:List Nat,cM [] (s.map .P) (rK s.length) (s.map .P)
 |[]=>.nil
 |c::s=>.p2 (Lg s)
theorem Lh:∀n:Nat,cM (rK n) (rK n) (rK n) (rK n)
 | 0=>.nil
 |n+1=>.kk (Lh n)
theorem Li:∀s:List Nat,cM (rK s.length) (s.map .C) [] (s.map .C)
 |[]=>.nil
 |c::s=>.kc (Li s)
theorem Lj:∀s:List Nat,cM (s.map .C) (rK s.length) (s.map .C) []
 |[]=>.nil
 |c::s=>.ck (Lj s)
theorem Lk:∀s:List Nat,cM (s.map .C) (s.map .C) [] []
 |[]=>.nil
 |c::s=>.cc (Lk s)
theorem cM.Ze{xs os:List At}(h:cM xs ys os ts):cnt os<=B.cnt xs/\cnt ts<=B.cnt ys:=by
 induction h<;>simp only[B.cnt] <;>lia
end L2.B
namespace L2
open PySem PySem.Spec PyProof.Rows
section
variable {Γ:bj}{D:Ends}{σ:St}{H:Hp}{r:List RS}{Q:VK}{QA:List V->Hp->Prop}{QT:Bool->Hp->Prop}
theorem uo{m:Str}(C:Addr)(sp:Sp)(hm:Γ.ms j=(C,sp))(h:ae Γ o σ H fun x H1=>∃a dx fs,x=.ref a/\H1 a=some (.ins C dx fs)/\fs.lookup m=none/\sp [x] H1 Q Γ.E):ae Γ (.aM j m o []) σ H Q:=by
 show oM (Γ.ms j).1 m (Γ.ms j).2 [] Γ.E (ae Γ o) (aS Γ []) σ H Q;rw[hm];exact h
theorem js{m:Str}(C:Addr)(sp:Sp)(hm:Γ.ms j=(C,sp))(h:ae Γ o σ H fun x H1=>∃p dx fs,x=.ref p/\H1 p=some (.ins C dx fs)/\fs.lookup m=none/\ae Γ a σ H1 fun y H2=>sp [x,y] H2 Q Γ.E):ae Γ (.aM j m o [a]) σ H Q:=by
 show oM (Γ.ms j).1 m (Γ.ms j).2 [] Γ.E (ae Γ o) (aS Γ [a]) σ H Q;rw[hm];exact h
theorem xM(C:Addr)(sp:Sp)(hm:Γ.kt j=(C,sp))(h:ae Γ a σ H fun y H1=>∀x dx,H1 x=none->H1 dx=none->dx≠x->sp [.ref x,y] (upd (upd H1 dx<|.own x) x<|.ins C dx []) (fun v H2=>v=.aC/\Q (.ref x) H2) Γ.E):ae Γ (.make j [a]) σ H Q:=by
 show zm (Γ.kt j).1 (Γ.kt j).2 [] Γ.E (aS Γ [a]) σ H Q;rw[hm];exact h
theorem p7{c:RE}(W:Nat->St->Hp->Prop)(h0:∃m,W m σ H)
  (h:∀m σ H,W m σ H->bg Γ c σ H fun b H1=>if b=true then ∃N:St->Hp->Prop,(∀σ' H',N σ' H'->∃m',m'<m/\W m' σ' H')/\aE Γ body {{D with nx:=aE Γ r D} with nx:=N,ct:=N,bk:=aE Γ r D} σ H1 else aE Γ r D σ H1):aE Γ (.kA c body::r) D σ H:=⟨W,h0,h⟩
theorem bK{c:RE}{t e:List RS}(h:bg Γ c σ H fun b H1=>if b=true then aE Γ t {D with nx:=aE Γ r D} σ H1 else aE Γ e {D with nx:=aE Γ r D} σ H1):aE Γ (.ite c t e::r) D σ H:=h
theorem ba{op:CmpOp}(h:ae Γ a σ H fun x H1=>ae Γ b σ H1 fun y H2=>c9 Γ.K op x y H2 fun z H3=>∃k,z=.bl k/\QT k H3):bg Γ (.cmp op a b) σ H QT:=h
theorem bY{f:Str}(h:ae Γ o σ H fun x H1=>∃a C dx fs v,x=.ref a/\H1 a=some (.ins C dx fs)/\fh Γ.K C/\eW Γ.K C f/\fs.lookup f=some v/\Q v H1):ae Γ (.fld o f) σ H Q:=h
theorem ju{m:iu}(h:ae Γ o σ H fun x H1=>qQ Γ.K (tF m) x H1/\ae Γ a σ H1 fun y H2=>v5 Γ.K m x [y] H2 Q):ae Γ (.bI m o [a]) σ H Q:=h
theorem gh{K:Frag}{x:Str}(q:Q (.bl<|x==y) H):c9 K .Eq (.str x) (.str y) H Q:=by
 show Q (.bl<|false ^^ decide (V.str x=V.str y)) H;rw[zaI,ij];exact q
theorem lh{K:Frag}{x:Str}(q:Q (.bl<|x !=y) H):c9 K .NotEq (.str x) (.str y) H Q:=by
 show Q (.bl<|true ^^ decide (V.str x=V.str y)) H;rw[zaN,ij];exact q
end
end L2
namespace L2.B
open PySem PySem.Spec PyProof.Rows
theorem bD.ob{w:Addr}{rs:List Pt}(h:bD C H w L rs):∃(dx:Addr) (i o:Int),H w=some (.ins C dx<|wf L i o):=by
 obtain⟨dx,xs,ps,i,o,h1,_⟩:=h;exact⟨dx,i,o,h1⟩
theorem BS{i o:Int}:(wf L i o).lookup ("word":Str)=none/\(wf L i o).lookup ("left":Str)=none/\(wf L i o).lookup ("take":Str)=none:=
 ⟨xG (by decide+kernel) (by decide+kernel) (by decide+kernel),xG (by decide+kernel) (by decide+kernel) (by decide+kernel),xG (by decide+kernel) (by decide+kernel) (by decide+kernel)⟩
def xO:Sp:=fun vs H Q E=>∃(v:V) (p:Pt) (u:Str),vs=[v,.str u]/\gJ H v p/\((∃n,p=.keep n/\∀c t H',ay H H'->H c=none->H' c=some (.lst [.ref t])->H' t=some (.tup [.str "cut",.str u])->Q (.ref c) H')\/
 (p=.put u/\∀c H',ay H H'->H c=none->H' c=some (.lst [])->Q (.ref c) H'))
theorem Zf{K:Frag}{et:List (Str×Addr)}:bT (xO) (fun E=>aO K [] [] (et:=et) (E:=E)) Hy Hx:=by
 intro vs H Q E h;obtain⟨v,p,u,rfl,⟨a,rfl,ha⟩,⟨n,rfl,q⟩|⟨rfl,q⟩⟩:=h
 ·refine⟨_,rfl,.inr<|.inl ⟨_,_,_,_,rfl,rfl,aH.of ha,rfl,_,rfl,?_⟩⟩;refine⟨_,rfl,d4,fun t ht=>⟨eG,fun c hc=>?_⟩⟩;have s1:=sameNew (o:=.tup [V.str "cut",V.str u]) ht;have s2:=sameNew (o:=.lst [V.ref t]) hc;exact q c t _ (s1.trans s2) (s1.free hc) aw<|s2 _ _ aw
 ·refine⟨_,rfl,.inr<|.inl ⟨_,_,_,_,rfl,rfl,aH.of ha,rfl,_,rfl,?_⟩⟩;refine⟨_,rfl,.inr<|.inl ⟨_,_,_,_,rfl,rfl,aH.of ha,rfl,_,rfl,_,rfl,?_⟩⟩;rw[zaN,zqT (show(Pt.put u).val=V.str u from rfl)]
  exact⟨zqZ _,fun c hc=>q c _ (sameNew hc) hc aw⟩
theorem BU(p:Pt)(t:List Pt)(k:Nat):(dm p t k).length<=t.length+1:=by
 unfold dm;split<;>simp
theorem xQ{p:Pt}(t:List Pt){k:Nat}(hk:k<=aQ p):ar (p::t)=aZ (aL p k)++ar (dm p t k):=by
 unfold dm;rw[bX,xB p k hk]
 split
 ·rename_i e
  have:aZ (cb p k)=[]:=by
   have hz:=kY p k hk;rw[e,zbv] at hz;cases p with
   |keep n=>
    have lY:(n - (k:Int)).toNat=0:=by rw[e];exact hz
    show rK (n - (k:Int)).toNat=[];rw[lY];rfl
   |put s=>
    rw[<-e] at hz;have lY:(⟨(s.cps.toList.drop k).toArray⟩:Str).length=0:=hz;rw[jY] at lY;show(s.cps.toList.drop k).map At.P=[];rw[zaD.mp lY];rfl
   |cut s=>
    rw[<-e] at hz;have lY:(⟨(s.cps.toList.drop k).toArray⟩:Str).length=0:=hz;rw[jY] at lY;show(s.cps.toList.drop k).map At.C=[];rw[zaD.mp lY];rfl
  rw[this,zab]
 ·rw[bX,zaj]
theorem rJ(p:Pt):(aZ p).length=aQ p:=by
 cases p with
 |keep n=>show(rK n.toNat).length=_;unfold rK;rw[zbI];rfl
 |put s=>show(s.cps.toList.map At.P).length=_;rw[zad,<-len_list];rfl
 |cut s=>show(s.cps.toList.map At.C).length=_;rw[zad,<-len_list];rfl
theorem BV{p:Pt}(t:List Pt){k:Nat}(h1:1<=k)(hk:k<=aQ p):(ar<|dm p t k).length< (ar (p::t)).length:=by
 rw[xQ t hk,zqA,rJ,ui p k hk];lia
theorem rL{w:Addr}{rs:List Pt}(hm:Γ.ms j=(C,nP C))(hi:σ[i]?=some (some<|.ref w))(W:bD C H w L rs)(q:Q (.str<|nO rs) H):ae Γ (.aM j "word" (.v i) []) σ H Q:=by
 obtain⟨dx,a,b,h1⟩:=W.ob;exact uo C (nP C) hm<|af hi ⟨w,dx,_,rfl,h1,BS.1,w,L,rs,rfl,W,q⟩
theorem rM{w:Addr}{p:Pt}{t:List Pt}(hm:Γ.ms j=(C,kZ C))(hi:σ[i]?=some (some<|.ref w))(W:bD C H w L (p::t))(q:Q (.int (aQ p:Int)) H):ae Γ (.aM j "left" (.v i) []) σ H Q:=by
 obtain⟨dx,a,b,h1⟩:=W.ob;exact uo C (kZ C) hm<|af hi ⟨w,dx,_,rfl,h1,BS.2.1,w,L,p,t,rfl,W,q⟩
theorem rN{w:Addr}{p:Pt}{t:List Pt}{k:Nat}(hm:Γ.ms j=(C,mB C))(hi:σ[i]?=some (some<|.ref w))(W:bD C H w L (p::t))(h1:1<=k)(hk:k<=aQ p)
  (ha:∀Q':VK,Q' (.int (k:Int)) H->ae Γ a σ H Q') (q:∀r H',aJ w H H'->H' r=some (.tup [.str (aL p k).word,(aL p k).val])->H r=none->bD C H' w L (dm p t k)->Q (.ref r) H'):ae Γ (.aM j "take" (.v i) [a]) σ H Q:=by
 obtain⟨dx,x,b,h0⟩:=W.ob;refine js C (mB C) hm<|af hi ⟨w,dx,_,rfl,h0,BS.2.2,ha _ ?_⟩;exact⟨w,L,p,t,k,rfl,W,h1,hk,q⟩
def xR(C:Addr):Sp:=fun vs H Q E=>∃(w L:Addr) (v:V) (rs:List Pt) (part:Pt) (l:List Nat) (ys:List At),vs=[.ref w,v]/\bD C H w L rs/\gJ H v part/\aV part/\(∀s,part≠ .put s)/\rs.length<=100000/\fit l (ar rs)/\fit (out l<|ar rs) (aZ part++ys)/\
 ∀(c:Addr) (H':Hp) (bo:List V) (res dY:List Pt) (l':List Nat) (zs:List At),aJ w H H'->H c=none->H' c=some (.lst bo)->aP H' bo res->(∀p∈res,aV p)->bD C H' w L dY->ar rs=zs++ar dY->bQ zs (aZ part) (ar res)->
  fit l' (ar dY)->fit (out l'<|ar dY) ys->res.length+dY.length<=rs.length+1->Q (.ref c) H'
theorem aJ.rO{w:Addr}{fs:List (Str×V)}(b:aJ w H H')(h:H w=some (.ins C dx fs)):cz H H':=fun c xs e=>b c _ e (bR e h (by intro z;cases z))
theorem Zg{k m:Nat}:aL (cb (.cut s) k) m=.cut ⟨((s.cps.toList.drop k).take m).toArray⟩:=rfl
theorem Zh{K:Frag}:bT (xR C) (fun E=>aO K [("part_size",nA),("cut_behind",xO)] [] [] [("word",C,nP C),("take",C,mB C),("left",C,kZ C)] (E:=E)) HB Hz:=by
 intro vs H Q E h;obtain⟨w,L,v,rs,part,l,ys,rfl,W,⟨pa,rfl,mE⟩,aD,uq,BW,Zi,Zj,q⟩:=h;obtain⟨Zk,afz⟩:=jq aD;refine bC<|dw<|aK ⟨zqZ _,fun c hc=>?_⟩;refine bC<|aA ?_;have b0:aJ w H (upd H c<|.lst []):=fun b o e _=>by rw[aF<|bf e hc];exact e
 obtain⟨dx0,i0,o0,Ll⟩:=W.ob;have lp:c≠w:=fun z=>by rw[z,Ll] at hc;cases hc
 have j0:c≠L:=by
  obtain⟨_,_,_,_,_,_,hL,_⟩:=W;exact(bf hL hc).symm
 refine p7 (fun m σ H'=>∃(k:Nat) (u4 u5:Option V) (bo:List V) (res dY:List Pt) (l':List Nat) (zs:List At),m=(ar dY).length/\σ=[some (.ref w),some (.ref pa),some (.ref c),some (.int (k:Int)),u4,u5]/\aJ w H H'/\H' c=some (.lst bo)/\aP H' bo res/\
   (∀p∈res,aV p)/\bD C H' w L dY/\ar rs=zs++ar dY/\bQ zs (aZ (aL part k)) (ar res)/\k<=aQ part/\fit l' (ar dY)/\fit (out l' (ar dY)) (aZ (cb part k)++ys)/\res.length+dY.length<=rs.length+(if k=aQ part then 1 else 0))
  ⟨_,0,none,none,[],[],rs,l,[],rfl,rfl,b0,aw,.nil,(fun p hp=>by cases hp),W.same<|sameNew hc,rfl,?_,zqZ _,Zi,by rw[drop_zero];exact Zj,by simp⟩ ?_
 ·have e:aZ (aL part 0)=[]:=zaD.mp (by rw[rJ,ui part 0<|zqZ _])
  rw[e];exact .nil
 rintro m σ H1 ⟨k,u4,u5,bo,res,dY,l',zs,rfl,rfl,b1,xS,h_,iG,W1,ez,gL,hk,mF,lq,hlen⟩;have BX:H1 pa=some (.tup [.str part.word,part.val]):=b1 _ _ mE (bR mE Ll (by intro z;cases z))
 have hxl:=Paired.length h_;have sz:∀{σ:St}{Q1:VK},σ[1]?=some (some<|.ref pa)->Q1 (.int (aQ part:Int)) H1->ae (aO K [("part_size",nA),("cut_behind",xO)] [] [] [("word",C,nP C),("take",C,mB C),("left",C,kZ C)] (E:=E)) (.call 0 [.v 1]) σ H1 Q1:=by
  intro σ Q1 h1 hq;refine cC nA rfl<|ax<|af h1<|aK ⟨_,part,rfl,⟨pa,rfl,BX⟩,t4 aD,?_⟩;rw[Zk];exact hq
 refine ba<|af rfl<|sz rfl ⟨trivial,_,rfl,?_⟩;by_cases Lm:k<aQ part
 ·refine iT ⟨_,fun σ' H' z=>z,?_⟩ (zqT (by lia))
  have hod:=BP aD Lm;have qT:(if k=aQ part then 1 else 0)=0:=if_neg (by lia)
  rw[qT] at hlen;cases dY with
  |nil=>
   exfalso
   have e1:out l' (ar [])=[]:=rfl;rw[e1] at lq;have:=k_ _ _ lq;rw[uk] at this;have hov:c8 (aZ<|cb part k)=aQ part - k:=by
    rw[<-kY part k hk];cases part with
    |keep n=>exact um _
    |put s=>exact absurd rfl (uq s)
    |cut s=>show c8 ((s.cps.toList.drop k).map At.C)=_;rw[mD];show _=(⟨(s.cps.toList.drop k).toArray⟩:Str).length;rw[jY]
   simp only[zaU] at this
   lia
  |cons p t=>
   have hp:=W1.ok p (.head _);obtain⟨Ln,ur⟩:=jq hp;refine bK<|ba<|rL (C:=C) rfl rfl W1<|aA<|gh ⟨_,rfl,?_⟩;show if ((p.word:Str)=="cut")=true then _ else _
   have app:∀(H2:Hp) (g8:List V) (a:Addr) (pt:Pt),aJ w H H2->H2 c=some (.lst g8)->aP H2 g8 res->H2 a=some (.tup [.str pt.word,pt.val])->
     aJ w H (upd H2 c<|.lst<|g8++[V.ref a])/\aP (upd H2 c<|.lst<|g8++[V.ref a]) (g8++[V.ref a]) (res++[pt]):=by
    intro H2 g8 a pt bb cj mj gg;have tt:cz H2 (upd H2 c<|.lst<|g8++[V.ref a]):=aJ.upd.bS cj;exact⟨fun b o e n=>by rw[aF<|bf e hc];exact bb b o e n,aP.snoc (mj.mono tt) ⟨a,rfl,tt _ _ gg⟩⟩
   have xT:∀(H2:Hp) (g8 Lo:List V) (BY:List Pt),H2 c=some (.lst g8)->bD C H2 w L BY->bD C (upd H2 c<|.lst Lo) w L BY:=fun H2 g8 Lo BY cj W2=>W2.but aJ.upd cj j0;by_cases mG:p.word="cut"
   ·
    rw[mG];obtain⟨s,rfl⟩:∃s,p=.cut s:=by
     cases p with
     |keep n=>exact absurd (show(Str.ofString "keep")="cut" from mG) (by decide)
     |put s=>exact absurd (show(Str.ofString "put")="cut" from mG) (by decide)
     |cut s=>exact⟨s,rfl⟩
    have ta:aL (.cut s) (aQ<|.cut s)=.cut s:=take_all _ trivial;have re:dm (.cut s) t (aQ<|.cut s)=t:=if_pos rfl;refine dX<|ju<|af rfl ⟨.inl ⟨rfl,_,au.of xS⟩,rN (C:=C) (k:=aQ (.cut s)) rfl rfl W1 ur (zqR _) (fun Q' hq=>rM (C:=C) rfl rfl W1 hq) fun a H2 b2 ha qH W2=>?_⟩;rw[ta] at ha;rw[re] at W2;have cj:H2 c=some (.lst bo):=b2 _ _ xS lp;obtain⟨Lp,i1,o1,xU⟩:=W1.ob;have mj:aP H2 bo res:=h_.mono (b2.rO xU);obtain⟨bb,pp⟩:=app H2 bo a (.cut s) (b1.trans b2) cj mj ha;refine⟨bo,cj,dN (by lia),?_⟩
    rw[bX] at mF lq ez;obtain⟨la,lb,rfl,f1,f2,f3⟩:=nQ _ _ mF;have f0:out la (aZ<|.cut s)=[]:=by
     obtain⟨b,rfl⟩:=uf s.cps.toList la [] (by rw[zab];exact f1)
     have:=k_ _ _ f1;have e1:c8 (aZ<|.cut s)=s.cps.toList.length:=mD _;rw[e1,zqA] at this;have:b=[]:=zaD.mp (by lia)
     subst this;have:=xp s.cps.toList [] []
     simp only[zab] at this
     rw[zab];exact this
    rw[f3,f0,zbK] at lq;refine⟨_,?_,k,u4,u5,bo++[V.ref a],res++[.cut s],t,lb,zs++aZ (.cut s),rfl,rfl,bb,aw,pp,?_,xT H2 _ _ _ cj W2,by rw[ez,zaj],?_,hk,f2,lq,?_⟩
    ·rw[bX,zqA,rJ];lia
    ·intro x hx;rcases zai.mp hx with z|z
     ·exact iG x z
     ·rw[zac.mp z];exact hp
    ·have:=gL.app (BR s.cps.toList);rw[zab] at this;rw[fF,fe];exact this
    ·rw[qT];simp only[zqA,zak,zaU] at hlen⊢;lia
   ·have jf:((p.word:Str)=="cut")=false:=beq_eq_false_iff_ne.mpr mG;rw[jf];obtain⟨n,hn⟩:∃n,n=min (aQ p) (aQ part - k):=⟨_,rfl⟩;have fm:1<=n:=by lia
    have i9:n<=aQ p:=by lia
    have hn3:n<=aQ part - k:=by lia
    have emin:(if ((aQ part:Int) - (k:Int)) < (aQ p:Int) then ((aQ part:Int) - (k:Int)) else (aQ p:Int))=(n:Int):=by
     split<;>lia
    refine bC<|xx<|ax<|rM (C:=C) rfl rfl W1<|ax<|bU<|sz rfl<|af rfl ⟨trivial,aK ?_⟩;show aE _ _ _ ([some<|.ref w,some<|.ref pa,some<|.ref c,some<|.int (k:Int),u4,u5].set 4 (some<|V.int (if ((aQ part:Int) - (k:Int)) < (aQ p:Int) then ((aQ part:Int) - (k:Int)) else (aQ p:Int)))) H1
    rw[emin];refine bC<|rN (C:=C) (k:=n) rfl rfl W1 fm i9 (fun Q' hq=>af rfl hq) fun a H2 b2 ha qH W2=>?_;have cj:H2 c=some (.lst bo):=b2 _ _ xS lp;obtain⟨Lp,i1,o1,xU⟩:=W1.ob;have mj:aP H2 bo res:=h_.mono (b2.rO xU);have Lq:H2 pa=some (.tup [.str part.word,part.val]):=b2 _ _ BX (bR BX xU (by intro z;cases z))
    have BZ:=b1.trans b2;have Zl:=xE hp fm i9;have eA:=xQ t i9;have eB:aZ (cb part k)=aZ (aL (cb part k) n)++aZ (cb part<|k+n):=by
     rw[xB (cb part k) n (by rw[kY part k hk];lia),drop_drop]
    have eC:aZ (aL part<|k+n)=aZ (aL part k)++aZ (aL (cb part k) n):=by
     have h1:=xB part (k+n) (by lia)
     have h2:=xB part k hk;rw[eB] at h2;rw[h2,<-zaj] at h1;exact(List.append_inj_left' h1 rfl).symm
    rw[eA] at mF lq ez;obtain⟨la,lb,rfl,f1,f2,f3⟩:=nQ _ _ mF;rw[f3,eB,zaj] at lq;have Zm:(out la<|aZ<|aL p n).length=n:=by
     rw[xI _ _ f1];cases p with
     |keep m=>exact Zc n
     |put s=>show gw ((s.cps.toList.take n).map At.P)=n;rw[Zd,zaF];have hh:n<=s.length:=i9;rw[len_list] at hh;lia
     |cut s=>exact absurd rfl mG
    have B0:c8 (aZ<|aL (cb part k) n)=n:=by
     have e:aQ (aL (cb part k) n)=n:=ui _ _ (by rw[kY part k hk];lia)
     cases part with
     |keep m=>exact um n
     |put s=>exact absurd rfl (uq s)
     |cut s=>
      have e':(⟨((s.cps.toList.drop k).take n).toArray⟩:Str).length=n:=e;rw[jY] at e';show c8 (((s.cps.toList.drop k).take n).map At.C)=n;rw[mD];exact e'
    obtain⟨g1,g2⟩:=Lc lq (by rw[Zm,B0])
    have fin:∀(H3:Hp) (jk:List V) (rP:List Pt),aJ w H H3->H3 c=some (.lst jk)->aP H3 jk rP->(∀x∈rP,aV x)->bD C H3 w L (dm p t n)->bQ (zs++aZ (aL p n)) (aZ<|aL part<|k+n) (ar rP)->rP.length<=res.length+1->
      ∃m',m'< (ar (p::t)).length/\∃(k':Nat) (Zn rQ:Option V) (bo:List V) (res dY:List Pt) (l':List Nat) (zs:List At),m'=(ar dY).length/\[some<|V.ref w,some<|.ref pa,some<|.ref c,some<|.int<|(k:Int)+(n:Int),some<|.int (n:Int),some<|.ref a]=[some<|.ref w,some<|.ref pa,some<|.ref c,some<|.int (k':Int),Zn,rQ]/\aJ w H H3/\H3 c=some (.lst bo)/\aP H3 bo res/\
      (∀p∈res,aV p)/\bD C H3 w L dY/\ar rs=zs++ar dY/\bQ zs (aZ<|aL part k') (ar res)/\k'<=aQ part/\fit l' (ar dY)/\fit (out l'<|ar dY) (aZ (cb part k')++ys)/\res.length+dY.length<=rs.length+(if k'=aQ part then 1 else 0):=by
     intro H3 jk rP b3 jT Zo Zp W3 Zq hl3;refine⟨_,BV t fm i9,k+n,some<|.int (n:Int),some<|.ref a,jk,rP,dm p t n,lb,zs++aZ (aL p n),rfl,by rw[zbx],b3,jT,Zo,Zp,W3,by rw[ez,zaj],Zq,by lia,f2,g2,?_⟩
     have r1:=BU p t n
     simp only[zak] at hlen
     by_cases hz:n=aQ p
     ·have r2:dm p t n=t:=if_pos hz;rw[r2];split<;>lia
     ·rw[if_pos (show k+n=aQ part by lia)];lia
    refine bK<|ba<|bw<|af rfl<|aA<|.inr<|.inl ⟨_,_,_,_,rfl,rfl,aH.of Lq,rfl,aA<|gh ⟨_,rfl,?_⟩⟩;cases part with
    |put s=>exact absurd rfl (uq s)
    |keep m=>
     refine fk ?_;refine dX<|ju<|af rfl ⟨.inl ⟨rfl,_,au.of cj⟩,af rfl ⟨bo,cj,dN (by lia),?_⟩⟩
     obtain⟨bb,pp⟩:=app H2 bo a (aL p n) BZ cj mj ha;refine bC<|bU<|af rfl<|af rfl ?_;refine fin _ _ (res++[aL p n]) bb aw pp ?_ (xT H2 _ _ _ cj W2) ?_ (by simp)
     ·intro x hx;rcases zai.mp hx with z|z
      ·exact iG x z
      ·rw[zac.mp z];exact Zl
     ·rw[eC,fF,fe];refine gL.app ?_;show bQ (aZ<|aL p n) (rK ((n:Nat):Int).toNat) (aZ<|aL p n);rw[zaB];cases p with
      |keep m'=>show bQ (rK ((n:Nat):Int).toNat) (rK n) (rK ((n:Nat):Int).toNat);rw[zaB];exact K9 n
      |put s=>
       have:=La (s.cps.toList.take n);rw[zaF] at this;have hh:n<=s.length:=i9;rw[len_list] at hh;rw[show min n s.cps.toList.length=n by lia] at this
       exact this
      |cut s=>exact absurd rfl mG
    |cut s=>
     refine gU ?_;have oK:H2 pa=some (.tup [.str "cut",.str s]):=Lq;refine dX<|ju<|af rfl ⟨.inl ⟨rfl,_,au.of cj⟩,cC xO rfl<|ax<|af rfl<|ax ?_⟩;refine⟨_,rfl,.inr<|.inl ⟨_,_,_,_,rfl,rfl,aH.of oK,rfl,_,rfl,_,rfl,_,rfl,_,rfl,_,rfl,cU aD.1.1,?_⟩⟩;rw[BO k (n:Int) n rfl];generalize hu:((s.cps.toList.drop k).take n)=u at*;have p9:aZ (aL (cb (.cut s) k) n)=u.map At.C:=by rw[<-hu];rfl
     have Zr:u.length=n:=by rw[p9,mD] at B0;exact B0
     rw[p9] at g1;refine⟨_,aL p n,⟨u.toArray⟩,rfl,⟨a,rfl,ha⟩,?_⟩;cases p with
     |cut s'=>exact absurd rfl mG
     |keep m=>
      refine .inl ⟨_,rfl,fun d tt H3 s3 hd B1 Zs=>?_⟩;have jT:=s3 _ _ cj;refine⟨bo,[V.ref tt],jT,B1,cU (by simp;lia),?_⟩
      obtain⟨bb,pp⟩:=app H3 bo tt (.cut ⟨u.toArray⟩) (fun b o e nn=>s3 b o<|BZ b o e nn) jT (mj.mono<|du s3) Zs;refine bC<|bU<|af rfl<|af rfl ?_;refine fin _ _ (res++[.cut ⟨u.toArray⟩]) bb aw pp ?_ (xT H3 _ _ _ jT<|W2.same s3) ?_ (by simp)
      ·intro x hx;rcases zai.mp hx with z|z
       ·exact iG x z
       ·rw[zac.mp z];have:=xE (BP aD Lm) fm (show n<=aQ (cb (.cut s) k) by rw[kY _ k hk];lia)
        rw[Zg,hu] at this;exact this
      ·rw[eC,fF,fe,p9];refine gL.app ?_;show bQ (rK ((n:Nat):Int).toNat) (u.map At.C) (u.map At.C);rw[zaB,<-Zr];exact K_ u
     |put s'=>
      have eu:(s'.cps.toList.take n)=u:=by
       have Zt:fit la ((s'.cps.toList.take n).map At.P++[]):=by rw[zab];exact f1
       have uu:la=[]:=(pV _ _ _).mp Zt;subst uu;have o1:out [] (aZ<|aL (.put s') n)=s'.cps.toList.take n:=by
        have:=xl (s'.cps.toList.take n) [] [];rw[zab] at this;exact this.trans<|zab _
       rw[o1] at g1;obtain⟨b,e⟩:=uf u _ [] (by rw[zab];exact g1)
       have cT:=k_ _ _ g1;rw[mD] at cT;rw[e,zqA] at cT;have:b=[]:=zaD.mp (by lia)
       rw[this,zab] at e;exact e
      refine .inr ⟨by show Pt.put ⟨(s'.cps.toList.take n).toArray⟩=_;rw[eu],fun d H3 s3 hd B1=>?_⟩
      have jT:=s3 _ _ cj;refine⟨bo,[],jT,B1,cU (by simp;lia),?_⟩
      rw[zab];have tt:cz H3 (upd H3 c<|.lst bo):=aJ.upd.bS jT;refine bC<|bU<|af rfl<|af rfl ?_;refine fin _ _ res (fun b o e nn=>by rw[aF<|bf e hc];exact s3 b o (BZ b o e nn)) aw ((mj.mono<|du s3).mono tt) iG (xT H3 _ _ _ jT<|W2.same s3) ?_ (by lia)
      rw[eC,p9];have:=gL.app (Lb u);rw[zab] at this;show bQ (zs++(s'.cps.toList.take n).map At.P) _ _;rw[eu];exact this
 ·refine iF ?_ (zqF (by lia))
  have Zu:k=aQ part:=by lia
  subst Zu;rw[take_all part<|mx aD] at gL;have e0:aZ (cb part<|aQ part)=[]:=zaD.mp (by rw[rJ,kY part _<|zqR _,zbv])
  rw[e0,zbK] at lq;rw[if_pos rfl] at hlen;exact cP<|af rfl<|q c H1 bo res dY l' zs b1 hc xS h_ iG W1 ez gL mF lq hlen
theorem Zv(ps:List Pt):pL ps=overOf (cB ps):=by
 unfold pL overOf cB;rw[List.filter_map,zaX]
 congr 1
 ·funext p;cases p<;>rfl
 ·congr 1
  funext p
  cases p with
  |keep n=>show(decide<|(Str.ofString "keep")≠"cut")=decide ((Str.ofString "keep")≠"put");decide
  |put n=>show(decide<|(Str.ofString "put")≠"cut")=decide ((Str.ofString "cut")≠"put");decide
  |cut n=>show(decide<|(Str.ofString "cut")≠"cut")=decide ((Str.ofString "put")≠"put");decide
theorem Run.gives{l r:List Nat}(h:Run l ps r):(pL ps).sum=r.length:=by
 rw[Zv];exact h.nI.over
theorem Zw(p:Pt):cnt (aZ p)=fB p:=by
 cases p with
 |keep n=>
  show cnt (rK n.toNat)=0;have:∀m,cnt (rK m)=0:=fun m=>by
   induction m with
   |zero=>rfl
   |succ m ih=>exact ih
  exact this _
 |put s=>
  show cnt (s.cps.toList.map At.P)=s.length;rw[len_list]
  induction s.cps.toList with
  |nil=>rfl
  |cons c t ih=>show cnt (t.map At.P)+1=_;rw[ih];rfl
 |cut s=>
  show cnt (s.cps.toList.map At.C)=s.length;rw[len_list]
  induction s.cps.toList with
  |nil=>rfl
  |cons c t ih=>show cnt (t.map At.C)+1=_;rw[ih];rfl
theorem uv(ps:List Pt):cnt (ar ps)=az ps:=by
 induction ps with
 |nil=>rfl
 |cons p ps ih=>
  rw[bX,xJ,Zw,ih]
  simp[az]
theorem Lr{p:Pt}(h:ps[i]?=some p):ar (ps.take<|i+1)=ar (ps.take i)++aZ p:=by
 rw[zbu,h,fF]
 simp[ar]
theorem drop_cons{p:Pt}(h:ps[i]?=some p):ps.drop i=p::ps.drop (i+1):=by
 have hi:i<ps.length:=(zah.mp h).1;rw[zbp hi]
 congr 1
 exact zal<|(zav hi).symm.trans h
structure uw (one other ps:List Pt) (l r:List Nat):Prop where
 ok:∀p∈ps,aV p
 ch:chainOk "" ps=true
 run:Run l ps r
 res:res 0 (ar ps)=sub (res 0<|ar one) 0 (res 0<|ar other)
 len:ps.length<=3* (one.length+other.length)+2
 az:az ps<=az one+az other
 aG:∃zs,bQ (ar one) (ar other) zs/\nb (ar ps)=nb zs
def xV:Sp:=fun vs H Q E=>∃(a b:Addr) (xs ys:List V) (one other:List Pt) (l m r:List Nat),vs=[.ref a,.ref b]/\H a=some (.lst xs)/\H b=some (.lst ys)/\aP H xs one/\aP H ys other/\(∀p∈one,aV p)/\(∀p∈other,aV p)/\chainOk "" one=true/\chainOk "" other=true/\
 one.length+other.length<=30000/\az one+az other<=100000/\Run l one m/\Run m other r/\
 ∀(c:Addr) (H':Hp) (zs:List V) (ps:List Pt),ay H H'->H c=none->H' c=some (.lst zs)->aP H' zs ps->uw one other ps l r->Q (.ref c) H'
theorem Zx{one res:List Pt}{l m r:List Nat}(h1:Run l one m)(h2:Run m other r)(ho:∀p∈res,aV p)(hl:res.length<=one.length+other.length)(ht:B.az one+B.az other<=100000)(h:bQ (ar one) (ar other) (ar res)):uw one other (g_ res) l r/\B.az res<=100000:=by
 have B2:B.az res<=B.az one+B.az other:=by
  have:=h.cnt;rw[uv,uv,uv] at this;exact this
 have j5:=xb ho (by lia:B.az res<=100000)
 have heq:=uc res j5;obtain⟨g1,g2,_⟩:=w9 res j5 (by lia)
 obtain⟨f1,f2⟩:=h1.fits;obtain⟨f3,f4⟩:=h2.fits;rw[<-f2] at f3 f4;obtain⟨e1,e2,e3⟩:=YC h l 0 0 f1 f3;have nR:=pX res fun p hp=>mx (ho p hp);have ia:Run l res r:=by
  have:=rE res l (fun p hp=>mx<|ho p hp) e1;rw[e2,f4] at this;exact this
 have hnl:=w_ res;refine⟨⟨by rw[heq];exact g2,by rw[heq];exact g1,by rw[heq];exact BH ia,by rw[YF nR,e3],by lia,by rw[heq,xg res j5];exact B2,_,h,nR⟩,by lia⟩
theorem Zy{K:Frag}{et:List (Str×Addr)}(T:ni K C):bT (xV) (fun E=>aO K [("sizes",iD),("parts_behind",xR C),("neat",jU)] [] [] [("word",C,nP C),("take",C,mB C),("left",C,kZ C)] [("Walk",C,jZ C)] (et:=et) (E:=E)) HE HD:=by
 intro vs H Q E h;obtain⟨a,b,xs,ys,one,other,l,m,r,rfl,ha,hb,je,p_,jL,ik,eE,cj,hlen,B3,qd,jr,q⟩:=h;have lx:=Paired.length je;have ly:=Paired.length p_;obtain⟨f1,f2⟩:=qd.fits;obtain⟨f3,f4⟩:=jr.fits;rw[<-f2] at f3;refine bK<|ba<|bw<|cC iD rfl<|ax<|af rfl<|aK ⟨a,xs,one,rfl,ha,je,jL,eE,by lia,fun t1 H1 s1 fG=>?_⟩
 refine aA<|.inr<|.inl ⟨_,_,_,_,rfl,rfl,aH.of fG,rfl,?_⟩;refine bw<|cC iD rfl<|ax<|af rfl<|aK ⟨b,ys,other,rfl,s1 _ _ hb,p_.mono<|du s1,ik,cj,by lia,fun t2 H2 s2 qe=>?_⟩
 refine aA<|.inr<|.inl ⟨_,_,_,_,rfl,rfl,aH.of qe,rfl,?_⟩;show ∃k,V.bl (true ^^ decide (V.int (pL one).sum=V.int (overOf other).sum))=V.bl k/\_;refine⟨_,rfl,?_⟩;rw[qd.gives,jr.over,zqT rfl];have i4:=s1.trans s2;refine bC<|xM C (jZ C) rfl<|af rfl fun w dx hw B4 jf=>?_;have s3:ay H2 (upd (upd H2 dx<|.own w) w<|.ins C dx []):=fun b o e=>by rw[aF<|bf e hw,aF<|bf e B4];exact e
 have qf:=i4.trans s3;refine⟨w,dx,a,xs,one,rfl,aw,qf _ _ ha,je.mono<|du qf,jL,by lia,fun L H3 hL Zz b3 W=>⟨rfl,?_⟩⟩
 have qg:ay H H3:=fun b o e=>b3 b o (qf b o e) (bf (i4 b o e) hw);have fw:H w=none:=i4.free hw;refine bC<|dw<|aK ⟨zqZ _,fun c hc=>?_⟩;have fc:H c=none:=qg.free hc;have j0:c≠L:=by
  obtain⟨_,_,_,_,_,_,ZA,_⟩:=W;exact(bf ZA hc).symm
 have lp:c≠w:=by
  obtain⟨_,_,_,hW⟩:=W.ob;exact(bf hW hc).symm
 have Ls:∀{H4 H5:Hp},ay H H4->aJ w H4 H5->ay H H5:=fun s b d o e=>b d o (s d o e) (bf e fw);have B5:∀{H4:Hp}{o:HO},ay H H4->ay H (upd H4 c o):=fun s d o e=>by rw[aF<|bf e fc];exact s d o e
 refine⟨_,rfl,b,rfl,⟨_,au.of ((sameNew (o:=.lst []) hc) _ _ (qg _ _ hb))⟩,mU (K:=K) (a:=b) (xs:=ys) (fun i σ H4=>∃(u:Option V) (c7:List V) (res rs:List Pt) (l':List Nat) (zs:List At),σ=[some (.ref a),some (.ref b),some (.ref w),some (.ref c),u]/\ay H H4/\H4 c=some (.lst c7)/\
   aP H4 c7 res/\(∀p∈res,aV p)/\bD C H4 w L rs/\ar one=zs++ar rs/\bQ zs (ar (other.take i)) (ar res)/\fit l' (ar rs)/\fit (out l' (ar rs)) (ar (other.drop i))/\res.length+rs.length<=one.length+i)
  ⟨none,[],[],one,l,[],rfl,qg.trans<|sameNew hc,aw,.nil,(fun p hp=>by cases hp),W.same<|sameNew hc,rfl,.nil,f1,f3,by simp⟩
  (fun i σ H4 _ ⟨_,_,_,_,_,_,_,s4,_⟩=>au.of (s4 _ _ hb)) ?_ ?_⟩
 ·rintro i y σ H4 hi ⟨u,c7,res,rs,l',zs,rfl,s4,jm,h_,iG,W4,ez,gL,fa,fb,ux⟩;obtain⟨p,hp,jR⟩:=p_.get hi;obtain⟨pa,rfl,mE⟩:=jR.mono (du s4);have fS:i<other.length:=(zah.mp hp).1;have gM:=ik p (zan hp);have Lu:=Paired.length h_;rw[drop_cons hp,bX] at fb;refine bK<|ba<|bw<|af rfl<|aA<|.inr<|.inl ⟨_,_,_,_,rfl,rfl,aH.of mE,rfl,aA<|gh ⟨_,rfl,?_⟩⟩;have rest:(∀s,p≠ .put s)->aE (aO K [("sizes",iD),("parts_behind",xR C),("neat",jU)] [] [] [("word",C,nP C),("take",C,mB C),("left",C,kZ C)] [("Walk",C,jZ C)] (et:=et) (E:=E)) [.drop<|.bI .extend (.v 3) [(.call 1 [.v 2,.v 4])]]
    {nx:=fun σ H4=>∃(u:Option V) (c7:List V) (res rs:List Pt) (l':List Nat) (zs:List At),σ=[some (.ref a),some (.ref b),some (.ref w),some (.ref c),u]/\ay H H4/\H4 c=some (.lst c7)/\
   aP H4 c7 res/\(∀p∈res,aV p)/\bD C H4 w L rs/\ar one=zs++ar rs/\bQ zs (ar (other.take (i+1))) (ar res)/\fit l' (ar rs)/\fit (out l' (ar rs)) (ar (other.drop (i+1)))/\res.length+rs.length<=one.length+(i+1),rt:=Q} [some (.ref a),some (.ref b),some (.ref w),some (.ref c),some (.ref pa)] H4:=by
   intro uq;refine dX<|ju<|af rfl ⟨.inl ⟨rfl,_,au.of jm⟩,cC (xR C) rfl<|ax<|af rfl<|ax<|af rfl<|aK ?_⟩;refine⟨w,L,_,rs,p,l',_,rfl,W4,⟨pa,rfl,mE⟩,gM,uq,by lia,fa,fb,fun d H5 B6 ZC ZD l5 ZE b5 hd ZF Lv ZH W5 ZI ZJ ZK ZM xW=>?_⟩
   have mr:H5 c=some (.lst c7):=b5 _ _ jm lp;obtain⟨_,_,_,ZN⟩:=W4.ob;have afH:=Paired.length Lv;refine⟨c7,B6,mr,ZF,cU (by lia),?_⟩
   have tt:cz H5 (upd H5 c<|.lst<|c7++B6):=aJ.upd.bS mr;refine⟨some<|.ref pa,c7++B6,res++ZC,ZD,l5,zs++ZE,rfl,B5<|Ls s4 b5,aw,Paired.app ((h_.mono<|b5.rO ZN).mono tt)<|Lv.mono tt,?_,W5.but aJ.upd mr j0,by rw[ez,ZI,zaj],?_,ZK,ZM,?_⟩
   ·intro x hx;rcases zai.mp hx with z|z
    ·exact iG x z
    ·exact ZH x z
   ·rw[Lr hp,fF];exact gL.app ZJ
   ·simp only[zqA];lia
  cases p with
  |put s=>
   refine fk ?_;refine dX<|ju<|af rfl ⟨.inl ⟨rfl,_,au.of jm⟩,af rfl ⟨c7,jm,dN (by lia),?_⟩⟩
   have tt:cz H4 (upd H4 c<|.lst<|c7++[V.ref pa]):=aJ.upd.bS jm;refine⟨some<|.ref pa,c7++[V.ref pa],res++[.put s],rs,l',zs,rfl,B5 s4,aw,aP.snoc (h_.mono tt) ⟨pa,rfl,tt _ _ mE⟩,?_,W4.but aJ.upd jm j0,ez,?_,fa,(pV _ _ _).mp fb,by simp;lia⟩
   ·intro x hx;rcases zai.mp hx with z|z
    ·exact iG x z
    ·rw[zac.mp z];exact gM
   ·rw[Lr hp,fF,fe];have:=gL.app (K8 s.cps.toList);rw[zab] at this;exact this
  |keep n=>exact gU (rest fun s z=>by cases z)
  |cut s=>exact gU (rest fun s z=>by cases z)
 ·rintro σ H4 ⟨u,c7,res,rs,l',zs,rfl,s4,jm,h_,iG,W4,ez,gL,fa,fb,ux⟩;rw[ly,zbt] at gL;rw[ly,zbQ] at fb;have oe:out l' (ar rs)=[]:=fb;refine p7 (fun mm σ H5=>∃(c7:List V) (res rs:List Pt) (l':List Nat) (zs:List At),mm=rs.length/\σ=[some (.ref a),some (.ref b),some (.ref w),some (.ref c),u]/\ay H H5/\H5 c=some (.lst c7)/\
   aP H5 c7 res/\(∀p∈res,aV p)/\bD C H5 w L rs/\ar one=zs++ar rs/\bQ zs (ar other) (ar res)/\fit l' (ar rs)/\out l' (ar rs)=[]/\res.length+rs.length<=one.length+other.length)
   ⟨_,c7,res,rs,l',zs,rfl,rfl,s4,jm,h_,iG,W4,ez,gL,fa,oe,by lia⟩ ?_
  clear gL fa oe fb ez W4 h_ iG jm s4 ux res rs l' zs c7 H4;rintro mm σ H5 ⟨c7,res,rs,l',zs,rfl,rfl,s5,mr,h_,iG,W5,ez,gL,fa,oe,xW⟩;have Lu:=Paired.length h_;refine ba<|rL (C:=C) rfl rfl W5<|aA<|lh ⟨_,rfl,?_⟩;cases rs with
  |nil=>
   refine iF ?_ rfl;rw[show ar []=[] from rfl,zab] at ez
   subst ez;obtain⟨J,B2⟩:=Zx qd jr iG (by simp at xW;lia) B3 gL
   refine cP<|cC jU rfl<|ax<|af rfl<|aK ⟨c,c7,res,rfl,mr,h_,by simp at xW;lia,B2,fun d H6 ws s6 hd h6 j6=>?_⟩
   exact q d H6 ws _ (s5.trans s6) (s5.free hd) h6 j6 J
  |cons p t=>
   have gM:=W5.ok p (.head _);obtain⟨Ln,ur⟩:=jq gM;have mG:∃s,p=.cut s:=by
    have qR:=Ld _ _ fa oe;cases p with
    |cut s=>exact⟨s,rfl⟩
    |keep n=>
     exfalso
     have fm:(1:Int)<=n:=gM;obtain⟨c',e⟩:=qR .K (by rw[bX];refine zaw _ ?_;show At.K∈rK n.toNat;unfold rK;rw[List.mem_replicate];exact⟨by lia,rfl⟩)
     cases e
    |put s=>
     exfalso
     obtain⟨c0,r0,e0⟩:=iE gM.2;obtain⟨c',e⟩:=qR (.P c0) (by rw[bX];refine zaw _ ?_;show At.P c0∈s.cps.toList.map At.P;rw[e0];exact .head _)
     cases e
   obtain⟨s,rfl⟩:=mG;have ta:aL (.cut s) (aQ<|.cut s)=.cut s:=take_all _ trivial;have re:dm (.cut s) t (aQ<|.cut s)=t:=if_pos rfl;refine iT ⟨_,fun σ' H' z=>z,?_⟩ rfl;refine dX<|ju<|af rfl ⟨.inl ⟨rfl,_,au.of mr⟩,rN (C:=C) (k:=aQ (.cut s)) rfl rfl W5 ur (zqR _) (fun Q' hq=>rM (C:=C) rfl rfl W5 hq) fun pa H6 b6 mE qH W6=>?_⟩;rw[ta] at mE;rw[re] at W6;have hX:H6 c=some (.lst c7):=b6 _ _ mr lp;obtain⟨_,_,_,ZO⟩:=W5.ob
   simp only[zak] at xW
   refine⟨c7,hX,dN (by lia),?_⟩
   have tt:cz H6 (upd H6 c<|.lst<|c7++[V.ref pa]):=aJ.upd.bS hX;rw[bX] at fa oe ez;obtain⟨la,lb,rfl,g1,g2,g3⟩:=nQ _ _ fa;rw[g3] at oe;refine⟨t.length,by simp,c7++[V.ref pa],res++[.cut s],t,lb,zs++aZ (.cut s),rfl,rfl,B5<|Ls s5 b6,aw,aP.snoc ((h_.mono<|b6.rO ZO).mono tt) ⟨pa,rfl,tt _ _ mE⟩,?_,W6.but aJ.upd hX j0,by rw[ez,zaj],?_,g2,(List.append_eq_nil_iff.mp oe).2,by simp;lia⟩
   ·intro x hx;rcases zai.mp hx with z|z
    ·exact iG x z
    ·rw[zac.mp z];exact gM
   ·rw[fF,fe];have:=gL.app (BR s.cps.toList);rw[zab] at this;exact this
def uz(w c d:Addr)(H H':Hp):Prop:= ∀b o,H b=some o->b≠w->b≠c->b≠d->H' b=some o
theorem bD.Lw{w v d:Addr}{rs:List Pt}{ys:List V}(h:bD C H w L rs)(b:uz v c d H H')(hc:H c=some (.lst xs))(hd:H d=some (.lst ys))(nc:c≠L)(nd:d≠L)(nw:w≠v)(nv:∃C' dx fs,H v=some (.ins C' dx fs)):bD C H' w L rs:=by
 obtain⟨C',B7,gp,hv⟩:=nv;refine h.keep fun e o he z=>b e o he ?_ ?_ ?_
 all_goals obtain⟨dx,_,_,_,_,h1,h2,_⟩:=h
 ·rcases z with rfl|rfl|⟨ys,rfl⟩
  ·exact nw
  ·exact bR h2 hv (by intro z;cases z)
  ·exact bR he hv (by intro z;cases z)
 ·rcases z with rfl|rfl|⟨ys,rfl⟩
  ·exact bR h1 hc (by intro z;cases z)
  ·exact nc.symm
  ·exact bR he hc (by intro z;cases z)
 ·rcases z with rfl|rfl|⟨ys,rfl⟩
  ·exact bR h1 hd (by intro z;cases z)
  ·exact nd.symm
  ·exact bR he hd (by intro z;cases z)
def xX(C:Addr):Sp:=fun vs H Q E=>∃(w L c d:Addr) (s:Str) (t:List Pt) (xs ys:List V),vs=[.ref w,.ref c,.ref d]/\bD C H w L (.put s::t)/\H c=some (.lst xs)/\H d=some (.lst ys)/\c≠d/\c≠L/\d≠L/\xs.length<=100000/\ys.length<=100000/\
 ∀(a a2:Addr) (H':Hp),uz w c d H H'->H' c=some (.lst<|xs++[.ref a])->H' d=some (.lst<|ys++[.ref a2])->H' a=some (.tup [.str "put",.str s])->H' a2=some (.tup [.str "keep",.int (s.length:Int)])->bD C H' w L t->Q .aC H'
theorem ZP{K:Frag}:bT (xX C) (fun E=>aO K [("part_size",nA)] [] [] [("take",C,mB C),("left",C,kZ C)] (E:=E)) Hq Ho:=by
 intro vs H Q E h;obtain⟨w,L,c,d,s,t,xs,ys,rfl,W,hc,hd,jv,j0,uA,lx,ly,q⟩:=h;have gM:=W.ok _ (.head _);obtain⟨Ln,ur⟩:=jq gM;have ta:aL (.put s) (aQ<|.put s)=.put s:=take_all _ trivial;have re:dm (.put s) t (aQ<|.put s)=t:=if_pos rfl;refine bC<|rN (C:=C) (k:=aQ (.put s)) rfl rfl W ur (zqR _) (fun Q' hq=>rM (C:=C) rfl rfl W hq) fun a H1 b1 ha qH W1=>?_;rw[ta] at ha;rw[re] at W1;obtain⟨_,_,_,hw⟩:=W.ob;have lp:c≠w:=bR hc hw (by intro z;cases z)
 have xY:d≠w:=bR hd hw (by intro z;cases z)
 have eE:=b1 _ _ hc lp;have B9:=b1 _ _ hd xY;refine dX<|ju<|af rfl ⟨.inl ⟨rfl,_,au.of eE⟩,af rfl ⟨xs,eE,dN (by lia),?_⟩⟩
 have hd2:upd H1 c (.lst<|xs++[V.ref a]) d=some (.lst ys):=by rw[aF jv.symm];exact B9
 have gg:upd H1 c (.lst<|xs++[V.ref a]) a=some (.tup [.str "put",.str s]):=by rw[aF<|bR ha eE (by intro z;cases z)];exact ha
 refine dX<|ju<|af rfl ⟨.inl ⟨rfl,_,au.of hd2⟩,kW<|ax<|aA<|ax<|cC nA rfl<|ax<|af rfl<|aK ⟨_,.put s,rfl,⟨a,rfl,gg⟩,t4 gM,aK ⟨d4,fun a2 h2=>?_⟩⟩⟩;have j7:upd (upd H1 c<|.lst<|xs++[V.ref a]) a2 (.tup [.str "keep",.int<|pI<|.put s]) d=some (.lst ys):=by rw[aF<|bf hd2 h2];exact hd2
 refine⟨ys,j7,dN (by lia),?_⟩
 have Lx:c≠a2:=fun z=>by rw[<-z,aw] at h2;cases h2
 have ZQ:d≠a2:=bf hd2 h2;have f2:H1 a2=none:=by rw[aF Lx.symm] at h2;exact h2
 refine q a a2 _ ?_ ?_ aw ?_ ?_ ?_
 ·intro b o e n1 n2 n3;rw[aF n3,aF<|bf (b1 b o e n1) f2,aF n2];exact b1 b o e n1
 ·rw[aF jv,aF Lx,aw]
 ·rw[aF<|bR gg hd2 (by intro z;cases z),aF<|bf gg h2];exact gg
 ·rw[aF ZQ.symm,aw];rfl
 ·refine((W1.but aJ.upd eE j0).same<|sameNew h2).but aJ.upd j7 uA
def eO:Pt->Bool|.keep _=>true|_=>false
def B_:Sp:=fun vs H Q E=>∃(v1 v2:V) (c d:Addr) (p1 p2:Pt) (xs ys:List V),vs=[v1,v2,.ref c,.ref d]/\gJ H v1 p1/\gJ H v2 p2/\(∀s,p1≠ .put s)/\(∀s,p2≠ .put s)/\(∀s s',p1=.cut s->p2=.cut s'->s=s')/\H c=some (.lst xs)/\H d=some (.lst ys)/\c≠d/\xs.length<=100000/\ys.length<=100000/\
 ∀(H':Hp),(∀b o,H b=some o->b≠c->b≠d->H' b=some o)->H' c=some (.lst<|xs++if eO p2 then [v1] else [])->H' d=some (.lst<|ys++if eO p1 then [v2] else [])->Q .aC H'
theorem ZR{K:Frag}{et:List (Str×Addr)}:bT (B_) (fun E=>aO K [] [] (et:=et) (E:=E)) Hs Hr:=by
 intro vs H Q E h;obtain⟨v1,v2,c,d,p1,p2,xs,ys,rfl,⟨a1,rfl,h1⟩,⟨a2,rfl,h2⟩,Ca,Ly,heq,hc,hd,jv,lx,ly,q⟩:=h;have oC:∀zs,upd H c (.lst zs) d=some (.lst ys):=fun zs=>by rw[aF jv.symm];exact hd
 have bc:∀zs b o,H b=some o->b≠c->b≠d->upd H c (.lst zs) b=some o:=fun zs b o e n1 _=>by rw[aF n1];exact e
 have bd:∀zs b o,H b=some o->b≠c->b≠d->upd H d (.lst zs) b=some o:=fun zs b o e _ n2=>by rw[aF n2];exact e
 have ZS:∀zs ws b o,H b=some o->b≠c->b≠d->upd (upd H c<|.lst zs) d (.lst ws) b=some o:=fun zs ws b o e n1 n2=>by rw[aF n2,aF n1];exact e
 cases p1 with
 |put s=>exact absurd rfl (Ca s)
 |keep n=>
  refine⟨_,rfl,.inr<|.inl ⟨_,_,_,_,rfl,rfl,aH.of h1,rfl,_,rfl,?_⟩⟩;refine⟨_,rfl,.inr<|.inl ⟨_,_,_,_,rfl,rfl,aH.of h2,rfl,_,rfl,?_⟩⟩;cases p2 with
  |put s=>exact absurd rfl (Ly s)
  |keep m=>
   refine⟨_,rfl,.inl ⟨rfl,_,au.of hc⟩,_,rfl,xs,hc,dN (by lia),?_⟩
   have d_:upd H c (.lst<|xs++[V.ref a1]) a1=some (.tup [.str "keep",.int n]):=by rw[aF<|bR h1 hc (by intro z;cases z)];exact h1
   refine⟨_,rfl,.inr<|.inl ⟨_,_,_,_,rfl,rfl,aH.of d_,rfl,_,rfl,?_⟩⟩;refine⟨_,rfl,.inl ⟨rfl,_,au.of<|oC _⟩,_,rfl,ys,oC _,dN (by lia),?_⟩
   exact q _ (ZS _ _) (by rw[aF jv,aw];rfl) (by rw[aw];rfl)
  |cut s=>
   refine⟨_,rfl,.inl ⟨rfl,_,au.of hd⟩,_,rfl,ys,hd,dN (by lia),?_⟩
   exact q _ (bd _) (by rw[aF jv,hc];simp[eO]) (by rw[aw];rfl)
 |cut s=>
  refine⟨_,rfl,.inr<|.inl ⟨_,_,_,_,rfl,rfl,aH.of h1,rfl,_,rfl,?_⟩⟩;refine⟨_,rfl,.inr<|.inl ⟨_,_,_,_,rfl,rfl,aH.of h2,rfl,_,rfl,?_⟩⟩;cases p2 with
  |put s=>exact absurd rfl (Ly s)
  |keep m=>
   refine⟨_,rfl,.inr<|.inl ⟨_,_,_,_,rfl,rfl,aH.of h2,rfl,_,rfl,?_⟩⟩;refine⟨_,rfl,.inl ⟨rfl,_,au.of hc⟩,_,rfl,xs,hc,dN (by lia),?_⟩
   have d_:upd H c (.lst<|xs++[V.ref a1]) a1=some (.tup [.str "cut",.str s]):=by rw[aF<|bR h1 hc (by intro z;cases z)];exact h1
   refine⟨_,rfl,.inr<|.inl ⟨_,_,_,_,rfl,rfl,aH.of d_,rfl,_,rfl,?_⟩⟩;exact q _ (bc _) (by rw[aw];rfl) (by rw[oC];simp[eO])
  |cut s'=>
   have e:=heq s s' rfl rfl;subst e;refine⟨_,rfl,.inr<|.inl ⟨_,_,_,_,rfl,rfl,aH.of h1,rfl,_,rfl,.inr<|.inl ⟨_,_,_,_,rfl,rfl,aH.of h2,rfl,_,rfl,?_⟩⟩⟩;rw[zaN,zqT (show(Pt.cut s).val=(Pt.cut s).val from rfl)]
   exact q _ (fun b o e _ _=>e) (by rw[hc];simp[eO]) (by rw[hd];simp[eO])
end L2.B
namespace L2
open PySem PySem.Spec PyProof.Rows
theorem ZT{QT:Bool->Hp->Prop}(h:bg Γ a σ H fun c H1=>if c=true then QT true H1 else bg Γ b σ H1 QT):bg Γ (.or [a,b]) σ H QT:=h
end L2
namespace L2.B
open PySem PySem.Spec PyProof.Rows
inductive dy:List At->List At->List At->List At->Prop
 |nil:dy [] [] [] []
 |p1 {c xs ys os ts}:dy xs ys os ts->dy (.P c::xs) ys (.P c::os) (.K::ts)
 |p2 {c xs ys os ts}:(∀d zs,xs≠ .P d::zs)->dy xs ys os ts->dy xs (.P c::ys) (.K::os) (.P c::ts)
 |kk {xs ys os ts}:dy xs ys os ts->dy (.K::xs) (.K::ys) (.K::os) (.K::ts)
 |kc {c xs ys os ts}:dy xs ys os ts->dy (.K::xs) (.C c::ys) os (.C c::ts)
 |ck {c xs ys os ts}:dy xs ys os ts->dy (.C c::xs) (.K::ys) (.C c::os) ts
 |cc {c xs ys os ts}:dy xs ys os ts->dy (.C c::xs) (.C c::ys) os ts
def Seg(a b o t:List At):Prop:=cM a b o t/\∀xs ys os ts,dy xs ys os ts->dy (a++xs) (b++ys) (o++os) (t++ts)
theorem ZU(s:List Nat):Seg (s.map .P) [] (s.map .P) (rK s.length):=⟨Lf s,by
 induction s with
 |nil=>intro xs ys os ts h;exact h
 |cons c s ih=>intro xs ys os ts h;exact .p1 (ih xs ys os ts h)⟩
theorem ZV(n:Nat):Seg (rK n) (rK n) (rK n) (rK n):=⟨Lh n,by
 induction n with
 |zero=>intro xs ys os ts h;exact h
 |succ n ih=>intro xs ys os ts h;exact .kk (ih xs ys os ts h)⟩
theorem ZW(s:List Nat):Seg (rK s.length) (s.map .C) [] (s.map .C):=⟨Li s,by
 induction s with
 |nil=>intro xs ys os ts h;exact h
 |cons c s ih=>intro xs ys os ts h;exact .kc (ih xs ys os ts h)⟩
theorem ZX(s:List Nat):Seg (s.map .C) (rK s.length) (s.map .C) []:=⟨Lj s,by
 induction s with
 |nil=>intro xs ys os ts h;exact h
 |cons c s ih=>intro xs ys os ts h;exact .ck (ih xs ys os ts h)⟩
theorem ZY(s:List Nat):Seg (s.map .C) (s.map .C) [] []:=⟨Lk s,by
 induction s with
 |nil=>intro xs ys os ts h;exact h
 |cons c s ih=>intro xs ys os ts h;exact .cc (ih xs ys os ts h)⟩
theorem Lz{xs os:List At}(hn:∀d zs,xs≠ .P d::zs)(h:dy xs ys os ts):∀s:List Nat,dy xs (s.map .P++ys) (rK s.length++os) (s.map .P++ts)
 |[]=>h
 |c::s=>.p2 hn (Lz hn h s)
def j8(xs ys a b z1 z2 o t:List At):Prop:=cM z1 z2 o t/\∀os ts,dy a b os ts->dy xs ys (o++os) (t++ts)
theorem j8.seg{xs a1 a b1 b z1 z2 o t o1 t1:List At}(h:j8 xs ys (a1++a) (b1++b) z1 z2 o t)(s:Seg a1 b1 o1 t1):j8 xs ys a b (z1++a1) (z2++b1) (o++o1) (t++t1):=
 ⟨h.1.app s.1,fun os ts hp=>by rw[zaj,zaj];exact h.2 _ _ (s.2 _ _ _ _ hp)⟩
theorem j8.p2{xs a b z1 z2 o t:List At}{s:List Nat}(hn:∀d zs,a≠ .P d::zs)(h:j8 xs ys a (s.map .P++b) z1 z2 o t):j8 xs ys a b z1 (z2++s.map .P) (o++rK s.length) (t++s.map .P):=
 ⟨by have:=h.1.app (Lg s);rw[zab] at this;exact this,fun os ts hp=>by rw[zaj,zaj];exact h.2 _ _ (Lz hn hp s)⟩
theorem ZZ(ho:∀p∈ps,aV p)(h:nO ps≠"put"):∀d zs,ar ps≠ .P d::zs:=by
 intro d zs;cases ps with
 |nil=>intro z;cases z
 |cons p t=>
  have hp:=ho p (.head _);rw[bX];cases p with
  |put s=>exact absurd rfl h
  |keep n=>
   obtain⟨m,e⟩:∃m,n.toNat=m+1:=⟨n.toNat - 1,by have:1<=n:=hp;lia⟩
   show rK n.toNat++_≠_;rw[e];intro z;cases z
  |cut s=>
   obtain⟨c,r,e⟩:=iE hp.2;show s.cps.toList.map At.C++_≠_;rw[e];intro z;cases z
structure Passed (one other ps qs:List Pt) (l m n:List Nat):Prop where
 LA:∀p∈ps,aV p
 LB:∀p∈qs,aV p
 LC:chainOk "" ps=true
 LD:chainOk "" qs=true
 runs:∃r,Run n ps r/\Run m qs r
 uB:ps.length<=3* (one.length+other.length)+2
 uC:qs.length<=3* (one.length+other.length)+2
 Z0:az ps<=az one
 Z1:az qs<=az other
 pas:∃os ts,cM (ar one) (ar other) os ts/\nb (ar ps)=nb os/\nb (ar qs)=nb ts
 Z2:∃os ts,dy (ar one) (ar other) os ts/\nb (ar ps)=nb os/\nb (ar qs)=nb ts
theorem LF{l:List Nat}(ho:∀p∈ps,aV p)(ht:az ps<=100000)(h:fit l (ar ps)):(∀p∈g_ ps,aV p)/\chainOk "" (g_ ps)=true/\Run l (g_ ps) (out l<|ar ps)/\az (g_ ps)=az ps:=by
 have j5:=xb ho ht;have heq:=uc ps j5;obtain⟨g1,g2,_⟩:=w9 ps j5 ht;rw[heq];exact⟨g2,g1,BH<|rE ps l (fun p hp=>mx<|ho p hp) h,xg ps j5⟩
theorem Z3{one r1 r2:List Pt}{l m n:List Nat}(h1:Run l one m)(h2:Run l other n)(o1:∀p∈r1,aV p)(o2:∀p∈r2,aV p)(l1:r1.length<=one.length+other.length)(l2:r2.length<=one.length+other.length)(ht:az one+az other<=100000)
  (h:cM (ar one) (ar other) (ar r1) (ar r2)) (hO:dy (ar one) (ar other) (ar r1) (ar r2)):Passed one other (g_ r1) (g_ r2) l m n/\az r1<=100000/\az r2<=100000:=by
 obtain⟨c1,c2⟩:=h.Ze;rw[uv,uv] at c1 c2;obtain⟨f1,f2⟩:=h1.fits;obtain⟨f3,f4⟩:=h2.fits;obtain⟨g1,g2,g3⟩:=h.fits l f1 f3;rw[f2] at g1 g3;rw[f4] at g2 g3;obtain⟨a1,a2,a3,a4⟩:=LF o1 (by lia) g2
 obtain⟨b1,b2,b3,b4⟩:=LF o2 (by lia) g1
 have n1:=w_ r1;have n2:=w_ r2;refine⟨⟨a1,b1,a2,b2,⟨_,a3,by rw[<-g3];exact b3⟩,by lia,by lia,by lia,by lia,⟨_,_,h,pX r1 fun p hp=>mx (o1 p hp),pX r2 fun p hp=>mx (o2 p hp)⟩,⟨_,_,hO,pX r1 fun p hp=>mx (o1 p hp),pX r2 fun p hp=>mx (o2 p hp)⟩⟩,by lia,by lia⟩
def xZ:Sp:=fun vs H Q E=>∃(a b:Addr) (xs ys:List V) (one other:List Pt) (l m n:List Nat),vs=[.ref a,.ref b]/\H a=some (.lst xs)/\H b=some (.lst ys)/\aP H xs one/\aP H ys other/\(∀p∈one,aV p)/\(∀p∈other,aV p)/\chainOk "" one=true/\chainOk "" other=true/\
 one.length+other.length<=30000/\az one+az other<=100000/\Run l one m/\Run l other n/\
 ∀(t c d:Addr) (H':Hp) (zs ws:List V) (ps qs:List Pt),ay H H'->H c=none->H d=none->c≠d->H' t=some (.tup [.ref c,.ref d])->H' c=some (.lst zs)->H' d=some (.lst ws)->aP H' zs ps->aP H' ws qs->Passed one other ps qs l m n->Q (.ref t) H'
abbrev uD(C:Addr):List (Str×Sp):=[("sizes",iD),("put_first",xX C),("share",B_),("neat",jU)]
abbrev uE(C:Addr):List (Str×Addr×Sp):=[("word",C,nP C),("left",C,kZ C),("take",C,mB C)]
theorem LG{p:Pt}{t:List Pt}:(nO (p::t) !="")=true:=by
 cases p<;>rfl
theorem Z4{K:Frag}{et:List (Str×Addr)}(T:ni K C):bT (xZ) (fun E=>aO K (uD C) [] [] (uE C) [("Walk",C,jZ C)] (et:=et) (E:=E)) Hu Ht:=by
 intro vs H Q E h;obtain⟨a,b,xs,ys,one,other,l,m,n,rfl,ha,hb,je,p_,jL,ik,eE,cj,hlen,B3,qd,jr,q⟩:=h;have lx:=Paired.length je;have ly:=Paired.length p_;obtain⟨f1,f2⟩:=qd.fits;obtain⟨f3,f4⟩:=jr.fits;refine bK<|ba<|bw<|cC iD rfl<|ax<|af rfl<|aK ⟨a,xs,one,rfl,ha,je,jL,eE,by lia,fun t1 H1 s1 fG=>?_⟩
 refine aA<|.inr<|.inl ⟨_,_,_,_,rfl,rfl,aH.of fG,rfl,?_⟩;refine bw<|cC iD rfl<|ax<|af rfl<|aK ⟨b,ys,other,rfl,s1 _ _ hb,p_.mono<|du s1,ik,cj,by lia,fun t2 H2 s2 qe=>?_⟩
 refine aA<|.inr<|.inl ⟨_,_,_,_,rfl,rfl,aH.of qe,rfl,?_⟩;show ∃k,V.bl (true ^^ decide (V.int (overOf one).sum=V.int (overOf other).sum))=V.bl k/\_;refine⟨_,rfl,?_⟩;rw[qd.over,jr.over,zqT rfl];have i4:=s1.trans s2;refine bC<|xM C (jZ C) rfl<|af rfl fun w dx hw B4 jf=>?_;have s3:ay H2 (upd (upd H2 dx<|.own w) w<|.ins C dx []):=fun b o e=>by rw[aF<|bf e hw,aF<|bf e B4];exact e
 have qf:=i4.trans s3;refine⟨w,dx,a,xs,one,rfl,aw,qf _ _ ha,je.mono<|du qf,jL,by lia,fun L H3 hL Zz b3 W=>⟨rfl,?_⟩⟩
 have qg:ay H H3:=fun b o e=>b3 b o (qf b o e) (bf (i4 b o e) hw);have fw:H w=none:=i4.free hw;refine bC<|xM C (jZ C) rfl<|af rfl fun v uF hv Z5 afJ=>?_;have s4:ay H3 (upd (upd H3 uF<|.own v) v<|.ins C uF []):=fun b o e=>by rw[aF<|bf e hv,aF<|bf e Z5];exact e
 have nU:=qg.trans s4;refine⟨v,uF,b,ys,other,rfl,aw,nU _ _ hb,p_.mono<|du nU,ik,by lia,fun M H5 hM hMv b5 V5=>⟨rfl,?_⟩⟩
 have LH:ay H3 H5:=fun b o e=>b5 b o (s4 b o e) (bf e hv);have rR:=qg.trans LH;have fv:H v=none:=qg.free hv;have W5:=W.same LH;obtain⟨_,_,_,Cb⟩:=W.ob;have x3:w≠v:=bf Cb hv;refine bC<|dw<|aK ⟨zqZ _,fun c hc=>?_⟩;refine bC<|dw<|aK ⟨zqZ _,fun d hd=>?_⟩;have jv:c≠d:=fun z=>by rw[<-z,aw] at hd;cases hd
 have Cc:H5 d=none:=by rw[aF jv.symm] at hd;exact hd
 have fc:H c=none:=rR.free hc;have fd:H d=none:=rR.free Cc;have lst:∀{H4:Hp}{w' L':Addr}{rs:List Pt},bD C H4 w' L' rs->∃zs,H4 L'=some (.lst zs):=fun⟨_,zs,_,_,_,_,h,_⟩=>⟨zs,h⟩;obtain⟨_,LI⟩:=lst W5;obtain⟨_,LJ⟩:=lst V5;have j0:c≠L:=(bf LI hc).symm;have mH:c≠M:=(bf LJ hc).symm;have uA:d≠L:=(bf LI Cc).symm;have Cd:d≠M:=(bf LJ Cc).symm;have s6:ay H5 (upd (upd H5 c<|.lst []) d<|.lst []):=(sameNew hc).trans (sameNew hd);refine p7 (fun mm σ H6=>∃(u:Option V) (zs ws:List V) (r1 r2 p1 p2:List Pt) (z1 z2:List At) (l':List Nat),mm=(ar p1).length+(ar p2).length/\σ=[some (.ref a),some (.ref b),some (.ref w),some (.ref v),some (.ref c),some (.ref d),u]/\ay H H6/\H6 c=some (.lst zs)/\H6 d=some (.lst ws)/\
   aP H6 zs r1/\aP H6 ws r2/\(∀p∈r1,aV p)/\(∀p∈r2,aV p)/\bD C H6 w L p1/\bD C H6 v M p2/\ar one=z1++ar p1/\ar other=z2++ar p2/\j8 (ar one) (ar other) (ar p1) (ar p2) z1 z2 (ar r1) (ar r2)/\fit l' (ar p1)/\fit l' (ar p2)/\
   r1.length+p1.length+p2.length<=one.length+other.length/\r2.length+p1.length+p2.length<=one.length+other.length)
  ⟨_,none,[],[],[],[],one,other,[],[],l,rfl,rfl,rR.trans s6,(by rw[aF jv,aw]),aw,.nil,.nil,(fun p hp=>by cases hp),(fun p hp=>by cases hp),W5.same s6,V5.same s6,rfl,rfl,⟨.nil,fun _ _ h=>h⟩,f1,f3,by simp,by simp⟩ ?_
 rintro mm σ H6 ⟨u,zs,ws,r1,r2,p1,p2,z1,z2,l',rfl,rfl,qi,hX,mI,hz,j6,o1,o2,W6,V6,e1,e2,lr,fa,fb,uB,uC⟩;have Lu:=Paired.length hz;have vH:=Paired.length j6;obtain⟨dxw,iw,ow,qj⟩:=W6.ob;obtain⟨dxv,iv,ov,x4⟩:=V6.ob;have lp:c≠w:=bR hX qj (by intro z;cases z)
 have LK:c≠v:=bR hX x4 (by intro z;cases z)
 have xY:d≠w:=bR mI qj (by intro z;cases z)
 have LL:d≠v:=bR mI x4 (by intro z;cases z)
 have fin:p1=[]->p2=[]->aE (aO K (uD C) [] [] (uE C) [("Walk",C,jZ C)] (et:=et) (E:=E)) [.ret<|.tup [(.call 3 [.v 4]),(.call 3 [.v 5])]] (Dn Q) [some<|.ref a,some<|.ref b,some<|.ref w,some<|.ref v,some<|.ref c,some<|.ref d,u] H6:=by
  rintro rfl rfl;rw[show ar []=[] from rfl,zab] at e1 e2
  subst e1 e2
  simp only[zaU] at uB uC
  have hO:=lr.2 [] [] .nil;rw[zab,zab] at hO;have lr:=lr.1;obtain⟨J,t1,t2⟩:=Z3 qd jr o1 o2 (by lia) (by lia) B3 lr hO
  refine cP<|kW<|ax<|cC jU rfl<|ax<|af rfl<|aK ⟨c,zs,r1,rfl,hX,hz,by lia,t1,fun e H7 Z6 s7 he h7 Z7=>?_⟩
  refine ax<|cC jU rfl<|ax<|af rfl<|aK ⟨d,ws,r2,rfl,s7 _ _ mI,j6.mono<|du s7,by lia,t2,fun g H8 Z8 s8 hg h8 Z9=>?_⟩
  refine aK ⟨d4,fun t ht=>?_⟩;have s9:=sameNew (o:=.tup [V.ref e,V.ref g]) ht;have neg:e≠g:=bf h7 hg;exact q t e g _ Z6 Z8 _ _ (qi.trans<|s7.trans<|s8.trans s9) (qi.free he) ((qi.trans s7).free hg) neg aw (s9 _ _<|s8 _ _ h7) (s9 _ _ h8) ((Z7.mono<|du s8).mono<|du s9) (Z9.mono<|du s9) J
 have turn:(p1≠ []\/p2≠ [])->∃N:St->Hp->Prop,(∀σ' H',N σ' H'->∃m',m'< (ar p1).length+(ar p2).length/\∃(u:Option V) (zs ws:List V) (r1 r2 p1 p2:List Pt) (z1 z2:List At) (l':List Nat),m'=(ar p1).length+(ar p2).length/\σ'=[some (.ref a),some (.ref b),some (.ref w),some (.ref v),some (.ref c),some (.ref d),u]/\ay H H'/\H' c=some (.lst zs)/\H' d=some (.lst ws)/\
   aP H' zs r1/\aP H' ws r2/\(∀p∈r1,aV p)/\(∀p∈r2,aV p)/\bD C H' w L p1/\bD C H' v M p2/\ar one=z1++ar p1/\ar other=z2++ar p2/\j8 (ar one) (ar other) (ar p1) (ar p2) z1 z2 (ar r1) (ar r2)/\fit l' (ar p1)/\fit l' (ar p2)/\
   r1.length+p1.length+p2.length<=one.length+other.length/\r2.length+p1.length+p2.length<=one.length+other.length)/\
   aE (aO K (uD C) [] [] (uE C) [("Walk",C,jZ C)] (et:=et) (E:=E)) [.ite (.cmp .Eq (.aM 0 "word" (.v 2) []) (.c (.str "put"))) [.drop (.call 1 [.v 2,.v 4,.v 5])] [.ite (.cmp .Eq (.aM 0 "word" (.v 3) []) (.c (.str "put"))) [.drop (.call 1 [.v 3,.v 5,.v 4])] [.asg 6 (.blt .min [(.aM 1 "left" (.v 2) []),(.aM 1 "left" (.v 3) [])]),
    .drop (.call 2 [(.aM 2 "take" (.v 2) [.v 6]),(.aM 2 "take" (.v 3) [.v 6]),.v 4,.v 5])]]]
    {{Dn Q with nx:=aE (aO K (uD C) [] [] (uE C) [("Walk",C,jZ C)] (et:=et) (E:=E)) [.ret<|.tup [(.call 3 [.v 4]),(.call 3 [.v 5])]] (Dn Q)} with nx:=N,ct:=N,bk:=aE (aO K (uD C) [] [] (uE C) [("Walk",C,jZ C)] (et:=et) (E:=E)) [.ret<|.tup [(.call 3 [.v 4]),(.call 3 [.v 5])]] (Dn Q)} [some<|.ref a,some<|.ref b,some<|.ref w,some<|.ref v,some<|.ref c,some<|.ref d,u] H6:=by
  intro Z_;refine⟨_,fun σ' H' z=>z,?_⟩;have LM:∀{H7:Hp}{x:Addr},H x=none->uz x c d H6 H7->ay H H7:=fun {H7 x} hx b e o he=>b e o (qi e o he) (bf he hx) (bf he fc) (bf he fd);have LN:∀{H7:Hp}{x:Addr}{C' B7 gp},H6 x=some (.ins C' B7 gp)->uz x c d H6 H7->cz H6 H7:=fun {H7 x C' B7 gp} hx b e vs he=>b e _ he (bR he hx (by intro z;cases z)) (bR he hX (by intro z;cases z)) (bR he mI (by intro z;cases z))
  have rS:∀{r:List Pt}{x:Pt},(∀p∈r,aV p)->aV x->∀p∈r++[x],aV p:=fun {r x} h hx p hp=>by
   rcases zai.mp hp with z|z
   ·exact h p z
   ·rw[zac.mp z];exact hx
  refine bK<|ba<|rL (C:=C) rfl rfl W6<|aA<|gh ⟨_,rfl,?_⟩;by_cases hV:nO p1="put"
  ·obtain⟨s,t,rfl⟩:∃s t,p1=.put s::t:=by
    cases p1 with
    |nil=>exact absurd (show(Str.ofString "")="put" from hV) (by decide)
    |cons p t=>
     cases p with
     |put s=>exact⟨s,t,rfl⟩
     |keep n=>exact absurd (show(Str.ofString "keep")="put" from hV) (by decide)
     |cut n=>exact absurd (show(Str.ofString "cut")="put" from hV) (by decide)
   have gM:=W6.ok _ (.head _);refine iT ?_ rfl;refine dX<|cC (xX C) rfl<|ax<|af rfl<|ax<|af rfl<|ax<|af rfl<|aK ?_
   simp only[zak] at uB uC
   refine⟨w,L,c,d,s,t,zs,ws,rfl,W6,hX,mI,jv,j0,uA,by lia,by lia,fun a1 a2 H7 b7 Ce Cf Cg Ci W7=>?_⟩
   have tt:=LN qj b7;have V7:bD C H7 v M p2:=V6.Lw b7 hX mI mH Cd x3.symm ⟨_,_,_,qj⟩;rw[bX] at e1 fa;have cT:=rJ (.put s);have t9:=(jq gM).2;refine⟨_,?_,u,zs++[V.ref a1],ws++[V.ref a2],r1++[.put s],r2++[.keep (s.length:Int)],t,p2,z1++aZ (.put s),z2,l',rfl,rfl,LM fw b7,Ce,Cf,aP.snoc (p:=.put s) (hz.mono tt) ⟨a1,rfl,Cg⟩,aP.snoc (p:=.keep (s.length:Int)) (j6.mono tt) ⟨a2,rfl,Ci⟩,rS o1 gM,rS (x:=.keep (s.length:Int)) o2 (show(1:Int)<= (s.length:Int) by have:1<=s.length:=t9;lia),W7,V7,by rw[e1,zaj],e2,?_,(pV _ _ _).mp fa,fb,by simp;lia,by simp;lia⟩
   ·rw[bX,zqA];lia
   ·rw[bX] at lr;have:=j8.seg (b1:=[]) lr (ZU s.cps.toList);rw[zab] at this;rw[fF,fF,fe,fe];have ek:aZ (.keep (s.length:Int))=rK s.cps.toList.length:=by show rK ((s.length:Int)).toNat=_;rw[zaB,len_list]
    rw[ek];exact this
  ·refine iF ?_ (beq_eq_false_iff_ne.mpr hV);refine bK<|ba<|rL (C:=C) rfl rfl V6<|aA<|gh ⟨_,rfl,?_⟩;by_cases jc:nO p2="put"
   ·obtain⟨s,t,rfl⟩:∃s t,p2=.put s::t:=by
     cases p2 with
     |nil=>exact absurd (show(Str.ofString "")="put" from jc) (by decide)
     |cons p t=>
      cases p with
      |put s=>exact⟨s,t,rfl⟩
      |keep n=>exact absurd (show(Str.ofString "keep")="put" from jc) (by decide)
      |cut n=>exact absurd (show(Str.ofString "cut")="put" from jc) (by decide)
    have gM:=V6.ok _ (.head _);refine iT ?_ rfl;refine dX<|cC (xX C) rfl<|ax<|af rfl<|ax<|af rfl<|ax<|af rfl<|aK ?_
    simp only[zak] at uB uC
    refine⟨v,M,d,c,s,t,ws,zs,rfl,V6,mI,hX,jv.symm,Cd,mH,by lia,by lia,fun a1 a2 H7 b7' Cf Ce Cg Ci V7=>?_⟩
    have b7:uz v c d H6 H7:=fun e o he n1 n2 n3=>b7' e o he n1 n3 n2;have tt:=LN x4 b7;have W7:bD C H7 w L p1:=W6.Lw b7 hX mI j0 uA x3 ⟨_,_,_,x4⟩;rw[bX] at e2 fb;have cT:=rJ (.put s);have t9:=(jq gM).2;refine⟨_,?_,u,zs++[V.ref a2],ws++[V.ref a1],r1++[.keep (s.length:Int)],r2++[.put s],p1,t,z1,z2++aZ (.put s),l',rfl,rfl,LM fv b7,Ce,Cf,aP.snoc (p:=.keep (s.length:Int)) (hz.mono tt) ⟨a2,rfl,Ci⟩,aP.snoc (p:=.put s) (j6.mono tt) ⟨a1,rfl,Cg⟩,rS (x:=.keep (s.length:Int)) o1 (show(1:Int)<= (s.length:Int) by have:1<=s.length:=t9;lia),rS o2 gM,W7,V7,e1,by rw[e2,zaj],?_,fa,(pV _ _ _).mp fb,by simp;lia,by simp;lia⟩
    ·rw[bX,zqA];lia
    ·rw[bX] at lr;have:=j8.p2 (s:=s.cps.toList) (ZZ W6.ok hV) lr;rw[fF,fF,fe,fe];have ek:aZ (.keep (s.length:Int))=rK s.cps.toList.length:=by show rK ((s.length:Int)).toNat=_;rw[zaB,len_list]
     rw[ek];exact this
   ·refine iF ?_ (beq_eq_false_iff_ne.mpr jc);have x5:∀{p:Pt}{t:List Pt},nO (p::t)≠"put"->∀s,p≠ .put s:=fun {p t} h s z=>by subst z;exact h rfl
    have LO:∀{p:Pt}{t:List Pt},aV p->(∀s,p≠ .put s)-> ¬fit [] (ar (p::t)):=by
     intro p t hp hn hf;have hl:=k_ _ _ hf;rw[bX,uk] at hl;have h1:=(jq hp).2;have:c8 (aZ p)=aQ p:=by
      cases p with
      |keep n=>exact um _
      |put s=>exact absurd rfl (hn s)
      |cut s=>show c8 (s.cps.toList.map At.C)=s.length;rw[mD,len_list]
     simp only[zaU] at hl
     lia
    obtain⟨x,t,ex⟩:∃x t,p1=x::t:=by
     cases p1 with
     |cons x t=>exact⟨x,t,rfl⟩
     |nil=>
      exfalso
      have tw:l'=[]:=fa;subst tw;cases p2 with
      |nil=>rcases Z_ with z|z<;>exact z rfl
      |cons y t'=>exact LO (V6.ok y<|.head _) (x5 jc) fb
    subst ex;obtain⟨y,t',ey⟩:∃y t',p2=y::t':=by
     cases p2 with
     |cons y t'=>exact⟨y,t',rfl⟩
     |nil=>
      exfalso
      have tw:l'=[]:=fb;subst tw;exact LO (W6.ok x<|.head _) (x5 hV) fa
    subst ey;have nx:=x5 hV;have ny:=x5 jc;have LP:=W6.ok x (.head _);have LQ:=V6.ok y (.head _);obtain⟨px1,px2⟩:=jq LP;obtain⟨py1,py2⟩:=jq LQ;obtain⟨k,hk⟩:∃k,k=min (aQ x) (aQ y):=⟨_,rfl⟩;have k1:1<=k:=by lia
    have k2:k<=aQ x:=by lia
    have k3:k<=aQ y:=by lia
    have emin:(if (aQ y:Int) < (aQ x:Int) then (aQ y:Int) else (aQ x:Int))=(k:Int):=by split<;>lia
    refine bC<|xx<|ax<|rM (C:=C) rfl rfl W6<|ax<|rM (C:=C) rfl rfl V6<|aK ?_;show aE _ _ _ ([some<|.ref a,some<|.ref b,some<|.ref w,some<|.ref v,some<|.ref c,some<|.ref d,u].set 6 (some<|V.int (if (aQ y:Int) < (aQ x:Int) then (aQ y:Int) else (aQ x:Int)))) H6
    rw[emin];refine dX<|cC B_ rfl<|ax<|rN (C:=C) (k:=k) rfl rfl W6 k1 k2 (fun Q' hq=>af rfl hq) fun a1 H7 b7 h9 hf7 W7=>?_;have V7:bD C H7 v M (y::t'):=V6.keep fun e o he z=>b7 e o he (by
     rcases z with rfl|rfl|⟨_,rfl⟩
     ·exact x3.symm
     ·obtain⟨_,hM6⟩:=lst V6;exact bR hM6 qj (by intro z;cases z)
     ·exact bR he qj (by intro z;cases z))
    refine ax<|rN (C:=C) (k:=k) rfl rfl V7 k1 k3 (fun Q' hq=>af rfl hq) fun a2 H8 b8 gg hf8 V8=>?_;obtain⟨_,_,_,hW7⟩:=W7.ob;obtain⟨_,_,_,x6⟩:=V7.ob;have W8:bD C H8 w L (dm x t k):=W7.keep fun e o he z=>b8 e o he (by
     rcases z with rfl|rfl|⟨_,rfl⟩
     ·exact x3
     ·obtain⟨_,x8⟩:=lst W7;exact bR x8 x6 (by intro z;cases z)
     ·exact bR he x6 (by intro z;cases z))
    have LR:=b8 _ _ h9 (bR h9 x6 (by intro z;cases z))
    have LS:=b8 _ _ (b7 _ _ hX lp) LK;have LU:=b8 _ _ (b7 _ _ mI xY) LL;have tt8:cz H6 H8:=(b7.rO qj).trans (b8.rO x6);refine ax<|af rfl<|ax<|af rfl<|aK ?_;have eA:=xQ t k2;have eB:=xQ t' k3;rw[eA] at fa;rw[eB] at fb;obtain⟨la,lb,rfl,g1,g2,g3⟩:=nQ _ _ fa;have uu:la.length=k:=by
     rw[k_ _ _ g1];have e:=ui x k k2;cases x with
     |keep n=>exact um k
     |put s=>exact absurd rfl (nx s)
     |cut s=>
      have e':(⟨(s.cps.toList.take k).toArray⟩:Str).length=k:=e;rw[jY] at e';show c8 ((s.cps.toList.take k).map At.C)=k;rw[mD];exact e'
    have ovy:c8 (aZ<|aL y k)=k:=by
     have e:=ui y k k3;cases y with
     |keep n=>exact um k
     |put s=>exact absurd rfl (ny s)
     |cut s=>
      have e':(⟨(s.cps.toList.take k).toArray⟩:Str).length=k:=e;rw[jY] at e';show c8 ((s.cps.toList.take k).map At.C)=k;rw[mD];exact e'
    obtain⟨g4,g5⟩:=Lc fb (by rw[uu,ovy])
    have uG:∀{s:Str}{u:List Nat},fit u (aZ<|.cut s)->s.cps.toList=u:=by
     intro s u hu;obtain⟨b,rfl⟩:=uf s.cps.toList u [] (by rw[zab];exact hu)
     have h1:=k_ _ _ hu;have e1:c8 (aZ<|.cut s)=s.cps.toList.length:=mD _;rw[e1,zqA] at h1;have:b=[]:=zaD.mp (by lia)
     rw[this,zab]
    have okx:=xE LP k1 k2;have oky:=xE LQ k1 k3
    simp only[zak] at uB uC
    refine⟨.ref a1,.ref a2,c,d,aL x k,aL y k,zs,ws,rfl,⟨a1,rfl,LR⟩,⟨a2,rfl,gg⟩,?_,?_,?_,LS,LU,jv,by lia,by lia,fun H9 b9 h9c h9d=>?_⟩
    ·intro s z;cases x<;>first|exact absurd rfl (nx _)|cases z
    ·intro s z;cases y<;>first|exact absurd rfl (ny _)|cases z
    ·intro s s' z z';rw[z] at g1;rw[z'] at g4;exact gK<|(uG g1).trans (uG g4).symm
    have uH:∀{e:Addr}{o:HO},H8 e=some o->(e=w\/e=L\/e=v\/e=M\/∃vs,o=.tup vs)->H9 e=some o:=by
     intro e o he z;obtain⟨_,hL8⟩:=lst W8;obtain⟨_,hM8⟩:=lst V8;obtain⟨_,_,_,hW8⟩:=W8.ob;obtain⟨_,_,_,hV8⟩:=V8.ob;refine b9 e o he ?_ ?_
     ·rcases z with rfl|rfl|rfl|rfl|⟨vs,rfl⟩
      ·exact lp.symm
      ·exact j0.symm
      ·exact LK.symm
      ·exact mH.symm
      ·exact bR he LS (by intro z;cases z)
     ·rcases z with rfl|rfl|rfl|rfl|⟨vs,rfl⟩
      ·exact xY.symm
      ·exact uA.symm
      ·exact LL.symm
      ·exact Cd.symm
      ·exact bR he LU (by intro z;cases z)
    have W9:bD C H9 w L (dm x t k):=W8.keep fun e o he z=>uH he (by
     rcases z with z|z|z
     ·exact .inl z
     ·exact .inr (.inl z)
     ·exact .inr (.inr (.inr (.inr z))))
    have V9:bD C H9 v M (dm y t' k):=V8.keep fun e o he z=>uH he (by
     rcases z with z|z|z
     ·exact .inr (.inr<|.inl z)
     ·exact .inr (.inr<|.inr<|.inl z)
     ·exact .inr (.inr (.inr (.inr z))))
    have x9:cz H6 H9:=fun e vs he=>uH (tt8 e vs he) (.inr<|.inr<|.inr<|.inr ⟨vs,rfl⟩);have aai:H9 a1=some (.tup [.str (aL x k).word,(aL x k).val]):=uH LR (.inr<|.inr<|.inr<|.inr ⟨_,rfl⟩);have aaj:H9 a2=some (.tup [.str (aL y k).word,(aL y k).val]):=uH gg (.inr<|.inr<|.inr<|.inr ⟨_,rfl⟩);have s09:ay H H9:=fun e o he=>b9 e o (b8 e o (b7 e o (qi e o he)<|bf he fw)<|bf he fv) (bf he fc) (bf he fd);have Ai:=BV t k1 k2;have Aj:=BV t' k1 k3;have bB:(dm x t k).length+(dm y t' k).length<=t.length+t'.length+1:=by
     have r1:=BU x t k;have r2:=BU y t' k;by_cases hz:k=aQ x
     ·have e:dm x t k=t:=if_pos hz;rw[e];lia
     ·have Bx:k=aQ y:=by lia
      have e:dm y t' k=t':=if_pos Bx;rw[e];lia
    refine⟨_,Nat.add_lt_add Ai Aj,some<|.int (k:Int),zs++(if eO (aL y k) then [V.ref a1] else []),ws++(if eO (aL x k) then [V.ref a2] else []),r1++(if eO (aL y k) then [aL x k] else []),r2++(if eO (aL x k) then [aL y k] else []),dm x t k,dm y t' k,z1++aZ (aL x k),z2++aZ (aL y k),lb,rfl,rfl,s09,h9c,h9d,?_,?_,?_,?_,W9,V9,by rw[e1,eA,zaj],by rw[e2,eB,zaj],?_,g2,g5,?_,?_⟩
    ·split
     ·exact aP.snoc (hz.mono x9) ⟨a1,rfl,aai⟩
     ·rw[zab,zab];exact hz.mono x9
    ·split
     ·exact aP.snoc (j6.mono x9) ⟨a2,rfl,aaj⟩
     ·rw[zab,zab];exact j6.mono x9
    ·split
     ·exact rS o1 okx
     ·rw[zab];exact o1
    ·split
     ·exact rS o2 oky
     ·rw[zab];exact o2
    ·rw[fF,fF];rw[eA,eB] at lr;refine j8.seg lr ?_;cases x with
     |put s=>exact absurd rfl (nx s)
     |keep n=>
      have LV:aZ (aL (.keep n) k)=rK k:=by show rK ((k:Nat):Int).toNat=_;rw[zaB]
      cases y with
      |put s=>exact absurd rfl (ny s)
      |keep n'=>
       have Cj:aZ (aL (.keep n') k)=rK k:=by show rK ((k:Nat):Int).toNat=_;rw[zaB]
       rw[show(if eO (aL (.keep n') k)=true then [aL (.keep n) k] else [])=[aL (.keep n) k] from rfl,show(if eO (aL (.keep n) k)=true then [aL (.keep n') k] else [])=[aL (.keep n') k] from rfl,fe,fe,LV,Cj]
       exact ZV k
      |cut s=>
       rw[show(if eO (aL (.cut s) k)=true then [aL (.keep n) k] else [])=[] from rfl,show(if eO (aL (.keep n) k)=true then [aL (.cut s) k] else [])=[aL (.cut s) k] from rfl,fe,LV]
       have ec:aZ (aL (.cut s) k)=la.map At.C:=by
        have:=uG (s:=⟨(s.cps.toList.take k).toArray⟩) g4;show(s.cps.toList.take k).map At.C=_;rw[show s.cps.toList.take k=la from this]
       rw[ec,<-uu];exact ZW la
     |cut s=>
      have ec:aZ (aL (.cut s) k)=la.map At.C:=by
       have:=uG (s:=⟨(s.cps.toList.take k).toArray⟩) g1;show(s.cps.toList.take k).map At.C=_;rw[show s.cps.toList.take k=la from this]
      cases y with
      |put s=>exact absurd rfl (ny s)
      |keep n'=>
       have Cj:aZ (aL (.keep n') k)=rK k:=by show rK ((k:Nat):Int).toNat=_;rw[zaB]
       rw[show(if eO (aL (.keep n') k)=true then [aL (.cut s) k] else [])=[aL (.cut s) k] from rfl,show(if eO (aL (.cut s) k)=true then [aL (.keep n') k] else [])=[] from rfl,fe,Cj,ec,<-uu]
       exact ZX la
      |cut s'=>
       have ec':aZ (aL (.cut s') k)=la.map At.C:=by
        have:=uG (s:=⟨(s'.cps.toList.take k).toArray⟩) g4;show(s'.cps.toList.take k).map At.C=_;rw[show s'.cps.toList.take k=la from this]
       rw[show(if eO (aL (.cut s') k)=true then [aL (.cut s) k] else [])=[] from rfl,show(if eO (aL (.cut s) k)=true then [aL (.cut s') k] else [])=[] from rfl,ec,ec']
       exact ZY la
    ·have:(r1++(if eO (aL y k) then [aL x k] else [])).length<=r1.length+1:=by rw[zqA];split<;>simp
     lia
    ·have:(r2++(if eO (aL x k) then [aL y k] else [])).length<=r2.length+1:=by rw[zqA];split<;>simp
     lia
 refine ZT<|ba<|rL (C:=C) rfl rfl W6<|aA<|lh ⟨_,rfl,?_⟩;cases p1 with
 |cons x t=>exact iT (iT (turn<|.inl (by simp)) rfl) LG
 |nil=>
  refine iF ?_ rfl;refine ba<|rL (C:=C) rfl rfl V6<|aA<|lh ⟨_,rfl,?_⟩;cases p2 with
  |cons x t=>exact iT (turn<|.inr (by simp)) LG
  |nil=>exact iF (fin rfl rfl) rfl
end L2.B
namespace L2.B
open PySem PySem.Spec PyProof.Rows
theorem LW(ps:List Pt):ar (cB ps)=(ar ps).map sw:=by
 induction ps with
 |nil=>rfl
 |cons p ps ih=>
  have e:cB (p::ps)=p.nI::cB ps:=rfl;rw[e,bX,bX,zao,ih]
  congr 1
  cases p with
  |keep n=>show rK n.toNat=(rK n.toNat).map sw;unfold rK;rw[List.map_replicate];rfl
  |put s=>show s.cps.toList.map At.C=(s.cps.toList.map At.P).map sw;rw[zaX];rfl
  |cut s=>show s.cps.toList.map At.P=(s.cps.toList.map At.C).map sw;rw[zaX];rfl
structure j9 (ps:List Pt) (l r:List Nat):Prop where
 ok:∀p∈ps,aV p
 ch:chainOk "" ps=true
 run:Run l ps r
def bk(ps:List Pt):List Pt:=g_ (cB ps)
theorem j9.bk{l r:List Nat}(h:j9 ps l r)(ht:az ps<=100000):j9 (bk ps) r l/\az (B.bk ps)=az ps/\(B.bk ps).length<=3*ps.length+2/\nb (ar<|B.bk ps)=nb ((ar ps).map sw):=by
 have j5:=xb h.ok ht;have nW:=Kx j5;have uI:az (cB ps)<=100000:=by rw[xa];exact ht
 obtain⟨g1,g2,_⟩:=w9 (cB ps) nW uI;have heq:=uc (cB ps) nW;have hl:=w_ (cB ps);have x_:(cB ps).length=ps.length:=by simp[cB]
 have nR:=pX (cB ps) fun p hp=>KD (nW p hp);rw[LW] at nR;refine⟨⟨?_,?_,?_⟩,?_,?_,nR⟩
 ·unfold B.bk;rw[heq];exact g2
 ·unfold B.bk;rw[heq];exact g1
 ·unfold B.bk;rw[heq];exact BH h.run.nI
 ·unfold B.bk;rw[heq,xg _ nW,xa]
 ·unfold B.bk;lia
theorem uw.chg{one:List Pt}{l r:List Nat}(h:uw one other ps l r):j9 ps l r:=⟨h.ok,h.ch,h.run⟩
theorem aam:ar (eN [.keep (n:Int)])=rK n/\(∀p∈eN [.keep (n:Int)],aV p)/\chainOk "" (eN [.keep (n:Int)])=true/\(eN [.keep (n:Int)]).length<=1/\az (eN [.keep (n:Int)])=0:=by
 have hr:∀p∈ [Pt.keep (n:Int)],hZ p:=fun p hp=>by rw[zac.mp hp];show(0:Int)<= (n:Int);lia
 have e:eN [.keep (n:Int)]=if n=0 then [] else [.keep (n:Int)]:=by
  have e1:eN [.keep (n:Int)]=txt .put ""++txt .cut ""++(if ((0:Int)+(n:Int))=0 then [] else [.keep<|(0:Int)+(n:Int)]):=by
   show cL [("","",(0:Int)+(n:Int))]=_
   simp[cL,gd]
  rw[e1,txt_nil,txt_nil,Int.zero_add];by_cases h:n=0
  ·rw[if_pos h,if_pos (by lia)];rfl
  ·rw[if_neg h,if_neg (by lia)];rfl
 rw[e];by_cases h:n=0
 ·rw[if_pos h,h];exact⟨rfl,(fun p hp=>by cases hp),rfl,zqZ _,rfl⟩
 ·rw[if_neg h];refine⟨by rw[fe];show rK ((n:Int)).toNat=_;rw[zaB],(fun p hp=>?_),?_,zqR _,rfl⟩
  ·rw[zac.mp hp];show(1:Int)<= (n:Int);lia
  ·show(gc "keep" "" && true)=true;decide
theorem aan{l:List Nat}:j9 (eN [.keep (l.length:Int)]) l l:=by
 obtain⟨e,o,c,_,_⟩:=aam (n:=l.length);refine⟨o,c,?_⟩;have hf:fit l (ar<|eN [.keep (l.length:Int)]):=by
  rw[e];have:=(xj l [] []).mpr rfl;rw[zab,zab] at this;exact this
 have:=rE _ l (fun p hp=>mx<|o p hp) hf;rw[e] at this;have h2:=xk l [] [];rw[zab,zab] at h2;have h3:out [] ([]:List At)=[]:=rfl;rw[h2,h3,zab] at this;exact this
def bx(H:Hp)(b:Addr)(ps:List Pt)(l r:List Nat):Prop:= ∃xs,H b=some (.lst xs)/\aP H xs ps/\j9 ps l r
theorem bx.same{b:Addr}{l r:List Nat}(h:bx H b ps l r)(s:ay H H'):bx H' b ps l r:=by
 obtain⟨xs,h1,h2,h3⟩:=h;exact⟨xs,s _ _ h1,h2.mono<|du s,h3⟩
theorem bx.keep{b:Addr}{l r:List Nat}(h:bx H b ps l r)(hb:∀o,H b=some o->H' b=some o)(t:cz H H'):bx H' b ps l r:=by
 obtain⟨xs,h1,h2,h3⟩:=h;exact⟨xs,hb _ h1,h2.mono t,h3⟩
theorem bx.chg{b:Addr}{l r:List Nat}(h:bx H b ps l r):j9 ps l r:=by
 obtain⟨_,_,_,h⟩:=h;exact h
section
variable {H:Hp}{Q:VK}{E:XK}
theorem aao{a b:Addr}{one:List Pt}{l m r:List Nat}(h1:bx H a one l m)(h2:bx H b other m r)(hl:one.length+other.length<=30000)(ht:az one+az other<=100000)
  (q:∀(c:Addr) (H':Hp) (ps:List Pt),ay H H'->H c=none->bx H' c ps l r->uw one other ps l r->Q (.ref c) H'):xV [.ref a,.ref b] H Q E:=by
 obtain⟨xs,a1,a2,a3⟩:=h1;obtain⟨ys,b1,b2,b3⟩:=h2;exact⟨a,b,xs,ys,one,other,l,m,r,rfl,a1,b1,a2,b2,a3.ok,b3.ok,a3.ch,b3.ch,hl,ht,a3.run,b3.run,fun c H' zs ps s hc h3 h4 J=>q c H' ps s hc ⟨zs,h3,h4,J.chg⟩ J⟩
theorem Ck{a:Addr}{l r:List Nat}(h:bx H a ps l r)(hl:ps.length<=30000)(ht:az ps<=100000)
  (q:∀(c:Addr) (H':Hp),ay H H'->H c=none->bx H' c (bk ps) r l->Q (.ref c) H'):nJ [.ref a] H Q E:=by
 obtain⟨xs,a1,a2,a3⟩:=h;exact⟨a,xs,ps,rfl,a1,a2,a3.ok,a3.ch,by lia,ht,fun c H' ys s hc h3 h4=>q c H' s hc ⟨ys,h3,h4,(a3.bk ht).1⟩⟩
theorem aap{x:Str}{a:Addr}{r:List Nat}(hx:good x)(h:bx H a ps x.cps.toList r)(hr:r.length<=1000000)(q:Q (.str ⟨r.toArray⟩) H):xy [.str x,.ref a] H Q E:=by
 obtain⟨xs,a1,a2,a3⟩:=h;exact⟨x,a,xs,ps,r,rfl,hx,a1,a2,fun p hp=>t4<|a3.ok p hp,a3.run,hr,q⟩
end
end L2.B
namespace L2.B
open PySem PySem.StrLaws
end L2.B
namespace L2.B
open PySem PySem.Spec PyProof.Rows
theorem dG{K:Frag}{sd:Addr->List (Key×V)->Prop}{a:Addr}{i:Int}(h:H a=some (.lst xs))(e:fi xs i=some v)(q:Q v H):m4 K sd (.ref a) (.int i) H Q:=
 .inl ⟨_,_,_,_,rfl,rfl,au.of h,e,q⟩
end L2.B
namespace L2
open PySem PySem.Spec PyProof.Rows
theorem nX{α:Type _}{p:α->Prop}:∀x∈ ([]:List α),p x:=fun _ h=>nomatch h
theorem nY{α:Type _}{p:α->Prop}{a:α}{l:List α}(h:p a)(t:∀x∈l,p x):∀x∈a::l,p x:=List.forall_mem_cons.2 ⟨h,t⟩
inductive jw (w:World):List DictEntry->List (Key×V)->List (Key×Value)->Prop
 |nil:jw w [] [] []
 |cons {x:Str}{t:Tok}{v:V}{u:Value}{es:List DictEntry}{kvs:List (Key×V)}{vs:List (Key×Value)}:RelV v u->jw w es kvs vs->
   jw w (⟨PyData.keyHash w.params x,.str x t,u⟩::es) ((.inr x,v)::kvs) ((.inr x,u)::vs)
section
variable {P:Program}{w:World}{K:Frag}
theorem jw.kv{es:List DictEntry}{kvs:List (Key×V)}{vs:List (Key×Value)}(h:jw w es kvs vs):KV kvs vs:=by
 induction h with
 |nil=>exact .nil
 |cons r _ ih=>exact .cons ⟨rfl,r⟩ ih
theorem jw.pairs{es:List DictEntry}{kvs:List (Key×V)}{vs:List (Key×Value)}(h:jw w es kvs vs):Pairs (dB P w) es vs:=by
 induction h with
 |nil=>exact .nil
 |cons r _ ih=>exact .cons (vf P w _ _) rfl ih
theorem jw.keys{es:List DictEntry}{kvs:List (Key×V)}{vs:List (Key×Value)}(h:jw w es kvs vs):∀e∈es,∃k,(dB P w).is k e.key=true/\e.hash=(dB P w).hash k:=by
 induction h with
 |nil=>intro e he;cases he
 | @cons x t v u es kvs vs r _ ih=>
  intro e he;rcases zaa.mp he with rfl|he
  ·exact⟨.inr x,vf P w _ _,rfl⟩
  ·exact ih e he
theorem jw.same{es:List DictEntry}{kvs:List (Key×V)}{vs:List (Key×Value)}(h:jw w es kvs vs):vs.map (·.1)=kvs.map (·.1):=by
 induction h with
 |nil=>rfl
 |cons r _ ih=>simp only[zar,ih]
theorem aaq{p:Addr}{es:Array DictEntry}{kvs:List (Key×V)}{vs:List (Key×Value)}(hl:K.lookup p=some ⟨.type "dict",none,.dict es n,#[]⟩)(hk:jw w es.toList kvs vs)(nd:(kvs.map (·.1)).Nodup):wB P w K (p,kvs):=fun h X=>
 ⟨vs,hk.kv,_,es,n,X p _ hl,⟨rfl,rfl,rfl⟩,rfl,(fun e he=>hk.keys e (by simpa using he)),hk.pairs,by rw[hk.same];exact nd⟩
end
section
variable {P:Program}{w:World}{K:Frag}{mg:Str->Option Value}{base:Heap}{k:Nat}
theorem cE.or{CX:bZ}{f:Addr}{fd:FuncData}{ps:List Str}{a b:Sp}(A:cE P w K mg base CX k f fd ps a)(C:cE P w K mg base CX k f fd ps b):cE P w K mg base CX k f fd ps (B.xv a b):=
 ⟨fun vs H Q E h=>h.elim (A.len vs H Q E)<|C.len vs H Q E,fun A' outer s H args us vs Q E hr e0 hb hv hs=>hs.elim (A.run A' outer s H args us vs Q E hr e0 hb hv)<|C.run A' outer s H args us vs Q E hr e0 hb hv⟩
theorem cE.weak{CX:bZ}{f:Addr}{fd:FuncData}{ps:List Str}{a b:Sp}(A:cE P w K mg base CX k f fd ps b)(h:∀vs H Q E,a vs H Q E->b vs H Q E):cE P w K mg base CX k f fd ps a:=
 ⟨fun vs H Q E q=>A.len vs H Q E<|h _ _ _ _ q,fun A' outer s H args us vs Q E hr e0 hb hv hs=>A.run A' outer s H args us vs Q E hr e0 hb hv<|h _ _ _ _ hs⟩
theorem kO.weak{x:Str}{a b:Sp}(T:kO P w K mg base k x b)(h:∀vs H Q E,a vs H Q E->b vs H Q E):kO P w K mg base k x a:=by
 obtain⟨f,fd,ps,F,r⟩:=T;exact⟨f,fd,ps,F.weak h,r⟩
theorem gA.weak{x:Str}{a b:Sp}(T:gA P w K mg base k (x,C,b))(h:∀vs H Q E,a vs H Q E->b vs H Q E):gA P w K mg base k (x,C,a):=by
 obtain⟨c,f,fd,ps,m,F,r⟩:=T;exact⟨c,f,fd,ps,m,F.weak h,r⟩
open PySem.W in
theorem aar{x:Str}(X:K.In base)(G:base.Ns mainGlobals mg)(e:nsIn K mainGlobals x=some (some<|.ref C))(q:excIn K C [.type "ValueError",.type "Exception",.type "BaseException",.type "object"] "ValueError.__new__"=true):wD mg base (x,C):=by
 refine⟨_,_,_,_,⟨mg_of X G e,?_⟩,PySem.F.excBase_ValueError⟩;unfold excIn at q
 split at q
 ·rename_i dd cd sl ho
  split at q
  ·rename_i C' bm k0 k1 k2 k3 n k5 hm hs
   simp only[zag,beq_iff_eq,zaW] at q
   obtain⟨⟨⟨⟨⟨rfl,rfl⟩,LX⟩,ht⟩,aD⟩,wa⟩:=q;obtain⟨nm,bs,mro,ns,qn,hd,sn,sub,ab,col,del⟩:=cd
   dsimp only at hm LX aD wa
   subst hm LX;obtain⟨sl⟩:=sl;have xu:sl=_:=hs;subst xu;exact⟨bm,ns,nm,qn,bs,hd,sn,sub,ab,col,dd,k0,k1,k2,k3,k5,_,X _ _ ho,.of_isNs<|isNs_of_in X aD,nsMap_none_of_in X aD wa,tail_of_in X ht⟩
  ·cases q
 ·cases q
end
end L2
namespace L2.B
open PySem PySem.Spec PyProof.Rows
def LY(v:V)(lo hi:Int)(H:Hp):Prop:=p6 v H\/∃i,v=.int i/\(i<lo\/hi<i)
def Cm:Sp:=fun vs H Q E=>∃(v:V) (lo hi:Int),vs=[v,.int lo,.int hi]/\((∃i,v=.int i/\lo<=i/\i<=hi/\Q (.bl true) H)\/(LY v lo hi H/\Q (.bl false) H))
theorem aas{K:Frag}:bT (Cm) (fun E=>aO K [("is_whole",nM)] [] (E:=E)) Hh Hg:=by
 intro vs H Q E h;have chain:∀(i lo hi:Int) (b:Bool) (H:Hp),decide (lo<=i/\i<=hi)=b->Q (.bl b) H->ae (aO K [("is_whole",nM)] [] (E:=E)) (.tD .LtE .LtE (.v 1) (.v 0)<|.v 2) [some<|.int i,some<|.int lo,some<|.int hi] H Q:=by
  intro i lo hi b H hb q;refine⟨_,rfl,_,rfl,trivial,_,rfl,?_⟩;refine jE (fun h1=>?_)<|fun h1=>?_
  ·refine⟨_,rfl,trivial,?_⟩;have d_:lo<=i:=of_decide_eq_true h1;have e:decide (i<=hi)=b:=by rw[<-hb];simp[d_]
   show Q (.bl<|decide<|i<=hi) H;rw[e];exact q
  ·have d_:¬lo<=i:=fun z=>h1 (zqT z);have e:b=false:=by rw[<-hb];simp[d_]
   have e2:decide (lo<=i)=false:=zqF d_;rw[e] at q
   first
    |exact q
    |(show Q (.bl<|decide<|lo<=i) H;rw[e2];exact q)
 obtain⟨v,lo,hi,rfl,⟨i,rfl,h1,h2,q⟩|⟨hn|⟨i,rfl,hb⟩,q⟩⟩:=h
 ·exact⟨_,rfl,_,rfl,.inl ⟨i,rfl,_,rfl,fk<|chain i lo hi true H (by simp[h1,h2]) q⟩⟩
 ·exact⟨_,rfl,_,rfl,.inr ⟨hn,_,rfl,gU q⟩⟩
 ·exact⟨_,rfl,_,rfl,.inl ⟨i,rfl,_,rfl,fk<|chain i lo hi false H (by rw[zqF];rintro⟨a,b⟩;lia) q⟩⟩
end L2.B
namespace L2
open PySem PySem.Spec PyProof.Rows
section
variable {Γ:bj}{D:Ends}{σ:St}{H:Hp}{r:List RS}{Q:VK}{QA:List V->Hp->Prop}{QT:Bool->Hp->Prop}
theorem iH{K:Frag}{b:Bool}{QB:Bool->Prop}(h:QB b):kD K (.bl b) H QB:=h
theorem iI(h:bg Γ a σ H fun b H1=>QT (!b) H1):bg Γ (.not a) σ H QT:=h
theorem jx(sp:Sp)(hs:Γ.fs j=sp)(h:aS Γ as σ H fun vs H1=>sp vs H1 (fun x H2=>kD Γ.K x H2 fun b=>QT b H2) Γ.E):bg Γ (.call j as) σ H QT:=by
 subst hs;show aS Γ as σ H fun vs H1=>Γ.fs j (vs++[]) H1 (fun x H2=>kD Γ.K x H2 fun b=>QT b H2) Γ.E;have e:(fun(vs:List V) (H1:Hp)=>Γ.fs j (vs++[]) H1 (fun x H2=>kD Γ.K x H2 fun b=>QT b H2) Γ.E)=fun vs H1=>Γ.fs j vs H1 (fun x H2=>kD Γ.K x H2 fun b=>QT b H2) Γ.E:=by
  funext vs H1;rw[zab]
 rw[e];exact h
theorem mJ(h:bg Γ a σ H fun c H1=>if c=true then QT true H1 else bg Γ b σ H1 QT):bg Γ (.or [a,b]) σ H QT:=h
theorem uJ(h:bg Γ a σ H fun c H1=>if c=true then bg Γ b σ H1 QT else QT false H1):bg Γ (.and [a,b]) σ H QT:=h
end
end L2
namespace L2.B
open PySem PySem.Spec PyProof.Rows
section
variable {Γ:bj}{σ:St}{H:Hp}{Q:VK}{QT:Bool->Hp->Prop}{K:Frag}
theorem Cn{r:List RE}(h:bg Γ a σ H fun c H1=>if c=true then QT true H1 else bg Γ (.or (b::r)) σ H1 QT):bg Γ (.or (a::b::r)) σ H QT:=h
theorem LZ(h:bg Γ a σ H QT):bg Γ (.or [a]) σ H QT:=h
theorem ya{r:List RE}(h:bg Γ a σ H fun c H1=>if c=true then bg Γ (.and (b::r)) σ H1 QT else QT false H1):bg Γ (.and (a::b::r)) σ H QT:=h
theorem aat(h:bg Γ a σ H QT):bg Γ (.and [a]) σ H QT:=h
theorem L0{T:Ty}(h:ae Γ a σ H fun x H1=>bH T x H1 fun b=>QT b H1):bg Γ (.eK T a) σ H QT:=by
 show gZ Γ.K (dQ (kH T)<|dP (ae Γ a)<|dP (tC<|.ty T.nm) ja) σ H QT;have e:∀(q:VK),(fun(x:V) (H1:Hp)=>bH T x H1 fun b=>q (.bl b) H1)=fun x H1=>kH T [x,.ty T.nm] H1 q:=by
  intro q;funext x H1;simp[kH]
 show ae Γ a σ H fun x H1=>kH T [x,.ty T.nm] H1 fun v H2=>kD Γ.K v H2 fun b=>QT b H2;rw[<-e];exact h
theorem fH{sd:Addr->List (Key×V)->Prop}{a:Addr}{i:Int}(h:H a=some (.tup xs))(e:fi xs i=some v)(q:Q v H):m4 K sd (.ref a) (.int i) H Q:=
 .inr (.inl ⟨_,_,_,_,rfl,rfl,aH.of h,e,q⟩)
theorem j_{x y:Int}(q:Q (.bl<|decide<|x=y) H):c9 K .Eq (.int x) (.int y) H Q:=by
 show Q (.bl<|false ^^ decide (V.int x=V.int y)) H;rw[zaI,show decide (V.int x=V.int y)=decide (x=y) from decide_eq_decide.mpr ⟨fun z=>by injection z,fun z=>by rw[z]⟩];exact q
theorem qk{x y:Int}(q:Q (.bl<|!decide (x=y)) H):c9 K .NotEq (.int x) (.int y) H Q:=by
 show Q (.bl<|true ^^ decide (V.int x=V.int y)) H;rw[zaN,show decide (V.int x=V.int y)=decide (x=y) from decide_eq_decide.mpr ⟨fun z=>by injection z,fun z=>by rw[z]⟩];exact q
theorem ib{i j:Int}(h:Q (.int<|i+j) H):mZ K .Add (.int i) (.int j) H Q:=h
end
end L2.B
namespace L2.N
open PySem PySem.Spec PyProof.Rows L2.B
end L2.N
namespace L2.N
open PySem PySem.Spec L2.B
theorem cQ{r:List RS}(h:aE Γ r D σ H):aE Γ [] {D with nx:=aE Γ r D} σ H:=h
end L2.N
namespace L2.B
open PySem PySem.Spec PyProof.Rows
theorem aau{K:Frag}{QQ:List V->Hp->Addr->Prop}{te:TE}{fv:List (Str×Nat)}{lo:Int}(hl:n<=1000000)(P:Nat->List V->Hp->Prop)(p0:P 0 [] H)
  (step:∀i ys H2,i<n->ay H H2->P i ys H2->∀Q':VK,(∀y H3,ay H2 H3->P (i+1) (ys++[y]) H3->Q' y H3)->te (some (.int<|lo+i)::cH σ fv) H2 Q')
  (fin:∀ys H2 p,ay H H2->P n ys H2->H2 p=none->QQ ys H2 p):∃W:Nat->Nat->List V->Hp->Prop,(∃m,W 0 m [] H)/\∀i m ys H2,W i m ys H2->
   ((gu lo n).stop i H2/\∀p,H2 p=none->QQ ys H2 p)\/
   ((gu lo n).go i H2/\∀x H3,(gu lo n).gR i H2 x H3->jG K none x H3 fun zs=>mY none (zs.map some++cH σ fv) H3 fun b H5=>
    if b=true then te (zs.map some++cH σ fv) H5 fun y H6=>ys.length<sizeLine/\∃m',m'<m/\W (i+1) m' (ys++[y]) H6 else ∃m',m'<m/\W (i+1) m' ys H5):=by
 refine⟨fun i m ys H2=>m=n - i/\i<=n/\ys.length=i/\ay H H2/\P i ys H2,⟨_,rfl,zqZ _,rfl,ay.refl _,p0⟩,?_⟩;rintro i m ys H2 ⟨rfl,hi,hy,s,p⟩;by_cases aX:i<n
 ·refine .inr ⟨aX,?_⟩;rintro x H3 ⟨rfl,rfl⟩;exact step i ys _ aX s p _ fun y H4 s4 p4=>⟨dN (by lia),n - (i+1),by lia,rfl,aX,by simp[hy],s.trans s4,p4⟩
 ·have jS:i=n:=by lia
  subst jS;exact .inl ⟨zqR _,fun q hq=>fin ys _ q s p hq⟩
end L2.B
namespace L2.N
open PySem PySem.Spec L2.B
section
variable {Γ:bj}{D:Ends}{σ:St}{H:Hp}{r:List RS}{Q:VK}
theorem yb{x:RE}(A B:VK)(l9:∀v H1,A v H1↔B v H1)(ha:ae Γ x σ H A):ae Γ x σ H B:=by
 have:A=B:=funext fun x=>funext fun H1=>propext (l9 x H1);rw[<-this];exact ha
theorem Co{m:Str}(C:Addr)(sp:Sp)(hm:Γ.ms j=(C,sp))(h:ae Γ o σ H fun x H1=>∃p dx fs,x=.ref p/\H1 p=some (.ins C dx fs)/\fs.lookup m=none/\ae Γ a σ H1 fun y H2=>ae Γ b σ H2 fun z H3=>sp [x,y,z] H3 Q Γ.E):ae Γ (.aM j m o [a,b]) σ H Q:=by
 show oM (Γ.ms j).1 m (Γ.ms j).2 [] Γ.E (ae Γ o) (aS Γ [a,b]) σ H Q;rw[hm];exact h
theorem fI{x:RE}(h:ae Γ x σ H fun v H1=>sT Γ.K v H1 fun n=>Q (.int n) H1):ae Γ (.blt .len [x]) σ H Q:=h
end
section
variable {Γ:bj}{D:Ends}{σ:St}{H:Hp}{r:List RS}{Q:VK}{QT:Bool->Hp->Prop}
theorem lA{f:Str}(h:ae Γ e σ H fun v H1=>ae Γ o σ H1 fun x H2=>∃a C dx fs,x=.ref a/\H2 a=some (.ins C dx fs)/\fh Γ.K C/\eW Γ.K C f/\fs.length<1000/\aE Γ r D σ (upd H2 a<|.ins C dx<|bN f v fs)):aE Γ (.dR o f e::r) D σ H:=h
end
theorem Cp{r:List RS}{x:RE}(h:ae Γ x σ H fun v H1=>∃a,v=.ref a/\(∃xs,au Γ.K H1 a xs)/\∃W:Nat->Nat->St->Hp->Prop,(∃m,W 0 m σ H1)/\∀j m σ H,W j m σ H->
  ((fO Γ.K a).stop j H/\({D with nx:=aE Γ r D}:Ends).nx σ H)\/((fO Γ.K a).go j H/\∃N:St->Hp->Prop,(∀σ' H',N σ' H'->∃m',m'<m/\W (j+1) m' σ' H')/\∀x H',(fO Γ.K a).gR j H x H'->fg i x σ H' fun σ2 H2=>aE Γ body {({D with nx:=aE Γ r D}:Ends) with nx:=N,ct:=N,bk:=({D with nx:=aE Γ r D}:Ends).nx} σ2 H2)):
  aE Γ (.iy i .list [x] body::r) D σ H:=yb (x:=x) _ _ (fun _ _=>Iff.rfl) h
theorem wKC:(("keep":Str)==("cut":Str))=false:=by decide+kernel
theorem wPC:(("put":Str)==("cut":Str))=false:=by decide+kernel
theorem wCC:(("cut":Str)==("cut":Str))=true:=by decide+kernel
theorem aay{l r:List Nat}{n:Int}(h:Run l (.keep n::ps) r):∃a l' r',l=a++l'/\r=a++r'/\n=a.length/\Run l' ps r':=by
 cases h with|keep e h=>exact⟨_,_,_,rfl,rfl,e,h⟩
theorem aaz{l r:List Nat}(h:Run l (.put s::ps) r):∃r',r=s.cps.toList++r'/\Run l ps r':=by
 cases h with|put h=>exact⟨_,rfl,h⟩
theorem aaA{l r:List Nat}(h:Run l (.cut s::ps) r):∃l',l=s.cps.toList++l'/\Run l' ps r:=by
 cases h with|cut h=>exact⟨_,rfl,h⟩
theorem L1:(("keep":Str)==("keep":Str))=true:=by decide+kernel
theorem L3:(("cut":Str)==("keep":Str))=false:=by decide+kernel
theorem aaB{K:Frag}:bT (xy) (fun E=>aO K [] [] (E:=E)) HF A0:=by
 intro vs H Q E h;obtain⟨x,a,xs,ps,r,rfl,hx,ha,de,aD,hr,BW,q⟩:=h;have hlen:=Paired.length de;refine⟨_,rfl,a,rfl,⟨_,au.of ha⟩,mU (K:=K) (a:=a) (xs:=xs) (fun i σ H2=>∃l1 l2 q1 q2 w v,σ=[some (.str x),some (.ref a),some (.str ⟨q1.toArray⟩),some (.int ((l1.length:Nat):Int)),w,v]/\H2=H/\
   x.cps.toList=l1++l2/\r=q1++q2/\Run l2 (ps.drop i) q2)
  ⟨[],x.cps.toList,[],r,none,none,rfl,rfl,rfl,rfl,hr⟩ (fun i σ H2 _ ⟨_,_,_,_,_,_,_,e,_⟩=>e ▸ au.of ha) ?_ ?_⟩
 ·rintro i y σ H2 hi ⟨l1,l2,q1,q2,w,v,rfl,rfl,e1,e2,ia⟩;obtain⟨pt,pN,b,rfl,hb⟩:=de.get hi;have fS:i<ps.length:=(zah.mp pN).1;have ed:ps.drop i=pt::ps.drop (i+1):=by
   rw[zbp fS]
   congr 1
   exact zal<|(zav fS).symm.trans pN
  rw[ed] at ia;obtain⟨la,lb,qa,qb,rfl,rfl,Cq,one⟩:=Kz ia;have uK:=aD pt (zan pN);have L4:q1.length+qa.length<=1000000:=by rw[e2] at BW;simp at BW;lia
  refine⟨b,_,rfl,.inl<|aH.of hb,rfl,_,_,rfl,_,_,rfl,rfl,?_⟩;cases pt with
  |put s=>
   obtain⟨rfl,rfl⟩:=one;refine⟨_,rfl,_,rfl,_,rfl,_,rfl,cU (by rw[len_list,len_list];exact L4),?_⟩
   refine⟨l1,lb,q1++s.cps.toList,qb,some<|.str "put",some<|.str s,?_,rfl,e1,by rw[e2];simp,Cq⟩
   show[_,_,some<|V.str<|⟨q1.toArray⟩++s,_,_,_]=_;rw[show(⟨q1.toArray⟩++s:Str)=⟨(q1++s.cps.toList).toArray⟩ from gK (by rw[app_list])]
   rfl
  |cut s=>
   obtain⟨rfl,rfl⟩:=one;refine⟨_,rfl,_,rfl,_,rfl,_,rfl,_,rfl,_,rfl,cU uK,?_⟩;refine⟨l1++s.cps.toList,lb,q1,qb,some<|.str "cut",some<|.str s,?_,rfl,by rw[e1];simp,e2,Cq⟩
   show[_,_,_,some<|V.int<|(l1.length:Int)+(s.length:Int),_,_]=_;rw[zqA,<-len_list,zbx]
   rfl
  |keep n=>
   obtain⟨rfl,hn⟩:=one;refine⟨_,rfl,_,rfl,_,rfl,_,rfl,?_⟩;refine⟨_,rfl,_,rfl,_,rfl,_,rfl,_,rfl,_,rfl,_,rfl,cU hx.1,?_⟩;rw[KC e1 n hn];refine⟨cU (by rw[len_list,len_list];exact L4),?_⟩
   refine⟨_,rfl,_,rfl,?_⟩;refine⟨l1++la,lb,q1++la,qb,some<|.str "keep",some<|.int n,?_,rfl,by rw[e1];simp,by rw[e2];simp,Cq⟩
   show[_,_,some<|V.str<|⟨q1.toArray⟩++ ⟨la.toArray⟩,some<|V.int<|(l1.length:Int)+n,_,_]=_;rw[show(⟨q1.toArray⟩++ ⟨la.toArray⟩:Str)=⟨(q1++la).toArray⟩ from gK (by rw[app_list]),zqA,hn,zbx]
   rfl
 ·rintro σ H2 ⟨l1,l2,q1,q2,w,v,rfl,rfl,e1,e2,ia⟩;rw[hlen,zbQ] at ia;cases ia;rw[zab] at e2;subst e2;exact⟨_,rfl,q⟩
section
variable {Γ:bj}{D:Ends}{σ:St}{H:Hp}{r:List RS}{Q:VK}
theorem nZ{i:Int}(h:Q (.int<|-i) H):ae Γ (.neg<|.c<|.int i) σ H Q:=h
theorem Cr{ix:RE}(h:ae Γ e σ H fun v H1=>ae Γ o σ H1 fun x H2=>ae Γ ix σ H2 fun y H3=>zA x y v H3 fun H4=>aE Γ r D σ H4):aE Γ (.set o ix e::r) D σ H:=h
theorem aaC{is:List Nat}{x:RE}(h:ae Γ x σ H fun v H1=>∃a,v=.ref a/\(∃xs,au Γ.K H1 a xs)/\∃W:Nat->Nat->St->Hp->Prop,(∃m,W 0 m σ H1)/\∀j m σ H,W j m σ H->
  ((fO Γ.K a).stop j H/\({D with nx:=aE Γ r D}:Ends).nx σ H)\/((fO Γ.K a).go j H/\∃N:St->Hp->Prop,(∀σ' H',N σ' H'->∃m',m'<m/\W (j+1) m' σ' H')/\∀x H',(fO Γ.K a).gR j H x H'->o9 Γ.K is.length (m8 is) x σ H' fun σ2 H2=>aE Γ body {({D with nx:=aE Γ r D}:Ends) with nx:=N,ct:=N,bk:=({D with nx:=aE Γ r D}:Ends).nx} σ2 H2)):
  aE Γ (.qW is .list [x] body::r) D σ H:=yb (x:=x) _ _ (fun _ _=>Iff.rfl) h
end
theorem aaD{l r:List Nat}(h:Run l [] r):l=[]/\r=[]:=by cases h;exact⟨rfl,rfl⟩
theorem ka{K:Frag}{x y:Int}(q:Q (.bl<|decide<|y<x) H):c9 K .Gt (.int x) (.int y) H Q:=⟨trivial,q⟩
section
variable {Γ:bj}{D:Ends}{σ:St}{H:Hp}{r:List RS}{Q:VK}
theorem aaE{lo hi:RE}(h:ae Γ a σ H fun x H1=>ae Γ lo σ H1 fun i H2=>∃i':Int,i=.int i'/\ae Γ hi σ H2 fun j H3=>∃j':Int,j=.int j'/\oY Γ.K x (some i') (some j') H3 Q):ae Γ (.sl a (some lo)<|some hi) σ H Q:=h
theorem L5{x:RE}(h:ae Γ x σ H fun v H1=>∃n:Int,[v]=[.int n]/\ -(2 ^ 62)<=n/\n<2 ^ 62/\∃W:Nat->Nat->St->Hp->Prop,(∃m,W 0 m σ H1)/\∀j m σ H,W j m σ H->
  ((gu 0 n.toNat).stop j H/\({D with nx:=aE Γ r D}:Ends).nx σ H)\/((gu 0 n.toNat).go j H/\∃N:St->Hp->Prop,(∀σ' H',N σ' H'->∃m',m'<m/\W (j+1) m' σ' H')/\∀x H',(gu 0 n.toNat).gR j H x H'->fg i x σ H' fun σ2 H2=>aE Γ body {({D with nx:=aE Γ r D}:Ends) with nx:=N,ct:=N,bk:=({D with nx:=aE Γ r D}:Ends).nx} σ2 H2)):
  aE Γ (.iy i .gP [x] body::r) D σ H:=yb (x:=x) _ _ (fun _ _=>Iff.rfl) h
end
theorem Cs{K:Frag}{i j:Int}(h:Q (.int<|i - j) H):mZ K .Sub (.int i) (.int j) H Q:=⟨trivial,h⟩
theorem ltI{K:Frag}{x y:Int}(q:Q (.bl<|decide<|x<y) H):c9 K .Lt (.int x) (.int y) H Q:=⟨trivial,q⟩
theorem uL{t:RE}(h:bg Γ t σ H fun c H1=>if c=true then ae Γ a σ H1 Q else ae Γ b σ H1 Q):ae Γ (.gY t a b) σ H Q:=h
end L2.N
namespace L2
open PySem PySem.Spec PyProof.Rows
theorem aaF{r:List RS}{is:List Nat}(h:ae Γ e σ H fun x H1=>o9 Γ.K is.length (m8 is) x σ H1 (aE Γ r D)):aE Γ (.tE is e::r) D σ H:=h
end L2
namespace L2.B
open PySem PySem.Spec PyProof.Rows
section
variable {H:Hp}{Q:VK}{E:XK}
theorem aaG{a b:Addr}{one:List Pt}{l m n:List Nat}(h1:bx H a one l m)(h2:bx H b other l n)(hl:one.length+other.length<=30000)(ht:az one+az other<=100000)
  (q:∀(t c d:Addr) (H':Hp) (ps qs:List Pt) (r:List Nat),ay H H'->H c=none->H d=none->H' t=some (.tup [.ref c,.ref d])->bx H' c ps n r->bx H' d qs m r->Passed one other ps qs l m n->Q (.ref t) H'):xZ [.ref a,.ref b] H Q E:=by
 obtain⟨xs,a1,a2,a3⟩:=h1;obtain⟨ys,b1,b2,b3⟩:=h2;refine⟨a,b,xs,ys,one,other,l,m,n,rfl,a1,b1,a2,b2,a3.ok,b3.ok,a3.ch,b3.ch,hl,ht,a3.run,b3.run,fun t c d H' zs ws ps qs s hc hd _ h3 h4 h5 h6 h7 P=>?_⟩;obtain⟨r,r1,r2⟩:=P.runs;exact q t c d H' ps qs r s hc hd h3 ⟨zs,h4,h6,P.LA,P.LC,r1⟩ ⟨ws,h5,h7,P.LB,P.LD,r2⟩ P
end
end L2.B
namespace L2.N
open PySem PySem.Spec L2.B
section
variable {K:Frag}{H:Hp}{Q:VK}{Γ:bj}{σ:St}{D:Ends}
theorem n_{r:List RE}(h:ae Γ a σ H fun x H1=>∃c,x=.bl c/\if c=true then ae Γ (.and (b::r)) σ H1 Q else Q (.bl false) H1):ae Γ (.and (a::b::r)) σ H Q:=h
theorem yc(h:ae Γ a σ H Q):ae Γ (.and [a]) σ H Q:=h
end
def gV:Option Nat->V
 |none=>.aC
 |some n=>.int n
section
variable {K:Frag}
end
theorem aaH{hi:RE}(h:ae Γ a σ H fun x H1=>ae Γ hi σ H1 fun j H3=>∃j':Int,j=.int j'/\oY Γ.K x none (some j') H3 Q):ae Γ (.sl a none<|some hi) σ H Q:=h
section
variable {K:Frag}
theorem aaI{r:List RS}(h:ae Γ e σ H fun v H1=>aE Γ r D (σ.set i<|some v) H1):aE Γ (.v3 i e::r) D σ H:=h
end
section
variable {K:Frag}
end
section
variable {K:Frag}
end
theorem aaJ{α:Type}{l:List α}{i:Nat}{x:α}(h:l[i]?=some x):l.take (i+1)=l.take i++[x]:=by
 have aX:i<l.length:=(zah.mp h).1;rw[List.take_succ_eq_append_getElem aX,(zah.mp h).2]
section
variable {K:Frag}
end
theorem aaK{K:Frag}{QQ:List V->Hp->Addr->Prop}{te:TE}{fv:List (Str×Nat)}{a b:Addr}{ys:List V}(ha:H a=some (.lst xs))(hb:H b=some (.lst ys))(hl:xs.length<=1000000)(P:Nat->List V->Hp->Prop)(p0:P 0 [] H)(pm:∀i zs H2 H3,P i zs H2->ay H2 H3->P i zs H3)
  (step:∀i x y zs H2,xs[i]?=some x->ys[i]?=some y->ay H H2->P i zs H2->∀Q':VK,(∀z H3,ay H2 H3->P (i+1) (zs++[z]) H3->Q' z H3)->te (some x::some y::cH σ fv) H2 Q')
  (fin:∀zs H2 p,ay H H2->P (min xs.length ys.length) zs H2->H2 p=none->QQ zs H2 p):∃W:Nat->Nat->List V->Hp->Prop,(∃m,W 0 m [] H)/\∀i m zs H2,W i m zs H2->
   ((tG K a b).stop i H2/\∀p,H2 p=none->QQ zs H2 p)\/
   ((tG K a b).go i H2/\∀x H3,(tG K a b).gR i H2 x H3->jG K (some 2) x H3 fun ws=>mY none (ws.map some++cH σ fv) H3 fun b H5=>
    if b=true then te (ws.map some++cH σ fv) H5 fun y H6=>zs.length<sizeLine/\∃m',m'<m/\W (i+1) m' (zs++[y]) H6 else ∃m',m'<m/\W (i+1) m' zs H5):=by
 refine⟨fun i m zs H2=>m=min xs.length ys.length - i/\i<=min xs.length ys.length/\zs.length=i/\ay H H2/\P i zs H2,⟨_,rfl,zqZ _,rfl,ay.refl _,p0⟩,?_⟩;rintro i m zs H2 ⟨rfl,hi,hy,s,p⟩;by_cases aX:i<min xs.length ys.length
 ·have h1:i<xs.length:=by lia
  have h2:i<ys.length:=by lia
  refine .inr ⟨⟨xs,ys,au.of<|s _ _ ha,au.of<|s _ _ hb,h1,h2⟩,?_⟩;rintro x H3 ⟨T,hT,rfl,hx⟩;have jd:=hx xs ys xs[i] ys[i] (au.of<|s _ _ ha) (au.of<|s _ _ hb) (zav h1) (zav h2);subst jd;have s3:=sameNew (o:=.tup [xs[i],ys[i]]) hT;refine⟨T,_,rfl,aH.of aw,rfl,?_⟩;exact step i xs[i] ys[i] zs _ (zav h1) (zav h2) (s.trans s3) (pm _ _ _ _ p s3) _ fun y H4 s4 p4=>⟨dN (by lia),min xs.length ys.length - (i+1),by lia,rfl,aX,by simp[hy],(s.trans s3).trans s4,p4⟩
 ·have jS:i=min xs.length ys.length:=by lia
  subst jS;exact .inl ⟨⟨xs,ys,au.of<|s _ _ ha,au.of<|s _ _ hb,rfl⟩,fun q hq=>fin zs _ q s p hq⟩
section
variable {K:Frag}
end
section
variable {K:Frag}
end
section
variable {Γ:bj}{σ:St}{n:Nat}{H0:Hp}
theorem aaL{lo:RE}(h:ae Γ a σ H fun x H1=>ae Γ lo σ H1 fun j H3=>∃j':Int,j=.int j'/\oY Γ.K x (some j') none H3 Q):ae Γ (.sl a (some lo) none) σ H Q:=h
theorem aaM(h:aS Γ as σ H fun vs H1=>wJ Γ.K vs H1 Q):ae Γ (.xt Be as) σ H Q:=h
theorem L7(xs:List V)(i:Nat):d6 xs (some (i:Int)) none=xs.drop i:=by
 unfold d6;rw[HT.qM,HT.zq];by_cases z:i<=xs.length
 ·rw[Nat.min_eq_left z,zaV (by rw[zaC];lia)]
 ·rw[Nat.min_eq_right (by lia),List.drop_eq_nil_of_le<|zqR _,List.drop_eq_nil_of_le (by lia),List.take_nil]
end
theorem L8(h:s.length=0):s="":=by
 have e:s.cps.toList=[]:=zbW (by rw[<-len_list];exact h)
 exact gK (by rw[e];rfl)
theorem kb:∀(ps:List Pt) (a:Str),(∀p∈ps,aV p)->chainOk a ps=true->ps.length<=2*B.az ps+(if a="keep" then 0 else 1)
 |[],a,_,_=>zqZ _
 |p::r,a,ho,hc=>by
  have d5:(gc p.word a && chainOk p.word r)=true:=hc;rw[zag] at d5;have ih:=kb r p.word (fun q hq=>ho q<|.tail _ hq) d5.2;have ht:B.az (p::r)=B.fB p+B.az r:=by simp[B.az]
  have hp:=ho p (.head _);rw[zak,ht];cases p with
  |keep n=>
   have e:(Pt.keep n).word=("keep":Str):=rfl;rw[e,if_pos rfl] at ih;have ha:a≠"keep":=by
    intro z;rw[e,z] at d5;have:=d5.1
    revert this
    decide+kernel
   rw[if_neg ha];show r.length+1<=2* (0+B.az r)+1;lia
  |put s=>
   have e:(Pt.put s).word≠ ("keep":Str):=by show("put":Str)≠"keep";decide
   rw[if_neg e] at ih;have hs:1<=s.length:=by
    have:=hp.2;by_cases z:s.length=0
    ·exact absurd (L8 z) this
    ·lia
   show r.length+1<=2* (s.length+B.az r)+_;lia
  |cut s=>
   have e:(Pt.cut s).word≠ ("keep":Str):=by show("cut":Str)≠"keep";decide
   rw[if_neg e] at ih;have hs:1<=s.length:=by
    have:=hp.2;by_cases z:s.length=0
    ·exact absurd (L8 z) this
    ·lia
   show r.length+1<=2* (s.length+B.az r)+_;lia
def cX(H:Hp):List V->List Nat->List Nat->Nat->Prop
 |[],l,r,t=>l=r/\t=0
 |v::vs,l,r,t=>∃a ps m t',v=.ref a/\bx H a ps l m/\cX H vs m r t'/\t=B.az ps+t'
theorem cX.same(s:ay H H'):∀{vs:List V}{l r:List Nat}{t:Nat},cX H vs l r t->cX H' vs l r t
 |[],_,_,_,h=>h
 |v::vs,_,_,_,⟨a,ps,m,t',e,h1,h2,h3⟩=>⟨a,ps,m,t',e,h1.same s,cX.same s h2,h3⟩
theorem cX.app:∀{xs ys:List V}{l m r:List Nat}{t t':Nat},cX H xs l m t->cX H ys m r t'->cX H (xs++ys) l r (t+t')
 |[],_,_,_,_,_,_,⟨e,z⟩,h=>by rw[e,z,zbg];exact h
 |v::vs,_,_,_,_,_,_,⟨a,ps,m,t',e,h1,h2,h3⟩,h=>⟨a,ps,m,_,e,h1,cX.app h2 h,by rw[h3,Nat.add_assoc]⟩
theorem L9:∀(xs:List V) (i:Nat),(da xs)[i]?=xs[2*i]?
 |[],i=>by simp[da]
 |[x],0=>by simp[da]
 |[x],i+1=>by
  have:2* (i+1)=(2*i+1)+1:=by lia
  rw[this]
  simp[da]
 |x::y::r,0=>by simp[da]
 |x::y::r,i+1=>by
  have:2* (i+1)=(2*i)+1+1:=by lia
  rw[this,zaQ,zaQ,<-L9 r i]
  simp[da]
theorem Ct:∀(xs:List V),(da xs).length=(xs.length+1) / 2
 |[]=>by simp[da]
 |[x]=>by simp[da]
 |x::y::r=>by
  have e:da (x::y::r)=x::da r:=by simp[da]
  rw[e,zak,Ct r];show _=(r.length+1+1+1) / 2;lia
def Cu:Sp:=fun vs H Q E=>∃(a:Addr) (xs:List V) (l r:List Nat) (t:Nat),vs=[.ref a]/\H a=some (.lst xs)/\cX H xs l r t/\1<=xs.length/\xs.length<=10000/\t<=14000/\
 ∀(c:Addr) (ps:List Pt) (H':Hp),ay H H'->bx H' c ps l r->B.az ps<=t->(H c=none\/xs=[.ref c])->Q (.ref c) H'
def Cv(H:Hp)(xs:List V):Prop:= ∃c r,xs=V.ref c::r/\H c=none
theorem aaN{H:Hp}{x y:V}(hx:xs[2*i]?=some x)(hy:xs[2*i+1]?=some y):xs.drop (2*i)=x::y::xs.drop (2* (i+1)):=by
 obtain⟨h1,e1⟩:=zah.mp hx;obtain⟨h2,e2⟩:=zah.mp hy;rw[zbp h1,zbp h2,e1,e2,show 2* (i+1)=2*i+1+1 by lia]
section
variable {K:Frag}
theorem aaO:bT (Cu) (fun E=>aO K [("then",xV)] [] (E:=E)) HZ HY:=by
 intro vs H Q E h;obtain⟨a0,uM,l,r,t,rfl,ha,hc,h1,h2,ht,q⟩:=h;refine p7 (fun m σ H2=>∃(a:Addr) (xs:List V) (t2:Nat) (u1:Option V),m=xs.length/\σ=[some<|.ref a,u1]/\ay H H2/\H2 a=some (.lst xs)/\cX H2 xs l r t2/\1<=xs.length/\xs.length<=10000/\t2<=t/\(xs=uM\/Cv H xs)) ⟨_,a0,uM,t,none,rfl,rfl,ay.refl _,ha,hc,h1,h2,zqR _,.inl rfl⟩ ?_;rintro m σ H2 ⟨a,xs,t2,u1,rfl,rfl,s2,gg,cj,k1,k2,k3,k4⟩;refine ba<|fI<|af rfl<|.inl ⟨_,au.of gg,aA<|N.ka ⟨_,rfl,?_⟩⟩;by_cases z:1<xs.length
 ·refine iT ?_ (zqT (by lia))
  refine⟨fun σ' H'=>∃(a':Addr) (bo:List V) (t3:Nat) (u1:Option V),bo.length<xs.length/\σ'=[some<|.ref a',u1]/\ay H H'/\H' a'=some (.lst bo)/\cX H' bo l r t3/\1<=bo.length/\bo.length<=10000/\t3<=t/\(bo=uM\/Cv H bo),?_,?_⟩
  ·rintro σ' H' ⟨a',bo,t3,u1,aX,e,s',kT,d5,j1,j2,j3,j4⟩;exact⟨_,aX,a',bo,t3,u1,rfl,e,s',kT,d5,j1,j2,j3,j4⟩
  ·refine aaI ?_;refine⟨_,rfl,a,xs,rfl,au.of gg,(by decide),fun p1 f1=>?_⟩
   rw[XO];have s3:=sameNew (o:=.lst (da xs)) f1;have hV:upd H2 p1 (.lst<|da xs) p1=some (.lst<|da xs):=aw;have rT:=s3 _ _ gg;generalize upd H2 p1 (.lst<|da xs)=H3 at s3 hV rT⊢;refine⟨_,rfl,a,xs,rfl,au.of rT,(by decide),fun p2 f2=>?_⟩
   rw[XQ];have s4:=sameNew (o:=.lst (da<|xs.drop 1)) f2;have jc:upd H3 p2 (.lst<|da<|xs.drop 1) p2=some (.lst<|da<|xs.drop 1):=aw;have Cw:=s4 _ _ hV;have L_:=s4 _ _ rT;generalize upd H3 p2 (.lst<|da<|xs.drop 1)=H4 at s4 jc Cw L_⊢;have Cy:=s3.trans s4;have Cz:=cX.same Cy cj;have Ma:=Ct xs;have CA:=Ct (xs.drop 1);rw[zaC] at CA;refine⟨p1,p2,rfl,⟨_,au.of Cw⟩,⟨_,au.of jc⟩,?_⟩;refine aaK Cw jc (by lia) (fun i zs H5=>zs.length=i/\(i=0\/Cv H zs)/\∃(m:List Nat) (t5 t6:Nat),cX H5 zs l m t5/\cX H5 (xs.drop<|2*i) m r t6/\t5+t6<=t) ⟨rfl,.inl rfl,l,0,t2,⟨rfl,rfl⟩,Cz,by lia⟩ (fun i zs H5 H6 ⟨e,nf,m,t5,t6,c1,c2,c3⟩ s=>⟨e,nf,m,t5,t6,cX.same s c1,cX.same s c2,c3⟩) ?_ ?_
   ·intro i x y zs H5 hx hy s5 ⟨ez,nf,m,t5,t6,c1,c2,c3⟩ Q' kk;rw[L9] at hx hy;have sQ:xs[2*i+1]?=some y:=by
     rw[List.getElem?_drop] at hy;rw[show 2*i+1=1+2*i by lia];exact hy
    rw[aaN (H:=H5) hx sQ] at c2;obtain⟨a1,iY,m1,t7,rfl,d1,⟨a2,uN,m2,t8,rfl,d2,c4,e8⟩,e7⟩:=c2;have n1:=kb iY "" d1.chg.ok d1.chg.ch;have n2:=kb uN "" d2.chg.ok d2.chg.ch;have l1:iY.length<=2*B.az iY+1:=n1;have l2:uN.length<=2*B.az uN+1:=n2;refine cC xV rfl<|ax<|af rfl<|ax<|af rfl<|aK<|aao d1 d2 (by lia) (by lia) fun c H6 ps s6 fc dc J=>kk _ _ s6 ?_
    have jt:=J.az;refine⟨by rw[zqA,ez];rfl,.inr ?_,m2,t5+B.az ps,t8,cX.app (cX.same s6 c1) ⟨c,ps,m2,0,rfl,dc,⟨rfl,rfl⟩,rfl⟩,cX.same s6 c4,by lia⟩
    have rV:H c=none:=(s2.trans<|Cy.trans s5).free fc;rcases nf with rfl|⟨c0,r0,rfl,f0⟩
    ·have:zs=[]:=zbW ez;subst this;exact⟨c,[],rfl,rV⟩
    ·exact⟨c0,r0++[.ref c],rfl,f0⟩
   ·intro zs H5 p5 s5 ⟨ez,nf,m,t5,t6,c1,c2,c3⟩ f5;rw[Ma,CA] at ez c2;have en:min ((xs.length+1) / 2) ((xs.length - 1+1) / 2)=xs.length / 2:=by lia
    rw[en] at ez c2;have s6:=sameNew (o:=.lst zs) f5;have h5:upd H5 p5 (.lst zs) p5=some (.lst zs):=aw;have uO:=(s5.trans s6) _ _ L_;have Mb:=cX.same s6 c1;have Mc:=cX.same s6 c2;generalize upd H5 p5 (.lst zs)=H6 at s6 h5 uO Mb Mc⊢;have og:=(Cy.trans s5).trans s6;refine bC<|bU<|af rfl<|aaL<|af rfl<|bU<|aA<|fI<|af rfl<|.inl ⟨_,au.of h5,⟨.inl ⟨by decide,by decide⟩,⟨_,rfl,.inl ⟨xs,au.of uO,fun w fw=>?_⟩⟩⟩⟩
    have ew:d6 xs (some<|2* ((zs.length:Nat):Int)) none=xs.drop (2* (xs.length / 2)):=by
     rw[show 2* ((zs.length:Nat):Int)=((2* (xs.length / 2):Nat):Int) by rw[ez];lia,L7]
    rw[ew];have s7:=sameNew (o:=.lst (xs.drop<|2* (xs.length / 2))) fw;refine .inl ⟨p5,w,zs,_,rfl,rfl,s7 _ _ h5,aw,cU (by rw[zaC];lia),fun a' fa'=>?_⟩
    have s8:=sameNew (o:=.lst (zs++xs.drop (2* (xs.length / 2)))) fa';refine⟨a',_,t5+t6,_,?_,rfl,s2.trans<|(og.trans s7).trans s8,aw,cX.same (s7.trans s8)<|cX.app Mb Mc,?_,?_,c3,.inr ?_⟩
    ·rw[zqA,zaC];lia
    ·rw[zqA,zaC];lia
    ·rw[zqA,zaC];lia
    ·rw[Ma,CA,en] at nf;rcases nf with nf|⟨c0,r0,e0,f0⟩
     ·exact absurd nf (by lia)
     ·exact⟨c0,_,by rw[e0];rfl,f0⟩
 ·refine iF ?_ (zqF (by lia))
  obtain⟨v,rfl⟩:∃v,xs=[v]:=by
   match xs,k1,z with
   |[v],_,_=>exact⟨v,rfl⟩
   |v::w::r,_,z=>exact absurd (by show 1<r.length+1+1;lia) z
  obtain⟨c,ps,m,t',rfl,cN,⟨rfl,rfl⟩,e⟩:=cj;refine cP<|bw<|af rfl<|aA<|dG gg rfl<|q c ps H2 s2 cN (by lia) ?_
  rcases k4 with k4|⟨c0,r0,e0,f0⟩
  ·exact .inr k4.symm
  ·cases e0;exact .inl f0
end
def h6(here:Int)(lo pa ed be lg:Addr):List (Str×V):=[("here",.int here),("lengths",.ref lo),("parents",.ref pa),("edges",.ref ed),("below",.ref be),("last_gone",.ref lg)]
section
variable {here:Int}{lo pa ed be lg:Addr}
theorem i5:(h6 here lo pa ed be lg).lookup ("here":Str)=some (V.int here):=mz
theorem yd:(h6 here lo pa ed be lg).lookup ("lengths":Str)=some (V.ref lo):=(df (by decide+kernel)).trans mz
theorem lB:(h6 here lo pa ed be lg).lookup ("parents":Str)=some (V.ref pa):=(df (by decide+kernel)).trans ((df (by decide+kernel)).trans mz)
theorem rW:(h6 here lo pa ed be lg).lookup ("edges":Str)=some (V.ref ed):=(df (by decide+kernel)).trans ((df (by decide+kernel)).trans<|(df (by decide+kernel)).trans mz)
theorem ye:(h6 here lo pa ed be lg).lookup ("below":Str)=some (V.ref be):=(df (by decide+kernel)).trans ((df (by decide+kernel)).trans<|(df (by decide+kernel)).trans<|(df (by decide+kernel)).trans mz)
theorem CB:(h6 here lo pa ed be lg).lookup ("last_gone":Str)=some (V.ref lg):=(df (by decide+kernel)).trans ((df (by decide+kernel)).trans<|(df (by decide+kernel)).trans<|(df (by decide+kernel)).trans<|(df (by decide+kernel)).trans mz)
theorem aaQ{m:Str}(h1:¬m="here")(h2:¬m="lengths")(h3:¬m="parents")(h4:¬m="edges")(h5:¬m="below")(h6':¬m="last_gone"):(h6 here lo pa ed be lg).lookup m=none:=
 (df h1).trans ((df h2).trans<|(df h3).trans<|(df h4).trans<|(df h5).trans<|(df h6').trans rfl)
def kd:List Str:=["here","lengths","parents","edges","below","last_gone"]
theorem gi{here:Int}{pa ed:Addr}{m:Str}(h:kd.all (fun x=>decide<|¬m=x)=true:=by decide+kernel):(h6 here lo pa ed be lg).lookup m=none:=by
 have g:∀x∈kd,¬m=x:=fun x hx=>of_decide_eq_true (List.all_eq_true.mp h x hx);exact aaQ (g _ (by unfold kd;simp)) (g _ (by unfold kd;simp)) (g _ (by unfold kd;simp)) (g _ (by unfold kd;simp)) (g _ (by unfold kd;simp))<|g _ (by unfold kd;simp)
end
structure gN (pars:List (Option Nat)):Prop where
 rt:pars[0]?=some none
 up:∀i,0<i->i<pars.length->∃j,pars[i]?=some (some j)/\j<i
structure dZ (C:Addr) (H:Hp) (p dx lo pa ed be lg:Addr) (here:Nat) (bB:List Nat) (pars:List (Option Nat)):Prop where
 ob:H p=some (.ins C dx<|h6 (here:Nat) lo pa ed be lg)
 ol:H lo=some (.lst<|bB.map fun n=>V.int (n:Nat))
 op:H pa=some (.lst<|pars.map gV)
 ln:bB.length=pars.length
 tr:gN pars
 hr:here<pars.length
 sz:pars.length<=100000
theorem dZ.same{p pa ed:Addr}(A:dZ C H p dx lo pa ed be lg here bB pars)(s:ay H H'):dZ C H' p dx lo pa ed be lg here bB pars:=⟨s _ _ A.ob,s _ _ A.ol,s _ _ A.op,A.ln,A.tr,A.hr,A.sz⟩
section
variable {K:Frag}{C CN:Addr}
def lE(C:Addr):Sp:=fun vs H Q E=>∃(p dx lo pa ed be lg:Addr) (here:Nat) (bB:List Nat) (pars:List (Option Nat)),vs=[.ref p]/\dZ C H p dx lo pa ed be lg here bB pars/\Q (.int (pars.length:Nat)) H
theorem aaS(T:dU K C):bT (lE C) (fun E=>aO K [] [] (E:=E)) Ig kR:=by
 intro vs H Q E h;obtain⟨p,dx,lo,pa,ed,be,lg,here,bB,pars,rfl,A,q⟩:=h;refine cP<|fI<|bY<|af rfl ⟨p,C,dx,_,_,rfl,A.ob,T.cl,T.jP,lB,.inl ⟨_,au.of A.op,?_⟩⟩;rw[zad];exact q
def lF(C CN:Addr):Sp:=fun vs H Q E=>∃(p dx lo pa ed be lg:Addr) (here:Nat) (bB:List Nat) (pars:List (Option Nat)) (v:V),vs=[.ref p,v]/\dZ C H p dx lo pa ed be lg here bB pars/\((∃n:Nat,v=.int n/\n<pars.length/\Q .aC H)\/(LY v 0 ((pars.length:Nat) - 1:Int) H/\E (.ref CN) none H))
theorem aaT:bT (lF C CN) (fun E=>aO K [("is_between",Cm)] [] [] [("many",C,lE C)] (et:=[("NoNode",CN)]) (E:=E)) Ib kS:=by
 intro vs H Q E h;obtain⟨p,dx,lo,pa,ed,be,lg,here,bB,pars,v,rfl,A,h⟩:=h;refine bK<|iI<|jx Cm rfl<|ax<|af rfl<|ax<|aA<|ax<|bU<|uo C (lE C) rfl<|af rfl ⟨p,dx,_,rfl,A.ob,gi,p,dx,lo,pa,ed,be,lg,here,bB,pars,rfl,A,aA ⟨trivial,aK ⟨_,_,_,rfl,?_⟩⟩⟩;rcases h with⟨n,rfl,hn,q⟩|⟨hn,q⟩
 ·exact .inl ⟨_,rfl,by lia,by lia,iH<|iF (cQ q) rfl⟩
 ·exact .inr ⟨hn,iH<|iT ⟨eG,q⟩ rfl⟩
def CC(C:Addr):Sp:=fun vs H Q E=>∃(p dx lo pa ed be lg:Addr) (here:Nat) (bB:List Nat) (pars:List (Option Nat)) (n:Nat) (o:Option Nat),vs=[.ref p,.int n]/\dZ C H p dx lo pa ed be lg here bB pars/\pars[n]?=some o/\Q (gV o) H
theorem aaU(T:dU K C):bT (CC C) (fun E=>aO K [] [] [] [("need_node",C,lF C CN)] (E:=E)) Ih kS:=by
 intro vs H Q E h;obtain⟨p,dx,lo,pa,ed,be,lg,here,bB,pars,n,o,rfl,A,hn,q⟩:=h;have hl:=(zah.mp hn).1;refine dX<|js C (lF C CN) rfl<|af rfl ⟨p,dx,_,rfl,A.ob,gi,af rfl ⟨p,dx,lo,pa,ed,be,lg,here,bB,pars,_,rfl,A,.inl ⟨n,rfl,hl,?_⟩⟩⟩;exact cP<|bw<|bY<|af rfl ⟨p,C,dx,_,_,rfl,A.ob,T.cl,T.jP,lB,af rfl<|dG A.op (dq (by rw[zaf,hn];rfl)) q⟩
def CG(C:Addr):Sp:=fun vs H Q E=>∃(p dx lo pa ed be lg:Addr) (here:Nat) (bB:List Nat) (pars:List (Option Nat)) (n k:Nat),vs=[.ref p,.int n]/\dZ C H p dx lo pa ed be lg here bB pars/\bB[n]?=some k/\Q (.int (k:Nat)) H
theorem aaV(T:dU K C):bT (CG C) (fun E=>aO K [] [] [] [("need_node",C,lF C CN)] (E:=E)) Ii kS:=by
 intro vs H Q E h;obtain⟨p,dx,lo,pa,ed,be,lg,here,bB,pars,n,k,rfl,A,hn,q⟩:=h;have hl:=(zah.mp hn).1;have ln:=A.ln;refine dX<|js C (lF C CN) rfl<|af rfl ⟨p,dx,_,rfl,A.ob,gi,af rfl ⟨p,dx,lo,pa,ed,be,lg,here,bB,pars,_,rfl,A,.inl ⟨n,rfl,by lia,?_⟩⟩⟩
 exact cP<|bw<|bY<|af rfl ⟨p,C,dx,_,_,rfl,A.ob,T.cl,T.rn,yd,af rfl<|dG A.ol (dq (by rw[zaf,hn];rfl)) q⟩
end
def ups(pars:List (Option Nat)):Nat->Nat->List Nat
 | 0,n=>[n]
 |f+1,n=>match pars[n]? with
  |some (some j)=>n::ups pars f j
  |_=>[n]
theorem aaW(T:gN pars):∀(n f:Nat),n<pars.length->n<=f->ups pars f n=ups pars n n:=by
 intro n
 induction n using Nat.strongRecOn with
 |ind n ih=>
  intro f hn hf;cases n with
  |zero=>
   cases f with
   |zero=>rfl
   |succ f=>
    unfold ups;rw[T.rt]
  |succ n=>
   cases f with
   |zero=>exact absurd hf (by lia)
   |succ f=>
    obtain⟨j,hj,aX⟩:=T.up (n+1) (by lia) hn
    have e1:ups pars (f+1) (n+1)=(n+1)::ups pars f j:=by
     show(match pars[n+1]? with|some (some j)=>(n+1)::ups pars f j|_=>[n+1])=_
     rw[hj]
    have e2:ups pars (n+1) (n+1)=(n+1)::ups pars n j:=by
     show(match pars[n+1]? with|some (some j)=>(n+1)::ups pars n j|_=>[n+1])=_
     rw[hj]
    rw[e1,e2,ih j (by lia) f (by lia) (by lia),ih j (by lia) n (by lia) (by lia)]
theorem aaX:ups pars 0 0=[0]:=rfl
theorem rX(T:gN pars)(h0:0<n)(hn:n<pars.length):∃j,pars[n]?=some (some j)/\j<n/\ups pars n n=n::ups pars j j:=by
 obtain⟨j,hj,aX⟩:=T.up n h0 hn;refine⟨j,hj,aX,?_⟩;cases n with
 |zero=>exact absurd h0 (by decide)
 |succ n=>
  have e2:ups pars (n+1) (n+1)=(n+1)::ups pars n j:=by
   show(match pars[n+1]? with|some (some j)=>(n+1)::ups pars n j|_=>[n+1])=_
   rw[hj]
  rw[e2,aaW T j n (by lia) (by lia)]
theorem yf(T:gN pars):∀(n:Nat),n<pars.length->(ups pars n n).length<=n+1:=by
 intro n
 induction n using Nat.strongRecOn with
 |ind n ih=>
  intro hn;by_cases z:n=0
  ·subst z;exact zqR _
  ·obtain⟨j,_,aX,e⟩:=rX T (by lia) hn
   have:=ih j aX (by lia)
   rw[e,zak];lia
section
variable {K:Frag}{C CN:Addr}
def uP(C:Addr):Sp:=fun vs H Q E=>∃(p dx lo pa ed be lg:Addr) (here:Nat) (bB:List Nat) (pars:List (Option Nat)) (n:Nat),vs=[.ref p,.int n]/\dZ C H p dx lo pa ed be lg here bB pars/\n<pars.length/\
 ∀b H',ay H H'->H b=none->H' b=some (.lst<|(ups pars n n).map fun k=>V.int (k:Nat))->Q (.ref b) H'
theorem aaY(T:dU K C):bT (uP C) (fun E=>aO K [] [] (E:=E)) Iu Ir:=by
 intro vs H Q E h;obtain⟨p,dx,lo,pa,ed,be,lg,here,bB,pars,n,rfl,A,hn,q⟩:=h;have sz:=A.sz;refine bC<|dw<|ax<|af rfl<|aK ⟨eG,fun L fL=>?_⟩;have s0:=sameNew (o:=.lst [V.int (n:Nat)]) fL;refine p7 (fun m σ H2=>∃(pre:List Nat) (k:Nat),m=k/\σ=[some<|.ref p,some<|.int (n:Nat),some<|.ref L]/\ay H H2/\H2 L=some (.lst<|(pre.map fun k=>V.int (k:Nat))++[V.int (k:Nat)])/\k<pars.length/\pre.length+k<=n/\ups pars n n=pre++ups pars k k)
  ⟨n,[],n,rfl,rfl,s0,aw,hn,by show 0+n<=n;lia,rfl⟩ ?_
 rintro m σ H2 ⟨pre,k,rfl,rfl,s2,hL,hk,hp,eu⟩;refine ba<|bw<|af rfl<|nZ<|.inl ⟨L,_, -1,_,rfl,rfl,au.of hL,zy _ _,aA<|qk ⟨_,rfl,?_⟩⟩;by_cases z:m=0
 ·subst z;refine iF ?_ (by simp)
  refine cP<|af rfl<|q L H2 s2 fL ?_;rw[eu,aaX,zao];exact hL
 ·refine iT ?_ (by simp;lia)
  obtain⟨j,hj,aX,es⟩:=rX A.tr (by lia) hk
  refine⟨fun σ' H'=>∃(pre:List Nat) (k:Nat),k<m/\σ'=[some<|.ref p,some<|.int (n:Nat),some<|.ref L]/\ay H H'/\H' L=some (.lst<|(pre.map fun k=>V.int (k:Nat))++[V.int (k:Nat)])/\k<pars.length/\pre.length+k<=n/\ups pars n n=pre++ups pars k k,?_,?_⟩
  ·rintro σ' H' ⟨aaZ,k',aa0,e,rest⟩;exact⟨k',aa0,aaZ,k',rfl,e,rest⟩
  ·have A2:=A.same s2;refine dX<|ju<|af rfl ⟨.inl ⟨rfl,_,au.of hL⟩,bw<|bY<|af rfl ⟨p,C,dx,_,_,rfl,A2.ob,T.cl,T.jP,lB,bw<|af rfl<|nZ<|.inl ⟨L,_, -1,_,rfl,rfl,au.of hL,zy _ _,?_⟩⟩⟩;refine dG A2.op (dq (by rw[zaf,hj];rfl)) ?_
   refine⟨_,hL,dN (by rw[zqA,zad];show pre.length+1<=1000000;lia),?_⟩
   have b1:aJ L H2 (upd H2 L<|.lst<|((pre.map fun k=>V.int (k:Nat))++[V.int (m:Nat)])++[gV<|some j]):=aJ.upd;refine⟨pre++[m],j,aX,rfl,fun c o e=>b1 c o (s2 _ _ e)<|bf e fL,?_,by lia,by rw[zqA];show pre.length+1+j<=n;lia,by rw[eu,es,zaj];rfl⟩
   rw[aw,zao];rfl
end
def strip:List Nat->List Nat->List Nat×List Nat
 |r::a::as,s::b::bs=>if a=b then strip (a::as) (b::bs) else (r::a::as,s::b::bs)
 |x,y=>(x,y)
def ic(pars:List (Option Nat))(one other:Nat):List Nat:=(strip (ups pars one one).reverse (ups pars other other).reverse).1.reverse++(strip (ups pars one one).reverse (ups pars other other).reverse).2.tail
abbrev iV(l:List Nat):List V:=l.map fun k=>V.int (k:Nat)
theorem Md{α:Type}(xs:List α)(v w:α):fi (xs++[v,w]) (-2)=some v:=by
 have hl:(xs++[v,w]).length=xs.length+2:=by simp
 unfold fi ip;rw[hl];have h1:¬(0:Int)<= -2:=by decide
 rw[if_neg h1,if_pos (by lia)]
 have e:(-2+((xs.length:Int)+2)).toNat=xs.length:=by lia
 simp[e]
theorem oh(r:Nat)(l:List Nat):iV (r::l).reverse=iV l.reverse++[V.int (r:Nat)]:=by
 show List.map _ (r::l).reverse=_;rw[zaJ,zao];rfl
theorem CH(r:Nat)(y:List Nat):strip [r] y=([r],y):=by
 unfold strip
 simp
theorem CI(x:List Nat)(s:Nat):strip x [s]=(x,[s]):=by
 unfold strip
 simp
theorem Me{r s a b:Nat}{as bs:List Nat}(h:a≠b):strip (r::a::as) (s::b::bs)=(r::a::as,s::b::bs):=by
 unfold strip;rw[if_neg h]
theorem strip_eq{r s a:Nat}{as bs:List Nat}:strip (r::a::as) (s::a::bs)=strip (a::as) (a::bs):=by
 conv=>lhs;unfold strip
 rw[if_pos rfl]
theorem aa1(l:List Nat):iV l.reverse=(iV l).reverse:=by unfold iV;rw[List.map_reverse]
section
variable {K:Frag}{C CN:Addr}
def rY(C:Addr):Sp:=fun vs H Q E=>∃(p dx lo pa ed be lg:Addr) (here:Nat) (bB:List Nat) (pars:List (Option Nat)) (n m:Nat),vs=[.ref p,.int n,.int m]/\dZ C H p dx lo pa ed be lg here bB pars/\n<pars.length/\m<pars.length/\
 ∀b H',ay H H'->H b=none->H' b=some (.lst<|iV<|ic pars n m)->Q (.ref b) H'
theorem aa2:bT (rY C) (fun E=>aO K [] [] [] [("need_node",C,lF C CN),("upward",C,uP C)] (E:=E)) Bj Iv:=by
 intro vs H Q E h;obtain⟨p,dx,lo,pa,ed,be,lg,here,bB,pars,n,m,rfl,A,hn,hm,q⟩:=h;have sz:=A.sz;refine dX<|js C (lF C CN) rfl<|af rfl ⟨p,dx,_,rfl,A.ob,gi,af rfl ⟨p,dx,lo,pa,ed,be,lg,here,bB,pars,_,rfl,A,.inl ⟨n,rfl,hn,?_⟩⟩⟩;refine dX<|js C (lF C CN) rfl<|af rfl ⟨p,dx,_,rfl,A.ob,gi,af rfl ⟨p,dx,lo,pa,ed,be,lg,here,bB,pars,_,rfl,A,.inl ⟨m,rfl,hm,?_⟩⟩⟩;refine bC<|js C (uP C) rfl<|af rfl ⟨p,dx,_,rfl,A.ob,gi,af rfl ⟨p,dx,lo,pa,ed,be,lg,here,bB,pars,n,rfl,A,hn,fun u H1 s1 fu hu=>?_⟩⟩;have A1:=A.same s1;refine bC<|js C (uP C) rfl<|af rfl ⟨p,dx,_,rfl,A1.ob,gi,af rfl ⟨p,dx,lo,pa,ed,be,lg,here,bB,pars,m,rfl,A1,hm,fun d H2 s2 fd hd=>?_⟩⟩;have hu2:=s2 _ _ hu;have Mf:d≠u:=fun z=>by rw[z,hu] at fd;cases fd
 have i4:=s1.trans s2;have fd0:=s1.free fd;have lu:=yf A.tr n hn;have ld:=yf A.tr m hm;have ne:∀k,k<pars.length->(ups pars k k).reverse≠ []:=by
  intro k hk z;have z':=List.reverse_eq_nil_iff.mp z;by_cases k0:k=0
  ·subst k0;cases z'
  ·obtain⟨j,_,_,e⟩:=rX A.tr (by lia) hk
   rw[e] at z';cases z'
 refine p7 (fun mm σ H3=>∃(x y:List Nat),mm=x.length/\σ=[some<|.ref p,some<|.int (n:Nat),some<|.int (m:Nat),some<|.ref u,some<|.ref d]/\ay H H3/\H3 u=some (.lst<|iV x.reverse)/\H3 d=some (.lst<|iV y.reverse)/\x≠ []/\y≠ []/\x.length<=n+1/\y.length<=m+1/\strip (ups pars n n).reverse (ups pars m m).reverse=strip x y)
  ⟨_,(ups pars n n).reverse,(ups pars m m).reverse,rfl,rfl,i4,by rw[zaS];exact hu2,by rw[zaS];exact hd,ne n hn,ne m hm,by rw[zaH];exact lu,by rw[zaH];exact ld,rfl⟩ ?_
 rintro mm σ H3 ⟨x,y,rfl,rfl,s3,mK,j7,nx,ny,lx,ly,es⟩;have uQ:(iV x.reverse).length=x.length:=by rw[zad,zaH]
 have uR:(iV y.reverse).length=y.length:=by rw[zad,zaH]
 have fin:strip x y=(x,y)->aE (aO K [] [] [] [("need_node",C,lF C CN),("upward",C,uP C)] (E:=E)) (Bj.drop 5) (Dn Q) [some<|.ref p,some<|.int (n:Nat),some<|.int (m:Nat),some<|.ref u,some<|.ref d] H3:=by
  intro e;refine cP<|bU<|af rfl<|aaM<|ax<|aaH<|af rfl<|nZ ⟨_,rfl,.inl ⟨_,au.of j7,fun w fw=>aK ⟨w,_,rfl,au.of aw,fun v fv=>?_⟩⟩⟩;have s4:=sameNew (o:=.lst (d6 (iV y.reverse) none<|some<|-1)) fw;have s5:=sameNew (o:=.lst (d6 (iV y.reverse) none<|some<|-1).reverse) fv;have ec:(d6 (iV y.reverse) none<|some<|-1).reverse=iV y.tail:=by
   cases y with
   |nil=>exact absurd rfl ny
   |cons b bs=>
    have e1:iV (b::bs).reverse=iV bs.reverse++[V.int (b:Nat)]:=by
     show List.map _ (b::bs).reverse=_;rw[zaJ,zao];rfl
    rw[e1];unfold d6;rw[HT.zq];have e2:HT.cZ (iV bs.reverse++[V.int (b:Nat)]).length (iV bs.reverse++[V.int (b:Nat)]).length (some<|-1)=(iV bs.reverse).length:=by
     have hl:(iV bs.reverse++[V.int (b:Nat)]).length=(iV bs.reverse).length+1:=by rw[zqA];rfl
     rw[hl];unfold HT.cZ
     simp
     lia
    rw[e2,zbO,Nat.sub_zero,List.take_left,aa1,zaS];rfl
  refine .inl ⟨u,v,_,_,rfl,rfl,(s4.trans s5) _ _ mK,aw,cU (by rw[zaH];have:=EZ (iV y.reverse) none (some<|-1);lia),fun b fb=>?_⟩
  have s6:=sameNew (o:=.lst (iV x.reverse++(d6 (iV y.reverse) none<|some<|-1).reverse)) fb;refine q b _ (s3.trans<|(s4.trans s5).trans s6) (s3.free<|(s4.trans s5).free fb) ?_;rw[aw,ec];unfold ic;rw[es,e];show some (HO.lst<|iV x.reverse++iV y.tail)=some (HO.lst<|iV<|x.reverse++y.tail);unfold iV;rw[zao]
 match x,nx,lx,es,fin,mK,uQ with
 |[r],_,lx,es,fin,mK,uQ=>
  refine ya<|ba<|fI<|af rfl<|.inl ⟨_,au.of mK,aA<|N.ka ⟨_,rfl,iF (iF (fin<|CH r y) rfl)<|zqF (by rw[uQ];show ¬((1:Nat):Int) >1;decide)⟩⟩
 |r::a::as,_,lx,es,fin,mK,uQ=>
  refine ya<|ba<|fI<|af rfl<|.inl ⟨_,au.of mK,aA<|N.ka ⟨_,rfl,iT ?_<|zqT (by rw[uQ,zak,zak];lia)⟩⟩
  match y,ny,ly,es,fin,j7,uR with
  |[s],_,ly,es,fin,j7,uR=>
   refine ya<|ba<|fI<|af rfl<|.inl ⟨_,au.of j7,aA<|N.ka ⟨_,rfl,iF (iF (fin<|CI _ s) rfl)<|zqF (by rw[uR];show ¬((1:Nat):Int) >1;decide)⟩⟩
  |s::b::bs,_,ly,es,fin,j7,uR=>
   refine ya<|ba<|fI<|af rfl<|.inl ⟨_,au.of j7,aA<|N.ka ⟨_,rfl,iT ?_<|zqT (by rw[uR,zak,zak];lia)⟩⟩
   have ex:iV (r::a::as).reverse=iV as.reverse++[V.int (a:Nat),V.int (r:Nat)]:=by rw[oh,oh,zaj];rfl
   have ey:iV (s::b::bs).reverse=iV bs.reverse++[V.int (b:Nat),V.int (s:Nat)]:=by rw[oh,oh,zaj];rfl
   refine aat<|ba<|bw<|af rfl<|nZ<|dG mK (by rw[ex];exact Md _ _ _)<|bw<|af rfl<|nZ<|dG j7 (by rw[ey];exact Md _ _ _)<|j_ ⟨_,rfl,?_⟩
   by_cases z:a=b
   ·subst z;refine iT ?_ (by simp)
    refine⟨fun σ' H'=>∃(x' y':List Nat),x'.length< (r::a::as).length/\σ'=[some<|.ref p,some<|.int (n:Nat),some<|.int (m:Nat),some<|.ref u,some<|.ref d]/\ay H H'/\H' u=some (.lst<|iV x'.reverse)/\H' d=some (.lst<|iV y'.reverse)/\x'≠ []/\y'≠ []/\x'.length<=n+1/\y'.length<=m+1/\strip (ups pars n n).reverse (ups pars m m).reverse=strip x' y',?_,?_⟩
    ·rintro σ' H' ⟨x',y',aX,rest⟩;exact⟨_,aX,x',y',rfl,rest⟩
    ·have e1:(iV (r::a::as).reverse).dropLast=iV (a::as).reverse:=by rw[oh,zcc]
     have e2:(iV (s::a::bs).reverse).dropLast=iV (a::bs).reverse:=by rw[oh,zcc]
     refine⟨_,rfl,.inl ⟨rfl,_,au.of mK⟩,_,V.int (r:Nat),mK,(by rw[oh,zqA];show(iV (a::as).reverse++[V.int (r:Nat)])[(iV (a::as).reverse).length+1 - 1]?=_;simp),?_⟩
     rw[e1];have b1:aJ u H3 (upd H3 u<|.lst<|iV (a::as).reverse):=aJ.upd;have Mg:upd H3 u (.lst<|iV (a::as).reverse) u=some (.lst<|iV (a::as).reverse):=aw;have mL:=b1 _ _ j7 Mf;have s4:ay H (upd H3 u<|.lst<|iV (a::as).reverse):=fun c o e=>b1 c o (s3 _ _ e) (bf e fu);generalize upd H3 u (.lst<|iV (a::as).reverse)=H4 at b1 Mg mL s4⊢;refine⟨_,rfl,.inl ⟨rfl,_,au.of mL⟩,_,V.int (s:Nat),mL,(by rw[oh,zqA];show(iV (a::bs).reverse++[V.int (s:Nat)])[(iV (a::bs).reverse).length+1 - 1]?=_;simp),?_⟩
     rw[e2];have b2:aJ d H4 (upd H4 d<|.lst<|iV (a::bs).reverse):=aJ.upd;have lx':as.length+1+1<=n+1:=lx;have ly':bs.length+1+1<=m+1:=ly;exact⟨a::as,a::bs,by show as.length+1<as.length+1+1;lia,rfl,fun c o e=>b2 c o (s4 _ _ e)<|bf e fd0,b2 _ _ Mg<|Ne.symm Mf,aw,(by simp),(by simp),by show as.length+1<=_;lia,by show bs.length+1<=_;lia,by rw[es,strip_eq]⟩
   ·exact iF (fin<|Me z) (by simp;lia)
end
def qm(H:Hp)(es:List V)(pars:List (Option Nat))(av:List (List Nat))(T:Nat):Prop:= ∀(i j:Nat),pars[i]?=some (some j)->∃(a:Addr) (ps:List Pt) (lj li:List Nat),es[i]?=some (V.ref a)/\av[j]?=some lj/\av[i]?=some li/\bx H a ps lj li/\B.az ps<=T
theorem qm.same{av:List (List Nat)}{T:Nat}(h:qm H es pars av T)(s:ay H H'):qm H' es pars av T:=fun i j e=>by
 obtain⟨a,ps,lj,li,h1,h2,h3,h4,h5⟩:=h i j e;exact⟨a,ps,lj,li,h1,h2,h3,h4.same s,h5⟩
section
variable {K:Frag}{C CN:Addr}
theorem yg{o:Option Nat}(q:Q (.bl<|decide<|o=some n) H):c9 K .Eq (gV o) (.int (n:Nat)) H Q:=by
 cases o with
 |none=>
  have e:decide ((none:Option Nat)=some n)=false:=by simp
  rw[e] at q
  first
   |exact q
   |exact⟨.none,.int (n:Nat),rfl,rfl,rfl,rfl,q⟩
 |some k=>
  refine j_ ?_;by_cases z:k=n
  ·subst z;have e:decide (some k=some k)=true:=by simp
   rw[e] at q
   simpa using q
  ·have e:decide (some k=some n)=false:=by simp[z]
   rw[e] at q;have e2:decide (((k:Nat):Int)=((n:Nat):Int))=false:=by simp;lia
   rw[e2];exact q
def CJ(C:Addr):Sp:=fun vs H Q E=>∃(p dx lo pa ed be lg:Addr) (here:Nat) (bB:List Nat) (pars:List (Option Nat)) (es:List V) (av:List (List Nat)) (T n m:Nat) (ln lm:List Nat),vs=[.ref p,.int n,.int m]/\dZ C H p dx lo pa ed be lg here bB pars/\H ed=some (.lst es)/\qm H es pars av T/\T<=14000/\av[n]?=some ln/\av[m]?=some lm/\
 m<pars.length/\(pars[m]?=some (some n)\/(pars[m]?≠some (some n)/\pars[n]?=some (some m)))/\∀(c:Addr) (ps:List Pt) (H':Hp),ay H H'->bx H' c ps ln lm->B.az ps<=T->Q (.ref c) H'
theorem aa5(T:dU K C):bT (CJ C) (fun E=>aO K [("back",nJ)] [] (E:=E)) Bi Bh:=by
 intro vs H Q E h;obtain⟨p,dx,lo,pa,ed,be,lg,here,bB,pars,es,av,t,n,m,ln,lm,rfl,A,he,hE,ht,hn,hm,CK,hd,q⟩:=h;have lG:pars[m]?=some pars[m]:=zav CK;refine cP<|uL<|ba<|bw<|bY<|af rfl ⟨p,C,dx,_,_,rfl,A.ob,T.cl,T.jP,lB,af rfl<|dG A.op (dq (by rw[zaf,lG];rfl))<|af rfl<|yg ⟨_,rfl,?_⟩⟩
 by_cases z:pars[m]=some n
 ·refine iT ?_ (zqT z);rw[z] at lG;obtain⟨a,ps,lj,li,h1,h2,h3,h4,h5⟩:=hE m n lG;rw[hn] at h2;cases h2;rw[hm] at h3;cases h3;exact bw<|bY<|af rfl ⟨p,C,dx,_,_,rfl,A.ob,T.cl,T.nu,rW,af rfl<|dG he (dq h1)<|q a ps H (ay.refl _) h4 h5⟩
 ·refine iF ?_ (zqF z);have ma:pars[n]?=some (some m):=by
   rcases hd with hd|hd
   ·rw[lG] at hd;exact absurd (zal hd) z
   ·exact hd.2
  obtain⟨a,ps,lj,li,h1,h2,h3,h4,h5⟩:=hE n m ma;rw[hm] at h2;cases h2;rw[hn] at h3;cases h3;have cl:ps.length<=2*B.az ps+1:=kb ps "" h4.chg.ok h4.chg.ch;have hb:=(h4.chg.bk (by lia)).2
  refine cC nJ rfl<|ax<|bw<|bY<|af rfl ⟨p,C,dx,_,_,rfl,A.ob,T.cl,T.nu,rW,af rfl<|dG he (dq h1)<|aK<|Ck h4 (by lia) (by lia) fun c H' s fc hc=>q c _ H' s hc ?_⟩
  have:=hb.1;lia
end
section
variable {K:Frag}{C CF:Addr}
def yh(C CF:Addr):Sp:=fun vs H Q E=>∃(p dx lo pa ed be lg:Addr) (here:Nat) (bB:List Nat) (pars:List (Option Nat)) (c:Addr) (ps:List Pt) (l r:List Nat) (k:Nat),vs=[.ref p,.ref c]/\dZ C H p dx lo pa ed be lg here bB pars/\bx H c ps l r/\B.az ps<=100000/\bB[here]?=some k/\
 ((l.length=k/\∀H',ay H H'->Q .aC H')\/(l.length≠k/\∀H',ay H H'->E (.ref CF) none H'))
theorem aa6(T:dU K C):bT (yh C CF) (fun E=>aO K [("sizes",iD)] [] (et:=[("BadFit",CF)]) (E:=E)) Ic wG:=by
 intro vs H Q E h;obtain⟨p,dx,lo,pa,ed,be,lg,here,bB,pars,c,ps,l,r,k,rfl,A,⟨xs,h1,h2,h3⟩,ht,hk,h⟩:=h;have cl:ps.length<=2*B.az ps+1:=kb ps "" h3.ok h3.ch;refine bK<|ba<|bw<|cC iD rfl<|ax<|af rfl<|aK ⟨c,xs,ps,rfl,h1,h2,h3.ok,h3.ch,by lia,fun t H' s rD=>aA<|fH rD rfl ?_⟩
 have A1:=A.same s;refine bw<|bY<|af rfl ⟨p,C,dx,_,_,rfl,A1.ob,T.cl,T.rn,yd,bY<|af rfl ⟨p,C,dx,_,_,rfl,A1.ob,T.cl,T.gB,i5,dG A1.ol (dq (by rw[zaf,hk];rfl)) ?_⟩⟩
 have e:(overOf ps).sum=l.length:=h3.run.over;rw[e];refine qk ⟨_,rfl,?_⟩;rcases h with⟨e,q⟩|⟨e,q⟩
 ·subst e;exact iF (cQ<|q _ s) (by simp)
 ·refine iT ⟨eG,q _ s⟩ ?_;have:decide (((l.length:Nat):Int)=((k:Nat):Int))=false:=by simp;lia
  rw[this];rfl
end
def kids(pars:List (Option Nat))(i:Nat):List Nat:=(List.range pars.length).filter fun j=>pars[j]?==some (some i)
def bP(M:List Addr)(H H':Hp):Prop:= ∀b o,H b=some o->b∉M->H' b=some o
theorem bP.trans(a:bP M H H1)(b:bP M H1 H2):bP M H H2:=fun c o e n=>b c o (a c o e n) n
theorem bP.of(s:ay H H'):bP M H H':=fun c o e _=>s c o e
theorem bP.upd{o:HO}(h:c∈M):bP M H (L2.upd H c o):=fun b u e n=>by rw[aF (show b≠c from fun z=>n (by rw[z];exact h))];exact e
theorem bu{a b:Addr}{o o':HO}(n:a≠b)(h:H a=some o):L2.upd H b o' a=some o:=by rw[aF n];exact h
def ke(M:List Addr)(H:Hp):Prop:= ∀x∈M,∃o,H x=some o/\∀ys,o≠ .tup ys
theorem ke.same(h:ke M H)(s:ay H H'):ke M H':=fun x hx=>(h x hx).imp fun o e=>⟨s _ _ e.1,e.2⟩
theorem ke.upd(h:ke M H):ke M (L2.upd H c<|.lst xs):=fun x hx=>by
 by_cases z:x=c
 ·subst z;exact⟨_,aw,fun ys e=>by cases e⟩
 ·rw[aF z];exact h x hx
theorem ke.no{a:Addr}(h:ke M H)(f:H a=none):a∉M:=fun q=>by
 obtain⟨o,e,_⟩:=h a q;rw[f] at e;cases e
theorem ke.bS(h:ke M H)(b:bP M H H'):cz H H':=fun c xs e=>b c _ e fun q=>by
 obtain⟨o,e',n⟩:=h c q;rw[e'] at e;exact n xs<|zal e
structure yi (p lo pa ed be lg:Addr) (bs:List Addr):Prop where
 nd:(p::lo::pa::ed::be::lg::bs).Nodup
section
variable {p lo pa ed be lg:Addr}{bs:List Addr}
theorem yi.l(A:yi p lo pa ed be lg bs):(p≠lo/\p≠pa/\p≠ed/\p≠be/\p≠lg/\p∉bs)/\(lo≠pa/\lo≠ed/\lo≠be/\lo≠lg/\lo∉bs)/\(pa≠ed/\pa≠be/\pa≠lg/\pa∉bs)/\(ed≠be/\ed≠lg/\ed∉bs)/\(be≠lg/\be∉bs)/\lg∉bs/\bs.Nodup:=by
 have h:=A.nd
 simp only[zaO,zaa,not_or] at h
 exact⟨⟨h.1.1,h.1.2.1,h.1.2.2.1,h.1.2.2.2.1,h.1.2.2.2.2.1,h.1.2.2.2.2.2⟩,⟨h.2.1.1,h.2.1.2.1,h.2.1.2.2.1,h.2.1.2.2.2.1,h.2.1.2.2.2.2⟩,⟨h.2.2.1.1,h.2.2.1.2.1,h.2.2.1.2.2.1,h.2.2.1.2.2.2⟩,⟨h.2.2.2.1.1,h.2.2.2.1.2.1,h.2.2.2.1.2.2⟩,⟨h.2.2.2.2.1.1,h.2.2.2.2.1.2⟩,h.2.2.2.2.2.1,h.2.2.2.2.2.2⟩
end
def qo(es:List V):List Addr:=es.filterMap fun v=>match v with|.ref a=>some a|_=>none
structure eF (C:Addr) (H:Hp) (p:Addr) (M Ed:List Addr) (here:Nat) (pars:List (Option Nat)) (av:List (List Nat)) (last:List (Option Nat)) (T:Nat) (dx lo pa ed be lg:Addr) (bs:List Addr) (es:List V):Prop where
 ob:dZ C H p dx lo pa ed be lg here (av.map List.length) pars
 eM:M=p::lo::pa::ed::be::lg::bs
 ap:yi p lo pa ed be lg bs
 he:H ed=some (.lst es)
 le:es.length=pars.length
 ea:qo es=Ed
 e0:es[0]?=some .aC
 ev:qm H es pars av T
 en:∀(i:Nat) (a:Addr),es[i]?=some (V.ref a)->a∉M
 hb:H be=some (.lst<|bs.map V.ref)
 lb:bs.length=pars.length
 hk:∀(i:Nat) (b:Addr),bs[i]?=some b->H b=some (.lst<|iV<|kids pars i)
 hg:H lg=some (.lst<|last.map gV)
 mM:last.length=pars.length
def dn(C:Addr)(H:Hp)(p:Addr)(M Ed:List Addr)(here:Nat)(pars:List (Option Nat))(av:List (List Nat))(last:List (Option Nat))(T:Nat):Prop:= ∃dx lo pa ed be lg bs es,eF C H p M Ed here pars av last T dx lo pa ed be lg bs es
section
variable {C:Addr}{H H':Hp}{p:Addr}{M Ed:List Addr}{here:Nat}{pars:List (Option Nat)}{av:List (List Nat)}{last:List (Option Nat)}{T:Nat}{dx lo pa ed be lg:Addr}{bs:List Addr}{es:List V}
theorem eF.same(A:eF C H p M Ed here pars av last T dx lo pa ed be lg bs es)(s:ay H H'):eF C H' p M Ed here pars av last T dx lo pa ed be lg bs es:=
 ⟨A.ob.same s,A.eM,A.ap,s _ _ A.he,A.le,A.ea,A.e0,A.ev.same s,A.en,s _ _ A.hb,A.lb,fun i b e=>s _ _<|A.hk i b e,s _ _ A.hg,A.mM⟩
theorem dn.same(A:dn C H p M Ed here pars av last T)(s:ay H H'):dn C H' p M Ed here pars av last T:=by
 obtain⟨dx,lo,pa,ed,be,lg,bs,es,A⟩:=A;exact⟨dx,lo,pa,ed,be,lg,bs,es,A.same s⟩
theorem eF.live(A:eF C H p M Ed here pars av last T dx lo pa ed be lg bs es):ke M H:=fun x h=>by
 rw[A.eM] at h;rcases zaa.mp h with rfl|h
 ·exact⟨_,A.ob.ob,fun ys e=>by cases e⟩
 rcases zaa.mp h with rfl|h
 ·exact⟨_,A.ob.ol,fun ys e=>by cases e⟩
 rcases zaa.mp h with rfl|h
 ·exact⟨_,A.ob.op,fun ys e=>by cases e⟩
 rcases zaa.mp h with rfl|h
 ·exact⟨_,A.he,fun ys e=>by cases e⟩
 rcases zaa.mp h with rfl|h
 ·exact⟨_,A.hb,fun ys e=>by cases e⟩
 rcases zaa.mp h with rfl|h
 ·exact⟨_,A.hg,fun ys e=>by cases e⟩
 obtain⟨i,hi⟩:=zaK.mp h;exact⟨_,A.hk i x hi,fun ys e=>by cases e⟩
theorem eF.Mh(A:eF C H p M Ed here pars av last T dx lo pa ed be lg bs es){a:Addr}(h:a∈Ed):∃xs,H a=some (.lst xs):=by
 rw[<-A.ea] at h;obtain⟨v,hv,e⟩:=zbi.mp h;obtain⟨i,hi⟩:=zaK.mp hv;have e:v=.ref a:=by
  cases v with
  |ref b=>exact congrArg V.ref (zal e)
  |_=>cases e
 subst e;have h0:i≠0:=fun z=>by rw[z,A.e0] at hi;cases hi
 obtain⟨j,hj,_⟩:=A.ob.tr.up i (by lia) (by rw[<-A.le];exact(zah.mp hi).1)
 obtain⟨a',ps,lj,li,h1,_,_,⟨xs,hx,_⟩,_⟩:=A.ev i j hj;rw[hi] at h1;cases h1;exact⟨xs,hx⟩
theorem eF.keep(A:eF C H p M Ed here pars av last T dx lo pa ed be lg bs es)(k:∀b o,b∈M\/b∈Ed->H b=some o->H' b=some o)(t:cz H H'):eF C H' p M Ed here pars av last T dx lo pa ed be lg bs es:=by
 have kM:∀b o,b∈p::lo::pa::ed::be::lg::bs->H b=some o->H' b=some o:=fun b o h e=>k b o (.inl (by rw[A.eM];exact h)) e
 refine⟨⟨kM _ _ (by simp) A.ob.ob,kM _ _ (by simp) A.ob.ol,kM _ _ (by simp) A.ob.op,A.ob.ln,A.ob.tr,A.ob.hr,A.ob.sz⟩,A.eM,A.ap,kM _ _ (by simp) A.he,A.le,A.ea,A.e0,fun i j e=>?_,A.en,kM _ _ (by simp) A.hb,A.lb,fun i b e=>kM _ _ (by simp[zan e])<|A.hk i b e,kM _ _ (by simp) A.hg,A.mM⟩
 obtain⟨a,ps,lj,li,h1,h2,h3,h4,h5⟩:=A.ev i j e;refine⟨a,ps,lj,li,h1,h2,h3,h4.keep (fun o e=>k a o (.inr ?_) e) t,h5⟩;rw[<-A.ea];exact zbi.mpr ⟨_,zan h1,rfl⟩
theorem dn.keep(A:dn C H p M Ed here pars av last T)(k:∀b o,b∈M\/b∈Ed->H b=some o->H' b=some o)(t:cz H H'):dn C H' p M Ed here pars av last T:=by
 obtain⟨dx,lo,pa,ed,be,lg,bs,es,A⟩:=A;exact⟨dx,lo,pa,ed,be,lg,bs,es,A.keep k t⟩
theorem dn.own(A:dn C H p M Ed here pars av last T){a:Addr}(f:H a=none):a∉M/\a∉Ed:=by
 obtain⟨dx,lo,pa,ed,be,lg,bs,es,A⟩:=A;refine⟨A.live.no f,fun h=>?_⟩;obtain⟨xs,e⟩:=A.Mh h;rw[f] at e;cases e
theorem eF.Mi(A:eF C H p M Ed here pars av last T dx lo pa ed be lg bs es)(b:bP M H H'):qm H' es pars av T:=fun i j e=>by
 obtain⟨a,ps,lj,li,h1,h2,h3,h4,h5⟩:=A.ev i j e;exact⟨a,ps,lj,li,h1,h2,h3,h4.keep (fun o e=>b a o e<|A.en i a h1)<|A.live.bS b,h5⟩
end
theorem CL{h:Nat}(T:gN pars):kids (pars++[some h]) i=kids pars i++(if h=i then [pars.length] else []):=by
 unfold kids;rw[zqA,zaL,zbf,zbX]
 congr 1
 ·refine List.filter_congr fun j hj=>?_;rw[zaA<|zbA.mp hj]
 ·by_cases z:h=i
  ·subst z;simp
  ·simp[z]
theorem aa7(T:gN pars)(h:pars.length<=i):kids pars i=[]:=by
 unfold kids;refine List.filter_eq_nil_iff.mpr fun j hj=>?_;have hj:=zbA.mp hj;intro e;have e:pars[j]?=some (some i):=by simpa using e
 by_cases z:j=0
 ·subst z;rw[T.rt] at e;cases e
 ·obtain⟨k,h1,h2⟩:=T.up j (by lia) hj
  rw[h1] at e;cases e;lia
section
variable {Γ:bj}{D:Ends}{σ:St}{H:Hp}{r:List RS}{C p dx l:Addr}{fs:List (Str×V)}{f:Str}{uM:List V}
theorem Mj{x:RE}(h:ae Γ x σ H fun v H1=>kE Γ.K .list [v] H1 Q):ae Γ (.blt .list [x]) σ H Q:=h
theorem uS(σ0:σ[0]?=some (some<|.ref p))(hp:H p=some (.ins C dx fs))(hf:fs.lookup f=some (.ref l))(c:fh Γ.K C)(n:eW Γ.K C f)(hl:H l=some (.lst uM))(h:ae Γ a σ H fun y H2=>∃xs,H2 l=some (.lst xs)/\xs.length<sizeLine/\aE Γ r D σ (upd H2 l<|.lst<|xs++[y])):
  aE Γ (.drop (.bI .append (.fld (.v 0) f) [a])::r) D σ H:=
 dX (ju<|bY<|af σ0 ⟨p,C,dx,fs,_,rfl,hp,c,n,hf,.inl ⟨rfl,_,au.of hl⟩,h⟩)
end
theorem aa8(T:gN pars){h:Nat}(hh:h<pars.length):gN (pars++[some h]):=by
 refine⟨by rw[zaA (by lia)];exact T.rt,fun i h0 hi=>?_⟩
 rw[zqA,zaL] at hi;by_cases z:i<pars.length
 ·rw[zaA z];exact T.up i h0 z
 ·have:i=pars.length:=by lia
  subst this;exact⟨h,by simp,hh⟩
theorem Ml{here k:Int}{pa ed:Addr}:bN "here" (V.int k) (h6 here lo pa ed be lg)=h6 k lo pa ed be lg:=ug
structure jy (C:Addr) (H:Hp) (p dx lo pa ed be lg:Addr) (bs:List Addr) (hv:Int) (ls ps es bv gs:List V) (ks:Nat->List V):Prop where
 h1:H p=some (.ins C dx<|h6 hv lo pa ed be lg)
 h2:H lo=some (.lst ls)
 h3:H pa=some (.lst ps)
 h4:H ed=some (.lst es)
 h5:H be=some (.lst bv)
 h6:H lg=some (.lst gs)
 h7:∀i b,bs[i]?=some b->H b=some (.lst<|ks i)
section
variable {C:Addr}{H H':Hp}{p dx lo pa ed be lg:Addr}{bs:List Addr}{hv:Int}{ls ps es bv gs xs:List V}{ks:Nat->List V}
theorem jy.same(R:jy C H p dx lo pa ed be lg bs hv ls ps es bv gs ks)(s:ay H H'):jy C H' p dx lo pa ed be lg bs hv ls ps es bv gs ks:=
 ⟨s _ _ R.h1,s _ _ R.h2,s _ _ R.h3,s _ _ R.h4,s _ _ R.h5,s _ _ R.h6,fun i b e=>s _ _<|R.h7 i b e⟩
theorem jy.set(A:yi p lo pa ed be lg bs)(R:jy C H p dx lo pa ed be lg bs hv ls ps es bv gs ks):
  jy C (L2.upd H lo<|.lst xs) p dx lo pa ed be lg bs hv xs ps es bv gs ks/\jy C (L2.upd H pa<|.lst xs) p dx lo pa ed be lg bs hv ls xs es bv gs ks/\jy C (L2.upd H ed<|.lst xs) p dx lo pa ed be lg bs hv ls ps xs bv gs ks/\jy C (L2.upd H be<|.lst xs) p dx lo pa ed be lg bs hv ls ps es xs gs ks/\jy C (L2.upd H lg<|.lst xs) p dx lo pa ed be lg bs hv ls ps es bv xs ks:=by
 obtain⟨⟨a1,a2,a3,a4,a5,a6⟩,⟨b1,b2,b3,b4,b5⟩,⟨c1,c2,c3,c4⟩,⟨d1,d2,d3⟩,⟨e1,e2⟩,g1,g2⟩:=A.l;have k:∀{c:Addr},c∉bs->∀i b,bs[i]?=some b->L2.upd H c (.lst xs) b=some (.lst<|ks i):=fun h i b hi=>bu (fun z=>h (by rw[<-z];exact zan hi)) (R.h7 i b hi)
 exact⟨⟨bu a1 R.h1,aw,bu b1.symm R.h3,bu b2.symm R.h4,bu b3.symm R.h5,bu b4.symm R.h6,k b5⟩,⟨bu a2 R.h1,bu b1 R.h2,aw,bu c1.symm R.h4,bu c2.symm R.h5,bu c3.symm R.h6,k c4⟩,⟨bu a3 R.h1,bu b2 R.h2,bu c1 R.h3,aw,bu d1.symm R.h5,bu d2.symm R.h6,k d3⟩,⟨bu a4 R.h1,bu b3 R.h2,bu c2 R.h3,bu d1 R.h4,aw,bu e1.symm R.h6,k e2⟩,bu a5 R.h1,bu b4 R.h2,bu c3 R.h3,bu d2 R.h4,bu e1 R.h5,aw,k g1⟩
end
section
variable {K:Frag}{C CF:Addr}
def CM(C:Addr):Sp:=fun vs H Q E=>∃(p:Addr) (M Ed:List Addr) (here:Nat) (pars:List (Option Nat)) (av:List (List Nat)) (last:List (Option Nat)) (T:Nat) (c:Addr) (ps:List Pt) (l r:List Nat),vs=[.ref p,.ref c]/\dn C H p M Ed here pars av last T/\bx H c ps l r/\c∉M/\av[here]?=some l/\B.az ps<=T/\T<=100000/\pars.length<100000/\
 ∀(b a:Addr) (H':Hp),bP M H H'->H b=none->H a=none->dn C H' p (M++[b]) (Ed++[a]) pars.length (pars++[some here]) (av++[r]) (last++[none]) T->(∃xs,H' a=some (.lst xs)/\aP H' xs ps)->Q (.int (pars.length:Nat)) H'
theorem aa9(X:dU K C):bT (CM C) (fun E=>aO K [("sizes",iD)] [] [] [("need_over",C,yh C CF),("many",C,lE C)] (E:=E)) Ik Ij:=by
 intro vs H Q E h;obtain⟨p,M,Ed,here,pars,av,last,T,c,ps,l,r,rfl,⟨dx,lo,pa,ed,be,lg,bs,es,A⟩,hc,mH,hl,ht,hT,hn,q⟩:=h;have kf:(av.map List.length)[here]?=some l.length:=by rw[zaf,hl];rfl
 refine dX<|js C (yh C CF) rfl<|af rfl ⟨p,dx,_,rfl,A.ob.ob,gi,af rfl ⟨p,dx,lo,pa,ed,be,lg,here,_,pars,c,ps,l,r,l.length,rfl,A.ob,hc,by lia,kf,.inl ⟨rfl,fun H1 s1=>?_⟩⟩⟩
 have A1:=A.same s1;have eE:=hc.same s1;refine bC<|uo C (lE C) rfl<|af rfl ⟨p,dx,_,rfl,A1.ob.ob,gi,p,dx,lo,pa,ed,be,lg,here,_,pars,rfl,A1.ob,?_⟩;obtain⟨⟨a1,a2,a3,a4,a5,a6⟩,⟨b1,b2,b3,b4,b5⟩,⟨c1,c2,c3,c4⟩,⟨d1,d2,d3⟩,⟨e1,e2⟩,g1,g2⟩:=A.ap.l;have eM:=A.eM;have oi:p∈M/\lo∈M/\pa∈M/\ed∈M/\be∈M/\lg∈M/\∀b∈bs,b∈M:=by rw[eM];simp;exact fun b hb=>.inr (.inr<|.inr<|.inr<|.inr<|.inr hb)
 obtain⟨mp,ml,mpa,me,mb,mg,mbs⟩:=oi;have R1:jy C H1 p dx lo pa ed be lg bs here _ _ es _ _ fun i=>iV (kids pars i):=⟨A1.ob.ob,A1.ob.ol,A1.ob.op,A1.he,A1.hb,A1.hg,A1.hk⟩;have sz:=A.ob.sz;have CO:(av.map List.length).length=pars.length:=A.ob.ln;have oj:av.length=pars.length:=by rw[<-CO,zad]
 have big:∀{n:Nat},n<=100000->n<sizeLine:=fun h=>dN (by lia)
 have Mm:=A1.live;refine uS rfl R1.h1 lB X.cl X.jP R1.h3<|bY<|af rfl ⟨p,C,dx,_,_,rfl,R1.h1,X.cl,X.gB,i5,_,R1.h3,big (by rw[zad];exact sz),?_⟩
 have ep:pars.map gV++[V.int (here:Nat)]=(pars++[some here]).map gV:=by rw[zao];rfl
 rw[ep];have k2:bP M H1 (upd H1 pa<|.lst<|(pars++[some here]).map gV):=bP.upd mpa;have R2:=(R1.set (xs:=(pars++[some here]).map gV) A.ap).2.1;have yj:=Mm.upd (c:=pa) (xs:=(pars++[some here]).map gV);have Mn:=eE.keep (fun o e=>k2 c o e mH) (Mm.bS k2);generalize upd H1 pa (.lst<|(pars++[some here]).map gV)=H2 at k2 R2 Mn yj⊢;obtain⟨xs,hx,je,jz⟩:=Mn;refine uS rfl R2.h1 rW X.cl X.nu R2.h4<|Mj<|af rfl ⟨xs,.inl<|au.of hx,fun a fa=>⟨_,bu (fun z=>by have:=R2.h4;rw[z,fa] at this;cases this) R2.h4,big (by rw[A.le];exact sz),?_⟩⟩
 have s3:=sameNew (o:=.lst xs) fa;have mO:a∉M:=yj.no fa;have CQ:=(yj.same s3).upd (c:=ed) (xs:=es++[V.ref a]);have nae:a≠ed:=fun z=>mO (by rw[z];exact me)
 have k3:bP M H2 (upd (upd H2 a<|.lst xs) ed<|.lst<|es++[V.ref a]):=(bP.of s3).trans (bP.upd me);have rT:upd (upd H2 a<|.lst xs) ed (.lst<|es++[V.ref a]) a=some (.lst xs):=bu nae aw;have R3:=((R2.same s3).set (xs:=es++[V.ref a]) A.ap).2.2.1;have Mo:=k3 _ _ hx mH;have CS:=je.mono (yj.bS k3);generalize upd (upd H2 a<|.lst xs) ed (.lst<|es++[V.ref a])=H3 at k3 rT R3 Mo CS CQ⊢;have k13:=k2.trans k3;have cl:ps.length<=2*B.az ps+1:=kb ps "" jz.ok jz.ch;refine uS rfl R3.h1 yd X.cl X.rn R3.h2<|bw<|cC iD rfl<|ax<|af rfl<|aK ⟨c,xs,ps,rfl,Mo,CS,jz.ok,jz.ch,by lia,fun t H4 s4 yk=>aA<|fH yk rfl ⟨_,s4 _ _ R3.h2,big (by rw[zad];lia),?_⟩⟩
 have eg:(pL ps).sum=r.length:=jz.run.gives;rw[eg];have el:(av.map List.length).map (fun n=>V.int (n:Nat))++[V.int (r.length:Nat)]=((av++[r]).map List.length).map (fun n=>V.int (n:Nat)):=by rw[zao,zao];rfl
 rw[el];generalize eL:((av++[r]).map List.length).map (fun n=>V.int (n:Nat))=ll;have k5:bP M H3 (upd H4 lo<|.lst ll):=(bP.of s4).trans (bP.upd ml);have yl:=k5 _ _ rT mO;have R5:=((R3.same s4).set (xs:=ll) A.ap).1;have ym:=(CQ.same s4).upd (c:=lo) (xs:=ll);have Mp:=CS.mono (CQ.bS k5);generalize upd H4 lo (.lst ll)=H5 at k5 yl R5 ym Mp⊢;have CT:=k13.trans k5;refine uS rfl R5.h1 ye X.cl X.tW R5.h5<|dw<|aK ⟨DQ,fun b fb=>⟨_,bu (fun z=>by have:=R5.h5;rw[z,fb] at this;cases this) R5.h5,big (by rw[zad,A.lb];exact sz),?_⟩⟩
 have s6:=sameNew (o:=.lst []) fb;have rZ:b∉M:=ym.no fb;have nb:b≠be:=fun z=>rZ (by rw[z];exact mb)
 have eb:bs.map V.ref++[V.ref b]=(bs++[b]).map V.ref:=by rw[zao];rfl
 rw[eb];have na:a≠b:=fun z=>by rw[z,fb] at yl;cases yl
 have k6:bP M H5 (upd (upd H5 b<|.lst []) be<|.lst<|(bs++[b]).map V.ref):=(bP.of s6).trans (bP.upd mb);have r9:upd (upd H5 b<|.lst []) be (.lst<|(bs++[b]).map V.ref) b=some (.lst []):=bu nb aw;have uO:=k6 _ _ yl mO;have R6:=((R5.same s6).set (xs:=(bs++[b]).map V.ref) A.ap).2.2.2.1;have CU:=(ym.same s6).upd (c:=be) (xs:=(bs++[b]).map V.ref);have Mq:=Mp.mono (ym.bS k6);generalize upd (upd H5 b<|.lst []) be (.lst<|(bs++[b]).map V.ref)=H6 at k6 r9 uO R6 CU Mq⊢;have k16:=CT.trans k6;refine uS rfl R6.h1 CB X.cl X.wK R6.h6<|aA ⟨_,R6.h6,big (by rw[zad,A.mM];exact sz),?_⟩
 have eg2:last.map gV++[V.aC]=(last++[none]).map gV:=by rw[zao];rfl
 rw[eg2];have k7:bP M H6 (upd H6 lg<|.lst<|(last++[none]).map gV):=bP.upd mg;have Mr:=k7 _ _ r9 rZ;have Ms:=k7 _ _ uO mO;have R7:=(R6.set (xs:=(last++[none]).map gV) A.ap).2.2.2.2;have CV:=CU.upd (c:=lg) (xs:=(last++[none]).map gV);have Mt:=Mq.mono (CU.bS k7);generalize upd H6 lg (.lst<|(last++[none]).map gV)=H7 at k7 Mr Ms R7 CV Mt⊢;have k17:=k16.trans k7;have CW:=A.ob.hr;have Mu:here<bs.length:=by rw[A.lb];exact CW
 have eh:bs[here]?=some bs[here]:=zav Mu;have qh:=R7.h7 here _ eh;have mh:bs[here]∈M:=mbs _ (zan eh);have abg:(iV<|kids pars here).length<=100000:=by
  rw[zad];have:=zbY (fun j=>pars[j]?==some (some here)) (List.range pars.length);rw[zaG] at this;exact zat this sz
 have ai:fi ((bs++[b]).map V.ref) ((here:Nat):Int)=some (V.ref bs[here]):=dq (by rw[zaf,zaA Mu,eh];rfl)
 refine dX<|ju<|bw<|bY<|af rfl ⟨p,C,dx,_,_,rfl,R7.h1,X.cl,X.tW,ye,bY<|af rfl ⟨p,C,dx,_,_,rfl,R7.h1,X.cl,X.gB,i5,dG R7.h5 ai ⟨.inl ⟨rfl,_,au.of qh⟩,af rfl ⟨_,qh,big abg,?_⟩⟩⟩⟩;have eq8:iV (kids pars here)++[V.int (pars.length:Nat)]=iV (kids (pars++[some here]) here):=by rw[CL A.ob.tr,if_pos rfl];unfold iV;rw[zao];rfl
 rw[eq8];have k8:bP M H7 (upd H7 bs[here] (.lst<|iV<|kids (pars++[some here]) here)):=bP.upd mh;have nh:∀{x:Addr},x∉bs->x≠bs[here]:=fun h z=>h (by rw[z];exact zan eh)
 have Mv:=k8 _ _ Mr rZ;have CY:=k8 _ _ Ms mO;have q8:∀(i:Nat) (x:Addr),bs[i]?=some x->upd H7 bs[here] (.lst<|iV<|kids (pars++[some here]) here) x=some (.lst<|iV<|kids (pars++[some here]) i):=fun i x hi=>by
  by_cases z:i=here
  ·subst z;rw[eh] at hi;cases hi;exact aw
  ·have jf:x≠bs[here]:=fun zz=>z ((List.getElem?_inj (zah.mp hi).1 g2).mp (by rw[hi,eh,zz]))
   rw[aF jf,R7.h7 i x hi,CL A.ob.tr,if_neg<|fun e=>z e.symm,zab]
 have R8:jy C (upd H7 bs[here] (.lst<|iV<|kids (pars++[some here]) here)) p dx lo pa ed be lg bs here ll _ _ _ _ fun i=>iV (kids (pars++[some here]) i):=⟨bu (nh a6) R7.h1,bu (nh b5) R7.h2,bu (nh c4) R7.h3,bu (nh d3) R7.h4,bu (nh e2) R7.h5,bu (nh g1) R7.h6,q8⟩;have Mw:=CV.upd (c:=bs[here]) (xs:=iV (kids (pars++[some here]) here));have Mx:=Mt.mono (CV.bS k8);generalize upd H7 bs[here] (.lst<|iV<|kids (pars++[some here]) here)=H8 at k8 Mv CY R8 Mw Mx⊢;have k18:=k17.trans k8;refine lA<|af rfl<|af rfl ⟨p,C,dx,_,rfl,R8.h1,X.cl,X.gB,(by show 6<1000;decide),?_⟩
 rw[Ml];have k9:bP M H8 (upd H8 p<|.ins C dx<|h6 (pars.length:Nat) lo pa ed be lg):=bP.upd mp;have My:=k18.trans k9;have ev9:qm (upd H8 p<|.ins C dx<|h6 (pars.length:Nat) lo pa ed be lg) es pars av T:=A1.Mi My;have Mz:=Mx.mono (Mw.bS k9);refine cP<|af rfl<|q b a _ ((bP.of s1).trans My) ?_ ?_ ⟨dx,lo,pa,ed,be,lg,bs++[b],es++[V.ref a],?_⟩ ⟨xs,bu (fun z=>mO (by rw[z];exact mp)) CY,Mz⟩
 ·cases hz:H b with
  |none=>rfl
  |some o=>
   have h5:=CT b o (s1 _ _ hz) rZ;rw[fb] at h5;cases h5
 ·cases hz:H a with
  |none=>rfl
  |some o=>
   have h5:=k2 a o (s1 _ _ hz) mO;rw[fa] at h5;cases h5
 ·have Ca:pars.length+1<=100000:=hn;refine⟨⟨aw,(by rw[eL];exact bu (Ne.symm a1) R8.h2),bu (Ne.symm a2) R8.h3,?_,aa8 A.ob.tr CW,?_,?_⟩,?_,⟨?_⟩,bu (Ne.symm a3) R8.h4,?_,(by unfold qo;rw[List.filterMap_append];show qo es++[a]=_;rw[A.ea]),(by rw[zaA (by rw[A.le];lia)];exact A.e0),?_,?_,bu (Ne.symm a4) R8.h5,?_,?_,bu (Ne.symm a5) R8.h6,?_⟩
  ·rw[zad,zqA,zqA,oj];rfl
  ·rw[zqA];exact zbj _
  ·rw[zqA];exact Ca
  ·rw[eM];rfl
  ·have h:=A.ap.nd;rw[<-eM] at h;have:p::lo::pa::ed::be::lg::(bs++[b])=M++[b]:=by rw[eM];rfl
   rw[this];exact List.nodup_append.mpr ⟨h,(by simp),fun x hx y hy e=>rZ (by rw[<-zac.mp hy,<-e];exact hx)⟩
  ·rw[zqA,zqA,A.le];rfl
  ·intro i j yp;by_cases z:i<pars.length
   ·rw[zaA z] at yp;obtain⟨a',kQ,lj,li,h1,h2,h3,h4,h5⟩:=ev9 i j yp;have jl:=(zah.mp h2).1;exact⟨a',kQ,lj,li,by rw[zaA (by rw[A.le];exact z)];exact h1,by rw[zaA jl];exact h2,by rw[zaA (by rw[oj];exact z)];exact h3,h4,h5⟩
   ·have zi:i=pars.length:=by
     have:=(zah.mp yp).1;rw[zqA,zaL] at this;lia
    subst zi;have:here=j:=by simpa using yp
    subst this;exact⟨a,ps,l,r,by rw[<-A.le];simp,by rw[zaA (by rw[oj];exact CW)];exact hl,by rw[<-oj];simp,⟨xs,bu (fun z=>mO (by rw[z];exact mp)) CY,Mz,jz⟩,ht⟩
  ·intro i x hx;have nx:x∉M/\x≠b:=by
    by_cases z:i<es.length
    ·rw[zaA z] at hx;have h1:=A.en i x hx;refine⟨h1,fun zz=>?_⟩;obtain⟨j,hj⟩:∃j,pars[i]?=some (some j):=by
      by_cases z0:i=0
      ·rw[z0,A.e0] at hx;cases hx
      ·obtain⟨j,q1,_⟩:=A.ob.tr.up i (by lia) (by rw[<-A.le];exact z)
       exact⟨j,q1⟩
     obtain⟨a',kQ,lj,li,d_,_,_,h4,_⟩:=A1.ev i j hj;rw[hx] at d_;cases d_;obtain⟨ys,hy,_⟩:=h4;have:=CT _ _ hy h1;rw[zz,fb] at this;cases this
    ·have zi:i=es.length:=by
      have:=(zah.mp hx).1;rw[zqA,zaL] at this;lia
     subst zi;have:a=x:=by simpa using hx
     subst this;exact⟨mO,na⟩
   intro h;rcases zai.mp h with h|h
   ·exact nx.1 h
   ·exact nx.2 (zac.mp h)
  ·rw[zqA,zqA,A.lb];rfl
  ·intro i x hx;by_cases z:i<bs.length
   ·rw[zaA z] at hx;exact bu (fun zz=>a6 (by rw[<-zz];exact zan hx))<|R8.h7 i x hx
   ·have zi:i=bs.length:=by
     have:=(zah.mp hx).1;rw[zqA,zaL] at this;lia
    subst zi;have:b=x:=by simpa using hx
    subst this;rw[A.lb,CL A.ob.tr,aa7 A.ob.tr<|zqR _,if_neg (by lia)]
    exact bu (fun zz=>rZ (by rw[zz];exact mp)) Mv
  ·rw[zqA,zqA,A.mM];rfl
end
def kg(H:Hp):List V->List (V×V)->Prop:=Paired fun v p=>∃t,v=.ref t/\H t=some (.tup [p.1,p.2])
theorem kg.same(s:cz H H'):∀{xs:List V}{ps:List (V×V)},kg H xs ps->kg H' xs ps
 |_,_,.nil=>.nil
 |_,_,.cons ⟨t,e,h⟩ r=>.cons ⟨t,e,s _ _ h⟩ (kg.same s r)
theorem kg.at:∀{xs:List V}{ps:List (V×V)}{i:Nat}{v:V},kg H xs ps->xs[i]?=some v->∃p t,ps[i]?=some p/\v=.ref t/\H t=some (.tup [p.1,p.2])
 |_,_,i,v,.nil,e=>by simp at e
 |_,_,0,v,.cons ⟨t,e',h⟩ r,e=>by simp at e;subst e;exact⟨_,t,rfl,e',h⟩
 |_,_,i+1,v,.cons h r,e=>by
  obtain⟨p,t,a,b⟩:=kg.at (i:=i) r (by simpa using e)
  exact⟨p,t,by simpa using a,b⟩
theorem MA{α β:Type}{R:α->β->Prop}:∀{xs:List α}{ys:List β},xs.length=ys.length->(∀(i:Nat) x y,xs[i]?=some x->ys[i]?=some y->R x y)->Paired R xs ys
 |[],[],_,_=>.nil
 |[],_::_,h,_=>by cases h
 |_::_,[],h,_=>by cases h
 |x::xs,y::ys,h,k=>.cons (k 0 x y rfl rfl) (MA (Nat.succ.inj h) fun i a b ha hb=>k (i+1) a b (by simpa using ha) (by simpa using hb))
section
variable {K:Frag}
theorem abk{QQ:List V->Hp->Addr->Prop}{te:TE}{fv:List (Str×Nat)}{a:Addr}{cs:List (V×V)}(ha:H a=some (.lst xs))(hc:kg H xs cs)(hl:cs.length<=1000000)(P:Nat->List V->Hp->Prop)(p0:P 0 [] H)
  (step:∀i c ys H2,cs[i]?=some c->ay H H2->P i ys H2->∀Q':VK,(∀y H3,ay H2 H3->P (i+1) (ys++[y]) H3->Q' y H3)->te (some c.1::some c.2::cH σ fv) H2 Q')
  (fin:∀ys H2 p,ay H H2->P cs.length ys H2->ys.length=cs.length->H2 p=none->QQ ys H2 p):∃W:Nat->Nat->List V->Hp->Prop,(∃m,W 0 m [] H)/\∀i m ys H2,W i m ys H2->
   ((fO K a).stop i H2/\∀p,H2 p=none->QQ ys H2 p)\/
   ((fO K a).go i H2/\∀x H3,(fO K a).gR i H2 x H3->jG K (some 2) x H3 fun zs=>mY none (zs.map some++cH σ fv) H3 fun b H5=>
    if b=true then te (zs.map some++cH σ fv) H5 fun y H6=>ys.length<sizeLine/\∃m',m'<m/\W (i+1) m' (ys++[y]) H6 else ∃m',m'<m/\W (i+1) m' ys H5):=by
 have lx:xs.length=cs.length:=Paired.length hc;refine⟨fun i m ys H2=>m=xs.length - i/\i<=xs.length/\ys.length=i/\ay H H2/\P i ys H2,⟨_,rfl,zqZ _,rfl,ay.refl _,p0⟩,?_⟩;rintro i m ys H2 ⟨rfl,hi,hy,s,p⟩;by_cases aX:i<xs.length
 ·refine .inr ⟨⟨xs,xs[i],au.of<|s _ _ ha,by simp[aX]⟩,?_⟩
  rintro x H3 ⟨rfl,hx⟩;obtain⟨c,t,vm,rfl,ht⟩:=kg.at hc (hx xs<|au.of<|s _ _ ha);refine⟨t,_,rfl,aH.of<|s _ _ ht,rfl,?_⟩;exact step i c ys _ vm s p _ fun y H4 s4 p4=>⟨dN (by lia),xs.length - (i+1),by lia,rfl,aX,by simp[hy],s.trans s4,p4⟩
 ·have jS:i=xs.length:=by lia
  subst jS;refine .inl ⟨⟨xs,au.of<|s _ _ ha,zqR _⟩,fun q hq=>fin ys _ q s ?_ (by lia) hq⟩
  rw[<-lx];exact p
end
def iJ(pars:List (Option Nat))(n m:Nat):Prop:=pars[m]?=some (some n)\/pars[n]?=some (some m)
def abl(pars:List (Option Nat))(ns:List Nat):Prop:= ∀i n m,ns[i]?=some n->ns[i+1]?=some m->iJ pars n m
def jA(pars:List (Option Nat))(la:List (Option Nat))(p:Nat×Nat):List (Option Nat):=if pars[p.1]?=some (some p.2) then la.set p.2 (some p.1) else la
def yq(pars:List (Option Nat))(ns:List Nat)(la:List (Option Nat)):List (Option Nat):=(ns.zip ns.tail).foldl (jA pars) la
theorem CZ:∀(ps:List (Nat×Nat)) (la:List (Option Nat)),(ps.foldl (jA pars) la).length=la.length
 |[],_=>rfl
 |p::ps,la=>by
  rw[zbJ,CZ ps];unfold jA
  split
  ·rw[List.length_set]
  ·rfl
section
variable {K:Frag}{C:Addr}
theorem abm(n:Nat):B.az (eN [.keep (n:Int)])=0:=by
 rw[xg [.keep (n:Int)] (by intro p hp;cases zac.mp hp;show(0:Int)<=_;lia)];rfl
theorem abn{E:XK}{b t:Addr}{l:List Nat}(h:H b=some (.lst [.ref t]))(ht:H t=some (.tup [.str "keep",.int (l.length:Int)]))(hl:l.length<=100000)
  (q:∀(c:Addr) (H':Hp),ay H H'->H c=none->bx H' c (eN [.keep (l.length:Int)]) l l->Q (.ref c) H'):jU [.ref b] H Q E:=by
 refine⟨b,[.ref t],[.keep (l.length:Int)],rfl,h,.cons ⟨t,rfl,ht⟩ .nil,(by show 1<=100000;decide),(by show 0+0<=100000;decide),fun c H' ys s hc h2 h3=>q c H' s hc ⟨ys,h2,?_,aan⟩⟩
 rw[uc [.keep (l.length:Int)] (by intro p hp;cases zac.mp hp;show(0:Int)<=_;lia)] at h3
 exact h3
def qp(C:Addr):Sp:=fun vs H Q E=>∃(p:Addr) (M Ed:List Addr) (here d:Nat) (pars:List (Option Nat)) (av:List (List Nat)) (last:List (Option Nat)) (T:Nat) (w:Addr) (rest:List Nat) (l r:List Nat),vs=[.ref p,.ref w]/\dn C H p M Ed here pars av last T/\H w=some (.lst<|iV (here::rest))/\w∉M/\
 abl pars (here::rest)/\(∀n∈rest,n<pars.length)/\rest.length<=9000/\T*rest.length<=14000/\T<=14000/\(here::rest)[rest.length]?=some d/\av[here]?=some l/\av[d]?=some r/\l.length<=100000/\
 ∀(c:Addr) (ps:List Pt) (H':Hp),bP M H H'->H c=none->c∉M->bx H' c ps l r->B.az ps<=T*rest.length->dn C H' p M Ed d pars av (yq pars (here::rest) last) T->Q (.ref c) H'
theorem abo(X:dU K C):bT (qp C) (fun E=>aO K [("neat",jU),("joined_all",Cu)] [] [] [("edge",C,CJ C)] (E:=E)) IG IF:=by
 intro vs H Q E h;obtain⟨p,M,Ed,here,d,pars,av,last,T,w,rest,l,r,rfl,⟨dx,lo,pa,ed,be,lg,bs,es,A⟩,hw,nw,gQ,qY,hle,hT,C0,hd,hl,hr,kf,q⟩:=h;have sz:=A.ob.sz;have CO:(av.map List.length).length=pars.length:=A.ob.ln;have oj:av.length=pars.length:=by rw[<-CO,zad]
 refine bC ?_;refine⟨_,rfl,_,rfl,⟨_,rfl,.inl ⟨_,au.of hw,fun w2 fw2=>?_⟩⟩⟩;have ec:d6 (iV (here::rest)) (some (1:Int)) none=iV rest:=by
  rw[show((1:Int))=((1:Nat):Int) from rfl,L7];rfl
 have s1:=sameNew (o:=.lst (d6 (iV (here::rest)) (some (1:Int)) none)) fw2;have C1:upd H w2 (.lst<|d6 (iV (here::rest)) (some (1:Int)) none) w2=some (.lst<|iV rest):=by rw[aw,ec]
 refine⟨w,w2,_,_,rfl,au.of<|s1 _ _ hw,au.of C1,fun ts L H2 C2 s2 MB fL uI hL=>?_⟩;generalize upd H w2 (.lst<|d6 (iV (here::rest)) (some (1:Int)) none)=H1 at s1 C1 s2 MB fL uI;have i4:=s1.trans s2;have C2:ts.length=rest.length:=by
  rw[C2,zad,zad,zak];lia
 have hP:kg H2 (ts.map V.ref) (((here::rest).zip rest).map fun p=>(V.int (p.1:Nat),V.int (p.2:Nat))):=by
  refine MA (by rw[zad,zad,List.length_zip,zak];lia) fun i v pr hv hp=>?_
  rw[zaf] at hv hp;obtain⟨t,ht,rfl⟩:=zba.mp hv;obtain⟨⟨n,m⟩,r_,rfl⟩:=zba.mp hp;obtain⟨h1,h2⟩:=zcd.mp r_;obtain⟨u,v,e1,e2,e3⟩:=uI i t ht;rw[zaf,h1] at e1;rw[zaf,h2] at e2;cases e1;cases e2;exact⟨t,rfl,e3⟩
 have C3:((here::rest).zip rest).length=rest.length:=by rw[List.length_zip,zak];lia
 have A2:=A.same i4;have Cb:=s2 _ _ (s1 _ _ hw);clear uI MB s2 C1;have hlh:(av.map List.length)[here]?=some l.length:=by rw[zaf,hl];rfl
 refine bC<|dw<|ax<|cC jU rfl<|ax<|dw<|ax<|kW<|ax<|aA<|ax<|bw<|bY<|af rfl ⟨p,C,dx,_,_,rfl,A2.ob.ob,X.cl,X.rn,yd,bY<|af rfl ⟨p,C,dx,_,_,rfl,A2.ob.ob,X.cl,X.gB,i5,dG A2.ob.ol (dq (by rw[zaf,hlh];rfl))<|aK ⟨d4,fun t ft=>aK ⟨eG,fun b fb=>aK ?_⟩⟩⟩⟩
 have s3:=sameNew (o:=.tup [V.str "keep",V.int (l.length:Nat)]) ft;have s4:=sameNew (o:=.lst [V.ref t]) fb;refine abn aw (s4 _ _ aw) kf fun c0 H5 s5 fc0 MC=>aK ⟨eG,fun L2 MD=>?_⟩;have ME:=(s3.trans s4).trans s5;have abt:=(i4.trans<|s3.trans s4).free fc0;have s6:=sameNew (o:=.lst [V.ref c0]) MD;have og:=ME.trans s6;have pG:upd H5 L2 (.lst [V.ref c0]) L2=some (.lst [V.ref c0]):=aw;have MF:=MC.same s6;have A6:=A2.same og;have C4:=hP.same (du og);have yr:=og _ _ hL;have j6:=og _ _ Cb;have C5:=i4.trans og;generalize upd H5 L2 (.lst [V.ref c0])=H6 at s6 og pG MF A6 C4 yr j6 C5⊢;clear s3 s4 s5 ME MC ft fb MD;have abu:∀n,n<pars.length->∃x,av[n]?=some x:=fun n h=>⟨_,zav (by rw[oj];exact h)⟩
 have uT:∀(i n:Nat),(here::rest)[i]?=some n->n<pars.length:=fun i n e=>by
  rcases zaa.mp (zan e) with rfl|h
  ·exact A.ob.hr
  ·exact qY n h
 refine bC<|cC Cu rfl<|ax<|bU<|af rfl ?_;refine⟨_,rfl,L,rfl,⟨_,au.of yr⟩,abk yr C4 (by rw[zad,C3];lia) (fun i ys H7=>∃(n t:Nat) (x:List Nat),(here::rest)[i]?=some n/\av[n]?=some x/\cX H7 ys l x t/\t<=T*i) ⟨here,0,l,rfl,hl,⟨rfl,rfl⟩,zqZ _⟩ ?_ ?_⟩
 ·intro i c ys H7 hc s7 ⟨n,t,x,hn,hx,cv,ht⟩ Q' kk;rw[zaf] at hc;obtain⟨⟨n',m⟩,r_,rfl⟩:=zba.mp hc;obtain⟨h1,h2⟩:=zcd.mp r_;rw[hn] at h1;have e:n=n':=zal h1;subst e;have l_:(here::rest)[i+1]?=some m:=by rw[zaQ];exact h2
  obtain⟨y,hy⟩:=abu m (uT _ _ l_);have A7:=A6.same s7;have om:pars[m]?=some (some n)\/(pars[m]?≠some (some n)/\pars[n]?=some (some m)):=by
   rcases gQ i n m hn l_ with h|h
   ·exact .inl h
   ·by_cases z:pars[m]?=some (some n)
    ·exact .inl z
    ·exact .inr ⟨z,h⟩
  refine Co C (CJ C) rfl<|af rfl ⟨p,dx,_,rfl,A7.ob.ob,gi,af rfl<|af rfl ⟨p,dx,lo,pa,ed,be,lg,here,_,pars,es,av,T,n,m,x,y,rfl,A7.ob,A7.he,A7.ev,C0,hx,hy,uT _ _ l_,om,fun c ps H8 s8 hc8 tt=>kk _ _ s8 ⟨m,t+B.az ps,y,l_,hy,cX.app (cX.same s8 cv) ⟨c,ps,y,0,rfl,hc8,⟨rfl,rfl⟩,rfl⟩,?_⟩⟩⟩;rw[Nat.mul_add,Nat.mul_one];lia
 ·intro ys H7 b7 s7 ⟨n,t,x,hn,hx,cv,ht⟩ ly f7;rw[zad,C3] at hn ht ly;rw[hd] at hn;cases hn;rw[hr] at hx;cases hx;have s8:=sameNew (o:=.lst ys) f7;refine .inl ⟨L2,b7,_,_,rfl,rfl,s8 _ _<|s7 _ _ pG,aw,cU (by show 1+ys.length<=_;lia),fun b9 f9=>aK ?_⟩
  have s9:=sameNew (o:=.lst ([V.ref c0]++ys)) f9;have C6:=s7.trans (s8.trans s9);have ln9:([V.ref c0]++ys).length=1+ys.length:=by rw[zqA];rfl
  refine⟨b9,[V.ref c0]++ys,l,r,0+t,rfl,aw,⟨c0,_,l,t,rfl,MF.same C6,cX.same (s8.trans s9) cv,by rw[abm]⟩,by lia,by lia,by lia,fun c ps C7 s10 abx tt fc=>?_⟩
  have uU:=C6.trans s10;have sH:=C5.trans uU;have jB:=A6.same uU;have rV:H c=none:=by
   rcases fc with fc|fc
   ·exact(C5.trans C6).free fc
   ·cases ys with
    |nil=>cases fc;exact abt
    |cons y r'=>cases fc
  have mH:c∉M:=A.live.no rV;have aby:=C4.same (du uU);have MG:=uU _ _ yr;have abz:=uU _ _ j6;have lH:H L=none:=s1.free fL;have nLM:L∉M:=A.live.no lH;have lv:=jB.live;have C8:lg∈M:=by rw[A.eM];simp
  have mp:p∈M:=by rw[A.eM];simp
  obtain⟨⟨a1,a2,a3,a4,a5,a6⟩,⟨b1,b2,b3,b4,b5⟩,⟨c1,c2,c3,c4⟩,⟨d1,d2,d3⟩,⟨e1,e2⟩,g1,g2⟩:=A.ap.l;have ett:((here::rest).zip rest)=(here::rest).zip (here::rest).tail:=rfl;refine aaC<|af rfl ⟨L,rfl,⟨_,au.of MG⟩,mU (K:=K) (a:=L) (xs:=ts.map V.ref) (fun i σ mP=>∃u5 u6,σ=[some<|.ref p,some<|.ref w,some<|.ref L,some<|.ref L2,some<|.ref c,u5,u6]/\aJ lg C7 mP/\mP lg=some (.lst<|((((here::rest).zip rest).take i).foldl (jA pars) last).map gV)) ⟨none,none,rfl,fun _ _ e _=>e,jB.hg⟩ ?_ ?_ ?_⟩
  ·rintro i σ mP _ ⟨u5,u6,rfl,b,_⟩;exact au.of<|b _ _ MG fun z=>nLM (by rw[z];exact C8)
  ·rintro i x σ mP hi ⟨u5,u6,rfl,b,hg⟩;obtain⟨pr,t,tX,rfl,ht⟩:=kg.at aby hi;rw[zaf] at tX;obtain⟨⟨n,m⟩,r_,rfl⟩:=zba.mp tX;obtain⟨h1,h2⟩:=zcd.mp r_;have hn:=uT _ _ h1;have hm:=uT (i+1) m (by rw[zaQ];exact h2)
   have abB:=b _ _ ht fun z=>by rw[z,jB.hg] at ht;cases ht
   refine⟨t,_,rfl,.inl<|aH.of abB,rfl,_,_,rfl,_,_,rfl,rfl,?_⟩;have op:=b _ _ jB.ob.op c3;have oo:=b _ _ jB.ob.ob a5;have C9:pars[n]?=some pars[n]:=zav hn;have lla:=CZ (pars:=pars) (((here::rest).zip rest).take i) last;have ll:=A.mM;refine bK<|ba<|bw<|bY<|af rfl ⟨p,C,dx,_,_,rfl,oo,X.cl,X.jP,lB,af rfl<|dG op (dq (by rw[zaf,C9];rfl))<|af rfl<|yg ⟨_,rfl,?_⟩⟩
   have p9:(((here::rest).zip rest).take<|i+1).foldl (jA pars) last=jA pars ((((here::rest).zip rest).take i).foldl (jA pars) last) (n,m):=by
    rw[aaJ r_,List.foldl_append];rfl
   by_cases z:pars[n]=some m
   ·refine iT ?_ (zqT z);refine Cr<|af rfl<|bY<|af rfl ⟨p,C,dx,_,_,rfl,oo,X.cl,X.wK,CB,af rfl ⟨lg,_,_,m,rfl,rfl,hg,?_,?_⟩⟩
    ·rw[zad,lla,ll];unfold ip;rw[if_pos (by lia),if_pos (by lia)];rfl
    ·refine⟨_,_,rfl,b.trans aJ.upd,?_⟩;rw[aw,p9];unfold jA;rw[C9,z,if_pos rfl,List.map_set];rfl
   ·refine iF ?_ (zqF z);refine⟨_,_,rfl,b,?_⟩;rw[p9];unfold jA;rw[C9,if_neg<|fun e=>z<|zal e];exact hg
  ·rintro σ mP ⟨u5,u6,rfl,b,hg⟩;rw[zad,C2,zaV (by rw[C3];exact zqR _)] at hg
   have oo:=b _ _ jB.ob.ob a5;have abD:=b _ _ abz fun z=>nw (by rw[z];exact C8)
   have bL:bP M C7 mP:=fun x o e n=>b x o e fun z=>n (by rw[z];exact C8)
   have abE:fi (iV (here::rest)) (-1)=some (V.int (d:Nat)):=by
    have e1:(here::rest)=(here::rest).dropLast++[d]:=by
     have e2:(here::rest).getLast (by simp)=d:=by
      rw[List.getLast_eq_getElem];have:=(zah.mp hd).2
      simpa using this
     rw[<-e2,List.dropLast_concat_getLast]
    rw[e1];unfold iV;rw[zao];exact zy _ _
   refine lA<|bw<|af rfl<|nZ<|.inl ⟨w,_, -1,_,rfl,rfl,au.of abD,abE,af rfl ⟨p,C,dx,_,rfl,oo,X.cl,X.gB,(by show 6<1000;decide),?_⟩⟩
   rw[Ml];have bp:bP M mP (upd mP p<|.ins C dx<|h6 (d:Nat) lo pa ed be lg):=bP.upd mp;have bb:=bL.trans bp;have k:∀{x:Addr}{o:HO},C7 x=some o->x≠lg->x≠p->upd mP p (.ins C dx<|h6 (d:Nat) lo pa ed be lg) x=some o:=fun e n1 n2=>bu n2 (b _ _ e n1);refine cP<|af rfl<|q c ps _ ((bP.of sH).trans bb) rV mH (abx.keep (fun o e=>bb c o e mH)<|lv.bS bb) (by lia) ⟨dx,lo,pa,ed,be,lg,bs,es,?_⟩
   exact⟨⟨aw,k jB.ob.ol b4<|Ne.symm a1,k jB.ob.op c3<|Ne.symm a2,A.ob.ln,A.ob.tr,uT _ _ hd,A.ob.sz⟩,A.eM,A.ap,k jB.he d2<|Ne.symm a3,A.le,A.ea,A.e0,jB.Mi bb,A.en,k jB.hb e1<|Ne.symm a4,A.lb,fun i x hx=>k (jB.hk i x hx) (fun z=>g1 (by rw[<-z];exact zan hx))<|fun z=>a6 (by rw[<-z];exact zan hx),by rw[aF<|Ne.symm a5];exact hg,by show(((here::rest).zip rest).foldl (jA pars) last).length=_;rw[CZ];exact A.mM⟩
end
def gj(R:Nat->Nat->Prop):List Nat->Prop
 |a::b::r=>R a b/\gj R (b::r)
 |_=>True
theorem C_{R:Nat->Nat->Prop}{m:Nat}{r:List Nat}:∀(l:List Nat),gj R (l++[m])->gj R (m::r)->gj R (l++m::r)
 |[],_,h=>h
 |[a],h,h'=>⟨h.1,h'⟩
 |a::b::l,h,h'=>⟨h.1,C_ (b::l) h.2 h'⟩
theorem abF{R:Nat->Nat->Prop}{m k:Nat}(h2:R m k):∀(l:List Nat),gj R (l++[m])->gj R (l++[m]++[k]):=fun l h=>by
 rw[zaj];exact C_ l h ⟨h2,trivial⟩
theorem Dc{R:Nat->Nat->Prop}{x:List Nat}:∀(p:List Nat),gj R (p++x)->gj R x
 |[],h=>h
 |[a],h=>by cases x with
  |nil=>trivial
  |cons b r=>exact h.2
 |a::b::p,h=>Dc (b::p) h.2
theorem yt{R:Nat->Nat->Prop}:∀(l:List Nat),gj R l->gj (fun a b=>R b a) l.reverse
 |[],_=>trivial
 |[a],_=>trivial
 |a::b::r,h=>by
  have ih:=yt (b::r) h.2;rw[zaJ] at ih⊢;rw[zaJ];exact abF (R:=fun a b=>R b a) h.1 r.reverse ih
theorem Dd{R S:Nat->Nat->Prop}(h:∀a b,R a b->S a b):∀(l:List Nat),gj R l->gj S l
 |[],_=>trivial
 |[a],_=>trivial
 |a::b::r,k=>⟨h _ _ k.1,Dd h (b::r) k.2⟩
theorem MH{R:Nat->Nat->Prop}:∀(l:List Nat),gj R l->∀i n m,l[i]?=some n->l[i+1]?=some m->R n m
 |[],_,i,n,m,h,_=>by simp at h
 |[a],_,i,n,m,_,h=>by simp at h
 |a::b::r,k,0,n,m,h,h'=>by simp at h h';subst h h';exact k.1
 |a::b::r,k,i+1,n,m,h,h'=>MH (b::r) k.2 i n m (by simpa using h) (by simpa using h')
section
variable {pars:List (Option Nat)}
theorem MI(T:gN pars):∀n,n<pars.length->gj (fun a b=>pars[a]?=some (some b)) (ups pars n n)/\(∀k∈ups pars n n,k<pars.length)/\(∃r,ups pars n n=n::r)/\∃q,ups pars n n=q++[0]:=by
 intro n
 induction n using Nat.strongRecOn with
 |ind n ih=>
  intro hn;by_cases z:n=0
  ·subst z;exact⟨trivial,fun k hk=>by cases zac.mp hk;exact hn,⟨[],rfl⟩,⟨[],rfl⟩⟩
  ·obtain⟨j,hj,aX,e⟩:=rX T (by lia) hn
   obtain⟨h1,h2,⟨r,er⟩,⟨q,eq⟩⟩:=ih j aX (by lia)
   rw[e];refine⟨?_,fun k hk=>?_,⟨_,rfl⟩,⟨n::q,by rw[eq];rfl⟩⟩
   ·rw[er] at h1⊢;exact⟨hj,h1⟩
   ·rcases zaa.mp hk with rfl|hk
    ·exact hn
    ·exact h2 k hk
theorem abG:∀(x y:List Nat) (m:Nat) (xs ys:List Nat),x=m::xs->y=m::ys->∃m' bo fU p q,strip x y=(m'::bo,m'::fU)/\x=p++m'::bo/\y=q++m'::fU:=by
 intro x
 induction x with
 |nil=>intro y m xs ys h;cases h
 |cons a as ih=>
  intro y m xs ys h1 h2;cases h1;subst h2
  match as,ys,ih with
  |[],ys,_=>exact⟨a,[],ys,[],[],CH a _,rfl,rfl⟩
  |b::bs,[],_=>exact⟨a,b::bs,[],[],[],CI _ a,rfl,rfl⟩
  |b::bs,c::cs,ih=>
   by_cases z:b=c
   ·subst z;obtain⟨m',bo,fU,p,q,e,e1,e2⟩:=ih (b::cs) b bs cs rfl rfl;exact⟨m',bo,fU,a::p,a::q,by rw[strip_eq,e],by rw[e1];rfl,by rw[e2];rfl⟩
   ·exact⟨a,b::bs,c::cs,[],[],Me z,rfl,rfl⟩
theorem MJ(T:gN pars){d:Nat}(hn:n<pars.length)(hd:d<pars.length):∃(u v:List Nat) (m:Nat),ic pars n d=u++m::v/\(∃p,ups pars n n=u++m::p)/\(∃p,ups pars d d=v.reverse++m::p)/\gj (iJ pars) (ic pars n d)/\(∃r,ic pars n d=n::r)/\(∃q,ic pars n d=q++[d])/\(∀k∈ic pars n d,k<pars.length)/\u.length+v.length<=n+d:=by
 obtain⟨h1,h2,⟨r1,e1⟩,⟨q1,f1⟩⟩:=MI T n hn;obtain⟨g1,g2,⟨r2,e2⟩,⟨q2,f2⟩⟩:=MI T d hd;obtain⟨m,xs,ys,p,q,es,ex,ey⟩:=abG (ups pars n n).reverse (ups pars d d).reverse 0 q1.reverse q2.reverse (by rw[f1,zby];rfl) (by rw[f2,zby];rfl)
 have ew:ic pars n d=xs.reverse++m::ys:=by
  unfold ic;rw[es];show(m::xs).reverse++ys=_;rw[zaJ,zaj];rfl
 have eu:ups pars n n=xs.reverse++m::p.reverse:=by
  have:=congrArg List.reverse ex;rw[zaS,zby,zaJ,zaj] at this;exact this
 have ed:ups pars d d=ys.reverse++m::q.reverse:=by
  have:=congrArg List.reverse ey;rw[zaS,zby,zaJ,zaj] at this;exact this
 have c1:gj (iJ pars) (xs.reverse++[m]):=by
  have hx:=Dc p (by rw[<-ex];exact yt _ h1)
  have:=yt _ hx;rw[zaJ] at this;exact Dd (fun a b h=>.inr h) _ this
 have c2:gj (iJ pars) (m::ys):=Dd (fun a b h=>.inl h) _ (Dc q (by rw[<-ey];exact yt _ g1))
 have MK:=yf T n hn;have ML:=yf T d hd;rw[eu] at MK;rw[ed] at ML
 simp only[zqA,zaH,zak] at MK ML
 refine⟨xs.reverse,ys,m,ew,⟨_,eu⟩,⟨_,ed⟩,by rw[ew];exact C_ _ c1 c2,?_,?_,?_,by rw[zaH];lia⟩
 ·rw[eu] at e1;rw[ew];cases hx:xs.reverse with
  |nil=>rw[hx] at e1;cases e1;exact⟨_,rfl⟩
  |cons a b=>rw[hx] at e1;cases e1;exact⟨_,rfl⟩
 ·rw[ed] at e2;rw[ew];cases hy:ys.reverse with
  |nil=>
   rw[hy] at e2;have:ys=[]:=List.reverse_eq_nil_iff.mp hy;subst this;cases e2;exact⟨_,rfl⟩
  |cons a b=>
   rw[hy] at e2;have:ys=b.reverse++[a]:=by rw[<-zaS ys,hy,zaJ]
   cases e2;exact⟨xs.reverse++m::b.reverse,by rw[this,zaj];rfl⟩
 ·intro k hk;rw[ew] at hk;rcases zai.mp hk with hk|hk
  ·exact h2 k (by rw[eu];exact zaw _ hk)
  ·rcases zaa.mp hk with rfl|hk
   ·exact h2 k (by rw[eu];exact zau _ zax)
   ·exact g2 k (by rw[ed];exact zaw _ (List.mem_reverse.mpr hk))
end
section
variable {K:Frag}{C CN:Addr}
def mQ(C:Addr)(H:Hp)(p:Addr)(M Ed:List Addr)(here d:Nat)(rest:List Nat)(pars:List (Option Nat))(av:List (List Nat))(last:List (Option Nat))(T:Nat)(l r:List Nat)(Q:VK):Prop:=
 ∀(c:Addr) (ps:List Pt) (H':Hp),bP M H H'->H c=none->c∉M->bx H' c ps l r->B.az ps<=T*rest.length->dn C H' p M Ed d pars av (yq pars (here::rest) last) T->Q (.ref c) H'
def yu(C CN:Addr):Sp:=fun vs H Q E=>∃(p:Addr) (M Ed:List Addr) (here:Nat) (pars:List (Option Nat)) (av:List (List Nat)) (last:List (Option Nat)) (T:Nat),vs=[.ref p]/\dn C H p M Ed here pars av last T/\T<=14000/\
 ((∃(j:Nat) (l r:List Nat),pars[here]?=some (some j)/\av[here]?=some l/\av[j]?=some r/\l.length<=100000/\mQ C H p M Ed here j [j] pars av last T l r Q)\/(here=0/\E (.ref CN) none H))
def yv(C CN:Addr):Sp:=fun vs H Q E=>∃(p:Addr) (M Ed:List Addr) (here:Nat) (pars:List (Option Nat)) (av:List (List Nat)) (last:List (Option Nat)) (T:Nat),vs=[.ref p]/\dn C H p M Ed here pars av last T/\T<=14000/\
 ((∃(j:Nat) (l r:List Nat),last[here]?=some (some j)/\pars[j]?=some (some here)/\av[here]?=some l/\av[j]?=some r/\l.length<=100000/\mQ C H p M Ed here j [j] pars av last T l r Q)\/(last[here]?=some none/\E (.ref CN) none H))
def De(C:Addr):Sp:=fun vs H Q E=>∃(p:Addr) (M Ed:List Addr) (here d:Nat) (pars:List (Option Nat)) (av:List (List Nat)) (last:List (Option Nat)) (T:Nat) (rest:List Nat) (l r:List Nat),vs=[.ref p,.int d]/\dn C H p M Ed here pars av last T/\d<pars.length/\ic pars here d=here::rest/\rest.length<=9000/\T*rest.length<=14000/\T<=14000/\av[here]?=some l/\av[d]?=some r/\l.length<=100000/\
 mQ C H p M Ed here d rest pars av last T l r Q
theorem mQ.same{p:Addr}{d:Nat}{rest:List Nat}{av:List (List Nat)}{last:List (Option Nat)}{T:Nat}{l r:List Nat}(g:mQ C H p M Ed here d rest pars av last T l r Q)(s:ay H H1):mQ C H1 p M Ed here d rest pars av last T l r Q:=
 fun c ps H' b f n h t x=>g c ps H' ((bP.of s).trans b) (s.free f) n h t x
theorem abH(X:dU K C):bT (yu C CN) (fun E=>aO K [] [] [] [("along",C,qp C)] (et:=[("NoNode",CN)]) (E:=E)) Il kR:=by
 intro vs H Q E h;obtain⟨p,M,Ed,here,pars,av,last,T,rfl,⟨dx,lo,pa,ed,be,lg,bs,es,A⟩,hT,h⟩:=h;refine bK<|ba<|bY<|af rfl ⟨p,C,dx,_,_,rfl,A.ob.ob,X.cl,X.gB,i5,aA<|j_ ⟨_,rfl,?_⟩⟩;rcases h with⟨j,l,r,hj,hl,hr,kf,q⟩|⟨rfl,q⟩
 ·have h0:here≠0:=fun z=>by rw[z,A.ob.tr.rt] at hj;cases hj
  refine iF (cQ ?_)<|zqF (by lia)
  obtain⟨j',bJ,aX⟩:=A.ob.tr.up here (by lia) A.ob.hr
  rw[hj] at bJ;cases bJ;refine cP<|js C (qp C) rfl<|af rfl ⟨p,dx,_,rfl,A.ob.ob,gi,dw<|ax<|bY<|af rfl ⟨p,C,dx,_,_,rfl,A.ob.ob,X.cl,X.gB,i5,ax<|bw<|bY<|af rfl ⟨p,C,dx,_,_,rfl,A.ob.ob,X.cl,X.jP,lB,bY<|af rfl ⟨p,C,dx,_,_,rfl,A.ob.ob,X.cl,X.gB,i5,dG A.ob.op (dq (by rw[zaf,hj];rfl))<|aK ⟨d4,fun w fw=>?_⟩⟩⟩⟩⟩
  have s1:=sameNew (o:=.lst (iV [here,j])) fw;refine⟨p,M,Ed,here,j,pars,av,last,T,w,[j],l,r,rfl,⟨dx,lo,pa,ed,be,lg,bs,es,A.same s1⟩,aw,A.live.no fw,fun i n m h1 h2=>?_,fun n hn=>by cases zac.mp hn;exact Nat.lt_trans aX A.ob.hr,(by show 1<=9000;decide),by show T*1<=_;lia,hT,rfl,hl,hr,kf,mQ.same q s1⟩
  cases i with
  |zero=>cases h1;cases h2;exact .inr hj
  |succ i=>simp at h2
 ·exact iT ⟨eG,q⟩ rfl
theorem abI(X:dU K C):bT (yv C CN) (fun E=>aO K [] [] [] [("along",C,qp C)] (et:=[("NoNode",CN)]) (E:=E)) Ip Io:=by
 intro vs H Q E h;obtain⟨p,M,Ed,here,pars,av,last,T,rfl,⟨dx,lo,pa,ed,be,lg,bs,es,A⟩,hT,h⟩:=h;obtain⟨o,ho⟩:∃o,last[here]?=some o:=⟨_,zav (by rw[A.mM];exact A.ob.hr)⟩
 refine bC<|bw<|bY<|af rfl ⟨p,C,dx,_,_,rfl,A.ob.ob,X.cl,X.wK,CB,bY<|af rfl ⟨p,C,dx,_,_,rfl,A.ob.ob,X.cl,X.gB,i5,dG A.hg (dq (by rw[zaf,ho];rfl)) ?_⟩⟩
 rcases h with⟨j,l,r,hj,hp,hl,hr,kf,q⟩|⟨hn,q⟩
 ·rw[ho] at hj;cases hj;have hjl:=(zah.mp hp).1;refine bK<|ba<|af rfl<|aA ⟨rfl,_,rfl,iF (cQ ?_) rfl⟩;refine cP<|js C (qp C) rfl<|af rfl ⟨p,dx,_,rfl,A.ob.ob,gi,dw<|ax<|bY<|af rfl ⟨p,C,dx,_,_,rfl,A.ob.ob,X.cl,X.gB,i5,ax<|af rfl<|aK ⟨d4,fun w fw=>?_⟩⟩⟩;have s1:=sameNew (o:=.lst (iV [here,j])) fw;refine⟨p,M,Ed,here,j,pars,av,last,T,w,[j],l,r,rfl,⟨dx,lo,pa,ed,be,lg,bs,es,A.same s1⟩,aw,A.live.no fw,fun i n m h1 h2=>?_,fun n hn=>by cases zac.mp hn;exact hjl,(by show 1<=9000;decide),by show T*1<=_;lia,hT,rfl,hl,hr,kf,mQ.same q s1⟩
  cases i with
  |zero=>cases h1;cases h2;exact .inl hp
  |succ i=>simp at h2
 ·rw[ho] at hn;cases hn;exact bK<|ba<|af rfl<|aA ⟨rfl,_,rfl,iT ⟨eG,q⟩ rfl⟩
theorem abK(X:dU K C):bT (De C) (fun E=>aO K [] [] [] [("along",C,qp C),("way",C,rY C)] (E:=E)) Iq kS:=by
 intro vs H Q E h;obtain⟨p,M,Ed,here,d,pars,av,last,T,rest,l,r,rfl,⟨dx,lo,pa,ed,be,lg,bs,es,A⟩,hd,ew,hle,hT,C0,hl,hr,kf,q⟩:=h;refine cP<|js C (qp C) rfl<|af rfl ⟨p,dx,_,rfl,A.ob.ob,gi,Co C (rY C) rfl<|af rfl ⟨p,dx,_,rfl,A.ob.ob,gi,bY<|af rfl ⟨p,C,dx,_,_,rfl,A.ob.ob,X.cl,X.gB,i5,af rfl ⟨p,dx,lo,pa,ed,be,lg,here,_,pars,here,d,rfl,A.ob,A.ob.hr,hd,fun w H1 s1 fw hw=>?_⟩⟩⟩⟩;obtain⟨u,v,m,e1,_,_,hc,_,⟨q',e2⟩,hk,_⟩:=MJ A.ob.tr A.ob.hr hd;rw[ew] at hw hc e2 hk;have ed':(here::rest)[rest.length]?=some d:=by
  rw[e2];have:q'.length=rest.length:=by
   have:=congrArg List.length e2
   simp only[zak,zqA,zaU] at this
   lia
  rw[<-this];simp
 exact⟨p,M,Ed,here,d,pars,av,last,T,w,rest,l,r,rfl,⟨dx,lo,pa,ed,be,lg,bs,es,A.same s1⟩,hw,A.live.no fw,fun i n m h1 h2=>MH _ hc i n m h1 h2,fun n hn=>hk n<|zay _ hn,hle,hT,C0,ed',hl,hr,kf,mQ.same q s1⟩
end
section
variable {K:Frag}{C CP:Addr}
abbrev z1:List (Str×V):=[("here",.int 0)]
abbrev z2(lo:Addr):List (Str×V):=[("here",.int 0),("lengths",.ref lo)]
abbrev z3(lo pa:Addr):List (Str×V):=[("here",.int 0),("lengths",.ref lo),("parents",.ref pa)]
abbrev z4(lo pa ed:Addr):List (Str×V):=[("here",.int 0),("lengths",.ref lo),("parents",.ref pa),("edges",.ref ed)]
abbrev z5(lo pa ed be:Addr):List (Str×V):=[("here",.int 0),("lengths",.ref lo),("parents",.ref pa),("edges",.ref ed),("below",.ref be)]
def Df(C CP:Addr):Sp:=fun vs H Q E=>∃(p dx:Addr) (v:V),vs=[.ref p,v]/\H p=some (.ins C dx [])/\
 ((∃(x:List Nat) (T:Nat),v=.int (x.length:Nat)/\∀(M:List Addr) (H':Hp),aJ p H H'->(∀a∈M,a≠p->H a=none)->dn C H' p M [] 0 [none] [x] [none] T->Q .aC H')\/((p6 v H\/∃i:Int,v=.int i/\i<0)/\E (.ref CP) none H))
theorem MM{a p:Addr}(b:aJ p H H')(f:H' a=none)(n:a≠p):H a=none:=by
 cases h:H a with
 |none=>rfl
 |some o=>rw[b a o h n] at f;cases f
theorem uV{p a:Addr}{fs gp:List (Str×V)}(b1:aJ p H H1)(f:H1 a=none)(o1:H1 p=some (.ins C dx fs)):a≠p/\H a=none/\aJ p H (upd (upd H1 a<|.lst xs) p<|.ins C dx gp)/\upd (upd H1 a<|.lst xs) p (.ins C dx gp) p=some (.ins C dx gp)/\upd (upd H1 a<|.lst xs) p (.ins C dx gp) a=some (.lst xs)/\
  ∀c o,H1 c=some o->c≠p->c≠a/\upd (upd H1 a<|.lst xs) p (.ins C dx gp) c=some o:=by
 have n:a≠p:=fun z=>by rw[<-z,f] at o1;cases o1
 refine⟨n,MM b1 f n,(b1.same<|sameNew f).trans aJ.upd,aw,bu n aw,fun c o e nc=>⟨fun z=>(by rw[z,f] at e;cases e),bu nc<|sameNew f _ _ e⟩⟩
theorem abM(X:dU K C):bT (Df C CP) (fun E=>aO K [("is_whole",nM)] [] (et:=[("NoPlace",CP)]) (E:=E)) Ia H_:=by
 intro vs H Q E h;obtain⟨p,dx,v,rfl,hp,h⟩:=h;rcases h with⟨x,T,rfl,q⟩|⟨hn,q⟩
 ·refine bK (mJ<|iI<|jx nM rfl<|ax<|af rfl<|aK ⟨_,rfl,.inl ⟨_,rfl,iH<|iF (ba<|af rfl<|aA<|ltI ⟨_,rfl,iF (cQ ?_)<|zqF (by lia)⟩) rfl⟩⟩)
  refine lA<|aA<|af rfl ⟨p,C,dx,_,rfl,hp,X.cl,X.gB,(by show 0<1000;decide),?_⟩
  rw[show bN "here" (V.int 0) []=z1 from rfl]
  have b1:aJ p H (upd H p<|.ins C dx z1):=aJ.upd;have o1:upd H p (.ins C dx z1) p=some (.ins C dx z1):=aw;generalize upd H p (.ins C dx z1)=H1 at b1 o1⊢;refine lA<|dw<|ax<|af rfl<|aK ⟨eG,fun lo f2=>af rfl ⟨p,C,dx,_,rfl,bu (fun z=>by rw[z,f2] at o1;cases o1) o1,X.cl,X.rn,(by show 1<1000;decide),?_⟩⟩
  have e2:bN "lengths" (V.ref lo) (z1)=z2 lo:=by rw[dv (by decide+kernel)];rfl
  rw[e2];obtain⟨n2,r2,b2,o2,l2,w2⟩:=uV (gp:=z2 lo) (xs:=[V.int (x.length:Nat)]) b1 f2 o1;clear w2;generalize upd (upd H1 lo<|.lst [V.int (x.length:Nat)]) p (.ins C dx<|z2 lo)=H2 at b2 o2 l2⊢;refine lA<|dw<|ax<|aA<|aK ⟨eG,fun pa f3=>af rfl ⟨p,C,dx,_,rfl,bu (fun z=>by rw[z,f3] at o2;cases o2) o2,X.cl,X.jP,(by show 2<1000;decide),?_⟩⟩
  have e3:bN "parents" (V.ref pa) (z2 lo)=z3 lo pa:=by rw[dv (by decide+kernel),dv (by decide+kernel)];rfl
  rw[e3];obtain⟨n3,r3,b3,o3,l3,w3⟩:=uV (gp:=z3 lo pa) (xs:=[V.aC]) b2 f3 o2;obtain⟨abN,MN⟩:=w3 _ _ l2 n2;clear w3;generalize upd (upd H2 pa<|.lst [V.aC]) p (.ins C dx<|z3 lo pa)=H3 at b3 o3 l3 MN⊢;refine lA<|dw<|ax<|aA<|aK ⟨eG,fun ed f4=>af rfl ⟨p,C,dx,_,rfl,bu (fun z=>by rw[z,f4] at o3;cases o3) o3,X.cl,X.nu,(by show 3<1000;decide),?_⟩⟩
  have e4:bN "edges" (V.ref ed) (z3 lo pa)=z4 lo pa ed:=by rw[dv (by decide+kernel),dv (by decide+kernel),dv (by decide+kernel)];rfl
  rw[e4];obtain⟨n4,r4,b4,o4,l4,w4⟩:=uV (gp:=z4 lo pa ed) (xs:=[V.aC]) b3 f4 o3;obtain⟨abO,yw⟩:=w4 _ _ MN n2;obtain⟨abP,yx⟩:=w4 _ _ l3 n3;clear w4;generalize upd (upd H3 ed<|.lst [V.aC]) p (.ins C dx<|z4 lo pa ed)=H4 at b4 o4 l4 yw yx⊢;refine lA<|dw<|ax<|dw<|aK ⟨DQ,fun b fb=>aK ⟨eG,fun be f5=>?_⟩⟩;have nb:b≠p:=fun z=>by rw[<-z,fb] at o4;cases o4
  have rb:=MM b4 fb nb;have sb:=sameNew (o:=.lst []) fb;have MO:=b4.same sb;have uW:=sb _ _ o4;have se:upd H4 b (.lst []) b=some (.lst []):=aw;have ul:lo≠b:=fun z=>by rw[z,fb] at yw;cases yw
  have up:pa≠b:=fun z=>by rw[z,fb] at yx;cases yx
  have ue:ed≠b:=fun z=>by rw[z,fb] at l4;cases l4
  have MP:=sb _ _ yw;have MQ:=sb _ _ yx;have MR:=sb _ _ l4;generalize upd H4 b (.lst [])=H4' at MO uW se MP MQ MR f5 sb⊢;refine(af rfl ⟨p,C,dx,_,rfl,bu (fun z=>by rw[z,f5] at uW;cases uW) uW,X.cl,X.tW,(by show 4<1000;decide),?_⟩)
  have e5:bN "below" (V.ref be) (z4 lo pa ed)=z5 lo pa ed be:=by rw[dv (by decide+kernel),dv (by decide+kernel),dv (by decide+kernel),dv (by decide+kernel)];rfl
  rw[e5];obtain⟨n5,r5,b5,o5,l5,w5⟩:=uV (gp:=z5 lo pa ed be) (xs:=[V.ref b]) MO f5 uW;obtain⟨abR,MS⟩:=w5 _ _ MP n2;obtain⟨abS,MT⟩:=w5 _ _ MQ n3;obtain⟨abT,MU⟩:=w5 _ _ MR n4;obtain⟨abU,MV⟩:=w5 _ _ se nb;clear w5;generalize upd (upd H4' be<|.lst [V.ref b]) p (.ins C dx<|z5 lo pa ed be)=H5 at b5 o5 l5 MS MT MU MV⊢;refine lA<|dw<|ax<|aA<|aK ⟨eG,fun lg f6=>af rfl ⟨p,C,dx,_,rfl,bu (fun z=>by rw[z,f6] at o5;cases o5) o5,X.cl,X.wK,(by show 5<1000;decide),?_⟩⟩
  have e6:bN "last_gone" (V.ref lg) (z5 lo pa ed be)=h6 (0:Nat) lo pa ed be lg:=by rw[dv (by decide+kernel),dv (by decide+kernel),dv (by decide+kernel),dv (by decide+kernel),dv (by decide+kernel)];rfl
  rw[e6];obtain⟨n6,r6,b6,o6,l6,w6⟩:=uV (gp:=h6 (0:Nat) lo pa ed be lg) (xs:=[V.aC]) b5 f6 o5;obtain⟨abV,MW⟩:=w6 _ _ MS n2;obtain⟨abW,MZ⟩:=w6 _ _ MT n3;obtain⟨abX,M0⟩:=w6 _ _ MU n4;obtain⟨abY,M1⟩:=w6 _ _ MV nb;obtain⟨abZ,M3⟩:=w6 _ _ l5 n5;clear w6;generalize upd (upd H5 lg<|.lst [V.aC]) p (.ins C dx<|h6 (0:Nat) lo pa ed be lg)=H6 at b6 o6 l6 MW MZ M0 M1 M3⊢;refine q [p,lo,pa,ed,be,lg,b] H6 b6 (fun a ha na=>?_) ⟨dx,lo,pa,ed,be,lg,[b],[V.aC],⟨o6,MW,MZ,rfl,⟨rfl,fun i h0 hi=>?_⟩,Nat.zero_lt_one,(by show 1<=100000;decide)⟩,rfl,⟨?_⟩,M0,rfl,rfl,rfl,fun i j e=>?_,fun i a e=>?_,M3,rfl,fun i a e=>?_,l6,rfl⟩
  ·simp only[zaa,zam,or_false] at ha
   rcases ha with rfl|rfl|rfl|rfl|rfl|rfl|rfl
   ·exact absurd rfl na
   ·exact r2
   ·exact r3
   ·exact r4
   ·exact r5
   ·exact r6
   ·exact rb
  ·exact absurd hi (by show ¬i<1;lia)
  ·simp only[zaO,zaa,not_or,zam,not_false_eq_true,and_true,List.nodup_nil]
   exact⟨⟨Ne.symm n2,Ne.symm n3,Ne.symm n4,Ne.symm n5,Ne.symm n6,Ne.symm nb⟩,⟨abN,abO,abR,abV,ul⟩,⟨abP,abS,abW,up⟩,⟨abT,abX,ue⟩,⟨abZ,Ne.symm abU⟩,Ne.symm abY⟩
  ·cases i with
   |zero=>cases e
   |succ i=>simp at e
  ·cases i with
   |zero=>cases e
   |succ i=>simp at e
  ·cases i with
   |zero=>cases e;exact M1
   |succ i=>simp at e
 ·rcases hn with hn|⟨i,rfl,hi⟩
  ·exact bK (mJ<|iI<|jx nM rfl<|ax<|af rfl<|aK ⟨_,rfl,.inr ⟨hn,iH<|iT (iT ⟨eG,q⟩ rfl) rfl⟩⟩)
  ·exact bK (mJ<|iI<|jx nM rfl<|ax<|af rfl<|aK ⟨_,rfl,.inl ⟨_,rfl,iH<|iF (ba<|af rfl<|aA<|ltI ⟨_,rfl,iT ⟨eG,q⟩<|zqT hi⟩) rfl⟩⟩)
end
section
variable {K:Frag}{Γ:bj}{σ:St}{H:Hp}{Q:VK}
theorem yy{T:Ty}(h:ae Γ a σ H fun x H1=>bH T x H1 fun b=>Q (.bl b) H1):ae Γ (.eK T a) σ H Q:=by
 have e:ae Γ (.eK T a) σ H Q=ae Γ a σ H fun x H1=>kH T [x,.ty T.nm] H1 Q:=rfl;rw[e];have e2:(fun(x:V) (H1:Hp)=>kH T [x,.ty T.nm] H1 Q)=fun x H1=>bH T x H1 fun b=>Q (.bl b) H1:=by
  funext x H1
  show(T.nm=T.nm/\_)=_
  simp
 rw[e2];exact h
theorem ab0(h:ae Γ a σ H fun x H1=>kD Γ.K x H1 fun b=>Q (.bl<|!b) H1):ae Γ (.not a) σ H Q:=h
end
section
variable {K:Frag}
def pK:Sp:=fun vs H Q E=>∃(v:V) (p:Pt),vs=[v]/\gJ H v p/\aV p/\∀H',ay H H'->Q (.bl true) H'
def sf:List V:=[.str "keep",.str "put",.str "cut"]
theorem kwK:eZ (.str "keep") sf=true:=by decide+kernel
theorem kwP:eZ (.str "put") sf=true:=by decide+kernel
theorem kwC:eZ (.str "cut") sf=true:=by decide+kernel
theorem ab4{p:Pt}:eZ (.str p.word) sf=true:=by
 cases p with
 |keep=>exact kwK
 |put=>exact kwP
 |cut=>exact kwC
theorem ab5:(("put":Str)==("keep":Str))=false:=by decide+kernel
theorem nPP:(("put":Str) !=("put":Str))=false:=by decide+kernel
theorem nKP:(("keep":Str) !=("put":Str))=true:=by decide+kernel
theorem nCP:(("cut":Str) !=("put":Str))=true:=by decide+kernel
theorem M4{T:Ty}{z:Int}{k:Bool->Prop}(q:k (T==.int)):bH T (.int z) H k:=q
theorem M5{T:Ty}{z:Str}{k:Bool->Prop}(q:k (T==.str)):bH T (.str z) H k:=q
theorem ab9:bT (pK) (fun E=>aO K [] [] (E:=E)) II IH:=by
 intro vs H Q E h;obtain⟨v,p,rfl,⟨t,rfl,ht⟩,ho,q⟩:=h;refine bK<|Cn<|iI<|L0<|af rfl<|Bt ht<|iF ?_ rfl;refine Cn<|ba<|fI<|af rfl<|.inr ⟨_,aH.of ht,aA<|qk ⟨_,rfl,iF ?_ rfl⟩⟩;refine LZ<|ba<|bw<|af rfl<|aA<|fH ht rfl<|kW<|ax<|aA<|ax<|aA<|ax<|aA<|aK ⟨yU,fun w fw=>?_⟩;have s1:=sameNew (o:=.tup sf) fw;refine⟨w,sf,rfl,.inr<|aH.of aw,rfl,rfl,?_⟩;rw[ab4];refine⟨_,rfl,iF (cQ ?_) rfl⟩;have fG:=s1 _ _ ht;cases p with
 |keep n=>
  have hn:1<=n:=ho;refine bK<|ba<|bw<|af rfl<|aA<|fH fG rfl<|aA<|gh ⟨_,rfl,iT ?_ L1⟩;refine cP<|n_<|yy<|bw<|af rfl<|aA<|fH fG rfl<|M4 ⟨_,rfl,iT ?_ rfl⟩;refine n_<|ab0<|yy<|bw<|af rfl<|aA<|fH fG rfl<|M4<|iH ⟨_,rfl,iT ?_ rfl⟩;refine yc<|jX<|bw<|af rfl<|aA<|fH fG rfl<|aA<|ka ?_;rw[zqT (by lia)];exact q _ s1
 |put s=>
  refine bK<|ba<|bw<|af rfl<|aA<|fH fG rfl<|aA<|gh ⟨_,rfl,iF (cQ ?_) ab5⟩;refine cP<|n_<|yy<|bw<|af rfl<|aA<|fH fG rfl<|M5 ⟨_,rfl,iT ?_ rfl⟩;refine yc<|jX<|bw<|af rfl<|aA<|fH fG rfl<|aA<|lh ?_;rw[show(s !=("":Str))=true by simpa using ho.2];exact q _ s1
 |cut s=>
  refine bK<|ba<|bw<|af rfl<|aA<|fH fG rfl<|aA<|gh ⟨_,rfl,iF (cQ ?_) L3⟩;refine cP<|n_<|yy<|bw<|af rfl<|aA<|fH fG rfl<|M5 ⟨_,rfl,iT ?_ rfl⟩;refine yc<|jX<|bw<|af rfl<|aA<|fH fG rfl<|aA<|lh ?_;rw[show(s !=("":Str))=true by simpa using ho.2];exact q _ s1
def sh:Sp:=fun vs H Q E=>∃(c:Addr) (ps:List Pt) (x y:Str),vs=[.ref c,.str x,.str y]/\good x/\bx H c ps x.cps.toList y.cps.toList/\ps.length<=100000/\y.length<=1000000/\∀H',ay H H'->Q (.bl true) H'
theorem ab_{QQ:List V->Hp->Addr->Prop}{te:TE}{tc:TT}{fv:List (Str×Nat)}{a:Addr}(ha:H a=some (.lst xs))
  (step:∀(i:Nat) (x:V) (H2:Hp),xs[i]?=some x->ay H H2->∀k:Bool->Hp->Prop,(∀H3,ay H2 H3->k false H3)->tc (some x::cH σ fv) H2 k)
  (fin:∀H2 p,ay H H2->H2 p=none->QQ [] H2 p):∃W:Nat->Nat->List V->Hp->Prop,(∃m,W 0 m [] H)/\∀i m ys H2,W i m ys H2->
   ((fO K a).stop i H2/\∀p,H2 p=none->QQ ys H2 p)\/
   ((fO K a).go i H2/\∀x H3,(fO K a).gR i H2 x H3->jG K none x H3 fun zs=>mY (some tc) (zs.map some++cH σ fv) H3 fun b H5=>
    if b=true then te (zs.map some++cH σ fv) H5 fun y H6=>ys.length<sizeLine/\∃m',m'<m/\W (i+1) m' (ys++[y]) H6 else ∃m',m'<m/\W (i+1) m' ys H5):=by
 refine⟨fun i m ys H2=>m=xs.length - i/\i<=xs.length/\ys=[]/\ay H H2,⟨_,rfl,zqZ _,rfl,ay.refl _⟩,?_⟩;rintro i m ys H2 ⟨rfl,hi,rfl,s⟩;by_cases aX:i<xs.length
 ·refine .inr ⟨⟨xs,xs[i],au.of<|s _ _ ha,by simp[aX]⟩,?_⟩
  rintro x H3 ⟨rfl,hx⟩;exact step i x _ (hx xs<|au.of<|s _ _ ha) s _ fun H4 s4=>iF ⟨xs.length - (i+1),by lia,rfl,aX,rfl,s.trans s4⟩ rfl
 ·have jS:i=xs.length:=by lia
  subst jS;exact .inl ⟨⟨xs,au.of<|s _ _ ha,zqR _⟩,fun q hq=>fin _ q s hq⟩
def Dg:List RS:=[.tE [5,6] (.ix (.v 0) (.v 4)),
  .asg 7 (.gY (.cmp .Gt (.v 4)<|.c<|.int 0) (.ix (.ix (.v 0)<|.bin .Sub (.v 4)<|.c<|.int 1)<|.c<|.int 0)<|.c<|.str ""),
  .ite (.or [(.cmp .Eq (.v 7)<|.v 5),(.and [(.cmp .Eq (.v 7)<|.c<|.str "cut"),(.cmp .Eq (.v 5)<|.c<|.str "put")])]) [.ret<|.c<|.bl false] [],
  .ite (.and [(.cmp .Eq (.v 5)<|.c<|.str "cut"),(.cmp .NotEq (.sl (.v 1) (some<|.v 3)<|some<|.bin .Add (.v 3)<|.blt .len [.v 6])<|.v 6)]) [.ret<|.c<|.bl false] [],
  .ite (.cmp .NotEq (.v 5) (.c (.str "put"))) [.asg 3 (.bin .Add (.v 3) (.gY (.cmp .Eq (.v 5) (.c (.str "keep"))) (.v 6) (.blt .len [.v 6])))] []]
def Dh(H:Hp)(c:Addr)(x y:Str)(ps:List Pt)(i:Nat)(σ:St)(H2:Hp):Prop:= ∃(u4 u5 u6 u7:Option V) (l0 l2 r2:List Nat),σ=[some<|.ref c,some<|.str x,some<|.str y,some<|.int (l0.length:Nat),u4,u5,u6,u7]/\ay H H2/\x.cps.toList=l0++l2/\Run l2 (ps.drop i) r2
theorem aca{E:XK}{tb:List (Str×Sp)}{x:Str}{q:Pt}(hx:good x)(hc:H c=some (.lst xs))(pv:aP H xs ps)(cN:chainOk "" ps=true)(aD:∀p∈ps,aV p)(hq:ps[i]?=some q)
  (I:Dh H c x y ps i σ H2) (hD:∀σ' H',Dh H c x y ps (i+1) σ' H'->D.nx σ' H'):aE (aO K tb [] (E:=E)) Dg D (σ.set 4<|some<|.int<|0+(i:Int)) H2:=by
 obtain⟨u4,u5,u6,u7,l0,l2,r2,rfl,sm,ex,ia⟩:=I;have aX:i<ps.length:=(zah.mp hq).1;have lx:=Paired.length pv;obtain⟨v,hv,t,rfl,ht⟩:∃v,xs[i]?=some v/\gJ H v q:=by
  have M6:xs[i]?=some xs[i]:=zav (by lia)
  obtain⟨q',jD,h⟩:=pv.get M6;rw[hq] at jD;cases jD;exact⟨_,M6,h⟩
 have cj:=sm _ _ hc;have qe:=sm _ _ ht;have ei:(0+(i:Int))=((i:Nat):Int):=by lia
 rw[ei];refine aaF<|bw<|af rfl<|af rfl<|dG cj (dq hv) ⟨t,_,rfl,.inl<|aH.of qe,rfl,_,_,rfl,_,_,rfl,rfl,?_⟩;have ahead:∀{Q:VK},Q (.str<|jj "" ps i) H2->ae (aO K tb [] (E:=E)) (.gY (.cmp .Gt (.v 4)<|.c<|.int 0) (.ix (.ix (.v 0)<|.bin .Sub (.v 4)<|.c<|.int 1)<|.c<|.int 0)<|.c<|.str "") [some<|.ref c,some<|.str x,some<|.str y,some<|.int (l0.length:Nat),some<|.int (i:Nat),some<|.str q.word,some q.val,u7] H2 Q:=by
  intro Q k;refine uL<|ba<|af rfl<|aA<|ka ⟨_,rfl,?_⟩;cases i with
  |zero=>exact iF (aA k) rfl
  |succ j=>
   refine iT ?_<|zqT (by lia)
   obtain⟨p',qS⟩:∃p',ps[j]?=some p':=⟨_,zav (by lia)⟩
   have Di:xs[j]?=some xs[j]:=zav (by lia)
   obtain⟨q',jD,t',e',rD⟩:=pv.get Di;rw[qS] at jD;cases jD;rw[e'] at Di;refine bw<|bw<|af rfl<|bU<|af rfl<|aA ⟨trivial,?_⟩;have e2:((j+1:Nat):Int) - 1=((j:Nat):Int):=by lia
   show m4 _ _ (.ref c) (.int<|((j+1:Nat):Int) - 1) H2 _;rw[e2];refine dG cj (dq Di)<|aA<|fH (sm _ _ rD) rfl ?_;have e3:jj "" ps (j+1)=p'.word:=by show(match ps[j]? with|some p=>p.word|none=>("":Str))=_;rw[qS]
   rw[e3] at k;exact k
 refine bC<|ahead ?_;have mf:=Bv ps "" i q cN hq;unfold gc at mf;rw[zag,bne_iff_ne,zaW] at mf;have n1:(jj "" ps i==q.word)=false:=by simpa using fun e=>mf.1 e.symm
 refine bK<|Cn<|ba<|af rfl<|af rfl<|gh ⟨_,rfl,iF ?_ n1⟩;have done:aE (aO K tb [] (E:=E)) (Dg.drop 3) D [some<|.ref c,some<|.str x,some<|.str y,some<|.int (l0.length:Nat),some<|.int (i:Nat),some<|.str q.word,some q.val,some<|.str<|jj "" ps i] H2:=by
  have ed:ps.drop i=q::ps.drop (i+1):=by rw[zbp aX,(zah.mp hq).2]
  rw[ed] at ia;cases q with
  |put z=>
   obtain⟨r',e2,h'⟩:=aaz ia;refine bK<|uJ<|ba<|af rfl<|aA<|gh ⟨_,rfl,iF (iF (cQ ?_) rfl) wPC⟩;refine bK<|ba<|af rfl<|aA<|lh ⟨_,rfl,iF (cQ ?_) nPP⟩;exact hD _ _ ⟨_,_,_,_,l0,l2,r',rfl,sm,ex,h'⟩
  |keep n=>
   obtain⟨a,l',r',e1,e2,e3,h'⟩:=aay ia;refine bK<|uJ<|ba<|af rfl<|aA<|gh ⟨_,rfl,iF (iF (cQ ?_) rfl) wKC⟩;refine bK<|ba<|af rfl<|aA<|lh ⟨_,rfl,iT ?_ nKP⟩;refine bC<|bU<|af rfl<|uL<|ba<|af rfl<|aA<|gh ⟨_,rfl,iT (af rfl<|ib ?_) L1⟩;have en:((l0.length:Nat):Int)+n=((l0++a).length:Nat):=by rw[zqA,e3];rfl
   rw[en];exact hD _ _ ⟨_,_,_,_,l0++a,l',r',rfl,sm,by rw[ex,e1,zaj],h'⟩
  |cut z=>
   obtain⟨l',e1,h'⟩:=aaA ia;have lz:=len_list z;have oz:=(aD (.cut z)<|zan hq).1;refine bK<|uJ<|ba<|af rfl<|aA<|gh ⟨_,rfl,iT ?_ wCC⟩;refine ba<|aaE<|af rfl<|af rfl ⟨_,rfl,bU<|af rfl<|fI<|af rfl ⟨cU oz.1,ib ⟨_,rfl,cU hx.1,?_⟩⟩⟩;have ec:jH x (some ((l0.length:Nat):Int)) (some<|((l0.length:Nat):Int)+((z.length:Nat):Int))=⟨z.cps.toList.toArray⟩:=KC (by rw[ex,e1]) _ (by rw[lz])
   rw[ec,show(⟨z.cps.toList.toArray⟩:Str)=z by simp]
   refine af rfl<|lh ⟨_,rfl,iF (cQ ?_) (by simp)⟩
   refine bK<|ba<|af rfl<|aA<|lh ⟨_,rfl,iT ?_ nCP⟩;refine bC<|bU<|af rfl<|uL<|ba<|af rfl<|aA<|gh ⟨_,rfl,iF (fI<|af rfl ⟨cU oz.1,ib ?_⟩) L3⟩;have en:((l0.length:Nat):Int)+((z.length:Nat):Int)=((l0++z.cps.toList).length:Nat):=by rw[zqA,<-lz];rfl
   rw[en];exact hD _ _ ⟨_,_,_,_,l0++z.cps.toList,l',r2,rfl,sm,by rw[ex,e1,zaj],h'⟩
 refine LZ<|uJ<|ba<|af rfl<|aA<|gh ⟨_,rfl,?_⟩;by_cases z:(jj "" ps i==("cut":Str))=true
 ·refine iT ?_ z;have n2:(q.word==("put":Str))=false:=by
   have:=mf.2;rw[z,Bool.true_and] at this;exact this
  exact ba<|af rfl<|aA<|gh ⟨_,rfl,iF (cQ done) n2⟩
 ·exact iF (iF (cQ done) rfl) (by simpa using z)
theorem acb:bT (sh) (fun E=>aO K [("_law_part",pK),("_law_done",xy)] [] (E:=E)) IJ Bm:=by
 intro vs H Q E h;obtain⟨c,ps,x,y,rfl,hx,cN,hl,hy,q⟩:=h;obtain⟨xs,hc,pv,hg⟩:=id cN;have lx:=Paired.length pv;refine bK<|mJ<|iI<|L0<|af rfl<|Kb hc<|iF ?_ rfl;refine ba<|fI ?_;refine⟨_,rfl,c,rfl,⟨_,au.of hc⟩,ab_ hc ?_ ?_⟩
 ·intro i v H2 hv s2 k kk;obtain⟨p,hp,jR⟩:=pv.get hv;exact iI<|jx pK rfl<|ax<|af rfl<|aK ⟨v,p,rfl,jR.mono<|du s2,hg.ok p<|zan hp,fun H3 s3=>iH<|kk H3 s3⟩
 ·intro H2 p s2 f2;have s3:=sameNew (o:=.lst []) f2;refine .inl ⟨_,au.of aw,aA<|ka ⟨_,rfl,iF (cQ ?_) rfl⟩⟩;have qq:=s2.trans s3;generalize upd H2 p (.lst [])=H3 at s3 qq⊢;refine bC<|aA ?_;refine L5 (body:=Dg)<|fI<|af rfl<|.inl ⟨_,au.of<|qq _ _ hc,xs.length,rfl,by lia,by lia,Er (lo:=0) (n:=((xs.length:Nat):Int).toNat) (Dh H c x y ps) ?_ ?_ ?_⟩
  ·exact⟨none,none,none,none,[],_,_,rfl,qq,rfl,hg.run⟩
  ·intro i σ H4 hi I;have fS:i<ps.length:=by rw[zaB] at hi;lia
   exact aca hx hc pv hg.ch hg.ok (zav fS) I fun σ' H' I'=>I'
  ·rintro σ H4 ⟨u4,u5,u6,u7,l0,l2,r2,rfl,sm,ex,ia⟩;rw[zaB,lx,zbQ] at ia;obtain⟨rfl,rfl⟩:=aaD ia;rw[zab] at ex;have el:x.length=l0.length:=by rw[len_list,ex]
   refine cP<|n_<|jX<|af rfl<|fI<|af rfl ⟨cU hx.1,j_ ⟨_,rfl,iT ?_ (by rw[el];simp)⟩⟩
   refine yc<|jX<|cC xy rfl<|ax<|af rfl<|ax<|af rfl<|aK<|aap hx (cN.same sm) (by rw[<-len_list];exact hy)<|af rfl<|gh ?_
   rw[show((⟨y.cps.toList.toArray⟩:Str)==y)=true by simp]
   exact q _ sm
end
section
variable {pars:List (Option Nat)}
theorem acd(T:gN pars)(h:pars[n]?=some (some j)):ups pars n n=n::ups pars j j/\j<n:=by
 have hn:=(zah.mp h).1;have h0:n≠0:=fun z=>by rw[z,T.rt] at h;cases h
 obtain⟨j',bJ,aX,e⟩:=rX T (by lia) hn
 rw[h] at bJ;cases bJ;exact⟨e,aX⟩
theorem gO(T:gN pars)(h:pars[n]?=some (some j)):j<n/\n<pars.length:=⟨(acd T h).2,(zah.mp h).1⟩
end
section
variable {K:Frag}{C CN:Addr}
theorem dZ.m0{p pa ed:Addr}(A:dZ C H p dx lo pa ed be lg here bB pars){m:Str}{sp:Sp}(hm:Γ.ms j=(C,sp))(h0:σ[i]?=some (some<|.ref p))(h:sp [.ref p] H Q Γ.E)(hn:kd.all (fun x=>decide<|¬m=x)=true:=by decide+kernel):ae Γ (.aM j m (.v i) []) σ H Q:=
 uo C sp hm (af h0 ⟨p,dx,_,rfl,A.ob,gi hn,h⟩)
theorem dZ.m1{p pa ed:Addr}(A:dZ C H p dx lo pa ed be lg here bB pars){m:Str}{sp:Sp}(hm:Γ.ms j=(C,sp))(h0:σ[i]?=some (some<|.ref p))(h:ae Γ a σ H fun y H2=>sp [.ref p,y] H2 Q Γ.E)(hn:kd.all (fun x=>decide<|¬m=x)=true:=by decide+kernel):ae Γ (.aM j m (.v i) [a]) σ H Q:=
 js C sp hm (af h0 ⟨p,dx,_,rfl,A.ob,gi hn,h⟩)
theorem dZ.m2{p pa ed:Addr}(A:dZ C H p dx lo pa ed be lg here bB pars){m:Str}{sp:Sp}(hm:Γ.ms j=(C,sp))(h0:σ[i]?=some (some<|.ref p))(h:ae Γ a σ H fun y H2=>ae Γ b σ H2 fun z H3=>sp [.ref p,y,z] H3 Q Γ.E)(hn:kd.all (fun x=>decide<|¬m=x)=true:=by decide+kernel):ae Γ (.aM j m (.v i) [a,b]) σ H Q:=
 Co C sp hm (af h0 ⟨p,dx,_,rfl,A.ob,gi hn,h⟩)
end
theorem ace{p q:Pt}(h1:p.word=q.word)(h2:p.val=q.val):p=q:=by
 have a:¬("keep":Str)="put":=by decide+kernel
 have b:¬("keep":Str)="cut":=by decide+kernel
 have c:¬("put":Str)="cut":=by decide+kernel
 cases p<;>cases q<;>first
  |exact absurd h1 a|exact absurd h1.symm a|exact absurd h1 b|exact absurd h1.symm b|exact absurd h1 c|exact absurd h1.symm c
  |(injection h2 with h2;rw[h2])
theorem M7:∀{xs:List V}{ps qs:List Pt},aP H xs ps->aP H xs qs->ps=qs
 |_,_,_,.nil,.nil=>rfl
 |_,_,_,.cons ⟨a,e,h⟩ r,.cons ⟨a',e',h'⟩ r'=>by
  rw[e] at e';cases e';rw[h] at h'
  injection h' with h'
  injection h' with h'
  injection h' with w h'
  injection w with w
  injection h' with x _
  rw[ace w x,M7 r r']
def iK(H:Hp)(Ed:List Addr)(J:Nat->List Pt->Prop):Prop:= ∀(i:Nat) (a:Addr),Ed[i]?=some a->∃xs ps,H a=some (.lst xs)/\aP H xs ps/\J (i+1) ps
section
variable {C:Addr}{H H':Hp}{p:Addr}{M Ed:List Addr}{here:Nat}{pars:List (Option Nat)}{av:List (List Nat)}{last:List (Option Nat)}{T:Nat}{dx lo pa ed be lg:Addr}{bs:List Addr}{es:List V}{J:Nat->List Pt->Prop}
theorem M8:∀(es:List V),(∀v∈es,∃a,v=V.ref a)->es=(qo es).map V.ref
 |[],_=>rfl
 |v::r,h=>by
  obtain⟨a,rfl⟩:=h v (.head _);have:=M8 r fun w hw=>h w (.tail _ hw);show V.ref a::r=V.ref a::(qo r).map V.ref;rw[<-this]
theorem eF.yz(A:eF C H p M Ed here pars av last T dx lo pa ed be lg bs es):es=V.aC::Ed.map V.ref:=by
 have e0:=A.e0;cases es with
 |nil=>cases e0
 |cons v r=>
  have:v=.aC:=zal e0;subst this;have hr:∀w∈r,∃a,w=V.ref a:=fun w hw=>by
   obtain⟨i,hi⟩:=zaK.mp hw;have hl:i+1<pars.length:=by
    have:=A.le;have h2:=(zah.mp hi).1;rw[zak] at this;lia
   obtain⟨j,hj,_⟩:=A.ob.tr.up (i+1) (by lia) hl
   obtain⟨a,ps,lj,li,h1,_⟩:=A.ev (i+1) j hj;rw[zaQ,hi] at h1;exact⟨a,zal h1⟩
  rw[M8 r hr];have:=A.ea;rw[<-this];rfl
theorem iK.keep(E:iK H Ed J)(k:∀a o,a∈Ed->H a=some o->H' a=some o)(t:cz H H'):iK H' Ed J:=fun i a e=>by
 obtain⟨xs,ps,h1,h2,h3⟩:=E i a e;exact⟨xs,ps,k a _ (zan e) h1,h2.mono t,h3⟩
theorem iK.same(E:iK H Ed J)(s:ay H H'):iK H' Ed J:=E.keep (fun _ _ _ e=>s _ _ e) (du s)
theorem iK.but(E:iK H Ed J)(A:dn C H p M Ed here pars av last T)(b:bP M H H'):iK H' Ed J:=by
 obtain⟨dx,lo,pa,ed,be,lg,bs,es,A⟩:=A;refine E.keep (fun a o ha e=>b a o e ?_)<|A.live.bS b;obtain⟨i,hi⟩:=zaK.mp ha;exact A.en (i+1) a (by rw[A.yz,zaQ,zaf,hi];rfl)
def uX(H:Hp)(es:List V)(pars:List (Option Nat))(av:List (List Nat))(T:Nat)(J:Nat->List Pt->Prop):Prop:= ∀(i j:Nat),pars[i]?=some (some j)->∃(a:Addr) (ps:List Pt) (lj li:List Nat),es[i]?=some (V.ref a)/\av[j]?=some lj/\av[i]?=some li/\bx H a ps lj li/\B.az ps<=T/\J i ps
theorem eF.edj(A:eF C H p M Ed here pars av last T dx lo pa ed be lg bs es)(E:iK H Ed J):uX H es pars av T J:=fun i j e=>by
 obtain⟨a,ps,lj,li,h1,h2,h3,⟨xs,g1,g2,g3⟩,h5⟩:=A.ev i j e;refine⟨a,ps,lj,li,h1,h2,h3,⟨xs,g1,g2,g3⟩,h5,?_⟩;have d_:=h1;rw[A.yz] at d_;cases i with
 |zero=>cases d_
 |succ i=>
  rw[zaQ,zaf] at d_;obtain⟨a',kT,e'⟩:=zba.mp d_;cases e';obtain⟨ys,qs,k1,k2,k3⟩:=E i a kT;rw[g1] at k1;cases k1;rw[M7 g2 k2];exact k3
end
section
variable {K:Frag}{C CF:Addr}
def M9(C:Addr):Sp:=fun vs H Q E=>∃(p dx lo pa ed be lg:Addr) (here:Nat) (bB:List Nat) (pars:List (Option Nat)) (es:List V) (av:List (List Nat)) (T n m:Nat) (ln lm:List Nat) (J:Nat->List Pt->Prop),vs=[.ref p,.int n,.int m]/\dZ C H p dx lo pa ed be lg here bB pars/\H ed=some (.lst es)/\uX H es pars av T J/\T<=14000/\av[n]?=some ln/\av[m]?=some lm/\
 m<pars.length/\(pars[m]?=some (some n)\/(pars[m]?≠some (some n)/\pars[n]?=some (some m)))/\∀(c:Addr) (ps:List Pt) (H':Hp),ay H H'->bx H' c ps ln lm->B.az ps<=T->(pars[m]?=some (some n)/\J m ps\/pars[n]?=some (some m)/\∃e0,J n e0/\ps=bk e0)->Q (.ref c) H'
theorem acg(T:dU K C):bT (M9 C) (fun E=>aO K [("back",nJ)] [] (E:=E)) Bi Bh:=by
 intro vs H Q E h;obtain⟨p,dx,lo,pa,ed,be,lg,here,bB,pars,es,av,t,n,m,ln,lm,J,rfl,A,he,hE,ht,hn,hm,CK,hd,q⟩:=h;have lG:pars[m]?=some pars[m]:=zav CK;refine cP<|uL<|ba<|bw<|bY<|af rfl ⟨p,C,dx,_,_,rfl,A.ob,T.cl,T.jP,lB,af rfl<|dG A.op (dq (by rw[zaf,lG];rfl))<|af rfl<|yg ⟨_,rfl,?_⟩⟩
 by_cases z:pars[m]=some n
 ·refine iT ?_ (zqT z);rw[z] at lG;obtain⟨a,ps,lj,li,h1,h2,h3,h4,h5,h6⟩:=hE m n lG;rw[hn] at h2;cases h2;rw[hm] at h3;cases h3;exact bw<|bY<|af rfl ⟨p,C,dx,_,_,rfl,A.ob,T.cl,T.nu,rW,af rfl<|dG he (dq h1)<|q a ps H (ay.refl _) h4 h5<|.inl ⟨lG,h6⟩⟩
 ·refine iF ?_ (zqF z);have ma:pars[n]?=some (some m):=by
   rcases hd with hd|hd
   ·rw[lG] at hd;exact absurd (zal hd) z
   ·exact hd.2
  obtain⟨a,ps,lj,li,h1,h2,h3,h4,h5,h6⟩:=hE n m ma;rw[hm] at h2;cases h2;rw[hn] at h3;cases h3;have cl:ps.length<=2*B.az ps+1:=kb ps "" h4.chg.ok h4.chg.ch;have hb:=(h4.chg.bk (by lia)).2
  refine cC nJ rfl<|ax<|bw<|bY<|af rfl ⟨p,C,dx,_,_,rfl,A.ob,T.cl,T.nu,rW,af rfl<|dG he (dq h1)<|aK<|Ck h4 (by lia) (by lia) fun c H' s fc hc=>q c _ H' s hc ?_ (.inr ⟨ma,ps,h6,rfl⟩)⟩
  have:=hb.1;lia
def lI(pars:List (Option Nat))(n:Nat):List Nat:=(match pars[n]? with|some (some j)=>[j]|_=>[])++kids pars n
theorem ach{m:Nat}:m∈kids pars n↔pars[m]?=some (some n):=by
 unfold kids;rw[List.mem_filter,zbA]
 constructor
 ·intro h
  simpa using h.2
 ·intro h;exact⟨(zah.mp h).1,by rw[h];simp⟩
theorem M_{m:Nat}:m∈lI pars n↔iJ pars n m:=by
 unfold lI iJ;rw[zai,ach]
 constructor
 ·rintro(h|h)
  ·right
   split at h
   ·rename_i j e
    rw[zac.mp h];exact e
   ·cases h
  ·exact .inl h
 ·rintro(h|h)
  ·exact .inr h
  ·left
   rw[h];simp
def Na(C:Addr):Sp:=fun vs H Q E=>∃(p:Addr) (M Ed:List Addr) (here:Nat) (pars:List (Option Nat)) (av:List (List Nat)) (last:List (Option Nat)) (T n:Nat),vs=[.ref p,.int n]/\dn C H p M Ed here pars av last T/\n<pars.length/\∀b H',ay H H'->H b=none->H' b=some (.lst<|iV<|lI pars n)->Q (.ref b) H'
theorem Nb{c:RE}(h:bg Γ c σ H fun t H1=>if t=true then ae Γ a σ H1 Q else ae Γ b σ H1 Q):ae Γ (.gY c a b) σ H Q:=h
theorem aci(X:dU K C):bT (Na C) (fun E=>aO K [] [] (E:=E)) Iy Iw:=by
 intro vs H Q E h;obtain⟨p,M,Ed,here,pars,av,last,T,n,rfl,⟨dx,lo,pa,ed,be,lg,bs,es,A⟩,hn,q⟩:=h;have sz:=A.ob.sz;obtain⟨b,hb⟩:∃b,bs[n]?=some b:=⟨_,zav (by rw[A.lb];exact hn)⟩
 have uY:(bs.map V.ref)[n]?=some (V.ref b):=by rw[zaf,hb];rfl
 have hk:=A.hk n b hb;have kl:(kids pars n).length<=pars.length:=by
  unfold kids;have:=zbY (fun j=>pars[j]?==some (some n)) (List.range pars.length);rw[zaG] at this;exact this
 have fin:∀(L:Addr) (ab:List Nat) (H1:Hp),ab.length<=1->ay H H1->H L=none->H1 L=some (.lst<|iV ab)->ab++kids pars n=lI pars n->aE (aO K [] [] (E:=E)) [.ret<|.bin .Add (.v 2)<|.ix (.fld (.v 0) "below")<|.v 1] (Dn Q) [some<|.ref p,some<|.int (n:Nat),some<|.ref L] H1:=by
  intro L ab H1 la s1 fL hL e;have A1:=A.same s1;refine cP<|bU<|af rfl<|bw<|bY<|af rfl ⟨p,C,dx,_,_,rfl,A1.ob.ob,X.cl,X.tW,ye,af rfl<|dG A1.hb (dq uY)<|.inl ⟨L,b,_,_,rfl,rfl,hL,s1 _ _ hk,cU ?_,fun w fw=>?_⟩⟩
  ·unfold iV;rw[zad,zad];lia
  ·have e2:iV ab++iV (kids pars n)=iV (lI pars n):=by rw[<-e];unfold iV;rw[zao]
   rw[e2];exact q w _ (s1.trans<|sameNew fw) (s1.free fw) aw
 refine bC<|Nb<|ba<|af rfl<|aA<|j_ ⟨_,rfl,?_⟩;by_cases z:n=0
 ·refine iT ?_ (zqT (by lia))
  refine dw<|aK ⟨zqZ _,fun L fL=>fin L [] _ (zqZ _) (sameNew fL) fL aw ?_⟩;unfold lI;rw[z,A.ob.tr.rt]
 ·refine iF ?_ (zqF (by lia))
  obtain⟨j,hj,_⟩:=A.ob.tr.up n (by lia) hn
  have acj:(pars.map gV)[n]?=some (V.int (j:Nat)):=by rw[zaf,hj];rfl
  refine dw<|ax<|bw<|bY<|af rfl ⟨p,C,dx,_,_,rfl,A.ob.ob,X.cl,X.jP,lB,af rfl<|dG A.ob.op (dq acj)<|aK ⟨eG,fun L fL=>fin L [j] _ (zqR 1) (sameNew fL) fL aw ?_⟩⟩;unfold lI;rw[hj]
def yA(pars:List (Option Nat))(vis:List Nat):Prop:= ∃t∈vis,∀k∈vis,t<=k/\(k=t\/∃j∈vis,pars[k]?=some (some j))
theorem yA.add{vis:List Nat}(T:gN pars)(h:yA pars vis){a b:Nat}(ha:a∈vis)(hb:b∉vis)(ad:iJ pars a b):yA pars (vis++[b])/\∀x∈vis,iJ pars b x->x=a:=by
 obtain⟨t,ht,h⟩:=h;rcases ad with ad|ad
 ·have lt:=(gO T ad).1;refine⟨⟨t,zaw _ ht,fun k hk=>?_⟩,fun x hx hd=>?_⟩
  ·rcases zai.mp hk with hk|hk
   ·refine⟨(h k hk).1,?_⟩;rcases (h k hk).2 with e|⟨j,hj,e⟩
    ·exact .inl e
    ·exact .inr ⟨j,zaw _ hj,e⟩
   ·rw[zac.mp hk];have:=(h a ha).1;exact⟨by lia,.inr ⟨a,zaw _ ha,ad⟩⟩
  ·rcases hd with hd|hd
   ·rcases (h x hx).2 with e|⟨j,hj,e⟩
    ·have:=(gO T hd).1;have:=(h a ha).1;lia
    ·rw[hd] at e;cases e;exact absurd hj hb
   ·rw[ad] at hd;cases hd;rfl
 ·have lt:=(gO T ad).1;have at':a=t:=by
   rcases (h a ha).2 with e|⟨j,hj,e⟩
   ·exact e
   ·rw[ad] at e;cases e;exact absurd hj hb
  subst at';refine⟨⟨b,zau _<|.head _,fun k hk=>?_⟩,fun x hx hd=>?_⟩
  ·rcases zai.mp hk with hk|hk
   ·have:=(h k hk).1;refine⟨by lia,.inr ?_⟩
    rcases (h k hk).2 with e|⟨j,hj,e⟩
    ·exact⟨b,zau _<|.head _,by rw[e];exact ad⟩
    ·exact⟨j,zaw _ hj,e⟩
   ·rw[zac.mp hk];exact⟨zqR _,.inl rfl⟩
  ·rcases hd with hd|hd
   ·rcases (h x hx).2 with e|⟨j,hj,e⟩
    ·exact e
    ·rw[hd] at e;cases e;exact absurd hj hb
   ·have:=(gO T hd).1;have:=(h x hx).1;lia
theorem ack{vis:List Nat}(T:gN pars){h:Nat}(hh:h∈vis)(lv:∀k∈vis,k<pars.length)(cl:∀k∈vis,∀m,iJ pars k m->m∈vis):∀k,k<pars.length->k∈vis:=by
 have up:∀n,n∈vis->0∈vis:=by
  intro n
  induction n using Nat.strongRecOn with
  |ind n ih=>
   intro hn;by_cases z:n=0
   ·rw[<-z];exact hn
   ·obtain⟨j,hj,aX⟩:=T.up n (by lia) (lv n hn)
    exact ih j aX<|cl n hn j<|.inr hj
 have h0:=up h hh;intro k
 induction k using Nat.strongRecOn with
 |ind k ih=>
  intro hk;by_cases z:k=0
  ·rw[z];exact h0
  ·obtain⟨j,hj,aX⟩:=T.up k (by lia) hk
   exact cl j (ih j aX (by lia)) k<|.inl hj
end
def eP(vis:List Nat)(ad:Nat->Addr):List (Key×V):=vis.map fun k=>((Sum.inl ((k:Nat):Int):Key),V.ref<|ad k)
theorem yB{ad:Nat->Addr}{k:Nat}:∀{vis:List Nat},k∈vis->eJ (eP vis ad) (.inl ((k:Nat):Int))=some (.ref<|ad k)
 |j::r,h=>by
  by_cases z:j=k
  ·subst z;exact oR rfl
  ·refine(lU<|fun e=>z ?_).trans (yB (vis:=r) ?_)
   ·have:((j:Nat):Int)=(k:Nat):=Sum.inl.inj e;lia
   ·rcases zaa.mp h with h|h
    ·exact absurd h.symm z
    ·exact h
theorem Dj{ad:Nat->Addr}{k:Nat}:∀{vis:List Nat},k∉vis->eJ (eP vis ad) (.inl ((k:Nat):Int))=none
 |[],_=>rfl
 |j::r,h=>by
  refine(lU<|fun e=>h ?_).trans<|Dj (vis:=r) fun z=>h (zay _ z);have:((j:Nat):Int)=(k:Nat):=Sum.inl.inj e;have:j=k:=by lia
  rw[this];exact zax
def fJ{α:Type}(f:Nat->α)(k:Nat)(a:α):Nat->α:=fun j=>if j=k then a else f j
theorem uZ{α:Type}{f:Nat->α}{k:Nat}{a:α}:fJ f k a k=a:=if_pos rfl
theorem oq{α:Type}{f:Nat->α}{k j:Nat}{a:α}(h:j≠k):fJ f k a j=f j:=if_neg h
theorem acm{vis:List Nat}{ad:Nat->Addr}{k:Nat}(h:k∉vis):putK (eP vis ad) (.inl ((k:Nat):Int)) (V.ref c)=eP (vis++[k]) (fJ ad k c):=by
 rw[vL _<|Dj h];unfold eP;rw[zao]
 congr 1
 ·refine zbo fun j hj=>?_;rw[oq<|fun z=>h (by rw[<-z];exact hj)]
 ·show[((Sum.inl ((k:Nat):Int):Key),V.ref c)]=[((Sum.inl ((k:Nat):Int):Key),V.ref<|fJ ad k c k)];rw[uZ]
structure Fg (H0 H:Hp) (pars:List (Option Nat)) (av:List (List Nat)) (T U:Nat) (I J':Nat->List Pt->Prop) (e2 g3 a4:Addr) (vis st:List Nat) (ad:Nat->Addr) (nt:Nat->List Nat) (es:List V):Prop where
 sm:ay H0 H
 he:H e2=some (.lst es)
 hg:H g3=some (.dK<|eP vis ad)
 hs:H a4=some (.lst<|iV st)
 fr:H0 e2=none/\H0 g3=none/\H0 a4=none
 ne:e2≠g3/\e2≠a4/\g3≠a4
 nd:vis.Nodup
 lv:∀k∈vis,k<pars.length
 ls:∀k∈st,k∈vis
 tp:yA pars vis
 gt:∀k∈vis,ad k∉ [e2,g3,a4]/\∃g l,av[k]?=some l/\bx H (ad k) g l (nt k)/\I k g/\B.az g<=U
 le:es.length=pars.length
 e0:es[0]?=some .aC
 ed:∀i j,pars[i]?=some (some j)->i∈vis->j∈vis->∃a q,es[i]?=some (.ref a)/\a∉ [e2,g3,a4]/\H0 a=none/\bx H a q (nt j) (nt i)/\J' i q/\B.az q<=T
section
variable {H0 H H':Hp}{pars:List (Option Nat)}{av:List (List Nat)}{T U:Nat}{I J':Nat->List Pt->Prop}{e2 g3 a4:Addr}{vis st:List Nat}{ad:Nat->Addr}{nt:Nat->List Nat}{es:List V}
theorem Fg.same(F:Fg H0 H pars av T U I J' e2 g3 a4 vis st ad nt es)(s:ay H H'):Fg H0 H' pars av T U I J' e2 g3 a4 vis st ad nt es:=by
 refine⟨F.sm.trans s,s _ _ F.he,s _ _ F.hg,s _ _ F.hs,F.fr,F.ne,F.nd,F.lv,F.ls,F.tp,fun k hk=>?_,F.le,F.e0,fun i j e hi hj=>?_⟩
 ·obtain⟨a,g,l,h1,h2,h3⟩:=F.gt k hk;exact⟨a,g,l,h1,h2.same s,h3⟩
 ·obtain⟨a,q,h1,h2,h3,h4,h5⟩:=F.ed i j e hi hj;exact⟨a,q,h1,h2,h3,h4.same s,h5⟩
theorem Fg.add(F:Fg H0 H pars av T U I J' e2 g3 a4 vis st ad nt es)(Tr:gN pars){other:Nat}{d:Addr}{qs:List Pt}{l r:List Nat}(k:∀y o,y∉ [e2,g3,a4]->H y=some o->H' y=some o)(tu:cz H H')
  (he:H' e2=some (.lst<|es.set i<|.ref d)) (hg:H' g3=some (.dK<|eP (vis++[other])<|fJ ad other c)) (hs:H' a4=some (.lst<|iV<|st++[other]))
  (hn:node∈vis) (ho:other∉vis) (ol:other<pars.length) (hl:av[other]?=some l) (hc:bx H' c ps l r) (cW:c∉ [e2,g3,a4]) (hI:I other ps) (tI:B.az ps<=U) (dW:d∉ [e2,g3,a4]) (d0:H0 d=none) (tq:B.az qs<=T)
  (cs:pars[other]?=some (some node)/\i=other/\bx H' d qs (nt node) r/\J' other qs\/pars[node]?=some (some other)/\i=node/\bx H' d qs r (nt node)/\J' node qs):
  Fg H0 H' pars av T U I J' e2 g3 a4 (vis++[other]) (st++[other]) (fJ ad other c) (fJ nt other r) (es.set i<|.ref d):=by
 have adj:iJ pars node other:=by
  rcases cs with c|c
  ·exact .inl c.1
  ·exact .inr c.1
 obtain⟨tp,only⟩:=F.tp.add Tr hn ho adj;have yC:node≠other:=fun z=>ho (by rw[<-z];exact hn)
 have kc:∀{a:Addr}{g:List Pt}{x y:List Nat},a∉ [e2,g3,a4]->bx H a g x y->bx H' a g x y:=fun h q=>q.keep (fun o e=>k _ o h e) tu;have il:i<es.length:=by
  rw[F.le];rcases cs with⟨_,rfl,_⟩|⟨_,rfl,_⟩
  ·exact ol
  ·exact F.lv _ hn
 have i0:i≠0:=by
  rcases cs with⟨e,rfl,_⟩|⟨e,rfl,_⟩
  ·have:=(gO Tr e).1;lia
  ·have:=(gO Tr e).1;lia
 refine⟨fun y o e=>k y o (fun z=>?_)<|F.sm _ _ e,he,hg,hs,F.fr,F.ne,?_,fun x hx=>?_,fun x hx=>?_,tp,fun x hx=>?_,by rw[List.length_set];exact F.le,by rw[zbD i0];exact F.e0,fun x y e hx hy=>?_⟩
 ·simp only[zaa,zam,or_false] at z
  rcases z with rfl|rfl|rfl
  ·rw[F.fr.1] at e;cases e
  ·rw[F.fr.2.1] at e;cases e
  ·rw[F.fr.2.2] at e;cases e
 ·exact List.nodup_append.mpr ⟨F.nd,by simp,fun x hx y hy e=>ho (by rw[<-zac.mp hy,<-e];exact hx)⟩
 ·rcases zai.mp hx with hx|hx
  ·exact F.lv x hx
  ·rw[zac.mp hx];exact ol
 ·rcases zai.mp hx with hx|hx
  ·exact zaw _ (F.ls x hx)
  ·exact zau _ hx
 ·rcases zai.mp hx with hx|hx
  ·have:x≠other:=fun z=>ho (by rw[<-z];exact hx)
   rw[oq this,oq this];obtain⟨a,g,l',h1,h2,h3⟩:=F.gt x hx;exact⟨a,g,l',h1,kc a h2,h3⟩
  ·rw[zac.mp hx,uZ,uZ];exact⟨cW,ps,l,hl,hc,hI,tI⟩
 ·have new:x=i->y=(if i=other then node else other)->∃a q,(es.set i<|.ref d)[x]?=some (V.ref a)/\a∉ [e2,g3,a4]/\H0 a=none/\bx H' a q (fJ nt other r y) (fJ nt other r x)/\J' x q/\B.az q<=T:=by
   intro e1 kh;subst e1;refine⟨d,qs,by rw[zbC il],dW,d0,?_,?_,tq⟩
   ·rcases cs with⟨_,rfl,h,_⟩|⟨_,rfl,h,_⟩
    ·rw[if_pos rfl] at kh;subst kh;rw[uZ,oq yC];exact h
    ·rw[if_neg yC] at kh;subst kh;rw[uZ,oq yC];exact h
   ·rcases cs with⟨_,rfl,_,h⟩|⟨_,rfl,_,h⟩ <;>exact h
  rcases zai.mp hx with ha|ha
  ·have xo:x≠other:=fun z=>ho (by rw[<-z];exact ha)
   rcases zai.mp hy with hb|hb
   ·have yo:y≠other:=fun z=>ho (by rw[<-z];exact hb)
    have xi:i≠x:=fun z=>by
     rcases cs with⟨_,rfl,_⟩|⟨e',rfl,_⟩
     ·exact xo z.symm
     ·rw[z,e] at e';cases e';exact yo rfl
    obtain⟨a,q,h1,h2,h3,h4,h5⟩:=F.ed x y e ha hb;exact⟨a,q,by rw[zbD xi];exact h1,h2,h3,by rw[oq xo,oq yo];exact kc h2 h4,h5⟩
   ·have yo:=zac.mp hb;subst yo;have xn:=only x ha (.inl e);subst xn;rcases cs with⟨e',_⟩|⟨_,ei,_⟩
    ·have:=(gO Tr e').1;have:=(gO Tr e).1;lia
    ·exact new ei.symm (by rw[ei,if_neg yC])
  ·have xo:=zac.mp ha;subst xo;rcases zai.mp hy with hb|hb
   ·have yn:=only y hb (.inr e);subst yn;rcases cs with⟨_,ei,_⟩|⟨e',_⟩
    ·exact new ei.symm (by rw[ei,if_pos rfl])
    ·have:=(gO Tr e').1;have:=(gO Tr e).1;lia
   ·rw[zac.mp hb] at e;have:=(gO Tr e).1;lia
end
section
variable {K:Frag}{C CF:Addr}
theorem si:∀(n:Nat) (l:List Nat),l.Nodup->(∀x∈l,x<n)->l.length<=n
 | 0,[],_,_=>zqR _
 | 0,x::_,_,h=>absurd (h x<|.head _) (Nat.not_lt_zero _)
 |n+1,l,nd,h=>by
  by_cases z:n∈l
  ·have e:=List.length_erase_of_mem z;have:=si n (l.erase n) (nd.erase n) fun x hx=>by
    have jd:=(nd.mem_erase_iff).mp hx;have:=h x jd.2;have:=jd.1;lia
   lia
  ·have:=si n l nd fun x hx=>by
    have:=h x hx;have:x≠n:=fun e=>z (by rw[<-e];exact hx)
    lia
   lia
def yD(pars:List (Option Nat))(I J J':Nat->List Pt->Prop):Prop:= ∀(a b:Nat) (g e ps qs:List Pt) (l m n:List Nat),iJ pars a b->I a g->(pars[b]?=some (some a)/\J b e\/pars[a]?=some (some b)/\∃e0,J a e0/\e=bk e0)->j9 g l m->j9 e l n->Passed g e ps qs l m n->I b ps/\(pars[b]?=some (some a)->J' b qs)/\(pars[a]?=some (some b)->J' a (bk qs))
abbrev GF(K:Frag)(C CF:Addr)(E:XK):bj:=aO K [("passed",xZ),("back",nJ),("sizes",iD)] [] [] [("need_over",C,yh C CF),("neighbours",C,Na C),("edge",C,M9 C),("many",C,lE C)] (E:=E)
def Nc:List RS:=[.ite (.qU (.v 6) (.v 3)) [.cont] [],
   .asg 7 (.call 0 [(.iR (.v 3)<|.v 5),(.aM 2 "edge" (.v 0) [.v 5,.v 6])]),
   .dput (.v 3) (.v 6) (.ix (.v 7)<|.c<|.int 0),
   .drop (.bI .append (.v 4) [.v 6]),
   .ite (.cmp .Eq (.ix (.fld (.v 0) "parents") (.v 6)) (.v 5)) [.set (.v 2) (.v 6) (.ix (.v 7) (.c (.int 1)))] [.set (.v 2) (.v 5) (.call 1 [(.ix (.v 7) (.c (.int 1)))])]]
theorem Nd{α:Type}{l:List α}{i:Nat}(h:i<l.length):ip l.length ((i:Nat):Int)=some i:=by
 unfold ip;rw[if_pos (by lia),if_pos (by lia)];rfl
theorem aco{r:List RS}{i:RE}(h:ae Γ e σ H fun v H1=>ae Γ o σ H1 fun x H2=>ae Γ i σ H2 fun y H3=>∃a H4,x=.ref a/\kx H3 a y v H4/\aE Γ r D σ H4):aE Γ (.dput o i e::r) D σ H:=h
theorem Nf(h:ae Γ a σ H fun x H1=>ae Γ b σ H1 fun y H2=>∃d v,x=.ref d/\gW H2 d y (some v)/\Q v H2):ae Γ (.iR a b) σ H Q:=h
theorem Ng{Q:Bool->Hp->Prop}(h:ae Γ a σ H fun y H1=>ae Γ b σ H1 fun x H2=>∃d o,x=.ref d/\gW H2 d y o/\∃k,V.bl o.isSome=.bl k/\Q k H2):bg Γ (.qU a b) σ H Q:=h
theorem acp{E:XK}{H0:Hp}{p:Addr}{av:List (List Nat)}{last:List (Option Nat)}{T U:Nat}{pa ed:Addr}{bs:List Addr}{I J J':Nat->List Pt->Prop}{e2 g3 a4:Addr}{vis st:List Nat}{ad:Nat->Addr}{nt:Nat->List Nat}{c0:V}{other:Nat}{u7:Option V}
  (X:dU K C) (A:eF C H0 p M Ed here pars av last T dx lo pa ed be lg bs fD) (EJ:uX H0 fD pars av T J) (F:Fg H0 H pars av T U I J' e2 g3 a4 vis st ad nt es) (gQ:yD pars I J J') (sj:T+U<=14000) (hsz:pars.length<=50000) (x_:st.length<=50000) (hn:node∈vis) (om:iJ pars node other)
  (N:St->Hp->Prop) (Nh:∀σ H,N σ H->D.nx σ H) (pM:∀σ H,N σ H->D.ct σ H)
  (q0:other∈vis->N [some<|.ref p,some c0,some<|.ref e2,some<|.ref g3,some<|.ref a4,some<|.int (node:Nat),some<|.int (other:Nat),u7] H)
  (q:∀(t c:Addr) (r:List Nat) (gr:List V) (H':Hp),other∉vis->Fg H0 H' pars av T U I J' e2 g3 a4 (vis++[other]) (st++[other]) (fJ ad other c) (fJ nt other r) gr->(∀y o,y∉ [e2,g3,a4]->H y=some o->H' y=some o)->N [some<|.ref p,some c0,some<|.ref e2,some<|.ref g3,some<|.ref a4,some<|.int (node:Nat),some<|.int (other:Nat),some<|.ref t] H'):
  aE (GF K C CF E) Nc D [some<|.ref p,some c0,some<|.ref e2,some<|.ref g3,some<|.ref a4,some<|.int (node:Nat),some<|.int (other:Nat),u7] H:=by
 have ol:other<pars.length:=by
  rcases om with e|e
  ·exact(zah.mp e).1
  ·have:=gO A.ob.tr e;lia
 by_cases hv:other∈vis
 ·refine bK (Ng<|af rfl<|af rfl ⟨g3,_,rfl,gW.k (k:=.inl ((other:Nat):Int)) F.hg,_,rfl,iT (pM _ _<|q0 hv) (by rw[yB hv];rfl)⟩)
 ·refine bK (Ng<|af rfl<|af rfl ⟨g3,_,rfl,gW.k (k:=.inl ((other:Nat):Int)) F.hg,_,rfl,iF (cQ ?_) (by rw[Dj hv];rfl)⟩)
  obtain⟨aW,g,ln,HX,hg,hI,hU⟩:=F.gt node hn;have oj:av.length=pars.length:=by have:=A.ob.ln;rw[zad] at this;exact this
  obtain⟨lm,Ni⟩:∃lm,av[other]?=some lm:=⟨_,zav (by lia)⟩
  have A1:=A.same F.sm;have acq:pars[other]?=some (some node)\/(pars[other]?≠some (some node)/\pars[node]?=some (some other)):=by
   rcases om with e|e
   ·exact .inl e
   ·refine .inr ⟨fun z=>?_,e⟩;have:=(gO A.ob.tr e).1;have:=(gO A.ob.tr z).1;lia
  have EJ1:uX H fD pars av T J:=fun i j e=>by
   obtain⟨a,ps,lj,li,h1,h2,h3,h4,h5⟩:=EJ i j e;exact⟨a,ps,lj,li,h1,h2,h3,h4.same F.sm,h5⟩
  refine bC<|cC xZ rfl<|ax<|Nf<|af rfl<|af rfl ⟨g3,V.ref<|ad node,rfl,(by rw[<-yB (ad:=ad) hn];exact gW.k (k:=.inl ((node:Nat):Int)) F.hg),ax<|A1.ob.m2 rfl rfl<|af rfl<|af rfl ⟨p,dx,lo,pa,ed,be,lg,here,_,pars,fD,av,T,node,other,ln,lm,J,rfl,A1.ob,A1.he,EJ1,by lia,HX,Ni,ol,acq,fun e pe H1 s1 yE te hJ=>aK<|aaG (hg.same s1) yE ?_ ?_ fun t c d H2 ps qs r s2 fc fd ht hc hd P=>?_⟩⟩
  ·have h1:g.length<=2*B.az g+1:=kb g "" hg.chg.ok hg.chg.ch;have h2:pe.length<=2*B.az pe+1:=kb pe "" yE.chg.ok yE.chg.ch;lia
  ·lia
  have i6:=s1.trans s2;have F2:=F.same i6;have rV:=s1.free fc;have Nj:=s1.free fd;have Nk:∀{y:Addr},H y=none->y∉ [e2,g3,a4]:=fun f h=>by
   simp only[zaa,zam,or_false] at h
   rcases h with rfl|rfl|rfl
   ·rw[F.he] at f;cases f
   ·rw[F.hg] at f;cases f
   ·rw[F.hs] at f;cases f
  obtain⟨hI',hJ1,hJ2⟩:=gQ node other g pe ps qs ln (nt node) lm om hI hJ hg.chg yE.chg P;have t1:=P.Z0;have t2:=P.Z1;have vl:vis.length<=pars.length:=si _ _ F.nd F.lv;obtain⟨u0,sk,so⟩:=F.ne;have kl:(eP vis ad).length=vis.length:=by unfold eP;rw[zad]
  refine aco<|bw<|af rfl<|aA<|fH ht rfl<|af rfl<|af rfl ⟨g3,_,rfl,kx.k (k:=.inl ((other:Nat):Int)) F2.hg<|dN (by rw[kl];lia),?_⟩
  rw[acm hv];have b3:aJ g3 H2 (upd H2 g3<|.dK<|eP (vis++[other])<|fJ ad other c):=aJ.upd;have Nl:upd H2 g3 (.dK<|eP (vis++[other])<|fJ ad other c) g3=some (.dK<|eP (vis++[other])<|fJ ad other c):=aw;have lV:=b3 _ _ F2.hs (Ne.symm so);have Nm:=b3 _ _ F2.he u0;have Nn:cz H2 (upd H2 g3<|.dK<|eP (vis++[other])<|fJ ad other c):=fun y ys e=>b3 y _ e fun z=>by rw[z,F2.hg] at e;cases e
  generalize upd H2 g3 (.dK<|eP (vis++[other])<|fJ ad other c)=H3 at b3 Nl lV Nm Nn⊢;refine dX<|ju<|af rfl ⟨.inl ⟨rfl,_,au.of lV⟩,af rfl ⟨_,lV,dN (by unfold iV;rw[zad];lia),?_⟩⟩
  have es4:iV st++[V.int (other:Nat)]=iV (st++[other]):=by unfold iV;rw[zao];rfl
  rw[es4];have b4:aJ a4 H3 (upd H3 a4<|.lst<|iV<|st++[other]):=aJ.upd;have Dk:upd H3 a4 (.lst<|iV<|st++[other]) a4=some (.lst<|iV<|st++[other]):=aw;have sq:=b4 _ _ Nl so;have ou:=b4 _ _ Nm sk;have Np:=b4.bS lV;generalize upd H3 a4 (.lst<|iV<|st++[other])=H4 at b4 Dk sq ou Np⊢;have sr:∀y o,y∉ [e2,g3,a4]->H2 y=some o->H4 y=some o:=fun y o ne e=>b4 y o (b3 y o e fun z=>ne (by rw[z];simp)) fun z=>ne (by rw[z];simp)
  have yF:cz H2 H4:=fun y ys e=>Np _ _ (Nn _ _ e);have yk:=yF _ _ ht;have cW:=Nk rV;have dW:=Nk Nj;have Cz:=hc.keep (fun o e=>sr c o cW e) yF;have mL:=hd.keep (fun o e=>sr d o dW e) yF;have H0d:H0 d=none:=F.sm.free Nj;have op4:H4 p=some (.ins C dx (h6 (here:Nat) lo pa ed be lg)):=sr _ _ (fun z=>by
   have e:=A.ob.ob
   simp only[zaa,zam,or_false] at z
   rcases z with rfl|rfl|rfl
   ·rw[F.fr.1] at e;cases e
   ·rw[F.fr.2.1] at e;cases e
   ·rw[F.fr.2.2] at e;cases e) ((F.sm.trans i6) _ _ A.ob.ob)
  have acz:H4 pa=some (.lst (pars.map gV)):=sr _ _ (fun z=>by
   have e:=A.ob.op
   simp only[zaa,zam,or_false] at z
   rcases z with rfl|rfl|rfl
   ·rw[F.fr.1] at e;cases e
   ·rw[F.fr.2.1] at e;cases e
   ·rw[F.fr.2.2] at e;cases e) ((F.sm.trans i6) _ _ A.ob.op)
  have uK:pars[other]?=some pars[other]:=zav ol;have uY:(pars.map gV)[other]?=some (gV pars[other]):=by rw[zaf,uK];rfl
  refine bK<|ba<|bw<|bY<|af rfl ⟨p,C,dx,_,_,rfl,op4,X.cl,X.jP,lB,af rfl<|dG acz (dq uY)<|af rfl<|yg ⟨_,rfl,?_⟩⟩;have fin:∀(i:Nat) (d':Addr) (q':List Pt) (H5:Hp),ay H4 H5->d'∉ [e2,g3,a4]->H0 d'=none->B.az q'<=T->i<es.length->(pars[other]?=some (some node)/\i=other/\bx H5 d' q' (nt node) r/\J' other q'\/pars[node]?=some (some other)/\i=node/\bx H5 d' q' r (nt node)/\J' node q')->
    Fg H0 (upd H5 e2<|.lst<|es.set i<|.ref d') pars av T U I J' e2 g3 a4 (vis++[other]) (st++[other]) (fJ ad other c) (fJ nt other r) (es.set i<|.ref d')/\∀y o,y∉ [e2,g3,a4]->H y=some o->upd H5 e2 (.lst<|es.set i<|.ref d') y=some o:=by
   intro i d' q' H5 s5 Nq d0' tq il cs;have b5:aJ e2 H5 (upd H5 e2<|.lst<|es.set i<|.ref d'):=aJ.upd;have qr:=b5.bS (s5 _ _ ou);have kk:∀y o,y∉ [e2,g3,a4]->H y=some o->upd H5 e2 (.lst<|es.set i<|.ref d') y=some o:=fun y o ne e=>b5 y o (s5 _ _<|sr y o ne<|i6 _ _ e) fun z=>ne (by rw[z];simp)
   refine⟨F.add A.ob.tr kk (fun y ys e=>qr _ _<|s5 _ _<|yF _ _<|i6 _ _ e) aw (b5 _ _ (s5 _ _ sq)<|Ne.symm u0) (b5 _ _ (s5 _ _ Dk)<|Ne.symm sk) hn hv ol Ni ((Cz.same s5).keep (fun o e=>b5 c o e fun z=>cW (by rw[z];simp)) qr) cW hI' (by lia) Nq d0' tq ?_,kk⟩
   have dk:∀{x y:List Nat},bx H5 d' q' x y->bx (upd H5 e2<|.lst<|es.set i<|.ref d') d' q' x y:=fun h=>h.keep (fun o e=>b5 d' o e fun z=>Nq (by rw[z];simp)) qr
   rcases cs with⟨e1,kh,e3,e4⟩|⟨e1,kh,e3,e4⟩
   ·exact .inl ⟨e1,kh,dk e3,e4⟩
   ·exact .inr ⟨e1,kh,dk e3,e4⟩
  by_cases z:pars[other]=some node
  ·refine iT ?_ (zqT z);have hp:pars[other]?=some (some node):=by rw[uK,z]
   have il:other<es.length:=by rw[F.le];exact ol
   obtain⟨F5,k5⟩:=fin other d qs H4 (ay.refl _) dW H0d (by lia) il (.inl ⟨hp,rfl,mL,hJ1 hp⟩)
   exact Cr<|bw<|af rfl<|aA<|fH yk rfl<|af rfl<|af rfl ⟨e2,_,_,other,rfl,rfl,ou,Nd il,Nh _ _<|q t c r _ _ hv F5 k5⟩
  ·refine iF ?_ (zqF z);have hp:pars[node]?=some (some other):=by
    rcases om with e|e
    ·rw[uK] at e;exact absurd (zal e) z
    ·exact e
   have il:node<es.length:=by rw[F.le];exact F.lv _ hn
   have ql:qs.length<=2*B.az qs+1:=kb qs "" mL.chg.ok mL.chg.ch;have hb:=((mL.chg.bk (by lia)).2).1
   refine Cr<|cC nJ rfl<|ax<|bw<|af rfl<|aA<|fH yk rfl<|aK<|Ck mL (by lia) (by lia) fun b H5 s5 fb Dl=>?_
   have yG:b∉ [e2,g3,a4]:=fun h=>by
    simp only[zaa,zam,or_false] at h
    rcases h with rfl|rfl|rfl
    ·rw[ou] at fb;cases fb
    ·rw[sq] at fb;cases fb
    ·rw[Dk] at fb;cases fb
   have b0:H0 b=none:=by
    cases hz:H0 b with
    |none=>rfl
    |some o=>rw[sr b o yG<|(F.sm.trans i6) _ _ hz] at fb;cases fb
   obtain⟨F5,k5⟩:=fin node b (bk qs) H5 s5 yG b0 (by lia) il (.inr ⟨hp,rfl,Dl,hJ2 hp⟩)
   exact af rfl<|af rfl ⟨e2,_,_,node,rfl,rfl,s5 _ _ ou,Nd il,Nh _ _<|q t c r _ _ hv F5 k5⟩
end
section
variable {K:Frag}{C CF:Addr}
structure Fl (H0 H:Hp) (pars:List (Option Nat)) (av:List (List Nat)) (T U:Nat) (I J':Nat->List Pt->Prop) (e2 g3 a4:Addr) (here:Nat) (r:List Nat) (vis st:List Nat) (ad:Nat->Addr) (nt:Nat->List Nat) (es:List V):Prop where
 f:Fg H0 H pars av T U I J' e2 g3 a4 vis st ad nt es
 hh:here∈vis
 nh:nt here=r
 cl:∀k∈vis,k∉st->∀m,iJ pars k m->m∈vis
def acB:List RS:=[.asg 5 (.bI .pop (.v 4) []),
  .iy 6 .list [(.aM 1 "neighbours" (.v 0) [.v 5])] Nc]
theorem acC{m:iu}(h:ae Γ o σ H fun x H1=>qQ Γ.K (tF m) x H1/\v5 Γ.K m x [] H1 Q):ae Γ (.bI m o []) σ H Q:=h
theorem acD{E:XK}{H0:Hp}{p:Addr}{av:List (List Nat)}{last:List (Option Nat)}{T U:Nat}{pa ed:Addr}{bs:List Addr}{I J J':Nat->List Pt->Prop}{e2 g3 a4:Addr}{r vis eQ:List Nat}{ad:Nat->Addr}{nt:Nat->List Nat}{c0:V}{u5 u6 u7:Option V}
  (X:dU K C) (A:eF C H0 p M Ed here pars av last T dx lo pa ed be lg bs fD) (EJ:uX H0 fD pars av T J) (L:Fl H0 H pars av T U I J' e2 g3 a4 here r vis (eQ++[node]) ad nt es) (gQ:yD pars I J J') (sj:T+U<=14000) (hsz:pars.length<=40000) (x_:eQ.length<=vis.length)
  (N:St->Hp->Prop) (hD:∀σ H,N σ H->D.nx σ H)
  (q:∀(fK dC:List Nat) (lJ:Nat->Addr) (ki:Nat->List Nat) (gr:List V) (u6 u7:Option V) (H':Hp),Fl H0 H' pars av T U I J' e2 g3 a4 here r fK dC lJ ki gr->dC.length+vis.length=eQ.length+fK.length->vis.length<=fK.length->N [some<|.ref p,some c0,some<|.ref e2,some<|.ref g3,some<|.ref a4,some<|.int (node:Nat),u6,u7] H'):
  aE (GF K C CF E) acB D [some<|.ref p,some c0,some<|.ref e2,some<|.ref g3,some<|.ref a4,u5,u6,u7] H:=by
 have F:=L.f;obtain⟨u0,sk,so⟩:=F.ne;have hl:(iV<|eQ++[node])[(iV<|eQ++[node]).length - 1]?=some (V.int (node:Nat)):=by unfold iV;simp
 refine bC<|acC<|af rfl ⟨.inl ⟨rfl,_,au.of F.hs⟩,_,_,F.hs,hl,?_⟩;have edl:(iV<|eQ++[node]).dropLast=iV eQ:=by unfold iV;rw[zao];exact zcc
 rw[edl];have b1:aJ a4 H (upd H a4<|.lst<|iV eQ):=aJ.upd;have Dm:=b1.bS F.hs;have Nr:upd H a4 (.lst<|iV eQ) a4=some (.lst<|iV eQ):=aw;have Nt:node∈vis:=F.ls node (zau _<|.head _);have F1:Fg H0 (upd H a4<|.lst<|iV eQ) pars av T U I J' e2 g3 a4 vis eQ ad nt es:=by
  refine⟨fun y o e=>b1 y o (F.sm _ _ e) fun z=>(by rw[z,F.fr.2.2] at e;cases e),b1 _ _ F.he sk,b1 _ _ F.hg so,Nr,F.fr,F.ne,F.nd,F.lv,fun k hk=>F.ls k<|zaw _ hk,F.tp,fun k hk=>?_,F.le,F.e0,fun i j e hi hj=>?_⟩
  ·obtain⟨a,g,l,h1,h2,h3⟩:=F.gt k hk;exact⟨a,g,l,h1,h2.keep (fun o e=>b1 _ o e fun z=>a (by rw[z];simp)) Dm,h3⟩
  ·obtain⟨a,q,h1,h2,h3,h4,h5⟩:=F.ed i j e hi hj;exact⟨a,q,h1,h2,h3,h4.keep (fun o e=>b1 _ o e fun z=>h2 (by rw[z];simp)) Dm,h5⟩
 generalize upd H a4 (.lst<|iV eQ)=H1 at b1 Dm Nr F1⊢;have A1:=A.same F1.sm;refine Cp<|A1.ob.m1 rfl rfl<|af rfl ⟨p,M,Ed,here,pars,av,last,T,node,rfl,⟨dx,lo,pa,ed,be,lg,bs,fD,A1⟩,F.lv _ Nt,fun b H2 s2 fb hb=>?_⟩;have yG:b∉ [e2,g3,a4]:=fun h=>by
  simp only[zaa,zam,or_false] at h
  rcases h with rfl|rfl|rfl
  ·rw[F1.he] at fb;cases fb
  ·rw[F1.hg] at fb;cases fb
  ·rw[F1.hs] at fb;cases fb
 refine⟨b,rfl,⟨_,au.of hb⟩,mU (K:=K) (a:=b) (xs:=iV (lI pars node)) (fun i σ H3=>∃(fK dC:List Nat) (lJ:Nat->Addr) (ki:Nat->List Nat) (gr:List V) (u6 u7:Option V),σ=[some<|.ref p,some c0,some<|.ref e2,some<|.ref g3,some<|.ref a4,some<|.int (node:Nat),u6,u7]/\Fg H0 H3 pars av T U I J' e2 g3 a4 fK dC lJ ki gr/\(∀k∈vis,k∈fK)/\(∀k∈eQ,k∈dC)/\(∀k∈fK,k∈vis\/k∈dC)/\ki here=r/\(∀k,k<i->∀m,(lI pars node)[k]?=some m->m∈fK)/\dC.length+vis.length=eQ.length+fK.length/\vis.length<=fK.length/\H3 b=some (.lst<|iV<|lI pars node)) ?_ ?_ ?_ ?_⟩
 ·exact⟨vis,eQ,ad,nt,es,u6,u7,rfl,F1.same s2,fun _ h=>h,fun _ h=>h,fun _ h=>.inl h,L.nh,fun k hk=>absurd hk<|Nat.not_lt_zero _,rfl,zqR _,hb⟩
 ·rintro i σ H3 _ ⟨fK,dC,lJ,ki,gr,u6,u7,rfl,F3,_,_,_,_,_,_,_,qt⟩;exact au.of qt
 ·rintro i x σ H3 hi ⟨fK,dC,lJ,ki,gr,u6,u7,rfl,F3,h1,h2,h3,h4,h5,h6,h7,qt⟩;unfold iV at hi;rw[zaf] at hi;obtain⟨m,hm,rfl⟩:=zba.mp hi;have om:iJ pars node m:=M_.mp (zan hm);have vl:=si _ _ F3.nd F3.lv;refine acp X A EJ F3 gQ sj (by lia) (by lia) (h1 _ Nt) om _ (fun _ _ h=>h) (fun _ _ h=>h) (fun hv=>?_) fun t c r' es2 H4 acG F4 k4=>?_
  ·refine⟨fK,dC,lJ,ki,gr,_,u7,rfl,F3,h1,h2,h3,h4,fun k hk m' jK=>?_,h6,h7,qt⟩;by_cases z:k=i
   ·subst z;rw[hm] at jK;cases jK;exact hv
   ·exact h5 k (by lia) m' jK
  ·refine⟨fK++[m],dC++[m],_,_,es2,_,_,rfl,F4,fun k hk=>zaw _<|h1 k hk,fun k hk=>zaw _<|h2 k hk,fun k hk=>?_,?_,fun k hk m' jK=>?_,?_,?_,k4 _ _ yG qt⟩
   ·rcases zai.mp hk with hk|hk
    ·rcases h3 k hk with h|h
     ·exact .inl h
     ·exact .inr (zaw _ h)
    ·exact .inr (zau _ hk)
   ·rw[oq<|fun z=>acG (by rw[<-z];exact h1 _ L.hh)];exact h4
   ·by_cases z:k=i
    ·subst z;rw[hm] at jK;cases jK;exact zau _ (.head _)
    ·exact zaw _ (h5 k (by lia) m' jK)
   ·rw[zqA,zqA,zaL];lia
   ·rw[zqA];lia
 ·rintro σ H3 ⟨fK,dC,lJ,ki,gr,u6,u7,rfl,F3,h1,h2,h3,h4,h5,h6,h7,qt⟩;refine hD _ _<|q fK dC lJ ki gr _ _ H3 ⟨F3,h1 _ L.hh,h4,fun k hk hn m hm=>?_⟩ h6 h7;have kv:k∈vis:=by
   rcases h3 k hk with h|h
   ·exact h
   ·exact absurd h hn
  by_cases z:k=node
  ·subst z;obtain⟨i,hi⟩:=zaK.mp (M_.mpr hm);exact h5 i (by unfold iV;rw[zad];exact(zah.mp hi).1) m hi
  ·exact h1 _ (L.cl k kv (fun h=>by
    rcases zai.mp h with h|h
    ·exact hn (h2 k h)
    ·exact z (zac.mp h)) m hm)
end
section
variable {K:Frag}{C CF:Addr}
theorem acH{here:Int}{pa ed x:Addr}:bN "edges" (V.ref x) (h6 here lo pa ed be lg)=h6 here lo pa x be lg:=by
 unfold h6;rw[dv (by decide+kernel),dv (by decide+kernel),dv (by decide+kernel),ug]
theorem acI{here:Int}{pa ed x:Addr}:bN "lengths" (V.ref x) (h6 here lo pa ed be lg)=h6 here x pa ed be lg:=by
 unfold h6;rw[dv (by decide+kernel),ug]
theorem Nu(h:∀p,H p=none->aS Γ as σ (upd H p<|.dK []) fun vs H2=>H2 p=some (.dK [])/\∃kvs:List (Key×V),vs=pz kvs/\kvs.length<=15/\Q (.ref p) (upd H2 p<|.dK<|iW [] kvs)):ae Γ (.xt pB as) σ H Q:=h
theorem acJ{fv:List (Str×Nat)}{x elt:RE}(h:ae Γ x σ H fun v H1=>∃j:Int,[v]=[.int j]/\ -(2 ^ 62)<=j/\j<2 ^ 62/\∃W:Nat->Nat->List V->Hp->Prop,(∃m,W 0 m [] H1)/\∀i m ys H2,W i m ys H2->
   ((gu 0 j.toNat).stop i H2/\∀p,H2 p=none->Q (.ref p) (upd H2 p<|.lst ys))\/
   ((gu 0 j.toNat).go i H2/\∀x H3,(gu 0 j.toNat).gR i H2 x H3->jG Γ.K none x H3 fun zs=>mY none (zs.map some++cH σ fv) H3 fun b H5=>
    if b=true then ae Γ.calm elt (zs.map some++cH σ fv) H5 fun y H6=>ys.length<sizeLine/\∃m',m'<m/\W (i+1) m' (ys++[y]) H6 else ∃m',m'<m/\W (i+1) m' ys H5)):ae Γ (.comp none fv .gP [x] none elt) σ H Q:=yb (x:=x) _ _ (fun _ _=>Iff.rfl) h
def yH(C:Addr):Sp:=fun vs H Q E=>∃(p c:Addr) (M Ed:List Addr) (here:Nat) (pars:List (Option Nat)) (av:List (List Nat)) (last:List (Option Nat)) (T U:Nat) (I J J':Nat->List Pt->Prop) (ps:List Pt) (l r:List Nat),vs=[.ref p,.ref c]/\dn C H p M Ed here pars av last T/\iK H Ed J/\bx H c ps l r/\av[here]?=some l/\B.az ps<=U/\T+U<=14000/\pars.length<=40000/\I here ps/\yD pars I J J'/\
 ∀(M' dz:List Addr) (lK:List (List Nat)) (H':Hp),bP M H H'->(∀y∈M',y∈M\/H y=none)->(∀y∈dz,H y=none)->dn C H' p M' dz here pars lK last T->iK H' dz J'->lK[here]?=some r->(∀k,k<pars.length->∃g lk qu,I k g/\av[k]?=some lk/\lK[k]?=some qu/\j9 g lk qu)->Q .aC H'
def acK:List RS:=[.dR (.v 0) "edges" (.v 2),
 .dR (.v 0) "lengths" (.comp none [("gets",3)] .gP [(.aM 3 "many" (.v 0) [])] none (.ix (.call 2 [(.iR (.v 1) (.v 0))]) (.c (.int 1))))]
theorem acL{E:XK}{H0:Hp}{p:Addr}{av:List (List Nat)}{last:List (Option Nat)}{T U:Nat}{pa ed:Addr}{bs:List Addr}{I J':Nat->List Pt->Prop}{e2 g3 a4:Addr}{r vis:List Nat}{ad:Nat->Addr}{nt:Nat->List Nat}{c0:V}{u5 u6 u7:Option V}
  (X:dU K C) (A:eF C H0 p M Ed here pars av last T dx lo pa ed be lg bs fD) (L:Fl H0 H pars av T U I J' e2 g3 a4 here r vis [] ad nt es) (sj:T+U<=14000) (hsz:pars.length<=40000)
  (q:∀(M' dz:List Addr) (lK:List (List Nat)) (H':Hp),bP M H0 H'->(∀y∈M',y∈M\/H0 y=none)->(∀y∈dz,H0 y=none)->dn C H' p M' dz here pars lK last T->iK H' dz J'->lK[here]?=some r->(∀k,k<pars.length->∃g lk qu,I k g/\av[k]?=some lk/\lK[k]?=some qu/\j9 g lk qu)->Q .aC H'):
  aE (GF K C CF E) acK (Dn Q) [some<|.ref p,some c0,some<|.ref e2,some<|.ref g3,some<|.ref a4,u5,u6,u7] H:=by
 have F:=L.f;have all:=ack A.ob.tr L.hh F.lv fun k hk m hm=>L.cl k hk (by simp) m hm
 have A1:=A.same F.sm;obtain⟨⟨a1,a2,a3,Nv,a5,a6⟩,⟨b1,b2,b3,b4,b5⟩,⟨c1,c2,c3,c4⟩,⟨d1,d2,d3⟩,⟨e1,kh⟩,g1,g2⟩:=A.ap.l;have u9:∀{y:Addr}{o:HO},H0 y=some o->y≠e2/\y≠g3/\y≠a4:=fun e=>⟨fun z=>(by rw[z,F.fr.1] at e;cases e),fun z=>(by rw[z,F.fr.2.1] at e;cases e),fun z=>(by rw[z,F.fr.2.2] at e;cases e)⟩
 refine lA<|af rfl<|af rfl ⟨p,C,dx,_,rfl,A1.ob.ob,X.cl,X.nu,(by show 6<1000;decide),?_⟩
 rw[acH];have p5:aJ p H (upd H p<|.ins C dx<|h6 (here:Nat) lo pa e2 be lg):=aJ.upd;have o5:upd H p (.ins C dx<|h6 (here:Nat) lo pa e2 be lg) p=some (.ins C dx<|h6 (here:Nat) lo pa e2 be lg):=aw;have qr:cz H (upd H p<|.ins C dx<|h6 (here:Nat) lo pa e2 be lg):=fun y ys e=>p5 y _ e fun z=>by rw[z,A1.ob.ob] at e;cases e
 generalize upd H p (.ins C dx<|h6 (here:Nat) lo pa e2 be lg)=H5 at p5 o5 qr⊢;have pW:p≠e2/\p≠g3/\p≠a4:=u9 A.ob.ob;have hg5:=p5 _ _ F.hg (Ne.symm pW.2.1);have he5:=p5 _ _ F.he (Ne.symm pW.1);have u_:dZ C H5 p dx lo pa e2 be lg here (av.map List.length) pars:=⟨o5,p5 _ _ A1.ob.ol<|Ne.symm a1,p5 _ _ A1.ob.op<|Ne.symm a2,A.ob.ln,A.ob.tr,A.ob.hr,A.ob.sz⟩;have gt5:∀k,k<pars.length->∃g lk,av[k]?=some lk/\bx H5 (ad k) g lk (nt k)/\I k g/\B.az g<=U:=fun k hk=>by
  obtain⟨_,g,lk,h1,h2,h3,h4⟩:=F.gt k (all k hk);refine⟨g,lk,h1,h2.keep (fun o e=>p5 _ o e fun z=>?_) qr,h3,h4⟩;obtain⟨xs,hx,_⟩:=h2;rw[z,A1.ob.ob] at hx;cases hx
 refine lA<|acJ<|u_.m0 rfl rfl ⟨p,dx,lo,pa,e2,be,lg,here,_,pars,rfl,u_,_,rfl,by lia,by lia,aau (K:=K) (lo:=0) (by lia) (fun i ys H2=>ys=iV ((List.range i).map fun k=>(nt k).length)) rfl ?_ ?_⟩
 ·rintro i ys H2 hi s2 rfl Q' q';have Nw:i<pars.length:=by lia
  obtain⟨g,lk,h1,⟨xs,hx,pv,jz⟩,h3,h4⟩:=gt5 i Nw;have e0:(0:Int)+(i:Nat)=((i:Nat):Int):=by lia
  rw[e0];have cl:g.length<=2*B.az g+1:=kb g "" jz.ok jz.ch;refine bw<|cC iD rfl<|ax<|Nf<|af rfl<|af rfl ⟨g3,V.ref<|ad i,rfl,(by rw[<-yB (ad:=ad) (all i Nw)];exact gW.k (k:=.inl ((i:Nat):Int)) (s2 _ _ hg5)),aK ⟨ad i,xs,g,rfl,s2 _ _ hx,pv.mono<|du s2,jz.ok,jz.ch,by lia,fun t H3 s3 ht=>aA<|fH ht rfl ?_⟩⟩
  have eg:(pL g).sum=(nt i).length:=jz.run.gives;rw[eg];refine q' _ _ s3 ?_;rw[zbf];unfold iV;rw[zao,zao];rfl
 ·rintro ys H6 L6 s6 rfl fL;have en:((pars.length:Nat):Int).toNat=pars.length:=by lia
  rw[en];have s7:=sameNew (o:=.lst (iV<|(List.range pars.length).map fun k=>(nt k).length)) fL;have x8:upd H6 L6 (.lst<|iV<|(List.range pars.length).map fun k=>(nt k).length) L6=some (.lst<|iV<|(List.range pars.length).map fun k=>(nt k).length):=aw;have va:=s6.trans s7;generalize upd H6 L6 (.lst<|iV<|(List.range pars.length).map fun k=>(nt k).length)=H7 at s7 x8 va⊢;refine af rfl ⟨p,C,dx,_,rfl,va _ _ o5,X.cl,X.rn,(by show 6<1000;decide),?_⟩
  rw[acI];have p8:aJ p H7 (upd H7 p<|.ins C dx<|h6 (here:Nat) L6 pa e2 be lg):=aJ.upd;have o8:upd H7 p (.ins C dx<|h6 (here:Nat) L6 pa e2 be lg) p=some (.ins C dx<|h6 (here:Nat) L6 pa e2 be lg):=aw;have Nx:cz H7 (upd H7 p<|.ins C dx<|h6 (here:Nat) L6 pa e2 be lg):=fun y ys e=>p8 y _ e fun z=>by rw[z,va _ _ o5] at e;cases e
  generalize upd H7 p (.ins C dx<|h6 (here:Nat) L6 pa e2 be lg)=H8 at p8 o8 Nx⊢;have k8:∀y o,y≠p->H y=some o->H8 y=some o:=fun y o ne e=>p8 y o (va _ _<|p5 y o e ne) ne;have tu:cz H H8:=fun y ys e=>Nx _ _ (va _ _<|qr _ _ e);have vb:∀y o,y≠p->H0 y=some o->H8 y=some o:=fun y o ne e=>k8 y o ne (F.sm _ _ e);have yI:H5 L6=none:=s6.free fL;have lH:∀{y:Addr}{o:HO},H y=some o->L6≠y:=fun e z=>by
   by_cases w:L6=p
   ·rw[w,o5] at yI;cases yI
   ·rw[p5 _ _ (by rw[<-z] at e;exact e) w] at yI;cases yI
  have qv:H0 L6=none:=by
   cases hz:H0 L6 with
   |none=>rfl
   |some o=>exact absurd rfl (lH<|F.sm _ _ hz)
  have oj:av.length=pars.length:=by have:=A.ob.ln;rw[zad] at this;exact this
  have yJ:∀(i:Nat) (a:Addr),es[i]?=some (V.ref a)->∃j q,pars[i]?=some (some j)/\a∉ [e2,g3,a4]/\H0 a=none/\bx H8 a q (nt j) (nt i)/\J' i q/\B.az q<=T:=fun i a e=>by
   have il:i<pars.length:=by rw[<-F.le];exact(zah.mp e).1
   have i0:i≠0:=fun z=>by rw[z,F.e0] at e;cases e
   obtain⟨j,hj,aX⟩:=A.ob.tr.up i (by lia) il
   obtain⟨a',q',h1,h2,h3,h4,h5,h6⟩:=F.ed i j hj (all i il) (all j (by lia))
   rw[e] at h1;cases h1;refine⟨j,q',hj,h2,h3,h4.keep (fun o e=>k8 _ o (fun z=>?_) e) tu,h5,h6⟩;rw[z,A.ob.ob] at h3;cases h3
  have mem:∀(y:Addr),y∈qo es->∃i,es[i]?=some (V.ref y):=fun y h=>by
   obtain⟨v,hv,e⟩:=zbi.mp h;obtain⟨i,hi⟩:=zaK.mp hv;have:v=.ref y:=by
    cases v with
    |ref b=>exact congrArg V.ref (zal e)
    |_=>cases e
   rw[this] at hi;exact⟨i,hi⟩
  have Dp:∀{i:Nat}{b:Addr},bs[i]?=some b->H0 b=some (.lst<|iV<|kids pars i):=fun h=>A.hk _ _ h;have nx:∀{k:Nat}{lk:List Nat},k<pars.length->((List.range pars.length).map nt)[k]?=some (nt k):=fun h=>by rw[zaf,zbz h];rfl
  have pbs:∀{b:Addr},b∈bs->b≠p:=fun h z=>a6 (by rw[<-z];exact h)
  have B8:eF C H8 p (p::L6::pa::e2::be::lg::bs) (qo es) here pars ((List.range pars.length).map nt) last T dx L6 pa e2 be lg bs es:=by
   refine⟨⟨o8,?_,vb _ _ (Ne.symm a2) A.ob.op,by rw[zad,zad,zaG],A.ob.tr,A.ob.hr,A.ob.sz⟩,rfl,⟨?_⟩,k8 _ _ (Ne.symm pW.1) F.he,F.le,rfl,F.e0,fun i j e=>?_,fun i a e h=>?_,vb _ _ (Ne.symm Nv) A.hb,A.lb,fun i b e=>vb _ _ (pbs<|zan e)<|A.hk i b e,vb _ _ (Ne.symm a5) A.hg,A.mM⟩
   ·rw[zaX,zaX];have:=p8 _ _ x8 (lH A1.ob.ob);unfold iV at this;rw[zaX] at this;exact this
   ·simp only[zaO,zaa,not_or]
    refine⟨⟨Ne.symm<|lH A1.ob.ob,a2,pW.1,Nv,a5,a6⟩,⟨lH A1.ob.op,lH F.he,lH A1.hb,lH A1.hg,fun h=>?_⟩,⟨(u9 A.ob.op).1,c2,c3,c4⟩,⟨Ne.symm (u9 A.hb).1,Ne.symm (u9 A.hg).1,fun h=>?_⟩,⟨e1,kh⟩,g1,g2⟩
    ·obtain⟨i,hi⟩:=zaK.mp h;rw[Dp hi] at qv;cases qv
    ·obtain⟨i,hi⟩:=zaK.mp h;exact(u9<|Dp hi).1 rfl
   ·have il:=(zah.mp e).1;have jl:=(gO A.ob.tr e).1;obtain⟨a,q',h1,_,_,_⟩:=F.ed i j e (all i il) (all j (by lia))
    obtain⟨j',q2,e',_,_,h4,_,h6⟩:=yJ i a h1;rw[e] at e';cases e';exact⟨a,q2,nt j,nt i,h1,nx (lk:=[]) (by lia),nx (lk:=[]) il,h4,h6⟩
   ·obtain⟨j,q',_,h2,h3,⟨xs,h4,_⟩,_⟩:=yJ i a e;have Dq:∃o,H a=some o:=by
     obtain⟨j1,Ny,aX⟩:=A.ob.tr.up i (by
      by_cases z:i=0
      ·rw[z,F.e0] at e;cases e
      ·lia) (by rw[<-F.le];exact(zah.mp e).1)
     have il:=(zah.mp Ny).1;obtain⟨a',q1,k1,_,_,⟨ys,k4,_⟩,_⟩:=F.ed i j1 Ny (all i il) (all j1 (by lia))
     rw[e] at k1;cases k1;exact⟨_,k4⟩
    obtain⟨o,Dq⟩:=Dq
    simp only[zaa] at h
    rcases h with rfl|rfl|rfl|rfl|rfl|rfl|h
    ·rw[A.ob.ob] at h3;cases h3
    ·exact lH Dq rfl
    ·rw[A.ob.op] at h3;cases h3
    ·exact h2 (by simp)
    ·rw[A.hb] at h3;cases h3
    ·rw[A.hg] at h3;cases h3
    ·obtain⟨i',fS⟩:=zaK.mp h;rw[Dp fS] at h3;cases h3
  have oi:p∈M/\pa∈M/\be∈M/\lg∈M/\∀b∈bs,b∈M:=by rw[A.eM];simp;exact fun b hb=>.inr (.inr<|.inr<|.inr<|.inr<|.inr hb)
  refine q _ _ _ H8 (fun y o e ne=>vb y o (fun z=>ne (by rw[z];exact oi.1)) e) (fun y h=>?_) (fun y h=>?_) ⟨dx,L6,pa,e2,be,lg,bs,es,B8⟩ (fun i a e=>?_) ?_ fun k hk=>?_
  ·simp only[zaa] at h
   rcases h with rfl|rfl|rfl|rfl|rfl|rfl|h
   ·exact .inl oi.1
   ·exact .inr qv
   ·exact .inl oi.2.1
   ·exact .inr F.fr.1
   ·exact .inl oi.2.2.1
   ·exact .inl oi.2.2.2.1
   ·exact .inl (oi.2.2.2.2 _ h)
  ·obtain⟨i,hi⟩:=mem _ h;obtain⟨_,_,_,_,h3,_⟩:=yJ i y hi;exact h3
  ·have e':es[i+1]?=some (V.ref a):=by
    rw[B8.yz,zaQ,zaf,e];rfl
   obtain⟨j,q',_,_,_,⟨xs,h4,h5,_⟩,h6,_⟩:=yJ (i+1) a e';exact⟨xs,q',h4,h5,h6⟩
  ·rw[nx (lk:=[]) A.ob.hr,L.nh]
  ·obtain⟨_,g,lk,h1,h2,h3,h4⟩:=F.gt k (all k hk);exact⟨g,lk,nt k,h3,h1,nx (lk:=[]) hk,h2.chg⟩
theorem acP(X:dU K C):bT (yH C) (fun E=>GF K C CF E) IM IL:=by
 intro vs H Q E h;obtain⟨p,c,M,Ed,here,pars,av,last,T,U,I,J,J',ps,l,r,rfl,⟨dx,lo,pa,ed,be,lg,bs,fD,A⟩,EP,hc,hl,ht,sj,hsz,hI,gQ,q⟩:=h;have kf:(av.map List.length)[here]?=some l.length:=by rw[zaf,hl];rfl
 refine dX<|A.ob.m1 rfl rfl<|af rfl ⟨p,dx,lo,pa,ed,be,lg,here,_,pars,c,ps,l,r,l.length,rfl,A.ob,hc,by lia,kf,.inl ⟨rfl,fun H1 s1=>?_⟩⟩
 have A1:=A.same s1;refine bC<|Mj<|bY<|af rfl ⟨p,C,dx,_,_,rfl,A1.ob.ob,X.cl,X.nu,rW,_,.inl<|au.of A1.he,fun e2 f2=>?_⟩;have s2:=sameNew (o:=.lst fD) f2;have A2:=A1.same s2;refine bC<|Nu fun g3 f3=>?_;have s3:=sameNew (o:=.dK []) f3;have A3:=A2.same s3;refine ax<|bY<|af rfl ⟨p,C,dx,_,_,rfl,A3.ob.ob,X.cl,X.gB,i5,ax<|af rfl<|aK ⟨aw,[(Sum.inl ((here:Nat):Int),V.ref c)],rfl,(by show 1<=15;decide),?_⟩⟩
 have ek:iW [] [((Sum.inl ((here:Nat):Int):Key),V.ref c)]=eP [here] (fun _=>c):=rfl;rw[ek];have qq:ay (upd H1 e2<|.lst fD) (upd (upd (upd H1 e2<|.lst fD) g3<|.dK []) g3<|.dK<|eP [here] fun _=>c):=fun y o e=>by
  have ne:y≠g3:=bf e f3;rw[aF ne];exact s3 _ _ e
 have hg:upd (upd (upd H1 e2<|.lst fD) g3<|.dK []) g3 (.dK<|eP [here] fun _=>c) g3=some (.dK<|eP [here] fun _=>c):=aw;have he:upd (upd (upd H1 e2<|.lst fD) g3<|.dK []) g3 (.dK<|eP [here] fun _=>c) e2=some (.lst fD):=qq _ _ aw;have u0:e2≠g3:=fun z=>by rw[<-z,aw] at f3;cases f3
 have Nz:H g3=none:=s1.free (s2.free f3);have i6:=(s1.trans s2).trans qq;generalize upd (upd (upd H1 e2<|.lst fD) g3<|.dK []) g3 (.dK<|eP [here] fun _=>c)=H3 at qq hg he i6⊢;have A4:=A.same i6;refine bC<|dw<|ax<|bY<|af rfl ⟨p,C,dx,_,_,rfl,A4.ob.ob,X.cl,X.gB,i5,aK ⟨eG,fun a4 f4=>?_⟩⟩;have s4:=sameNew (o:=.lst [V.int (here:Nat)]) f4;have hs:upd H3 a4 (.lst [V.int (here:Nat)]) a4=some (.lst<|iV [here]):=aw;have ou:=s4 _ _ he;have sq:=s4 _ _ hg;have sk:e2≠a4:=fun z=>by rw[<-z,he] at f4;cases f4
 have so:g3≠a4:=fun z=>by rw[<-z,hg] at f4;cases f4
 have NA:H a4=none:=i6.free f4;have nU:=i6.trans s4;generalize upd H3 a4 (.lst [V.int (here:Nat)])=H4 at s4 hs ou sq nU⊢;have NB:H e2=none:=s1.free f2;have cW:c∉ [e2,g3,a4]:=fun h=>by
  obtain⟨xs,hx,_⟩:=hc
  simp only[zaa,zam,or_false] at h
  rcases h with rfl|rfl|rfl
  ·rw[NB] at hx;cases hx
  ·rw[Nz] at hx;cases hx
  ·rw[NA] at hx;cases hx
 have F0:Fl H H4 pars av T U I J' e2 g3 a4 here r [here] [here] (fun _=>c) (fun _=>r) fD:=by
  refine⟨⟨nU,ou,sq,hs,⟨NB,Nz,NA⟩,⟨u0,sk,so⟩,by simp,fun k hk=>?_,fun k hk=>hk,⟨here,.head _,fun k hk=>?_⟩,fun k hk=>?_,A.le,A.e0,fun i j e hi hj=>?_⟩,.head _,rfl,fun k hk hn=>absurd hk hn⟩
  ·rw[zac.mp hk];exact A.ob.hr
  ·rw[zac.mp hk];exact⟨zqR _,.inl rfl⟩
  ·rw[zac.mp hk];exact⟨cW,ps,l,hl,hc.same nU,hI,ht⟩
  ·rw[zac.mp hi,zac.mp hj] at e;have:=(gO A.ob.tr e).1;lia
 have EJ:=A.edj EP;refine p7 (fun m σ H5=>∃(vis st:List Nat) (ad:Nat->Addr) (nt:Nat->List Nat) (es:List V) (u5 u6 u7:Option V),m=2* (pars.length - vis.length)+st.length/\σ=[some<|.ref p,some<|.ref c,some<|.ref e2,some<|.ref g3,some<|.ref a4,u5,u6,u7]/\Fl H H5 pars av T U I J' e2 g3 a4 here r vis st ad nt es/\st.length<=vis.length) ⟨_,[here],[here],_,_,fD,none,none,none,rfl,rfl,F0,zqR _⟩ ?_;rintro m σ H5 ⟨vis,st,ad,nt,es,u5,u6,u7,rfl,rfl,L,x_⟩;refine ba<|fI<|af rfl<|.inl ⟨_,au.of L.f.hs,aA<|N.ka ⟨_,rfl,?_⟩⟩;have il:(iV st).length=st.length:=by unfold iV;rw[zad]
 rw[il];rcases List.eq_nil_or_concat st with rfl|⟨eQ,node,rfl⟩
 ·exact iF (acL X A L sj hsz q) rfl
 ·rw[List.concat_eq_append] at L x_⊢;have ls:(eQ++[node]).length=eQ.length+1:=by rw[zqA];rfl
  refine iT ?_<|zqT (by lia)
  have vl:=si _ _ L.f.nd L.f.lv;refine⟨fun σ' H'=>∃m',m'<2* (pars.length - vis.length)+(eQ++[node]).length/\∃(vis st:List Nat) (ad:Nat->Addr) (nt:Nat->List Nat) (es:List V) (u5 u6 u7:Option V),m'=2* (pars.length - vis.length)+st.length/\σ'=[some<|.ref p,some<|.ref c,some<|.ref e2,some<|.ref g3,some<|.ref a4,u5,u6,u7]/\Fl H H' pars av T U I J' e2 g3 a4 here r vis st ad nt es/\st.length<=vis.length,fun _ _ h=>h,?_⟩;refine acD X A EJ L gQ sj hsz (by lia) _ (fun _ _ h=>h) fun fK dC lJ ki gr v6 v7 H' L' e1 kh=>?_
  have vl':=si _ _ L'.f.nd L'.f.lv;exact⟨_,(by rw[ls];lia),fK,dC,lJ,ki,gr,_,v6,v7,rfl,rfl,L',by lia⟩
end
end L2.N
namespace L2.B
open PySem PySem.Spec PyProof.Rows
end L2.B
namespace L2.B
open PySem PySem.Spec PyProof.Rows
theorem NC(h:s≠""):1<=s.length:=by
 obtain⟨c,r,e⟩:=iE h;rw[len_list,e];simp
theorem ND:∀(ps:List Pt) (w:Str),chainOk w ps=true->(∀p∈ps,aV p)->ps.length<=2*az ps+1/\(w="keep"->ps.length<=2*az ps)
 |[],w,_,_=>⟨zqZ _,fun _=>zqZ _⟩
 |p::ps,w,hc,ho=>by
  simp only[chainOk,zag] at hc
  have hp:=ho p (.head _);obtain⟨i1,i2⟩:=ND ps p.word hc.2 fun q hq=>ho q (.tail _ hq);have et:az (p::ps)=fB p+az ps:=by simp[az]
  rw[et,zak];cases p with
  |keep n=>
   have:=i2 rfl;have ek:fB (.keep n)=0:=rfl;exact⟨by omega,fun z=>absurd z<|KQ hc.1⟩
  |put s=>have h1:1<=fB (.put s):=NC hp.2;exact⟨by omega,fun _=>by omega⟩
  |cut s=>have h1:1<=fB (.cut s):=NC hp.2;exact⟨by omega,fun _=>by omega⟩
end L2.B
namespace L2.mi
open PySem PySem.Spec L2.B L2.N
def yK(k:Nat):Option Nat:=if k=0 then none else some (k - 1)
def row(m:Nat):List (Option Nat):=(List.range<|m+1).map yK
theorem eR(m:Nat):(row m).length=m+1:=by unfold row;rw[zad,zaG]
theorem Dr{m k:Nat}(h:k<=m):(row m)[k]?=some (yK k):=by unfold row;rw[zaf,zbz (by lia)];rfl
theorem qw{m k:Nat}(h0:0<k)(h:k<=m):(row m)[k]?=some (some<|k - 1):=by rw[Dr h,yK,if_neg (by lia)]
theorem sv{m k:Nat}(h:(row m)[k]?=some (some j)):k<=m/\k=j+1:=by
 have hk:=(zah.mp h).1;rw[eR] at hk;rw[Dr (by lia),yK] at h
 by_cases z:k=0
 ·rw[if_pos z] at h;cases h
 ·rw[if_neg z] at h
  injection h with h
  injection h with h
  lia
theorem acQ(m:Nat):row (m+1)=row m++[some m]:=by
 unfold row;rw[zbf,zao]
 rfl
theorem NF(m:Nat):gN (row m):=⟨by rw[Dr<|zqZ _];rfl,fun i h0 hi=>⟨i - 1,qw h0 (by rw[eR] at hi;lia),by lia⟩⟩
theorem qx(m:Nat):∀k,k<=m->ups (row m) k k=(List.range<|k+1).reverse
 | 0,_=>rfl
 |k+1,h=>by
  obtain⟨j,hj,_,e⟩:=rX (NF m) (n:=k+1) (by lia) (by rw[eR];lia)
  have ej:j=k:=by
   rw[qw (by lia) h] at hj
   injection hj with hj
   injection hj with hj
   lia
  subst ej;rw[e,qx m j (by lia),zbf (n:=j+1),zby]
  rfl
theorem acR(m:Nat):ic (row m) m 0=(List.range<|m+1).reverse:=by
 unfold ic;rw[qx m m<|zqR _,qx m 0<|zqZ _,zaS,show(List.range<|0+1).reverse.reverse=[0] from rfl,CI]
 exact zab _
theorem acS(m:Nat):ic (row m) 0 m=List.range (m+1):=by
 unfold ic;rw[qx m m<|zqR _,qx m 0<|zqZ _,zaS,zaS,show List.range (0+1)=[0] from rfl,CH]
 rw[List.range_succ_eq_map]
 rfl
theorem NG{p:Nat->Bool}{a:Nat}(ha:p a=true):∀n,(∀j,j<n->p j=true->j=a)->(List.range n).filter p=if a<n then [a] else []
 | 0,_=>rfl
 |n+1,h=>by
  rw[zbf,zbX,NG ha n fun j hj=>h j (by lia)]
  by_cases e:n=a
  ·subst e;rw[if_neg<|zaz _,if_pos<|zbj _,List.filter_cons,if_pos ha];rfl
  ·have hn:¬p n=true:=fun z=>e (h n (zbj _) z);rw[List.filter_cons,if_neg hn];by_cases l:a<n
   ·rw[if_pos l,if_pos (by lia)];rfl
   ·rw[if_neg l,if_neg (by lia)];rfl
theorem acT{m k:Nat}(h:k<=m):kids (row m) k=if k<m then [k+1] else []:=by
 unfold kids;rw[eR];by_cases e:k<m
 ·rw[if_pos e,NG (a:=k+1) (by rw[qw (by lia) (by lia)];simp) (m+1) fun j _ hj=>(sv<|eq_of_beq hj).2,if_pos (by lia)]
 ·rw[if_neg e,List.filter_eq_nil_iff];intro j hj hp;have:=sv (eq_of_beq hp);lia
theorem acU{m d:Nat}(hn:n<=m)(hd:d<=m):∃rest,ic (row m) n d=n::rest/\rest.length<=2*m:=by
 obtain⟨u,v,x,e,⟨p,hu⟩,⟨q,hv⟩,_,⟨r,hr⟩,_⟩:=MJ (NF m) (n:=n) (d:=d) (by rw[eR];lia) (by rw[eR];lia)
 refine⟨r,hr,?_⟩;have e1:=congrArg List.length hu;have e2:=congrArg List.length hv;have e3:=congrArg List.length (e.symm.trans hr);rw[qx m n hn,zaH,zaG,zqA,zak] at e1;rw[qx m d hd,zaH,zaG,zqA,zak,zaH] at e2;rw[zqA,zak,zak] at e3;lia
def kp(n:Nat):List Pt:=if n=0 then [] else [.keep (n:Nat)]
def s1(c:Nat):Str:=⟨#[c]⟩
def eg(u v n:Nat):List Pt:=.put (s1 u):: .cut (s1 v)::kp n
def fo(n:Nat):List Pt:=.keep 1:: .put "+"::kp n
theorem NH(n:Nat):ar (kp n)=rK n:=by
 unfold kp
 split
 ·rename_i h;rw[h];rfl
 ·rw[fe];show rK ((n:Nat):Int).toNat=_;rw[zaB]
theorem yL(u v n:Nat):ar (eg u v n)=.P u:: .C v::rK n:=by
 unfold eg;rw[bX,bX,NH];rfl
theorem NI(n:Nat):ar (fo n)=.K:: .P 43::rK n:=by
 unfold fo;rw[bX,bX,NH];have e:aZ (.put "+")=[.P 43]:=by decide+kernel
 rw[e];rfl
def gk(c:Nat):Prop:=SG.cps.contains c=true
theorem Ds{c:Nat}(h:gk c):good (s1 c)/\s1 c≠"":=by
 refine⟨⟨by show 1<=1000000;decide,fun d hd=>?_⟩,fun z=>?_⟩
 ·have:d=c:=by simpa[s1] using hd
  rw[this];exact h
 ·have:=congrArg Str.length z;exact absurd this (by show(1:Nat)≠0;decide)
theorem NJ(n:Nat):∀p∈kp n,aV p:=fun p hp=>by
 unfold kp at hp
 split at hp
 ·cases hp
 ·rw[zac.mp hp];show(1:Int)<=n;lia
theorem NK(w:Str)(n:Nat)(h:gc "keep" w=true):chainOk w (kp n)=true:=by
 unfold kp
 split
 ·rfl
 ·show(gc "keep" w && true)=true;rw[h];rfl
theorem qy{u v:Nat}(hu:gk u)(hv:gk v)(n:Nat):(∀p∈eg u v n,aV p)/\chainOk "" (eg u v n)=true:=by
 refine⟨fun p hp=>?_,?_⟩
 ·unfold eg at hp;rcases zaa.mp hp with rfl|hp
  ·exact Ds hu
  ·rcases zaa.mp hp with rfl|hp
   ·exact Ds hv
   ·exact NJ n p hp
 ·show(gc "put" "" && (gc "cut" "put" && chainOk "cut" (kp n)))=true;rw[NK "cut" n (by decide+kernel)];decide+kernel
theorem yM(n:Nat):(∀p∈fo n,aV p)/\chainOk "" (fo n)=true:=by
 refine⟨fun p hp=>?_,?_⟩
 ·unfold fo at hp;rcases zaa.mp hp with rfl|hp
  ·show(1:Int)<=1;decide
  ·rcases zaa.mp hp with rfl|hp
   ·have:=Ds (c:=43) (by show SG.cps.contains 43=true;decide+kernel)
    have e:s1 43="+":=by decide+kernel
    rw[e] at this;exact this
   ·exact NJ n p hp
 ·show(gc "keep" "" && (gc "put" "keep" && chainOk "put" (kp n)))=true;rw[NK "put" n (by decide+kernel)];decide+kernel
theorem NL(n:Nat):B.az (kp n)=0:=by
 unfold kp
 split<;>rfl
theorem Dt(u v n:Nat):B.az (eg u v n)=2:=by
 have h:=NL n;unfold eg B.az at*;rw[zar,zar,zaR,zaR,h];rfl
theorem acV(n:Nat):B.az (fo n)=1:=by
 have h:=NL n;unfold fo B.az at*;rw[zar,zar,zaR,zaR,h];show 0+((Str.ofString "+").length+0)=1
 decide+kernel
theorem NM:∀(l:List Nat),Run l (kp l.length) l
 |[]=>.nil
 |c::l=>by
  have e:kp (c::l).length=[.keep ((c::l).length:Nat)]:=by unfold kp;rw[if_neg (by simp)]
  rw[e];have:=Run.keep (a:=c::l) (l:=[]) (r:=[]) (n:=((c::l).length:Nat)) rfl .nil
  rwa [zab] at this
theorem acW(u v:Nat)(l:List Nat):Run (v::l) (eg u v l.length) (u::l):=Run.put (s:=s1 u) (Run.cut (s:=s1 v)<|NM l)
theorem NN(c:Nat)(l:List Nat):Run (c::l) (fo l.length) (c::43::l):=by
 have:=Run.keep (a:=[c]) (n:=1) rfl (Run.put (s:="+")<|NM l);have e:(Str.ofString "+").cps.toList=[43]:=by decide+kernel
 rw[e] at this;exact this
theorem NO:∀(n:Nat) {os ts:List At},dy (rK n) (rK n) os ts->os=rK n/\ts=rK n
 | 0,_,_,h=>by cases h;exact⟨rfl,rfl⟩
 |n+1,os,ts,h=>by
  have h0:dy (At.K::rK n) (At.K::rK n) os ts:=h;clear h;cases h0 with
  |kk h2=>
   obtain⟨e1,e2⟩:=NO n h2;rw[e1,e2];exact⟨rfl,rfl⟩
theorem acX{u v:Nat}{os:List At}(h:dy (.K:: .P 43::rK n) (.P u:: .C v::rK n) os ts):os=.K:: .P 43::rK n/\ts=.P u:: .C v:: .K::rK n:=by
 cases h with
 |p2 _ h=>
  cases h with
  |kc h=>
   have key:∀{os ts:List At},dy (.P 43::rK n) (rK n) os ts->os=.P 43::rK n/\ts=.K::rK n:=by
    intro os ts h;generalize hx:At.P 43::rK n=xs at h;generalize hy:rK n=ys at h;cases h with
    |nil=>cases hx
    |p1 h=>
     injection hx with e1 e2
     subst e2;rw[<-hy] at h⊢;obtain⟨a,b⟩:=NO n h;rw[a,b]
     injection e1 with e1
     rw[<-e1];exact⟨rfl,rfl⟩
    |p2 hn h=>exact absurd hx.symm (hn 43<|rK n)
    |kk h=>cases hx
    |kc h=>cases hx
    |ck h=>cases hx
    |cc h=>cases hx
   obtain⟨a,b⟩:=key h;rw[a,b];exact⟨rfl,rfl⟩
theorem acY{u v:Nat}(hu:gk u)(hv:gk v){qs:List Pt}{l m k:List Nat}(h:Passed (fo n) (eg u v n) ps qs l m k):ps=fo n/\qs=eg u v (n+1):=by
 obtain⟨os,ts,ho,h1,h2⟩:=h.Z2;rw[NI,yL] at ho;obtain⟨rfl,rfl⟩:=acX ho;refine⟨xq _ _ "" "" h.LC (yM n).2 h.LA (yM n).1 (by rw[h1,NI]),xq _ _ "" "" h.LD (qy hu hv<|n+1).2 h.LB (qy hu hv<|n+1).1 (by rw[h2,yL];rfl)⟩
theorem NP{u v:Nat}(hu:gk u)(hv:gk v):bk (eg u v n)=eg v u n:=by
 have ok:=qy hu hv n;have j5:=xb ok.1 (by rw[Dt];decide)
 have nW:=Kx j5;obtain⟨g1,g2,_⟩:=w9 (cB<|eg u v n) nW (by rw[xa,Dt];decide)
 have heq:=uc (cB<|eg u v n) nW;have nR:=pX (cB<|eg u v n) fun p hp=>KD (nW p hp);rw[LW] at nR;have e1:bk (eg u v n)=eN (cB<|eg u v n):=by unfold bk;rw[heq]
 refine xq _ _ "" "" (by rw[e1];exact g1) (qy hv hu n).2 (by rw[e1];exact g2) (qy hv hu n).1 ?_
 have e:nb (ar<|bk<|eg u v n)=nb ((ar<|eg u v n).map sw):=nR;rw[e,yL,yL];have es:∀n,(rK n).map sw=rK n:=fun n=>by
  unfold rK;rw[List.map_replicate];rfl
 show nb (At.C u::At.P v::(rK n).map sw)=_;rw[es];rfl
end L2.mi
namespace L2
open PySem PySem.Spec PyProof.Rows PySem.W
end L2
namespace L2.B
open PySem PySem.Spec PyProof.Rows
end L2.B
namespace L2.N
open PySem PySem.Spec L2.B
section
variable {Γ:bj}{D:Ends}{σ:St}{H:Hp}{r:List RS}{Q:VK}{QT:Bool->Hp->Prop}
theorem Du{i:RE}(h:ae Γ e σ H fun v H1=>ae Γ o σ H1 fun x H2=>ae Γ i σ H2 fun y H3=>∃a H4,x=.ref a/\kx H3 a y v H4/\aE Γ r D σ H4):aE Γ (.dput o i e::r) D σ H:=h
end
section
variable {K:Frag}{M:List Addr}{C:Addr}{H H':Hp}{p dx d:Addr}{n g:Nat}{kvs:List (Key×V)}{es:List Ent}
end
section
variable {K:Frag}{M:List Addr}{C:Addr}{H H':Hp}{p dx d:Addr}{n g:Nat}{kvs:List (Key×V)}{es:List Ent}
end
end L2.N
namespace L2.N
open PySem PySem.Spec PyProof.Rows L2.B
end L2.N
namespace L2.B
open PySem PySem.Spec PyProof.Rows
end L2.B
namespace L2.N
open PySem PySem.Spec PyProof.Rows L2.B
end L2.N
namespace L2.N
open PySem PySem.Spec L2.B
section
variable {K:Frag}{CP C CE CD:Addr}
end
section
variable {K:Frag}{H:Hp}{Q:VK}{i j:Int}
theorem sx(h:0<j)(q:Q (.int<|i % j) H):mZ K .Mod (.int i) (.int j) H Q:=⟨h,q⟩
end
abbrev nV(ns:List Nat):List V:=ns.map fun k=>V.int (k:Nat)
theorem Dv(ns:List Nat):SeqAt.shaped (.list<|ns.map fun k=>PyData.int (k:Nat))=true:=by
 have h:∀l:List Nat,PyData.canLayAll0 (l.map fun k=>PyData.int (k:Nat))=true/\PyData.depthAll (l.map fun k=>PyData.int (k:Nat))<=1:=by
  intro l
  induction l with
  |nil=>exact⟨rfl,zqZ _⟩
  |cons k l ih=>
   refine⟨?_,?_⟩
   ·show((PyData.int (k:Nat)).canLay0 && PyData.canLayAll0 (l.map fun k=>PyData.int (k:Nat)))=true;rw[ih.1];rfl
   ·show max (PyData.int (k:Nat)).depth (PyData.depthAll<|l.map fun k=>PyData.int (k:Nat))<=1;have:(PyData.int (k:Nat)).depth=0:=rfl;rw[this];lia
 obtain⟨c,d⟩:=h ns;unfold SeqAt.shaped;have e:(PyData.list<|ns.map fun k=>PyData.int (k:Nat)).canLay0=true:=c;have e2:(PyData.list<|ns.map fun k=>PyData.int (k:Nat)).depth<=64:=by show PyData.depthAll (ns.map fun k=>PyData.int (k:Nat))+1<=64;lia
 rw[e,zqT e2];rfl
theorem Dw:∀ns:List Nat,IsL H (ns.map fun k=>PyData.int (k:Nat)) (nV ns)
 |[]=>rfl
 |k::r=>⟨_,_,rfl,rfl,Dw r⟩
theorem yN{K:Frag}{a b:Addr}{ns:List Nat}(ha:H a=some (.lst<|nV ns))(hb:H b=some (.lst<|nV ns))(q:Q (.bl false) H):c9 K .NotEq (.ref a) (.ref b) H Q:=by
 refine⟨.list<|ns.map fun k=>PyData.int (k:Nat),.list<|ns.map fun k=>PyData.int (k:Nat),⟨a,_,rfl,ha,Dw ns⟩,⟨b,_,rfl,hb,Dw ns⟩,Dv ns,Dv ns,?_⟩;rw[SeqAt.eqv_refl _<|SeqAt.canLay_of_shaped<|Dv ns];exact q
section
variable {K:Frag}{M:List Addr}{C:Addr}{H H':Hp}{p dx d rw n:Nat}{rs:List Sd}
end
section
variable {Γ:bj}{σ:St}{H:Hp}{Q:VK}
theorem acZ{x:RE}(h:ae Γ x σ H fun v H1=>kE Γ.K .list [v] H1 Q):ae Γ (.blt .list [x]) σ H Q:=h
end
end L2.N
namespace L2.N
open PySem PySem.Spec L2.B
section
variable {Γ:bj}{D:Ends}{σ:St}{H:Hp}{r:List RS}{Q:VK}
theorem ac0{K:Frag}(q:Q (.bl false) H):c9 K .IsNot .aC .aC H Q:=⟨rfl,q⟩
theorem ac1(h:ae Γ a σ H fun x H1=>ae Γ b σ H1 fun y H2=>A5 x y H2 Q):ae Γ (.xt A8 [a,b]) σ H Q:=h
theorem Dx{hi:RE}(h:ae Γ a σ H fun x H1=>ae Γ hi σ H1 fun j H3=>∃j':Int,j=.int j'/\oY Γ.K x none (some j') H3 Q):ae Γ (.sl a none<|some hi) σ H Q:=h
end
end L2.N
namespace L2.mi
open PySem PySem.Spec L2.B L2.N
def fs(k:Nat):Nat:=if k=0 then 35 else 97+k % 26
def tx(f:Nat)(tl:List Nat)(k:Nat):List Nat:=fs k::(List.replicate f 43++tl)
def av(f:Nat)(tl:List Nat)(m:Nat):List (List Nat):=(List.range<|m+1).map (tx f tl)
def tS(f:Nat)(tl:List Nat)(k:Nat):Str:=⟨(tx f tl k).toArray⟩
theorem sy(f:Nat)(tl:List Nat)(k:Nat):(tx f tl k).length=1+(f+tl.length):=by
 unfold tx;rw[zak,zqA,zbI];lia
theorem kj{f:Nat}{tl:List Nat}{m k:Nat}(h:k<=m):(av f tl m)[k]?=some (tx f tl k):=by unfold av;rw[zaf,zbz (by lia)];rfl
theorem ac2(f:Nat)(tl:List Nat)(m:Nat):av f tl (m+1)=av f tl m++[tx f tl<|m+1]:=by
 unfold av;rw[zbf,zao];rfl
theorem i7(k:Nat):gk (fs k):=by
 have h:∀j:Fin 26,SG.cps.contains (97+j.val)=true:=by decide+kernel
 unfold gk fs
 split
 ·decide+kernel
 ·exact h ⟨k % 26,Nat.mod_lt _ (by decide)⟩
theorem yO(f:Nat)(tl:List Nat)(k:Nat):(tS f tl k).length=1+(f+tl.length):=by
 show(tx f tl k).toArray.size=_;rw[zae,sy]
theorem ac3{f:Nat}{tl:List Nat}(hs:∀c∈tl,gk c)(hl:f+tl.length<=100)(k:Nat):good (tS f tl k):=by
 refine⟨by rw[yO];lia,fun c hc=>?_⟩
 have hc:c∈tx f tl k:=hc;unfold tx at hc;rcases zaa.mp hc with rfl|hc
 ·exact i7 k
 ·rcases zai.mp hc with hc|hc
  ·rw[List.eq_of_mem_replicate hc];decide+kernel
  ·exact hs c hc
def Jn(n i:Nat)(ps:List Pt):Prop:=ps=eg (fs i) (fs<|i - 1) n
def cR(tl:List Nat)(f h:Nat):List (Key×V):=[(.inr "tail",.str ⟨tl.toArray⟩),(.inr "foreign",.int (f:Nat)),(.inr "here",.int (h:Nat))]
theorem ox{a b:Str}(h:¬a=b):¬(Sum.inr a:Key)=Sum.inr b:=fun z=>h (Sum.inr.inj z)
theorem NQ{tl:List Nat}{f h:Nat}:eJ (cR tl f h) (.inr "tail")=some (.str ⟨tl.toArray⟩):=oR rfl
theorem NR{tl:List Nat}{f h:Nat}:eJ (cR tl f h) (.inr "foreign")=some (.int (f:Nat)):=(lU<|ox (by decide+kernel)).trans (oR rfl)
theorem Dy{tl:List Nat}{f h:Nat}:eJ (cR tl f h) (.inr "here")=some (.int (h:Nat)):=(lU<|ox (by decide+kernel)).trans ((lU<|ox (by decide+kernel)).trans<|oR rfl)
theorem NT{tl:List Nat}{f h:Nat}:putK (cR tl f h) (.inr "here") (.int (j:Nat))=cR tl f j:=by
 unfold putK;rw[sV,Dy,if_pos (show(some<|V.int (h:Nat)).isSome=true from rfl)]
 unfold cR;rw[zar,zar,zar,if_neg<|ox (by decide+kernel),if_neg<|ox (by decide+kernel),if_pos rfl];rfl
theorem ac4{tl:List Nat}{f h:Nat}:putK (cR tl f h) (.inr "foreign") (.int (j:Nat))=cR tl j h:=by
 unfold putK;rw[sV,NR,if_pos (show(some<|V.int (f:Nat)).isSome=true from rfl)]
 unfold cR;rw[zar,zar,zar,if_neg<|ox (by decide+kernel),if_pos rfl,if_neg<|ox (by decide+kernel)];rfl
structure bG (K:Frag) (C:Addr) (H0 H:Hp) (sc hp rw:Addr) (ns:List Int) (M Ed:List Addr) (f h g m:Nat) (tl:List Nat) (last:List (Option Nat)):Prop where
 h0:au K H0 sc (ns.map V.int)
 s0:ay H0 H
 f0:∀y∈M,H0 y=none
 fr:H0 rw=none
 hi:dn C H hp M Ed h (row m) (av f tl m) last 2
 ep:iK H Ed (Jn<|f+tl.length)
 rr:H rw=some (.dK<|cR tl f g)
 nr:rw∉M
 sg:∀c∈tl,gk c
 lt:tl.length<=20
 lf:f<=1
 lm:m<=1200
section
variable {K:Frag}{C:Addr}{H0 H H':Hp}{sc hp rw:Addr}{ns:List Int}{M Ed:List Addr}{f h g m:Nat}{tl:List Nat}{last:List (Option Nat)}
theorem bG.same(S:bG K C H0 H sc hp rw ns M Ed f h g m tl last)(s:ay H H'):bG K C H0 H' sc hp rw ns M Ed f h g m tl last:=
 ⟨S.h0,S.s0.trans s,S.f0,S.fr,S.hi.same s,S.ep.same s,s _ _ S.rr,S.nr,S.sg,S.lt,S.lf,S.lm⟩
theorem bG.ha(S:bG K C H0 H sc hp rw ns M Ed f h g m tl last):au K H sc (ns.map V.int):=S.s0.seq S.h0
theorem bG.hm(S:bG K C H0 H sc hp rw ns M Ed f h g m tl last):h<=m:=by
 obtain⟨dx,lo,pa,ed,be,lg,bs,es,A⟩:=S.hi;have:=A.ob.hr;rw[eR] at this;lia
theorem bG.ll(S:bG K C H0 H sc hp rw ns M Ed f h g m tl last):last.length=m+1:=by
 obtain⟨dx,lo,pa,ed,be,lg,bs,es,A⟩:=S.hi;rw[A.mM,eR]
theorem bG.obj(S:bG K C H0 H sc hp rw ns M Ed f h g m tl last):∃dx lo pa ed be lg,dZ C H hp dx lo pa ed be lg h ((av f tl m).map List.length) (row m):=by
 obtain⟨dx,lo,pa,ed,be,lg,bs,es,A⟩:=S.hi;exact⟨dx,lo,pa,ed,be,lg,A.ob⟩
theorem bG.step(S:bG K C H0 H sc hp rw ns M Ed f h g m tl last){h':Nat}{cY:List (Option Nat)}(b:bP M H H')(hi:dn C H' hp M Ed h' (row m) (av f tl m) cY 2):bG K C H0 H' sc hp rw ns M Ed f h' g m tl cY:=
 ⟨S.h0,fun y o e=>b _ _ (S.s0 _ _ e) (fun hm=>by rw[S.f0 y hm] at e;cases e),S.f0,S.fr,hi,S.ep.but S.hi b,b _ _ S.rr S.nr,S.nr,S.sg,S.lt,S.lf,S.lm⟩
theorem bG.nE(S:bG K C H0 H sc hp rw ns M Ed f h g m tl last):rw∉Ed:=fun hm=>by
 obtain⟨dx,lo,pa,ed,be,lg,bs,es,A⟩:=S.hi;obtain⟨xs,e⟩:=A.Mh hm;rw[S.rr] at e;cases e
theorem bG.put(S:bG K C H0 H sc hp rw ns M Ed f h g m tl last)(j:Nat):bG K C H0 (upd H rw (.dK<|cR tl f j)) sc hp rw ns M Ed f h j m tl last:=by
 have b:aJ rw H (upd H rw (.dK<|cR tl f j)):=aJ.upd;have tu:cz H (upd H rw (.dK<|cR tl f j)):=fun y ys e=>b _ _ e fun z=>by rw[z,S.rr] at e;cases e
 have nE:=S.nE;exact⟨S.h0,fun y o e=>b _ _ (S.s0 _ _ e) (bf e S.fr),S.f0,S.fr,S.hi.keep (fun y o hy e=>b _ _ e fun z=>by
  rcases hy with hy|hy
  ·exact S.nr (z ▸ hy)
  ·exact nE (z ▸ hy)) tu,S.ep.keep (fun y o hy e=>b _ _ e fun z=>nE (z ▸ hy)) tu,aw,S.nr,S.sg,S.lt,S.lf,S.lm⟩
def sA:Sp:=fun vs H Q E=>∃k:Nat,vs=[.int (k:Nat)]/\Q (.str<|s1<|fs k) H
theorem ac5(vs:List V)(H:Hp)(Q:VK)(E:XK)(hh:sA vs H Q E):aE (aO K [] [] (E:=E)) JP (Dn Q) (start JO vs) H:=by
 obtain⟨k,rfl,q⟩:=hh;refine cP<|Nb<|ba<|af rfl<|aA<|j_ ⟨_,rfl,jE (fun z=>aA ?_)<|fun z=>?_⟩
 ·have z:(k:Int)=0:=of_decide_eq_true z;have:k=0:=by lia
  subst this;have e:s1 (fs 0)="#":=by decide+kernel
  rw[e] at q;exact q
 ·have z:¬(k:Int)=0:=fun e=>z (zqT e);have e:(k:Int) % 26=((k % 26:Nat):Int):=by lia
  refine bw<|aA<|bU<|af rfl<|aA<|sx (by decide) ?_
  rw[e];have hc:∀j:Fin 26,fi (Str.ofString "abcdefghijklmnopqrstuvwxyz").cps.toList ((j.val:Nat):Int)=some (97+j.val):=by decide+kernel
  refine .inr<|.inr<|.inl ⟨_,_,_,rfl,rfl,by decide+kernel,hc ⟨k % 26,Nat.mod_lt _ (by decide)⟩,?_⟩
  have e2:fs k=97+k % 26:=by unfold fs;rw[if_neg (by lia)]
  show Q (.str<|s1<|97+k % 26) H;rw[<-e2];exact q
def pJ:Sp:=fun vs H Q E=>∃(rw:Addr) (k f h:Nat) (tl:List Nat),vs=[.ref rw,.int (k:Nat)]/\H rw=some (.dK<|cR tl f h)/\f<=1/\tl.length<=20/\Q (.str<|tS f tl k) H
theorem vc{w:Addr}{f:Str}{kvs:List (Key×V)}(hσ:σ[i]?=some (some<|.ref w))(hr:H w=some (.dK kvs))(hv:eJ kvs (.inr f)=some v)(q:Q v H):ae Γ (.iR (.v i)<|.c<|.str f) σ H Q:=⟨_,hσ,w,v,rfl,.inl ⟨kvs,.inr f,.inl hr,rfl,hv.symm⟩,q⟩
theorem Bu(vs:List V)(H:Hp)(Q:VK)(E:XK)(hh:pJ vs H Q E):aE (aO K [("_law_first",sA)] [] (E:=E)) JS (Dn Q) (start JR vs) H:=by
 obtain⟨rw,k,f,h,tl,rfl,hr,hf,hl,q⟩:=hh;refine cP<|bU<|bU<|cC sA rfl<|ax<|af rfl<|aK ⟨k,rfl,ac1<|aA<|vc rfl hr NR ⟨_,_,rfl,rfl,by lia,by lia,by decide+kernel,?_⟩⟩
 have e:(ji "+" ((f:Nat):Int)).cps.toList=List.replicate f 43:=by
  have:f=0\/f=1:=by lia
  rcases this with rfl|rfl<;>decide+kernel
 have el:(ji "+" ((f:Nat):Int)).length=f:=by
  show(ji "+" ((f:Nat):Int)).cps.size=f;rw[<-zbE,e,zbI]
 have l1:(s1<|fs k).length=1:=rfl;refine⟨cU (by lia),vc rfl hr NQ ⟨?_,?_⟩⟩
 ·have lt:(⟨tl.toArray⟩:Str).length=tl.length:=by show tl.toArray.size=_;rw[zae]
  have la:(s1 (fs k)++ji "+" ((f:Nat):Int)).length=1+f:=by
   show(_++_:Array Nat).size=_;rw[Array.size_append];show(s1<|fs k).length+(ji "+" ((f:Nat):Int)).length=_;rw[l1,el]
  rw[la,lt];exact cU (by lia)
 ·have ee:s1 (fs k)++ji "+" ((f:Nat):Int)++(⟨tl.toArray⟩:Str)=tS f tl k:=by
   refine gK ?_;show((#[fs k]++(ji "+" ((f:Nat):Int)).cps)++tl.toArray).toList=tx f tl k;rw[zbV,zbV,e];unfold tx
   simp
  rw[ee];exact q
def qz(C:Addr):Sp:=fun vs H Q E=>∃(p dx lo pa ed be lg:Addr) (here:Nat) (bB:List Nat) (pars:List (Option Nat)),vs=[.ref p]/\dZ C H p dx lo pa ed be lg here bB pars/\Q (.int (here:Nat)) H
theorem ac6(T:dU K C):bT (qz C) (fun E=>aO K [] [] (E:=E)) Js kR:=by
 intro vs H Q E h;obtain⟨p,dx,lo,pa,ed,be,lg,here,bB,pars,rfl,A,q⟩:=h;exact cP<|bY<|af rfl ⟨p,C,dx,_,_,rfl,A.ob,T.cl,T.gB,i5,q⟩
def Dz(C:Addr):Sp:=fun vs H Q E=>∃(p:Addr) (M Ed:List Addr) (here:Nat) (pars:List (Option Nat)) (av:List (List Nat)) (last:List (Option Nat)) (T n:Nat),vs=[.ref p,.int n]/\dn C H p M Ed here pars av last T/\n<pars.length/\∀b H',ay H H'->H b=none->H' b=some (.lst<|iV<|kids pars n)->Q (.ref b) H'
theorem ac7{CN:Addr}(X:dU K C):bT (Dz C) (fun E=>aO K [] [] [] [("need_node",C,lF C CN)] (E:=E)) Jw kS:=by
 intro vs H Q E h;obtain⟨p,M,Ed,here,pars,av,last,T,n,rfl,⟨dx,lo,pa,ed,be,lg,bs,es,A⟩,hn,q⟩:=h;refine dX<|A.ob.m1 rfl rfl<|af rfl ⟨p,dx,lo,pa,ed,be,lg,here,_,pars,_,rfl,A.ob,.inl ⟨n,rfl,hn,?_⟩⟩;obtain⟨b,hb⟩:∃b,bs[n]?=some b:=⟨_,zav (by rw[A.lb];exact hn)⟩
 have uY:(bs.map V.ref)[n]?=some (V.ref b):=by rw[zaf,hb];rfl
 refine cP<|acZ<|bw<|bY<|af rfl ⟨p,C,dx,_,_,rfl,A.ob.ob,X.cl,X.tW,ye,af rfl<|dG A.hb (dq uY) ⟨_,.inl<|au.of<|A.hk n b hb,fun c fc=>?_⟩⟩;exact q c _ (sameNew fc) fc aw
end
section
variable {K:Frag}{C CN:Addr}{H0 H H':Hp}{sc hp rw:Addr}{ns:List Int}{M Ed:List Addr}{f h g m:Nat}{tl:List Nat}{last:List (Option Nat)}
theorem bG.tx(S:bG K C H0 H sc hp rw ns M Ed f h g m tl last){k:Nat}(hf:Γ.fs j=pJ)(h1:σ[1]?=some (some<|.ref rw))(he:∀(H1:Hp) (Q1:VK),Q1 (.int (k:Nat)) H1->ae Γ e σ H1 Q1)(q:Q (.str<|tS f tl k) H):ae Γ (.call j [.v 1,e]) σ H Q:=
 cC pJ hf (ax<|af h1<|ax<|he _ _<|aK ⟨rw,k,f,g,tl,rfl,S.rr,S.lf,S.lt,q⟩)
theorem DA{E:XK}{a b n:Nat}(S:bG K C H0 H sc hp rw ns M Ed f h g m tl last)(hc:bx H c ps (tx f tl a) (tx f tl b))(ht:B.az ps<=10000)(q:∀H',ay H H'->Q (.bl true) H'):sh [.ref c,.str<|tS f tl a,.str<|tS f tl b] H Q E:=by
 have l1:=S.lf;have l2:=S.lt;have cj:=hc;obtain⟨xs,_,_,cg⟩:=cj;have:=(ND ps "" cg.ch cg.ok).1;exact⟨c,ps,tS f tl a,tS f tl b,rfl,ac3 S.sg (by lia) a,hc,by lia,by rw[yO];lia,q⟩
def yP(K:Frag)(C:Addr):Sp:=fun vs H Q E=>∃(H0:Hp) (sc hp rw:Addr) (ns:List Int) (M Ed:List Addr) (f h m d:Nat) (tl:List Nat) (last:List (Option Nat)),vs=[.ref hp,.ref rw,.int (d:Nat)]/\bG K C H0 H sc hp rw ns M Ed f h h m tl last/\d<=m/\
 ∀cY H',bG K C H0 H' sc hp rw ns M Ed f d d m tl cY->Q (.bl true) H'
abbrev DB:List (Str×Sp):=[("_law_leads",sh),("_law_text",pJ)]
theorem ac8(vs:List V)(H:Hp)(Q:VK)(E:XK)(hh:yP K C vs H Q E):aE (aO K DB [] [] [("go",C,De C),("now",C,qz C)] (E:=E)) JW (Dn Q) (start JV vs) H:=by
 obtain⟨H0,sc,hp,rw,ns,M,Ed,f,h,m,d,tl,last,rfl,S,hd,q⟩:=hh;have hm:=S.hm;have lm:=S.lm;have l1:=S.lf;have l2:=S.lt;refine bC<|vc rfl S.rr Dy ?_;refine Du<|af rfl<|af rfl<|aA ⟨rw,_,rfl,kx.k (k:=.inr "here") S.rr (by show 3<sizeLine;decide),?_⟩
 rw[NT];have S1:=S.put d;generalize upd H rw (.dK<|cR tl f d)=H1 at S1⊢;obtain⟨dx,lo,pa,ed,be,lg,ob⟩:=S1.obj;obtain⟨rest,ew,lw⟩:=acU hm hd;refine bC<|ob.m1 (sp:=De C) rfl rfl<|af rfl ⟨hp,M,Ed,h,d,_,_,last,2,rest,tx f tl h,tx f tl d,rfl,S1.hi,by rw[eR];lia,ew,by lia,by lia,by decide,kj hm,kj hd,by rw[sy];lia,fun c ps H2 b2 fc nc hc ht h2=>?_⟩
 have S2:=S1.step b2 h2;refine cP<|n_<|cC sh rfl<|ax<|af rfl<|ax<|S2.tx (k:=h) rfl rfl (fun _ _ q1=>af rfl q1)<|ax<|S2.tx (k:=d) rfl rfl (fun _ _ q1=>af rfl q1)<|aK<|DA (n:=0) S2 hc (by lia) fun H3 s3=>⟨_,rfl,iT ?_ rfl⟩
 have S3:=S2.same s3;obtain⟨DC,DD,DE,DF,DG,DH,sC⟩:=S3.obj;refine jX<|sC.m0 (sp:=qz C) rfl rfl ⟨hp,DC,DD,DE,DF,DG,DH,d,_,_,rfl,sC,af rfl<|j_ ?_⟩
 rw[zqT rfl];exact q _ H3 S3
def yQ(K:Frag)(C:Addr):Sp:=fun vs H Q E=>∃(H0:Hp) (sc hp rw:Addr) (ns:List Int) (M Ed:List Addr) (f h m:Nat) (tl:List Nat) (last:List (Option Nat)),vs=[.ref hp,.ref rw]/\bG K C H0 H sc hp rw ns M Ed f h h m tl last/\0<h/\
 ∀cY H',bG K C H0 H' sc hp rw ns M Ed f h h m tl cY->Q (.bl true) H'
theorem ac9(vs:List V)(H:Hp)(Q:VK)(E:XK)(hh:yQ K C vs H Q E):aE (aO K DB [] [] [("undo",C,yu C CN),("now",C,qz C),("redo",C,yv C CN)] (E:=E)) J8 (Dn Q) (start J7 vs) H:=by
 obtain⟨H0,sc,hp,rw,ns,M,Ed,f,h,m,tl,last,rfl,S,h0,q⟩:=hh;have hm:=S.hm;have l1:=S.lf;have l2:=S.lt;have e1:(h:Int) - 1=((h - 1:Nat):Int):=by lia
 refine bC<|vc rfl S.rr Dy ?_;obtain⟨dx,lo,pa,ed,be,lg,ob⟩:=S.obj;refine bC<|ob.m0 (sp:=yu C CN) rfl rfl ⟨hp,M,Ed,h,_,_,last,2,rfl,S.hi,by decide,.inl ⟨h - 1,tx f tl h,tx f tl<|h - 1,qw h0 hm,kj hm,kj (by lia),by rw[sy];lia,fun c ps H1 b1 fc nc hc ht h1=>?_⟩⟩
 have S1:=S.step b1 h1;have DI:∀{σ:St} (H1:Hp) (Q1:VK),σ[2]?=some (some<|.int (h:Nat))->Q1 (.int ((h - 1:Nat):Int)) H1->ae (aO K DB [] [] [("undo",C,yu C CN),("now",C,qz C),("redo",C,yv C CN)] (E:=E)) (.bin .Sub (.v 2)<|.c<|.int 1) σ H1 Q1:=fun H1 Q1 e q1=>bU (af e<|aA<|Cs (by rw[e1];exact q1))
 refine bK<|mJ<|iI<|jx sh rfl<|ax<|af rfl<|ax<|S1.tx (k:=h) rfl rfl (fun _ _ q1=>af rfl q1)<|ax<|S1.tx (k:=h - 1) rfl rfl (fun H9 Q1 q1=>DI H9 Q1 rfl q1)<|aK<|DA (n:=0) S1 hc (by have:B.az ps<=2*1:=ht;lia) fun H3 s3=>iH (iF ?_ rfl)
 have S3:=S1.same s3;obtain⟨DC,DD,DE,DF,DG,DH,sC⟩:=S3.obj;refine ba<|sC.m0 (sp:=qz C) rfl rfl ⟨hp,DC,DD,DE,DF,DG,DH,h - 1,_,_,rfl,sC,DI _ _ rfl<|qk ⟨_,rfl,iF (cQ ?_) (by simp)⟩⟩
 have el:yq (row m) [h,h - 1] last=last.set (h - 1) (some h):=by
  show jA (row m) last (h,h - 1)=_;unfold jA;rw[if_pos<|qw h0 hm]
 have hl:(yq (row m) [h,h - 1] last)[h - 1]?=some (some h):=by
  rw[el,zbC (by rw[S.ll];lia)]
 refine bC<|sC.m0 (sp:=yv C CN) rfl rfl ⟨hp,M,Ed,h - 1,_,_,_,2,rfl,S3.hi,by decide,.inl ⟨h,tx f tl<|h - 1,tx f tl h,hl,qw h0 hm,kj (by lia),kj hm,by rw[sy];lia,fun c2 uN H4 b4 fc2 nc2 cj qe h4=>?_⟩⟩
 have S4:=S3.step b4 h4;refine cP<|n_<|cC sh rfl<|ax<|af rfl<|ax<|S4.tx (k:=h - 1) rfl rfl (fun H9 Q1 q1=>DI H9 Q1 rfl q1)<|ax<|S4.tx (k:=h) rfl rfl (fun _ _ q1=>af rfl q1)<|aK<|DA (n:=0) S4 cj (by have:B.az uN<=2*1:=qe;lia) fun H5 s5=>⟨_,rfl,iT ?_ rfl⟩
 have S5:=S4.same s5;obtain⟨dx5,lo5,pa5,ed5,be5,lg5,u_⟩:=S5.obj;refine jX<|u_.m0 (sp:=qz C) rfl rfl ⟨hp,dx5,lo5,pa5,ed5,be5,lg5,h,_,_,rfl,u_,af rfl<|j_ ?_⟩
 rw[zqT rfl];exact q _ H5 S5
end
section
variable {K:Frag}{C CN:Addr}{H0 H H':Hp}{sc hp rw:Addr}{ns:List Int}{M Ed:List Addr}{f h g m:Nat}{tl:List Nat}{last:List (Option Nat)}
theorem adh(n:Nat):eo 0 1 n=nV (List.range n):=by
 unfold eo nV;refine zbo fun k _=>?_;rw[show(0:Int)+((k:Nat):Int)*1=(k:Nat) by lia]
theorem adi(m:Nat):eo (m:Nat) (-1) (m+1)=nV (List.range<|m+1).reverse:=by
 unfold eo nV;refine List.ext_getElem? fun j=>?_;rw[zaf,zaf];by_cases hj:j<m+1
 ·rw[zbz hj,List.getElem?_reverse (by rw[zaG];exact hj),zaG,zbz (by lia)]
  show some (V.int<|(m:Int)+(j:Nat)* (-1))=some (V.int ((m+1 - 1 - j:Nat):Int));rw[show(m:Int)+(j:Nat)* (-1)=((m+1 - 1 - j:Nat):Int) by lia]
 ·rw[zbe (by rw[zaG];lia),zbe (by rw[zaH,zaG];lia)];rfl
theorem adk(h:ae Γ a σ H fun x H1=>wO Γ.K [x] H1 Q):ae Γ (.xt Bn [a]) σ H Q:=h
theorem adl{c:RE}(h:ae Γ a σ H fun x H1=>ae Γ b σ H1 fun y H2=>ae Γ c σ H2 fun z H3=>wQ Γ.K [x,y,z] H3 Q):ae Γ (.xt Bo [a,b,c]) σ H Q:=h
theorem NU:Builtin.Range.rangeSize 0 ((n:Nat):Int) 1=(n:Nat):=by
 unfold Builtin.Range.rangeSize;rw[if_pos (by decide)]
 split
 ·rw[Int.ediv_one];lia
 ·lia
theorem NV{m:Nat}:Builtin.Range.rangeSize (m:Nat) (-1) (-1)=((m+1:Nat):Int):=by
 unfold Builtin.Range.rangeSize;rw[if_neg (by decide),if_pos (by lia),show(- (-1):Int)=1 by decide,Int.ediv_one]
 lia
theorem adm(x:Int):Builtin.divisionGoesByPylong x (-1)=false:=by
 unfold Builtin.divisionGoesByPylong;have:(decide<|(if ((-1:Int)==0)=true then 0 else (-1:Int).natAbs.log2 / 30+1) >300)=false:=by decide
 simp only[this,zbF]
theorem fits{i:Int}(h1: -1000000<=i)(h2:i<=1000000):Builtin.Range.rangeFitsLong i=true:=by
 unfold Builtin.Range.rangeFitsLong
 simp
 lia
theorem adn(h:n<=100000):Builtin.Range.small 0 ((n:Nat):Int) 1=true:=by
 unfold Builtin.Range.small;rw[NU]
 simp[fits (i:=0) (by decide) (by decide),fits (i:=1) (by decide) (by decide),fits (i:=(n:Nat)) (by lia) (by lia)]
theorem ado{m:Nat}(h:m<=100000):Builtin.Range.small ((m:Nat):Int) (-1) (-1)=true:=by
 unfold Builtin.Range.small;rw[NV];have:=fits (i:=((m+1:Nat):Int)) (by lia) (by lia)
 simp[fits (i:= -1) (by decide) (by decide),fits (i:=(m:Nat)) (by lia) (by lia)]
 simpa using this
def yR(K:Frag)(C:Addr):Sp:=fun vs H Q E=>∃(H0:Hp) (sc hp rw:Addr) (ns:List Int) (M Ed:List Addr) (f h m k:Nat) (tl:List Nat) (last:List (Option Nat)),vs=[.ref hp,.ref rw,.int (m:Nat),.int (k:Nat)]/\bG K C H0 H sc hp rw ns M Ed f h h m tl last/\k<=m/\0<m/\∀H',ay H H'->Q (.bl true) H'
abbrev mAs(C:Addr):List (Str×Addr×Sp):=[("way",C,rY C),("parent",C,CC C),("children",C,Dz C),("size",C,CG C)]
abbrev GA(K:Frag)(C:Addr)(E:XK):bj:=aO K [("_law_text",pJ)] [] [] (mAs C) (E:=E)
theorem NW{E:XK}{k:Nat}(S:bG K C H0 H sc hp rw ns M Ed f h g m tl last)(hk:k<=m)(h0:σ[0]?=some (some<|.ref hp))(he:∀(Q1:VK),Q1 (.int (k:Nat)) H->ae (GA K C E) e σ H Q1)(q:∀b H',ay H H'->H' b=some (.lst<|nV (if k<m then [k+1] else []))->Q (.ref b) H'):ae (GA K C E) (.aM 2 "children" (.v 0) [e]) σ H Q:=by
 obtain⟨dx,lo,pa,ed,be,lg,ob⟩:=S.obj;refine ob.m1 (sp:=Dz C) rfl h0<|he _ ⟨hp,M,Ed,h,_,_,last,2,k,rfl,S.hi,by rw[eR];lia,fun b H' s fb hb=>q b H' s ?_⟩
 rw[hb,acT hk]
theorem adq(vs:List V)(H:Hp)(Q:VK)(E:XK)(hh:yR K C vs H Q E):aE (GA K C E) J5 (Dn Q) (start J4 vs) H:=by
 obtain⟨H0,sc,hp,rw,ns,M,Ed,f,h,m,k,tl,last,rfl,S,hk,h0,q⟩:=hh;have lm:=S.lm;have l1:=S.lf;have l2:=S.lt;have rl:=eR m;obtain⟨dx,lo,pa,ed,be,lg,ob⟩:=S.obj;refine bK<|mJ<|ba<|ob.m2 (sp:=rY C) rfl rfl<|af rfl<|aA ⟨hp,dx,lo,pa,ed,be,lg,h,_,_,m,0,rfl,ob,by lia,by lia,fun b H1 s1 fb hb=>?_⟩
 refine adl<|af rfl<|nZ<|nZ ⟨_,_,_,m+1,rfl,by decide,ado (by lia),adm _,NV,by lia,fun l fl=>?_⟩
 have s2:=sameNew (o:=.lst (eo ((m:Nat):Int) (-1)<|m+1)) fl;have hl:upd H1 l (.lst<|eo ((m:Nat):Int) (-1)<|m+1) l=some (.lst<|nV (List.range<|m+1).reverse):=by rw[aw,adi]
 have nN:=s2 _ _ hb;rw[acR] at nN;generalize upd H1 l (.lst<|eo ((m:Nat):Int) (-1)<|m+1)=H2 at s2 hl nN⊢;refine yN nN hl ⟨_,rfl,iF ?_ rfl⟩;have S2:=(S.same s1).same s2;have i6:=s1.trans s2;obtain⟨uF,lo2,pa2,ed2,be2,lg2,NX⟩:=S2.obj;refine ba<|NX.m2 (sp:=rY C) rfl rfl<|aA<|af rfl ⟨hp,uF,lo2,pa2,ed2,be2,lg2,h,_,_,0,m,rfl,NX,by lia,by lia,fun b3 H3 s3 fb3 qt=>?_⟩
 refine adk<|bU<|af rfl<|aA<|ib ⟨_,m+1,rfl,?_,?_,by lia,fun l4 fl4=>?_⟩
 ·rw[show((m:Nat):Int)+1=((m+1:Nat):Int) by lia];exact adn (by lia)
 ·rw[show((m:Nat):Int)+1=((m+1:Nat):Int) by lia];exact NU
 have s4:=sameNew (o:=.lst (eo 0 1<|m+1)) fl4;have ux:upd H3 l4 (.lst<|eo 0 1<|m+1) l4=some (.lst<|nV<|List.range<|m+1):=by rw[aw,adh]
 have se:=s4 _ _ qt;rw[acS] at se;generalize upd H3 l4 (.lst<|eo 0 1<|m+1)=H4 at s4 ux se⊢;refine yN se ux ⟨_,rfl,iF (cQ ?_) rfl⟩;have S4:=(S2.same s3).same s4;have nU:=(i6.trans s3).trans s4;obtain⟨dx4,lo4,pa4,ed4,be4,lg4,NY⟩:=S4.obj;refine bK<|mJ<|ba<|NY.m1 (sp:=CC C) rfl rfl<|af rfl ⟨hp,dx4,lo4,pa4,ed4,be4,lg4,h,_,_,m,some<|m - 1,rfl,NY,qw h0<|zqR _,bU<|af rfl<|aA<|Cs ?_⟩
 show c9 K .NotEq (.int ((m - 1:Nat):Int)) (.int<|(m:Int) - 1) H4 _;rw[show(m:Int) - 1=((m - 1:Nat):Int) by lia]
 refine qk ⟨_,rfl,iF ?_ (by simp)⟩
 refine ba<|NW S4 (zqR _) rfl (fun Q1 q1=>af rfl q1) fun b5 H5 s5 Dl=>dw (aK ⟨zqZ _,fun l6 fl6=>?_⟩);have s6:=sameNew (o:=.lst []) fl6;have NZ:upd H5 l6 (.lst []) l6=some (.lst<|nV []):=aw;have r9:=s6 _ _ Dl;rw[if_neg<|zaz _] at r9;generalize upd H5 l6 (.lst [])=H6 at s6 NZ r9⊢;refine yN r9 NZ ⟨_,rfl,iF (cQ ?_) rfl⟩;have S6:=(S4.same s5).same s6;have qi:=(nU.trans s5).trans s6;refine Cp<|dw<|ax<|aA<|ax<|af rfl<|ax<|bU<|af rfl<|aA<|Cs ?_;rw[show(m:Int) - 1=((m - 1:Nat):Int) by lia]
 refine ax<|af rfl<|aK ⟨Od,fun L fL=>⟨L,rfl,⟨_,au.of aw⟩,?_⟩⟩;have s7:=sameNew (o:=.lst [V.int 0,V.int (k:Nat),V.int ((m - 1:Nat):Int),V.int (m:Nat)]) fL;have hL:upd H6 L (.lst [V.int 0,V.int (k:Nat),V.int ((m - 1:Nat):Int),V.int (m:Nat)]) L=some (.lst [V.int 0,V.int (k:Nat),V.int ((m - 1:Nat):Int),V.int (m:Nat)]):=aw;have S7:=S6.same s7;generalize upd H6 L (.lst [V.int 0,V.int (k:Nat),V.int ((m - 1:Nat):Int),V.int (m:Nat)])=H7 at s7 hL S7⊢;refine mU (K:=K) (a:=L) (xs:=[V.int 0,V.int (k:Nat),V.int ((m - 1:Nat):Int),V.int (m:Nat)]) (fun i σ H8=>∃u4:Option V,σ=[some<|.ref hp,some<|.ref rw,some<|.int (m:Nat),some<|.int (k:Nat),u4]/\ay H7 H8) ⟨none,rfl,ay.refl _⟩ (fun i σ H8 _ ⟨_,_,s8⟩=>au.of (s8 _ _ hL)) ?_ ?_
 ·rintro i v σ H8 hv ⟨u4,rfl,s8⟩;obtain⟨j,hj,rfl⟩:∃j,j<=m/\v=V.int (j:Nat):=by
   have hj:=zan hv
   simp only[zaa,zam,or_false] at hj
   rcases hj with h|h|h|h
   ·exact⟨0,by lia,h⟩
   ·exact⟨k,hk,h⟩
   ·exact⟨m - 1,by lia,h⟩
   ·exact⟨m,by lia,h⟩
  have S8:=S7.same s8;obtain⟨dx8,lo8,pa8,ed8,be8,lg8,N1⟩:=S8.obj;show aE (GA K C E) [.ite (.or [(.cmp .NotEq (.aM 3 "size" (.v 0) [.v 4])<|.blt .len [(.call 0 [.v 1,.v 4])]),(.and [(.cmp .Lt (.v 4)<|.v 2),(.cmp .NotEq (.aM 2 "children" (.v 0) [.v 4])<|.lst [(.bin .Add (.v 4)<|.c<|.int 1)])])]) [.ret<|.c<|.bl false] []] _ [some<|.ref hp,some<|.ref rw,some<|.int (m:Nat),some<|.int (k:Nat),some<|.int (j:Nat)] H8;have hsz:((av f tl m).map List.length)[j]?=some (1+(f+tl.length)):=by rw[zaf,kj hj,<-sy f tl j];rfl
  refine bK<|mJ<|ba<|N1.m1 (sp:=CG C) rfl rfl<|af rfl ⟨hp,dx8,lo8,pa8,ed8,be8,lg8,h,_,_,j,_,rfl,N1,hsz,fI<|S8.tx (k:=j) rfl rfl (fun _ _ q1=>af rfl q1) ⟨cU (by rw[yO];lia),?_⟩⟩
  rw[yO];refine qk ⟨_,rfl,iF ?_ (by simp)⟩
  refine uJ<|ba<|af rfl<|af rfl ⟨trivial,_,rfl,jE (fun aX=>?_)<|fun _=>iF (cQ ⟨_,rfl,s8⟩) rfl⟩;have aX:(j:Int) < (m:Int):=of_decide_eq_true aX;refine ba<|NW S8 hj rfl (fun Q1 q1=>af rfl q1) fun b9 H9 s9 hb9=>dw (ax<|bU<|af rfl<|aA<|ib<|aK ⟨eG,fun la fa=>?_⟩);have sa:=sameNew (o:=.lst [V.int<|(j:Int)+1]) fa;have ha:upd H9 la (.lst [V.int<|(j:Int)+1]) la=some (.lst<|nV [j+1]):=aw;have N2:=sa _ _ hb9;rw[if_pos (by lia)] at N2
  refine yN N2 ha ⟨_,rfl,iF (cQ ⟨_,rfl,(s8.trans s9).trans sa⟩) rfl⟩
 ·rintro σ H8 ⟨u4,rfl,s8⟩;exact cP<|aA<|q _<|(qi.trans s7).trans s8
end
section
variable {K:Frag}{C CN CP:Addr}{H0 H H':Hp}{sc hp rw:Addr}{ns:List Int}{M Ed:List Addr}{f h g m:Nat}{tl:List Nat}{last:List (Option Nat)}
theorem ka{i j:Int}(q:Q (.bl<|decide<|j<i) H):c9 K .Gt (.int i) (.int j) H Q:=⟨trivial,q⟩
theorem N3{k:Bool}(q:Q (.int (if k then 1 else 0)) H):kE K .int [.bl k] H Q:=q
theorem N4(a b c:V)(n:Nat):d6 [a,b,c] none (some<|2+(if (decide<|(0:Int) < (n:Nat)) then 1 else 0))=a::b::(if n=0 then [] else [c]):=by
 by_cases z:n=0
 ·subst z;rfl
 ·rw[if_pos<|zqT (by lia),if_neg z];rfl
theorem N5{t1 t2 t3:Addr}{p q:Pt}(h1:H t1=some (.tup [.str p.word,p.val]))(h2:H t2=some (.tup [.str q.word,q.val]))(h3:H t3=some (.tup [.str "keep",.int (n:Nat)])):aP H (V.ref t1::V.ref t2::(if n=0 then [] else [V.ref t3])) (p::q::kp n):=by
 refine .cons ⟨t1,rfl,h1⟩<|.cons ⟨t2,rfl,h2⟩ ?_;unfold kp;by_cases z:n=0
 ·rw[if_pos z,if_pos z];exact .nil
 ·rw[if_neg z,if_neg z];exact .cons ⟨t3,rfl,h3⟩ .nil
theorem adM(A:dn C H hp M Ed h (row m) (av f tl m) last 2):Ed.length=m:=by
 obtain⟨dx,lo,pa,ed,be,lg,bs,es,A⟩:=A;have e1:=A.le;rw[A.yz,zak,zad,eR] at e1;lia
def DJ(K:Frag)(C:Addr):Sp:=fun vs H Q E=>∃(H0:Hp) (sc hp rw:Addr) (ns:List Int) (M Ed:List Addr) (m:Nat) (tl:List Nat) (last:List (Option Nat)),vs=[.ref hp,.ref rw,.int (m:Nat)]/\bG K C H0 H sc hp rw ns M Ed 0 0 0 0 tl last/\m<=1200/\
 ∀M' dz cY H',bG K C H0 H' sc hp rw ns M' dz 0 m m m tl cY->Q (.bl true) H'
abbrev GM(K:Frag)(C:Addr)(E:XK):bj:=aO K [("_law_first",sA)] [] [] [("do",C,CM C),("many",C,lE C)] (E:=E)
def DK:List RS:=[.asg 5 (.lst [(.tup [(.c (.str "put")),(.call 0 [(.bin .Add (.v 4) (.c (.int 1)))])]),(.tup [(.c (.str "cut")),(.call 0 [.v 4])]),(.tup [(.c (.str "keep")),.v 3])]),
  .ite (.cmp .NotEq (.aM 0 "do" (.v 0) [(.sl (.v 5) none (some (.bin .Add (.c (.int 2)) (.blt .int [(.cmp .Gt (.v 3) (.c (.int 0)))]))))]) (.bin .Add (.v 4) (.c (.int 1)))) [.ret (.c (.bl false))] []]
theorem adN{E:XK}{k m:Nat}{u5:Option V}(S:bG K C H0 H sc hp rw ns M Ed 0 k 0 k tl last)(hk:k+1<=1200)
  (kk:∀u5 M' dz cY H',bG K C H0 H' sc hp rw ns M' dz 0 (k+1) 0 (k+1) tl cY->D.nx [some<|.ref hp,some<|.ref rw,some<|.int (m:Nat),some<|.int (tl.length:Nat),some<|.int (k:Nat),u5] H'):
  aE (GM K C E) DK D [some<|.ref hp,some<|.ref rw,some<|.int (m:Nat),some<|.int (tl.length:Nat),some<|.int (k:Nat),u5] H:=by
 have l2:=S.lt;have e1:((k:Nat):Int)+1=((k+1:Nat):Int):=by lia
 refine bC<|dw<|ax<|kW<|ax<|aA<|ax<|cC sA rfl<|ax<|bU<|af rfl<|aA<|ib ?_;rw[e1];refine aK ⟨k+1,rfl,aK ⟨d4,fun t1 f1=>?_⟩⟩;refine ax<|kW<|ax<|aA<|ax<|cC sA rfl<|ax<|af rfl<|aK ⟨k,rfl,aK ⟨d4,fun t2 f2=>?_⟩⟩;refine ax<|kW<|ax<|aA<|ax<|af rfl<|aK ⟨d4,fun t3 f3=>aK ⟨yU,fun l fl=>?_⟩⟩;have u1:=sameNew (o:=.tup [V.str "put",V.str<|s1<|fs<|k+1]) f1;have u2:=sameNew (o:=.tup [V.str "cut",V.str<|s1<|fs k]) f2;have u3:=sameNew (o:=.tup [V.str "keep",V.int (tl.length:Nat)]) f3;have u4:=sameNew (o:=.lst [V.ref t1,V.ref t2,V.ref t3]) fl;have k1:=u4 _ _ (u3 _ _<|u2 _ _<|aw (H:=H) (a:=t1) (o:=.tup [V.str "put",V.str<|s1<|fs<|k+1]));have k2:=u4 _ _ (u3 _ _<|aw (a:=t2) (o:=.tup [V.str "cut",V.str<|s1<|fs k]));have k3:=u4 _ _ (aw (a:=t3) (o:=.tup [V.str "keep",V.int (tl.length:Nat)]));have s4:=((u1.trans u2).trans u3).trans u4;have hl:=aw (H:=upd (upd (upd H t1<|.tup [V.str "put",V.str<|s1<|fs<|k+1]) t2<|.tup [V.str "cut",V.str<|s1<|fs k]) t3 (.tup [V.str "keep",V.int (tl.length:Nat)])) (a:=l) (o:=.lst [V.ref t1,V.ref t2,V.ref t3]);generalize upd (upd (upd (upd H t1<|.tup [V.str "put",V.str<|s1<|fs<|k+1]) t2<|.tup [V.str "cut",V.str<|s1<|fs k]) t3<|.tup [V.str "keep",V.int (tl.length:Nat)]) l (.lst [V.ref t1,V.ref t2,V.ref t3])=H4 at k1 k2 k3 s4 hl⊢;have S4:=S.same s4;obtain⟨dx,lo,pa,ed,be,lg,ob⟩:=S4.obj;refine bK<|ba<|ob.m1 (sp:=CM C) rfl rfl<|Dx<|af rfl<|bU<|aA<|xx<|ax<|jX<|af rfl<|aA<|ka<|aK<|N3<|ib ⟨_,rfl,.inl ⟨_,au.of hl,fun c fc=>?_⟩⟩
 have rQ:=sameNew (o:=.lst (d6 [V.ref t1,V.ref t2,V.ref t3] none<|some<|2+(if (decide<|(0:Int) < (tl.length:Nat)) then 1 else 0))) fc
 have hc:upd H4 c (.lst<|d6 [V.ref t1,V.ref t2,V.ref t3] none<|some<|2+(if (decide<|(0:Int) < (tl.length:Nat)) then 1 else 0)) c=some (.lst (V.ref t1::V.ref t2::(if tl.length=0 then [] else [V.ref t3]))):=by rw[aw,N4]
 have S5:=S4.same rQ;have ow:=S4.hi.own fc;have ch:bx (upd H4 c<|.lst<|d6 [V.ref t1,V.ref t2,V.ref t3] none<|some<|2+(if (decide<|(0:Int) < (tl.length:Nat)) then 1 else 0)) c (eg (fs<|k+1) (fs k) tl.length) (tx 0 tl k) (tx 0 tl<|k+1):=
  ⟨_,hc,N5 (p:=.put (s1<|fs<|k+1)) (q:=.cut (s1<|fs k)) (rQ _ _ k1) (rQ _ _ k2)<|rQ _ _ k3,(qy (i7 _) (i7 _) _).1,(qy (i7 _) (i7 _) _).2,acW (fs<|k+1) (fs k) tl⟩
 refine⟨hp,M,Ed,k,_,_,last,2,c,_,_,_,rfl,S5.hi,ch,ow.1,kj<|zqR _,by rw[Dt];exact zqR _,by decide,by rw[eR];lia,fun b a H6 b6 fb fa N6 hx6=>?_⟩
 have rR:=S5.s0;have S6:bG K C H0 H6 sc hp rw ns (M++[b]) (Ed++[a]) 0 (k+1) 0 (k+1) tl (last++[none]):=by
  refine⟨S.h0,fun y o e=>b6 _ _ (rR _ _ e) (fun hm=>by rw[S.f0 y hm] at e;cases e),fun y hy=>?_,S.fr,?_,fun i x e=>?_,b6 _ _ S5.rr S.nr,fun hm=>?_,S.sg,S.lt,S.lf,hk⟩
  ·rcases zai.mp hy with hy|hy
   ·exact S.f0 y hy
   ·rw[zac.mp hy];exact rR.free fb
  ·rw[acQ,ac2];have:(row k).length=k+1:=eR k;rw[this] at N6;exact N6
  ·have el:=adM S.hi;by_cases hi:i<Ed.length
   ·rw[zaA hi] at e;exact(S5.ep.but S5.hi b6) i x e
   ·have fS:i< (Ed++[a]).length:=(zah.mp e).1;rw[zqA] at fS;have e2:i=Ed.length:=by have:[a].length=1:=rfl;lia
    subst e2;rw[zbH<|zqR _,zbv] at e;cases e;obtain⟨xs,g1,g2⟩:=hx6;refine⟨xs,_,g1,g2,?_⟩;unfold Jn;rw[el,zbg];rfl
  ·rcases zai.mp hm with hm|hm
   ·exact S.nr hm
   ·have z:=S5.rr;rw[zac.mp hm,fb] at z;cases z
 refine bU<|af rfl<|aA<|ib ?_;rw[e1,eR];exact qk ⟨_,rfl,iF (cQ<|kk _ _ _ _ H6 S6) (by simp)⟩
theorem adP(vs:List V)(H:Hp)(Q:VK)(E:XK)(hh:DJ K C vs H Q E):aE (GM K C E) J0 (Dn Q) (start JZ vs) H:=by
 obtain⟨H0,sc,hp,rw,ns,M,Ed,m,tl,last,rfl,S,hm,q⟩:=hh;have l2:=S.lt;have lt:(⟨tl.toArray⟩:Str).length=tl.length:=by show tl.toArray.size=_;rw[zae]
 refine bC<|fI<|vc rfl S.rr NQ ⟨by rw[lt];exact cU (by lia),?_⟩
 rw[lt];refine L5 (body:=DK)<|af rfl ⟨_,rfl,by lia,by lia,Er (lo:=0) (fun i σ H2=>∃(u4 u5:Option V) (M' dz:List Addr) (cY:List (Option Nat)),σ=[some<|.ref hp,some<|.ref rw,some<|.int (m:Nat),some<|.int (tl.length:Nat),u4,u5]/\bG K C H0 H2 sc hp rw ns M' dz 0 i 0 i tl cY) ⟨none,none,M,Ed,last,rfl,S⟩ ?_ ?_⟩
 ·rintro i σ H2 hi ⟨u4,u5,M',dz,cY,rfl,S2⟩;rw[zaB] at hi;show aE (GM K C E) DK _ [some<|.ref hp,some<|.ref rw,some<|.int (m:Nat),some<|.int (tl.length:Nat),some<|.int<|0+(i:Int),u5] H2;rw[Int.zero_add];exact adN S2 (by lia) fun u5 M2 Ed2 qA H3 S3=>⟨_,u5,M2,Ed2,qA,rfl,S3⟩
 ·rintro σ H2 ⟨u4,u5,M',dz,cY,rfl,S2⟩;rw[zaB] at S2;refine Du<|af rfl<|af rfl<|aA ⟨rw,_,rfl,kx.k (k:=.inr "here") S2.rr (by show 3<sizeLine;decide),?_⟩
  rw[NT];have S3:=S2.put m;generalize upd H2 rw (.dK<|cR tl 0 m)=H3 at S3⊢;obtain⟨dx,lo,pa,ed,be,lg,ob⟩:=S3.obj;refine cP<|jX<|ob.m0 (sp:=lE C) rfl rfl ⟨hp,dx,lo,pa,ed,be,lg,m,_,_,rfl,ob,bU<|af rfl<|aA<|ib<|j_ ?_⟩
  rw[eR,zqT (by lia)]
  exact q _ _ _ H3 S3
end
section
variable {K:Frag}{C CN CP:Addr}{H0 H H':Hp}{sc hp rw:Addr}{ns:List Int}{M Ed:List Addr}{f h g m:Nat}{tl:List Nat}{last:List (Option Nat)}{E:XK}{Q:VK}
theorem adR(m n:Nat):yD (row m) (fun _ g=>g=fo n) (Jn n) (Jn<|n+1):=by
 intro a b g e ps qs l mm k _ hg he c1 c2 P;subst hg;have key:∀{u v:Nat},gk u->gk v->e=eg u v n->ps=fo n/\qs=eg u v (n+1):=fun hu hv z=>acY hu hv (by rw[<-z];exact P)
 rcases he with⟨hb,hj⟩|⟨ha,e0,hj,rfl⟩
 ·obtain⟨_,eb⟩:=sv hb;obtain⟨p1,p2⟩:=key (i7 b) (i7<|b - 1) hj;refine⟨p1,fun _=>p2,fun h=>?_⟩;obtain⟨_,ea⟩:=sv h;lia
 ·obtain⟨_,ea⟩:=sv ha;unfold Jn at hj;subst hj;have eb:=NP (n:=n) (i7 a) (i7<|a - 1);obtain⟨p1,p2⟩:=key (i7<|a - 1) (i7 a) eb;refine⟨p1,fun h=>?_,fun _=>?_⟩
  ·obtain⟨_,eb⟩:=sv h;lia
  ·rw[p2];exact NP (i7<|a - 1)<|i7 a
abbrev tLw(K:Frag)(C:Addr):List (Str×Sp):=[("_law_cell_at",Bs K),("_law_made",DJ K C),("_law_stepped",yQ K C),("_law_asked",yR K C),("_law_went",yP K C)]
abbrev GL(K:Frag)(C CP:Addr)(E:XK):bj:=aO K (tLw K C) [] [] [("foreign",C,yH C),("many",C,lE C)] [("History",C,Df C CP)] (E:=E)
theorem adT{l r r':List Nat}(h:Run l ps r)(h':Run l ps r'):r=r':=h.fits.2.symm.trans h'.fits.2
theorem adU{tl:List Nat}:iW [] (cR tl 0 0)=cR tl 0 0:=by
 have n:∀{a b:Str}{v:V}{r:List (Key×V)},¬a=b->eJ r (.inr b)=none->eJ (((Sum.inr a:Key),v)::r) (.inr b)=none:=fun h e=>(lU<|ox h).trans e;show putK (putK (putK ([]:List (Key×V)) (Sum.inr "tail")<|.str ⟨tl.toArray⟩) (Sum.inr "foreign")<|.int (0:Nat)) (Sum.inr "here") (.int (0:Nat))=_;rw[vL (kvs:=[]) _ rfl];rw[vL (kvs:=[]++_) _<|n (by decide+kernel) rfl]
 rw[vL (kvs:=[]++_++_) _<|n (by decide+kernel)<|n (by decide+kernel) rfl]
 rfl
theorem adV{E':XK}(S:bG K C H0 H sc hp rw ns M Ed 0 h h m tl last)(hc:bx H c (fo tl.length) (tx 0 tl h) (tx 1 tl h))
  (q:∀M' dz H',bG K C H0 (upd H' rw (.dK<|cR tl 1 h)) sc hp rw ns M' dz 1 h h m tl last->H' rw=some (.dK<|cR tl 0 h)->Q .aC H'):yH C [.ref hp,.ref c] H Q E':=by
 have lm:=S.lm;have l2:=S.lt;refine⟨hp,c,M,Ed,h,_,_,last,2,1,fun _ g=>g=fo tl.length,Jn tl.length,Jn<|tl.length+1,_,_,_,rfl,S.hi,?_,hc,kj S.hm,by rw[acV];exact zqR _,by decide,by rw[eR];lia,rfl,adR m tl.length,fun M' dz lK H1 b1 fM fE Ah ep1 e1 all=>?_⟩
 ·have:=S.ep;rw[zbg] at this;exact this
 have el:lK.length=m+1:=by
  obtain⟨Lp,lo1,af7,ed1,be1,lg1,bs1,es1,A1⟩:=Ah;have:=A1.ob.ln;rw[zad,eR] at this;exact this
 have et:lK=av 1 tl m:=by
  refine List.ext_getElem? fun k=>?_;by_cases hk:k<m+1
  ·obtain⟨g,lk,qu,hg,a1,a2,a3⟩:=all k (by rw[eR];exact hk)
   subst hg;rw[kj (by lia)] at a1
   injection a1 with a1
   subst a1;rw[a2,kj (by lia)]
   have r1:=NN (fs k) tl;have r2:Run (fs k::tl) (fo tl.length) qu:=a3.run;rw[adT r2 r1];rfl
  ·rw[zbe (by lia),zbe (by unfold av;rw[zad,zaG];lia)]
 subst et;have N7:rw∉M':=fun hm=>by
  rcases fM rw hm with z|z
  ·exact S.nr z
  ·rw[S.rr] at z;cases z
 have oZ:=b1 _ _ S.rr S.nr;have N8:rw∉dz:=fun hm=>by
  have:=fE rw hm;rw[S.rr] at this;cases this
 have b2:aJ rw H1 (upd H1 rw (.dK<|cR tl 1 h)):=aJ.upd;have tu:cz H1 (upd H1 rw (.dK<|cR tl 1 h)):=fun y ys e=>b2 _ _ e fun z=>by rw[z,oZ] at e;cases e
 refine q M' dz H1 ⟨S.h0,fun y o e=>b2 _ _ (b1 _ _ (S.s0 _ _ e) (fun hm=>by rw[S.f0 y hm] at e;cases e))<|bf e S.fr,fun y hy=>?_,S.fr,Ah.keep (fun y o hy e=>b2 _ _ e fun z=>?_) tu,?_,aw,N7,S.sg,S.lt,by decide,S.lm⟩ oZ
 ·rcases fM y hy with z|z
  ·exact S.f0 y z
  ·exact S.s0.free z
 ·rcases hy with hy|hy
  ·exact N7 (z ▸ hy)
  ·exact N8 (z ▸ hy)
 ·rw[Nat.add_comm];exact ep1.keep (fun y o hy e=>b2 _ _ e fun z=>N8 (z ▸ hy)) tu
theorem N9{r:List RS}{u1 u7:Option V}{d1 d2:Nat}{x1 x2:RE}{u6:Option V}{kn:Nat}(S:bG K C H0 H sc hp rw ns M Ed f h h m tl last)(B9:d1<=m)(hd2:d2<=m)
  (e1:∀(Q1:VK) (H1:Hp),Q1 (.int (d1:Nat)) H1->ae (GL K C CP E) x1 [some<|.ref sc,u1,some<|.int (m:Nat),some<|.ref rw,some<|.ref hp,some<|.int (kn:Nat),u6,u7] H1 Q1)
  (e2:∀(Q1:VK) (H1:Hp),Q1 (.int (d2:Nat)) H1->ae (GL K C CP E) x2 [some<|.ref sc,u1,some<|.int (m:Nat),some<|.ref rw,some<|.ref hp,some<|.int (kn:Nat),u6,u7] H1 Q1)
  (k:∀u6 cY H',bG K C H0 H' sc hp rw ns M Ed f d2 d2 m tl cY->aE (GL K C CP E) r D [some<|.ref sc,u1,some<|.int (m:Nat),some<|.ref rw,some<|.ref hp,some<|.int (kn:Nat),u6,u7] H'):
  aE (GL K C CP E) (.iy 6 .list [(.lst [x1,x2])] [.ite (.not<|.call 4 [.v 4,.v 3,.v 6]) [.ret<|.c<|.bl false] []]::r) D [some<|.ref sc,u1,some<|.int (m:Nat),some<|.ref rw,some<|.ref hp,some<|.int (kn:Nat),u6,u7] H:=by
 refine Cp<|dw<|ax<|e1 _ _<|ax<|e2 _ _<|aK ⟨d4,fun L fL=>⟨L,rfl,⟨_,au.of aw⟩,?_⟩⟩;have u:=sameNew (o:=.lst [V.int (d1:Nat),V.int (d2:Nat)]) fL;have hL:upd H L (.lst [V.int (d1:Nat),V.int (d2:Nat)]) L=some (.lst [V.int (d1:Nat),V.int (d2:Nat)]):=aw;have ow:=S.hi.own fL;have nLr:L≠rw:=fun z=>by rw[z,S.rr] at fL;cases fL
 have S1:=S.same u;generalize upd H L (.lst [V.int (d1:Nat),V.int (d2:Nat)])=H1 at hL S1⊢;have T1:bG K C (upd H0 L<|.lst [V.int (d1:Nat),V.int (d2:Nat)]) H1 sc hp rw ns M Ed f h h m tl last:=by
  have qv:H0 L=none:=S.s0.free fL;refine⟨(sameNew qv).seq S1.h0,fun y o e=>?_,fun y hy=>?_,?_,S1.hi,S1.ep,S1.rr,S1.nr,S1.sg,S1.lt,S1.lf,S1.lm⟩
  ·by_cases z:y=L
   ·rw[z,aw] at e;rw[z,hL];exact e
   ·rw[aF z] at e;exact S1.s0 _ _ e
  ·rw[aF (show y≠L from fun z=>ow.1 (z ▸ hy))];exact S1.f0 y hy
  ·rw[aF nLr.symm];exact S1.fr
 refine mU (K:=K) (a:=L) (xs:=[V.int (d1:Nat),V.int (d2:Nat)]) (fun i σ H2=>∃(v6:Option V) (cY:List (Option Nat)),σ=[some<|.ref sc,u1,some<|.int (m:Nat),some<|.ref rw,some<|.ref hp,some<|.int (kn:Nat),v6,u7]/\((i=0/\bG K C (upd H0 L<|.lst [V.int (d1:Nat),V.int (d2:Nat)]) H2 sc hp rw ns M Ed f h h m tl cY)\/(i=1/\bG K C (upd H0 L<|.lst [V.int (d1:Nat),V.int (d2:Nat)]) H2 sc hp rw ns M Ed f d1 d1 m tl cY)\/(i=2/\bG K C (upd H0 L<|.lst [V.int (d1:Nat),V.int (d2:Nat)]) H2 sc hp rw ns M Ed f d2 d2 m tl cY)))
  ⟨u6,last,rfl,.inl ⟨rfl,T1⟩⟩ ?_ ?_ ?_
 ·rintro i σ H2 _ ⟨v6,cY,rfl,hP⟩;have:∀{h':Nat}{H2:Hp},bG K C (upd H0 L<|.lst [V.int (d1:Nat),V.int (d2:Nat)]) H2 sc hp rw ns M Ed f h' h' m tl cY->au K H2 L [V.int (d1:Nat),V.int (d2:Nat)]:=fun T=>au.of (T.s0 _ _ aw);rcases hP with⟨_,T⟩|⟨_,T⟩|⟨_,T⟩ <;>exact this T
 ·rintro i v σ H2 hv ⟨v6,cY,rfl,hP⟩;rcases hP with⟨rfl,T⟩|⟨rfl,T⟩|⟨rfl,T⟩
  ·cases hv;refine bK<|iI<|jx (yP K C) rfl<|ax<|af rfl<|ax<|af rfl<|ax<|af rfl<|aK ⟨_,sc,hp,rw,ns,M,Ed,f,h,m,d1,tl,cY,rfl,T,B9,fun qA H3 T3=>iH<|iF (cQ ?_) rfl⟩;exact⟨_,qA,rfl,.inr<|.inl ⟨rfl,T3⟩⟩
  ·cases hv;refine bK<|iI<|jx (yP K C) rfl<|ax<|af rfl<|ax<|af rfl<|ax<|af rfl<|aK ⟨_,sc,hp,rw,ns,M,Ed,f,d1,m,d2,tl,cY,rfl,T,hd2,fun qA H3 T3=>iH<|iF (cQ ?_) rfl⟩;exact⟨_,qA,rfl,.inr<|.inr ⟨rfl,T3⟩⟩
  ·cases hv
 ·rintro σ H2 ⟨v6,cY,rfl,hP⟩;rcases hP with⟨z,_⟩|⟨z,_⟩|⟨_,T⟩
  ·cases z
  ·cases z
  ·have qv:H0 L=none:=S.s0.free fL;refine k v6 cY H2 ⟨S.h0,fun y o e=>T.s0 _ _<|sameNew qv _ _ e,S.f0,S.fr,T.hi,T.ep,T.rr,T.nr,T.sg,T.lt,T.lf,T.lm⟩
end
section
variable {K:Frag}{C CN CP:Addr}{H0 H H':Hp}{sc hp rw:Addr}{ns:List Int}{M Ed:List Addr}{f h g m:Nat}{tl:List Nat}{last:List (Option Nat)}{E:XK}{Q:VK}
def yS(K:Frag):Sp:=fun vs H Q E=>∃(a:Addr) (ns:List Int),vs=[.ref a]/\au K H a (ns.map V.int)/\∀H',Q (.bl true) H'
abbrev AB:Str:="ABCDEFGHIJKLMNOPQRSTUVWXYZ"
theorem adY(k:Nat)(hk:k<=20):∃tl:List Nat,jH AB none (some ((k:Nat):Int))=⟨tl.toArray⟩/\tl.length<=20/\∀c∈tl,gk c:=by
 refine⟨_,rfl,?_,fun c hc=>?_⟩
 ·unfold kz;rw[HT.qM,HT.zq,zaF];have:AB.cps.toList.length=26:=by decide+kernel
  lia
 ·have hc:=zbw (zcb hc);have:∀c∈AB.cps.toList,gk c:=by unfold gk;decide+kernel
  exact this c hc
theorem vd{Q':VK}(ha:au K H1 sc (ns.map V.int))(i:Int)(e0:σ[0]?=some (some<|.ref sc))(hi:0<=i)(q:Q' (.int<|cell ns i.toNat) H1):ae (GL K C CP E) (.call 0 [.v 0,(.c<|.int i)]) σ H1 Q':=
 cC (Bs K) rfl (ax<|af e0<|ax<|aA<|aK ⟨sc,ns,_,rfl,ha,hi,q⟩)
theorem adZ(tl:List Nat):((⟨tl.toArray⟩:Str) !="")=decide ((0:Int) < (tl.length:Nat)):=by
 cases tl with
 |nil=>decide+kernel
 |cons c r=>
  have h1:(⟨(c::r).toArray⟩:Str)≠"":=fun z=>by
   have:=congrArg (fun s=>s.cps.toList) z;have e:(Str.ofString "").cps.toList=[]:=by decide+kernel
   rw[e] at this;cases this
  rw[zqT (by rw[zak];lia)]
  simpa using h1
theorem ad0{x:V}{u6 u7:Option V}{kn:Nat}(hx:x=.str ⟨tl.toArray⟩)(S:bG K C H0 H sc hp rw ns M Ed 0 m m m tl last)(DL:kn<=m)(h0:0<m)(q:∀H',Q (.bl true) H'):
  aE (GL K C CP E) (b_.drop 7) (Dn Q) [some<|.ref sc,some x,some<|.int (m:Nat),some<|.ref rw,some<|.ref hp,some<|.int (kn:Nat),u6,u7] H:=by
 subst hx;have l2:=S.lt;have lt:(⟨tl.toArray⟩:Str).length=tl.length:=by show tl.toArray.size=_;rw[zae]
 have e0:(0:Int)=((0:Nat):Int):=rfl;refine bK<|iI<|jx (yR K C) rfl<|ax<|af rfl<|ax<|af rfl<|ax<|af rfl<|ax<|af rfl<|aK ⟨H0,sc,hp,rw,ns,M,Ed,0,m,m,kn,tl,last,rfl,S,DL,h0,fun H1 s1=>iH<|iF (cQ ?_) rfl⟩;have S1:=S.same s1;refine N9 (d1:=0) (d2:=kn) S1 (zqZ _) DL (fun Q1 H1 q1=>aA q1) (fun Q1 H1 q1=>af rfl q1) fun u6 qA H2 S2=>?_;refine bC<|dw<|ax<|kW<|ax<|aA<|ax<|aA<|aK ⟨d4,fun t1 f1=>?_⟩;refine ax<|kW<|ax<|aA<|ax<|aA<|aK ⟨d4,fun t2 f2=>?_⟩;refine ax<|kW<|ax<|aA<|ax<|fI<|af rfl ⟨by rw[lt];exact cU (by lia),aK ⟨d4,fun t3 f3=>aK ⟨yU,fun l fl=>?_⟩⟩⟩
 rw[lt] at fl⊢;have w1:=sameNew (o:=.tup [V.str "keep",V.int 1]) f1;have w2:=sameNew (o:=.tup [V.str "put",V.str "+"]) f2;have w3:=sameNew (o:=.tup [V.str "keep",V.int (tl.length:Nat)]) f3;have w4:=sameNew (o:=.lst [V.ref t1,V.ref t2,V.ref t3]) fl;have k1:=w4 _ _ (w3 _ _<|w2 _ _<|aw (H:=H2) (a:=t1) (o:=.tup [V.str "keep",V.int 1]));have k2:=w4 _ _ (w3 _ _<|aw (a:=t2) (o:=.tup [V.str "put",V.str "+"]));have k3:=w4 _ _ (aw (a:=t3) (o:=.tup [V.str "keep",V.int (tl.length:Nat)]));have s4:=((w1.trans w2).trans w3).trans w4;have hl:=aw (H:=upd (upd (upd H2 t1<|.tup [V.str "keep",V.int 1]) t2<|.tup [V.str "put",V.str "+"]) t3 (.tup [V.str "keep",V.int (tl.length:Nat)])) (a:=l) (o:=.lst [V.ref t1,V.ref t2,V.ref t3]);generalize upd (upd (upd (upd H2 t1<|.tup [V.str "keep",V.int 1]) t2<|.tup [V.str "put",V.str "+"]) t3<|.tup [V.str "keep",V.int (tl.length:Nat)]) l (.lst [V.ref t1,V.ref t2,V.ref t3])=H4 at k1 k2 k3 s4 hl⊢;have S4:=S2.same s4;have arg:∀{Q1:VK},(∀c,H4 c=none->Q1 (.ref c) (upd H4 c<|.lst (V.ref t1::V.ref t2::(if tl.length=0 then [] else [V.ref t3]))))->ae (GL K C CP E) (.sl (.v 7) none<|some<|.bin .Add (.c<|.int 2)<|.blt .int [(.cmp .NotEq (.v 1)<|.c<|.str "")]) [some<|.ref sc,some<|.str ⟨tl.toArray⟩,some<|.int (m:Nat),some<|.ref rw,some<|.ref hp,some<|.int (kn:Nat),u6,some<|.ref l] H4 Q1:=fun {Q1} q1=>by
  refine Dx<|af rfl<|bU<|aA<|xx<|ax<|jX<|af rfl<|aA<|lh<|aK<|N3<|ib ⟨_,rfl,.inl ⟨_,au.of hl,fun c fc=>?_⟩⟩;rw[adZ,N4];exact q1 c fc
 obtain⟨dx,lo,pa,ed,be,lg,ob⟩:=S4.obj;refine bK<|ba<|ob.m1 (sp:=yH C) rfl rfl<|arg fun c fc=>?_
 have w5:=sameNew (o:=.lst (V.ref t1::V.ref t2::(if tl.length=0 then [] else [V.ref t3]))) fc
 have ch:bx (upd H4 c<|.lst (V.ref t1::V.ref t2::(if tl.length=0 then [] else [V.ref t3]))) c (fo tl.length) (tx 0 tl kn) (tx 1 tl kn):=
  ⟨_,aw,N5 (p:=.keep 1) (q:=.put "+") (w5 _ _ k1) (w5 _ _ k2)<|w5 _ _ k3,(yM _).1,(yM _).2,NN (fs kn) tl⟩
 refine adV (S4.same w5) ch fun M' dz H6 S6 r6=>aA (ac0 ⟨_,rfl,iF (cQ ?_) rfl⟩);refine Du<|aA<|af rfl<|aA ⟨rw,_,rfl,kx.k (k:=.inr "foreign") r6 (by show 3<sizeLine;decide),?_⟩
 have ep:putK (cR tl 0 kn) (.inr "foreign") (.int 1)=cR tl 1 kn:=ac4 (j:=1);rw[ep];generalize upd H6 rw (.dK<|cR tl 1 kn)=H7 at S6⊢;refine bK<|iI<|jx (yR K C) rfl<|ax<|af rfl<|ax<|af rfl<|ax<|af rfl<|ax<|af rfl<|aK ⟨H0,sc,hp,rw,ns,M',dz,1,kn,m,kn,tl,qA,rfl,S6,DL,h0,fun H8 s8=>iH<|iF (cQ ?_) rfl⟩;have S8:=S6.same s8;refine N9 (d1:=0) (d2:=m) S8 (zqZ _) (zqR _) (fun Q1 H1 q1=>aA q1) (fun Q1 H1 q1=>af rfl q1) fun u6 ad1 H9 S9=>?_;refine cP<|n_<|cC (yQ K C) rfl<|ax<|af rfl<|ax<|af rfl<|aK ⟨H0,sc,hp,rw,ns,M',dz,1,m,m,tl,ad1,rfl,S9,h0,fun agc HA SA=>⟨_,rfl,iT ?_ rfl⟩⟩;obtain⟨dxA,loA,paA,edA,beA,lgA,N_⟩:=SA.obj;refine jX<|N_.m0 (sp:=lE C) rfl rfl ⟨hp,dxA,loA,paA,edA,beA,lgA,m,_,_,rfl,N_,bU<|af rfl<|aA<|ib<|j_ ?_⟩
 rw[eR,zqT (by lia)]
 exact q _
theorem Oa{m:Nat}(hx:∀c∈tl,gk c)(hl:tl.length<=20)(ha:au K H sc (ns.map V.int))(h0:0<m)(hm:m<=1200)(q:∀H',Q (.bl true) H'):
  aE (GL K C CP E) (b_.drop 3) (Dn Q) [some<|.ref sc,some<|.str ⟨tl.toArray⟩,some<|.int (m:Nat),none,none,none,none,none] H:=by
 have lt:(⟨tl.toArray⟩:Str).length=tl.length:=by show tl.toArray.size=_;rw[zae]
 refine bC<|Nu fun rw fr=>ax (aA<|ax<|af rfl<|ax<|aA<|ax<|aA<|ax<|aA<|ax<|aA<|aK ⟨aw,cR tl 0 0,rfl,by show 3<=15;decide,?_⟩)
 rw[adU];have er:upd (upd H rw (.dK [])) rw (.dK<|cR tl 0 0) rw=some (.dK<|cR tl 0 0):=aw;have s1:ay H (upd (upd H rw (.dK [])) rw (.dK<|cR tl 0 0)):=fun y o e=>by rw[aF<|bf e fr,aF<|bf e fr];exact e
 generalize upd (upd H rw (.dK [])) rw (.dK<|cR tl 0 0)=H1 at er s1⊢;refine bC<|xM C (Df C CP) rfl<|bU<|aA<|fI<|af rfl ⟨by rw[lt];exact cU (by lia),ib fun p dx fp fx jf=>?_⟩
 rw[lt];have s2:ay H1 (upd (upd H1 dx<|.own p) p<|.ins C dx []):=fun y o e=>by rw[aF<|bf e fp,aF<|bf e fx];exact e
 refine⟨p,dx,_,rfl,aw,.inl ⟨tx 0 tl 0,2,?_,fun M H3 b3 fM hi=>⟨rfl,?_⟩⟩⟩
 ·rw[sy,zbg];rfl
 have s3:ay H1 H3:=fun y o e=>b3 _ _ (s2 _ _ e) (bf e fp);have Ob:∀y∈M,H1 y=none:=fun y hy=>by
  by_cases z:y=p
  ·rw[z];exact fp
  ·exact s2.free (fM y hy z)
 have S:bG K C H H3 sc p rw ns M [] 0 0 0 0 tl [none]:=by
  refine⟨ha,s1.trans s3,fun y hy=>s1.free<|Ob y hy,fr,hi,fun i a e=>?_,s3 _ _ er,fun hm=>?_,hx,hl,by decide,by decide⟩
  ·cases e
  ·have:=Ob rw hm;rw[er] at this;cases this
 refine bK<|mJ<|iI<|jx (DJ K C) rfl<|ax<|af rfl<|ax<|af rfl<|ax<|af rfl<|aK ⟨H,sc,p,rw,ns,M,[],m,tl,[none],rfl,S,hm,fun M' dz cY H4 S4=>iH<|iF ?_ rfl⟩;refine iI<|jx (yQ K C) rfl<|ax<|af rfl<|ax<|af rfl<|aK ⟨H,sc,p,rw,ns,M',dz,0,m,m,tl,cY,rfl,S4,h0,fun agd H5 S5=>iH<|iF (cQ ?_) rfl⟩;refine bC<|bU<|vd S5.ha 3 rfl (by decide)<|bU<|af rfl<|aA<|ib<|sx (by lia) ?_
 obtain⟨kn,ek⟩:=zbR (zbS (cell ns (3:Int).toNat) (show((m:Nat):Int)+1≠0 by lia))
 have hk:=zbT (cell ns (3:Int).toNat) (show(0:Int) < ((m:Nat):Int)+1 by lia)
 rw[ek];exact ad0 rfl S5 (by lia) h0 q
theorem ad8(vs:List V)(H:Hp)(Q:VK)(E:XK)(hh:yS K vs H Q E):aE (GL K C CP E) b_ (Dn Q) (start gb vs) H:=by
 obtain⟨sc,ns,rfl,ha,q⟩:=hh;obtain⟨k,ek⟩:=zbR (zbS (cell ns (0:Int).toNat) (show(21:Int)≠0 by decide))
 have hk:=zbT (cell ns (0:Int).toNat) (show(0:Int) <21 by decide)
 obtain⟨tl,et,lt,hs⟩:=adY k (by lia)
 refine bC<|Dx<|aA<|bU<|vd ha 0 rfl (by decide)<|aA<|sx (by decide) ⟨_,rfl,by decide+kernel,?_⟩
 rw[ek,et];have m60:=zbS (cell ns (1:Int).toNat) (show(60:Int)≠0 by decide)
 have l60:=zbT (cell ns (1:Int).toNat) (show(0:Int) <60 by decide)
 have m40:=zbS (cell ns (1:Int).toNat) (show(40:Int)≠0 by decide)
 have l40:=zbT (cell ns (1:Int).toNat) (show(0:Int) <40 by decide)
 obtain⟨a,ea⟩:=zbR m60;obtain⟨b,eb⟩:=zbR m40;refine bC<|bU<|aA<|bU<|vd ha 1 rfl (by decide)<|aA<|sx (by decide)<|ib ?_
 rw[ea,show(1:Int)+((a:Nat):Int)=((1+a:Nat):Int) by lia]
 refine bK<|ba<|bU<|vd ha 2 rfl (by decide)<|aA<|sx (by decide)<|aA<|j_ ⟨_,rfl,jE (fun _=>?_)<|fun _=>cQ<|Oa hs lt ha (by lia) (by lia) q⟩
 refine bC<|bU<|aA<|bU<|vd ha 1 rfl (by decide)<|aA<|sx (by decide)<|ib ?_
 rw[eb,show(1100:Int)+((b:Nat):Int)=((1100+b:Nat):Int) by lia]
 exact cQ<|Oa hs lt ha (by lia) (by lia) q
end
end L2.mi
namespace L2
open PySem PySem.Spec PyProof.Rows
open PySem.W (Frag nsIn findIn isFn keepIn codeIn fnOf mg_of mg_none_of)
def iL(st:Stmt):List Str:=(iQ st).args.map (·.arg)
structure Top (P:Program) (w:World) (K:Frag) (mg:Str->Option Value) (base:Heap):Prop where
 X:K.In base
 G:base.Ns mainGlobals mg
def cm(K:Frag)(x:Str)(st:Stmt):Prop:= ∃f fd,nsIn K mainGlobals x=some (some<|.ref f)/\oQ K x x st f fd
def dA(K:Frag)(C:Addr)(x q:Str)(st:Stmt):Prop:= ∃f fd,findIn K (.ref C) x=some (some<|.ref f)/\isFn K (.ref f)=true/\oQ K x q st f fd
structure yT (K:Frag) (x:Str) (C:Addr):Prop where
 g:nsIn K mainGlobals x=some (some<|.ref C)
 m:makesIn K C=true
 k:keepIn K (.ref C)=true
structure mR (K:Frag) (p:Str×V):Prop where
 ex:∃u,nsIn K mainGlobals p.1=some (some u)/\RelV p.2 u
structure sD (K:Frag) (p:Str×Addr):Prop where
 g:nsIn K mainGlobals p.1=some (some<|.ref p.2)
 x:PySem.W.excIn K p.2 [.type "ValueError",.type "Exception",.type "BaseException",.type "object"] "ValueError.__new__"=true
section
variable {P:Program}{w:World}{K:Frag}{mg:Str->Option Value}{base:Heap}{x q:Str}{st:Stmt}{f C:Addr}{fd:FuncData}{k:Nat}{sp:Sp}
theorem dfk{oc:Value}{od an:Option Addr}{iO:Array (Option Value)}{kV doc pm bz ct:Value}(a:nsIn K mainGlobals x=some (some<|.ref f))(l:K.lookup f=some ⟨oc,od,.func<|fnOf x x (iQ st) (fR st) (fj st) .none kV doc pm an bz ct,iO⟩)
  (c:codeIn K bz x=true) (k:keepIn K (.ref f)=true):cm K x st:=⟨f,_,a,Ff l c k⟩
theorem dmk{oc:Value}{od an:Option Addr}{iO:Array (Option Value)}{kV doc pm bz ct:Value}(a:findIn K (.ref C) x=some (some<|.ref f))(i:isFn K (.ref f)=true)(l:K.lookup f=some ⟨oc,od,.func<|fnOf x q (iQ st) (fR st) (fj st) .none kV doc pm an bz ct,iO⟩)
  (c:codeIn K bz q=true) (k:keepIn K (.ref f)=true):dA K C x q st:=⟨f,_,a,i,Ff l c k⟩
theorem aec{t:Tok}(h:nsIn K mainGlobals x=some (some<|.str y t)):mR K (x,.str y):=⟨_,h,⟨_,rfl⟩⟩
theorem aed{y:Addr}(h:nsIn K mainGlobals x=some (some<|.ref y)):mR K (x,.ref y):=⟨_,h,rfl⟩
theorem aee(h:findIn K (.ref C) y=some none):eW K C y:=h
theorem Top.gv{p:Str×V}(Z:Top P w K mg base)(h:mR K p):AJ mg p:=by
 obtain⟨u,a,b⟩:=h.ex;exact⟨u,mg_of Z.X Z.G a,b⟩
theorem Top.no(Z:Top P w K mg base)(h:nsIn K mainGlobals x=some none):mg x=none:=mg_none_of Z.X Z.G h
theorem Top.exc{p:Str×Addr}(Z:Top P w K mg base)(h:sD K p):wD mg base p:=aar Z.X Z.G h.g h.x
structure lL (P:Program) (w:World) (K:Frag) (mg:Str->Option Value) (base:Heap) (k:Nat) (st:Stmt) (sp:Sp):Prop where
 ok:∀{x q:Str}{f:Addr}{fd:FuncData},oQ K x q st f fd->cE P w K mg base (g6 P w) k f fd (iL st) sp
theorem lL.or{a b:Sp}(A:lL P w K mg base k st a)(C:lL P w K mg base k st b):lL P w K mg base k st (B.xv a b):=⟨fun F=>(A.ok F).or<|C.ok F⟩
theorem aef{N P:List Str}{sc:Scope}(a:sc.kind=.function:=by kernel_rfl)(b:sc.isCoroutine=false:=by kernel_rfl)(c:sc.isGenerator=false:=by kernel_rfl)(d:N.Nodup:=by decide+kernel)(e:N.take P.length=P:=by kernel_rfl)(f:∀x∈P,sc.names.lookup x=some .local\/sc.names.lookup x=some .cell:=by decide+kernel)(g:∀y∈sc.names,y.2≠ .free:=by decide+kernel):sN N P sc:=⟨a,b,c,d,e,f,g⟩
theorem dL{N N0 bl:List Str}{tab:List (Str×Sp)}{gt:List (Str×V)}{dk:List (Addr×List (Key×V))}{mt kt:List (Str×Addr×Sp)}{et:List (Str×Addr)}{ht:List (Str×Sp)}{body:List RS}(Z:Top P w K mg base)
  (AU:∀vs H Q E,sp vs H Q E->aE (aO K tab gt dk mt kt et ht E) body {nx:=fun _ H'=>Q .aC H',rt:=Q} (start N0 vs) H)
  (hm:∀{CX:bZ}{Γ:bj}{X:Cx},fW CX (wC N (fj st) (tab.map (·.1)) (gt.map (·.1)) bl (mt.map (·.1)) (kt.map (·.1)) (et.map (·.1)) (ht.map (·.1))) Γ X->eU X (fR st) (aE Γ body)) (k:Nat)
  (len:∀vs H Q E,sp vs H Q E->vs.length=(iL st).length:=by intro _ _ _ _ h;repeat (first|(obtain⟨rfl,_⟩:=h;kernel_rfl)|(obtain⟨_,h⟩:=h)))
  (AL:∀p∈tab,kO P w K mg base k p.1 p.2:=by repeat (first|exact nX|refine nY (kO.mono (by assumption) (by first|decide|lia)) ?_))
  (AM:∀p∈gt,AJ mg p:=by repeat (first|exact nX|refine nY (Top.gv (by assumption) (by assumption)) ?_))
  (AN:∀y∈bl,mg y=none:=by repeat (first|exact nX|refine nY (Top.no (by assumption) (by assumption)) ?_))
  (AO:∀q∈dk,wB P w K q:=by repeat (first|exact nX|refine nY (by assumption) ?_))
  (AQ:∀p∈mt,gA P w K mg base k p:=by repeat (first|exact nX|refine nY (gA.mono (by assumption) (by first|decide|lia)) ?_))
  (AR:∀p∈kt,ph P w K mg base k p:=by repeat (first|exact nX|refine nY (ph.mono (by assumption) (by first|decide|lia)) ?_))
  (het:∀p∈et,wD mg base p:=by repeat (first|exact nX|refine nY (Top.exc (by assumption) (by assumption)) ?_))
  (AS:∀p∈ht,AK P w K mg base k p.1 p.2:=by repeat (first|exact nX|refine nY (AK.mono (by assumption) (by first|decide|lia)) ?_))
  (S:sN N (iL st) (fj st):=by exact aef) (hN:N0.length=N.length:=by kernel_rfl):lL P w K mg base (k+1) st sp:=
 ⟨fun F=>UQ F S tab gt bl mt kt et ht body hm AL AM AN dk AO AQ AR het AS len fun vs H Q E h=>by
  have r:=AU vs H Q E h;unfold start at r⊢;rw[hN] at r;exact r⟩
def Bd(x q:Str)(st:Stmt):Prop:= ∀(kV doc pm:Value) (an:Option Addr) (bz ct:Value) (us:List Value),us.length=(iL st).length->bindArgs (fnOf x q (iQ st) (fR st) (fj st) .none kV doc pm an bz ct) ⟨us,[]⟩=pure ((iL st).zip us)
theorem aeg(hp:(iL st).length=1)(h:∀(kV doc pm:Value) (an:Option Addr) (bz ct a0:Value),bindArgs (fnOf x q (iQ st) (fR st) (fj st) .none kV doc pm an bz ct) ⟨[a0],[]⟩=pure ((iL st).zip [a0])):Bd x q st:=fun kV doc pm an bz ct us hl=>by
 have e:=hl.trans hp;rcases us with _|⟨a0,_|⟨_,_⟩⟩ <;>first|exact h kV doc pm an bz ct _|exact absurd e (by simp)
theorem aeh(hp:(iL st).length=2)(h:∀(kV doc pm:Value) (an:Option Addr) (bz ct a0 a1:Value),bindArgs (fnOf x q (iQ st) (fR st) (fj st) .none kV doc pm an bz ct) ⟨[a0,a1],[]⟩=pure ((iL st).zip [a0,a1])):Bd x q st:=fun kV doc pm an bz ct us hl=>by
 have e:=hl.trans hp;rcases us with _|⟨a0,_|⟨a1,_|⟨_,_⟩⟩⟩ <;>first|exact h kV doc pm an bz ct _ _|exact absurd e (by simp)
theorem aei(hp:(iL st).length=3)(h:∀(kV doc pm:Value) (an:Option Addr) (bz ct a0 a1 a2:Value),bindArgs (fnOf x q (iQ st) (fR st) (fj st) .none kV doc pm an bz ct) ⟨[a0,a1,a2],[]⟩=pure ((iL st).zip [a0,a1,a2])):Bd x q st:=fun kV doc pm an bz ct us hl=>by
 have e:=hl.trans hp;rcases us with _|⟨a0,_|⟨a1,_|⟨a2,_|⟨_,_⟩⟩⟩⟩ <;>first|exact h kV doc pm an bz ct _ _ _|exact absurd e (by simp)
theorem aej(hp:(iL st).length=4)(h:∀(kV doc pm:Value) (an:Option Addr) (bz ct a0 a1 a2 a3:Value),bindArgs (fnOf x q (iQ st) (fR st) (fj st) .none kV doc pm an bz ct) ⟨[a0,a1,a2,a3],[]⟩=pure ((iL st).zip [a0,a1,a2,a3])):Bd x q st:=fun kV doc pm an bz ct us hl=>by
 have e:=hl.trans hp;rcases us with _|⟨a0,_|⟨a1,_|⟨a2,_|⟨a3,_|⟨_,_⟩⟩⟩⟩⟩ <;>first|exact h kV doc pm an bz ct _ _ _ _|exact absurd e (by simp)
theorem DM(hb:Bd x q st:=by first|exact aeg (by kernel_rfl) fun _ _ _ _ _ _ _=>rfl|exact aeh (by kernel_rfl) fun _ _ _ _ _ _ _ _=>rfl|exact aei (by kernel_rfl) fun _ _ _ _ _ _ _ _ _=>rfl|exact aej (by kernel_rfl) fun _ _ _ _ _ _ _ _ _ _=>rfl|exact agg (by kernel_rfl) fun _ _ _ _ _ _ _ _ _ _ _=>rfl|exact agh (by kernel_rfl) fun _ _ _ _ _ _ _ _ _ _ _ _=>rfl|exact agi (by kernel_rfl) fun _ _ _ _ _ _ _ _ _ _ _ _ _=>rfl|exact agj (by kernel_rfl) fun _ _ _ _ _ _=>rfl):Bd x q st:=hb
theorem dT(Z:Top P w K mg base)(D:cm K x st)(R:lL P w K mg base k st sp)(hb:Bd x x st:=by exact DM):kO P w K mg base k x sp:=by
 obtain⟨f,fd,a,F⟩:=D;exact⟨f,fd,_,R.ok F,mg_of Z.X Z.G a,F.kp,F.binds hb⟩
theorem dM(D:dA K C x q st)(c:fh K C)(R:lL P w K mg base k st sp)(hb:Bd x q st:=by exact DM):gA P w K mg base k (x,C,sp):=by
 obtain⟨f,fd,a,i,F⟩:=D;exact⟨c,f,fd,_,⟨a,i,F.kp⟩,R.ok F,F.binds hb⟩
theorem dI{cn:Str}(Z:Top P w K mg base)(D:dA K C "__init__" q st)(M:yT K cn C)(R:lL P w K mg base k st sp)(hb:Bd "__init__" q st:=by exact DM):ph P w K mg base (k+1) (cn,C,sp):=by
 obtain⟨f,fd,a,i,F⟩:=D;exact⟨k,f,fd,_,zqR _,⟨M.m,a,i,M.k⟩,R.ok F,mg_of Z.X Z.G M.g,F.binds hb⟩
theorem gA.l{a b:Sp}(T:gA P w K mg base k (x,C,B.xv a b)):gA P w K mg base k (x,C,a):=T.weak fun _ _ _ _ h=>.inl h
theorem gA.r{a b:Sp}(T:gA P w K mg base k (x,C,B.xv a b)):gA P w K mg base k (x,C,b):=T.weak fun _ _ _ _ h=>.inr h
theorem aek{h:Heap}{fa:Addr}(X:K.In h)(G:h.Ns mainGlobals mg)(mF:mg x=some (.ref fa))(D:cm K x st)
  (R:∀base,Top P w K mg base->lL P w K mg base k st sp) (hp:iL st=[y]:=by kernel_rfl)
  (hb:∀(kV doc pm:Value) (an:Option Addr) (bz ct a0:Value),bindArgs (fnOf x x (iQ st) (fR st) (fj st) .none kV doc pm an bz ct) ⟨[a0],[]⟩=pure [(y,a0)]:=by exact fun _ _ _ _ _ _ _=>rfl):
  ∃fd:FuncData,(∀(s:Shared) (v:Value),BindsTo s fd ⟨[v],[]⟩ [(y,v)])/\∀base:Heap,K.In base->base.Ns mainGlobals mg->cE P w K mg base sU k fa fd [y] (fun vs H Q _=>sp vs H Q E0):=by
 obtain⟨f,fd,e,F⟩:=D;cases mF.symm.trans (mg_of X G e);have F':=F;obtain⟨oc,od,kV,doc,pm,an,bz,ct,iO,rfl,lk,kq⟩:=F'.ex;refine⟨_,fun s v=>.of_eq<|hb kV doc pm an bz ct v,fun base X2 G2=>?_⟩;have r:=(R base ⟨X2,G2⟩).ok F;rw[hp] at r;exact cE.top r
end
end L2
namespace L2.mi
open PySem PySem.Spec PyProof.Rows L2.B
theorem all_mk{P:Program}{w:World}{K:Frag}{h:Heap}{mg:Str->Option Value}{fa qB eT DN qC DO ve DP:Addr}(X:K.In h)(G:h.Ns mainGlobals mg)(mF:mg "law"=some (.ref fa))
  {ael:Nat}{aem aen aeo aep aeq aer:Tok}
  (agk:mR K ("BadChange",.ref DN))
  (agl:mR K ("BadFit",.ref qC))
  (agm:mR K ("NoPlace",.ref DO))
  (agn:mR K ("NoNode",.ref ve))
  (aes:yT K "Walk" qB)
  (aet:yT K "History" eT)
  (mS:ni K qB)
  (cp:dU K eT)
  (ago:sD K ("BadChange",DN))
  (agp:sD K ("BadFit",qC))
  (agq:sD K ("NoPlace",DO))
  (agr:sD K ("NoNode",ve))
  (a0:cm K "is_whole" IQ)
  (a1:cm K "is_between" IS)
  (a2:cm K "is_word" IT)
  (a3:cm K "is_text" IU)
  (a4:cm K "is_part" IV)
  (a5:cm K "may_follow" IW)
  (a6:cm K "need_change" IX)
  (a7:cm K "part_size" IY)
  (a8:cm K "sizes" IZ)
  (a9:dA K qB "__init__" "Walk.__init__" I_)
  (a10:dA K qB "word" "Walk.word" Ja)
  (a11:dA K qB "left" "Walk.left" Jb)
  (a12:dA K qB "take" "Walk.take" Jc)
  (a13:cm K "add_keep" Jd)
  (a14:cm K "add_texts" Je)
  (a15:cm K "neat" Jf)
  (a16:cm K "back" Jg)
  (a17:cm K "cut_behind" Jh)
  (a18:cm K "parts_behind" Ji)
  (a19:cm K "then" Jj)
  (a20:cm K "put_first" Jk)
  (a21:cm K "share" Jl)
  (a22:cm K "passed" Jm)
  (a23:cm K "joined_all" Jo)
  (a24:dA K eT "__init__" "History.__init__" Jp)
  (a25:dA K eT "need_node" "History.need_node" Jq)
  (a26:dA K eT "need_over" "History.need_over" Jr)
  (a27:dA K eT "now" "History.now" Jt)
  (a28:dA K eT "many" "History.many" Ju)
  (a29:dA K eT "parent" "History.parent" Jv)
  (a30:dA K eT "children" "History.children" Jx)
  (a31:dA K eT "size" "History.size" Jy)
  (a32:dA K eT "do" "History.do" Jz)
  (a33:dA K eT "edge" "History.edge" JA)
  (a34:dA K eT "along" "History.along" JC)
  (a35:dA K eT "undo" "History.undo" JD)
  (a36:dA K eT "redo" "History.redo" JE)
  (a37:dA K eT "go" "History.go" JF)
  (a38:dA K eT "upward" "History.upward" JG)
  (a39:dA K eT "way" "History.way" JH)
  (a40:dA K eT "neighbours" "History.neighbours" JI)
  (a41:dA K eT "foreign" "History.foreign" JJ)
  (a42:cm K "_law_cell_at" JK)
  (a43:cm K "_law_part" JL)
  (a44:cm K "_law_done" JM)
  (a45:cm K "_law_leads" JN)
  (a46:cm K "_law_first" JQ)
  (a47:cm K "_law_text" JU)
  (a48:cm K "_law_went" JY)
  (a49:cm K "_law_made" J3)
  (a50:cm K "_law_asked" J6)
  (a51:cm K "_law_stepped" J9)
  (a52:cm K "law" cy)
  (ags:mR K ("SIGNS",.str SG))
  (agt:mR K ("WAYS_BACK",.ref DP))
  (afa:K.lookup DP=some ⟨.type "dict",none,.dict #[⟨PyData.keyHash w.params "keep",.str "keep" aem,.str "keep" aen⟩,⟨PyData.keyHash w.params "cut",.str "cut" aeo,.str "put" aep⟩,⟨PyData.keyHash w.params "put",.str "put" aeq,.str "cut" aer⟩] ael,#[]⟩)
  (agu:nsIn K mainGlobals "bool"=some none)
  (agv:nsIn K mainGlobals "int"=some none)
  (agw:nsIn K mainGlobals "isinstance"=some none)
  (agx:nsIn K mainGlobals "len"=some none)
  (agy:nsIn K mainGlobals "list"=some none)
  (agz:nsIn K mainGlobals "min"=some none)
  (agA:nsIn K mainGlobals "range"=some none)
  (agB:nsIn K mainGlobals "reversed"=some none)
  (agC:nsIn K mainGlobals "str"=some none)
  (agD:nsIn K mainGlobals "sum"=some none)
  (agE:nsIn K mainGlobals "tuple"=some none)
  (agF:nsIn K mainGlobals "zip"=some none)
  :∃fd:FuncData,(∀(s:Shared) (v:Value),BindsTo s fd ⟨[v],[]⟩ [("_law_script",v)])/\∀base:Heap,K.In base->base.Ns mainGlobals mg->cE P w K mg base sU 10 fa fd ["_law_script"] (fun vs H Q _=>(yS K) vs H Q E0):=by
 have agG:wB P w K (DP,WB):=aaq afa (.cons ⟨_,rfl⟩<|.cons ⟨_,rfl⟩<|.cons ⟨_,rfl⟩ .nil) (by decide)
 refine aek X G mF a52 fun base Z=>?_;have T0:=dT Z a0 (dL Z YU @Wn 0);have T1:=dT Z a1 (dL Z aas @Wo 1);have T2:=dT Z a2 (dL Z YW @Wq 0);have T3:=dT Z a3 (dL Z YV @Wr 0);have T4:=dT Z a4 (dL Z YY @Ws 1);have agH:=T4.weak (a:=pK) fun _ _ _ _ h=>Y0 h;have T5:=dT Z a5 (dL Z XR @Wt 0);have T6:=dT Z a6 (dL Z (XZ (et:=[("BadChange",DN)])) @Wu 2);have T7:=dT Z a7 (dL Z XS @Wv 0);have T8:=dT Z a8 (dL Z X1 @Ww 3);have T9:=dI Z a9 aes (dL Z (Y5 mS) @Wx 0);have T10:=dM a10 mS.cl (dL Z (Y6 mS) @Wy 0);have T11:=dM a11 mS.cl (dL Z (Y7 mS) @Wz 1);have agJ:=T11.weak (a:=kZ qB) fun _ _ _ _ h=>Y8 h;have T12:=dM a12 mS.cl (dL Z (Y9 mS) @WA 2);have T13:=dT Z a13 (dL Z X8 @WC 0);have T14:=dT Z a14 (dL Z X5 @WD 0);have T15:=dT Z a15 (dL Z Yc @WE 1);have T16:=dT Z a16 (dL Z YB @WG 3);have T17:=dT Z a17 (dL Z (Zf (et:=[("BadFit",qC)])) @WH 0);have T18:=dT Z a18 (dL Z Zh @WI 3);have T19:=dT Z a19 (dL Z (Zy (et:=[("BadFit",qC)]) mS) @WJ 4);have T20:=dT Z a20 (dL Z ZP @WK 3);have T21:=dT Z a21 (dL Z (ZR (et:=[("BadFit",qC)])) @WL 0);have T22:=dT Z a22 (dL Z (Z4 (et:=[("BadFit",qC)]) mS) @WM 4);have T23:=dT Z a23 (dL Z N.aaO @WN 5);have T24:=dI Z a24 aet (dL Z (N.abM cp) @WO 1);have T28:=dM a28 cp.cl (dL Z (N.aaS cp) @WT 0);have T25:=dM a25 cp.cl (dL Z N.aaT @WQ 2);have T26:=dM a26 cp.cl (dL Z (N.aa6 cp) @WR 4);have T27:=dM a27 cp.cl (dL Z (ac6 cp) @WS 0);have T29:=dM a29 cp.cl (dL Z (N.aaU (CN:=ve) cp) @WU 3);have T30:=dM a30 cp.cl (dL Z (ac7 (CN:=ve) cp) @WV 3);have T31:=dM a31 cp.cl (dL Z (N.aaV cp) @WW 3);have T32:=dM a32 cp.cl (dL Z (N.aa9 cp) @WX 5);have Oc:=dM a33 cp.cl (lL.or (dL Z (N.aa5 cp) @JB 4)<|dL Z (N.acg cp) @JB 4);have ag5:=Oc.l;have ag6:=Oc.r;have T34:=dM a34 cp.cl (dL Z (N.abo cp) @WY 6);have T35:=dM a35 cp.cl (dL Z (N.abH cp) @WZ 7);have T36:=dM a36 cp.cl (dL Z (N.abI cp) @W0 7);have T38:=dM a38 cp.cl (dL Z (N.aaY cp) @Xa 0);have T39:=dM a39 cp.cl (dL Z N.aa2 @Xb 3);have T37:=dM a37 cp.cl (dL Z (N.abK cp) @W_ 7);have T40:=dM a40 cp.cl (dL Z (N.aci cp) @Xd 0);have T41:=dM a41 cp.cl (dL Z (N.acP (CF:=qC) cp) @Xe 5);have T42:=dT Z a42 (dL Z XT @Xf 0);have T43:=dT Z a43 (dL Z N.ab9 @Xg 0);have T44:=dT Z a44 (dL Z N.aaB @Xh 0);have T45:=dT Z a45 (dL Z N.acb @Xi 1);have T46:=dT Z a46 (dL Z ac5 @Xj 0);have T47:=dT Z a47 (dL Z Bu @Xk 1);have T48:=dT Z a48 (dL Z ac8 @Xm 8);have T49:=dT Z a49 (dL Z adP @Xp 6);have T50:=dT Z a50 (dL Z adq @Xt 4);have T51:=dT Z a51 (dL Z (ac9 (CN:=ve)) @Xv 8);exact dL Z (ad8 (CP:=DO)) @XN 9
theorem walk{l:PySem.W.OpenLaw}{q:Program}{loose:List Str}{XP:(Str->Option Value)->Heap->Prop}{YP:World->Heap->Prop}{d:DefRec}{K:Params->Frag}(hn:l.most=some 63)(sR:d.params.defaults=[])
  (hY:∀(w:World) (h:Heap),YP w h->(K w.params).In h)
  (F:∀(w:World) (mg:Str->Option Value) (fa:Addr) (h:Heap),(K w.params).In h->h.Ns mainGlobals mg->mg d.name=some (.ref fa)->
   ∃fd:FuncData,(∀(s:Shared) (u:Value),BindsTo s fd ⟨[u],[]⟩ [("_law_script",u)])/\∀base:Heap,(K w.params).In base->base.Ns mainGlobals mg->cE l.prog w (K w.params) mg base sU 10 fa fd ["_law_script"] ((fun K=>(fun vs H Q _=>(yS K) vs H Q E0)) (K w.params))):
  PySem.W.WalkO q loose XP YP l.row.toRowW d [] (fun f vs=>PySem.call f vs):=
 L2.Q9 (n:=63) (k:=10) (x:="_law_script") (CX:=fun _=>sU) (sp:=fun w=>(fun K=>(fun vs H Q _=>(yS K) vs H Q E0)) (K w.params)) hn (by decide) sR ⟨rfl,by decide,by decide⟩ hY F (fun _ _ a ns hl _ hS=>⟨a,ns,rfl,hS,fun _=>rfl⟩) fun _ _ _ _ _ z=>z
end L2.mi
namespace PySem.W.Fast
def tw2035832059507481343:=()
def tw17996564726483678860:=()
def tw9100887589709280997:=()
def tw9030608280955788833:=()
def tw2534080740158391481:=()
def tw4525203980405340330:=()
def tw12481449111396074097:=()
def tw3725619445079124674:=()
def tw12914305352900877867:=()
def tw723180366576927874:=()
def tw2212764814976595408:=()
def tw9050963278553970830:=()
def tw11919424710421052479:=()
def tw15011459048818670579:=()
def tw6725867873180478059:=()
def tw5009456023771898756:=()
def tw16254185717258127649:=()
def tw8036208191693248289:=()
def tw10061698875279050734:=()
def tw292694874120807058:=()
def tw12343816029690316055:=()
def tw1027466489804584212:=()
def tw5529083161000663240:=()
def tw14964718784744999306:=()
def tw12353808833692214421:=()
def tw1540740943085110107:=()
def tw15317019519035590379:=()
def tw9825996528953570445:=()
def tw13760372534772268011:=()
def tw2673304743969188683:=()
def tw15561775372017803464:=()
def tw8187944030806789319:=()
def tw14634754568958130855:=()
def tw15536253898473241589:=()
def tw925680650991876976:=()
def tw3467440723426942676:=()
def tw15540458521765633968:=()
def tw17731292985239498765:=()
def tw12778112072272557840:=()
def tw2891313761837843822:=()
def tw13788095551877398041:=()
def tw12001807627427116438:=()
def tw10953667682670918889:=()
def tw16844778111059415581:=()
def tw3000255125670945663:=()
def tw18099491647632467590:=()
def tw7456160606053427853:=()
def tw11400110746171823699:=()
def tw1829810994725588704:=()
def tw4622293154180739463:=()
def tw15219919855856329166:=()
def tw6335092045803607684:=()
def tw10278856102718294662:=()
def tw9041171193402344196:=()
def tw10752964090191278062:=()
def tw7007444345763704689:=()
def tw9629185561507585161:=()
def tw17355978586913532039:=()
def tw1668747215071039885:=()
def tw5306781577967918883:=()
def tw16256084016714092325:=()
def tw9924484875560502669:=()
def tw14288593037385953514:=()
def tw6455819050157174736:=()
def tw8981698762333790975:=()
def tw8815341151300789906:=()
def tw3918670786014423576:=()
def tw11156730325229924127:=()
def tw17714690189466417803:=()
def tw4387710931810601225:=()
def tw521215233674810675:=()
def tw6672287536465647821:=()
def tw4715235626519395667:=()
def tw12758645340680751718:=()
def tw2383680509699265409:=()
def tw1060565566590218343:=()
def tw13752779739631336249:=()
def tw3498837476820331284:=()
def tw11945737890480935838:=()
def tw2059043197469473388:=()
def tw2793000112349798894:=()
def tw4892838583134416269:=()
def tw126909689607701753:=()
def tw14535726374458860193:=()
def tw10052353978417525248:=()
def tw1006080443466801417:=()
def tw11906794458135930177:=()
def tw7010253398387859559:=()
def tw5238466634502346862:=()
def tw2528522876599886830:=()
def tw8381269241721182648:=()
def tw4297780734929230823:=()
def tw8132347929339811979:=()
def tw16711493078008875490:=()
def tw2631584929850153310:=()
def tw14764003008854256429:=()
def tw15601395185802887685:=()
def tw4887690333212603066:=()
def tw11892610715860742248:=()
def tw2739439066571496746:=()
def tw7107289204665149890:=()
def tw12345946397826686577:=()
def tw3934684521688741537:=()
def tw2435948342395774182:=()
def tw16830408872130837226:=()
def tw9567348684128408745:=()
def tw2818998560324550898:=()
def tw10595405074627823859:=()
def tw9430402300871965910:=()
def tw17790304956194757205:=()
def tw16397115217312628833:=()
def tw7902449437181172004:=()
def tw18415829576304726263:=()
def tw13641144587072779383:=()
def tw17802174727056512939:=()
def tw7926648725534114938:=()
def tw317259986641998036:=()
def tw15050889929096893441:=()
def tw3336533878958831379:=()
def tw3938678345803005145:=()
def tw10826201751963633630:=()
def tw7185680894443961416:=()
def tw1635978678368788650:=()
def tw13783361169912982508:=()
def tw8781734409391481423:=()
def tw11323635650995685922:=()
def tw15698067585821664812:=()
def tw12354291450007298005:=()
def tw289233489209411545:=()
def tw17868065292346105011:=()
def tw7341278535243666768:=()
def tw16940099619593292508:=()
def tw72175315887872522:=()
def tw6666208085006489265:=()
def tw13290725306486361888:=()
def tw5943063279292164462:=()
def tw3438305097370353380:=()
def tw5875295183816686520:=()
def tw12259140534887725776:=()
def tw651174639077657256:=()
def tw14072909369441926270:=()
def tw18228138599093561046:=()
def tw3410058363329186265:=()
def tw14464477754880652988:=()
def tw11963401377665840490:=()
def tw18194709671875979430:=()
def tw12323664085449276936:=()
def tw13887608058039552939:=()
def tw1395631064339576529:=()
def tw9140619743515933394:=()
def tw1102085495282891969:=()
def tw4692343587225851385:=()
def tw15135470754784495292:=()
def tw6652847098091247997:=()
def tw11461136623589724574:=()
def tw3483372910827866189:=()
def tw9152616424348507548:=()
def tw4636455005686972964:=()
def tw17966581382120766380:=()
def tw73498365691269352:=()
def tw2192907644627978472:=()
def tw13972079932090253192:=()
def tw13816586041810560810:=()
def tw3588693543469039178:=()
def tw17596351931742710201:=()
def tw7839625429921160887:=()
def tw12978701987005629448:=()
end PySem.W.Fast
open PySem PySem.W PyProof.Rows
set_option maxRecDepth 100000 in
set_option maxHeartbeats 0 in
theorem PySem.Challenge.cw_inkloom_k48_long_rows_of_nodes_holds : PySem.Challenge.rw_inkloom_k48_long_rows_of_nodes.Holds := by
 w_on;o_law;k_head;(case hw=>w_witness2)
 k_fill
 refine L2.mi.walk (l:=PySem.Challenge.rw_inkloom_k48_long_rows_of_nodes) rfl rfl (fun w h Y=>PySem.W.kIn_of Y) ?F
 case F=>
  intro w mg fa h KX G sS
  refine' L2.mi.all_mk KX G sS ..
  all_goals try first | refine' L2.dfk .. | refine' L2.aed .. | refine' L2.yT.mk .. | refine' L2.dmk .. | refine' L2.aho .. | refine' L2.aec .. | refine' L2.sD.mk .. | refine' L2.B.ni.mk (L2.fh.mk ..) .. | refine' L2.B.dU.mk (L2.fh.mk ..) ..
  all_goals try refine' L2.aee ..
  all_goals try first | k_is | k_exc | kernel_rfl
